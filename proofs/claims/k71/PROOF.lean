import PyProof.Rows.All
import Wide.All
import OpenK.AllK
import Wide.FinOn
import Lean
import PyProof.EqAt
import PyProof.EqKinds
import PyProof.TupleCall
import KE.KRevSl
import KE.KDictSum
import KE.KEqDict
import PyProof.P3Eq
import KE.KTryMore
import KE.KSortTup
import PyProof.NeKinds
import KE.KLam
import PyProof.SetRoads
import KE.KIntText
import PyProof.DictValues
import PyProof.DictWalks
import KE.KItemsList
import PyProof.Toks
import PyProof.StrReplace2
import PyProof.StrLawsFirst
import KE.KMinKey
import PyProof.StrLawsTight
import PyProof.StrLawsIdx
import PyProof.Rows.StrSplitJoin
import PySem.Challenge.RW_parcelmend_k71_edits
import KE.RegKIsAll
import KE.RegKTryMore
noncomputable section
set_option Elab.async false
set_option linter.all false
set_option genInjectivity false
set_option genSizeOf false
set_option genSizeOfSpec false
set_option maxRecDepth 100000
section
open PyProof PyProof.Rows PySem PySem.AutoSeq1 PySem.Builtin PySem.Builtin.Getset_descriptor PySem.Builtin.ObjectAttr PySem.Builtin.Str PySem.Calls PySem.MeetsSeq PySem.MeetsSeq2 PySem.MeetsSeq3 PySem.SeqAt PySem.Spec PySem.W
def ae:=@wpAny_bind
def ag:=@if_neg
def ai:=@if_pos
def aj:=@List.length_map
def aq:=@wpAny_pure
def aG:=@Nat.le_refl
def aZ:=@List.mem_cons
def bD:=@List.mem_singleton
def bH:=@Heap.lt_size
def bI:=@List.length_append
def bL:=@List.mem_cons_self
def bN:=@decide_eq_true
def bR:=@List.mem_append
def bT:=@List.mem_cons_of_mem
def bV:=@List.map_cons
def b8:=@Nat.le_trans
def b9:=@Heap.get?_push_of_some
def cx:=@decide_eq_false
def cC:=@List.mem_map
def cH:=@of_decide_eq_true
def cT:=@List.length_cons
def cW:=@Bool.false_ne_true
def cX:=@Nat.ne_of_lt
def dg:=@List.getElem?_eq_some_iff
def dC:=@Nat.zero_le
def dL:=@Heap.get?_push_size
def dM:=@List.mem_of_getElem?
def dN:=@List.getElem?_map
def dP:=@List.map_append
def dZ:=@PassesOwn.never
def eJ:=@Array.length_toList
def eP:=@wpAny_mono
def eR:=@List.length_take
def eX:=@List.mem_append_right
def eZ:=@congrArg
def fc:=@List.not_mem_nil
def fe:=@or_false
def ff:=@List.take_length
def fw:=@Ne.symm
def gc:=@List.size_toArray
def ge:=@List.mem_map_of_mem
def gz:=@Nat.lt_of_lt_of_le
def gA:=@PySem.boot_len
def gM:=@Option.some.inj
def hX:=@List.getElem?_eq_getElem
def hZ:=@List.take_add_one
def iP:=@Bool.and_eq_true
def iQ:=@List.all_eq_true
def iR:=@wpAny_setState_of
def iS:=@PyProof.Rows.boot_list
def iT:=@PySem.F.plainAttrs_list
def jk:=@List.mem_filter
def jX:=@List.append_nil
def jY:=@wpAny_holding
def jZ:=@beq_iff_eq
def j0:=@List.length_drop
def j6:=@List.foldl_cons
def j7:=@List.append_assoc
def kU:=@Nat.ne_of_gt
def kW:=@List.length_singleton
def kX:=@List.length_nil
def kY:=@List.nodup_nil
def kZ:=@PySem.W.mg_of
def md:=@Sum.inr.inj
def me:=@Int.toNat_natCast
def mf:=@Heap.SameBut.update
def mh:=@not_or
def mi:=@List.map_map
def mj:=@PySem.F.plainAttrs_str
def mn:=@PySem.W.mg_none_of
def mT:=@if_false
def oq:=@wpAny_rule
def ou:=@wpAny_isInstance
def oA:=@Nat.lt_irrefl
def oC:=@PySem.W.kia_one
def oE:=@List.filter_cons
def qp:=@Bool.false_eq_true
def qr:=@wpAny_truthy_bool
def qt:=@codeAny_mono
def qv:=@Nat.le_succ
def qw:=@List.nodup_cons
def qx:=@Bool.eq_false_iff
def qy:=@Array.getElem?_eq_getElem
def qz:=@List.nodup_append
def qA:=@Array.getElem?_toList
def qB:=@codeAny_builtin
def qC:=@wpAny_askSetting
def qD:=@List.mem_flatMap
def qE:=@List.foldl_append
def qF:=@PySem.F.slot_list_extend
def qG:=@PySem.F.type_list_extend
def sK:=@wpAny_call_entry
def sL:=@sizeLine_eq
def sM:=@Heap.size_push
def sO:=@Bool.or_false
def sP:=@List.any_cons
def sT:=@List.find?_cons
def sU:=@Option.map_some
def sV:=@call_meetsIn
def sW:=@List.any_eq_true
def sX:=@plainId_quiet
def sY:=@List.cons.inj
def vc:=@if_true
def vd:=@List.mem_range
def ve:=@Nat.le_of_lt
def vf:=@List.mem_append_left
def vg:=@Bool.and_false
def vh:=@Nat.lt_trans
def vi:=@Int.emod_nonneg
def vj:=@Around.under_plainId
def vk:=@PySem.F.called_set
def vm:=@PyProof.Rows.boot_sorted
def vn:=@PySem.F.slot_list_append
def vo:=@PySem.F.type_list_append
def xB:=@beq_eq_false_iff_ne
def xC:=@wpAny_forIn_list
def xD:=@wpAny_seqItems
def xE:=@wpAny_passesOwn
def xF:=@Bool.eq_iff_iff
def xG:=@Nat.le_of_eq
def xH:=@Nat.lt_succ_self
def xI:=@List.length_filter_le
def xJ:=@PySem.F.plainAttrs_dict
def xK:=@Bool.true_and
def xL:=@PySem.W.kqd_eqv
def xM:=@List.length_eq_zero_iff
def xN:=@Bool.and_eq_true_iff
def xO:=@Int.emod_lt_of_pos
def xP:=@fits_of_scanBound
def xQ:=@PySem.F.plain_min_loop
def xR:=@decide_eq_decide
def xS:=@decide_eq_true_eq
def xT:=@List.flatMap_cons
def xU:=@PySem.F.slot_str_join
def xV:=@PySem.F.type_str_join
def AG:=@wpAny_specialOf
def AH:=@Bool.not_true
def AI:=@wpAny_Call_Name_kw
def AJ:=@PySem.mem_of_lookup
def AK:=@typeIs_str
def AL:=@Calls.callWith_builtin
def AM:=@List.cons_append
def AN:=@List.map_nil
def AO:=@PySem.F.slot_dict_get
def AQ:=@wpAny_newObj_type
def AR:=@List.drop_eq_nil_iff
def AS:=@List.mem_of_mem_drop
def AT:=@List.mem_of_mem_take
def AU:=@StrLaws.glued_eq_join
def AV:=@Heap.get?_update_self
def AW:=@wpAny_storeSet_of
def AX:=@wpAny_tryCatch
def AY:=@PyProof.Rows.boot_dict
def AZ:=@List.flatMap_append
def Eg:=@List.filterMap_cons
def Eh:=@wpAny_execs_nil
def Ei:=@Bool.false_and
def Ej:=@Calls.spliced_cons
def Ek:=@wpAny_call
def El:=@Option.isSome_iff_exists
def Em:=@List.getElem?_append_right
def En:=@List.all_cons
def Eo:=@Calls.evalArgs_plain
def Ep:=@Heap.get?_update_other
def Es:=@call_meets
def Et:=@Nat.zero_add
def Eu:=@Nat.mod_lt
def Ev:=@List.getElem_mem
def Ew:=@Heap.SameBut.refl
def Ex:=@wpAny_updateSeq
def Ey:=@Walks.list
def Ez:=@List.cons_ne_nil
def EA:=@List.filter_sublist
def L9:=@F.slot_tuple_hash
def Ma:=@Nat.add_assoc
def Mb:=@F.slot_tuple_eq
def Mc:=@wpAny_pyIter_list
def Me:=@PyProof.Rows.callWith_type1
def Mf:=@List.mem_filterMap
def Mg:=@Calls.spliced_nil
def Mh:=@PySem.W.callWith_K
def Mi:=@List.of_mem_zip
def Mj:=@Subscript_
def Ml:=@PySem.F.entry_dict_get
def Mm:=@Option.getD_some
def Mn:=@List.drop_eq_getElem_cons
def Mo:=@wpAny_dictEntries
def Mp:=@StrsAre.length
def Mq:=@entryFor_alias
def Mr:=@wpAny_typeOf
def Ms:=@Nat.add_zero
def Mt:=@Nat.not_lt_zero
def Mu:=@List.length_range
def Mw:=@List.mem_iff_getElem
def Mx:=@Array.getD_eq_getD_getElem?
def My:=@Obj.data_mapFields
def Mz:=@Nat.not_lt
def MA:=@List.getD_eq_getElem?_getD
def MB:=@wpAny_letGo
def ME:=@List.map_congr_left
def MF:=@PySem.F.slot_str_split
def MG:=@PySem.F.type_str_split
def MI:=@Nat.mul_le_mul_right
def MJ:=@Nat.succ_le_succ
def MK:=@List.filter_append
def ML:=@List.nil_append
def MM:=@of_decide_eq_false
def XA:=@wpAny_tupleItemsOf
def XB:=@Array.forIn_toList
def XC:=@isSubtype_tuple_tuple
def XD:=@List.zip_cons_cons
def XF:=@Paired.length
def XG:=@List.getElem?_set_self
def XH:=@List.getElem?_set_ne
def XI:=@wpAny_execs_cons
def XJ:=@PySem.W.plainGet_of
def XM:=@PySem.W.methodCall_KW
def XN:=@wpAny_standAt
def XO:=@PySem.W.cellsFrom_some
def XQ:=@List.getElem?_append_left
def XR:=@List.length_replicate
def XS:=@evalPart_none
def XT:=@slot_list_getitem
def XU:=@Bool.true_or
def XV:=@Option.isSome_map
def XW:=@wpAny_Call_method
def XX:=@Nat.lt_of_le_of_lt
def XY:=@List.lookup_cons
def XZ:=@List.length_reverse
def X2:=@List.map_take
def X3:=@List.take_of_length_le
def X4:=@Nat.succ_mul
def X5:=@List.find?_eq_none
def X6:=@wpAny_newList
def X7:=@Array.toArray_toList
def X8:=@Nat.lt_succ_of_lt
def X9:=@wpAny_pyIter_slot
def Ya:=@typeLookup_type
def Yb:=@builtinLookup_eq_fast
def Yc:=@isSubtype_type
def Yd:=@wpAny_ite_split
def Ye:=@codeAny_call_builtin
def Yf:=@looks_findIn
def Yg:=@Array.getElem?_eq_none
def Yh:=@wpAny_setField
def Yi:=@Bool.and_self
def Yj:=@sub_set_self
def Yk:=@PyProof.Rows.F.plain_set_update_loop
def Yl:=@F.slot_str_split
def Ym:=@F.entry_str_split
def Yn:=@F.args_str_split_2
def Yo:=@ne_true_of_eq_false
def Yp:=@PySem.F.entry_min_loop
def Yq:=@List.le_antisymm
def Yr:=@List.getElem?_inj
def Ys:=@List.take_zero
def Yt:=@List.lt_irrefl
def Yu:=@decide_eq_true_iff
def Yv:=@PyProof.Rows.boot_set
def Yw:=@Classical.byContradiction
def Yx:=@List.all_nil
def Yy:=@Bool.and_true
def Yz:=@List.getLast?_append
def YA:=@PyProof.Rows.boot_isinstance
def av7:=@Calls.Name_function_global
def av8:=@wpAny_isTrue_Compare1
def av9:=@List.getElem?_replicate
def awa:=@wpAny_newFunctionEnv_cells
def awb:=@subscriptTail_builtinR
def awc:=@wpAny_getItem_list_slice
def awd:=@wpAny_Call_method0_late
def awe:=@Option.map_eq_some_iff
def awf:=@PySem.F.slot_dict_pop
def awg:=@PySem.F.args_dict_get_2
def awh:=@PySem.F.args_dict_get_3
def awi:=@PySem.F.type_dict_get
def awj:=@wpAny_comprehension_free
def awk:=@List.take_eq_take_iff
def awl:=@PySem.F.slot_dict_setdefault
def awm:=@Option.map_eq_none_iff
def awn:=@Calls.call_function_entry
def awo:=@PySem.F.slot_dict_keys
def awp:=@PySem.F.slot_dict_itemiterator_iter
def awq:=@PySem.F.slot_dict_items
def awr:=@PySem.F.slot_dict_update
def aws:=@PySem.F.excBase_ValueError
def awt:=@List.getElem?_eq_none
def awu:=@List.length_eraseIdx_of_lt
def awv:=@Obj.isFreed_of_fields
def aww:=@PySem.F.slot_set_iter
def awx:=@filterMap_getElem?_range
def awy:=@PySem.F.plain_extend_loop
def awz:=@PySem.F.plain_list_iadd
def awA:=@List.length_pos_of_mem
def awB:=@PySem.F.plain_set_new
def awC:=@PyProof.Rows.F.entry_set_update_loop
def awD:=@Array.mem_of_getElem?
def awE:=@List.Perm.eq_of_pairwise
def awF:=@PySem.toDigits_len_ge
def awG:=@PyProof.Rows.boot_str
def awH:=@PySem.F.slot_str_startswith
def awI:=@PySem.F.type_str_startswith
def awJ:=@List.take_append_drop
def awK:=@List.perm_ext_iff_of_nodup
def awL:=@List.getLast?_singleton
def awM:=@PyProof.Rows.boot_all
end
abbrev Fg:=PySem.W.Frag
abbrev VP:=PySem.Value->PySem.Shared->Prop
abbrev Po:=List (PySem.Addr×PySem.Obj)
abbrev Mv:=PySem.Str->Option PySem.Value
abbrev Oi:=Option (List Int)
abbrev Ll:=List (List Int)
abbrev Ls:=List PySem.Str
abbrev Lw:=List PySem.Value
abbrev Av:=Array PySem.Value
abbrev Oa:=Option PySem.Addr
abbrev Fy:=PySem.FuncData
open PySem PySem.Spec PyProof.Rows
namespace L2
variable {α β:Type}{p:Pos}{C a f dx:Addr}{P:Program}{w:World}{vs us:Lw}{s s':Shared}{h' base:Heap}{es:List Expr}{A:Around}{E:VP}{u:Value}{M:Model}{n t':Nat}{e c tg:Expr}{ad:Po}{ch fp:List Addr}{N ps:Ls}{K:Fg}{body:List Stmt}{pl:Sem Bool}{mA mg:Mv}{kw:List (Str×Value)}{fd:Fy}{kindOf:Str->Option NameKind}
theorem aP{p q r:α->β->Prop}{C:Prop}(h:∃a b,p a b/\q a b/\r a b)(k:∀a b,p a b->q a b->r a b->C):C:=h.elim λa h=>h.elim λb h=>h.elim λx h=>h.elim λy z=>k a b x y z
abbrev ak:=Sum Int Str
def oF:ak->Value->Bool
 | .inl k,v=>Value.isInt k v
 | .inr x,v=>Value.isStrOf x v
def mo(w:World):ak->Int
 | .inl k=>hashInt k
 | .inr x=>hashStr w x
theorem jl:∀{k:ak}{v:Value},oF k v=true->(∃i t,k=Sum.inl i/\v=Value.int i t)\/(∃x t,k=Sum.inr x/\v=Value.str x t)
 | .inl i,v,h=>by
  obtain⟨t,e⟩:=Value.isInt_shape (k:=i) (v:=v) h;exact .inl ⟨i,t,rfl,e⟩
 | .inr x,v,h=>by
  obtain⟨t,e⟩:=Value.isStrOf_shape (x:=x) (v:=v) h;exact .inr ⟨x,t,rfl,e⟩
theorem YB(i:Int)(t:Tok):oF (.inl i) (.int i t)=true:=by simp[oF,Value.isInt]
theorem YC(x:Str)(t:Tok):oF (.inr x) (.str x t)=true:=by simp[oF,Value.isStrOf]
theorem YD(a b:Int):decide ((Sum.inl a:ak)=Sum.inl b)=(a == b):=by
 by_cases e:a=b
 . subst e;simp
 have h:¬(Sum.inl a:ak)=Sum.inl b:=λq=>e (Sum.inl.inj q);rw[cx h];exact(xB.mpr e).symm
theorem YE(a b:Str):decide ((Sum.inr a:ak)=Sum.inr b)=decide (a=b):=by
 by_cases e:a=b
 . subst e;simp
 have h:¬(Sum.inr a:ak)=Sum.inr b:=λq=>e (md q);rw[cx h,cx e]
theorem YF(a:Int)(b:Str):decide ((Sum.inl a:ak)=Sum.inr b)=false:=cx (λq=>nomatch q)
theorem YG(a:Str)(b:Int):decide ((Sum.inr a:ak)=Sum.inl b)=false:=cx (λq=>nomatch q)
def ce(prog:Program)(w:World):PySem.KeyKind prog w ak where
 is:=oF
 hash:=mo w
 inj:=λv a b O J=>by
  rcases jl O with⟨i,t,rfl,rfl⟩ | ⟨x,t,rfl,rfl⟩
  . rcases jl J with⟨j,u,rfl,e⟩ | ⟨y,u,rfl,e⟩
    . injection e with e1 _;rw[e1]
    exact nomatch e
  rcases jl J with⟨j,u,rfl,e⟩ | ⟨y,u,rfl,e⟩
  . exact nomatch e
  injection e with e1 _;rw[e1]
 byValue:=λk v h=>by
  rcases jl h with⟨i,t,rfl,rfl⟩ | ⟨x,t,rfl,rfl⟩<;>rfl
 pyHash:=λG h=>by
  rcases jl G with⟨i,t,rfl,rfl⟩ | ⟨x,t,rfl,rfl⟩
  . exact wpAny_pyHash_int h
  exact wpAny_pyHash_str h
 eqBool:=λU G h=>by
  rcases jl U with⟨i,t,rfl,rfl⟩ | ⟨x,t,rfl,rfl⟩
  . rcases jl G with⟨j,u,rfl,rfl⟩ | ⟨y,u,rfl,rfl⟩
    . rw[YD]at h;exact wpAny_eqBool_int h
    rw[YF]at h;exact SeqAt.EqAt.int_str i t y u _ _ _ _ h
  rcases jl G with⟨j,u,rfl,rfl⟩ | ⟨y,u,rfl,rfl⟩
  . rw[YG]at h;exact SeqAt.EqAt.str_int x t j u _ _ _ _ h
  rw[YE]at h;exact wpAny_eqBool_str h
 «strs»:=λk x t v h=>by
  rcases jl h with⟨i,u,rfl,e⟩ | ⟨y,u,rfl,e⟩
  . exact nomatch e
  injection e with e1 _
  subst e1;cases v<;>rfl
theorem YH(prog:Program)(w:World)(i:Int)(t:Tok):(ce prog w).is (.inl i) (.int i t)=true:=YB i t
theorem sZ(prog:Program)(w:World)(x:Str)(t:Tok):(ce prog w).is (.inr x) (.str x t)=true:=YC x t
abbrev NI:=Sum ak (List ak)
def mq(P:Program)(w:World)(h:Heap):NI->Value->Prop
 | .inl k,v=>oF k v=true
 | .inr ls,v=>∃b,v=.ref b/\IsTupleKey (ce P w) h ls b
inductive jm (P:Program) (w:World) (h:Heap):List NI->Lw->Prop
 | nil:jm P w h [] []
 | cons {i:NI}{v:Value}{ks:List NI}{vs:Lw}:mq P w h i v->jm P w h ks vs->jm P w h (i::ks) (v::vs)
def jn(P:Program)(w:World)(h:Heap)(ks:List NI)(a:Addr):Prop:=∃o j n,h.get? a=some o/\o.cls=.type "tuple"/\o.data=.seq j n/\jm P w h ks j.toList
def A0(P:Program)(w:World):NI->Int
 | .inl k=>mo w k
 | .inr ls=>tupleKeyHash (ce P w) ls
def EB:NI->Nat
 | .inl _=>1
 | .inr ls=>ls.length+1
def EC(P:Program)(w:World)(ks:List NI):Int:=reduceHash (Builtin.Tuple.tupleHashOf (ks.map (A0 P w)))
def A1(ks:List NI):Nat:=(ks.map EB).sum+1
theorem mq.inj{h:Heap}{i j:NI}{v:Value}(a:mq P w h i v)(b:mq P w h j v):i=j:=by
 cases i with
 | inl k=>
  cases j with
  | inl l=>rw[(ce P w).inj v k l a b]
  | inr l=>
   obtain⟨c,rfl,_⟩:=b
   rcases jl a with⟨_,_,_,e⟩ | ⟨_,_,_,e⟩<;>cases e
 | inr k=>
  obtain⟨c,rfl,G⟩:=a;cases j with
  | inl l=>rcases jl b with⟨_,_,_,e⟩ | ⟨_,_,_,e⟩<;>cases e
  | inr l=>
   obtain⟨d,e,hd⟩:=b;cases e;rw[G.inj hd]
theorem jm.inj{h:Heap}{x y:List NI}(a:jm P w h x vs)(b:jm P w h y vs):x=y:=by
 induction a generalizing y with
 | nil=>cases b;rfl
 | cons p _ j=>
  cases b with
  | cons q r=>rw[p.inj q,j r]
theorem jn.typeIs{ks:List NI}(x:jn P w s.heap ks a):s.TypeIs (.ref a) "tuple":=x.elim λo j=>j.elim λ_ G=>G.elim λ_ J=>J.elim λY O=>O.elim λU _=>⟨o,Y,U⟩
theorem jn.inj{h:Heap}{x y:List NI}(p:jn P w h x a)(q:jn P w h y a):x=y:=by
 obtain⟨o,b_,n,e,_,d,i⟩:=p;obtain⟨o',its',J,j,_,d',G⟩:=q;rw[e]at j;cases j;rw[d]at d';injection d' with d1 _
 subst d1;exact i.inj G
theorem jm.keeps{h:Heap}{ks:List NI}(k:∀ls b,IsTupleKey (ce P w) h ls b->IsTupleKey (ce P w) h' ls b)(x:jm P w h ks vs):jm P w h' ks vs:=by
 induction x with
 | nil=>exact .nil
 | @cons i v ks vs p _ G=>
  refine .cons ?_ G;cases i with
  | inl l=>exact p
  | inr l=>
   obtain⟨b,e,j⟩:=p;exact⟨b,e,k _ _ j⟩
theorem jn.keeps{h:Heap}{ks:List NI}{d:Addr}{o:Obj}{es:Array DictEntry}{ep:Nat}(x:jn P w h ks a)(j:h.get? d=some o)(hd:o.data=.dict es ep)(hs:Heap.SameBut d h h'):jn P w h' ks a:=by
 obtain⟨J,b_,n,e,c,e2,i⟩:=x;have ne:a≠d:=by
  intro z;rw[z,j]at e;cases e;rw[hd]at e2;cases e2
 exact⟨J,b_,n,(hs.2 a ne).trans e,c,e2,i.keeps λls b G=>G.keeps j hd hs⟩
theorem mq.hash{i:NI}{v:Value}{Q:Int->Shared->Prop}(G:A.units<cLine)(x:mq P w s.heap i v)(h:Q (A0 P w i) { s with toks:=s.toks+EB i }):wpAny (model P w) A (pyHash v) Q E s:=by
 cases i with
 | inl k=>exact(ce P w).pyHash (k:=k) x h
 | inr ls=>
  obtain⟨b,rfl,j⟩:=x;exact wpAny_pyHash_tuple G j h
theorem mq.eq{i j:NI}{v:Value}{Q:Bool->Shared->Prop}(G:A.units<cLine)(x:mq P w s.heap i u)(y:mq P w s.heap j v)(h:Q (decide (i=j)) s):wpAny (model P w) A (eqBool u v) Q E s:=by
 cases i with
 | inl k=>
  cases j with
  | inl l=>
   have e:decide ((Sum.inl k:NI)=Sum.inl l)=decide (k=l):=by
    by_cases q:k=l
    . rw[q];simp
    rw[cx q,cx (λz=>q (Sum.inl.inj z))]
   rw[e]at h;exact(ce P w).eqBool (a:=k) (b:=l) x y h
  | inr l=>
   rw[cx (λz=>nomatch z)]at h;obtain⟨b,rfl,o,b_,n,e,c,d,_⟩:=y
   rcases jl x with⟨a,t,_,rfl⟩ | ⟨a,t,_,rfl⟩
   . exact SeqAt.EqAt.int_tuple a t ⟨o,e,c,n,d⟩ G _ _ _ _ h
   exact SeqAt.EqAt.str_tuple a t ⟨o,e,c,n,d⟩ G _ _ _ _ h
 | inr k=>
  obtain⟨a,rfl,J⟩:=x;cases j with
  | inl l=>
   rw[cx (λz=>nomatch z)]at h;obtain⟨o,b_,n,e,c,d,_⟩:=J
   rcases jl y with⟨b,t,_,rfl⟩ | ⟨b,t,_,rfl⟩
   . exact SeqAt.EqAt.tuple_int b t ⟨o,e,c,n,d⟩ G _ _ _ _ h
   exact SeqAt.EqAt.tuple_str b t ⟨o,e,c,n,d⟩ G _ _ _ _ h
  | inr l=>
   obtain⟨b,rfl,O⟩:=y;have e:decide ((Sum.inr k:NI)=Sum.inr l)=decide (k=l):=by
    by_cases q:k=l
    . rw[q];simp
    rw[cx q,cx (λz=>q (md z))]
   rw[e]at h;exact wpAny_eqBool_tuple G J O h
theorem YM{ks:List NI}{Q:Int->Shared->Prop}(hu:A.units+8<cLine)(U:jn P w s.heap ks a)(h:Q (EC P w ks) { s with toks:=s.toks+A1 ks }):wpAny (model P w) A (pyHash (.ref a)) Q E s:=by
 have j:=U.typeIs;obtain⟨o,b_,n,ho,_,hd,hi⟩:=U;have ED:A.units<cLine:=by omega
 unfold pyHash
 first | unfold pyHashByItsType | skip
 first | refine ae (wpAny_cRoomFor_or (.inr ED) ?_) | skip
 refine ae (AG j L9.lookup ?_);show wpAny _ _ (if (some (Value.builtin "tuple.__hash__") == some Value.none)=true then _ else _) Q E s;rw[ag (by rw[beq_builtin_none];exact cW)];refine ae (AG j L9.lookup ?_);show wpAny _ _ (callSpecialIfBoundUnlessNone? (.ref a) "__hash__" _ >>= _) Q E s;refine ae (wpAny_callSpecialIfBoundUnlessNone?_slot j L9 (sK L9 j F.entry_tuple_hash ?_ (F.args_tuple_hash_1 _)));show wpAny _ _ (Builtin.Tuple.tupleItemsOf (.ref a) >>= _) _ _ s;refine ae (XA ho hd ?_);refine ae ?_;rw[<-XB];refine xC _
  (λrest (b:Array Int) s'=>∃done left,ks=done++left/\jm P w s.heap left rest/\b.toList=done.map (A0 P w)/\s'={ s with toks:=s.toks+(done.map EB).sum })
  _ ?_ ?_ _ _ ⟨[],ks,rfl,hi,rfl,rfl⟩
 . rintro x rest b s' ⟨done,left,rfl,O,G,rfl⟩;cases O with
   | @cons k _ Y _ h1 mW=>
    refine ae (mq.hash (i:=k) (show A.units+1<cLine by omega) h1 ?_)
    first
     | exact aq ⟨done++[k],Y,by simp,mW,by simp[G],by simp[Ma]⟩
     | exact ae (aq (aq ⟨done++[k],Y,by simp,mW,by simp[G],by simp[Ma]⟩))
 rintro b s' ⟨done,left,rfl,O,G,rfl⟩;cases O;rw[jX]at h;show wpAny _ _ (retInt (Builtin.Tuple.tupleHashOf b.toList)) _ _ _;rw[G];refine wpAny_ret_mkInt ?_;generalize hz:Builtin.Tuple.tupleHashOf (done.map (A0 P w))=z at h ⊢;show wpAny _ _ (if (decide (-(2:Int) ^ 63<=z) && decide (z<2 ^ 63))=true then _ else _) Q E _;unfold EC reduceHash at h;rw[hz]at h
 by_cases J:(decide (-(2:Int) ^ 63<=z) && decide (z<2 ^ 63))=true
 . rw[ai J];rw[ai J]at h;exact aq (by simpa [Ma,A1]using h)
 rw[ag J];rw[ag J]at h;exact ae (oq (aq (by simpa [Ma,A1]using h)))
theorem YN{x y:List NI}{b:Addr}{R:PySem.Fin->Shared->Prop}(hu:A.units<cLine)(hx:jn P w s.heap x a)(hy:jn P w s.heap y b)(h:R (.done (.ret (.bool (decide (x=y))))) s) :
 wpAny (model P w) A (Builtin.«tuple.__eq__» ⟨[.ref a,.ref b],[]⟩) R E s:=by
 have YO:=hy.typeIs;obtain⟨oa,xs,na,EE,_,YQ,YR⟩:=hx;obtain⟨ob,ys,nb,qH,_,ix,YS⟩:=hy;show wpAny _ _ (isInstance (.ref b) (.type "tuple") >>= _) _ _ s;refine ae (ou YO XC ?_);simp only[AH,qp,mT];refine ae (XA EE YQ ?_);refine ae (XA qH ix ?_);refine ae ?_;refine xC _
  (λrest r s'=>r.1=none/\s'=s/\∃O U J G,rest=List.zip J G/\jm P w s.heap O J/\jm P w s.heap U G/\decide (O=U)=decide (x=y)/\(J.length == G.length)=(xs.size == ys.size))
  _ ?_ ?_ _ _ ⟨rfl,rfl,x,y,xs.toList,ys.toList,rfl,YR,YS,rfl,by simp⟩
 . rintro⟨u,v⟩ rest r s' ⟨hr,rfl,O,U,J,G,hz,jo,k9,A2,hlen⟩;cases jo with
   | nil=>simp at hz
   | @cons k1 u' MN YT h1 YU=>
    cases k9 with
    | nil=>simp at hz
    | @cons k2 v' MO YV h2 YW=>
     simp only[XD,List.cons.injEq,Prod.mk.injEq]at hz;obtain⟨⟨rfl,rfl⟩,rfl⟩:=hz;refine ae (mq.eq (i:=k1) (j:=k2) hu h1 h2 ?_)
     by_cases Y:k1=k2
     . subst Y;rw[bN rfl];simp only[AH,qp,mT];refine aq ⟨rfl,rfl,MN,MO,YT,YV,rfl,YU,YW,?_,by simpa using hlen⟩;rw[<-A2]
       by_cases A3:MN=MO
       . simp[A3]
       simp[A3]
     rw[cx Y];simp only[Bool.not_false,vc];have hf:decide (x=y)=false:=by rw[<-A2];simp[Y]
     rw[hf]at h;exact ae (aq (aq (aq h)))
 rintro⟨r1,r2⟩ s' ⟨hr,rfl,O,U,J,G,hz,jo,k9,A2,hlen⟩;simp only at hr;subst hr;refine aq ?_;have YX:(xs.size == ys.size)=decide (x=y):=by
  rw[<-A2,<-hlen];cases jo with
  | nil=>
   cases k9 with
   | nil=>simp
   | cons _ _=>simp
  | cons _ _=>
   cases k9 with
   | nil=>simp
   | cons _ _=>simp at hz
 show R (.done (.ret (.bool (xs.size == ys.size)))) s';rw[YX];exact h
theorem YY{x y:List NI}{b:Addr}{Q:Bool->Shared->Prop}(O:A.units+8<cLine)(j:jn P w s.heap x a)(G:jn P w s.heap y b)(h:Q (decide (x=y)) s) :
 wpAny (model P w) A (eqBool (.ref a) (.ref b)) Q E s:=by
 unfold eqBool
 try with_reducible refine jY ?_
 show wpAny _ _ (if (Value.ref a == Value.ref b)=true then _ else _) Q E s
 by_cases J:(Value.ref a == Value.ref b)=true
 . rw[ai J];have e:a=b:=by have:=eq_of_beq J;injection this
   subst e;obtain rfl:=j.inj G;exact ae (oq (aq (by simpa using h)))
 rw[ag J];exact ae (wpAny_richCompare_same_room (op:=.Eq) j.typeIs G.typeIs Mb
  (sK Mb j.typeIs F.entry_tuple_eq (YN (show A.units+1<cLine by omega) j G ⟨_,rfl,(λe=>nomatch e),qr h⟩) (F.args_tuple_eq_2 _ _)) (by omega))
theorem YZ{ls:List ak}{Q:Bool->Shared->Prop}(J:IsTupleKey (ce P w) s.heap ls a)(h:Q true s):wpAny M A (eqIsQuiet (n+1) (.ref a)) Q E s:=by
 have G:=J.typeIs;obtain⟨o,b_,m,Y,_,hd,hi⟩:=J;unfold eqIsQuiet;refine ae (AG G Mb.lookup ?_);show wpAny _ _ (isInstance (.ref a) (.type "tuple") >>= _) _ _ s;refine ae (ou G XC ?_);simp only[AH,qp,mT];refine ae (xD Y hd ?_);refine ae ?_;show wpAny _ _ (forIn b_ _ _) _ _ s;rw[<-XB];refine xC _ (λrest r s'=>r.1=none/\s'=s/\∀v∈rest,carriedByValue v=true) _ ?_ ?_ _ _ ⟨rfl,rfl,hi.byValue⟩
 . rintro v rest r s' ⟨j,rfl,O⟩;rw[eqIsQuiet_byValue _ (O v bL)];refine ae (aq ?_);simp only[AH,qp,mT];exact aq ⟨rfl,rfl,λu U=>O u (bT _ U)⟩
 rintro⟨r1,r2⟩ s' ⟨j,rfl,_⟩;simp only at j;subst j;exact aq h
theorem Y1{ks:List NI}{Q:Bool->Shared->Prop}(J:jn P w s.heap ks a)(h:Q true s):wpAny M A (eqIsQuiet 8 (.ref a)) Q E s:=by
 have G:=J.typeIs;obtain⟨o,b_,m,ho,_,hd,hi⟩:=J;unfold eqIsQuiet;refine ae (AG G Mb.lookup ?_);show wpAny _ _ (isInstance (.ref a) (.type "tuple") >>= _) _ _ s;refine ae (ou G XC ?_);simp only[AH,qp,mT];refine ae (xD ho hd ?_);refine ae ?_;show wpAny _ _ (forIn b_ _ _) _ _ s;rw[<-XB];refine xC _ (λrest r s'=>r.1=none/\s'=s/\∃ls,jm P w s.heap ls rest) _ ?_ ?_ _ _ ⟨rfl,rfl,ks,hi⟩
 . rintro v rest r s' ⟨j,rfl,ls,O⟩;cases O with
   | @cons i _ xW _ h1 h2=>
    have U:∀{R:Bool->Shared->Prop},R true s'->wpAny M A (eqIsQuiet 7 v) R E s':=λ{R} q=>by
     cases i with
     | inl k=>
      rw[eqIsQuiet_byValue _ ((ce P w).byValue k v h1)];exact aq q
     | inr l=>
      obtain⟨b,rfl,Y⟩:=h1;exact YZ Y q
    refine ae (U ?_);simp only[AH,qp,mT];exact aq ⟨rfl,rfl,xW,h2⟩
 rintro⟨r1,r2⟩ s' ⟨j,rfl,_⟩;simp only at j;subst j;exact aq h
def qJ(P:Program)(w:World):HeapKind P w (List NI) where
 is:=jn P w
 hash:=EC P w
 draws:=A1
 room:=λA=>A.units+8<cLine
 inj:=λa b=>a.inj b
 keeps:=λx J hd hs=>x.keeps J hd hs
 pyHash:=λG j h=>YM G j h
 eqBool:=λG O U h=>YY G O U h
 quiet:=λj h=>Y1 j h
theorem vp(j:A.units+64<cLine):(qJ P w).room A.in1:=show A.units+1+8<cLine by omega
set_option genInjectivity true in
inductive V where
 | non | bl (b:Bool) | int (i:Int) | str (x:Str) | byt (b:Array UInt8) | flt (b:UInt64) | ref (a:Addr) | ty (n:String)
 deriving DecidableEq
abbrev Lv:=List V
def RelV:V->Value->Prop
 | .non,u=>u=Value.none
 | .bl b,u=>u=Value.bool b
 | .int i,u=>∃t,u=Value.int i t
 | .str x,u=>∃t,u=Value.str x t
 | .byt b,u=>∃t,u=Value.bytes b t
 | .flt b,u=>∃t,u=Value.float b t
 | .ref a,u=>u=Value.ref a
 | .ty n,u=>u=Value.type n
abbrev aW:Lv->Lw->Prop:=Paired RelV
theorem aW.length{xs:Lv}(r:aW xs us):xs.length=us.length:=XF r
theorem aW.get:∀{xs:Lv}{us:Lw}{i:Nat}{x:V},aW xs us->xs[i]?=some x->∃u,us[i]?=some u/\RelV x u
 | _,_,_,_,.nil,e=>by simp at e
 | _,_,0,_,.cons r _,e=>by simp at e;subst e;exact⟨_,rfl,r⟩
 | _,_,i+1,x,.cons _ t,e=>by
  obtain⟨u,h1,h2⟩:=aW.get (i:=i) (x:=x) t (by simpa using e);exact⟨u,by simpa using h1,h2⟩
theorem aW.append:∀{xs ys:Lv}{us j:Lw},aW xs us->aW ys j->aW (xs++ys) (us++j)
 | _,_,_,_,.nil,s=>s
 | _,_,_,_,.cons r t,s=>.cons r (aW.append t s)
theorem aW.take:∀{xs:Lv}{us:Lw} (n:Nat),aW xs us->aW (xs.take n) (us.take n)
 | _,_,0,_=>.nil
 | _,_,_+1,.nil=>.nil
 | _,_,n+1,.cons r t=>.cons r (aW.take n t)
theorem aW.drop:∀{xs:Lv}{us:Lw} (n:Nat),aW xs us->aW (xs.drop n) (us.drop n)
 | _,_,0,r=>r
 | _,_,_+1,.nil=>.nil
 | _,_,n+1,.cons _ t=>aW.drop n t
def gN:Option V->Option Value->Prop
 | some v,some u=>RelV v u
 | none,none=>True
 | _,_=>False
def KV{κ:Type}:List (κ×V)->List (κ×Value)->Prop:=Paired fun(p:κ×V) (q:κ×Value)=>p.1=q.1/\RelV p.2 q.2
def kV:ak->V
 | .inl i=>.int i
 | .inr x=>.str x
inductive HO where
 | lst (xs:Lv)
 | tup (xs:Lv)
 | dK (kvs:List (ak×V)) | dT (kvs:List (List NI×V))
 | set (S:Int->Bool) (n:Nat)
 | ins (C dx:Addr) (fs:List (Str×V))
 | own (x:Addr)
 | xd (fs:List (Str×V))
 | met (f x:Addr)
 | rng (lo hi:Int)
 | frz (o:Obj) (u:HO)
 | tbl (ps:Av)
 | ext (φ:Heap->Prop)
abbrev Hp:=Addr->Option HO
def upd(H:Hp)(a:Addr)(o:HO):Hp:=λb=>if b=a then some o else H b
theorem aB{H:Hp}{o:HO}:upd H a o a=some o:=by unfold upd;rw[ai rfl]
theorem aQ{H:Hp}{b:Addr}{o:HO}(h:b≠a):upd H a o b=H b:=by unfold upd;rw[ag h]
theorem be{H:Hp}{b:Addr}{o u:HO}(h:H a=some o)(h':H b=some u)(d:o≠u):a≠b:=by
 intro e;subst e;rw[h]at h';exact d (gM h')
theorem aH{H:Hp}{b:Addr}{o:HO}(h:H a=some o)(h':H b=none):a≠b:=by
 intro e;subst e;rw[h]at h';cases h'
def NV(H:Hp):NI->V->Prop
 | .inl k,v=>v=kV k
 | .inr ls,v=>∃b,v=.ref b/\H b=some (.tup (ls.map kV))
abbrev MP (H:Hp):List NI->Lv->Prop:=Paired (NV H)
def lg(H:Hp)(ks:List NI)(a:Addr):Prop:=∃vs,H a=some (.tup vs)/\MP H ks vs
theorem av{F G:α->β->Prop}:∀{j:List α}{J:List β},Paired F j J->(∀a b,F a b->G a b)->Paired G j J
 | _,_,.nil,_=>.nil
 | _,_,.cons r t,f=>.cons (f _ _ r) (av t f)
theorem lg.keeps{H H':Hp}{ks:List NI}(x:lg H ks a)(j:∀b xs,H b=some (.tup xs)->H' b=some (.tup xs)):lg H' ks a:=by
 obtain⟨vs,e,r⟩:=x;refine⟨vs,j _ _ e,av r λi v z=>?_⟩;cases i with
 | inl k=>exact z
 | inr l=>
  obtain⟨b,e1,e2⟩:=z;exact⟨b,e1,j _ _ e2⟩
section
variable (P:Program)(w:World)
def bX(H:Hp)(h:Heap)(a:Addr):HO->Prop
 | .lst xs=>xs.length<=sizeLine/\∃(b_:Lw) (n:Nat),aW xs b_/\h.get? a=some { cls:=.type "list",data:=.seq b_.toArray n }
 | .tup xs=>xs.length<=sizeLine/\∃b_:Lw,aW xs b_/\IsTup h a b_.toArray
 | .dK kvs=>kvs.length<=sizeLine/\(a == sysModules)=false/\∃vs,KV kvs vs/\h.DictOf (ce P w) a vs
 | .dT kvs=>kvs.length<=sizeLine/\(a == sysModules)=false/\∃xs:List (List NI×Addr×Value),
  Paired (fun(p:List NI×V) (q:List NI×Addr×Value)=>p.1=q.1/\lg H p.1 q.2.1/\RelV p.2 q.2.2) kvs xs /\
  ∃o es ep,h.get? a=some o/\o.ExactDict/\o.data=.dict es ep/\es.toList=xs.map (entryOfKey (qJ P w))/\(xs.map (·.1)).Nodup
 | .set S n=>h.SetOf (intKind P w) a S n
 | .ins C dx fs=>H dx=some (.own a)/\fs.length<=1000/\dx≠a/\h.get? a=some (W.instObj C dx) /\
  ∃mA,h.Ns1 dx mA/\(∀f,gN (fs.lookup f) (mA f))/\PySem.Within mA (fs.map (·.1))
 | .own _=>∃o,h.get? a=some o
 | .xd fs=>∃mA,h.Ns1 a mA/\∀f,gN (fs.lookup f) (mA f)
 | .rng lo hi=>∃t u v,h.get? a=some { cls:=.type "range",data:=.fields #[.int lo t,.int hi u,.int 1 v] }
 | .frz o u=>h.get? a=some o/\bX H h a u
 | .tbl ps=>h.get? a=some { cls:=.none,data:=.fields ps }
 | .met f x=>h.get? a=some (W.methodObj (.ref f) (.ref x))
 | .ext φ=>φ h/\(∃o,h.get? a=some o)/\∀h1 h2:Heap,φ h1->(∀o,h1.get? a=some o->h2.get? a=some o)->φ h2
def cr(H:Hp)(h:Heap):Prop:=∀a o,H a=some o->bX P w H h a o
end
section
variable {H H':Hp}{h:Heap}{o:HO}
theorem bX.lt(x:bX P w H h a o):a<h.objs.size:=by
 cases o with
 | lst xs=>obtain⟨_,_,_,_,e⟩:=x;exact bH e
 | tup xs=>obtain⟨_,_,_,p⟩:=x;exact p.lt
 | dK kvs=>obtain⟨_,_,_,_,o,_,_,e,_⟩:=x;exact bH e
 | dT kvs=>obtain⟨_,_,_,_,o,_,_,e,_⟩:=x;exact bH e
 | set S n=>obtain⟨o,_,_,_,e,_⟩:=x;exact bH e
 | ins C dx fs=>obtain⟨_,_,_,e,_⟩:=x;exact bH e
 | own y=>obtain⟨_,e⟩:=x;exact bH e
 | xd fs=>obtain⟨_,⟨_,_,_,e,_⟩,_⟩:=x;exact bH e
 | rng lo hi=>obtain⟨_,_,_,e⟩:=x;exact bH e
 | frz ob u=>obtain⟨e,_⟩:=x;exact bH e
 | tbl ps=>exact bH (show h.get? a=some _ from x)
 | met f y=>exact bH (show h.get? a=some _ from x)
 | ext φ=>obtain⟨_,⟨_,e⟩,_⟩:=x;exact bH e
theorem Paired.mapP{F G:α->β->Prop}:∀{j:List α}{J:List β},Paired F j J->(∀a b,F a b->G a b)->Paired G j J
 | _,_,.nil,_=>.nil
 | _,_,.cons r t,f=>.cons (f _ _ r) (Paired.mapP t f)
theorem bX.stay(x:bX P w H h a o)(k:∀b u,(b=a\/H b=some (.own a))->h.get? b=some u->h'.get? b=some u)
 (G:∀b,H b=some (.own a)->H' b=some (.own a)) (J:∀b xs,H b=some (.tup xs)->H' b=some (.tup xs)):bX P w H' h' a o:=by
 induction o with
 | lst xs=>obtain⟨z,b_,n,r,e⟩:=x;exact⟨z,b_,n,r,k _ _ (.inl rfl) e⟩
 | tup xs=>obtain⟨z,b_,r,ob,e,c⟩:=x;exact⟨z,b_,r,ob,k _ _ (.inl rfl) e,c⟩
 | dK kvs=>obtain⟨z,y,vs,r,ob,es,ep,e,c⟩:=x;exact⟨z,y,vs,r,ob,es,ep,k _ _ (.inl rfl) e,c⟩
 | dT kvs=>
  obtain⟨z,y,xs,r,ob,es,ep,e,c⟩:=x;exact⟨z,y,xs,Paired.mapP r λp q z=>⟨z.1,z.2.1.keeps J,z.2.2⟩,ob,es,ep,k _ _ (.inl rfl) e,c⟩
 | set S n=>obtain⟨ob,es,ep,t,e,c⟩:=x;exact⟨ob,es,ep,t,k _ _ (.inl rfl) e,c⟩
 | ins C dx fs=>
  obtain⟨d,z,ne,e,mA,⟨j,es,ep,e2,c⟩,r⟩:=x;exact⟨G _ d,z,ne,k _ _ (.inl rfl) e,mA,⟨j,es,ep,k _ _ (.inr d) e2,c⟩,r⟩
 | own y=>obtain⟨ob,e⟩:=x;exact⟨ob,k _ _ (.inl rfl) e⟩
 | xd fs=>obtain⟨mA,⟨j,es,ep,e,c⟩,r⟩:=x;exact⟨mA,⟨j,es,ep,k _ _ (.inl rfl) e,c⟩,r⟩
 | rng lo hi=>obtain⟨t,u,v,e⟩:=x;exact⟨t,u,v,k _ _ (.inl rfl) e⟩
 | frz ob u O=>obtain⟨e,q⟩:=x;exact⟨k _ _ (.inl rfl) e,O q⟩
 | tbl ps=>
  have e:h.get? a=some { cls:=.none,data:=.fields ps }:=x;show h'.get? a=some { cls:=.none,data:=.fields ps };exact k a _ (.inl rfl) e
 | met f y=>
  have e:h.get? a=some (W.methodObj (.ref f) (.ref y)):=x;show h'.get? a=some (W.methodObj (.ref f) (.ref y));exact k a _ (.inl rfl) e
 | ext φ=>obtain⟨p,⟨o,e⟩,st⟩:=x;exact⟨st _ _ p λo q=>k _ _ (.inl rfl) q,⟨o,k _ _ (.inl rfl) e⟩,st⟩
theorem cr.lt(x:cr P w H h)(e:H a=some o):a<h.objs.size:=(x a o e).lt
theorem cr.fresh(x:cr P w H h)(e:h.objs.size<=a):H a=none:=by
 cases q:H a with
 | none=>rfl
 | some u=>exact absurd (gz (x.lt q) e) (oA _)
theorem cr.kept(x:cr P w H h)(k:∀b u,h.get? b=some u->h'.get? b=some u):cr P w H h':=λa o e=>
 (x a o e).stay (λb u _ q=>k b u q) (λ_ q=>q) λ_ _ q=>q
theorem cr.laid(x:cr P w H h)(k:∀b u,h.get? b=some u->h'.get? b=some u)(J:h.objs.size<=a)(new:bX P w (upd H a o) h' a o):cr P w (upd H a o) h':=λb u e=>by
 have G:=x.fresh J
 by_cases j:b=a
 . subst j;rw[aB]at e;cases e;exact new
 rw[aQ j]at e;exact(x b u e).stay (λc v _ q=>k c v q) (λc q=>by rw[aQ (aH q G)];exact q) λc xs q=>by rw[aQ (aH q G)];exact q
end
def Rd(H:Hp)(a:Addr)(u:HO):Prop:=H a=some u\/∃o,H a=some (.frz o u)
theorem Rd.ok{H:Hp}{h:Heap}{u:HO}(r:Rd H a u)(x:cr P w H h):bX P w H h a u:=by
 rcases r with r | ⟨o,r⟩
 . exact x a u r
 obtain⟨_,q⟩:=x a _ r;exact q
def xY:Option HO->Prop
 | some (.lst _)=>True
 | some (.dK _)=>True
 | some (.dT _)=>True
 | some (.set _ _)=>True
 | some (.ins _ _ _)=>True
 | some (.ext _)=>True
 | _=>False
section
variable {H:Hp}{h:Heap}{x e:Addr}{o':HO}
theorem cr.write(ok:cr P w H h)(G:xY (H x))(U:e=x\/H e=some (.own x))(k:∀b u,b≠e->h.get? b=some u->h'.get? b=some u)(vq:∃u,h'.get? e=some u)
 (new:bX P w (upd H x o') h' x o'):cr P w (upd H x o') h':=λb u q=>by
 have O:∀c y,H c=some (.own y)->c≠x:=λc y r z=>by subst z;rw[r]at G;exact G
 have Y2:∀c xs,H c=some (.tup xs)->c≠x:=λc xs r z=>by subst z;rw[r]at G;exact G
 by_cases j:b=x
 . subst j;rw[aB]at q;cases q;exact new
 rw[aQ j]at q
 by_cases J:b=e
 . have Y:H b=some (.own x):=by
    rcases U with z | z
    . exact absurd (J.trans z) j
    rw[J];exact z
   rw[q]at Y;cases Y;obtain⟨v,hv⟩:=vq;exact⟨v,by rw[J];exact hv⟩
 refine(ok b u q).stay (λc v hc r=>k c v ?_ r) (λc r=>by rw[aQ (O c b r)];exact r) λc xs r=>by rw[aQ (Y2 c xs r)];exact r
 rcases hc with rfl | hc
 . exact J
 rintro rfl
 rcases U with z | z
 . exact O c b hc z
 rw[hc]at z;cases z;exact j rfl
end
structure Un(fs ex:List Addr)(H H':Hp)(h h':Heap):Prop where
 keep:∀b o,h.get? b=some o->H b=none->b∉fs->b∉ex->h'.get? b=some o
 slot:∀b o,h.get? b=some o->H b=none->b∈fs->b∉ex->∃sl,h'.get? b=some { o with slots:=sl }
 free:∀b o,h.get? b=some o->H b=none->b∉ex->H' b=none
 there:∀b o,h.get? b=some o->b∉ex->∃o',h'.get? b=some o'
 tups:∀b xs,H b=some (.tup xs)->H' b=some (.tup xs)
 frzs:∀b o u,H b=some (.frz o u)->H' b=some (.frz o u)
 tbls:∀b ps,H b=some (.tbl ps)->∃more,H' b=some (.tbl (ps++more))
section
variable {fs cI ex ex':List Addr}{H H1 H2:Hp}{h h1 h2:Heap}{x e:Addr}{o:HO}
theorem Un.any(u:Un fs ex H H1 h h1){b:Addr}{ob:Obj}(q:h.get? b=some ob)(n:H b=none)(G:b∉ex):∃J,h1.get? b=some { ob with slots:=J }:=by
 by_cases j:b∈fs
 . exact u.slot b ob q n j G
 exact⟨ob.slots,u.keep b ob q n j G⟩
theorem Un.trans(a:Un fs ex H H1 h h1)(b:Un fs ex H1 H2 h1 h2):Un fs ex H H2 h h2 where
 keep:=λc ob q n G j=>b.keep c ob (a.keep c ob q n G j) (a.free c ob q n j) G j
 slot:=λc ob q n G j=>by
  obtain⟨Y,e1⟩:=a.slot c ob q n G j;obtain⟨U,e2⟩:=b.slot c _ e1 (a.free c ob q n j) G j;exact⟨U,e2⟩
 free:=λc ob q n j=>by
  obtain⟨o',e1⟩:=a.there c ob q j;exact b.free c o' e1 (a.free c ob q n j) j
 there:=λc ob q j=>by
  obtain⟨o',e1⟩:=a.there c ob q j;exact b.there c o' e1 j
 tups:=λc xs q=>b.tups c xs (a.tups c xs q)
 frzs:=λc ob xs q=>b.frzs c ob xs (a.frzs c ob xs q)
 tbls:=λc ps q=>by
  obtain⟨J,e1⟩:=a.tbls c ps q;obtain⟨O,e2⟩:=b.tbls c _ e1;exact⟨J++O,by rw[e2,Array.append_assoc]⟩
theorem Un.kept(k:∀b u,h.get? b=some u->h'.get? b=some u):Un fs ex H H h h':=
 ⟨λb ob q _ _ _=>k b ob q,λb ob q _ _ _=>⟨ob.slots,k b ob q⟩,λ_ _ _ n _=>n,λb ob q _=>⟨ob,k b ob q⟩,λ_ _ q=>q,λ_ _ _ q=>q,λ_ ps q=>⟨#[],by rw[q];simp⟩⟩
theorem Un.refl:Un fs ex H H h h:=Un.kept λ_ _ q=>q
theorem Un.laid(k:∀b u,h.get? b=some u->h'.get? b=some u)(G:h.objs.size<=a)(j:H a=none):Un fs ex H (upd H a o) h h' where
 keep:=λb u q _ _ _=>k b u q
 slot:=λb u q _ _ _=>⟨u.slots,k b u q⟩
 free:=λb u q n _=>by rw[aQ (cX (gz (bH q) G))];exact n
 there:=λb u q _=>⟨u,k b u q⟩
 tups:=λb xs q=>by rw[aQ (aH q j)];exact q
 frzs:=λb u xs q=>by rw[aQ (aH q j)];exact q
 tbls:=λb ps q=>⟨#[],by rw[aQ (aH q j),q];simp⟩
theorem Un.write(j:xY (H x))(Y:e=x\/H e=some (.own x))(k:∀b u,b≠e->h.get? b=some u->h'.get? b=some u)(vq:∃u,h'.get? e=some u):Un fs ex H (upd H x o) h h':=by
 have O:∀b,H b=none->b≠x:=λb n z=>by subst z;rw[n]at j;exact j
 have J:∀b,H b=none->b≠e:=λb n z=>by
  subst z
  rcases Y with r | r
  . exact O b n r
  rw[n]at r;cases r
 have G:∀b u,H b=some u->¬xY (some u)->b≠x:=λb u q nm z=>by subst z;rw[q]at j;exact nm j
 refine⟨λb u q n _ _=>k b u (J b n) q,λb u q n _ _=>⟨u.slots,k b u (J b n) q⟩,λb u q n _=>by rw[aQ (O b n)];exact n,λb u q _=>?_,
  λb xs q=>by rw[aQ (G b _ q λz=>z)];exact q,λb u xs q=>by rw[aQ (G b _ q λz=>z)];exact q,λb ps q=>⟨#[],by rw[aQ (G b _ q λz=>z),q];simp⟩⟩
 by_cases U:b=e
 . subst U;exact vq
 exact⟨u,k b u U q⟩
end
def A5(h:Heap)(H:Hp):List Addr:=(List.range h.objs.size).filter λa=>(H a).isSome
def mX(h:Heap)(H:Hp):Heap:=W.hideAll h (A5 h H)
theorem Y3(h:Heap)(H:Hp):(mX h H).objs.size=h.objs.size:=W.hideAll_size _ _
theorem Y4{h:Heap}{H:Hp}{b:Addr}{o:Obj}(e:h.get? b=some o)(n:H b=none):(mX h H).get? b=some o:=
 W.hideAll_get _ e λj=>by
  have q:(H b).isSome=true:=(jk.mp j).2;rw[n]at q;simp at q
theorem Y5{h:Heap}{H:Hp}{b:Addr}{o:Obj}(e:(mX h H).get? b=some o):h.get? b=some o/\H b=none:=by
 have j:h.get? b=some o:=W.of_hideAll (A5 h H) e;refine⟨j,?_⟩;cases q:H b with
 | none=>rfl
 | some x=>
  have G:b∈A5 h H:=jk.mpr ⟨vd.mpr (bH j),by simp[q]⟩;have z:(mX h H).get? b=none:=W.hideAll_none (A5 h H) G;rw[z]at e;cases e
structure Mod(K:Fg)(mg:Mv)(base:Heap):Prop where
 kin:K.In base
 glob:base.Ns mainGlobals mg
 blt:∃mb,base.Ns builtinsNs mb/\∀x:Str,x≠"__name__"->mb x=bootBuiltins x
 nolimit:base.NoLimit
structure Cx where
 prog:Program
 w:World
 K:Fg
 mg:Mv
 base:Heap
 A:Around
 N:Ls
 s₀:Shared
 H₀:Hp
 env:Env
 outer:List Env
 stack:List Env
 ex:List Addr
 fn:Str->Bool
 calm:Bool
 pn:Po
 xe:VP
variable {X:Cx}
def cJ(l:List Env):List Addr:=l.filterMap (·.frame)
abbrev Cx.fs (X:Cx):List Addr:=cJ X.outer
def A6(sc:Scope)(x:Str):Prop:=sc.names.lookup x=some .local\/sc.names.lookup x=some .cell\/sc.names.lookup x=some .free
def Loc(sc:Scope)(x:Str):Prop:=sc.names.lookup x=some .local\/sc.names.lookup x=some .cell
def Ab:0<=sizeLine:=by decide
def Ac:1<=sizeLine:=by decide
def An:2<=sizeLine:=by decide
def A7:3<=sizeLine:=by decide
def Look(env:Env)(h:Heap)(m:Mv)(x:Str)(u:Value):Prop:=
 (env.kindOf x=some .local/\m x=some u)\/((env.kindOf x=some .cell\/env.kindOf x=some .free)/\∃c,env.cells.lookup x=some c/\h.IsCell c (some u))
structure Cx.Ok(X:Cx):Prop where
 mod:Mod X.K X.mg X.base
 kind:X.env.scope.kind=.function
 glob:X.env.globals=mainGlobals
 blt:X.env.builtins=builtinsNs
 above:X.s₀.heap.objs.size<=X.env.locals
 inj:∀x y c,X.env.cells.lookup x=some c->X.env.cells.lookup y=some c->x=y
 has:∀x,(X.env.kindOf x=some .cell\/X.env.kindOf x=some .free)->∃c,X.env.cells.lookup x=some c
 cab:∀x c,X.fn x=true->X.env.cells.lookup x=some c->X.s₀.heap.objs.size<=c
 hd:X.calm=true->X.A.handled=none
 frames:X.A.frames=some X.stack
 stk:X.stack=X.outer\/(X.stack=X.env::X.outer/\X.env.frame=some X.env.locals)
 exf:∀b∈X.ex,b≠X.env.locals/\∀x c,X.env.cells.lookup x=some c->c≠b
 bs:∀b o,X.base.get? b=some o->X.s₀.heap.get? b=some o/\X.H₀ b=none
 bsz:X.base.objs.size<=X.s₀.heap.objs.size
 noex:∀b o,X.base.get? b=some o->b∉X.ex
 exfs:∀b∈X.ex,b∉X.fs
 funs:X.s₀.heap.FunFrames X.base X.outer
 frf:∀b∈X.fs,X.H₀ b=none
structure Inv(X:Cx)(ad:Po)(Z:List (Option V))(H:Hp)(s:Shared):Prop where
 ok:X.Ok
 os:s.os=X.s₀.os
 bare:AllBare s.gens
 base:Un X.fs X.ex X.H₀ H X.s₀.heap s.heap
 loc:∃m,s.heap.Ns X.env.locals m/\∀(i:Nat) (x:Str) (v:V),X.N[i]?=some x->Z[i]?=some (some v)->A6 X.env.scope x->∃u,RelV v u/\Look X.env s.heap m x u
 cell:∀x c,X.env.cells.lookup x=some c->∃v,s.heap.IsCell c v
 free:H X.env.locals=none
 freeC:∀x c,X.env.cells.lookup x=some c->H c=none
 pin:∀p∈X.pn++ad,s.heap.get? p.1=some p.2/\H p.1=none/\p.1≠X.env.locals/\p.1∉X.fs/\∀v,p.2.data≠.cell v
 hok:cr X.prog X.w H s.heap
 len:Z.length=X.N.length
section
variable {Z:List (Option V)} {H H':Hp}
theorem Cx.Ok.nofr(ok:X.Ok){b:Addr}{o:Obj}(e:X.base.get? b=some o):b∉X.fs:=λj=>by
 have:=(ok.funs.mem j).1;rw[e]at this;cases this
theorem Inv.bs(I:Inv X ad Z H s):∀b o,X.base.get? b=some o->s.heap.get? b=some o/\H b=none:=λb o e=>
 ⟨I.base.keep b o (I.ok.bs b o e).1 (I.ok.bs b o e).2 (I.ok.nofr e) (I.ok.noex b o e),I.base.free b o (I.ok.bs b o e).1 (I.ok.bs b o e).2 (I.ok.noex b o e)⟩
theorem Inv.bk(I:Inv X ad Z H s):∀b o,X.base.get? b=some o->s.heap.get? b=some o:=λb o e=>(I.bs b o e).1
theorem Inv.mod(I:Inv X ad Z H s):Mod X.K X.mg X.base:=I.ok.mod
theorem Inv.kIn(I:Inv X ad Z H s):X.K.In s.heap:=I.ok.mod.kin.keeps I.bk
theorem Inv.lt(I:Inv X ad Z H s):X.env.locals<s.heap.objs.size:=I.loc.elim λ_ j=>j.elim λG _=>G.lt
theorem Inv.sz(I:Inv X ad Z H s):X.s₀.heap.objs.size<=s.heap.objs.size:=b8 I.ok.above (ve I.lt)
theorem Inv.nofs(I:Inv X ad Z H s)(h:s.heap.objs.size<=a):a∉X.fs:=λj=>by
 obtain⟨_,o,G,_⟩:=I.ok.funs.mem j;exact absurd (gz (bH G) (b8 I.sz h)) (oA _)
theorem Inv.cne(I:Inv X ad Z H s):∀x c,X.env.cells.lookup x=some c->c≠X.env.locals:=λx c e z=>by
 obtain⟨v,o,j,hd⟩:=I.cell x c e;obtain⟨m,⟨o',es,ep,G,J,_⟩,_⟩:=I.loc;rw[z,G]at j;cases j;rw[J]at hd;cases hd
theorem Inv.funs(I:Inv X ad Z H s):s.heap.FunFrames X.base X.outer:=by
 have all:∀(l:List Env),(∀b∈cJ l,b∈X.fs)->X.s₀.heap.FunFrames X.base l->s.heap.FunFrames X.base l:=by
  intro l
  induction l with
  | nil=>intro _ _;trivial
  | cons env r ih=>
   intro hs U;obtain⟨O,⟨L,o,J,Y,ho,hd⟩,hr⟩:=U;have j:L∈X.fs:=hs L (by unfold cJ;rw[Eg,J];exact bL);obtain⟨sl,e⟩:=I.base.slot L o ho (I.ok.frf L j) j λz=>I.ok.exfs L z j;exact⟨O,⟨L,_,J,Y,e,hd⟩,ih (λb G=>hs b (by unfold cJ;rw[Eg,J];exact bT _ G)) hr⟩
 exact all X.outer (λ_ G=>G) I.ok.funs
theorem Inv.stack(I:Inv X ad Z H s):s.heap.FunFrames X.base X.stack:=by
 rcases I.ok.stk with e | ⟨e,j⟩
 . rw[e];exact I.funs
 rw[e];obtain⟨m,G,_⟩:=I.loc;refine .cons (by rw[I.ok.kind];decide) j G ?_ I.funs;exact Heap.get?_none_of_le (b8 I.ok.bsz I.ok.above)
theorem Inv.stkSub(I:Inv X ad Z H s):∀b∈cJ X.stack,b∈X.env.locals::X.fs:=λb j=>by
 rcases I.ok.stk with e | ⟨e,G⟩
 . rw[e]at j;exact bT _ j
 rw[e]at j;unfold cJ at j;rw[Eg,G]at j;exact j
theorem Inv.stkFree(I:Inv X ad Z H s):∀b∈cJ X.stack,H b=none:=λb hb=>by
 rcases aZ.mp (I.stkSub b hb) with e | hb
 . rw[e];exact I.free
 obtain⟨_,o,j,_⟩:=I.ok.funs.mem hb;exact I.base.free b o j (I.ok.frf b hb) λz=>I.ok.exfs b z hb
theorem Inv.step{g':Array GenState}{d':Drawn}(I:Inv X ad Z H s)
 (O:∀b∈ch,(b∈X.ex\/X.s₀.heap.objs.size<=b)/\b≠X.env.locals/\(∀x c,X.env.cells.lookup x=some c->c≠b)/\∀p∈X.pn++ad,p.1≠b)
 (keep:∀b o,b≠X.env.locals->b∉X.fs->b∉ch->s.heap.get? b=some o->H b=none->h'.get? b=some o)
 (slot:∀b o,b≠X.env.locals->b∈X.fs->b∉ch->s.heap.get? b=some o->H b=none->∃Y,h'.get? b=some { o with slots:=Y }) (free:∀b o,b∉ch->s.heap.get? b=some o->H b=none->H' b=none)
 (there:∀b o,b∉ch->s.heap.get? b=some o->∃o',h'.get? b=some o')
 (tups:∀b xs,H b=some (.tup xs)->H' b=some (.tup xs)) (frzs:∀b o u,H b=some (.frz o u)->H' b=some (.frz o u)) (tbls:∀b ps,H b=some (.tbl ps)->∃a1,H' b=some (.tbl (ps++a1)))
 (ns:∀m,s.heap.Ns X.env.locals m->h'.Ns X.env.locals m) (hok:cr X.prog X.w H' h') (hg:AllBare g') :
 Inv X ad Z H' { s with heap:=h',gens:=g',drawn:=d',toks:=t' }:=by
 have MR:∀b o,X.s₀.heap.get? b=some o->b≠X.env.locals:=λb o e=>cX (gz (bH e) I.ok.above);have U:∀b o,X.s₀.heap.get? b=some o->b∉X.ex->b∉ch:=λb o e j G=>by
  rcases(O b G).1 with z | z
  . exact j z
  exact absurd (gz (bH e) z) (oA _)
 have a0:∀x c,X.env.cells.lookup x=some c->∀v,s.heap.IsCell c v->h'.IsCell c v:=λx c e v Y7=>Y7.elim λo Y8=>Y8.elim λJ hd=>by
  have nch:c∉ch:=λz=>(O c z).2.2.1 x c e rfl
  by_cases hc:c∈X.fs
  . obtain⟨Y,q⟩:=slot c o (I.cne x c e) hc nch J (I.freeC x c e);exact⟨_,q,hd⟩
  exact⟨o,keep c o (I.cne x c e) hc nch J (I.freeC x c e),hd⟩
 refine⟨I.ok,I.os,hg,⟨λb o e n G j=>?_,λb o e n G j=>?_,λb o e n j=>?_,λb o e j=>?_,λb xs e=>tups b xs (I.base.tups b xs e),λb o xs e=>frzs b o xs (I.base.frzs b o xs e),λb ps e=>?_⟩,?_,λx c e=>?_,?_,λx c e=>?_,λp hp=>?_,hok,I.len⟩
 . exact keep b o (MR b o e) G (U b o e j) (I.base.keep b o e n G j) (I.base.free b o e n j)
 . obtain⟨Y,e1⟩:=I.base.slot b o e n G j;obtain⟨qK,e2⟩:=slot b _ (MR b o e) G (U b o e j) e1 (I.base.free b o e n j);exact⟨qK,e2⟩
 . obtain⟨o',e1⟩:=I.base.there b o e j;exact free b o' (U b o e j) e1 (I.base.free b o e n j)
 . obtain⟨o',e1⟩:=I.base.there b o e j;exact there b o' (U b o e j) e1
 . obtain⟨m1,e1⟩:=I.base.tbls b ps e;obtain⟨m2,e2⟩:=tbls b _ e1;exact⟨m1++m2,by rw[e2,Array.append_assoc]⟩
 . obtain⟨m,hn,hl⟩:=I.loc;refine⟨m,ns m hn,λi x v e1 e2 e3=>?_⟩;obtain⟨u,r,l⟩:=hl i x v e1 e2 e3;refine⟨u,r,?_⟩
   rcases l with l | ⟨k,c,e,z⟩
   . exact .inl l
   exact .inr ⟨k,c,e,a0 x c e _ z⟩
 . obtain⟨v,z⟩:=I.cell x c e;exact⟨v,a0 x c e v z⟩
 . obtain⟨m,⟨o,_,_,J,_⟩,_⟩:=I.loc;exact free _ o (λz=>(O _ z).2.1 rfl) J I.free
 . obtain⟨v,o,J,hd⟩:=I.cell x c e;exact free c o (λz=>(O c z).2.2.1 x c e rfl) J (I.freeC x c e)
 obtain⟨e,n,ne,nf,d⟩:=I.pin p hp;have nch:p.1∉ch:=λz=>(O p.1 z).2.2.2 p hp rfl;exact⟨keep p.1 p.2 ne nf nch e n,free p.1 p.2 nch e n,ne,nf,d⟩
theorem Inv.un(I:Inv X ad Z H s)(u:Un X.fs [] H H' s.heap h')(hok:cr X.prog X.w H' h'):Inv X ad Z H' { s with heap:=h',toks:=t' }:=by
 obtain⟨m,⟨o,es,ep,G,r⟩,_⟩:=id I.loc;obtain⟨sl,O⟩:=u.any G I.free (by simp);exact I.step (g':=s.gens) (d':=s.drawn) (ch:=[]) (λ_ z=>nomatch z) (λb o _ j _ e n=>u.keep b o e n j (by simp)) (λb o _ j _ e n=>u.slot b o e n j (by simp)) (λb o _ e n=>u.free b o e n (by simp)) (λb o _ e=>u.there b o e (by simp)) u.tups u.frzs u.tbls (λm' U=>by
  obtain⟨o',es',Y,J,r'⟩:=U;rw[G]at J;cases J;exact⟨_,es',Y,O,r'⟩) hok I.bare
theorem Inv.call{g':Array GenState}{d':Drawn}(I:Inv X ad Z H s)(u:Un (cJ X.stack) ch H H' s.heap h')(hok:cr X.prog X.w H' h')(hg:AllBare g')
 (U:∀b∈ch,(b∈X.ex\/X.s₀.heap.objs.size<=b)/\b≠X.env.locals/\(∀x c,X.env.cells.lookup x=some c->c≠b)/\∀p∈X.pn++ad,p.1≠b) :
 Inv X ad Z H' { s with heap:=h',gens:=g',drawn:=d',toks:=t' }:=by
 obtain⟨m,⟨o,es,ep,J,r⟩,_⟩:=id I.loc;obtain⟨sl,G⟩:=u.any J I.free λz=>(U _ z).2.1 rfl;exact I.step (ch:=ch) U (λb o G Y j e n=>u.keep b o e n (λz=>(aZ.mp (I.stkSub b z)).elim G Y) j) (λb o _ _ j e n=>u.any e n j) (λb o j e n=>u.free b o e n j) (λb o j e=>u.there b o e j) u.tups u.frzs u.tbls (λm' hm=>by
  obtain⟨o',es',qL,O,r'⟩:=hm;rw[J]at O;cases O;exact⟨_,es',qL,G,r'⟩) hok hg
theorem Inv.turned{it:Addr}(I:Inv X ad Z H s)(k:∀b o,b≠it->s.heap.get? b=some o->h'.get? b=some o)(hn:H it=none)(G:it≠X.env.locals)
 (h1:it∈X.ex\/X.s₀.heap.objs.size<=it) (h2:∀x c,X.env.cells.lookup x=some c->c≠it) (O:∀p∈X.pn++ad,p.1≠it):Inv X ad Z H { s with heap:=h',toks:=t' }:=by
 have J:∀b u,H b=some u->b≠it:=λb u e z=>by rw[z,hn]at e;cases e
 refine I.step (g':=s.gens) (d':=s.drawn) (ch:=[it]) (λb U=>?_) (λb o _ _ j e _=>k b o (λz=>j (by simp[z])) e) (λb o _ _ j e _=>⟨o.slots,k b o (λz=>j (by simp[z])) e⟩) (λ_ _ _ _ n=>n)
  (λb o j e=>⟨o,k b o (λz=>j (by simp[z])) e⟩) (λ_ _ e=>e) (λ_ _ _ e=>e) (λb ps e=>⟨#[],by rw[e];simp⟩) (λm Y=>?_) (λb u e=>?_) I.bare
 . have e:b=it:=by simpa using U
   subst e;exact⟨h1,G,h2,O⟩
 . obtain⟨o,es,ep,ho,r⟩:=Y;exact⟨o,es,ep,k _ o (fw G) ho,r⟩
 refine(I.hok b u e).stay (λc v j q=>k c v ?_ q) (λ_ q=>q) λ_ _ q=>q
 rcases j with z | z
 . rw[z];exact J b u e
 exact J c _ z
theorem Inv.tok(I:Inv X ad Z H s)(t:Nat):Inv X ad Z H { s with toks:=t }:=I.un (h':=s.heap) (t':=t) Un.refl I.hok
theorem Inv.kept(I:Inv X ad Z H s)(k:∀b u,s.heap.get? b=some u->h'.get? b=some u):Inv X ad Z H { s with heap:=h',toks:=t' }:=I.un (Un.kept k) (I.hok.kept k)
theorem Inv.laid{o:HO}(I:Inv X ad Z H s)(k:∀b u,s.heap.get? b=some u->h'.get? b=some u)(j:s.heap.objs.size<=a)(new:bX X.prog X.w (upd H a o) h' a o) :
 Inv X ad Z (upd H a o) { s with heap:=h',toks:=t' }:=I.un (Un.laid k j (I.hok.fresh j)) (I.hok.laid k j new)
theorem Inv.write{x e:Addr}{o:HO}(I:Inv X ad Z H s)(G:xY (H x))(j:e=x\/H e=some (.own x))(k:∀b u,b≠e->s.heap.get? b=some u->h'.get? b=some u)(J:∃u,h'.get? e=some u)
 (new:bX X.prog X.w (upd H x o) h' x o):Inv X ad Z (upd H x o) { s with heap:=h',toks:=t' }:=I.un (Un.write G j k J) (I.hok.write G j k J new)
theorem Inv.pins_of{j:Po}(I:Inv X ad Z H s)(h:∀p∈j,s.heap.get? p.1=some p.2/\H p.1=none/\p.1≠X.env.locals/\p.1∉X.fs/\∀v,p.2.data≠.cell v):Inv X j Z H s:=
 ⟨I.ok,I.os,I.bare,I.base,I.loc,I.cell,I.free,I.freeC,λp G=>(bR.mp G).elim (λz=>I.pin p (vf _ z)) (h p),I.hok,I.len⟩
theorem EG(G:N.Nodup){i j:Nat}{x:Str}(a:N[i]?=some x)(b:N[j]?=some x):i=j:=by
 obtain⟨h1,e1⟩:=dg.mp a;obtain⟨h2,e2⟩:=dg.mp b;exact(List.getElem_inj G).mp (e1.trans e2.symm)
theorem MU{i:Nat}{x:Str}{v:V}{Q:Unit->Shared->Prop}(I:Inv X ad Z H s)(hN:X.N.Nodup)(hi:X.N[i]?=some x)(G:Loc X.env.scope x)(r:RelV v u)
 (h:∀s',Inv X ad (Z.set i (some v)) H s'->(∃a,Heap.SameBut a s.heap s'.heap/\(a=X.env.locals\/X.env.cells.lookup x=some a))->Q () s') (hf:X.fn x=true\/X.env.scope.names.lookup x=some .local:=by first | exact .inl rfl | exact .inr rfl | assumption):wpAny M A (storeName X.env x u) Q E s:=by
 obtain⟨m,Y,hl⟩:=id I.loc;have EH:(X.env.scope.kind == .class || (X.env.scope.kind == .module && X.env.locals != X.env.globals))=false:=by rw[I.ok.kind];rfl
 have A8:i<Z.length:=by rw[I.len];exact(dg.mp hi).1
 have cne:=I.cne;have a0:∀{a:Addr}{h':Heap},(∃o,s.heap.get? a=some o/\H a=none)->Heap.SameBut a s.heap h'->cr X.prog X.w H h':=λ{a h'} ha hs b ob e=>by
  obtain⟨_,_,MV⟩:=ha;refine(I.hok b ob e).stay (λc U hc q=>(hs.2 c ?_).trans q) (λ_ q=>q) λ_ _ q=>q;rintro rfl
  rcases hc with rfl | hc
  . rw[MV]at e;cases e
  rw[MV]at hc;cases hc
 rcases G with hk | hk
 . refine wpAny_storeName_local hk Y (λh' jp hs=>?_) EH;obtain⟨oL,_,_,mY,_⟩:=id Y;refine h _ ⟨I.ok,I.os,I.bare,⟨λb o e n J G=>?_,λb o e n J G=>?_,I.base.free,λb o e G=>?_,I.base.tups,I.base.frzs,I.base.tbls⟩,⟨_,jp,λj y v' e1 e2 e3=>?_⟩,λy c e=>?_,I.free,I.freeC,λp hp=>?_,a0 ⟨oL,mY,I.free⟩ hs,by simpa using I.len⟩ ⟨_,hs,.inl rfl⟩
   . exact(hs.2 b (cX (gz (bH e) I.ok.above))).trans (I.base.keep b o e n J G)
   . obtain⟨sl,e1⟩:=I.base.slot b o e n J G;exact⟨sl,(hs.2 b (cX (gz (bH e) I.ok.above))).trans e1⟩
   . obtain⟨o',e1⟩:=I.base.there b o e G;exact⟨o',(hs.2 b (cX (gz (bH e) I.ok.above))).trans e1⟩
   . by_cases O:j=i
     . subst O;rw[hi]at e1;cases e1;rw[XG A8]at e2;cases e2;exact⟨u,r,.inl ⟨hk,by simp⟩⟩
     rw[XH (fw O)]at e2;obtain⟨u',r',q⟩:=hl j y v' e1 e2 e3;refine⟨u',r',?_⟩
     rcases q with⟨k,e⟩ | ⟨k,c,e,z⟩
     . refine .inl ⟨k,?_⟩;have:y≠x:=λe=>O (EG hN e1 (e▸hi));simp[this,e]
     exact .inr ⟨k,c,e,z.sameBut hs (cne y c e)⟩
   . obtain⟨U,z⟩:=I.cell y c e;exact⟨U,z.sameBut hs (cne y c e)⟩
   obtain⟨e,n,ne,nf,d⟩:=I.pin p hp;exact⟨(hs.2 p.1 ne).trans e,n,ne,nf,d⟩
 have vt:X.fn x=true:=by
  rcases hf with z | z
  . exact z
  rw[z]at hk;cases hk
 obtain⟨c,hc⟩:=I.ok.has x (.inl hk);obtain⟨U,z⟩:=I.cell x c hc;refine wpAny_storeName_cell I.ok.kind hk hc z (λh' ia hs=>?_);obtain⟨oc,oG,Y9⟩:=id z;refine h { s with heap:=h' } ⟨I.ok,I.os,I.bare,⟨λb o e n J G=>?_,λb o e n J G=>?_,I.base.free,λb o e G=>?_,I.base.tups,I.base.frzs,I.base.tbls⟩,⟨m,Y.sameBut hs (fw (cne x c hc)),λj y v' e1 e2 e3=>?_⟩,λy c' e=>?_,I.free,I.freeC,λp hp=>?_,a0 ⟨oc,oG,I.freeC x c hc⟩ hs,by simpa using I.len⟩ ⟨c,hs,.inr hc⟩
 . exact(hs.2 b (cX (gz (bH e) (I.ok.cab x c vt hc)))).trans (I.base.keep b o e n J G)
 . obtain⟨sl,e1⟩:=I.base.slot b o e n J G;exact⟨sl,(hs.2 b (cX (gz (bH e) (I.ok.cab x c vt hc)))).trans e1⟩
 . obtain⟨o',e1⟩:=I.base.there b o e G;exact⟨o',(hs.2 b (cX (gz (bH e) (I.ok.cab x c vt hc)))).trans e1⟩
 . by_cases O:j=i
   . subst O;rw[hi]at e1;cases e1;rw[XG A8]at e2;cases e2;exact⟨u,r,.inr ⟨.inl hk,c,hc,ia⟩⟩
   rw[XH (fw O)]at e2;obtain⟨u',r',q⟩:=hl j y v' e1 e2 e3;refine⟨u',r',?_⟩
   rcases q with q | ⟨k,c',e,z'⟩
   . exact .inl q
   refine .inr ⟨k,c',e,z'.sameBut hs ?_⟩;rintro rfl;exact O (EG hN e1 (I.ok.inj _ _ _ e hc▸hi))
 . by_cases MW:c'=c
   . subst MW;exact⟨_,ia⟩
   obtain⟨w2,z2⟩:=I.cell y c' e;exact⟨w2,z2.sameBut hs MW⟩
 obtain⟨e,n,ne,nf,d⟩:=I.pin p hp;refine⟨(hs.2 p.1 ?_).trans e,n,ne,nf,d⟩;intro q;rw[q,oG]at e;have q':oc=p.2:=gM e;exact d U (by rw[<-q'];exact Y9)
theorem EI{i:Nat}{x:Str}{v:V}{Q:Unit->Shared->Prop}(I:Inv X ad Z H s)(G:X.N.Nodup)(hi:X.N[i]?=some x)(O:Loc X.env.scope x)(r:RelV v u)
 (h:∀s',Inv X ad (Z.set i (some v)) H s'->Q () s') (J:X.fn x=true\/X.env.scope.names.lookup x=some .local:=by first | exact .inl rfl | exact .inr rfl | assumption):wpAny M A (storeName X.env x u) Q E s:=
 MU I G hi O r (λs' j _=>h s' j) J
theorem Inv.call'(I:Inv X ad Z H s)(G:s'.os=s.os)(u:Un (cJ X.stack) ch H H' s.heap s'.heap)(hok:cr X.prog X.w H' s'.heap)(j:AllBare s'.gens)
 (J:∀b∈ch,(b∈X.ex\/X.s₀.heap.objs.size<=b)/\b≠X.env.locals/\(∀x c,X.env.cells.lookup x=some c->c≠b)/\∀p∈X.pn++ad,p.1≠b):Inv X ad Z H' s':=by
 obtain⟨h',g',d',t',o'⟩:=s';have e:o'=s.os:=G;subst e;exact I.call (g':=g') (t':=t') (d':=d') u hok j J
end
abbrev XK:=Value->Oa->Hp->Prop
abbrev St:=List (Option V)
variable {Z:St}
abbrev VK:=V->Hp->Prop
abbrev TE:=St->Hp->VK->Prop
abbrev TT:=St->Hp->(Bool->Hp->Prop)->Prop
abbrev TA:=St->Hp->(Lv->Hp->Prop)->Prop
structure Ends where
 nx:St->Hp->Prop
 rt:VK
 bk:St->Hp->Prop:=λ_ _=>False
 ct:St->Hp->Prop:=λ_ _=>False
variable {D:Ends}
abbrev TS:=Ends->St->Hp->Prop
variable {tb:TS}
def EP(X:Cx)(ad:Po)(Z:St)(Q:VK)(u:Value)(s':Shared):Prop:=∃v H',Inv X ad Z H' s'/\RelV v u/\Q v H'
def TP(X:Cx)(ad:Po)(Z:St)(Q:Bool->Hp->Prop)(b:Bool)(s':Shared):Prop:=∃H',Inv X ad Z H' s'/\Q b H'
def AP(X:Cx)(ad:Po)(Z:St)(Q:Lv->Hp->Prop)(us:Lw)(s':Shared):Prop:=∃vs H',Inv X ad Z H' s'/\aW vs us/\Q vs H'
def SP(X:Cx)(ad:Po)(D:Ends)(f:Flow)(s':Shared):Prop:=
 match f with
 | .next=>∃σ' H',Inv X ad σ' H' s'/\D.nx σ' H'
 | .brk=>∃σ' H',Inv X ad σ' H' s'/\D.bk σ' H'
 | .cont=>∃σ' H',Inv X ad σ' H' s'/\D.ct σ' H'
 | .ret u=>∃v σ' H',Inv X ad σ' H' s'/\RelV v u/\D.rt v H'
def PE(X:Cx)(e:Expr)(t:TE):Prop:=
 ∀(ad:Po) (s:Shared) (Z:St) (H:Hp) (Q:VK),Inv X ad Z H s->t Z H Q->wpAny (model X.prog X.w) X.A (eval e X.env) (EP X ad Z Q) X.xe s
def PT(X:Cx)(e:Expr)(t:TT):Prop:=
 ∀(ad:Po) (s:Shared) (Z:St) (H:Hp) (Q:Bool->Hp->Prop),Inv X ad Z H s->t Z H Q->wpAny (model X.prog X.w) X.A (isTrue e X.env (eval e X.env)) (TP X ad Z Q) X.xe s
def PW(X:Cx)(e:Expr)(t:TT):Prop:=
 ∀(j:Sem Value) (ad:Po) (s:Shared) (Z:St) (H:Hp) (Q:Bool->Hp->Prop),Inv X ad Z H s->t Z H Q->wpAny (model X.prog X.w) X.A (isTrue e X.env j) (TP X ad Z Q) X.xe s
theorem PW.pt{t:TT}(h:PW X e t):PT X e t:=h _
def PA(X:Cx)(es:List Expr)(t:TA):Prop:=
 ∀(pos:Pos) (ad:Po) (s:Shared) (Z:St) (H:Hp) (Q:Lv->Hp->Prop),Inv X ad Z H s->t Z H Q->wpAny (model X.prog X.w) X.A (spliced (backTo pos (starEach es X.env))) (AP X ad Z Q) X.xe s
def PS(X:Cx)(st:Stmt)(t:TS):Prop:=
 ∀(ad:Po) (s:Shared) (Z:St) (H:Hp) (D:Ends),Inv X ad Z H s->t D Z H->wpAny (model X.prog X.w) X.A (exec st X.env) (SP X ad D) X.xe s
def cf(X:Cx)(st:List Stmt)(t:TS):Prop:=
 ∀(ad:Po) (s:Shared) (Z:St) (H:Hp) (D:Ends),Inv X ad Z H s->t D Z H->wpAny (model X.prog X.w) X.A (execs st X.env) (SP X ad D) X.xe s
theorem thn{t:Sem α}{Q j:α->Shared->Prop}(h:wpAny M A t Q E s)(G:∀a s,Q a s->j a s):wpAny M A t j E s:=eP h G λ_ _ x=>x
section
inductive x5 (H:Hp) (Q:VK):Option (Option V)->Prop where
 | mk {v:V} (_:Q v H):x5 H Q (some (some v))
theorem x5.ex{H:Hp}{Q:VK}{o:Option (Option V)}(G:x5 H Q o):∃(v:V),o=some (some v)/\Q v H:=by
 cases G with
 | @mk v j=>exact⟨v,rfl,j⟩
def qM(i:Nat):TE:=λZ H Q=>x5 H Q (Z[i]?)
def tC(v:V):TE:=λ_ H Q=>Q v H
theorem Za{i:Nat}{x:Str}{pos:Pos}(O:X.N[i]?=some x)(hv:A6 X.env.scope x)(hd:(x == ("__debug__":Str))=false:=by decide)(iU:(x == ("__classdict__":Str))=false:=by decide):PE X (.Name x pos) (qM i):=by
 intro ad s Z H Q I h;obtain⟨v,e,h⟩:=x5.ex h;obtain⟨m,hn,U⟩:=I.loc;obtain⟨u,r,l⟩:=U i x v O e hv;have j:EP X ad Z Q u s:=⟨v,H,I,r,h⟩
 rcases l with⟨hk,Y⟩ | ⟨hk,c,G,J⟩
 . exact wpAny_Name (wpAny_loadName_local I.ok.kind hk hn Y j) hd
 rcases hk with hk | hk
 . exact wpAny_Name (wpAny_loadName_cell I.ok.kind hk G J j) hd
 exact wpAny_Name (wpAny_loadName_free I.ok.kind hk G J j iU) hd
theorem am{i j pos}:PE X (.Constant (.int i) j pos) (tC (.int i)):=λ_ _ _ H _ I h=>wpAny_Constant_int ⟨.int i,H,I.tok _,⟨_,rfl⟩,h⟩
theorem x6{b j pos}:PE X (.Constant (.bool b) j pos) (tC (.bl b)):=λ_ _ _ H _ I h=>Constant_bool ⟨.bl b,H,I,rfl,h⟩
theorem jq{j pos}:PE X (.Constant .none j pos) (tC .non):=λ_ _ _ H _ I h=>Constant_none ⟨.non,H,I,rfl,h⟩
theorem bO{x j pos}:PE X (.Constant (.str x) j pos) (tC (.str x)):=λ_ _ _ H _ I h=>Calls.Constant_str ⟨.str x,H,I.tok _,⟨_,rfl⟩,h⟩
def Gl(X:Cx)(x:Str):Prop:=X.env.kindOf x=some .globalImplicit
theorem vv{H:Hp}{x:Str}{pos:Pos}{Q:VP}(I:Inv X ad Z H s)(j:Gl X x)(G:X.mg x=some u)(h:Q u s)
 (hd:(x == ("__debug__":Str))=false:=by decide):wpAny (model X.prog X.w) X.A (eval (.Name x pos) X.env) Q E s:=
 av7 I.ok.kind j (Calls.loadGlobal_global (by rw[I.ok.glob];exact I.mod.glob.keeps I.bk) G h) hd
theorem tq{H:Hp}{x:Str}{pos:Pos}{Q:VP}(I:Inv X ad Z H s)(j:Gl X x)(G:X.mg x=none)(O:bootBuiltins x=some u)(h:Q u s)
 (J:x≠"__name__":=by decide) (hd:(x == ("__debug__":Str))=false:=by decide):wpAny (model X.prog X.w) X.A (eval (.Name x pos) X.env) Q E s:=by
 obtain⟨U,h1,h2⟩:=I.mod.blt;exact av7 I.ok.kind j (Calls.loadGlobal_builtin (by rw[I.ok.glob];exact I.mod.glob.keeps I.bk) G (by rw[I.ok.blt];exact h1.keeps I.bk) ((h2 x J).trans O) h) hd
theorem vw{x:Str}{v:V}{pos:Pos}(j:Gl X x)(G:X.mg x=some u)(r:RelV v u)(hd:(x == ("__debug__":Str))=false:=by decide):PE X (.Name x pos) (tC v):=
 λ_ _ _ H _ I h=>vv I j G ⟨v,H,I,r,h⟩ hd
theorem Zb{x:Str}{v:V}{pos:Pos}(j:Gl X x)(G:X.mg x=none)(O:bootBuiltins x=some u)(r:RelV v u)(J:x≠"__name__":=by decide)(hd:(x == ("__debug__":Str))=false:=by decide):PE X (.Name x pos) (tC v):=
 λ_ _ _ H _ I h=>tq I j G O ⟨v,H,I,r,h⟩ J hd
variable {a b:Expr}{ta tb:TE}{pos:Pos}
def PC(X:Cx)(op:CmpOp)(a b:Expr)(t:TE):Prop:=
 ∀(ad:Po) (s:Shared) (Z:St) (H:Hp) (Q:VK),Inv X ad Z H s->t Z H Q ->
  wpAny (model X.prog X.w) X.A (eval a X.env) (λv j=>wpAny (model X.prog X.w) X.A (eval b X.env) (λu G=>wpAny (model X.prog X.w) X.A (compareOp op v u) (EP X ad Z Q) X.xe G) X.xe j) X.xe s
inductive MX (Q:Bool->Hp->Prop) (H1:Hp):V->Prop where
 | mk {c:Bool} (_:Q c H1):MX Q H1 (.bl c)
def tB(t:TE):TT:=λZ H Q=>t Z H λx H1=>MX Q H1 x
theorem Zc{op:CmpOp}{t:TE}(h:PC X op a b t)(h1:behindInMarks op b=false:=by first | exact nobehind _ (by decide) (by decide) | rfl):PE X (.Compare a [op] [b] pos) t:=λad s Z H Q I j=>wpAny_Compare1 (h ad s Z H Q I j) h1
theorem oH{op:CmpOp}{t:TE}(h:PC X op a b t)(h1:behindInMarks op b=false:=by first | exact nobehind _ (by decide) (by decide) | rfl):PT X (.Compare a [op] [b] pos) (tB t):=by
 intro ad s Z H Q I J;refine av8 (thn (h ad s Z H _ I J) λv Y h1=>thn h1 λu s2 h2=>thn h2 λc s3 G=>aP G λx H1 j U O=>?_) h1;obtain @⟨d,q⟩:=O;cases U;exact qr ⟨H1,j,q⟩
theorem mr{t:TE}(h:PE X e t)(O:∀j,isTrue e X.env j=(do let v <-j;standAt e.pos;holding [v] (truthy v)):=by intro _;rfl):PT X e (tB t):=by
 intro ad s Z H Q I U;refine isTrue_plain (thn (h ad s Z H _ I U) λv s1 J=>aP J λx H1 G r1 Y=>?_) (O _);obtain @⟨d,q⟩:=Y;cases r1;exact qr ⟨H1,G,q⟩
variable {tA A9:TT}{rest:List Expr}
def Zf(t u:TT):TT:=λZ H Q=>t Z H λc H1=>if c=true then u Z H1 Q else Q false H1
def Zg(t u:TT):TT:=λZ H Q=>t Z H λc H1=>if c=true then Q true H1 else u Z H1 Q
def Zh(t:TT):TT:=λZ H Q=>t Z H λc H1=>Q (!c) H1
theorem tu(j:PT X a tA):PW X (.BoolOp .And [a] pos) tA:=by
 intro J ad s Z H Q I h;refine isTrue_and (thn (j ad s Z H Q I h) λc G e=>?_);cases c with
 | true=>exact isTrue_and_nil e
 | false=>exact e
theorem Ba(j:PT X a tA):PW X (.BoolOp .Or [a] pos) tA:=by
 intro J ad s Z H Q I h;refine isTrue_or (thn (j ad s Z H Q I h) λc G e=>?_);cases c with
 | false=>exact isTrue_or_nil e
 | true=>exact e
theorem oI(U:PT X a tA)(Y:PW X (.BoolOp .And (b::rest) pos) A9):PW X (.BoolOp .And (a::b::rest) pos) (Zf tA A9):=by
 intro wh ad s Z H Q I h;refine isTrue_and (thn (U ad s Z H _ I h) λc s1 J=>J.elim λH1 O=>O.elim λj G=>?_);cases c with
 | true=>exact Y wh ad s1 Z H1 Q j G
 | false=>exact⟨H1,j,G⟩
theorem yc(U:PT X a tA)(Y:PW X (.BoolOp .Or (b::rest) pos) A9):PW X (.BoolOp .Or (a::b::rest) pos) (Zg tA A9):=by
 intro wh ad s Z H Q I h;refine isTrue_or (thn (U ad s Z H _ I h) λc s1 J=>J.elim λH1 O=>O.elim λj G=>?_);cases c with
 | true=>exact⟨H1,j,G⟩
 | false=>exact Y wh ad s1 Z H1 Q j G
theorem yd(j:PT X a tA):PT X (.UnaryOp .Not a pos) (Zh tA):=by
 intro ad s Z H Q I h;exact isTrue_not (j ad s Z H (λc H1=>Q (!c) H1) I h)
inductive MY (tb:TE) (Z:St) (Q:VK) (H1:Hp):V->Prop where
 | mk {c:Bool} (_:if c=true then tb Z H1 Q else Q (.bl false) H1):MY tb Z Q H1 (.bl c)
def Zm(ta tb:TE):TE:=λZ H Q=>ta Z H λx H1=>MY tb Z Q H1 x
inductive MZ (tb:TE) (Z:St) (Q:VK) (H1:Hp):V->Prop where
 | mk {c:Bool} (_:if c=true then Q (.bl true) H1 else tb Z H1 Q):MZ tb Z Q H1 (.bl c)
def Zn(ta tb:TE):TE:=λZ H Q=>ta Z H λx H1=>MZ tb Z Q H1 x
inductive M0 (Q:VK) (H1:Hp):V->Prop where
 | mk {c:Bool} (_:Q (.bl (!c)) H1):M0 Q H1 (.bl c)
def Zo(ta:TE):TE:=λZ H Q=>ta Z H λx H1=>M0 Q H1 x
theorem qN{op}{t:TE}(h:PE X a t):PE X (.BoolOp op [a] pos) t:=λad s Z H Q I j=>BoolOp_one (h ad s Z H Q I j)
theorem ye(O:PE X a ta)(U:PE X (.BoolOp .And (b::rest) pos) tb):PE X (.BoolOp .And (a::b::rest) pos) (Zm ta tb):=by
 intro ad s Z H Q I h;refine BoolOp_and (thn (O ad s Z H _ I h) λv s1 J=>aP J λx H1 G Y j=>?_);obtain @⟨c,j⟩:=j;cases Y;refine qr ?_;cases c with
 | true=>exact U ad s1 Z H1 Q G j
 | false=>exact⟨.bl false,H1,G,rfl,j⟩
theorem EJ(O:PE X a ta)(U:PE X (.BoolOp .Or (b::rest) pos) tb):PE X (.BoolOp .Or (a::b::rest) pos) (Zn ta tb):=by
 intro ad s Z H Q I h;refine BoolOp_or (thn (O ad s Z H _ I h) λv s1 J=>aP J λx H1 G Y j=>?_);obtain @⟨c,j⟩:=j;cases Y;refine qr ?_;cases c with
 | false=>exact U ad s1 Z H1 Q G j
 | true=>exact⟨.bl true,H1,G,rfl,j⟩
theorem Zr(O:PE X a ta):PE X (.UnaryOp .Not a pos) (Zo ta):=by
 intro ad s Z H Q I h;refine UnaryOp_ (thn (O ad s Z H _ I h) λv Y J=>aP J λx H1 G U j=>?_);obtain @⟨c,j⟩:=j;cases U;exact not_of (qr ⟨.bl (!c),H1,G,rfl,j⟩)
def Zt(t:TT)(ta tb:TE):TE:=λZ H Q=>t Z H λc H1=>if c=true then ta Z H1 Q else tb Z H1 Q
theorem M3(hc:PT X c tA)(Y:PE X a ta)(hb:PE X b tb):PE X (.IfExp c a b pos) (Zt tA ta tb):=by
 intro ad s Z H Q I h;refine wpAny_IfExp (thn (hc ad s Z H _ I h) λd J O=>O.elim λH1 U=>U.elim λj G=>?_);cases d with
 | true=>exact Y ad J Z H1 Q j G
 | false=>exact hb ad J Z H1 Q j G
end
def ac(K:Fg)(H:Hp)(a:Addr)(xs:Lv):Prop:=
 Rd H a (.lst xs) \/
  ∃(o:Obj) (b_:Av) (n:Nat),K.lookup a=some o/\o.cls=.type "list"/\o.dict=none/\o.data=.seq b_ n/\b_.size<=sizeLine/\aW xs b_.toList
def aX(K:Fg)(H:Hp)(a:Addr)(xs:Lv):Prop:=
 Rd H a (.tup xs) \/
  ∃(o:Obj) (b_:Av) (n:Nat),K.lookup a=some o/\o.cls=.type "tuple"/\o.data=.seq b_ n/\b_.size<=sizeLine/\aW xs b_.toList
def Zw:Value->Option V
 | .none=>some .non
 | .bool b=>some (.bl b)
 | .int i _=>some (.int i)
 | .str x _=>some (.str x)
 | .bytes b _=>some (.byt b)
 | .float b _=>some (.flt b)
 | .ref a=>some (.ref a)
 | .type n=>some (.ty n)
 | _=>none
theorem RelV.abs{x:V}(r:RelV x u):Zw u=some x:=by
 cases x with
 | non=>cases r;rfl
 | bl _=>cases r;rfl
 | int _=>obtain⟨t,rfl⟩:=r;rfl
 | str _=>obtain⟨t,rfl⟩:=r;rfl
 | byt _=>obtain⟨t,rfl⟩:=r;rfl
 | flt _=>obtain⟨t,rfl⟩:=r;rfl
 | ref _=>cases r;rfl
 | ty _=>cases r;rfl
theorem RelV.inj{x y:V}(r:RelV x u)(q:RelV y u):x=y:=gM (r.abs.symm.trans q.abs)
theorem aW.inj:∀{xs ys:Lv}{us:Lw},aW xs us->aW ys us->xs=ys
 | _,_,_,.nil,.nil=>rfl
 | _,_,_,.cons r t,.cons r' t'=>by rw[r.inj r',aW.inj t t']
section
variable {H:Hp}{xs ys:Lv}
theorem ac.of(h:H a=some (.lst xs)):ac K H a xs:=.inl (.inl h)
theorem aX.of(h:H a=some (.tup xs)):aX K H a xs:=.inl (.inl h)
theorem Inv.list(I:Inv X ad Z H s)(h:ac X.K H a xs):∃b_:Lw,aW xs b_/\PlainL s.heap a b_.toArray/\xs.length<=sizeLine:=by
 rcases h with h | ⟨o,b_,n,G,j,hd,hs,hz,r⟩
 . obtain⟨z,b_,n,r,e⟩:=h.ok I.hok;exact⟨b_,r,⟨_,n,e,rfl,rfl,rfl⟩,z⟩
 refine⟨b_.toList,r,⟨o,n,I.kIn a o G,j,hd,by simpa using hs⟩,?_⟩;have e:=r.length;simp only[eJ]at e;omega
theorem Inv.tuple(I:Inv X ad Z H s)(h:aX X.K H a xs):∃b_:Lw,aW xs b_/\IsTup s.heap a b_.toArray/\xs.length<=sizeLine:=by
 rcases h with h | ⟨o,b_,n,G,j,hs,hz,r⟩
 . obtain⟨z,b_,r,p⟩:=h.ok I.hok;exact⟨b_,r,p,z⟩
 refine⟨b_.toList,r,⟨o,I.kIn a o G,j,n,by simpa using hs⟩,?_⟩;have e:=r.length;simp only[eJ]at e;omega
theorem Inv.list_inj(I:Inv X ad Z H s)(h:ac X.K H a xs)(h':ac X.K H a ys):xs=ys:=by
 obtain⟨b_,r,⟨o,n,e,_,_,d⟩,_⟩:=I.list h;obtain⟨its',G,⟨o',J,j,_,_,d'⟩,_⟩:=I.list h';rw[e]at j;cases j;rw[d]at d';injection d' with d1 _
 have:b_=its':=by simpa using eZ Array.toList d1
 subst this;exact r.inj G
theorem Inv.tuple_inj(I:Inv X ad Z H s)(h:aX X.K H a xs)(h':aX X.K H a ys):xs=ys:=by
 obtain⟨b_,r,⟨o,e,_,n,d⟩,_⟩:=I.tuple h;obtain⟨its',G,⟨o',j,_,J,d'⟩,_⟩:=I.tuple h';rw[e]at j;cases j;rw[d]at d';injection d' with d1 _
 have:b_=its':=by simpa using eZ Array.toList d1
 subst this;exact r.inj G
end
abbrev Cx.wish (X:Cx) (E:VP):Cx:={ X with xe:=E }
abbrev Cx.nox (X:Cx):Cx:=X.wish λ_ _=>False
theorem Cx.Ok.wish(ok:X.Ok)(E:VP):(X.wish E).Ok:=
 ⟨ok.mod,ok.kind,ok.glob,ok.blt,ok.above,ok.inj,ok.has,ok.cab,ok.hd,ok.frames,ok.stk,ok.exf,ok.bs,ok.bsz,ok.noex,ok.exfs,ok.funs,ok.frf⟩
theorem Cx.Ok.unwish(ok:(X.wish E).Ok):X.Ok:=
 ⟨ok.mod,ok.kind,ok.glob,ok.blt,ok.above,ok.inj,ok.has,ok.cab,ok.hd,ok.frames,ok.stk,ok.exf,ok.bs,ok.bsz,ok.noex,ok.exfs,ok.funs,ok.frf⟩
section
variable {H:Hp}
theorem Inv.wish(I:Inv X ad Z H s)(E:VP):Inv (X.wish E) ad Z H s:=⟨I.ok.wish E,I.os,I.bare,I.base,I.loc,I.cell,I.free,I.freeC,I.pin,I.hok,I.len⟩
theorem Inv.unwish(I:Inv (X.wish E) ad Z H s):Inv X ad Z H s:=⟨I.ok.unwish,I.os,I.bare,I.base,I.loc,I.cell,I.free,I.freeC,I.pin,I.hok,I.len⟩
theorem SP.unwish{f:Flow}(h:SP (X.wish E) ad D f s'):SP X ad D f s':=by
 cases f with
 | next=>obtain⟨σ',H',I,q⟩:=h;exact⟨σ',H',I.unwish,q⟩
 | brk=>obtain⟨σ',H',I,q⟩:=h;exact⟨σ',H',I.unwish,q⟩
 | cont=>obtain⟨σ',H',I,q⟩:=h;exact⟨σ',H',I.unwish,q⟩
 | ret u=>obtain⟨v,σ',H',I,r,q⟩:=h;exact⟨v,σ',H',I.unwish,r,q⟩
theorem cf.nox{st:List Stmt}{t:TS}(h:cf X.nox st t):cf X st t:=λad s Z H D I j=>
 eP (h ad s Z H D (I.wish _) j) (λ_ _ q=>q.unwish) λ_ _ z=>False.elim z
end
section
variable {st:Stmt}{rest:List Stmt}{t u:TS}{te:TE}{pos:Pos}
def Zx:TS:=λD Z H=>D.nx Z H
def aM(t u:TS):TS:=λD Z H=>t { D with nx:=u D } Z H
theorem cZ:cf X [] Zx:=λ_ _ Z H _ I h=>Eh ⟨Z,H,I,h⟩
theorem ah(h1:PS X st t)(h2:cf X rest u):cf X (st::rest) (aM t u):=by
 intro ad s Z H D I h;refine XI (thn (h1 ad s Z H { D with nx:=u D } I h) λf G q=>?_);cases f with
 | next=>
  obtain⟨σ',H',j,q⟩:=q;exact h2 ad G σ' H' D j q
 | ret v=>exact q
 | brk=>exact q
 | cont=>exact q
theorem al(h1:PS X st t):cf X [st] t:=by
 intro ad s Z H D I h;refine XI (thn (h1 ad s Z H D I h) λf j q=>?_);cases f with
 | next=>exact Eh q
 | ret v=>exact q
 | brk=>exact q
 | cont=>exact q
theorem Inv.quiet{H:Hp}(I:Inv X ad Z H s):interactive X.env=false:=by simp[interactive,I.ok.kind]
def Zy(te:TE):TS:=λD Z H=>te Z H λ_ H1=>D.nx Z H1
theorem cp(J:PE X e te)(hs:swapsWith e none pos.line X.env=pure false:=by rfl):PS X (.Expr e pos) (Zy te):=by
 intro ad s Z H D I h;exact wpAny_Expr_any (thn (J ad s Z H _ I h) λv Y G=>aP G λx H1 j U O=>⟨Z,H1,j,O⟩) I.quiet hs
def ZA(te:TE):TS:=λD Z H=>te Z H D.rt
theorem aT(J:PE X e te):PS X (.Return (some e) pos) (ZA te):=by
 intro ad s Z H D I h;exact wpAny_Return_some (thn (J ad s Z H _ I h) λv Y G=>aP G λx H1 j U O=>⟨x,Z,H1,j,U,O⟩)
def ZC:TS:=λD _ H=>D.rt .non H
theorem M4:PS X (.Return none pos) ZC:=λ_ _ Z H _ I h=>wpAny_Return_none ⟨.non,Z,H,I,rfl,h⟩
def ZD(c:TT)(t u:TS):TS:=λD Z H=>c Z H λb H1=>if b=true then t D Z H1 else u D Z H1
theorem cg{a b:List Stmt}{tc:TT}(hc:PT X c tc)(Y:cf X a t)(hb:cf X b u):PS X (.If c a b pos) (ZD tc t u):=by
 intro ad s Z H D I h;refine wpAny_If (thn (hc ad s Z H _ I h) λd J O=>O.elim λH1 U=>U.elim λj G=>?_);cases d with
 | true=>exact Y ad J Z H1 D j G
 | false=>exact hb ad J Z H1 D j G
def M6:TS:=λ_ _ _=>False
theorem M7:PS X st M6:=λ_ _ _ _ _ _ h=>h.elim
theorem EK{j:List Stmt}:cf X j M6:=λ_ _ _ _ _ _ h=>h.elim
end
abbrev TG:=V->St->Hp->(St->Hp->Prop)->Prop
variable {g:TG}
abbrev mZ:=Lv->St->Hp->(St->Hp->Prop)->Prop
def PG(X:Cx)(j:Expr)(t:TG):Prop:=
 ∀(ad:Po) (s:Shared) (Z:St) (H:Hp) (v:V) (u:Value) (Q:St->Hp->Prop),Inv X ad Z H s->RelV v u->t v Z H Q ->
  wpAny (model X.prog X.w) X.A (assign j X.env u) (λ_ s'=>∃σ' H',Inv X ad σ' H' s'/\Q σ' H') X.xe s
def gf(X:Cx)(j:List Expr)(t:mZ):Prop:=
 ∀(ad:Po) (s:Shared) (Z:St) (H:Hp) (vs:Lv) (us:Lw) (Q:St->Hp->Prop),Inv X ad Z H s->aW vs us->t vs Z H Q ->
  wpAny (model X.prog X.w) X.A (assignInOrder ((assignEach j X.env).map (·.2)) us) (λ_ s'=>∃σ' H',Inv X ad σ' H' s'/\Q σ' H') X.xe s
section
variable {pos:Pos}
def ki(i:Nat):TG:=λv Z H Q=>Q (Z.set i (some v)) H
theorem bf{i:Nat}{x:Str}(G:X.N.Nodup)(hi:X.N[i]?=some x)(O:Loc X.env.scope x)(J:X.fn x=true\/X.env.scope.names.lookup x=some .local:=by first | exact .inl rfl | exact .inr rfl | assumption):PG X (.Name x pos) (ki i):=by
 intro ad s Z H v u Q I r h;exact wpAny_assign_Name (EI I G hi O r (λs' j=>⟨_,H,j,h⟩) J)
def EL:mZ:=λvs Z H Q=>vs=[]/\Q Z H
inductive M8 (t:TG) (u:mZ) (Z:St) (H:Hp) (Q:St->Hp->Prop):Lv->Prop where
 | mk {v:V}{r:Lv} (_:t v Z H λσ' H'=>u r σ' H' Q):M8 t u Z H Q (v::r)
def yf(t:TG)(u:mZ):mZ:=λvs Z H Q=>M8 t u Z H Q vs
theorem mv:gf X [] EL:=by
 intro ad s Z H vs us Q I r h;obtain⟨e,h⟩:=h;subst e;cases r;exact assignInOrder_nil ⟨Z,H,I,h⟩
theorem fM{t:TG}{u:mZ}(h1:PG X e t)(h2:gf X es u)
 (hs:(assignEach (e::es) X.env).map (·.2)=assign e X.env::(assignEach es X.env).map (·.2):=by rfl):gf X (e::es) (yf t u):=by
 intro ad s Z H vs us Q I r h;obtain @⟨v,vr,h⟩:=h;cases r with
 | cons r Y=>
  rw[hs];refine assignInOrder_cons (thn (h1 ad s Z H _ _ _ I r h) λ_ s1 G=>G.elim λσ1 J=>J.elim λH1 O=>O.elim λj U=>?_);exact h2 ad s1 σ1 H1 _ _ Q j Y U
inductive M9 (K:Fg) (n:Nat) (t:mZ) (Z:St) (H:Hp) (Q:St->Hp->Prop):V->Prop where
 | mk {a:Addr}{xs:Lv} (_:aX K H a xs) (_:xs.length=n) (_:t xs Z H Q):M9 K n t Z H Q (.ref a)
def tw(K:Fg)(n:Nat)(t:mZ):TG:=λv Z H Q=>M9 K n t Z H Q v
theorem m9{k:Nat}{t:mZ}(U:X.calm=true)(h:gf X es t)
 (hn:(assignEach es X.env).length=n:=by rfl) (O:(assignEach es X.env).findIdx? (·.1)=none:=by rfl):PG X (.Tuple es k pos) (tw X.K n t):=by
 intro ad s Z H v u Q I r j;obtain @⟨a,xs,hq,Y,j⟩:=j;cases r;obtain⟨b_,G,ht,hz⟩:=I.tuple hq;refine assign_Tuple_tuple (I.ok.hd U) ht (by simp[hn,<-Y,G.length]) O λh' hx=>?_;have J:Inv X ad Z H { s with heap:=h' }:=I.kept (t':=s.toks) λb o e=>hx b o (cX (bH e)) e;exact h ad _ Z H xs _ Q J (by simpa using G) j
def Nb(te:TE)(g:TG):TS:=λD Z H=>te Z H λx H1=>g x Z H1 D.nx
theorem aI{i:Nat}{x:Str}{te:TE}{pos':Pos}(O:X.N.Nodup)(hi:X.N[i]?=some x)(hx:Loc X.env.scope x)(U:PE X e te)(hs:swapsWith e (some (.Name x pos')) pos.line X.env=pure false:=by rfl)(Y:X.fn x=true\/X.env.scope.names.lookup x=some .local:=by first | exact .inl rfl | exact .inr rfl | assumption) :
 PS X (.Assign [.Name x pos'] e pos) (Nb te (ki i)):=by
 intro ad s Z H D I h;refine wpAny_Assign_Name (thn (U ad s Z H _ I h) λv s1 J=>aP J λy H1 j r1 q1=>?_) hs;exact EI j O hi hx r1 (λs2 G=>⟨_,H1,G,q1⟩) Y
def ZK(c:TT)(tb:TS):TS:=λD Z H=>∃W:Nat->St->Hp->Prop,(∃m,W m Z H)/\∀m Z H,W m Z H ->
 c Z H λb H1=>if b=true then∃N:St->Hp->Prop,(∀σ' H',N σ' H'->∃m',m'<m/\W m' σ' H')/\tb { D with nx:=N,ct:=N,bk:=D.nx } Z H1 else D.nx Z H1
theorem Nc{tc:TT}(hp:PassesOwn (model X.prog X.w) X.A X.env X.xe)(hc:PT X c tc)(hb:cf X body tb):PS X (.While c body [] pos) (ZK tc tb):=by
 intro ad s Z H D I h;obtain⟨W,⟨m0,w0⟩,a0⟩:=h;refine wpAny_While (codeAny_whileLoop (λn s'=>∃σ' H',Inv X ad σ' H' s'/\W n σ' H') ?_ m0 ⟨Z,H,I,w0⟩);rintro n s1 ⟨σ1,H1,I1,w1⟩;refine xE hp (thn (hc ad s1 σ1 H1 _ I1 (a0 n σ1 H1 w1)) λb s2 ZL=>ZL.elim λH2 ZM=>ZM.elim λY j=>?_);cases b with
 | true=>
  obtain⟨N,hN,j⟩:=j;rw[ai rfl];refine xE hp (thn (hb ad s2 σ1 H2 _ Y j) λf s3 G=>?_);cases f with
  | next=>
   obtain⟨σ3,H3,J,n3⟩:=G;obtain⟨m',O,U⟩:=hN σ3 H3 n3;exact⟨m',O,σ3,H3,J,U⟩
  | cont=>
   obtain⟨σ3,H3,J,n3⟩:=G;obtain⟨m',O,U⟩:=hN σ3 H3 n3;exact⟨m',O,σ3,H3,J,U⟩
  | brk=>exact G
  | ret v=>exact G
 | false=>
  rw[ag cW];exact Eh ⟨σ1,H2,Y,j⟩
end
structure It where
 go:Nat->Hp->Prop
 yld:Nat->Hp->V->Hp->Prop
 stop:Nat->Hp->Prop
def fz(X:Cx)(ad:Po)(H:Hp)(b:Addr):Prop:=
 H b=none/\b≠X.env.locals/\b∉X.fs/\(b∈X.ex\/X.s₀.heap.objs.size<=b)/\(∀x c,X.env.cells.lookup x=some c->c≠b)/\∀p∈X.pn++ad,p.1≠b
theorem Inv.fpOk{H H':Hp}{b:Addr}(I:Inv X ad Z H s)(j:s.heap.objs.size<=b)(G:H' b=none):fz X ad H' b:=by
 refine⟨G,kU (gz I.lt j),I.nofs j,.inr (b8 I.sz j),λx c e z=>?_,λp J z=>?_⟩
 . obtain⟨v,q⟩:=I.cell x c e;exact absurd (gz q.lt (by rw[z];exact j)) (oA _)
 exact absurd (gz (bH (I.pin p J).1) (by rw[z];exact j)) (oA _)
structure oJ(P:Program)(w:World)(K:Fg)(tg:Expr)(J:It)(fp:List Addr)(it:Addr)(tn:Nat->Heap->Prop):Prop where
 mem:it∈fp
 obj:∀i h,tn i h->∀b∈fp,∃o,h.get? b=some o/\∀v,o.data≠.cell v
 keep:∀i h h',tn i h->(∀b∈fp,∀o,h.get? b=some o->h'.get? b=some o)->tn i h'
 item:∀(X:Cx),X.prog=P->X.w=w->X.K=K->X.calm=true->∀(i:Nat) (ad:Po) (s:Shared) (Z:St) (H:Hp) (E:VP),Inv X ad Z H s->(∀b∈fp,fz X ad H b)->tn i s.heap->J.go i H ->
  wpAny (model P w) X.A (pyNext (.ref it)) (λr s1=>∃u,r=some u /\
   wpAny (model P w) X.A (letOwnedTupleGo tg (.ref it) u) (λ_ s2=>∃x H',Inv X ad Z H' s2/\RelV x u/\J.yld i H x H'/\tn (i+1) s2.heap/\∀b∈fp,H' b=none) E s1) E s
 done:∀(X:Cx),X.prog=P->X.w=w->X.K=K->X.calm=true->∀(i:Nat) (ad:Po) (s:Shared) (Z:St) (H:Hp) (E:VP),Inv X ad Z H s->(∀b∈fp,fz X ad H b)->tn i s.heap->J.stop i H ->
  wpAny (model P w) X.A (pyNext (.ref it)) (λr s1=>r=none/\Inv X ad Z H s1) E s
 self:∀(A:Around) (i:Nat) (s:Shared) (Q:VP) (E:VP),tn i s.heap->Q (.ref it) s->wpAny (model P w) A (pyIter (.ref it)) Q E s
abbrev TI:=St->Hp->(It->Hp->Prop)->Prop
def EM(X:Cx)(ad:Po)(Z:St)(tg:Expr)(R:It->Hp->Prop)(O:Value)(j:Shared):Prop:=
 ∃(it:Addr) (fp:List Addr) (G:Nat->Heap->Prop) (J:It) (H':Hp),O=.ref it/\Inv X ad Z H' j/\oJ X.prog X.w X.K tg J fp it G/\G 0 j.heap/\(∀b∈fp,fz X ad H' b)/\R J H'
def PI(X:Cx)(tg iter:Expr)(G:TI):Prop:=
 ∀(ad:Po) (s:Shared) (Z:St) (H:Hp) (R:It->Hp->Prop),Inv X ad Z H s->G Z H R ->
  wpAny (model X.prog X.w) X.A (eval iter X.env) (λv j=>wpAny (model X.prog X.w) X.A (pyIter v) (EM X ad Z tg R) X.xe j) X.xe s
theorem Bd{it:Addr}{o:Obj}{n:String}{vs:Av}{Q:Unit->Shared->Prop}(O:s.heap.get? it=some o)(G:o.cls=.type n)(hd:o.data=.fields vs)
 (J:["enumerate","zip","dict_itemiterator","dict_reverseitemiterator","odict_iterator","itertools.zip_longest","itertools.pairwise"].contains n=false) (j:Q () s):wpAny M A (letOwnedTupleGo tg (.ref it) u) Q E s:=by
 unfold letOwnedTupleGo;cases tg<;>first
  | exact aq j
  | (cases u<;>first
   | exact aq j
   | (refine ae (wpAny_load O ?_)
      rw[G,hd];show wpAny M A (if (["enumerate","zip","dict_itemiterator","dict_reverseitemiterator","odict_iterator","itertools.zip_longest","itertools.pairwise"].contains n && vs[0]? == some (rawInt _))=true then _ else _) Q E s;rw[ag (by intro h;rw[J,Ei]at h;cases h)];exact aq j))
def ni(K:Fg)(a:Addr):It:=
 ⟨λi H=>∃xs x,ac K H a xs/\xs[i]?=some x,λi H x H'=>H'=H/\∀xs,ac K H a xs->xs[i]?=some x,λi H=>∃xs,ac K H a xs/\xs.length<=i⟩
def EN(K:Fg)(a:Addr):It:=
 ⟨λi H=>∃xs x,aX K H a xs/\xs[i]?=some x,λi H x H'=>H'=H/\∀xs,aX K H a xs->xs[i]?=some x,λi H=>∃xs,aX K H a xs/\xs.length<=i⟩
def oK(lo:Int)(n:Nat):It:=⟨λi _=>i<n,λi H x H'=>H'=H/\x=.int (lo+i),λi _=>n<=i⟩
theorem ZN(a it:Addr):oJ P w K tg (ni K a) [it] it (λi h=>h.IsListIter it a i) where
 mem:=by simp
 obj:=λi h st b j=>by
  have e:b=it:=by simpa using j
  subst e;obtain⟨o,e,c,d⟩:=st;exact⟨o,e,λv z=>by rw[d]at z;cases z⟩
 keep:=λi h h' st k=>st.at λo e=>k it (by simp) o e
 item:=by
  intro X hP hw hK hc i ad s Z H E I G st hg;subst hP hw hK;obtain⟨xs,x,J,hx⟩:=hg;obtain⟨b_,rv,p,hz⟩:=I.list J;obtain⟨u,hu,ru⟩:=rv.get hx;obtain⟨f0,f1,f2,O,U,Y⟩:=G it (by simp);refine wpAny_pyNext_list_item st p.isList (x:=u) (by simpa using hu) λh' fN sb=>?_;have I1:Inv X ad Z H { s with heap:=h' }:=I.turned (t':=s.toks) (λb o j e=>(sb.2 b j).trans e) f0 f1 O U Y;obtain⟨o,e,c,d⟩:=id fN;exact⟨u,rfl,Bd (s:={ s with heap:=h' }) e c d (by decide) ⟨x,H,I1,ru,⟨rfl,λys hy=>by rw[I.list_inj hy J];exact hx⟩,fN,λb j=>(G b j).1⟩⟩
 done:=by
  intro X hP hw hK hc i ad s Z H E I G st hg;subst hP hw hK;obtain⟨xs,J,hx⟩:=hg;obtain⟨b_,rv,p,hz⟩:=I.list J;obtain⟨f0,f1,f2,O,U,Y⟩:=G it (by simp);have hl:=rv.length;exact wpAny_pyNext_list_end (I.ok.hd hc) st p.isList (by simp;omega) λh' eb=>⟨rfl,I.turned (t':=s.toks) (λb o j e=>eb b o j e) f0 f1 O U Y⟩
 self:=λ_ _ _ _ _ st h=>wpAny_pyIter_listiter st h
theorem ZO(a it:Addr):oJ P w K tg (EN K a) [it] it (λi h=>h.IsTupleIter it a i) where
 mem:=by simp
 obj:=λi h st b j=>by
  have e:b=it:=by simpa using j
  subst e;obtain⟨o,e,c,d⟩:=st;exact⟨o,e,λv z=>by rw[d]at z;cases z⟩
 keep:=λi h h' st k=>st.at λo e=>k it (by simp) o e
 item:=by
  intro X hP hw hK hc i ad s Z H E I G st hg;subst hP hw hK;obtain⟨xs,x,J,hx⟩:=hg;obtain⟨b_,rv,p,hz⟩:=I.tuple J;obtain⟨u,hu,ru⟩:=rv.get hx;obtain⟨f0,f1,f2,O,U,Y⟩:=G it (by simp);refine wpAny_pyNext_tuple_item st (show s.heap.IsTuple a b_.toArray from p) (x:=u) (by simpa using hu) λh' fN sb=>?_;have I1:Inv X ad Z H { s with heap:=h' }:=I.turned (t':=s.toks) (λb o j e=>(sb.2 b j).trans e) f0 f1 O U Y;obtain⟨o,e,c,d⟩:=id fN;exact⟨u,rfl,Bd (s:={ s with heap:=h' }) e c d (by decide) ⟨x,H,I1,ru,⟨rfl,λys hy=>by rw[I.tuple_inj hy J];exact hx⟩,fN,λb j=>(G b j).1⟩⟩
 done:=by
  intro X hP hw hK hc i ad s Z H E I G st hg;subst hP hw hK;obtain⟨xs,J,hx⟩:=hg;obtain⟨b_,rv,p,hz⟩:=I.tuple J;obtain⟨f0,f1,f2,O,U,Y⟩:=G it (by simp);have hl:=rv.length;exact wpAny_pyNext_tuple_end (I.ok.hd hc) st (show s.heap.IsTuple a b_.toArray from p) (by simp;omega) λh' eb=>⟨rfl,I.turned (t':=s.toks) (λb o j e=>eb b o j e) f0 f1 O U Y⟩
 self:=λ_ _ _ _ _ st h=>wpAny_pyIter_tupleiter st h
theorem ZP(it:Addr)(lo:Int)(n:Nat):oJ P w K tg (oK lo n) [it] it (λi h=>IsRangeIter h it (lo+(i:Nat) * 1) ((n:Int) - (i:Nat)) 1) where
 mem:=by simp
 obj:=λi h st b j=>by
  have e:b=it:=by simpa using j
  subst e;exact⟨_,st,λv z=>by
   have z':Data.fields _=Data.cell v:=z;cases z'⟩
 keep:=λi h h' st k=>k it (by simp) _ st
 item:=by
  intro X hP hw Y hc i ad s Z H E I G st hg;subst hP hw Y;obtain⟨f0,f1,f2,J,O,U⟩:=G it (by simp);have W:=Walks.range (prog:=X.prog) (w:=X.w) (I.ok.hd hc) it lo 1 n;refine W.item i s _ _ hg st λv h' tk hv fN kk=>?_;obtain⟨t,rfl⟩:=hv;have I1:Inv X ad Z H { s with heap:=h',toks:=tk }:=I.turned (λb o j e=>kk b o (by simpa using j) e) f0 f1 J O U;refine⟨_,rfl,Bd (s:={ s with heap:=h',toks:=tk }) (n:="range_iterator") fN rfl rfl (by decide) ⟨.int (lo+i),H,I1,⟨t,?_⟩,⟨rfl,rfl⟩,fN,λb j=>(G b j).1⟩⟩;rw[Int.mul_one]
 done:=by
  intro X hP hw Y hc i ad s Z H E I G st hg;subst hP hw Y;obtain⟨f0,f1,f2,J,O,U⟩:=G it (by simp);exact wpAny_pyNext_range_end (I.ok.hd hc) st (by have:n<=i:=hg;omega) λh' eb=>⟨rfl,I.turned (t':=s.toks) (λb o j e=>eb b o j e) f0 f1 J O U⟩
 self:=λ_ _ _ _ _ st h=>wpAny_pyIter_rangeiter st h
inductive Nd (K:Fg) (R:It->Hp->Prop) (H1:Hp):V->Prop where
 | mk {a:Addr} (_:(∃xs,ac K H1 a xs)) (_:R (ni K a) H1):Nd K R H1 (.ref a)
def ZQ(K:Fg)(tl:TE):TI:=λZ H R=>tl Z H λx H1=>Nd K R H1 x
inductive Nf (K:Fg) (R:It->Hp->Prop) (H1:Hp):V->Prop where
 | mk {a:Addr} (_:(∃xs,aX K H1 a xs)) (_:R (EN K a) H1):Nf K R H1 (.ref a)
def ZR(K:Fg)(tl:TE):TI:=λZ H R=>tl Z H λx H1=>Nf K R H1 x
theorem cU{l:Expr}{tl:TE}(U:PE X l tl):PI X tg l (ZQ X.K tl):=by
 intro ad s Z H R I h;refine thn (U ad s Z H _ I h) λv G J=>aP J λx H1 j r1 q1=>?_;obtain @⟨a,⟨xs,Y⟩,q⟩:=q1;cases r1;obtain⟨b_,rv,p,hz⟩:=j.list Y;refine Mc p.isList ?_;refine⟨G.heap.objs.size,[G.heap.objs.size],_,_,H1,rfl,j.kept (t':=G.toks) λb o e=>b9 _ e,ZN a _,⟨_,dL _ rfl,rfl,rfl⟩,λb O=>?_,q⟩;have e:b=G.heap.objs.size:=by simpa using O
 subst e;exact j.fpOk (aG _) (j.hok.fresh (aG _))
theorem ZT{l:Expr}{tl:TE}(U:PE X l tl):PI X tg l (ZR X.K tl):=by
 intro ad s Z H R I h;refine thn (U ad s Z H _ I h) λv j J=>aP J λx H1 G r1 q1=>?_;obtain @⟨a,⟨xs,Y⟩,q⟩:=q1;cases r1;obtain⟨b_,rv,p,hz⟩:=G.tuple Y;refine wpAny_pyIter_tuple (show j.heap.IsTuple a b_.toArray from p) ?_;refine⟨j.heap.objs.size,[j.heap.objs.size],_,_,H1,rfl,G.kept (t':=j.toks) λb o e=>b9 _ e,ZO a _,⟨_,dL _ rfl,rfl,rfl⟩,λb O=>?_,q⟩;have e:b=j.heap.objs.size:=by simpa using O
 subst e;exact G.fpOk (aG _) (G.hok.fresh (aG _))
theorem Ng{H:Hp}{R:It->Hp->Prop}{lo hi:Int}{t u v:Tok}{tk:Nat}(I:Inv X ad Z H s)(h1:-(2 ^ 62)<=lo)(h2:lo<2 ^ 62)(G:-(2 ^ 62)<=hi)(J:hi<2 ^ 62)
 (q:R (oK lo (hi - lo).toNat) H):wpAny (model X.prog X.w) X.A (pyIter (.ref s.heap.objs.size)) (EM X ad Z tg R) E { s with heap:=s.heap.push { cls:=.type "range",data:=.fields #[.int lo t,.int hi u,.int 1 v] },toks:=tk }:=by
 refine wpAny_pyIter_range (IsRange.new ..) (small_one h1 h2 G J) ?_;have j:Inv X ad Z H { s with heap:=s.heap.push { cls:=.type "range",data:=.fields #[.int lo t,.int hi u,.int 1 v] },toks:=tk }:=I.kept λb o e=>b9 _ e;refine⟨(s.heap.push { cls:=.type "range",data:=.fields #[.int lo t,.int hi u,.int 1 v] }).objs.size,[(s.heap.push { cls:=.type "range",data:=.fields #[.int lo t,.int hi u,.int 1 v] }).objs.size],_,_,H,rfl,
  j.kept (t':=tk) λb o e=>b9 _ e,ZP _ lo (hi - lo).toNat,?_,λb O=>?_,q⟩
 . have e1:lo+((0:Nat):Int) * 1=lo:=by simp
   have e2:(((hi - lo).toNat:Nat):Int) - ((0:Nat):Int)=Builtin.Range.rangeSize lo hi 1:=by rw[rangeSize_one];split<;>omega
   show IsRangeIter _ _ (lo+((0:Nat):Int) * 1) ((((hi - lo).toNat:Nat):Int) - ((0:Nat):Int)) 1;rw[e1,e2];exact dL _ rfl
 have e:b=(s.heap.push { cls:=.type "range",data:=.fields #[.int lo t,.int hi u,.int 1 v] }).objs.size:=by simpa using O
 subst e;exact j.fpOk (aG _) (j.hok.fresh (aG _))
inductive Nh (R:It->Hp->Prop) (H1:Hp):Lv->Prop where
 | mk {j:Int} (_:-(2 ^ 62)<=j) (_:j<2 ^ 62) (_:R (oK 0 j.toNat) H1):Nh R H1 [.int j]
def ZV(ta:TA):TI:=λZ H R=>ta Z H λvs H1=>Nh R H1 vs
inductive Ni (R:It->Hp->Prop) (H1:Hp):Lv->Prop where
 | mk {i:Int}{j:Int} (_:(-(2 ^ 62)<=i/\i<2 ^ 62/\-(2 ^ 62)<=j/\j<2 ^ 62)) (_:R (oK i (j - i).toNat) H1):Ni R H1 [.int i,.int j]
def ZW(ta:TA):TI:=λZ H R=>ta Z H λvs H1=>Ni R H1 vs
theorem oM{a:Expr}{ta:TA}{pos:Pos}(Y:Gl X "range")(hm:X.mg "range"=none)(U:PA X [a] ta)(hs:starEach [a] X.env=[(false,eval a X.env)]:=by rfl):PI X tg (.Call (.Name "range" p) [a] [] pos) (ZV ta):=by
 intro ad s Z H R I h;refine Call_ (tq I Y hm boot_range (Me (thn (U pos ad s Z H _ I h) λus s1 O=>aP O λvs H1 J r1 G=>?_) hs rfl));obtain @⟨j,G,q2,q⟩:=G;cases r1 with
 | cons r rr=>
  cases rr;obtain⟨t,rfl⟩:=r;exact call_range_1 (Ng J (by omega) (by omega) G q2 (by simpa using q))
theorem EO{a b:Expr}{ta:TA}{pos:Pos}(hg:Gl X "range")(hm:X.mg "range"=none)(ha:PA X [a,b] ta)(hs:starEach [a,b] X.env=[(false,eval a X.env),(false,eval b X.env)]:=by rfl)(O:starEach [b] X.env=[(false,eval b X.env)]:=by rfl) :
 PI X tg (.Call (.Name "range" p) [a,b] [] pos) (ZW ta):=by
 intro ad s Z H R I h;refine Call_ (tq I hg hm boot_range (Me (thn (ha pos ad s Z H _ I h) λus s1 Y=>aP Y λvs H1 U r1 G=>?_) (by rw[hs,O]) (by rw[O];rfl)));obtain @⟨i,j,⟨G,q2,q3,q4⟩,q⟩:=G;cases r1 with
 | cons r J=>
  cases J with
  | cons r' J=>
   cases J;obtain⟨t,rfl⟩:=r;obtain⟨t',rfl⟩:=r';exact call_range_2 (Ng U G q2 q3 q4 q)
def ZZ(j:TI)(g:TG)(tb:TS):TS:=λD Z H=>j Z H λJ H1=>∃W:Nat->Nat->St->Hp->Prop,(∃m,W 0 m Z H1)/\∀i m Z H,W i m Z H ->
 (J.stop i H/\D.nx Z H)\/(J.go i H/\∃N:St->Hp->Prop,(∀σ' H',N σ' H'->∃m',m'<m/\W (i+1) m' σ' H')/\∀x H',J.yld i H x H'->g x Z H' λσ2 H2=>tb { D with nx:=N,ct:=N,bk:=D.nx } σ2 H2)
def tD(fp:List Addr)(h:Heap):Po:=fp.filterMap λb=>(h.get? b).map λo=>(b,o)
theorem qO{h:Heap}{b:Addr}{o:Obj}(j:b∈fp)(e:h.get? b=some o):(b,o)∈tD fp h:=Mf.mpr ⟨b,j,by rw[e];rfl⟩
theorem Z0{h:Heap}{p:Addr×Obj}(J:p∈tD fp h):p.1∈fp/\h.get? p.1=some p.2:=by
 obtain⟨b,G,e⟩:=Mf.mp J;cases q:h.get? b with
 | none=>rw[q]at e;cases e
 | some o=>
  rw[q]at e;have j:(b,o)=p:=gM e;subst j;exact⟨G,q⟩
theorem Inv.pinned{H:Hp}(I:Inv X ad Z H s)(O:∀b∈fp,fz X ad H b)(U:∀b∈fp,∃o,s.heap.get? b=some o/\∀v,o.data≠.cell v):Inv X (ad++tD fp s.heap) Z H s:=
 I.pins_of λp Y=>(bR.mp Y).elim (λz=>I.pin p (eX _ z)) λz=>by
  obtain⟨G,e⟩:=Z0 z;obtain⟨f0,f1,J,_⟩:=O p.1 G;obtain⟨o,j,d⟩:=U p.1 G;rw[e]at j;cases j;exact⟨e,f0,f1,J,d⟩
theorem Inv.unpinned{pl:Po}{H:Hp}(I:Inv X (ad++pl) Z H s):Inv X ad Z H s:=I.pins_of λp j=>I.pin p (eX _ (vf _ j))
theorem eK{iter:Expr}{wi:TI}{pos:Pos}(U:PassesOwn (model X.prog X.w) X.A X.env X.xe)(hc:X.calm=true)(hi:PI X tg iter wi)(hg:PG X tg g)(G:cf X body tb)
 (hs:∀x,foldedSetIterable iter X.env x=pure x:=by intro _;rfl):PS X (.For tg iter body [] pos) (ZZ wi g tb):=by
 intro ad s Z H D I h;refine wpAny_For (thn (hi ad s Z H _ I h) λv s1 h1=>thn h1 λBc s2 h2=>?_) hs;obtain⟨it,fp,tn,J,H2,e,I2,T,gi,f2,W,⟨m0,w0⟩,a2⟩:=h2;subst e;have EQ:∀{H':Hp},(∀b∈fp,H' b=none)->∀b∈fp,fz X ad H' b:=λhn b G=>⟨hn b G,(f2 b G).2⟩;refine codeAny_forLoop_any (λn s'=>∃i σ' H',Inv X ad σ' H' s'/\tn i s'.heap/\(∀b∈fp,H' b=none)/\W i n σ' H') ?_ m0 ⟨0,Z,H2,I2,gi,λb G=>(f2 b G).1,w0⟩;rintro n s3 ⟨i,σ3,H3,I3,tE,Nj,w3⟩
 rcases a2 i n σ3 H3 w3 with⟨stop,qn⟩ | ⟨go,N,hN,step⟩
 . refine xE U (thn (T.done X rfl rfl rfl hc i ad s3 σ3 H3 X.xe I3 (EQ Nj) tE stop) λr s4 Z1=>Z1.elim λhr I4=>?_);subst hr;exact Eh ⟨σ3,H3,I4,qn⟩
 refine xE U (thn (T.item X rfl rfl rfl hc i ad s3 σ3 H3 X.xe I3 (EQ Nj) tE go) λr s4 Z3=>Z3.elim λu Z4=>Z4.elim λhr h4=>?_);subst hr;refine xE U (thn h4 λ_ s5 Z5=>aP Z5 λx H5 I5 r5 Z6=>Z6.elim λy5 Z7=>Z7.elim λtF ER=>?_);have Z8:=I5.pinned (EQ ER) (T.obj _ _ tF);refine xE U (thn (hg _ s5 σ3 H5 x u _ Z8 r5 (step x H5 y5)) λ_ s6 Z9=>Z9.elim λσ6 a0=>a0.elim λH6 a1=>a1.elim λI6 q6=>?_);refine xE U (thn (G _ s6 σ6 H6 _ I6 q6) λf s7 O=>?_);have again:∀{σ7:St}{H7:Hp},Inv X (ad++tD fp s5.heap) σ7 H7 s7->N σ7 H7->∃m,m<n/\∃i σ' H',Inv X ad σ' H' s7/\tn i s7.heap/\(∀b∈fp,H' b=none)/\W i m σ' H':=λ{σ7 H7} j Y=>by
  obtain⟨m',hm,w7⟩:=hN σ7 H7 Y;refine⟨m',hm,i+1,σ7,H7,j.unpinned,T.keep _ _ _ tF λb G o e=>(j.pin (b,o) (eX _ (eX _ (qO G e)))).1,λb G=>?_,w7⟩;obtain⟨o,e,d⟩:=T.obj _ _ tF b G;exact(j.pin (b,o) (eX _ (eX _ (qO G e)))).2.1
 cases f with
 | next=>obtain⟨σ7,H7,j,Y⟩:=O;exact again j Y
 | cont=>obtain⟨σ7,H7,j,Y⟩:=O;exact again j Y
 | brk=>obtain⟨σ7,H7,j,O⟩:=O;exact⟨σ7,H7,j.unpinned,O⟩
 | ret v=>obtain⟨x7,σ7,H7,j,r7,O⟩:=O;exact⟨x7,σ7,H7,j.unpinned,r7,O⟩
theorem ib{xs:Lv}{H:Hp}(Pv:Nat->St->Hp->Prop)(h0:Pv 0 Z H)(G:∀i Z H,i<=xs.length->Pv i Z H->ac K H a xs)
 (hs:∀i x Z H,xs[i]?=some x->Pv i Z H->g x Z H λσ2 H2=>tb { D with nx:=Pv (i+1),ct:=Pv (i+1),bk:=D.nx } σ2 H2) (hd:∀Z H,Pv xs.length Z H->D.nx Z H) :
 ∃W:Nat->Nat->St->Hp->Prop,(∃m,W 0 m Z H)/\∀i m Z H,W i m Z H ->
  ((ni K a).stop i H/\D.nx Z H)\/((ni K a).go i H/\∃N:St->Hp->Prop,(∀σ' H',N σ' H'->∃m',m'<m/\W (i+1) m' σ' H')/\∀x H',(ni K a).yld i H x H'->g x Z H' λσ2 H2=>tb { D with nx:=N,ct:=N,bk:=D.nx } σ2 H2):=by
 refine⟨λi m Z H=>m=xs.length - i/\i<=xs.length/\Pv i Z H,⟨xs.length,by simp,dC _,h0⟩,?_⟩;rintro i m Z H ⟨rfl,hi,p⟩;have q:=G i Z H hi p
 by_cases j:i<xs.length
 . refine .inr ⟨⟨xs,xs[i],q,by simp[j]⟩,Pv (i+1),λσ' H' J=>⟨xs.length - (i+1),by omega,rfl,j,J⟩,λx H' y=>?_⟩;obtain⟨e,y⟩:=y;subst e;exact hs i x Z _ (y xs q) p
 have e:i=xs.length:=by omega
 subst e;exact .inl ⟨⟨xs,q,aG _⟩,hd Z H p⟩
theorem vx{lo:Int}{H:Hp}(Pv:Nat->St->Hp->Prop)(h0:Pv 0 Z H)
 (hs:∀i Z H,i<n->Pv i Z H->g (.int (lo+i)) Z H λσ2 H2=>tb { D with nx:=Pv (i+1),ct:=Pv (i+1),bk:=D.nx } σ2 H2) (hd:∀Z H,Pv n Z H->D.nx Z H) :
 ∃W:Nat->Nat->St->Hp->Prop,(∃m,W 0 m Z H)/\∀i m Z H,W i m Z H ->
  ((oK lo n).stop i H/\D.nx Z H)\/((oK lo n).go i H/\∃N:St->Hp->Prop,(∀σ' H',N σ' H'->∃m',m'<m/\W (i+1) m' σ' H')/\∀x H',(oK lo n).yld i H x H'->g x Z H' λσ2 H2=>tb { D with nx:=N,ct:=N,bk:=D.nx } σ2 H2):=by
 refine⟨λi m Z H=>m=n - i/\i<=n/\Pv i Z H,⟨n,by simp,dC _,h0⟩,?_⟩;rintro i m Z H ⟨rfl,hi,p⟩
 by_cases j:i<n
 . refine .inr ⟨j,Pv (i+1),λσ' H' G=>⟨n - (i+1),by omega,rfl,j,G⟩,λx H' y=>?_⟩;obtain⟨e,y⟩:=y;subst e y;exact hs i Z _ j p
 have e:i=n:=by omega
 subst e;exact .inl ⟨aG _,hd Z H p⟩
abbrev R2:=V->V->Hp->VK->Prop
variable {r:R2}
def cK(X:Cx)(f:Value->Value->Sem Value)(r:R2):Prop:=
 ∀(ad:Po) (s:Shared) (Z:St) (H:Hp) (x y:V) (v u:Value) (Q:VK),Inv X ad Z H s->RelV x v->RelV y u->r x y H Q ->
  wpAny (model X.prog X.w) X.A (f v u) (EP X ad Z Q) X.xe s
def ES(X:Cx)(f:Value->Sem Value)(r:V->Hp->VK->Prop):Prop:=
 ∀(ad:Po) (s:Shared) (Z:St) (H:Hp) (x:V) (v:Value) (Q:VK),Inv X ad Z H s->RelV x v->r x H Q ->
  wpAny (model X.prog X.w) X.A (f v) (EP X ad Z Q) X.xe s
def eS(X:Cx)(f:Value)(r:Lv->Hp->VK->Prop):Prop:=
 ∀(ad:Po) (s:Shared) (Z:St) (H:Hp) (xs:Lv) (us:Lw) (Q:VK),Inv X ad Z H s->aW xs us->r xs H Q ->
  wpAny (model X.prog X.w) X.A (call f us) (EP X ad Z Q) X.xe s
def Be(r:R2)(ta tb:TE):TE:=λZ H Q=>ta Z H λx H1=>tb Z H1 λy H2=>r x y H2 Q
def tUn(r:V->Hp->VK->Prop)(ta:TE):TE:=λZ H Q=>ta Z H λx H1=>r x H1 Q
inductive Nk (C:Int->Int->Prop) (g:Int->Int->V) (H:Hp) (Q:VK):V->V->Prop where
 | mk {i:Int}{j:Int} (_:C i j) (_:Q (g i j) H):Nk C g H Q (.int i) (.int j)
def rI(C:Int->Int->Prop)(g:Int->Int->V):R2:=λx y H Q=>Nk C g H Q x y
inductive Nl (g:Int->Int->V) (H:Hp) (Q:VK):V->V->Prop where
 | mk {i:Int}{j:Int} (_:Q (g i j) H):Nl g H Q (.int i) (.int j)
def tG(g:Int->Int->V):R2:=λx y H Q=>Nl g H Q x y
def rU(g:Int->V):V->Hp->VK->Prop:=λx H Q=>∃i,x=.int i/\Q (g i) H
section
variable {a b:Expr}{ta tb tc:TE}{pos:Pos}
theorem ET(Y:PE X a ta)(hb:PE X b tb){H:Hp}{R:V->V->Hp->Prop}(I:Inv X ad Z H s)
 (h:ta Z H λx H1=>tb Z H1 λy H2=>R x y H2) {Q:VP}{f:Value->Value->Sem Value}
 (hf:∀v u j x y H2,Inv X ad Z H2 j->RelV x v->RelV y u->R x y H2->wpAny (model X.prog X.w) X.A (f v u) Q X.xe j) :
 wpAny (model X.prog X.w) X.A (eval a X.env) (λv s₁=>wpAny (model X.prog X.w) X.A (eval b X.env) (λu s₂=>wpAny (model X.prog X.w) X.A (f v u) Q X.xe s₂) X.xe s₁) X.xe s:=by
 refine thn (Y ad s Z H _ I h) λv s1 O=>aP O λx H1 G r1 q1=>?_;refine thn (hb ad s1 Z H1 _ G q1) λu j U=>aP U λy H2 J r2 q2=>?_;exact hf v u j x y H2 J r1 r2 q2
theorem aE{op:Operator}(O:cK X (binaryOp op) r)(G:PE X a ta)(J:PE X b tb):PE X (.BinOp a op b pos) (Be r ta tb):=by
 intro ad s Z H Q I h;exact wpAny_BinOp (ET G J I h λv u s2 x y H2 j U Y q=>O ad s2 Z H2 x y v u Q j U Y q)
theorem vy{op:UnaryOp}{r:V->Hp->VK->Prop}(O:ES X (unaryOp op) r)(J:PE X a ta):PE X (.UnaryOp op a pos) (tUn r ta):=by
 intro ad s Z H Q I h;exact UnaryOp_ (thn (J ad s Z H _ I h) λv s1 G=>aP G λx H1 j Y U=>O ad s1 Z H1 x v Q j Y U)
theorem Bf{f:Value->Value->Sem Value}{C:Int->Int->Prop}{g:Int->Int->Int}
 (rule:∀(i j:Int) (t u:Tok) (s:Shared) (Q:VP) (E:VP),C i j->Q (.int (g i j) s.toks) { s with toks:=s.toks+1 }->wpAny (model X.prog X.w) X.A (f (.int i t) (.int j u)) Q E s) :
 cK X f (rI C λi j=>.int (g i j)):=by
 intro ad s Z H x y v u Q I J O h;obtain @⟨i,j,G,q⟩:=h;obtain⟨t,rfl⟩:=J;obtain⟨t',rfl⟩:=O;exact rule i j t t' s _ _ G ⟨.int (g i j),H,I.tok _,⟨_,rfl⟩,q⟩
theorem No{f:Value->Value->Sem Value}{g:Int->Int->Int}
 (rule:∀(i j:Int) (t u:Tok) (s:Shared) (Q:VP) (E:VP),Q (.int (g i j) s.toks) { s with toks:=s.toks+1 }->wpAny (model X.prog X.w) X.A (f (.int i t) (.int j u)) Q E s) :
 cK X f (tG λi j=>.int (g i j)):=by
 intro ad s Z H x y v u Q I G J h;obtain @⟨i,j,q⟩:=h;obtain⟨t,rfl⟩:=G;obtain⟨t',rfl⟩:=J;exact rule i j t t' s _ _ ⟨.int (g i j),H,I.tok _,⟨_,rfl⟩,q⟩
theorem EU{f:Value->Value->Sem Value}{g:Int->Int->Bool}
 (rule:∀(i j:Int) (t u:Tok) (s:Shared) (Q:VP) (E:VP),Q (.bool (g i j)) s->wpAny (model X.prog X.w) X.A (f (.int i t) (.int j u)) Q E s) :
 cK X f (tG λi j=>.bl (g i j)):=by
 intro ad s Z H x y v u Q I G J h;obtain @⟨i,j,q⟩:=h;obtain⟨t,rfl⟩:=G;obtain⟨t',rfl⟩:=J;exact rule i j t t' s _ _ ⟨.bl (g i j),H,I,rfl,q⟩
def aag(i j:Int):Prop:=0<j/\j<1073741824
def aah(i j:Int):Prop:=0<=j/\j<=1000000/\i.natAbs<2 ^ 64
def EV(i j:Int):Prop:=(-(2 ^ 64)<i/\i<2 ^ 64)\/(-(2 ^ 64)<j/\j<2 ^ 64)
theorem EV.ok{i j:Int}(h:EV i j):IntMulOk i j:=by
 rcases h with⟨h1,h2⟩ | ⟨h1,h2⟩
 . exact .of_left (intBits_le_64 h1 h2)
 exact .of_right (intBits_le_64 h1 h2)
theorem gj:cK X (binaryOp .Add) (tG λi j=>.int (i+j)):=No λ_ _ _ _ _ _ _ q=>add_int q
theorem EW:cK X (binaryOp .Sub) (tG λi j=>.int (i - j)):=No λ_ _ _ _ _ _ _ q=>sub_int q
theorem vz:cK X (binaryOp .Mult) (rI EV λi j=>.int (i * j)):=Bf λ_ _ _ _ _ _ _ G q=>mul_int q G.ok
theorem gO:cK X (binaryOp .FloorDiv) (rI aag λi j=>.int (i / j)):=Bf λi j _ _ _ _ _ G q=>by
 have h1:(0:Int)<j:=G.1;have h2:j<1073741824:=G.2;exact floordiv_int (by omega) (by rw[Int.fdiv_eq_ediv_of_nonneg i (by omega)];exact q) (.inl (PyProof.noPylong_small (by omega)))
theorem cy:cK X (binaryOp .Mod) (rI (λ_ j=>0<j) λi j=>.int (i % j)):=Bf λi j _ _ _ _ _ G q=>by
 have h1:(0:Int)<j:=G;exact mod_int' (by omega) (by rw[Int.fmod_eq_emod_of_nonneg i (by omega)];exact q)
theorem EX:cK X (binaryOp .Pow) (rI aah λi j=>.int (i ^ j.toNat)):=Bf λ_ _ _ _ _ _ _ G q=>pow_int_small G.1 G.2.1 G.2.2 q
theorem unI{f:Value->Sem Value}{g:Int->Int}
 (rule:∀(i:Int) (t:Tok) (s:Shared) (Q:VP) (E:VP),Q (.int (g i) s.toks) { s with toks:=s.toks+1 }->wpAny (model X.prog X.w) X.A (f (.int i t)) Q E s) :
 ES X f (rU λi=>.int (g i)):=by
 intro ad s Z H x v Q I j h;obtain⟨i,rfl,q⟩:=h;obtain⟨t,rfl⟩:=j;exact rule i t s _ _ ⟨.int (g i),H,I.tok _,⟨_,rfl⟩,q⟩
theorem vA:ES X (unaryOp .USub) (rU λi=>.int (-i)):=unI λ_ _ _ _ _ q=>neg_int q
end
def Np:V->V->Bool
 | .non,.non=>true | .non,.int _=>true | .int _,.non=>true | .non,.bl _=>true | .bl _,.non=>true | .non,.str _=>true | .str _,.non=>true
 | .int _,.int _=>true | .bl _,.bl _=>true | .str _,.str _=>true | .byt _,.byt _=>true
 | .int _,.str _=>true | .str _,.int _=>true | .bl _,.str _=>true | .str _,.bl _=>true
 | _,_=>false
def rEq:R2:=λx y H Q=>Np x y=true/\Q (.bl (decide (x=y))) H
def rNe:R2:=λx y H Q=>Np x y=true/\Q (.bl (!decide (x=y))) H
theorem Nq{i j:Int}:decide (V.int i=V.int j)=(i == j):=by
 rw[xF];simp
theorem Nr{i j:Bool}:decide (V.bl i=V.bl j)=(i == j):=by
 rw[xF];simp
theorem Nu{i j:Str}:decide (V.str i=V.str j)=(i == j):=by
 rw[xF];simp
theorem Nv{i j:Array UInt8}:decide (V.byt i=V.byt j)=(i.toList == j.toList):=by
 rw[xF];cases i;cases j;simp
section
variable {a b:Expr}{ta tb tc:TE}{pos:Pos}
theorem di{H:Hp}{Q:VK}{k k':Bool}(I:Inv X ad Z H s)(q:Q (.bl k) H)(e:k=k'):EP X ad Z Q (.bool k') s:=by
 subst e;exact⟨.bl k,H,I,rfl,q⟩
theorem fO:cK X (compareOp .Eq) rEq:=by
 intro ad s Z H x y v u Q I J G h;obtain⟨hs,q⟩:=h;cases x with
 | non=>
  cases J;cases y with
  | non=>cases G;exact PySem.EqNone.eq_none_none (di I q (by simp))
  | bl j=>cases G;exact PySem.EqNone.eq_none_bool (di I q (by simp))
  | int j=>obtain⟨t',rfl⟩:=G;exact PySem.EqNone.eq_none_int (di I q (by simp))
  | str j=>obtain⟨t',rfl⟩:=G;exact PySem.EqNone.eq_none_str (di I q (by simp))
  | _=>exact absurd (show false=true from hs) cW
 | bl i=>
  cases J;cases y with
  | non=>cases G;exact PySem.EqNone.eq_bool_none (di I q (by simp))
  | bl j=>cases G;exact eq_bool (di I q Nr)
  | str j=>obtain⟨t',rfl⟩:=G;exact PySem.EqMixed.eq_bool_str (di I q (by simp))
  | _=>exact absurd (show false=true from hs) cW
 | int i=>
  obtain⟨t,rfl⟩:=J;cases y with
  | non=>cases G;exact PySem.EqNone.eq_int_none (di I q (by simp))
  | int j=>obtain⟨t',rfl⟩:=G;exact eq_int (di I q Nq)
  | str j=>obtain⟨t',rfl⟩:=G;exact PySem.EqMixed.eq_int_str (di I q (by simp))
  | _=>exact absurd (show false=true from hs) cW
 | str i=>
  obtain⟨t,rfl⟩:=J;cases y with
  | non=>cases G;exact PySem.EqNone.eq_str_none (di I q (by simp))
  | bl j=>cases G;exact PySem.EqMixed.eq_str_bool (di I q (by simp))
  | int j=>obtain⟨t',rfl⟩:=G;exact PySem.EqMixed.eq_str_int (di I q (by simp))
  | str j=>obtain⟨t',rfl⟩:=G;exact eq_str (di I q Nu)
  | _=>exact absurd (show false=true from hs) cW
 | byt i=>
  obtain⟨t,rfl⟩:=J;cases y with
  | byt j=>obtain⟨t',rfl⟩:=G;exact W.eq_bytes (di I q Nv)
  | _=>exact absurd (show false=true from hs) cW
 | _=>cases y<;>exact absurd (show false=true from hs) cW
theorem Nw:cK X (compareOp .NotEq) rNe:=by
 intro ad s Z H x y v u Q I J G h;obtain⟨hs,q⟩:=h;cases x with
 | non=>
  cases J;cases y with
  | non=>cases G;exact PySem.EqNone.ne_none_none (di I q (by simp))
  | bl j=>cases G;exact PySem.EqNone.ne_none_bool (di I q (by simp))
  | int j=>obtain⟨t',rfl⟩:=G;exact PySem.EqNone.ne_none_int (di I q (by simp))
  | str j=>obtain⟨t',rfl⟩:=G;exact PySem.EqNone.ne_none_str (di I q (by simp))
  | _=>exact absurd (show false=true from hs) cW
 | bl i=>
  cases J;cases y with
  | non=>cases G;exact PySem.EqNone.ne_bool_none (di I q (by simp))
  | bl j=>cases G;exact ne_bool (di I q (eZ not Nr))
  | str j=>obtain⟨t',rfl⟩:=G;exact PySem.EqMixed.ne_bool_str (di I q (by simp))
  | _=>exact absurd (show false=true from hs) cW
 | int i=>
  obtain⟨t,rfl⟩:=J;cases y with
  | non=>cases G;exact PySem.EqNone.ne_int_none (di I q (by simp))
  | int j=>obtain⟨t',rfl⟩:=G;exact ne_int (di I q (eZ not Nq))
  | str j=>obtain⟨t',rfl⟩:=G;exact PySem.EqMixed.ne_int_str (di I q (by simp))
  | _=>exact absurd (show false=true from hs) cW
 | str i=>
  obtain⟨t,rfl⟩:=J;cases y with
  | non=>cases G;exact PySem.EqNone.ne_str_none (di I q (by simp))
  | bl j=>cases G;exact PySem.EqMixed.ne_str_bool (di I q (by simp))
  | int j=>obtain⟨t',rfl⟩:=G;exact PySem.EqMixed.ne_str_int (di I q (by simp))
  | str j=>obtain⟨t',rfl⟩:=G;exact ne_str (di I q (eZ not Nu))
  | _=>exact absurd (show false=true from hs) cW
 | byt i=>
  obtain⟨t,rfl⟩:=J;cases y with
  | byt j=>obtain⟨t',rfl⟩:=G;exact W.ne_bytes (di I q (eZ not Nv))
  | _=>exact absurd (show false=true from hs) cW
 | _=>cases y<;>exact absurd (show false=true from hs) cW
theorem yg:cK X (compareOp .Lt) (tG λi j=>.bl (decide (i<j))):=EU λ_ _ _ _ _ _ _ q=>lt_int q
theorem EY:cK X (compareOp .LtE) (tG λi j=>.bl (decide (i<=j))):=EU λ_ _ _ _ _ _ _ q=>le_int q
theorem Nx:cK X (compareOp .Gt) (tG λi j=>.bl (decide (j<i))):=EU λ_ _ _ _ _ _ _ q=>gt_int q
theorem Bg:cK X (compareOp .Is) (λx y H Q=>y=.non/\Q (.bl (decide (x=.non))) H):=by
 intro ad s Z H x y v u Q I j G h;obtain⟨rfl,q⟩:=h;cases G;refine is_none_gen (di I q ?_);cases x<;>first
  | (cases j;rfl)
  | (obtain⟨t,rfl⟩:=j;rfl)
theorem Ny:cK X (compareOp .IsNot) (λx y H Q=>y=.non/\Q (.bl (!decide (x=.non))) H):=by
 intro ad s Z H x y v u Q I j G h;obtain⟨rfl,q⟩:=h;cases G;refine isnot_none_gen (di I q ?_);cases x<;>first
  | (cases j;rfl)
  | (obtain⟨t,rfl⟩:=j;rfl)
theorem bJ(b:Expr){op:CmpOp}(h:op≠.In:=by decide)(h2:op≠.NotIn:=by decide):behindInMarks op b=false:=by
 have e1:(op == CmpOp.In)=false:=by cases op<;>first | rfl | exact absurd rfl h
 have e2:(op == CmpOp.NotIn)=false:=by cases op<;>first | rfl | exact absurd rfl h2
 cases b<;>simp[behindInMarks,e1,e2]
theorem oN{op:CmpOp}(U:cK X (compareOp op) r)(G:PE X a ta)(J:PE X b tb)(O:behindInMarks op b=false):PE X (.Compare a [op] [b] pos) (Be r ta tb):=by
 intro ad s Z H Q I h;exact wpAny_Compare1 (ET G J I h λv u s2 x y H2 j Y ry q=>U ad s2 Z H2 x y v u Q j Y ry q) O
inductive Nz (Q:Bool->Hp->Prop) (H':Hp):V->Prop where
 | mk {k:Bool} (_:Q k H'):Nz Q H' (.bl k)
def aal(t:TE):TT:=λZ H Q=>t Z H λx H'=>Nz Q H' x
theorem bS{op:CmpOp}(ho:cK X (compareOp op) r)(ha:PE X a ta)(hb:PE X b tb)(hm:behindInMarks op b=false):PT X (.Compare a [op] [b] pos) (aal (Be r ta tb)):=by
 intro ad s Z H Q I h;refine av8 (thn (ha ad s Z H _ I h) λv s1 U=>aP U λx H1 G r1 q1=>thn (hb ad s1 Z H1 _ G q1) λu s2 Y=>aP Y λy H2 J r2 q2=>
  thn (ho ad s2 Z H2 x y v u _ J r1 r2 q2) λc s3 a0=>aP a0 λz H3 O r3 j=>?_) hm
 obtain @⟨k,q3⟩:=j;cases r3;exact qr ⟨H3,O,q3⟩
inductive NA (j:R2) (tc:TE) (Z:St) (Q:VK) (y:V) (H3:Hp):V->Prop where
 | mk {k:Bool} (_:(if k=true then tc Z H3 λJ G=>j y J G Q else Q (.bl false) H3)):NA j tc Z Q y H3 (.bl k)
def aap(r j:R2)(ta tb tc:TE):TE:=λZ H Q=>ta Z H λx H1=>tb Z H1 λy H2=>r x y H2 λz H3=>NA j tc Z Q y H3 z
theorem NC{op j:CmpOp}{O:R2}(ho:cK X (compareOp op) r)(iy:cK X (compareOp j) O)(ha:PE X a ta)(hb:PE X b tb)(hc:PE X c tc)
 (hm:lastMarks [op,j] [b,c]=false:=by with_unfolding_all rfl):PE X (.Compare a [op,j] [b,c] pos) (aap r O ta tb tc):=by
 intro ad s Z H Q I h;refine Compare_chain (thn (ha ad s Z H _ I h) λv s1 a0=>aP a0 λx H1 I1 r1 q1=>chain_link (thn (hb ad s1 Z H1 _ I1 q1) λu s2 a1=>aP a1 λy H2 I2 U q2=>
  thn (ho ad s2 Z H2 x y v u _ I2 r1 U q2) λd s3 a2=>aP a2 λz H3 G r3 Y=>?_)) hm
 obtain @⟨k,J⟩:=Y;cases r3;refine qr ?_;cases k with
 | false=>exact ite_ff ⟨.bl false,H3,G,rfl,J⟩
 | true=>exact ite_tt (chain_last (thn (hc ad s3 Z H3 _ G J) λw' s4 a3=>aP a3 λz' H4 I4 r4 q4=>iy ad s4 Z H4 y z' u w' Q I4 U r4 q4))
theorem yh:(sizeLine:Nat)<2 ^ 63:=by rw[sL];decide
theorem vB:cK X (binaryOp .Add) (λx y H Q=>∃i j,x=.str i/\y=.str j/\i.length+j.length<=sizeLine/\Q (.str (i++j)) H):=by
 intro ad s Z H x y v u Q I G J h;obtain⟨i,j,rfl,rfl,hz,q⟩:=h;obtain⟨t,rfl⟩:=G;obtain⟨t',rfl⟩:=J;exact add_str (λt' tk=>⟨.str (i++j),H,I.tok _,⟨_,rfl⟩,q⟩) hz
theorem vals1{x:V}(r:aW [x] us):∃u,us=[u]/\RelV x u:=by
 cases r with
 | cons j G=>cases G;exact⟨_,rfl,j⟩
theorem vals2{x y:V}(r:aW [x,y] us):∃u j,us=[u,j]/\RelV x u/\RelV y j:=by
 cases r with
 | cons G J=>
  cases J with
  | cons O U=>cases U;exact⟨_,_,rfl,G,O⟩
theorem aau(J:X.calm=true):eS X (.builtin "min") (λxs H Q=>∃i j,xs=[.int i,.int j]/\Q (.int (if j<i then j else i)) H):=by
 intro ad s Z H xs us Q I r h;obtain⟨i,j,rfl,q⟩:=h;obtain⟨u,O,rfl,⟨t,rfl⟩,⟨t',rfl⟩⟩:=vals2 r;refine min_two_ints (I.ok.hd J) λh' tk k=>⟨_,H,I.kept k,?_,q⟩
 by_cases G:j<i
 . rw[ai G,ai G];exact⟨_,rfl⟩
 rw[ag G,ag G];exact⟨_,rfl⟩
theorem aav:eS X (.type "str") (λxs H Q=>∃i,xs=[.int i]/\i.natAbs.log2<1920/\Q (.str (toString i)) H):=by
 intro ad s Z H xs us Q I r h;obtain⟨i,rfl,hz,q⟩:=h;obtain⟨u,rfl,t,rfl⟩:=vals1 r;exact PySem.P.str_of_int hz ⟨.str _,H,I.tok _,⟨_,rfl⟩,q⟩
end
structure tH(h:Heap)(x dx C:Addr)(mA:Mv):Prop where
 obj:h.get? x=some (W.instObj C dx)
 ns:h.Ns1 dx mA
 ne:dx≠x
theorem aaw{h:Heap}(n:h.Ns1 dx mA):∃j,h.get? dx=some j/\∀name,W.lookIn name j=some (mA name):=by
 obtain⟨o,es,ep,U,hd,J,_,O⟩:=n;refine⟨o,U,λname=>?_⟩;have e:=O name;unfold nsFind findBy at e;rw[<-Array.find?_toList]at e;unfold W.lookIn;rw[hd];dsimp only;split
 . rename_i y q;rw[q]at e;exact eZ some e
 rename_i q;rw[q]at e;have a:es.toList.any (·.refKey)=false:=by
  rw[List.any_eq_false];intro y Y;obtain⟨z,t,lj⟩:=J y (Array.mem_toList_iff.mp Y);simp[DictEntry.refKey,lj]
 have G:¬es.toList.any (·.refKey)=true:=by rw[a];exact cW
 rw[ag G];exact eZ some e
theorem tH.look{h:Heap}{x:Addr}(I:tH h x dx C mA):∃j,W.InstAt h x (W.instObj C dx) C (some j)/\∀name,W.lookIn name j=some (mA name):=
 (aaw I.ns).elim λj G=>G.elim λO J=>⟨j,⟨I.obj,rfl,rfl,O⟩,J⟩
section
variable {prog:Program}{x:Addr}{name:Str}{v:Value}
theorem aay{j:Bool}{Q:VP}(X:K.In s.heap)(I:tH s.heap x dx C mA)(O:W.plainGet K C name=true)(U:W.hasDictIn K C=true)
 (G:W.findIn K (.ref C) name=some none) (hv:mA name=some v) (yi:W.handedIn v=true) (h:Q v { s with toks:=s.toks+1 }) :
 wpAny (model prog w) A (getAttr (.ref x) name j) Q E s:=by
 obtain⟨od,J,Y⟩:=I.look;exact W.get_value X J (XJ O).1 (W.findObj_own U G rfl (by rw[Y,hv])) yi h
theorem aaz{Q:Value×Lw->Shared->Prop}(X:K.In s.heap)(I:tH s.heap x dx C mA)(j:W.plainGet K C name=true)
 (G:W.findIn K (.ref C) name=some (some (.ref f))) (U:W.isFn K (.ref f)=true) (Y:mA name=none) (h:Q (.ref f,[.ref x]) s) :
 wpAny (model prog w) A (getMethod (.ref x) name pl) Q E s:=by
 obtain⟨od,J,O⟩:=I.look;exact W.method_fn X J (XJ j).1 (XJ j).2 G (jZ.mp U) (by show(W.lookIn name od).map (·.isSome)=some false;rw[O,Y];rfl) h
theorem aaA{ns:Ls}{Q:Unit->Shared->Prop}(X:K.In s.heap)(I:tH s.heap x dx C mA)
 (hs:W.findIn K (.ref C) "__setattr__"=some (some (.builtin "object.__setattr__"))) (hp:W.plainOver K C=true) (ht:W.takerIn K C name=some none) (hh:W.hasDictIn K C=true)
 (hw:PySem.Within mA ns) (hsz:ns.length<=sizeLine)
 (h:∀h',tH h' x dx C (λy=>if y=name then some v else mA y)->Heap.SameBut dx s.heap h'->Q () { s with heap:=h',toks:=s.toks+2 }) :
 wpAny (model prog w) A (setAttr (.ref x) name v) Q E s:=by
 obtain⟨od,J,hl⟩:=I.look;refine W.set_plain X J hs (W.osa_open (s:={ s with toks:=s.toks+1 }) (r:=none) X J hp ht λb=>?_);obtain⟨cd,O,jD⟩:=W.any_some hh;have hx:s.heap.get? x=some ⟨.ref C,some dx,.plain,#[]⟩:=I.obj;refine ae (aq (ae (ae (wpAny_loadPart hx (ae (W.Looks.here (s:={ s with toks:=s.toks+1 }) (W.looks_clsIn X O) ?_))))));rw[jD];refine aq (a:=some dx) (ae (aq (ae ?_)));refine wpAny_nsSet1 (s:={ s with toks:=s.toks+1 }) I.ns λh' G j=>?_;obtain⟨oD,a2,a1,a0,Y,U⟩:=G.count (PySem.Within.cons name v hw);refine ae (wpAny_lookBehind a0 (by rw[Y];exact pastItsLine_dict (b8 U (by rw[cT];omega))) ?_);exact aq (h _ ⟨(j.2 _ (fw I.ne)).trans I.obj,G,I.ne⟩ j)
theorem aaE{R:Result->Shared->Prop}(X:K.In s.heap)(G:W.makesIn K C=true)
 (hi:W.findIn K (.ref C) "__init__"=some (some (.ref f))) (j:W.typeIn K (.ref f)=some (.type "function"))
 (h:codeAny (model prog w) (A.under (.builtin "type.__call__" ⟨.ref C::vs,kw⟩)) (.call (.ref f) ⟨.ref (s.heap.objs.size+1)::vs,kw⟩) (W.InitBack (s.heap.objs.size+1) R)
  { s with heap:=(s.heap.push W.emptyDict).push (W.instObj C s.heap.objs.size) }) :
 codeAny (model prog w) A (.call (.ref C) ⟨vs,kw⟩) R s:=by
 obtain⟨J,g,d,t,os⟩:=s;exact W.make_core (W.makes_of X G) (W.looks_findIn X hi) (λself=>W.bind_fn X self j) (.inl rfl) h
end
def ay(f:Str)(v:V):List (Str×V)->List (Str×V)
 | []=>[(f,v)]
 | (g,x)::r=>if g=f then(g,v)::r else(g,x)::ay f v r
theorem cO(f g:Str)(v:V):∀fs:List (Str×V),(ay f v fs).lookup g=if g=f then some v else fs.lookup g
 | []=>by
  show List.lookup g [(f,v)]=_
  by_cases h:g=f
  . have j:(g == f)=true:=jZ.mpr h;simp only[List.lookup,j,ai h]
  have j:(g == f)=false:=xB.mpr h;simp only[List.lookup,j,ag h]
 | (k,x)::r=>by
  have J:=cO f g v r;rw[show ay f v ((k,x)::r)=(if k=f then(k,v)::r else(k,x)::ay f v r) from rfl]
  by_cases G:k=f
  . rw[ai G]
    by_cases h:g=k
    . have j:(g == k)=true:=jZ.mpr h;simp only[List.lookup,j,ai (h.trans G)]
    have j:(g == k)=false:=xB.mpr h;simp only[List.lookup,j,ag (λe:g=f=>h (e.trans G.symm))]
  rw[ag G]
  by_cases h:g=k
  . have j:(g == k)=true:=jZ.mpr h;simp only[List.lookup,j,ag (λe:g=f=>G (h.symm.trans e))]
  have j:(g == k)=false:=xB.mpr h;simp only[List.lookup,j];exact J
theorem E4(f:Str)(v:V):∀fs:List (Str×V),f∈(ay f v fs).map (·.1)/\∀g,g∈fs.map (·.1)->g∈(ay f v fs).map (·.1)
 | []=>⟨by simp[ay],λg h=>by simp at h⟩
 | (k,x)::r=>by
  obtain⟨G,J⟩:=E4 f v r;rw[show ay f v ((k,x)::r)=(if k=f then(k,v)::r else(k,x)::ay f v r) from rfl]
  by_cases j:k=f
  . rw[ai j];subst j;exact⟨by simp,λg h=>by simpa using h⟩
  rw[ag j];refine⟨?_,λg h=>?_⟩
  . rw[bV];exact bT _ G
  rw[bV]at h ⊢
  rcases aZ.mp h with e | e
  . exact aZ.mpr (.inl e)
  exact bT _ (J g e)
theorem E5(f:Str)(v:V):∀fs:List (Str×V),(ay f v fs).length<=fs.length+1
 | []=>by simp[ay]
 | (k,x)::r=>by
  have G:=E5 f v r;rw[show ay f v ((k,x)::r)=(if k=f then(k,v)::r else(k,x)::ay f v r) from rfl]
  by_cases j:k=f
  . rw[ai j,cT,cT];omega
  rw[ag j,cT,cT];omega
theorem gN.some_of{v:V}{o:Option Value}(r:gN (some v) o):∃u,o=some u/\RelV v u:=by
 cases o with
 | none=>exact(show False from r).elim
 | some u=>exact⟨u,rfl,r⟩
theorem gN.none_of{o:Option Value}(r:gN none o):o=none:=by
 cases o with
 | none=>rfl
 | some u=>exact(show False from r).elim
theorem aaF{v:V}(r:RelV v u):W.handedIn u=true:=by
 cases v with
 | non=>cases (show u=Value.none from r);rfl
 | bl b=>cases (show u=Value.bool b from r);rfl
 | int i=>obtain⟨t,e⟩:=(show∃t,u=Value.int i t from r);cases e;rfl
 | str x=>obtain⟨t,e⟩:=(show∃t,u=Value.str x t from r);cases e;rfl
 | byt b=>obtain⟨t,e⟩:=(show∃t,u=Value.bytes b t from r);cases e;rfl
 | flt b=>obtain⟨t,e⟩:=(show∃t,u=Value.float b t from r);cases e;rfl
 | ref a=>cases (show u=Value.ref a from r);rfl
 | ty n=>cases (show u=Value.type n from r);rfl
section
variable {H H':Hp}{h:Heap}{fs cI:List (Str×V)}
theorem Bh(hok:cr P w H h)(e:H a=some (.ins C dx fs)):∃mA,tH h a dx C mA/\(∀f,gN (fs.lookup f) (mA f))/\PySem.Within mA (fs.map (·.1))/\fs.length<=1000/\H dx=some (.own a):=by
 obtain⟨d,z,ne,ob,mA,n,r,q⟩:=(show bX P w H h a (.ins C dx fs) from hok a _ e);exact⟨mA,⟨ob,n,ne⟩,r,q,z,d⟩
end
structure iV(K:Fg)(C:Addr):Prop where
 pg:W.plainGet K C Str.empty=true
 hd:W.hasDictIn K C=true
 po:W.plainOver K C=true
 sa:W.findIn K (.ref C) "__setattr__"=some (some (.builtin "object.__setattr__"))
theorem iV.get(c:iV K C)(f:Str):W.plainGet K C f=true:=c.pg
def fQ(K:Fg)(C:Addr)(f:Str):Prop:=W.findIn K (.ref C) f=some none
theorem fQ.taker{f:Str}(n:fQ K C f):W.takerIn K C f=some none:=by
 unfold W.takerIn;rw[show W.findIn K (.ref C) f=some none from n];rfl
structure ic(K:Fg)(C:Addr)(m:Str)(f:Addr):Prop where
 at_:W.findIn K (.ref C) m=some (some (.ref f))
 fn:W.isFn K (.ref f)=true
 kp:W.keepIn K (.ref f)=true
section
variable {H:Hp}{fs:List (Str×V)} {f:Str}{v:V}
theorem aaG{b:Bool}{Q:VP}(I:Inv X ad Z H s)(e:H a=some (.ins C dx fs))(c:iV X.K C)(n:fQ X.K C f)(l:fs.lookup f=some v)
 (h:∀u s',Inv X ad Z H s'->RelV v u->Q u s'):wpAny (model X.prog X.w) A (getAttr (.ref a) f b) Q E s:=by
 obtain⟨mA,O,r,_,_,_⟩:=Bh I.hok e;obtain⟨u,G,j⟩:=gN.some_of (v:=v) (o:=mA f) (by rw[<-l];exact r f);exact aay I.kIn O (c.get f) c.hd n G (aaF j) (h u _ (I.tok _) j)
theorem E6{m:Str}{g:Addr}{Q:Value×Lw->Shared->Prop}(I:Inv X ad Z H s)(e:H a=some (.ins C dx fs))(c:iV X.K C)(k:ic X.K C m g)(l:fs.lookup m=none)
 (h:Q (.ref g,[.ref a]) s):wpAny (model X.prog X.w) A (getMethod (.ref a) m pl) Q E s:=by
 obtain⟨mA,O,r,_,_,_⟩:=Bh I.hok e;have j:mA m=none:=gN.none_of (by rw[<-l];exact r m);exact aaz I.kIn O (c.get m) k.at_ k.fn j h
theorem aaH{y:V}{Q:Unit->Shared->Prop}(I:Inv X ad Z H s)(e:H a=some (.ins C dx fs))(c:iV X.K C)(n:fQ X.K C f)(hl:fs.length<1000)(ry:RelV y u)
 (h:∀s',Inv X ad Z (upd H a (.ins C dx (ay f y fs))) s'->Q () s'):wpAny (model X.prog X.w) A (setAttr (.ref a) f u) Q E s:=by
 obtain⟨mA,O,r,J,_,G⟩:=Bh I.hok e;have hz:(fs.map (·.1)).length<=sizeLine:=by rw[aj,sL];omega
 refine aaA I.kIn O c.sa c.po n.taker c.hd J hz λh' j sb=>h _ ?_;have hd:∃o,h'.get? dx=some o:=j.ns.elim λo U=>U.elim λ_ Y=>Y.elim λ_ a0=>a0.elim λe' _=>⟨o,e'⟩;refine I.write (x:=a) (e:=dx) (by rw[e];exact True.intro) (.inr G) (λb q hb z=>(sb.2 b hb).trans z) hd ?_;refine⟨by rw[aQ O.ne];exact G,?_,O.ne,j.obj,_,j.ns,λg=>?_,λg hg=>?_⟩
 . have:=E5 f y fs;omega
 . show gN ((ay f y fs).lookup g) (if g=f then some u else mA g);rw[cO]
   by_cases q:g=f
   . rw[ai q,ai q];exact ry
   rw[ag q,ag q];exact r g
 by_cases q:g=f
 . rw[q];exact(E4 f y fs).1
 refine(E4 f y fs).2 g (J g λz=>hg ?_);show(if g=f then some u else mA g)=none;rw[ag q];exact z
theorem Inv.made(I:Inv X ad Z H s):Inv X ad Z (upd (upd H s.heap.objs.size (.own (s.heap.objs.size+1))) (s.heap.objs.size+1) (.ins C s.heap.objs.size []))
 { s with heap:=(s.heap.push W.emptyDict).push (W.instObj C s.heap.objs.size) }:=by
 have e1:(s.heap.push W.emptyDict).get? s.heap.objs.size=some W.emptyDict:=dL s.heap rfl;have e2:((s.heap.push W.emptyDict).push (W.instObj C s.heap.objs.size)).get? (s.heap.objs.size+1)=some (W.instObj C s.heap.objs.size):=by
  have:=dL (s.heap.push W.emptyDict) (o:=W.instObj C s.heap.objs.size) rfl
  rwa [sM]at this
 have e3:(s.heap.push W.emptyDict).Ns s.heap.objs.size (λ_=>none):=⟨W.emptyDict,#[],_,e1,rfl,(λe G=>absurd G (by simp)),λ_=>rfl⟩;have j:=I.laid (a:=s.heap.objs.size) (o:=.own (s.heap.objs.size+1)) (h':=s.heap.push W.emptyDict) (t':=s.toks) (λb u q=>b9 _ q) (aG _) ⟨_,e1⟩;refine j.laid (a:=s.heap.objs.size+1) (o:=.ins C s.heap.objs.size []) (t':=s.toks) (λb u q=>b9 _ q) (xG (sM _ _)) ?_;have ne:s.heap.objs.size≠s.heap.objs.size+1:=cX (xH _);refine⟨by rw[aQ ne,aB],dC _,ne,e2,λ_=>none,(Heap.Ns1.of_empty e3).at λo q=>b9 _ q,λ_=>True.intro,λy J=>absurd rfl J⟩
theorem aaL{prog:Program}{env:Env}{f:Str}{pos:Pos}{Q:VP}(j:attributeBase e f env (eval e env)=eval e env)
 (h:wpAny (model prog w) A (eval e env) (λo G=>wpAny (model prog w) A (getAttr o f true) Q E G) E s):wpAny (model prog w) A (eval (.Attribute e f pos) env) Q E s:=
 Attribute_any_ h (by rw[arm_eval_Attribute,j])
end
inductive ND (K:Fg) (f:Str) (Q:VK) (H1:Hp):V->Prop where
 | mk {a:Addr}{C:Addr}{dx:Addr}{fs:List (Str×V)}{v:V} (_:H1 a=some (.ins C dx fs)) (_:iV K C) (_:fQ K C f) (_:fs.lookup f=some v) (_:Q v H1):ND K f Q H1 (.ref a)
def NE(K:Fg)(ta:TE)(f:Str):TE:=λZ H Q=>ta Z H λx H1=>ND K f Q H1 x
inductive NF (K:Fg) (f:Str) (D:Ends) (Z:St) (y:V) (H2:Hp):V->Prop where
 | mk {a:Addr}{C:Addr}{dx:Addr}{fs:List (Str×V)} (_:H2 a=some (.ins C dx fs)) (_:iV K C) (_:fQ K C f) (_:fs.length<1000) (_:D.nx Z (upd H2 a (.ins C dx (ay f y fs)))):NF K f D Z y H2 (.ref a)
def aaM(K:Fg)(ta tv:TE)(f:Str):TS:=λD Z H=>tv Z H λy H1=>ta Z H1 λx H2=>NF K f D Z y H2 x
section
variable {o value:Expr}{f:Str}{pos pos' vC:Pos}{ta tv:TE}
theorem bK(Y:PE X e ta)(U:attributeBase e f X.env (eval e X.env)=eval e X.env):PE X (.Attribute e f pos) (NE X.K ta f):=by
 intro ad s Z H Q I h;refine aaL U (thn (Y ad s Z H _ I h) λu s1 J=>aP J λx H1 j rx a0=>?_);obtain @⟨a,C,dx,fs,v,O,c,n,l,q⟩:=a0;obtain rfl:u=Value.ref a:=rx;exact aaG j O c n l λu' s2 G ru=>⟨v,H1,G,ru,q⟩
theorem iW(ha:PE X o ta)(hv:PE X value tv)(hs:swapsWith value (some (.Attribute o f pos')) pos.line X.env=pure false):PS X (.Assign [.Attribute o f pos'] value pos) (aaM X.K ta tv f):=by
 intro ad s Z H D I h;refine plainObj_wpAny_Assign_Attribute (thn (hv ad s Z H _ I h) λu s1 O=>aP O λy H1 j ry q=>thn (ha ad s1 Z H1 _ j q) λov s2 U=>aP U λx H2 G rx a0=>?_) hs;obtain @⟨a,C,dx,fs,Y,c,n,l,q2⟩:=a0;obtain rfl:ov=Value.ref a:=rx;exact aaH G Y c n l ry λs3 J=>⟨Z,_,J,q2⟩
end
section
variable {H:Hp}{Q:VP}{c:Value}{b:Bool}
inductive kj (K:Fg) (H:Hp):V->Value->Prop where
 | non:kj K H .non (.type "NoneType")
 | bl (x:Bool):kj K H (.bl x) (.type "bool")
 | int (i:Int):kj K H (.int i) (.type "int")
 | str (x:Str):kj K H (.str x) (.type "str")
 | flt (x:UInt64):kj K H (.flt x) (.type "float")
 | lst {a:Addr}{xs:Lv} (e:H a=some (.lst xs)):kj K H (.ref a) (.type "list")
 | frz {a:Addr}{o:Obj}{xs:Lv} (e:H a=some (.frz o (.lst xs))):kj K H (.ref a) (.type "list")
 | tup {a:Addr}{xs:Lv} (e:H a=some (.tup xs)):kj K H (.ref a) (.type "tuple")
 | dK {a:Addr}{kvs:List (ak×V)} (e:H a=some (.dK kvs)):kj K H (.ref a) (.type "dict")
 | dT {a:Addr}{kvs:List (List NI×V)} (e:H a=some (.dT kvs)):kj K H (.ref a) (.type "dict")
 | ins {a C dx:Addr}{fs:List (Str×V)} (e:H a=some (.ins C dx fs)) (G:iV K C) (J:W.findIn K (.ref C) "__class__"=some (some (.builtin "object.__class__")))
  (U:W.specialIn K (.builtin "object.__class__") "__get__"=some (some (.builtin "getset_descriptor.__get__"))) (j:W.takesIn K (.builtin "object.__class__")=some true)
  (O:W.mroIn K C (.type "object")=some true):kj K H (.ref a) (.ref C)
theorem aaS{x:V}{t:Value}(I:Inv X ad Z H s)(G:RelV x u)(ty:kj X.K H x t)(e:W.kitOne X.K t c=some b)(h:∀tk,Q (.bool b) { s with toks:=tk }) :
 wpAny (model X.prog X.w) A (call (.builtin "isinstance") [u,c]) Q E s:=by
 cases ty with
 | non=>cases (show u=Value.none from G);exact oC W.kitx_none I.kIn True.intro e (λz=>nomatch z) h
 | bl y=>cases (show u=Value.bool y from G);exact oC W.kitx_bool I.kIn True.intro e (λz=>nomatch z) h
 | int i=>obtain⟨t,q⟩:=(show∃t,u=Value.int i t from G);cases q;exact oC W.kitx_int I.kIn True.intro e (λz=>nomatch z) h
 | str y=>obtain⟨t,q⟩:=(show∃t,u=Value.str y t from G);cases q;exact oC W.kitx_str I.kIn True.intro e (λz=>nomatch z) h
 | flt y=>obtain⟨t,q⟩:=(show∃t,u=Value.float y t from G);cases q;exact oC W.kitx_float I.kIn True.intro e (λz=>nomatch z) h
 | @lst a xs j=>
  cases (show u=Value.ref a from G);obtain⟨_,_,n,_,h1⟩:=(show bX X.prog X.w H s.heap a (.lst xs) from I.hok a _ j);exact oC W.kitx_list I.kIn ⟨_,h1,rfl⟩ e (λz=>nomatch z) h
 | @frz a ob xs j=>
  cases (show u=Value.ref a from G);obtain⟨_,_,_,n,_,h1⟩:=(show bX X.prog X.w H s.heap a (.frz ob (.lst xs)) from I.hok a _ j);exact oC W.kitx_list I.kIn ⟨_,h1,rfl⟩ e (λz=>nomatch z) h
 | @tup a xs j=>
  cases (show u=Value.ref a from G);obtain⟨_,_,_,p⟩:=(show bX X.prog X.w H s.heap a (.tup xs) from I.hok a _ j);obtain⟨o,h1,h2,_⟩:=p;exact oC W.kitx_tuple I.kIn ⟨o,h1,h2⟩ e (λz=>nomatch z) h
 | @dK a kvs j=>
  cases (show u=Value.ref a from G);obtain⟨_,_,vs,_,p⟩:=(show bX X.prog X.w H s.heap a (.dK kvs) from I.hok a _ j);obtain⟨o,es,ep,h1,h2,_⟩:=p;exact oC W.kitx_dict I.kIn ⟨o,h1,h2.1⟩ e (λz=>nomatch z) h
 | @dT a kvs j=>
  cases (show u=Value.ref a from G);obtain⟨_,_,xs,_,o,es,ep,h1,h2,_⟩:=(show bX X.prog X.w H s.heap a (.dT kvs) from I.hok a _ j);exact oC W.kitx_dict I.kIn ⟨o,h1,h2.1⟩ e (λz=>nomatch z) h
 | @ins a C dx fs j U ha hn Y hm=>
  cases (show u=Value.ref a from G);obtain⟨mA,O,_⟩:=Bh I.hok j;obtain⟨od,J,_⟩:=O.look;exact oC (W.kitx_own (U.get _) U.hd ha hn Y hm) I.kIn J e (λz=>nomatch z) h
end
structure ci(k:Nat)(A:Around):Prop where
 hd:A.handled=none
 dp:A.depth+3 * k+5<recursionLimit
 un:A.units+16 * k+200<cLine
 gd:A.guards=some []
theorem ci.mono{j k:Nat}(r:ci k A)(h:j<=k):ci j A:=⟨r.hd,by have:=r.dp;omega,by have:=r.un;omega,r.gd⟩
theorem ci.deeper{k:Nat}(r:ci (k+1) A)(env:Env):ci k (A.deeper env):=
 ⟨r.hd,by have:=r.dp;show A.depth+1+3 * k+5<_;omega,by have:=r.un;show A.units+3+16 * k+200<_;omega,r.gd⟩
theorem ci.in1{k:Nat}(r:ci (k+1) A):ci k A.in1:=
 ⟨r.hd,by have:=r.dp;show A.depth+3 * k+5<_;omega,by have:=r.un;show A.units+1+16 * k+200<_;omega,r.gd⟩
theorem aaT:(A.under (.builtin "type.__call__" ⟨.ref C::us,kw⟩)).depth=A.depth+1:=by
 first | rfl | simp[Around.under,Code.weight,Code.isCreation,Code.isGuard,Code.isCaller,Code.frames,Code.isFrame,guardIds]
theorem aaU:(A.under (.builtin "type.__call__" ⟨.ref C::us,kw⟩)).units=A.units+1:=by
 first | rfl | simp[Around.under,Code.cUnits,Code.frames,Code.isFrame]
theorem aaV:(A.under (.builtin "type.__call__" ⟨.ref C::us,kw⟩)).guards=A.guards:=by
 first | rfl | simp[Around.under,pushGuards,Code.guards,Code.isGuard,guardIds]
theorem ci.make{k:Nat}(r:ci (k+1) A)(C:Addr)(us:Lw)(kw:List (Str×Value)):ci k (A.under (.builtin "type.__call__" ⟨.ref C::us,kw⟩)):=
 ⟨r.hd,by have:=r.dp;rw[aaT];omega,by have:=r.un;rw[aaU];omega,aaV.trans r.gd⟩
theorem ci.depth{k:Nat}(r:ci k A):A.depth<recursionLimit:=by have:=r.dp;omega
theorem ci.units{k:Nat}(r:ci k A):A.units+64<cLine:=by have:=r.un;omega
theorem ci.units0{k:Nat}(r:ci k A):A.units<cLine:=by have:=r.un;omega
def fT:TA:=λ_ H Q=>Q [] H
def fU(ta:TE)(tr:TA):TA:=λZ H Q=>ta Z H λx H1=>tr Z H1 λxs H2=>Q (x::xs) H2
section
variable {te:TE}{t:TA}{pos:Pos}
theorem dG:PA X [] fT:=λ_ _ _ _ H Q I h=>Mg ⟨[],H,I,.nil,h⟩
theorem gk(U:PE X e te)(Y:PA X es t)(hs:starEach (e::es) X.env=(false,eval e X.env)::starEach es X.env:=by rfl):PA X (e::es) (fU te t):=by
 intro pos ad s Z H Q I h;rw[hs];show wpAny _ _ (spliced ((false,eval e X.env)::backTo pos (starEach es X.env))) _ _ s;refine Ej (thn (U ad s Z H _ I h) λu s1 J=>aP J λx H1 j r1 q1=>?_);exact thn (Y pos ad s1 Z H1 _ j q1) λus s2 O=>aP O λxs H2 G r2 q2=>⟨x::xs,H2,G,.cons r1 r2,q2⟩
def E7(t:TA):TE:=λZ H Q=>t Z H λxs H1=>xs.length<=sizeLine/\∀p,H1 p=none->Q (.ref p) (upd H1 p (.tup xs))
def aaY(t:TA):TE:=λZ H Q=>t Z H λxs H1=>xs.length<=sizeLine/\∀p,H1 p=none->Q (.ref p) (upd H1 p (.lst xs))
theorem NH{x1}(h:PA X es t):PE X (.Tuple es x1 pos) (E7 t):=by
 intro ad s Z H Q I Y;refine wpAny_Tuple_spliced (thn (h pos ad s Z H _ I Y) λus j O=>aP O λxs H1 G r J=>J.elim λz q=>⟨by rw[<-r.length];exact z,?_⟩);have U:H1 j.heap.objs.size=none:=G.hok.fresh (aG _);refine⟨.ref j.heap.objs.size,upd H1 j.heap.objs.size (.tup xs),G.laid (t':=j.toks) (λb u e=>b9 _ e) (aG _) ?_,rfl,q _ U⟩;exact⟨z,us,r,⟨_,dL _ rfl,rfl,_,rfl⟩⟩
theorem aa1(h:PA X es t):PE X (.List es pos) (aaY t):=by
 intro ad s Z H Q I Y;refine wpAny_List_spliced (thn (h pos ad s Z H _ I Y) λus j J=>aP J λxs H1 G r O=>O.elim λz q=>⟨by rw[<-r.length];exact z,?_⟩);have U:H1 j.heap.objs.size=none:=G.hok.fresh (aG _);refine⟨.ref j.heap.objs.size,upd H1 j.heap.objs.size (.lst xs),G.laid (t':=j.toks) (λb u e=>b9 _ e) (aG _) ?_,rfl,q _ U⟩;exact⟨z,us,0,r,dL _ rfl⟩
end
abbrev Sp:=Lv->Hp->VK->XK->Prop
variable {sp:Sp}
abbrev ie:=List Env->Hp->Shared->XK->Value->Shared->Prop
variable {CX:ie}
structure mw(P:Program)(w:World)(K:Fg)(mg:Mv)(base:Heap)(A:Around)(outer:List Env)(s:Shared)(H:Hp):Prop where
 frames:A.frames=some outer
 mod:Mod K mg base
 bs:∀b o,base.get? b=some o->s.heap.get? b=some o/\H b=none
 bsz:base.objs.size<=s.heap.objs.size
 funs:s.heap.FunFrames base outer
 frf:∀b∈cJ outer,H b=none
 hok:cr P w H s.heap
 bare:AllBare s.gens
def CE(outer:List Env)(P:Program)(w:World)(H:Hp)(s:Shared)(Q:VK)(u:Value)(s':Shared):Prop:=
 ∃v H',s'.os=s.os/\AllBare s'.gens/\Un (cJ outer) [] H H' s.heap s'.heap/\cr P w H' s'.heap/\RelV v u/\Q v H'
def CR(CX:ie)(outer:List Env)(P:Program)(w:World)(H:Hp)(s:Shared)(Q:VK)(E:XK)(r:Result)(s':Shared):Prop:=
 match r with
 | .ok (.ret u)=>CE outer P w H s Q u s'
 | .ok _=>False
 | .error e=>CX outer H s E e s'
structure aA(P:Program)(w:World)(K:Fg)(mg:Mv)(base:Heap)(CX:ie)(k:Nat)(f:Addr)(fd:Fy)(ps:Ls)(sp:Sp):Prop where
 len:∀vs H Q E,sp vs H Q E->vs.length=ps.length
 run:∀(A:Around) (outer:List Env) (s:Shared) (H:Hp) (args:Args) (us:Lw) (vs:Lv) (Q:VK) (E:XK),ci k A->mw P w K mg base A outer s H->BindsTo s fd args (ps.zip us)->aW vs us->sp vs H Q E ->
  codeAny (model P w) A (.call (.ref f) args) (CR CX outer P w H s Q E) s
theorem aA.mono{j k:Nat}(F:aA P w K mg base CX j f fd ps sp)(h:j<=k) :
 aA P w K mg base CX k f fd ps sp:=⟨F.len,λA outer s H args us vs Q E G=>F.run A outer s H args us vs Q E (G.mono h)⟩
theorem aA.imp{k:Nat}{j:Sp}(F:aA P w K mg base CX k f fd ps sp)
 (h:∀vs H Q E,j vs H Q E->sp vs H Q E):aA P w K mg base CX k f fd ps j:=
 ⟨λvs H Q E q=>F.len vs H Q E (h _ _ _ _ q),λA outer s H args us vs Q E O J G U hs=>F.run A outer s H args us vs Q E O J G U (h _ _ _ _ hs)⟩
theorem mw.make{outer:List Env}{H:Hp}(e:mw P w K mg base A outer s H)(C:Addr)(us:Lw)(kw:List (Str×Value)) :
 mw P w K mg base (A.under (.builtin "type.__call__" ⟨.ref C::us,kw⟩)) outer s H:=⟨by first | exact e.frames | (simpa [Around.under,Code.envs,Code.isFrame,pushEnvs]using e.frames),e.mod,e.bs,e.bsz,e.funs,e.frf,e.hok,e.bare⟩
theorem mw.in1{outer:List Env}{H:Hp}(e:mw P w K mg base A outer s H) :
 mw P w K mg base A.in1 outer s H:=⟨e.frames,e.mod,e.bs,e.bsz,e.funs,e.frf,e.hok,e.bare⟩
section
variable {H:Hp}
theorem Inv.env0(I:Inv X ad Z H s):mw X.prog X.w X.K X.mg X.base X.A X.stack s H:=
 ⟨I.ok.frames,I.ok.mod,I.bs,b8 I.ok.bsz I.sz,I.stack,I.stkFree,I.hok,I.bare⟩
theorem Inv.after{Q:VK}(I:Inv X ad Z H s)(h:CE X.stack X.prog X.w H s Q u s'):EP X ad Z Q u s':=by
 obtain⟨v,H',os,G,un,hok,r,q⟩:=h;obtain⟨J,g,d,t,j⟩:=s';obtain rfl:j=s.os:=os;exact⟨v,H',I.call (h':=J) (g':=g) (d':=d) (t':=t) (ch:=[]) un hok G (λb z=>absurd z (by simp)),r,q⟩
end
def E8(sp:Sp)(dj:Lv)(E:XK)(t:TA):TE:=λZ H Q=>t Z H λvs H1=>sp (vs++dj) H1 Q E
inductive NK (C:Addr) (m:Str) (sp:Sp) (dj:Lv) (E:XK) (t:TA) (Z:St) (Q:VK) (H1:Hp):V->Prop where
 | mk {a:Addr}{dx:Addr}{fs:List (Str×V)} (_:H1 a=some (.ins C dx fs)) (_:fs.lookup m=none) (_:t Z H1 λvs H2=>sp ((.ref a)::(vs++dj)) H2 Q E):NK C m sp dj E t Z Q H1 (.ref a)
def E9(C:Addr)(m:Str)(sp:Sp)(dj:Lv)(E:XK)(ta:TE)(t:TA):TE:=λZ H Q=>ta Z H λx H1=>NK C m sp dj E t Z Q H1 x
def NL(C:Addr)(sp:Sp)(dj:Lv)(E:XK)(t:TA):TE:=λZ H Q=>t Z H λvs H1=>∀x dx,H1 x=none->H1 dx=none->dx≠x ->
 sp (.ref x::(vs++dj)) (upd (upd H1 dx (.own x)) x (.ins C dx [])) (λv H2=>v=.non/\Q (.ref x) H2) E
def Binds(K:Fg)(fd:Fy)(ps:Ls)(ds:Lw):Prop:=
 ∀(s:Shared) (us:Lw),K.In s.heap->(us++ds).length=ps.length->BindsTo s fd ⟨us,[]⟩ (ps.zip (us++ds))
theorem Binds.all(h:∀us:Lw,us.length=ps.length->bindArgs fd ⟨us,[]⟩=pure (ps.zip us)):Binds K fd ps []:=λs us _ j=>by
 rw[jX]at j ⊢;exact .of_eq (h us j)
def mx(CX:ie)(X:Cx)(E:XK):Prop:=∀(ad:Po) (Z:St) (H:Hp) (s:Shared) (e:Value) (s':Shared),Inv X ad Z H s->CX X.stack H s E e s'->X.xe e s'
section
variable {k:Nat}{dj:Lv}{ds:Lw}{E:XK}{x m:Str}{pos apos:Pos}{o:Expr}{ta:TE}{t:TA}
theorem Fb{H:Hp}{Q:VK}{vs:Lv}(F:aA X.prog X.w X.K X.mg X.base CX k f fd ps sp)(U:ci k X.A)(J:Binds X.K fd ps ds)(hd:aW dj ds)(Y:mx CX X E)
 (I:Inv X ad Z H s) (r:aW vs us) (h:sp (vs++dj) H Q E):wpAny (model X.prog X.w) X.A (call (.ref f) us) (EP X ad Z Q) X.xe s:=by
 have G:aW (vs++dj) (us++ds):=r.append hd;have O:(us++ds).length=ps.length:=by rw[<-G.length];exact F.len _ _ _ _ h
 refine Ek (qt (F.run X.A X.stack s H ⟨us,[]⟩ (us++ds) (vs++dj) Q E U I.env0 (J s us I.kIn O) G h) λr s' j=>?_);cases r with
 | error e=>exact Y ad Z H s e s' I j
 | ok fl=>
  cases fl with
  | ret u=>exact I.after j
  | next=>exact False.elim j
  | brk=>exact False.elim j
  | cont=>exact False.elim j
theorem NM(F:aA X.prog X.w X.K X.mg X.base CX k f fd ps sp)(hr:ci k X.A)(hg:Gl X x)(hm:X.mg x=some (.ref f))(hk:W.keepIn X.K (.ref f)=true)(U:Binds X.K fd ps ds)(hd:aW dj ds)(hx:mx CX X E)
 (O:PA X (e::es) t) (ix:(x == ("__debug__":Str))=false:=by decide) (Y:starEach (e::es) X.env=(false,eval e X.env)::starEach es X.env:=by rfl) (J:(backTo pos (starEach es X.env)).any (·.1)=false:=by rfl) :
 PE X (.Call (.Name x p) (e::es) [] pos) (E8 sp dj E t):=by
 intro ad s Z H Q I h;refine AI (vv I hg hm ?_ ix);refine Mh (h₀:=X.base) I.ok.mod.kin hk (thn (O pos ad s Z H _ I h) λus s1 G=>aP G λvs H1 j r q=>⟨j.kIn,?_⟩) Y J;exact Fb F hr U hd hx j r q
theorem nj(he:PE X o ta)(c:iV X.K C)(J:ic X.K C m f)(F:aA X.prog X.w X.K X.mg X.base CX k f fd ps sp)(hr:ci k X.A)(hb:Binds X.K fd ps ds)(hd:aW dj ds)(hx:mx CX X E)(ha:PA X (e::es) t)
 (fg:starEach (e::es) X.env=(false,eval e X.env)::starEach es X.env:=by rfl) (dQ:(backTo pos (starEach es X.env)).any (·.1)=false:=by rfl)
 (ht:eval (.Call (.Attribute o m apos) (e::es) [] pos) X.env=(do
  let O <-eval o X.env
  standAt apos.atName
  let (f,first) <-holding [O] (getMethod O m pl)
  callWith pos f first (backTo pos (starEach (e::es) X.env)) (backToKw pos (keywordEach [] X.env))):=by rfl) :
 PE X (.Call (.Attribute o m apos) (e::es) [] pos) (E9 C m sp dj E ta t):=by
 intro ad s Z H Q I h;refine XM (pl:=pl) (thn (he ad s Z H _ I h) λu s1 U=>aP U λx H1 j rx a0=>?_) ht;obtain @⟨a,dx,fs,ea,l,q⟩:=a0;obtain rfl:u=Value.ref a:=rx;refine E6 j ea c J l ?_;refine Mh (first:=[.ref a]) (h₀:=X.base) I.ok.mod.kin J.kp (thn (ha pos ad s1 Z H1 _ j q) λus s2 Y=>aP Y λvs H2 G r q2=>⟨G.kIn,?_⟩) fg dQ;exact Fb (us:=.ref a::us) (vs:=.ref a::vs) F hr hb hd hx G (.cons rfl r) q2
theorem iz(he:PE X o ta)(c:iV X.K C)(G:ic X.K C m f)(F:aA X.prog X.w X.K X.mg X.base CX k f fd ps sp)(hr:ci k X.A)(Y:Binds X.K fd ps ds)(hd:aW dj ds)(hx:mx CX X E)
 (ht:eval (.Call (.Attribute o m apos) [] [] pos) X.env=(do
  let J <-eval o X.env
  standAt apos.atName
  let (f,first) <-holding [J] (getMethod J m pl)
  callWith pos f first (backTo pos (starEach [] X.env)) (backToKw pos (keywordEach [] X.env))):=by rfl) :
 PE X (.Call (.Attribute o m apos) [] [] pos) (E9 C m sp dj E ta fT):=by
 intro ad s Z H Q I h;refine XM (pl:=pl) (thn (he ad s Z H _ I h) λu s1 O=>aP O λx H1 j rx a0=>?_) ht;obtain @⟨a,dx,fs,U,l,q⟩:=a0;obtain rfl:u=Value.ref a:=rx;refine E6 j U c G l ?_;exact W.callWith_K0 (first:=[.ref a]) j.kIn G.kp (Fb (us:=[.ref a]) (vs:=[.ref a]) F hr Y hd hx j (.cons rfl .nil) q)
structure Mk(K:Fg)(C f:Addr):Prop where
 makes:W.makesIn K C=true
 init:W.findIn K (.ref C) "__init__"=some (some (.ref f))
 fn:W.isFn K (.ref f)=true
 kp:W.keepIn K (.ref C)=true
theorem NO{H:Hp}{Q:VK}{vs:Lv}(M:Mk X.K C f)(F:aA X.prog X.w X.K X.mg X.base CX k f fd ps sp)(hr:ci (k+1) X.A)(hb:Binds X.K fd ps ds)(hd:aW dj ds)
 (hx:mx CX X E) (I:Inv X ad Z H s) (r:aW vs us)
 (h:∀x dx,H x=none->H dx=none->dx≠x->sp (.ref x::(vs++dj)) (upd (upd H dx (.own x)) x (.ins C dx [])) (λv H2=>v=.non/\Q (.ref x) H2) E) :
 wpAny (model X.prog X.w) X.A (call (.ref C) us) (EP X ad Z Q) X.xe s:=by
 have J:=h (s.heap.objs.size+1) s.heap.objs.size (I.hok.fresh (qv _)) (I.hok.fresh (aG _)) (cX (xH _));have G:=Inv.made (C:=C) I;have O:aW (V.ref (s.heap.objs.size+1)::(vs++dj)) (Value.ref (s.heap.objs.size+1)::(us++ds)):=.cons rfl (r.append hd);have hl:(Value.ref (s.heap.objs.size+1)::us++ds).length=ps.length:=by
  have e:=O.length;rw[F.len _ _ _ _ J]at e;exact e.symm
 refine Ek (aaE (f:=f) I.kIn M.makes M.init (jZ.mp M.fn) (qt (F.run _ X.stack _ _ ⟨Value.ref (s.heap.objs.size+1)::us,[]⟩ (Value.ref (s.heap.objs.size+1)::(us++ds)) _ _ E (hr.make C us [])
  (G.env0.make C us []) (hb _ (Value.ref (s.heap.objs.size+1)::us) G.kIn hl) O J) λr s' j=>?_))
 cases r with
 | error e=>exact hx ad Z _ _ e s' G j
 | ok fl=>
  cases fl with
  | ret u=>
   obtain⟨v,H',U,rv,Y,q3⟩:=G.after j;subst Y;exact⟨rv,⟨V.ref (s.heap.objs.size+1),H',U,rfl,q3⟩⟩
  | next=>exact False.elim j
  | brk=>exact False.elim j
  | cont=>exact False.elim j
theorem tI(M:Mk X.K C f)(F:aA X.prog X.w X.K X.mg X.base CX k f fd ps sp)(hr:ci (k+1) X.A)(hg:Gl X x)(hm:X.mg x=some (.ref C))(U:Binds X.K fd ps ds)(hd:aW dj ds)(hx:mx CX X E)
 (O:PA X (e::es) t) (ix:(x == ("__debug__":Str))=false:=by decide) (Y:starEach (e::es) X.env=(false,eval e X.env)::starEach es X.env:=by rfl) (J:(backTo pos (starEach es X.env)).any (·.1)=false:=by rfl) :
 PE X (.Call (.Name x p) (e::es) [] pos) (NL C sp dj E t):=by
 intro ad s Z H Q I h;refine AI (vv I hg hm ?_ ix);refine Mh (h₀:=X.base) I.ok.mod.kin M.kp (thn (O pos ad s Z H _ I h) λus s1 G=>aP G λvs H1 j r q=>⟨j.kIn,?_⟩) Y J;exact NO M F hr U hd hx j r q
theorem abb(M:Mk X.K C f)(F:aA X.prog X.w X.K X.mg X.base CX k f fd ps sp)(O:ci (k+1) X.A)(G:Gl X x)(J:X.mg x=some (.ref C))(j:Binds X.K fd ps ds)(hd:aW dj ds)(U:mx CX X E)
 (Y:(x == ("__debug__":Str))=false:=by decide):PE X (.Call (.Name x p) [] [] pos) (NL C sp dj E fT):=by
 intro ad s Z H Q I h;refine AI (vv I G J ?_ Y);exact W.callWith_K0 I.kIn M.kp (NO (us:=[]) M F O j hd U I .nil h)
end
def PK(X:Cx)(fA:List Keyword)(t:TA):Prop:=
 ∀(pos:Pos) (ad:Po) (s:Shared) (Z:St) (H:Hp) (Q:Lv->Hp->Prop),Inv X ad Z H s->t Z H Q->wpAny (model X.prog X.w) X.A (evalAll ((backToKw pos (keywordEach fA X.env)).map (·.2))) (AP X ad Z Q) X.xe s
section
variable {k:Nat}{ks:Ls}{E:XK}{x m:Str}{pos apos yk:Pos}{o:Expr}{fA:List Keyword}{te ta:TE}{t tk:TA}{nm:Option Str}
theorem abc:PK X [] fT:=λ_ _ _ _ H Q I h=>wpAny_evalAll_nil ⟨[],H,I,.nil,h⟩
theorem abd(U:PE X e te)(Y:PK X fA t):PK X (⟨nm,e,yk⟩::fA) (fU te t):=by
 intro pos ad s Z H Q I h;show wpAny _ _ (evalAll ((do let v <-eval e X.env;standAt pos;pure v)::(backToKw pos (keywordEach fA X.env)).map (·.2))) _ _ s;refine wpAny_evalAll_cons (ae (thn (U ad s Z H _ I h) λu s1 J=>aP J λx H1 j r1 q1=>ae (XN (aq ?_))));exact thn (Y pos ad s1 Z H1 _ j q1) λus s2 O=>aP O λxs H2 G r2 q2=>⟨x::xs,H2,G,.cons r1 r2,q2⟩
variable {g:Lw->Lw->Lw}{gV:Lv->Lv->Lv}
end
structure aN(N P:Ls)(sc:Scope):Prop where
 kind:sc.kind=.function
 co:sc.isCoroutine=false
 gen:sc.isGenerator=false
 nd:N.Nodup
 pre:N.take P.length=P
 par:∀x∈P,sc.names.lookup x=some .local\/sc.names.lookup x=some .cell
 nofree:∀y∈sc.names,y.2≠.free
theorem NQ{x:Str}:∀{binds:List (Str×Value)}{m:Mv},(∀v,(x,v)∉binds)->bindL kindOf binds m x=m x
 | [],_,_=>rfl
 | (n,v)::r,m,h=>by
  unfold bindL;rw[NQ λw j=>h w (bT _ j)];split
  . have:x≠n:=by rintro rfl;exact h v bL
    simp[this]
  rfl
theorem NR{x:Str}:∀{binds:List (Str×Value)}{m:Mv},(∀v,(x,v)∉binds)->bindC kindOf binds m x=m x
 | [],_,_=>rfl
 | (n,v)::r,m,h=>by
  unfold bindC;rw[NR λw j=>h w (bT _ j)];split
  . rfl
  have:x≠n:=by rintro rfl;exact h v bL
  simp[this]
theorem NS{x:Str}{v:Value}:∀{P:Ls}{vs:Lw}{i:Nat}{m:Mv},P.Nodup->P[i]?=some x->vs[i]?=some v->kindOf x=some .local ->
 bindL kindOf (P.zip vs) m x=some v
 | [],_,_,_,_,h,_,_=>by simp at h
 | _::_,[],_,_,_,_,h,_=>by simp at h
 | p::P,w::vs,0,m,nd,h1,h2,hk=>by
  simp at h1 h2;subst h1;subst h2;show bindL kindOf ((p,w)::P.zip vs) m p=_;unfold bindL;rw[NQ λv j=>(qw.mp nd).1 (Mi j).1,ai hk];simp
 | p::P,w::vs,i+1,m,nd,h1,h2,hk=>by
  show bindL kindOf ((p,w)::P.zip vs) m x=_;unfold bindL;exact NS (i:=i) (qw.mp nd).2 (by simpa using h1) (by simpa using h2) hk
theorem NT{x:Str}{v:Value}:∀{P:Ls}{vs:Lw}{i:Nat}{m:Mv},P.Nodup->P[i]?=some x->vs[i]?=some v->kindOf x≠some .local ->
 bindC kindOf (P.zip vs) m x=some v
 | [],_,_,_,_,h,_,_=>by simp at h
 | _::_,[],_,_,_,_,h,_=>by simp at h
 | p::P,w::vs,0,m,nd,h1,h2,hk=>by
  simp at h1 h2;subst h1;subst h2;show bindC kindOf ((p,w)::P.zip vs) m p=_;unfold bindC;rw[NR λv j=>(qw.mp nd).1 (Mi j).1,ag hk];simp
 | p::P,w::vs,i+1,m,nd,h1,h2,hk=>by
  show bindC kindOf ((p,w)::P.zip vs) m x=_;unfold bindC;exact NT (i:=i) (qw.mp nd).2 (by simpa using h1) (by simpa using h2) hk
def start(N:Ls)(vs:Lv):St:=vs.map some++List.replicate (N.length - vs.length) none
def lq(CX:ie)(P:Program)(w:World)(K:Fg)(mg:Mv)(base:Heap)(N:Ls)(a_:Str)(scope:Scope)(f:Addr)(cd:Value)(A:Around)(outer:List Env)(s:Shared)(H:Hp)(E:XK):Cx where
 prog:=P
 w:=w
 K:=K
 mg:=mg
 base:=base
 A:=A.deeper (envOfC a_ scope s.heap.objs.size f cd)
 N:=N
 s₀:=s
 H₀:=H
 env:=envOfC a_ scope s.heap.objs.size f cd
 outer:=outer
 stack:=envOfC a_ scope s.heap.objs.size f cd::outer
 ex:=[]
 calm:=true
 fn:=λ_=>true
 pn:=[]
 xe:=λe s'=>wpAny (model P w) (A.deeper (envOfC a_ scope s.heap.objs.size f cd)) (leaving (envOfC a_ scope s.heap.objs.size f cd) e) (λ_ j=>CX outer H s E e j) (λG j=>CX outer H s E G j) s'
theorem NW{sc:Scope}{x:Str}(h:sc.names.lookup x=some .cell):∃c,(cellsFrom n sc.names []).lookup x=some c:=by
 have q:=XO sc.names n [] (.inl h);exact El.mp q
theorem NX{a_:Str}{scope:Scope}{cd:Value}{outer:List Env}{Y:Shared}{H:Hp}{E:XK}{vs:Lv}
 (S:aN N ps scope) (hd:A.handled=none) (e0:mw P w K mg base A outer s H) (hl:vs.length=ps.length) (r:aW vs us)
 (x:InCallC s s.heap.objs.size (bindL (envOfC a_ scope s.heap.objs.size f cd).kindOf (ps.zip us) λ_=>none) (cellsFrom (s.heap.objs.size+1) scope.names []) (bindC (envOfC a_ scope s.heap.objs.size f cd).kindOf (ps.zip us) λ_=>none) Y) :
 Inv (lq CX P w K mg base N a_ scope f cd A outer s H E) [] (start N vs) H Y:=by
 have dQ:ps.length<=N.length:=by have:=eZ List.length S.pre;rw[eR]at this;omega
 obtain⟨h1,tk,rfl,O⟩:=x.done;have G:∀b:Addr,b∉(lq CX P w K mg base N a_ scope f cd A outer s H E).ex:=λb z=>absurd (show b∈([]:List Addr) from z) (by simp);refine⟨⟨e0.mod,S.kind,rfl,rfl,aG _,λy z c h1 h2=>?_,λy hy=>?_,λy c _ h=>?_,λ_=>hd,Around.frames_deeper e0.frames,.inr ⟨rfl,rfl⟩,λb z=>absurd z (G b),e0.bs,e0.bsz,λb _ _=>G b,λb z=>absurd z (G b),e0.funs,e0.frf⟩,
  rfl,e0.bare,Un.kept O,⟨_,x.toInCall.ns,λi y v h1 h2 h3=>?_⟩,λy c h=>⟨_,x.cell y c h⟩,e0.hok.fresh (aG _),λy c h=>?_,λp j=>absurd (show p∈([]:Po) from j) (by simp),e0.hok.kept O,?_⟩
 . exact name_of_addr x.apart (AJ h1) (AJ h2)
 . have hy:scope.names.lookup y=some .cell\/scope.names.lookup y=some .free:=hy
   rcases hy with hy | hy
   . exact NW hy
   exact absurd rfl (S.nofree _ (AJ hy))
 . exact ve (x.above y c (AJ h))
 . have hi:i<vs.length:=by
    unfold start at h2
    by_cases hi:i<vs.length
    . exact hi
    rw[Em (by simpa using hi)]at h2;rw[av9]at h2;split at h2<;>cases h2
   have ha:vs[i]?=some v:=by
    unfold start at h2;rw[XQ (by simpa using hi),dN]at h2;cases e:vs[i]? with
    | none=>rw[e]at h2;cases h2
    | some a=>rw[e]at h2;cases h2;rfl
   obtain⟨u,U,rv⟩:=r.get ha;have j:ps[i]?=some y:=by
    rw[<-S.pre,List.getElem?_take_of_lt (by omega)];exact h1
   have J:ps.Nodup:=by rw[<-S.pre];exact S.nd.sublist (List.take_sublist _ _)
   refine⟨u,rv,?_⟩
   rcases S.par y (dM j) with k | k
   . exact .inl ⟨k,NS J j U k⟩
   obtain⟨c,e⟩:=NW (n:=s.heap.objs.size+1) k;refine .inr ⟨.inl k,c,e,?_⟩;have q:=x.cell y c e;rw[NT J j U (by show scope.names.lookup y≠_;rw[k];decide)]at q;exact q
 . exact e0.hok.fresh (ve (x.above y c (AJ h)))
 unfold start;show _=N.length;rw[bI,aj,XR];omega
theorem Fe{k:Nat}{name a_:Str}{params:Arguments}{scope:Scope}{dV kV a0 pm j ct oc:Value}{Y od:Oa}
 {iX:Array (Option Value)} (lk:K.lookup f=some ⟨oc,od,.func (W.fnOf name a_ params body scope dV kV a0 pm Y j ct),iX⟩) (iU:W.codeIn K j a_=true) (S:aN N ps scope)
 (len:∀vs H Q E,sp vs H Q E->vs.length=ps.length)
 (oO:∀(A:Around) (outer:List Env) (s:Shared) (H:Hp) (vs:Lv) (Q:VK) (E:XK),ci k (A.deeper (envOfC a_ scope s.heap.objs.size f j))->sp vs H Q E ->
  ∃t,cf (lq CX P w K mg base N a_ scope f j A outer s H E) body t/\t { nx:=λ_ H'=>Q .non H',rt:=Q } (start N vs) H) :
 aA P w K mg base CX (k+1) f (W.fnOf name a_ params body scope dV kV a0 pm Y j ct) ps sp:=by
 refine⟨len,λA outer s H args us vs Q E G e0 hb r jE=>?_⟩;have hl:=len _ _ _ _ jE;have U:K.In s.heap:=e0.mod.kin.keeps λb o e=>(e0.bs b o e).1;have a2:s.heap.NoLimit:=e0.mod.nolimit.keeps λb o e=>(e0.bs b o e).1;have Ff:∀y∈ps.zip us,scope.names.lookup y.1=some .local\/(scope.names.lookup y.1=some .cell/\((cellsFrom (s.heap.objs.size+1) scope.names []).lookup y.1).isSome=true):=λ⟨n,v⟩ hy=>by
  rcases S.par n (Mi hy).1 with q | q
  . exact .inl q
  exact .inr ⟨q,XO _ _ _ (.inl q)⟩
 refine codeAny_call_function G.depth (U _ _ lk) rfl S.co S.gen rfl (W.codeRec_of U iU) (hb _ _ _ _ ?_);refine awa S.kind Ff λenv he s1 x=>?_;subst he;refine⟨a2.keeps x.toInCall.keep,codeAny_func ?_⟩;obtain⟨t,ht,hq⟩:=oO A outer s H vs Q E (G.deeper _) jE;have I:Inv (lq CX P w K mg base N a_ scope f j A outer s H E) [] (start N vs) H s1:=NX S G.hd e0 hl r x;refine eP (ht [] s1 (start N vs) H _ I hq) (λfl s' hs=>?_) λe s' hs=>hs;have a1:∀{σ':St}{H':Hp}{v:V}{u:Value},Inv (lq CX P w K mg base N a_ scope f j A outer s H E) [] σ' H' s'->RelV v u->Q v H'->CE outer P w H s Q u s':=
  λ{σ' H' v u} J O q=>⟨v,H',J.os,J.bare,J.base,J.hok,O,q⟩
 cases fl with
 | ret u=>
  obtain⟨v,σ',H',J,O,q⟩:=hs;exact a1 J O q
 | next=>
  obtain⟨σ',H',J,q⟩:=hs;exact a1 (v:=V.non) (u:=Value.none) J rfl q
 | brk=>
  obtain⟨_,_,_,q⟩:=hs;exact False.elim q
 | cont=>
  obtain⟨_,_,_,q⟩:=hs;exact False.elim q
section
variable {x:Str}{pos:Pos}{t:TA}{id T:String}{r:Lv->Hp->VK->Prop}
def Bl(r:Lv->Hp->VK->Prop)(t:TA):TE:=λZ H Q=>t Z H λvs H1=>r vs H1 Q
theorem c8(U:eS X (.builtin id) r)(hg:Gl X x)(hm:X.mg x=none)(hv:bootBuiltins x=some (.builtin id))(O:PA X (e::es) t)(hn:x≠"__name__":=by decide)(ix:(x == ("__debug__":Str))=false:=by decide)
 (Y:starEach (e::es) X.env=(false,eval e X.env)::starEach es X.env:=by rfl) (J:(backTo pos (starEach es X.env)).any (·.1)=false:=by rfl):PE X (.Call (.Name x p) (e::es) [] pos) (Bl r t):=by
 intro ad s Z H Q I h;refine AI (tq I hg hm hv ?_ hn ix);exact PyProof.Rows.callWith_builtin1 (thn (O pos ad s Z H _ I h) λus s1 G=>aP G λvs H1 j r1 q1=>U ad s1 Z H1 vs us Q j r1 q1) Y J
theorem dR(U:eS X (.type T) r)(hg:Gl X x)(hm:X.mg x=none)(hv:bootBuiltins x=some (.type T))(O:PA X (e::es) t)(hn:x≠"__name__":=by decide)(ix:(x == ("__debug__":Str))=false:=by decide)
 (Y:starEach (e::es) X.env=(false,eval e X.env)::starEach es X.env:=by rfl) (J:(backTo pos (starEach es X.env)).any (·.1)=false:=by rfl):PE X (.Call (.Name x p) (e::es) [] pos) (Bl r t):=by
 intro ad s Z H Q I h;refine AI (tq I hg hm hv ?_ hn ix);exact Me (thn (O pos ad s Z H _ I h) λus s1 G=>aP G λvs H1 j r1 q1=>U ad s1 Z H1 vs us Q j r1 q1) Y J
end
end L2
namespace HT
theorem abi(A:Around)(s:Shared)(a:Int)(t:Tok)(c:Int)(u:Tok):∃e,SeqAt.EqAt A s (.int a t) (.int c u) e/\(e=true↔a=c):=
 ⟨(a == c),SeqAt.EqAt.int_int a t c u,by simp⟩
theorem abj(A:Around)(s:Shared)(a:Int)(t:Tok)(c:Int)(u:Tok)(prog:Program)(w:World)(E:VP)(Q:VP)(h:Q (.bool (decide (a<c))) s) :
 wpAny (model prog w) A (richCompare .Lt (.int a t) (.int c u)) Q E s:=
 (PyProof.Rows.lt_int h:wpAny (model prog w) A (compareOp .Lt (.int a t) (.int c u)) Q E s)
section
variable {prog:Program}{w:World}{A:Around}{E:VP}{s:Shared}
def gB(n d:Nat):Option Int->Nat
 | none=>d
 | some v=>if v<0 then(v+(n:Int)).toNat else min v.toNat n
theorem NZ(n d:Nat):gB n d none=d:=rfl
theorem Bm(n d k:Nat):gB n d (some (k:Int))=min k n:=by
 show(if (k:Int)<0 then((k:Int)+(n:Int)).toNat else min (k:Int).toNat n)=min k n;rw[ag (by omega),me]
end
end HT
namespace L2
variable {X:Cx}{pos:Pos}{α:Type}{n t':Nat}{v:V}{a b:Addr}{A:Around}{s:Shared}{u:Value}{ad:Po}{Z:St}{T:String}{w:World}{kvs:List (List NI×V)}{P:Program}{H':Hp}
abbrev TO:=St->Hp->(Option Int->Hp->Prop)->Prop
def PO(X:Cx)(e:Option Expr)(t:TO):Prop:=
 ∀(ad:Po) (s:Shared) (Z:St) (H:Hp) (Q:Option Int->Hp->Prop),Inv X ad Z H s->t Z H Q ->
  wpAny (model X.prog X.w) X.A (evalPart e X.env) (λu s'=>∃o H',Inv X ad Z H' s'/\IsPart u o/\Q o H') X.xe s
def abk:TO:=λ_ H Q=>Q none H
inductive N1 (Q:Option Int->Hp->Prop) (H1:Hp):V->Prop where
 | mk {i:Int} (_:Q (some i) H1):N1 Q H1 (.int i)
def abl(t:TE):TO:=λZ H Q=>t Z H λx H1=>N1 Q H1 x
section
variable {e:Expr}{te:TE}{lo hi:Option Expr}{tl th:TO}{p2:Pos}
theorem qQ:PO X none abk:=by
 intro ad s Z H Q I h;rw[XS];exact aq ⟨none,H,I,.none,h⟩
theorem lw(h:PE X e te):PO X (some e) (abl te):=by
 intro ad s Z H Q I J;rw[evalPart_some];refine thn (h ad s Z H _ I J) λu Y G=>aP G λx H1 j U O=>?_;obtain @⟨i,q⟩:=O;obtain⟨t,rfl⟩:=U;exact⟨some i,H1,j,.int i t,q⟩
def tJ(X:Cx)(r:V->Option Int->Option Int->Hp->VK->Prop):Prop:=
 ∀(ad:Po) (s:Shared) (Z:St) (H:Hp) (x:V) (v G J:Value) (lo hi:Option Int) (j:Addr) (Q:VK),Inv X ad Z H s->RelV x v->s.heap.IsSliceOf j G J .none->IsPart G lo->IsPart J hi->r x lo hi H Q ->
  ∃T id,typeLookup (.type T) "__getitem__"=pure (some (.builtin id))/\s.TypeIs v T/\wpAny (model X.prog X.w) X.A (getItem v (.ref j)) (EP X ad Z Q) X.xe s
def tSl(r:V->Option Int->Option Int->Hp->VK->Prop)(te:TE)(tl th:TO):TE:=λZ H Q=>te Z H λx H1=>tl Z H1 λl H2=>th Z H2 λu H3=>r x l u H3 Q
theorem nn{r:V->Option Int->Option Int->Hp->VK->Prop}(hr:tJ X r)(he:PE X e te)(hl:PO X lo tl)(hu:PO X hi th):PE X (.Subscript e (.Slice lo hi none p2) pos) (tSl r te tl th):=by
 intro ad s Z H Q I h;refine Mj (thn (he ad s Z H _ I h) λv s1 a0=>aP a0 λx H1 J r1 q1=>?_);refine wpAny_Slice (thn (hl ad s1 Z H1 _ J q1) λj s2 a1=>aP a1 λl H2 O pl q2=>thn (hu ad s2 Z H2 _ O q2) λG s3 a2=>aP a2 λu H3 U pu q3=>?_);rw[XS];refine aq ?_;have Y:Inv X ad Z H3 { s3 with heap:=s3.heap.push { cls:=.type "slice",data:=.fields #[j,G,.none] } }:=U.kept (t':=s3.toks) λb ob q=>b9 _ q;obtain⟨T,id,hT,ht,hg⟩:=hr ad { s3 with heap:=s3.heap.push { cls:=.type "slice",data:=.fields #[j,G,.none] } } Z H3 x v j G l u s3.heap.objs.size Q Y r1 (Heap.IsSliceOf.new ..) pl pu q3;show wpAny (model X.prog X.w) X.A (subscriptTail e (.Slice lo hi none p2) v (.ref s3.heap.objs.size)) (EP X ad Z Q) X.xe { s3 with heap:=s3.heap.push { cls:=.type "slice",data:=.fields #[j,G,.none] } };exact tail_any (ops:=[.ref s3.heap.objs.size,v]) ht hT hg (by with_unfolding_all rfl)
def tK(xs:Lv)(lo hi:Option Int):Lv:=(xs.drop (HT.gB xs.length 0 lo)).take (HT.gB xs.length xs.length hi - HT.gB xs.length 0 lo)
theorem abr(xs:Lv)(lo hi:Option Int):(tK xs lo hi).length<=xs.length:=by
 unfold tK;rw[eR,j0];omega
end
def oP(n:Nat)(i:Int):Option Nat:=if 0<=i then(if i<n then some i.toNat else none) else if -(n:Int)<=i then some (i+n).toNat else none
def cQ(xs:List α)(i:Int):Option α:=(oP xs.length i).bind λj=>xs[j]?
theorem abt{i:Int}{j:Nat}(h:oP n i=some j):seqIndex? i n=some j/\j<n/\-(n:Int)<=i/\i<n:=by
 unfold oP at h
 by_cases h0:0<=i
 . rw[ai h0]at h
   by_cases h1:i<n
   . rw[ai h1]at h;have e:i.toNat=j:=gM h;exact⟨by rw[seqIndex_of h0 h1,e],by omega,by omega,h1⟩
   rw[ag h1]at h;cases h
 rw[ag h0]at h
 by_cases h1:-(n:Int)<=i
 . rw[ai h1]at h;have e:(i+n).toNat=j:=gM h;exact⟨by rw[seqIndex_neg (by omega) h1,e],by omega,h1,by omega⟩
 rw[ag h1]at h;cases h
theorem Bn{xs:List α}{i:Int}{v:α}(h:cQ xs i=some v):∃j,seqIndex? i xs.length=some j/\xs[j]?=some v/\j<xs.length/\-(xs.length:Int)<=i/\i<xs.length:=by
 unfold cQ at h;cases e:oP xs.length i with
 | none=>rw[e]at h;cases h
 | some j=>
  rw[e]at h;obtain⟨h1,h2,G,J⟩:=abt e;exact⟨j,h1,h,h2,G,J⟩
theorem Fh{xs:List α}{j:Nat}{v:α}(h:xs[j]?=some v):cQ xs (j:Int)=some v:=by
 have G:j<xs.length:=(dg.mp h).1;have e:oP xs.length (j:Int)=some j:=by
  unfold oP;rw[ai (by omega),ai (by omega)];simp
 unfold cQ;rw[e];exact h
def abu(b:Expr):Prop:=∀o i,subscripted b false o i=operate [o,i] (getItem o i)
def vD(X:Cx)(r:R2):Prop:=
 ∀(value j:Expr) (ad:Po) (s:Shared) (Z:St) (H:Hp) (x y:V) (v u:Value) (Q:VK),Inv X ad Z H s->RelV x v->RelV y u->r x y H Q ->
  subscripted j false v u=operate [v,u] (getItem v u)->wpAny (model X.prog X.w) X.A (subscriptTail value j v u) (EP X ad Z Q) X.xe s
def Fi(X:Cx)(id:String)(r:V->Lv->Hp->VK->Prop):Prop:=
 ∀(ad:Po) (s:Shared) (Z:St) (H:Hp) (x:V) (xs:Lv) (v:Value) (us:Lw) (Q:VK),Inv X ad Z H s->RelV x v->aW xs us->r x xs H Q ->
  wpAny (model X.prog X.w) X.A (call (.builtin id) (v::us)) (EP X ad Z Q) X.xe s
section
variable {a b:Expr}{ta tb:TE}
theorem bP{r:R2}(O:vD X r)(G:PE X a ta)(J:PE X b tb)(hs:abu b):PE X (.Subscript a b pos) (Be r ta tb):=by
 intro ad s Z H Q I h;exact Mj (ET G J I h λv u s2 x y H2 j U Y q=>O a b ad s2 Z H2 x y v u Q j U Y q (hs _ _))
inductive N2 (K:Fg) (H:Hp) (Q:VK):V->V->Prop where
 | mk {p:Addr}{xs:Lv}{i:Int}{v:V} (_:ac K H p xs) (_:cQ xs i=some v) (_:Q v H):N2 K H Q (.ref p) (.int i)
def N3(K:Fg):R2:=λx y H Q=>N2 K H Q x y
inductive N5 (K:Fg) (H:Hp) (Q:VK):V->V->Prop where
 | mk {p:Addr}{xs:Lv}{i:Int}{v:V} (_:aX K H p xs) (_:cQ xs i=some v) (_:Q v H):N5 K H Q (.ref p) (.int i)
def N6(K:Fg):R2:=λx y H Q=>N5 K H Q x y
inductive N7 (H:Hp) (Q:VK):V->V->Prop where
 | mk {z:Str}{i:Int}{c:Nat} (_:z.length<=sizeLine) (_:cQ z.cps.toList i=some c) (_:Q (.str ⟨#[c]⟩) H):N7 H Q (.str z) (.int i)
def abv:R2:=λx y H Q=>N7 H Q x y
theorem fV:vD X (N3 X.K):=by
 intro value a0 ad s Z H x y v u Q I rx ry h hs;obtain @⟨p,xs,i,z,hq,he,q⟩:=h;cases rx;obtain⟨t,rfl⟩:=ry;obtain⟨b_,r,pl,hz⟩:=I.list hq;obtain⟨j,h1,h2,h3,Y,h5⟩:=Bn he;obtain⟨w,J,U⟩:=r.get h2;have hl:=r.length;have hn:=yh;have O:EP X ad Z Q w s:=⟨z,H,I,U,q⟩
 by_cases h0:0<=i
 . have G:i.toNat=j:=by
    rw[seqIndex_of h0 h5]at h1;exact gM h1
   exact item_listR pl.isList h0 (by omega) (by rw[G];simpa using J) O hs
 have G:(i+(b_.toArray.size:Int)).toNat=j:=by
  rw[seqIndex_neg (by omega) Y]at h1;rw[gc,<-hl];exact gM h1
 exact awb (x:=w) pl.isList.typeIs XT.lookup
  (wpAny_getItem_list_neg (Q:=λr s'=>r=w/\EP X ad Z Q r s') pl.isList (by omega) (by rw[gc]<;>omega) (by omega) (by rw[G];simpa using J) ⟨rfl,O⟩) hs
theorem fh:vD X (N6 X.K):=by
 intro value a0 ad s Z H x y v u Q I rx ry h hs;obtain @⟨p,xs,i,z,hq,U,q⟩:=h;cases rx;obtain⟨t,rfl⟩:=ry;obtain⟨b_,r,pl,hz⟩:=I.tuple hq;obtain⟨j,h1,h2,h3,h4,h5⟩:=Bn U;obtain⟨w,G,O⟩:=r.get h2;have Y:=r.length;have hn:=yh;have J:EP X ad Z Q w s:=⟨z,H,I,O,q⟩;exact awb (x:=w) pl.typeIs slot_tuple_getitem.lookup
  (getItem_tuple (j:=j) (Q:=λr s'=>r=w/\EP X ad Z Q r s') pl (by omega) (by omega) (by rw[gc,<-Y];exact h1) (by simpa using G) ⟨rfl,J⟩) hs
theorem ym:vD X abv:=by
 intro value a0 ad s Z H x y v u Q I Y ry h hs;obtain @⟨z,i,c,hz,O,q⟩:=h;obtain⟨t,rfl⟩:=Y;obtain⟨t',rfl⟩:=ry;obtain⟨j,h1,h2,h3,G,J⟩:=Bn O;have U:z.cps.toList.length=z.length:=by simp[Str.length]
 rw[U]at h1 G J;have hn:=yh;exact tail_any (AK s z t) slot_str_getitem.lookup (getItem_str (c:=c) (by
  have e1:decide (i < -(2 ^ 63:Int))=false:=cx (by omega);have e2:decide (i >= 2 ^ 63)=false:=cx (by omega);rw[e1,e2,sO]) (by rw[h1];simpa using h2) ⟨.str ⟨#[c]⟩,H,I.tok _,⟨_,rfl⟩,q⟩) hs
theorem abw(lo hi:Option Int)(n:Nat):(sliceBounds lo hi none n).1=((HT.gB n 0 lo:Nat):Int)/\(sliceBounds lo hi none n).2.1=((HT.gB n n hi:Nat):Int)/\(sliceBounds lo hi none n).2.2=1:=by
 refine⟨?_,?_,rfl⟩
 . cases lo with
   | none=>simp[sliceBounds,HT.gB]
   | some i=>
    simp only[sliceBounds,HT.gB,Option.getD_none,show(1:Int) > 0 by decide,vc]
    by_cases h:i<0
    . simp only[h,vc]<;>omega
    simp only[h,mT]<;>omega
 cases hi with
 | none=>simp[sliceBounds,HT.gB]
 | some i=>
  simp only[sliceBounds,HT.gB,Option.getD_none,show(1:Int) > 0 by decide,vc]
  by_cases h:i<0
  . simp only[h,vc]<;>omega
  simp only[h,mT]<;>omega
theorem abx(b_:Lw)(lo hi:Option Int):slicePick b_.toArray lo hi none=((b_.drop (HT.gB b_.length 0 lo)).take (HT.gB b_.length b_.length hi - HT.gB b_.length 0 lo)).toArray:=by
 obtain⟨h1,h2,j⟩:=abw lo hi b_.toArray.size;unfold slicePick;rw[h1,h2,j];simp only[sliceRange_one,pick_run,gc]<;>rfl
def aby(K:Fg):V->Option Int->Option Int->Hp->VK->Prop:=λx lo hi H Q=>∃a xs,x=.ref a/\ac K H a xs/\∀p,H p=none->Q (.ref p) (upd H p (.lst (tK xs lo hi)))
theorem abz:tJ X (aby X.K):=by
 intro ad s Z H x v vl vu lo hi Y Q I U hs pl O h;obtain⟨a,xs,rfl,J,q⟩:=h;cases U;obtain⟨b_,r,j,hz⟩:=I.list J;have G:=r.length;refine⟨"list",_,XT.lookup,j.isList.typeIs,?_⟩;refine awc j.isList hs pl O .none (by simp) ?_ (by rw[gc]<;>omega);rw[abx,<-G];refine⟨.ref s.heap.objs.size,_,I.laid (t':=s.toks) (o:=.lst (tK xs lo hi)) (λb ob q=>b9 _ q) (aG _) ?_,rfl,q _ (I.hok.fresh (aG _))⟩;exact⟨b8 (abr xs lo hi) hz,_,0,(r.drop (HT.gB xs.length 0 lo)).take (HT.gB xs.length xs.length hi - HT.gB xs.length 0 lo),dL _ rfl⟩
def oQ:V->Bool
 | .non=>true
 | .bl _=>true
 | .int _=>true
 | .str _=>true
 | _=>false
def lB:V->V->Bool
 | .non,.non=>true
 | .bl a,.bl b=>a == b
 | .bl a,.int b=>(if a then 1 else 0) == b
 | .int a,.bl b=>a == (if b then 1 else 0)
 | .int a,.int b=>a == b
 | .str a,.str b=>a == b
 | _,_=>false
theorem abA{y x:V}{v:Value}(J:RelV y u)(j:RelV x v)(O:oQ y=true)(G:oQ x=true):SeqAt.EqAt A s u v (lB y x):=by
 cases y with
 | non=>
  cases J;cases x with
  | non=>cases j;exact SeqAt.EqAt.same _
  | bl b=>cases j;exact SeqAt.EqAt.none_bool b
  | int b=>obtain⟨t,rfl⟩:=j;exact SeqAt.EqAt.none_int b t
  | str b=>obtain⟨t,rfl⟩:=j;exact SeqAt.EqAt.none_str b t
  | _=>exact absurd (show false=true from G) cW
 | bl a=>
  cases J;cases x with
  | non=>cases j;exact SeqAt.EqAt.bool_none a
  | bl b=>cases j;exact SeqAt.EqAt.bool_bool a b
  | int b=>obtain⟨t,rfl⟩:=j;exact SeqAt.EqAt.bool_int a b t
  | str b=>obtain⟨t,rfl⟩:=j;exact SeqAt.EqAt.bool_str a b t
  | _=>exact absurd (show false=true from G) cW
 | int a=>
  obtain⟨t',rfl⟩:=J;cases x with
  | non=>cases j;exact SeqAt.EqAt.int_none a t'
  | bl b=>cases j;exact SeqAt.EqAt.int_bool a t' b
  | int b=>obtain⟨t,rfl⟩:=j;exact SeqAt.EqAt.int_int a t' b t
  | str b=>obtain⟨t,rfl⟩:=j;exact SeqAt.EqAt.int_str a t' b t
  | _=>exact absurd (show false=true from G) cW
 | str a=>
  obtain⟨t',rfl⟩:=J;cases x with
  | non=>cases j;exact SeqAt.EqAt.str_none a t'
  | bl b=>cases j;exact SeqAt.EqAt.str_bool a t' b
  | int b=>obtain⟨t,rfl⟩:=j;exact SeqAt.EqAt.str_int a t' b t
  | str b=>obtain⟨t,rfl⟩:=j;exact SeqAt.EqAt.str_str a t' b t
  | _=>exact absurd (show false=true from G) cW
 | _=>exact absurd (show false=true from O) cW
def jr(x:V)(u:Value):Bool:=match u with
 | .none=>lB .non x
 | .bool b=>lB (.bl b) x
 | .int i _=>lB (.int i) x
 | .str z _=>lB (.str z) x
 | _=>false
theorem N8{x y:V}(r:RelV y u)(f:oQ y=true):jr x u=lB y x:=by
 cases y with
 | non=>cases r;rfl
 | bl b=>cases r;rfl
 | int i=>obtain⟨t,rfl⟩:=r;rfl
 | str z=>obtain⟨t,rfl⟩:=r;rfl
 | _=>exact absurd (show false=true from f) cW
theorem yn{x:V}:∀{xs:Lv}{us:Lw},aW xs us->xs.all oQ=true->us.any (jr x)=xs.any λy=>lB y x
 | _,_,.nil,_=>rfl
 | y::xs,u::us,.cons r t,f=>by
  rw[En,iP]at f;rw[sP,sP,N8 r f.1,yn t f.2]
theorem yo{x:V}{v:Value}(G:RelV x v)(j:oQ x=true):∀{xs:Lv}{us:Lw},aW xs us->xs.all oQ=true->∀u∈us,SeqAt.EqAt A s u v (jr x u)
 | _,_,.nil,_=>λu hu=>by cases hu
 | y::xs,u::us,.cons r t,f=>λJ hu=>by
  rw[En,iP]at f
  rcases aZ.mp hu with rfl | hu
  . rw[N8 r f.1];exact abA r G f.1 j
  exact yo G j t f.2 J hu
def nu(x:V)(xs:Lv):Bool:=xs.any λy=>lB y x
inductive Ob (K:Fg) (j:Bool) (x:V) (H:Hp) (Q:VK):V->Prop where
 | mk {p:Addr}{xs:Lv} (_:(ac K H p xs\/aX K H p xs)) (_:oQ x=true) (_:xs.all oQ=true) (_:Q (.bl (if j then !nu x xs else nu x xs)) H):Ob K j x H Q (.ref p)
def Fj(K:Fg)(j:Bool):R2:=λx y H Q=>Ob K j x H Q y
theorem Oc:cK X (compareOp .In) (Fj X.K false):=by
 intro ad s Z H x y v u Q I J O h;obtain @⟨p,xs,hq,G,fs,q⟩:=h;cases O
 rcases hq with hq | hq
 . obtain⟨b_,r,pl,hz⟩:=I.list hq;refine SeqAt.in_listAt (jr x) pl.isList (λw j=>yo J G r fs w (by simpa using j)) ⟨.bl _,H,I,rfl,?_⟩;rw[show b_.toArray.any (jr x)=b_.any (jr x) by simp,yn r fs];exact q
 obtain⟨b_,r,pl,hz⟩:=I.tuple hq;refine SeqAt.in_tupleAt (jr x) pl (λw j=>yo J G r fs w (by simpa using j)) ⟨.bl _,H,I,rfl,?_⟩;rw[show b_.toArray.any (jr x)=b_.any (jr x) by simp,yn r fs];exact q
theorem abB:cK X (compareOp .NotIn) (Fj X.K true):=by
 intro ad s Z H x y v u Q I J O h;obtain @⟨p,xs,hq,G,fs,q⟩:=h;cases O
 rcases hq with hq | hq
 . obtain⟨b_,r,pl,hz⟩:=I.list hq;refine SeqAt.notIn_listAt (jr x) pl.isList (λw j=>yo J G r fs w (by simpa using j)) ⟨.bl _,H,I,rfl,?_⟩;rw[show b_.toArray.any (jr x)=b_.any (jr x) by simp,yn r fs];exact q
 obtain⟨b_,r,pl,hz⟩:=I.tuple hq;refine SeqAt.notIn_tupleAt (jr x) pl (λw j=>yo J G r fs w (by simpa using j)) ⟨.bl _,H,I,rfl,?_⟩;rw[show b_.toArray.any (jr x)=b_.any (jr x) by simp,yn r fs];exact q
theorem ig:eS X (.builtin "len") (λxs H Q=>∃p ys,xs=[.ref p]/\(ac X.K H p ys\/aX X.K H p ys)/\Q (.int ys.length) H):=by
 intro ad s Z H xs us Q I r h;obtain⟨p,ys,rfl,hq,q⟩:=h;obtain⟨u,rfl,J⟩:=vals1 r;cases J;have O:=yh
 rcases hq with hq | hq
 . obtain⟨b_,G,pl,hz⟩:=I.list hq;have j:=G.length;exact Calls.call_len_list pl.isList (by simp only[gc]<;>omega) ⟨.int ys.length,H,I.tok _,⟨s.toks+1,by rw[gc,j]⟩,q⟩
 obtain⟨b_,G,pl,hz⟩:=I.tuple hq;have j:=G.length;exact len_tuple pl (by simp only[gc]<;>omega) ⟨.int ys.length,H,I.tok _,⟨s.toks+1,by rw[gc,j]⟩,q⟩
theorem Fk:eS X (.builtin "len") (λxs H Q=>∃z,xs=[.str z]/\z.length<=sizeLine/\Q (.int z.length) H):=by
 intro ad s Z H xs us Q I r h;obtain⟨z,rfl,hz,q⟩:=h;obtain⟨u,rfl,t,rfl⟩:=vals1 r;have j:=yh;exact len_str (by omega) ⟨.int z.length,H,I.tok _,⟨_,rfl⟩,q⟩
theorem yp:eS X (.type "list") (λxs H Q=>∃p ys,xs=[.ref p]/\(ac X.K H p ys\/aX X.K H p ys)/\∀l,H l=none->Q (.ref l) (upd H l (.lst ys))):=by
 intro ad s Z H xs us Q I r h;obtain⟨p,ys,rfl,hq,q⟩:=h;obtain⟨u,rfl,Y⟩:=vals1 r;cases Y;have O:∀(b_:Lw),aW ys b_->ys.length<=sizeLine->∀(h':Heap) (c':Nat),(∀b o',s.heap.get? b=some o'->h'.get? b=some o') ->
  h'.get? s.heap.objs.size=some { cls:=.type "list",dict:=none,data:=.seq b_.toArray c',slots:=#[] }->EP X ad Z Q (.ref s.heap.objs.size) { s with heap:=h' }:=λb_ j hz h' c' kp e=>
  ⟨.ref s.heap.objs.size,_,I.laid (t':=s.toks) kp (aG _) (show bX X.prog X.w _ h' _ (.lst ys) from ⟨hz,b_,c',j,e⟩),rfl,q _ (I.hok.fresh (aG _))⟩
 rcases hq with hq | hq
 . obtain⟨b_,j,pl,hz⟩:=I.list hq;have U:=j.length;obtain⟨o,J,G,n,hd⟩:=pl.isList;exact call_list_seq p (.inl rfl) J G hd (λh' c' kp e=>O b_ j hz h' c' kp e) (by simp only[gc]<;>omega)
 obtain⟨b_,j,pl,hz⟩:=I.tuple hq;have U:=j.length;obtain⟨o,J,G,n,hd⟩:=pl;exact call_list_seq p (.inr rfl) J G hd (λh' c' kp e=>O b_ j hz h' c' kp e) (by simp only[gc]<;>omega)
theorem abC:eS X (.type "tuple") (λxs H Q=>∃p ys,xs=[.ref p]/\((ac X.K H p ys/\∀l,H l=none->Q (.ref l) (upd H l (.tup ys)))\/(aX X.K H p ys/\Q (.ref p) H))):=by
 intro ad s Z H xs us Q I r h;obtain⟨p,ys,rfl,h⟩:=h;obtain⟨u,rfl,U⟩:=vals1 r;cases U
 rcases h with⟨j,q⟩ | ⟨j,q⟩
 . obtain⟨b_,G,pl,hz⟩:=I.list j;have Y:=G.length;refine call_tuple_list pl.isList (λh' kp=>?_) (by simp only[gc]<;>omega);have J:Inv X ad Z H { s with heap:=h' }:=I.kept (t':=s.toks) kp;have O:Inv X ad Z (upd H h'.objs.size (.tup ys)) { s with heap:=h'.push { cls:=.type "tuple",data:=.seq b_.toArray } }:=
    J.laid (t':=s.toks) (λb o e=>b9 _ e) (aG _) (show bX X.prog X.w _ _ _ (.tup ys) from ⟨hz,b_,G,IsTup.new _ _⟩)
   exact⟨.ref h'.objs.size,_,O,rfl,q _ (J.hok.fresh (aG _))⟩
 obtain⟨b_,G,pl,hz⟩:=I.tuple j;exact call_tuple_same pl ⟨.ref p,H,I,rfl,q⟩
def Fl(K:Fg)(T:String)(x:V)(H:Hp):Prop:=match x with
 | .str _=>T="str"
 | .int _=>T="int"
 | .ref p=>(T="list"/\∃xs,ac K H p xs)\/(T="tuple"/\∃o,K.lookup p=some o/\o.cls=.type "tuple"/\o.dict=none) \/
  (T="dict"/\((∃kvs,H p=some (.dK kvs))\/∃kvs,H p=some (.dT kvs)))\/(T="set"/\∃S n,H p=some (.set S n))
 | _=>False
theorem Fm{H:Hp}{x:V}{v:Value}(I:Inv X ad Z H s)(r:RelV x v)(ty:Fl X.K T x H) :
 s.TypeIs v T/\∀a,v=.ref a->∃ob,s.heap.get? a=some ob/\ob.dict=none:=by
 cases x with
 | str z=>
  obtain⟨t,rfl⟩:=r;cases (show T="str" from ty);exact⟨AK s z t,λ_ e=>nomatch e⟩
 | int i=>
  obtain⟨t,rfl⟩:=r;cases (show T="int" from ty);exact⟨typeIs_int s i t,λ_ e=>nomatch e⟩
 | ref p=>
  cases r
  rcases ty with⟨rfl,xs,J⟩ | ⟨rfl,o,j,G,hd⟩ | ⟨rfl,j⟩ | ⟨rfl,S,n,j⟩
  . obtain⟨b_,_,pl,_⟩:=I.list J;refine⟨pl.isList.typeIs,λa e=>?_⟩;cases e;obtain⟨o,n,e,c,hd,_⟩:=pl;exact⟨o,e,hd⟩
  . refine⟨⟨o,I.kIn p o j,G⟩,λa e=>?_⟩;cases e;exact⟨o,I.kIn _ o j,hd⟩
  . have z:∃o,s.heap.get? p=some o/\o.ExactDict:=by
     rcases j with⟨kvs,j⟩ | ⟨kvs,j⟩
     . obtain⟨_,_,_,_,o,_,_,e,ex,_⟩:=I.hok p _ j;exact⟨o,e,ex⟩
     obtain⟨_,_,_,_,o,_,_,e,ex,_⟩:=I.hok p _ j;exact⟨o,e,ex⟩
    obtain⟨o,e,ex⟩:=z;refine⟨⟨o,e,ex.1⟩,λa e2=>?_⟩;cases e2;exact⟨o,e,ex.2.1⟩
  obtain⟨o,_,_,_,e,ex,_⟩:=I.hok p _ j;refine⟨⟨o,e,ex.1⟩,λa e2=>?_⟩;cases e2;exact⟨o,e,ex.2.1⟩
 | _=>exact False.elim ty
def abD(K:Fg)(T:String)(r:V->Lv->Hp->VK->Prop)(to:TE):TE:=λZ H Q=>to Z H λx H1=>Fl K T x H1/\r x [] H1 Q
def Od(K:Fg)(T:String)(r:V->Lv->Hp->VK->Prop)(to:TE)(t:TA):TE:=λZ H Q=>to Z H λx H1=>Fl K T x H1/\t Z H1 λxs H2=>r x xs H2 Q
variable {o e:Expr}{es:List Expr}{to:TE}{t:TA}{name:Str}{apos cj:Pos}{id:String}{r:V->Lv->Hp->VK->Prop}
theorem abE(pa:PlainAttrs T)(slot:Slot T name id)(yq:typeOf (.builtin id)=pure (.type "method_descriptor"))(U:Fi X id r)(Y:PE X o to)
 (oR:attributeBase o name X.env (eval o X.env)=eval o X.env:=by rfl) (oS:(apos.endLine == cj.line)=true:=by rfl):PE X (.Call (.Attribute o name apos) [] [] cj) (abD X.K T r to):=by
 intro ad s Z H Q I h;refine awd oR oS (thn (Y ad s Z H _ I h) λv s1 J=>aP J λx H1 j G O=>O.elim λty q1=>?_);obtain⟨h1,h2⟩:=Fm j G ty;exact⟨T,id,pa,slot,yq,h1,h2,AL rfl (PySem.evalArgs_none (U ad s1 Z H1 x [] v [] Q j G .nil q1))⟩
theorem dH(pa:PlainAttrs T)(slot:Slot T name id)(yq:typeOf (.builtin id)=pure (.type "method_descriptor"))(hm:Fi X id r)(ho:PE X o to)(ha:PA X (e::es) t)
 (oR:attributeBase o name X.env (eval o X.env)=eval o X.env:=by rfl)
 (O:((backTo cj (starEach (e::es) X.env)).all (λx=>!x.1) && (backToKw cj (keywordEach [] X.env)).all (λx=>x.1.isSome)
  && decide ((e::es).length+([]:List Keyword).length+(if ([]:List Keyword).isEmpty then 0 else 1)<30))=true:=by rfl)
 (oS:(apos.endLine == cj.line)=true:=by rfl) (hs:starEach (e::es) X.env=(false,eval e X.env)::starEach es X.env:=by rfl) (U:(backTo cj (starEach es X.env)).any (·.1)=false:=by rfl) :
 PE X (.Call (.Attribute o name apos) (e::es) [] cj) (Od X.K T r to t):=by
 intro ad s Z H Q I h;refine wpAny_Call_method_late oR O oS rfl (thn (ho ad s Z H _ I h) λv s1 a0=>aP a0 λx H1 j J a1=>a1.elim λty q1=>?_);obtain⟨h1,h2⟩:=Fm j J ty;refine⟨T,id,pa,slot,yq,h1,h2,?_⟩;have G:=ha cj ad s1 Z H1 _ j q1;rw[hs]at G ⊢;refine AL (by show(false || (backTo cj (starEach es X.env)).any (·.1))=false;rw[U]<;>rfl) (Eo ?_);exact thn G λus s2 a2=>aP a2 λvs H2 Y r2 q2=>hm ad s2 Z H2 x vs v us Q Y J r2 q2
end
def nv(X:Cx)(id:String)(r:V->Lv->Hp->VK->Prop):Prop:=
 ∀(ad:Po) (s:Shared) (Z:St) (H:Hp) (x:V) (xs:Lv) (v:Value) (us:Lw) (Q:VK),Inv X ad Z H s->RelV x v->aW xs us->r x xs H Q ->
  wpAny (model X.prog X.w) X.A (call (.builtin id) (v::us)) (EP X ad Z Q) X.xe s
theorem aW.one:∀{x:V}{us:Lw},aW [x] us->∃u,us=[u]/\RelV x u
 | _,_,.cons r .nil=>⟨_,rfl,r⟩
section
variable {H:Hp}{l:Addr}{xs ys zs:Lv}
theorem Inv.lset{b_ its':Lw}{f:Av->Av}(I:Inv X ad Z H s)(j:H l=some (.lst xs))
 (e:s.heap.get? l=some { cls:=.type "list",data:=.seq b_.toArray n }) (J:f b_.toArray=its'.toArray) (U:aW ys its') (hz:ys.length<=sizeLine) :
 Inv X ad Z (upd H l (.lst ys)) { s with heap:=s.heap.update l (Obj.mapSeq f),toks:=t' }:=by
 have q:=PySem.IsL.update e f;rw[J]at q;refine I.write (x:=l) (e:=l) (by rw[j];exact trivial) (.inl rfl) (λb' u G O=>(Ep s.heap (Obj.mapSeq f) (fw G)).trans O) ⟨_,q⟩ ?_;exact⟨hz,its',_,U,q⟩
theorem Inv.lnew{b_:Lw}(I:Inv X ad Z H s)(j:aW ys b_)(hz:ys.length<=sizeLine) :
 Inv X ad Z (upd H s.heap.objs.size (.lst ys)) { s with heap:=s.heap.push { cls:=.type "list",data:=.seq b_.toArray },toks:=t' }:=
 I.laid (λ_ _ q=>b9 _ q) (aG _) ⟨hz,b_,0,j,dL _ rfl⟩
theorem Inv.fresh(I:Inv X ad Z H s):H s.heap.objs.size=none:=I.hok.fresh (aG _)
theorem Inv.lstM(I:Inv X ad Z H s)(j:H l=some (.lst xs)):xs.length<=sizeLine/\∃(b_:Lw) (n:Nat),aW xs b_/\xs.length=b_.length/\s.heap.get? l=some { cls:=.type "list",data:=.seq b_.toArray n }:=by
 obtain⟨z,b_,n,r,e⟩:=I.hok l _ j;exact⟨z,b_,n,r,r.length,e⟩
theorem abK(h:n<=sizeLine):Builtin.List.listTooLong n=false:=by
 unfold Builtin.List.listTooLong;exact cx (by omega)
end
inductive Oe (H:Hp) (Q:VK):V->Lv->Prop where
 | mk {l:Addr}{xs:Lv}{y:V} (_:H l=some (.lst xs)) (_:xs.length<sizeLine) (_:Q .non (upd H l (.lst (xs++[y])))):Oe H Q (.ref l) [y]
def abL:V->Lv->Hp->VK->Prop:=λx vs H Q=>Oe H Q x vs
theorem oU:nv X "list.append" abL:=by
 intro ad s Z H x vs v us Q I O J h;obtain @⟨l,xs,y,j,hz,q⟩:=h;cases O;obtain⟨u,rfl,G⟩:=J.one;obtain⟨z,b_,n,r,U,e⟩:=I.lstM j;refine Es F.slot_list_append ⟨_,e,rfl⟩ F.entry_list_append (F.args_list_append_2 _ _) (PySem.list_append l b_.toArray n u (by rw[gc];omega)) ⟨e,?_⟩;refine⟨.non,_,I.lset (its':=b_++[u]) j e (by simp) (r.append (.cons G .nil)) ?_,rfl,q⟩;rw[bI,kW];omega
inductive Of (H:Hp) (Q:VK):V->Lv->Prop where
 | mk {l:Addr}{b:Addr}{xs:Lv}{zs:Lv} (_:H l=some (.lst xs)) (_:H b=some (.lst zs)) (_:xs.length+zs.length<=sizeLine) (_:Q .non (upd H l (.lst (xs++zs)))):Of H Q (.ref l) [.ref b]
def abM:V->Lv->Hp->VK->Prop:=λx vs H Q=>Of H Q x vs
theorem nw:nv X "list.extend" abM:=by
 intro ad s Z H x vs v us Q I rx rv h;obtain @⟨l,b,xs,zs,G,O,hz,q⟩:=h;cases rx;obtain⟨u,rfl,Y⟩:=rv.one;cases Y;obtain⟨z,b_,n,r,hl,e⟩:=I.lstM G;obtain⟨z2,j,n2,U,vE,e2⟩:=I.lstM O;have hsz:b_.toArray.size+j.toArray.size<=sizeLine:=by rw[gc,gc];omega
 have J:¬(!b_.toArray.isEmpty && Builtin.List.listTooLong (b_.toArray.size+j.toArray.size))=true:=by
  rw[abK hsz,vg];exact cW
 refine Es F.slot_list_extend ⟨_,e,rfl⟩ F.entry_list_extend (F.args_list_extend_2 _ _)
  (AutoSeq1.list_extend_list_list_0 l b_.toArray n b j.toArray n2 J (by rw[gc];omega) (by omega)) ⟨e,e2,?_⟩
 refine⟨.non,_,I.lset (its':=b_++j) G e (by simp) (r.append U) ?_,rfl,q⟩;rw[bI];omega
def abO:R2:=λx y H Q=>∃l b xs zs,x=.ref l/\y=.ref b/\H l=some (.lst xs)/\H b=some (.lst zs)/\xs.length+zs.length<=sizeLine/\∀p,H p=none->Q (.ref p) (upd H p (.lst (xs++zs)))
theorem abP:cK X (binaryOp .Add) abO:=by
 intro ad s Z H x y v u Q I Y ry h;obtain⟨l,b,xs,zs,rfl,rfl,O,J,hz,q⟩:=h;cases Y;cases ry;obtain⟨z,b_,n,r,hl,e⟩:=I.lstM O;obtain⟨z2,j,n2,U,vE,e2⟩:=I.lstM J;refine PySem.P.add_list e e2 ?_ (by rw[gc,gc];omega);have G:b_.toArray++j.toArray=(b_++j).toArray:=by simp
 rw[G];exact⟨.ref _,_,I.lnew (t':=s.toks) (r.append U) (by rw[bI];omega),rfl,q _ I.fresh⟩
section
variable {κ:Type} [DecidableEq κ]
def bg(kvs:List (κ×V))(k:κ):Option V:=(kvs.find? λkv=>decide (kv.1=k)).map (·.2)
def cL(kvs:List (κ×V))(k:κ)(v:V):List (κ×V):=
 if (kvs.any λkv=>decide (kv.1=k))=true then kvs.map (λkv=>if kv.1=k then(kv.1,v) else kv) else kvs++[(k,v)]
def ny(kvs:List (κ×V))(k:κ):List (κ×V):=kvs.filter λkv=>decide (kv.1≠k)
theorem km{p:κ×V}{r:List (κ×V)}{k:κ}(e:p.1=k):bg (p::r) k=some p.2:=by simp[bg,sT,e]
theorem jt{p:κ×V}{r:List (κ×V)}{k:κ}(e:¬p.1=k):bg (p::r) k=bg r k:=by simp[bg,sT,e]
theorem yr(k:κ):∀kvs:List (κ×V),(kvs.any λkv=>decide (kv.1=k))=(bg kvs k).isSome
 | []=>rfl
 | p::r=>by
  rw[sP]
  by_cases e:p.1=k
  . simp only[km e,bN e,XU,Option.isSome_some]
  rw[jt e,cx e,Bool.false_or];exact yr k r
theorem Og(k j:κ)(y:V):∀kvs:List (κ×V),bg (kvs.map λkv=>if kv.1=k then(kv.1,y) else kv) j=(bg kvs j).map λx=>if j=k then y else x
 | []=>rfl
 | p::r=>by
  have G:=Og k j y r;rw[bV]
  by_cases h:p.1=k
  . rw[ai h]
    by_cases e:p.1=j
    . rw[km (p:=(p.1,y)) e,km e,sU,ai (e.symm.trans h)]
    rw[jt (p:=(p.1,y)) e,jt e,G]
  rw[ag h]
  by_cases e:p.1=j
  . rw[km (p:=p) e,km e,sU,ag (λz=>h (e.trans z))]
  rw[jt (p:=p) e,jt e,G]
theorem Oh(k j:κ)(y:V):∀kvs:List (κ×V),bg kvs k=none->bg (kvs++[(k,y)]) j=if j=k then some y else bg kvs j
 | [],_=>by
  by_cases e:k=j
  . rw[ai e.symm];exact km (p:=(k,y)) e
  rw[ag (λz=>e z.symm)];exact jt (p:=(k,y)) e
 | p::r,hn=>by
  rw[AM];have G:¬p.1=k:=λz=>by rw[km z]at hn;cases hn
  rw[jt G]at hn;have J:=Oh k j y r hn
  by_cases e:p.1=j
  . rw[km e,km e,ag (λz=>G (e.trans z))]
  rw[jt e,jt e,J]
theorem Bo(kvs:List (κ×V))(k j:κ)(y:V):bg (cL kvs k y) j=if j=k then some y else bg kvs j:=by
 unfold cL
 by_cases a:(kvs.any λkv=>decide (kv.1=k))=true
 . rw[ai a,Og];rw[yr]at a
   by_cases e:j=k
   . obtain⟨x,G⟩:=El.mp a;rw[ai e,e,G,sU,ai rfl]
   rw[ag e];cases bg kvs j with
   | none=>rfl
   | some x=>rw[sU,ag e]
 rw[ag a];refine Oh k j y kvs ?_;rw[yr]at a;cases q:bg kvs k with
 | none=>rfl
 | some x=>rw[q]at a;exact(a rfl).elim
theorem yt(kvs:List (κ×V))(k:κ)(v:V):(cL kvs k v).length<=kvs.length+1:=by
 unfold cL;split
 . rw[aj];omega
 rw[bI,cT,kX];omega
theorem Fp{kvs:List (κ×V)}{k:κ}(v:V)(h:bg kvs k=none):cL kvs k v=kvs++[(k,v)]:=by
 unfold cL;rw[yr,h];exact ag (by decide)
theorem gN.isSome_eq{o:Option V}{u:Option Value}(r:gN o u):o.isSome=u.isSome:=by
 cases o with
 | none=>cases u with
  | none=>rfl
  | some _=>exact(show False from r).elim
 | some _=>cases u with
  | none=>exact(show False from r).elim
  | some _=>rfl
theorem gN.getD{o:Option V}{u:Option Value}{d:V}{d':Value}(r:gN o u)(j:RelV d d'):RelV (o.getD d) (u.getD d'):=by
 cases o with
 | none=>cases u with
  | none=>exact j
  | some _=>exact(show False from r).elim
 | some _=>cases u with
  | none=>exact(show False from r).elim
  | some _=>exact r
theorem KV.val{kvs:List (κ×V)}{vs:List (κ×Value)}(r:KV kvs vs)(k:κ):gN (bg kvs k) (valueAt vs k):=by
 unfold KV at r
 induction r with
 | nil=>exact True.intro
 | @cons p q ps G h t J=>
  obtain⟨h1,h2⟩:=h
  by_cases e:p.1=k
  . have j:q.1=k:=h1.symm.trans e;have b:valueAt (q::G) k=some q.2:=by simp[valueAt,sT,j]
    rw[km e,b];exact h2
  have j:¬q.1=k:=λz=>e (h1.trans z);have b:valueAt (q::G) k=valueAt G k:=by simp[valueAt,sT,j]
  rw[jt e,b];exact J
theorem KV.any{kvs:List (κ×V)}{vs:List (κ×Value)}(r:KV kvs vs)(k:κ):(kvs.any λkv=>decide (kv.1=k))=vs.any λkv=>decide (kv.1=k):=by
 unfold KV at r
 induction r with
 | nil=>rfl
 | cons h t j=>rw[sP,sP,j,h.1]
theorem KV.repl{kvs:List (κ×V)}{vs:List (κ×Value)}(r:KV kvs vs)(k:κ){y:V}(G:RelV y u) :
 KV (kvs.map λkv=>if kv.1=k then(kv.1,y) else kv) (vs.map λkv=>if kv.1=k then(kv.1,u) else kv):=by
 unfold KV at r ⊢
 induction r with
 | nil=>exact .nil
 | @cons p q ps J h t j=>
  rw[bV,bV];refine .cons ?_ j;obtain⟨h1,h2⟩:=h
  by_cases e:p.1=k
  . rw[ai e,ai (h1.symm.trans e)];exact⟨h1,G⟩
  rw[ag e,ag (λz=>e (h1.trans z))];exact⟨h1,h2⟩
theorem KV.put{kvs:List (κ×V)}{vs:List (κ×Value)}(r:KV kvs vs)(k:κ){y:V}(j:RelV y u):KV (cL kvs k y) (stored vs k u):=by
 unfold cL stored;rw[r.any k]
 by_cases e:(vs.any λkv=>decide (kv.1=k))=true
 . rw[ai e,ai e];exact r.repl k j
 rw[ag e,ag e];exact Paired.snoc r ⟨rfl,j⟩
theorem KV.drop{kvs:List (κ×V)}{vs:List (κ×Value)}(r:KV kvs vs)(k:κ):KV (ny kvs k) (without vs k):=by
 unfold KV at r ⊢;unfold ny without
 induction r with
 | nil=>exact .nil
 | @cons p q ps J h t j=>
  obtain⟨h1,h2⟩:=h;rw[oE,oE]
  by_cases e:p.1=k
  . have a:¬decide (p.1≠k)=true:=by simp[e]
    have b:¬decide (q.1≠k)=true:=by simp[h1.symm.trans e]
    rw[ag a,ag b];exact j
  have G:¬q.1=k:=λz=>e (h1.trans z);have a:decide (p.1≠k)=true:=by simp[e]
  have b:decide (q.1≠k)=true:=by simp[G]
  rw[ai a,ai b];exact .cons ⟨h1,h2⟩ j
theorem KV.length{kvs:List (κ×V)}{vs:List (κ×Value)}(r:KV kvs vs):kvs.length=vs.length:=XF r
theorem abQ(kvs:List (κ×V))(k:κ):(ny kvs k).length<=kvs.length:=xI _ _
end
theorem my{k:ak}(r:RelV (kV k) u):(ce P w).is k u=true:=by
 cases k with
 | inl i=>obtain⟨t,e⟩:=(show∃t,u=Value.int i t from r);subst e;exact YH P w i t
 | inr x=>obtain⟨t,e⟩:=(show∃t,u=Value.str x t from r);subst e;exact sZ P w x t
theorem Oj:∀{ks:List ak}{us:Lw},aW (ks.map kV) us->ItemsAre (ce P w) ks us
 | [],_,r=>by rw[AN]at r;cases r;exact .nil
 | k::ks,_,r=>by
  rw[bV]at r;cases r with
  | cons h t=>exact .cons (my h) (Oj t)
abbrev KT (H:Hp):List (List NI×V)->List (List NI×Addr×Value)->Prop:=Paired λp q=>p.1=q.1/\lg H p.1 q.2.1/\RelV p.2 q.2.2
theorem KT.val{H:Hp}{xs:List (List NI×Addr×Value)}(r:KT H kvs xs)(k:List NI):gN (bg kvs k) ((atKey xs k).map (·.2)):=by
 induction r with
 | nil=>exact True.intro
 | @cons p q ps G h t J=>
  obtain⟨h1,_,h2⟩:=h
  by_cases e:p.1=k
  . have j:q.1=k:=h1.symm.trans e;have b:atKey (q::G) k=some q.2:=by simp[atKey,sT,j]
    rw[km e,b];exact h2
  have j:¬q.1=k:=λz=>e (h1.trans z);have b:atKey (q::G) k=atKey G k:=by simp[atKey,sT,j]
  rw[jt e,b];exact J
theorem KT.repl{H:Hp}{xs:List (List NI×Addr×Value)}(r:KT H kvs xs)(k:List NI){y:V}(J:RelV y u) :
 KT H (kvs.map λkv=>if kv.1=k then(kv.1,y) else kv) (xs.map (putAt k u)):=by
 induction r with
 | nil=>exact .nil
 | @cons p q ps O h t G=>
  rw[bV,bV];refine .cons ?_ G;obtain⟨h1,h2,j⟩:=h;unfold putAt
  by_cases e:p.1=k
  . rw[ai e,ai (h1.symm.trans e)];exact⟨h1,h2,J⟩
  rw[ag e,ag (λz=>e (h1.trans z))];exact⟨h1,h2,j⟩
theorem KT.put{H:Hp}{xs:List (List NI×Addr×Value)}(r:KT H kvs xs)(k:List NI){y:V}(G:lg H k b)(j:RelV y u) :
 KT H (cL kvs k y) (storedH xs k b u):=by
 have e:(kvs.any λkv=>decide (kv.1=k))=(atKey xs k).isSome:=by
  rw[yr,(r.val k).isSome_eq,XV]
 unfold cL storedH;rw[e]
 by_cases q:(atKey xs k).isSome=true
 . rw[ai q,ai q];exact r.repl k j
 rw[ag q,ag q];exact Paired.snoc r ⟨rfl,G,j⟩
theorem KT.keeps{H:Hp}{xs:List (List NI×Addr×Value)}(r:KT H kvs xs)(j:∀b ys,H b=some (.tup ys)->H' b=some (.tup ys)):KT H' kvs xs:=
 Paired.mapP r λ_ _ z=>⟨z.1,z.2.1.keeps j,z.2.2⟩
section
variable {H:Hp}{h:Heap}
theorem Ol{u:HO}(ok:cr P w H h)(e:Rd H a u):bX P w H h a u:=e.ok ok
theorem nz{kvs:List (ak×V)}(ok:cr P w H h)(e:Rd H a (.dK kvs)):kvs.length<=sizeLine/\(a == sysModules)=false/\∃vs,KV kvs vs/\h.DictOf (ce P w) a vs:=
 show bX P w H h a (.dK kvs) from Ol ok e
theorem iB{kvs:List (ak×V)}(ok:cr P w H h)(e:H a=some (.dK kvs)):kvs.length<=sizeLine/\(a == sysModules)=false/\∃vs,KV kvs vs/\h.DictOf (ce P w) a vs:=nz ok (.inl e)
theorem abR{ks:List NI}{vs:Lv}{us:Lw}(ok:cr P w H h)(x:MP H ks vs)(r:aW vs us):jm P w h ks us:=by
 induction x generalizing us with
 | nil=>cases r;exact .nil
 | @cons i v ks vs p _ J=>
  cases r with
  | cons j U=>
   refine .cons ?_ (J U);cases i with
   | inl k=>
    have p:v=kV k:=p;subst p;exact my (P:=P) (w:=w) j
   | inr l=>
    obtain⟨b,rfl,e⟩:=p;cases j;obtain⟨_,b_,O,o,h1,h2,n,G⟩:=(show bX P w H h b (.tup (l.map kV)) from ok b _ e);exact⟨b,rfl,o,b_.toArray,n,h1,h2,G,by simpa using Oj O⟩
theorem tM{ks:List NI}(ok:cr P w H h)(e:lg H ks a):(qJ P w).is h ks a:=by
 obtain⟨vs,e,x⟩:=e;obtain⟨_,b_,r,o,h1,h2,n,j⟩:=(show bX P w H h a (.tup vs) from ok a _ e);exact⟨o,b_.toArray,n,h1,h2,j,by simpa using abR ok x r⟩
theorem qR(ok:cr P w H h)(e:Rd H a (.dT kvs)):kvs.length<=sizeLine/\(a == sysModules)=false /\
 ∃xs,KT H kvs xs/\h.DictOfH (qJ P w) a xs:=by
 obtain⟨z,y,xs,r,o,es,ep,h1,h2,G,J,O⟩:=(show bX P w H h a (.dT kvs) from Ol ok e);refine⟨z,y,xs,r,o,es,ep,h1,h2,G,J,λx hx=>?_,O⟩;have all:∀{l:List (List NI×V)}{m:List (List NI×Addr×Value)},KT H l m->∀x∈m,(qJ P w).is h x.1 x.2.1:=by
  intro l m q
  induction q with
  | nil=>intro x hx;exact nomatch hx
  | @cons p q ps Y j t U=>
   intro x hx
   rcases aZ.mp hx with e | hx
   . subst e;exact tM ok (by rw[<-j.1];exact j.2.1)
   exact U x hx
 exact all r x hx
theorem abS(ok:cr P w H h)(e:H a=some (.dT kvs)):kvs.length<=sizeLine/\(a == sysModules)=false /\
 ∃xs,KT H kvs xs/\h.DictOfH (qJ P w) a xs:=qR ok (.inl e)
end
def cn(H:Hp)(a:Addr)(y:V)(r:Option V):Prop:=
 (∃kvs k,Rd H a (.dK kvs)/\y=kV k/\r=bg kvs k)\/∃kvs k b,Rd H a (.dT kvs)/\y=.ref b/\lg H k b/\r=bg kvs k
def fB(H:Hp)(a:Addr)(y v:V)(H':Hp):Prop:=
 (∃kvs k,H a=some (.dK kvs)/\y=kV k/\kvs.length<sizeLine/\H'=upd H a (.dK (cL kvs k v))) \/
 ∃kvs k b,H a=some (.dT kvs)/\y=.ref b/\lg H k b/\kvs.length<sizeLine/\H'=upd H a (.dT (cL kvs k v))
theorem cn.k{H:Hp}{kvs:List (ak×V)}{k:ak}(e:H a=some (.dK kvs)):cn H a (kV k) (bg kvs k):=.inl ⟨kvs,k,.inl e,rfl,rfl⟩
theorem cn.t{H:Hp}{k:List NI}(e:H a=some (.dT kvs))(j:lg H k b):cn H a (.ref b) (bg kvs k):=.inr ⟨kvs,k,b,.inl e,rfl,j,rfl⟩
theorem fB.k{H:Hp}{kvs:List (ak×V)}{k:ak}(e:H a=some (.dK kvs))(j:kvs.length<sizeLine):fB H a (kV k) v (upd H a (.dK (cL kvs k v))):=.inl ⟨kvs,k,e,rfl,j,rfl⟩
theorem fB.t{H:Hp}{k:List NI}(e:H a=some (.dT kvs))(j:lg H k b)(G:kvs.length<sizeLine) :
 fB H a (.ref b) v (upd H a (.dT (cL kvs k v))):=.inr ⟨kvs,k,b,e,rfl,j,G,rfl⟩
section
variable {H:Hp}{y:V}{r:Value}{o:Option V}{E:VP}
theorem Inv.big(I:Inv X ad Z H s):sysModules<s.heap.objs.size:=by
 have h:mainGlobals<s.heap.objs.size:=(I.mod.glob.keeps I.bk).lt;exact vh (by decide) h
theorem abT{Q:VP}(hu:A.units+64<cLine)(I:Inv X ad Z H s)(g:cn H a y (some v))(Y:RelV y u)(h:∀j s',Inv X ad Z H s'->RelV v j->Q j s') :
 wpAny (model X.prog X.w) A (getItem (.ref a) u) Q E s:=by
 rcases g with⟨kvs,k,e,G,l⟩ | ⟨kvs,k,b,e,G,eb,l⟩
 . subst G;obtain⟨z,hd,vs,U,dd⟩:=nz I.hok e;obtain⟨j,O,J⟩:=gN.some_of (v:=v) (o:=valueAt vs k) (by rw[l];exact U.val k);exact wpAny_getItem_of (my Y) dd.mapOf O (h j _ (I.tok _) J)
 subst G;cases (show u=Value.ref b from Y);obtain⟨z,hd,xs,U,dd⟩:=qR I.hok e;obtain⟨j,O,J⟩:=gN.some_of (v:=v) (o:=(atKey xs k).map (·.2)) (by rw[l];exact U.val k);obtain⟨p,hp,Fq⟩:=awe.mp O;refine wpAny_getItem_heap (vp hu) (tM I.hok eb) dd hp ?_;rw[Fq];exact h j _ (I.tok _) J
theorem abU{Q:VP}(U:A.units+64<cLine)(I:Inv X ad Z H s)(g:cn H a y o)(J:RelV y u)(h:∀s',Inv X ad Z H s'->Q (.bool o.isSome) s') :
 wpAny (model X.prog X.w) A (compareOp .In u (.ref a)) Q E s:=by
 rcases g with⟨kvs,k,e,j,l⟩ | ⟨kvs,k,b,e,j,O,l⟩
 . subst j;obtain⟨z,hd,vs,G,dd⟩:=nz I.hok e;refine wpAny_in_of (my J) hd dd.mapOf ?_;rw[<-(G.val k).isSome_eq,<-l];exact h _ (I.tok _)
 subst j;cases (show u=Value.ref b from J);obtain⟨z,hd,xs,G,dd⟩:=qR I.hok e;refine wpAny_in_heap (vp U) (tM I.hok O) hd dd ?_;have q:=(G.val k).isSome_eq;rw[XV]at q;rw[<-q,<-l];exact h _ (I.tok _)
theorem abV{Q:VP}(U:A.units+64<cLine)(I:Inv X ad Z H s)(g:cn H a y o)(J:RelV y u)(h:∀s',Inv X ad Z H s'->Q (.bool (!o.isSome)) s') :
 wpAny (model X.prog X.w) A (compareOp .NotIn u (.ref a)) Q E s:=by
 rcases g with⟨kvs,k,e,j,l⟩ | ⟨kvs,k,b,e,j,O,l⟩
 . subst j;obtain⟨z,hd,vs,G,dd⟩:=nz I.hok e;refine wpAny_notIn_of (my J) hd dd.mapOf ?_;rw[<-(G.val k).isSome_eq,<-l];exact h _ (I.tok _)
 subst j;cases (show u=Value.ref b from J);obtain⟨z,hd,xs,G,dd⟩:=qR I.hok e;refine wpAny_notIn_heap (vp U) (tM I.hok O) hd dd ?_;have q:=(G.val k).isSome_eq;rw[XV]at q;rw[<-q,<-l];exact h _ (I.tok _)
theorem vF{h':Heap}{ob:HO}(I:Inv X ad Z H s)(J:xY (H a))(hs:Heap.SameBut a s.heap h')(G:∃q,h'.get? a=some q)(new:bX X.prog X.w (upd H a ob) h' a ob) :
 Inv X ad Z (upd H a ob) { s with heap:=h',toks:=t' }:=
 I.write (x:=a) (e:=a) J (.inl rfl) (λb q j z=>(hs.2 b j).trans z) G new
theorem vG{h':Heap}{kvs:List (ak×V)}{vs:List (ak×Value)}(z:kvs.length<=sizeLine)(hd:(a == sysModules)=false)(j:KV kvs vs)(dd:h'.DictOf (ce P w) a vs) :
 bX P w H' h' a (.dK kvs):=⟨z,hd,vs,j,dd⟩
theorem abW{Q:Unit->Shared->Prop}(hu:A.units+64<cLine)(I:Inv X ad Z H s)(g:fB H a y v H')(ry:RelV y u)(rv:RelV v r)(h:∀s',Inv X ad Z H' s'->Q () s') :
 wpAny (model X.prog X.w) A (setItem (.ref a) u r) Q E s:=by
 rcases g with⟨kvs,k,e,U,l,O⟩ | ⟨kvs,k,b,e,U,eb,l,O⟩
 . subst U O;obtain⟨z,hd,vs,j,dd⟩:=iB I.hok e;have hz:vs.length<=sizeLine:=by rw[<-j.length];exact z
   have Y:(cL kvs k v).length<=sizeLine:=by have:=yt kvs k v;omega
   refine wpAny_setItem_pairs (hsz:=hz) (my ry) dd λh' G hs=>h _ ?_;have he:∃q,h'.get? a=some q:=G.elim λq a0=>a0.elim λ_ a1=>a1.elim λ_ a2=>a2.elim λJ _=>⟨q,J⟩;exact vF I (by rw[e];exact True.intro) hs he (vG Y hd (j.put k rv) G)
 subst U O;cases (show u=Value.ref b from ry);obtain⟨z,hd,xs,j,dd⟩:=abS I.hok e;have hz:xs.length<=sizeLine:=by rw[<-XF j];exact z
 have Y:(cL kvs k v).length<=sizeLine:=by have:=yt kvs k v;omega
 refine wpAny_setItem_heap (hsz:=hz) (vp hu) (tM I.hok eb) dd λh' G hs=>h _ ?_;obtain⟨q,es,ep,J,h2,h3,h4,_,h5⟩:=G;refine vF I (by rw[e];exact True.intro) hs ⟨q,J⟩ ⟨Y,hd,_,(j.put k eb rv).keeps λc ys ec=>?_,q,es,ep,J,h2,h3,h4,h5⟩;rw[aQ (be ec e (λz=>nomatch z))];exact ec
end
section
variable {H:Hp}{kvs:List (ak×V)} {k:ak}{E:VP}
theorem ab0{j:Lw}{Q:VP}(I:Inv X ad Z H s)(e:H a=some (.dK kvs))(O:RelV (kV k) u)(l:bg kvs k=some v)(Y:j=[]\/∃x,j=[x])
 (h:∀G s',Inv X ad Z (upd H a (.dK (ny kvs k))) s'->RelV v G->Q G s'):wpAny (model X.prog X.w) A (call (.builtin "dict.pop") (.ref a::u::j)) Q E s:=by
 obtain⟨z,hd,vs,J,dd⟩:=iB I.hok e;obtain⟨G,hw,gC⟩:=gN.some_of (v:=v) (o:=valueAt vs k) (by rw[<-l];exact J.val k);have hp:(keyPart u).isSome=true:=by
  cases k with
  | inl i=>obtain⟨t,q⟩:=(show∃t,u=Value.int i t from O);subst q;rfl
  | inr x=>obtain⟨t,q⟩:=(show∃t,u=Value.str x t from O);subst q;rfl
 have ha:argsOk "dict.pop" ⟨.ref a::u::j,[]⟩:=by
  rcases Y with q | ⟨x,q⟩
  . subst q;exact PySem.F.args_dict_pop_2 _ _
  subst q;exact PySem.F.args_dict_pop_3 _ _ _
 refine sV awf dd.typeIs PySem.F.entry_dict_pop ha (meets_dict_pop_there (ce X.prog X.w) a (my O) j Y hp)
  ⟨vs,G,dd,by rw[<-J.length];exact z,hw,λh' U hs=>h G _ ?_ gC⟩
 have he:∃q,h'.get? a=some q:=U.elim λq a0=>a0.elim λ_ a1=>a1.elim λ_ a2=>a2.elim λhq _=>⟨q,hq⟩;exact vF I (by rw[e];exact True.intro) hs he (vG (b8 (abQ kvs k) z) hd (J.drop k) U)
theorem ab4{Q:VP}(I:Inv X ad Z H s)(e:Rd H a (.dK kvs))(h:∀t s',Inv X ad Z H s'->Q (.int kvs.length t) s'):wpAny (model X.prog X.w) A (call (.builtin "len") [.ref a]) Q E s:=by
 obtain⟨z,hd,vs,j,dd⟩:=nz I.hok e;refine call_len_dict hd dd (by rw[<-j.length];rw[sL]at z;omega) ?_;rw[<-j.length];exact h _ _ (I.tok _)
end
def Om(i:Expr):Prop:=∀G j,subscripted i false G j=operate [G,j] (getItem G j)
theorem ab5{prog:Program}{E:VP}{env:Env}{value j:Expr}{id:String}{Q:VP}
 (hl:typeLookup (.type T) "__getitem__"=pure (some (.builtin id))) (hs:Om j)
 (h:wpAny (model prog w) A (eval value env) (λo Y=>wpAny (model prog w) A (eval j env) (λi G=>G.TypeIs o T/\wpAny (model prog w) A (getItem o i) Q E G) E Y) E s) :
 wpAny (model prog w) A (eval (.Subscript value j pos) env) Q E s:=by
 refine Mj (eP h (λo Y h₁=>eP h₁ (λi G O=>?_) λ_ _ x=>x) λ_ _ x=>x);obtain⟨U,O⟩:=O;unfold subscriptTail;refine ae ?_;rw[getitemInPython_of_ne U.not_modules];refine ae (AG U hl ?_);have J:wpAny (model prog w) A (subscripted j false o i) (λr s₃=>wpAny (model prog w) A (letTemporaryGo value o r >>= λ_=>pure r) Q E s₃) E G:=by
  rw[hs o i];exact wpAny_operating (eP O (λr s₃ h₃=>ae (wpAny_letTemporaryGo (aq h₃))) λ_ _ x=>x)
 first
  | exact aq (ae J)
  | exact ae (aq (ae J))
  | exact ae J
theorem ab6{H:Hp}{y:V}{o:Option V}(I:Inv X ad Z H s)(g:cn H a y o):s.TypeIs (.ref a) "dict":=by
 rcases g with⟨kvs,k,e,_,_⟩ | ⟨kvs,k,b,e,_,_,_⟩
 . obtain⟨_,_,vs,_,dd⟩:=nz I.hok e;exact dd.typeIs
 obtain⟨_,_,xs,_,dd⟩:=qR I.hok e;exact dd.typeIs
inductive Oo (Q:VK) (y:V) (H2:Hp):V->Prop where
 | mk {a:Addr}{v:V} (_:cn H2 a y (some v)) (_:Q v H2):Oo Q y H2 (.ref a)
def ab7(td ty:TE):TE:=λZ H Q=>td Z H λx H1=>ty Z H1 λy H2=>Oo Q y H2 x
inductive Op (Q:VK) (y:V) (H2:Hp):V->Prop where
 | mk {a:Addr} (o:Option V) (_:cn H2 a y o) (_:Q (.bl o.isSome) H2):Op Q y H2 (.ref a)
def ab8(ty td:TE):TE:=λZ H Q=>ty Z H λy H1=>td Z H1 λx H2=>Op Q y H2 x
inductive Oq (Q:VK) (y:V) (H2:Hp):V->Prop where
 | mk {a:Addr} (o:Option V) (_:cn H2 a y o) (_:Q (.bl (!o.isSome)) H2):Oq Q y H2 (.ref a)
def ab9(ty td:TE):TE:=λZ H Q=>ty Z H λy H1=>td Z H1 λx H2=>Oq Q y H2 x
inductive Ot (D:Ends) (Z:St) (v:V) (y:V) (H3:Hp):V->Prop where
 | mk {a:Addr}{j:Hp} (_:fB H3 a y v j) (_:D.nx Z j):Ot D Z v y H3 (.ref a)
def aca(td ty tv:TE):TS:=λD Z H=>tv Z H λv H1=>td Z H1 λx H2=>ty Z H2 λy H3=>Ot D Z v y H3 x
section
variable {o i e value:Expr}{pos' vC:Pos}{td ty tv:TE}
theorem oV(hu:X.A.units+64<cLine)(ho:PE X o td)(hi:PE X i ty)(hs:Om i):PE X (.Subscript o i pos) (ab7 td ty):=by
 intro ad s Z H Q I h;refine ab5 PySem.F.slot_dict_getitem.lookup hs (thn (ho ad s Z H _ I h) λu s1 O=>aP O λx H1 G rx q1=>thn (hi ad s1 Z H1 _ G q1) λiv s2 U=>aP U λy H2 j ry a0=>?_);obtain @⟨a,v,g,q2⟩:=a0;obtain rfl:u=Value.ref a:=rx;exact⟨ab6 j g,abT hu j g ry λw' s3 J Y=>⟨v,H2,J,Y,q2⟩⟩
theorem tN(hu:X.A.units+64<cLine)(hi:PE X i ty)(ho:PE X o td):PC X .In i o (ab8 ty td):=by
 intro ad s Z H Q I h;refine thn (hi ad s Z H _ I h) λiv s1 O=>aP O λy H1 j ry q1=>thn (ho ad s1 Z H1 _ j q1) λu s2 U=>aP U λx H2 G rx Y=>?_;obtain @⟨a,ov,g,q2⟩:=Y;obtain rfl:u=Value.ref a:=rx;exact abU hu G g ry λs3 J=>⟨.bl ov.isSome,H2,J,rfl,q2⟩
theorem Fs(hu:X.A.units+64<cLine)(hi:PE X i ty)(ho:PE X o td):PC X .NotIn i o (ab9 ty td):=by
 intro ad s Z H Q I h;refine thn (hi ad s Z H _ I h) λiv s1 O=>aP O λy H1 j ry q1=>thn (ho ad s1 Z H1 _ j q1) λu s2 U=>aP U λx H2 G rx Y=>?_;obtain @⟨a,ov,g,q2⟩:=Y;obtain rfl:u=Value.ref a:=rx;exact abV hu G g ry λs3 J=>⟨.bl (!ov.isSome),H2,J,rfl,q2⟩
theorem iC(hu:X.A.units+64<cLine)(ho:PE X o td)(hi:PE X i ty)(hv:PE X value tv)(hs:swapsWith value (some (.Subscript o i pos')) pos.line X.env=pure false) :
 PS X (.Assign [.Subscript o i pos'] value pos) (aca td ty tv):=by
 intro ad s Z H D I h;refine wpAny_Assign_Subscript (thn (hv ad s Z H _ I h) λr s1 Y=>aP Y λv H1 G rv q1=>thn (ho ad s1 Z H1 _ G q1) λu s2 a0=>aP a0 λx H2 J rx q2=>thn (hi ad s2 Z H2 _ J q2) λiv s3 a1=>aP a1 λy H3 O ry a2=>?_) hs;obtain @⟨a,j,g,q3⟩:=a2;obtain rfl:u=Value.ref a:=rx;exact abW hu O g ry rv λs4 U=>⟨Z,j,U,q3⟩
end
theorem Ou{H:Hp}(h:Heap)(j:sysModules<h.objs.size):bX P w H (h.push { cls:=.type "dict",data:=.dict #[] }) h.objs.size (.dK []):=
 ⟨dC _,xB.mpr (fw (cX j)),[],.nil,Heap.DictOf.new h⟩
theorem acp{H:Hp}(h:Heap)(j:sysModules<h.objs.size):bX P w H (h.push { cls:=.type "dict",data:=.dict #[] }) h.objs.size (.dT []):=
 ⟨dC _,xB.mpr (fw (cX j)),[],.nil,_,#[],0,dL _ rfl,⟨rfl,rfl,rfl⟩,rfl,rfl,kY⟩
def acq:TE:=λ_ H Q=>∀p,H p=none->Q (.ref p) (upd H p (.dK []))
def acr:TE:=λ_ H Q=>∀p,H p=none->Q (.ref p) (upd H p (.dT []))
theorem acs:PE X (.Dict [] [] pos) acq:=λad s Z H Q I h=>
 wpAny_Dict_empty ⟨.ref s.heap.objs.size,_,I.laid (a:=s.heap.objs.size) (o:=.dK []) (t':=s.toks) (λ_ _ q=>b9 _ q) (aG _) (Ou s.heap I.big),rfl,h _ (I.hok.fresh (aG _))⟩
theorem act:PE X (.Dict [] [] pos) acr:=λad s Z H Q I h=>
 wpAny_Dict_empty ⟨.ref s.heap.objs.size,_,I.laid (a:=s.heap.objs.size) (o:=.dT []) (t':=s.toks) (λ_ _ q=>b9 _ q) (aG _) (acp s.heap I.big),rfl,h _ (I.hok.fresh (aG _))⟩
def Ft:List (TE×TE)->St->Hp->(List (V×V)->Hp->Prop)->Prop
 | [],_,H,Q=>Q [] H
 | (tk,tv)::r,Z,H,Q=>tk Z H λx H1=>tv Z H1 λy H2=>Ft r Z H2 λps H3=>Q ((x,y)::ps) H3
abbrev VV:List (V×V)->List (Value×Value)->Prop:=Paired λp q=>RelV p.1 q.1/\RelV p.2 q.2
def Bp(X:Cx)(pos:Pos)(j:List (Option Expr))(J:List Expr)(G:List (TE×TE)):Prop:=
 ∀(ad:Po) (s:Shared) (Z:St) (H:Hp) (Q:List (V×V)->Hp->Prop),Inv X ad Z H s->Ft G Z H Q ->
  wpAny (model X.prog X.w) X.A (evalPairs (pairTrees j J X.env pos)) (λvs s'=>∃ps H',Inv X ad Z H' s'/\VV ps vs/\Q ps H') X.xe s
theorem Ov:Bp X pos [] [] []:=λad s Z H Q I h=>pairTrees_nil_walk ⟨[],H,I,.nil,h⟩
theorem Ox{k v:Expr}{ks:List (Option Expr)}{vs:List Expr}{tk tv:TE}{j:List (TE×TE)}(hk:PE X k tk)(hv:PE X v tv)(hr:Bp X pos ks vs j) :
 Bp X pos (some k::ks) (v::vs) ((tk,tv)::j):=λad s Z H Q I h=>
 pairTrees_cons_walk (thn (hk ad s Z H _ I h) λu s1 U=>aP U λx H1 G rx q1=>thn (hv ad s1 Z H1 _ G q1) λw2 s2 Y=>aP Y λy H2 J ry q2=>
  thn (hr ad s2 Z H2 _ J q2) λws s3 a0=>aP a0 λps H3 O a1 q3=>⟨(x,y)::ps,H3,O,.cons ⟨rx,ry⟩ a1,q3⟩)
def mz(kvs G:List (ak×V)):List (ak×V):=G.foldl (λj kv=>cL j kv.1 kv.2) kvs
theorem KV.merge:∀{j:List (ak×V)}{G:List (ak×Value)}{kvs:List (ak×V)}{vs:List (ak×Value)},KV j G->KV kvs vs->KV (mz kvs j) (merged vs G):=by
 intro j G kvs vs r;unfold KV at r
 induction r generalizing kvs vs with
 | nil=>intro q;exact q
 | @cons p q ps U h t J=>
  intro O;have e:KV (cL kvs p.1 p.2) (stored vs q.1 q.2):=by
   have:=O.put p.1 h.2;rw[<-h.1];exact this
  exact J e
theorem Fu:∀(j kvs:List (ak×V)),(mz kvs j).length<=kvs.length+j.length
 | [],kvs=>by show kvs.length<=kvs.length+0;omega
 | p::r,kvs=>by
  have h1:=Fu r (cL kvs p.1 p.2);have h2:=yt kvs p.1 p.2;show(mz (cL kvs p.1 p.2) r).length<=_;rw[cT];omega
theorem Oy{P:Program}{w:World}:∀{kvs:List (ak×V)}{G:List (Value×Value)},VV (kvs.map λkv=>(kV kv.1,kv.2)) G->∃j,Carries (ce P w) G j/\KV kvs j
 | [],_,r=>by rw[AN]at r;cases r;exact⟨[],True.intro,.nil⟩
 | p::kvs,_,r=>by
  rw[bV]at r;cases r with
  | @cons a b as bs h t=>
   obtain⟨j,c,q⟩:=Oy (P:=P) (w:=w) t;obtain⟨O,J⟩:=b;exact⟨(p.1,J)::j,⟨my h.1,rfl,c⟩,.cons ⟨rfl,h.2⟩ q⟩
def acx(j:List (TE×TE)):TE:=λZ H Q=>∀p,H p=none->Ft j Z (upd H p (.dK [])) λps H2=>H2 p=some (.dK [])/\∃kvs:List (ak×V),ps=kvs.map (λkv=>(kV kv.1,kv.2))/\kvs.length<=15/\Q (.ref p) (upd H2 p (.dK (mz [] kvs)))
theorem Oz{j:List (Option Expr)}{G:List Expr}{U:List (TE×TE)}(h:Bp X pos j G U)(qI:j.all (·.isSome)=true)(hl:j.length=G.length)(h0:j≠[])
 (a8:j.length<=15):PE X (.Dict j G pos) (acx U):=by
 intro ad s Z H Q I q;have hn:=I.hok.fresh (aG s.heap.objs.size);have Y:=I.laid (a:=s.heap.objs.size) (o:=.dK []) (h':=s.heap.push { cls:=.type "dict",data:=.dict #[] }) (t':=s.toks) (λ_ _ q=>b9 _ q) (aG _) (Ou s.heap I.big);refine wpAny_Dict_walk (knd:=ce X.prog X.w) qI hl h0 a8 (thn (h ad _ Z _ _ Y (q _ hn)) λws s2 a7=>aP a7 λps H2 J a9 a0=>a0.elim λe a1=>a1.elim λkvs a2=>a2.elim λep a3=>a3.elim λlk q2=>?_);subst ep;obtain⟨rs,c,rk⟩:=Oy (P:=X.prog) (w:=X.w) a9;obtain⟨z,hd,ab,r0,dd⟩:=iB J.hok e;cases r0;refine⟨rs,c,dd,λh' O hs=>⟨.ref s.heap.objs.size,_,?_,rfl,q2⟩⟩;have hz:(mz [] kvs).length<=sizeLine:=by
  have h1:=Fu kvs [];rw[kX]at h1;rw[sL];omega
 have he:∃q,h'.get? s.heap.objs.size=some q:=O.elim λq a4=>a4.elim λ_ a5=>a5.elim λ_ a6=>a6.elim λhq _=>⟨q,hq⟩;exact vF J (by rw[e];exact True.intro) hs he (vG hz hd (rk.merge .nil) O)
structure M1(X:Cx)(o:Expr)(m:Str)(apos:Pos)(e:Expr)(cj:Pos):Prop where
 base:attributeBase o m X.env (eval o X.env)=eval o X.env
 few:((backTo cj (starEach [e] X.env)).all (λx=>!x.1) && (backToKw cj (keywordEach [] X.env)).all (λx=>x.1.isSome)
  && decide (([e]:List Expr).length+([]:List Keyword).length+(if ([]:List Keyword).isEmpty then 0 else 1)<30))=true
 line:(apos.endLine == cj.line)=true
 trees:backTo cj (starEach [e] X.env)=[(false,eval e X.env)]
structure M2(X:Cx)(o:Expr)(m:Str)(apos:Pos)(e f:Expr)(cj:Pos):Prop where
 base:attributeBase o m X.env (eval o X.env)=eval o X.env
 few:((backTo cj (starEach [e,f] X.env)).all (λx=>!x.1) && (backToKw cj (keywordEach [] X.env)).all (λx=>x.1.isSome)
  && decide (([e,f]:List Expr).length+([]:List Keyword).length+(if ([]:List Keyword).isEmpty then 0 else 1)<30))=true
 line:(apos.endLine == cj.line)=true
 trees:backTo cj (starEach [e,f] X.env)=[(false,eval e X.env),(false,eval f X.env)]
def Bq(H:Hp)(a:Addr):Prop:=(∃kvs,Rd H a (.dK kvs))\/∃kvs,Rd H a (.dT kvs)
theorem Fw{H:Hp}(I:Inv X ad Z H s)(d:Bq H a) :
 s.TypeIs (.ref a) "dict"/\(∀b,Value.ref a=.ref b->∃ob,s.heap.get? b=some ob/\ob.dict=none)/\(a == sysModules)=false:=by
 rcases d with⟨kvs,e⟩ | ⟨kvs,e⟩
 . obtain⟨_,hd,vs,_,dd⟩:=nz I.hok e;refine⟨dd.typeIs,λb q=>?_,hd⟩;cases q;obtain⟨ob,_,_,h1,h2,_⟩:=dd;exact⟨ob,h1,h2.2.1⟩
 obtain⟨_,hd,xs,_,dd⟩:=qR I.hok e;refine⟨dd.typeIs,λb q=>?_,hd⟩;cases q;obtain⟨ob,_,_,h1,h2,_⟩:=dd;exact⟨ob,h1,h2.2.1⟩
section
variable {H:Hp}{y d:V}{r:Value}{o:Option V}{E:VP}
theorem acH{Q:VP}(Y:A.units+64<cLine)(I:Inv X ad Z H s)(g:cn H a y o)(J:RelV y u)(h:∀O s',Inv X ad Z H s'->RelV (o.getD .non) O->Q O s') :
 wpAny (model X.prog X.w) A (call (.builtin "dict.get") [.ref a,u]) Q E s:=by
 rcases g with⟨kvs,k,e,j,l⟩ | ⟨kvs,k,b,e,j,U,l⟩
 . subst j;obtain⟨z,hd,vs,G,dd⟩:=nz I.hok e;refine sV AO dd.typeIs Ml (awg _ _) (meets_dict_get (ce X.prog X.w) a (my J) hd) ⟨_,dd.mapOf,h _ _ (I.tok _) ?_⟩;rw[l];exact(G.val k).getD rfl
 subst j;cases (show u=Value.ref b from J);obtain⟨z,hd,xs,G,dd⟩:=qR I.hok e;refine sV AO dd.typeIs Ml (awg _ _) (meetsH_dict_get (qJ X.prog X.w) a b hd) ⟨vp Y,k,xs,tM I.hok U,dd,h _ _ (I.tok _) ?_⟩;rw[l];exact(G.val k).getD rfl
theorem acI{Q:VP}(hu:A.units+64<cLine)(I:Inv X ad Z H s)(g:cn H a y o)(O:RelV y u)(J:RelV d r)(h:∀U s',Inv X ad Z H s'->RelV (o.getD d) U->Q U s') :
 wpAny (model X.prog X.w) A (call (.builtin "dict.get") [.ref a,u,r]) Q E s:=by
 rcases g with⟨kvs,k,e,j,l⟩ | ⟨kvs,k,b,e,j,Y,l⟩
 . subst j;obtain⟨z,hd,vs,G,dd⟩:=nz I.hok e;refine sV AO dd.typeIs Ml (awh _ _ _) (meets_dict_get_default (ce X.prog X.w) a (my O) hd r) ⟨_,dd.mapOf,h _ _ (I.tok _) ?_⟩;rw[l];exact(G.val k).getD J
 subst j;cases (show u=Value.ref b from O);obtain⟨z,hd,xs,G,dd⟩:=qR I.hok e;refine sV AO dd.typeIs Ml (awh _ _ _) (meetsH_dict_get_default (qJ X.prog X.w) a b hd r) ⟨vp hu,k,xs,tM I.hok Y,dd,h _ _ (I.tok _) ?_⟩;rw[l];exact(G.val k).getD J
end
inductive OA (ty:TE) (Z:St) (Q:VK) (H1:Hp):V->Prop where
 | mk {a:Addr} (_:Bq H1 a) (_:ty Z H1 λy H2=>∃o,cn H2 a y o/\Q (o.getD .non) H2):OA ty Z Q H1 (.ref a)
def acJ(td ty:TE):TE:=λZ H Q=>td Z H λx H1=>OA ty Z Q H1 x
inductive OB (ty:TE) (tx:TE) (Z:St) (Q:VK) (H1:Hp):V->Prop where
 | mk {a:Addr} (_:Bq H1 a) (_:ty Z H1 λy H2=>tx Z H2 λz H3=>∃o,cn H3 a y o/\Q (o.getD z) H3):OB ty tx Z Q H1 (.ref a)
def acK(td ty tx:TE):TE:=λZ H Q=>td Z H λx H1=>OB ty tx Z Q H1 x
inductive OC (ty:TE) (Z:St) (Q:VK) (H1:Hp):V->Prop where
 | mk {a:Addr} (_:Bq H1 a) (_:ty Z H1 λy H2=>∃kvs k v,H2 a=some (.dK kvs)/\y=kV k/\bg kvs k=some v/\Q v (upd H2 a (.dK (ny kvs k)))):OC ty Z Q H1 (.ref a)
def acL(td ty:TE):TE:=λZ H Q=>td Z H λx H1=>OC ty Z Q H1 x
section
variable {o e f:Expr}{apos cj:Pos}{td ty tx:TE}
theorem Fx(hu:X.A.units+64<cLine)(ho:PE X o td)(he:PE X e ty)(m:M1 X o "get" apos e cj):PE X (.Call (.Attribute o "get" apos) [e] [] cj) (acJ td ty):=by
 intro ad s Z H Q I h;refine XW m.base m.few m.line xJ AO awi (thn (ho ad s Z H _ I h) λu s1 O=>aP O λx H1 j rx U=>?_);obtain @⟨a,d,q1⟩:=U;obtain rfl:u=Value.ref a:=rx;obtain⟨t1,t2,_⟩:=Fw j d;refine⟨t1,t2,?_⟩;rw[m.trees];refine AL rfl (Eo (Ej (thn (he ad s1 Z H1 _ j q1) λiv s2 Y=>aP Y λy H2 G ry a0=>a0.elim λov a1=>a1.elim λg q2=>Mg ?_)));exact acH hu G g ry λw' s3 J gC=>⟨_,H2,J,gC,q2⟩
theorem vH(hu:X.A.units+64<cLine)(ho:PE X o td)(he:PE X e ty)(hf:PE X f tx)(m:M2 X o "get" apos e f cj):PE X (.Call (.Attribute o "get" apos) [e,f] [] cj) (acK td ty tx):=by
 intro ad s Z H Q I h;refine XW m.base m.few m.line xJ AO awi (thn (ho ad s Z H _ I h) λu s1 U=>aP U λx H1 j rx Y=>?_);obtain @⟨a,d,q1⟩:=Y;obtain rfl:u=Value.ref a:=rx;obtain⟨t1,t2,_⟩:=Fw j d;refine⟨t1,t2,?_⟩;rw[m.trees];refine AL rfl (Eo (Ej (thn (he ad s1 Z H1 _ j q1) λiv s2 a0=>aP a0 λy H2 G ry q2=>
  Ej (thn (hf ad s2 Z H2 _ G q2) λfv s3 a1=>aP a1 λz H3 J rz a2=>a2.elim λov a3=>a3.elim λg q3=>Mg ?_))))
 exact acI hu J g ry rz λw' s4 O gC=>⟨_,H3,O,gC,q3⟩
theorem Br(ho:PE X o td)(he:PE X e ty)(m:M1 X o "pop" apos e cj):PE X (.Call (.Attribute o "pop" apos) [e] [] cj) (acL td ty):=by
 intro ad s Z H Q I h;refine XW m.base m.few m.line xJ awf PySem.F.type_dict_pop (thn (ho ad s Z H _ I h) λu s1 a3=>aP a3 λx H1 j rx a4=>?_);obtain @⟨a,d,q1⟩:=a4;obtain rfl:u=Value.ref a:=rx;obtain⟨t1,t2,_⟩:=Fw j d;refine⟨t1,t2,?_⟩;rw[m.trees];refine AL rfl (Eo (Ej (thn (he ad s1 Z H1 _ j q1) λiv s2 a5=>aP a5 λy H2 G ry O=>O.elim λkvs U=>U.elim λk Y=>Y.elim λv a0=>a0.elim λea a1=>a1.elim λey a2=>a2.elim λl q2=>Mg ?_)));subst ey;exact ab0 G ea ry l (.inl rfl) λw' s3 J gC=>⟨v,_,J,gC,q2⟩
end
section
variable {H:Hp}{kvs:List (ak×V)} {E:VP}
theorem ac6{Q:VP}(I:Inv X ad Z H s)(e:Rd H a (.dK kvs))(h:∀p s',H p=none->Inv X ad Z (upd H p (.dK kvs)) s'->Q (.ref p) s'):wpAny (model X.prog X.w) A (call (.type "dict") [.ref a]) Q E s:=by
 obtain⟨z,hd,vs,G,dd⟩:=nz I.hok e;refine kt_call_dict hd dd (by rw[<-G.length];exact z) λh' J hs=>?_;refine h _ _ (I.hok.fresh (aG _)) (I.laid (a:=s.heap.objs.size) (o:=.dK kvs) (t':=s.toks) (λb q j=>?_) (aG _) (vG z (xB.mpr (fw (cX I.big))) G J));exact(hs.2 b (cX (bH j))).trans (b9 _ j)
end
end L2
namespace Att
open PySem.W PySem.Calls
theorem ac7{P:Params}{h:Heap}:∀(ns:List Int) (vs:Lw),WellAll P h vs (ns.map WData.int)->IntsAre vs ns:=by
 intro ns
 induction ns with
 | nil=>
  intro vs w;rw[AN]at w;cases w;exact .nil
 | cons n ns j=>
  intro vs w;rw[bV]at w;cases w with
  | cons a b=>
   cases a;exact .cons _ _ (j _ b)
theorem ac8{l:OpenLaw}{n:Nat}(hn:l.most=some n){P:Params}{h:Heap}{args:List WData}{U:Lw}
 (J:l.row.toRowW.claim.pre args=true) (Y:WellAll P h U args) :
 ∃a vs ns,U=[Value.ref a]/\args=[WData.list (ns.map WData.int)]/\h.get? a=some { cls:=.type "list",data:=.seq vs.toArray }/\IntsAre vs ns/\ns.length<=n:=by
 have a1:WShape.hasAll [] args [.list .int]=true:=(pre_splitW J).1;have O:l.pre.holds [] { args:=args } = true:=(pre_splitW J).2;obtain⟨d,r,rfl,h1,h2⟩:=hasAllW_cons a1;obtain rfl:=hasAllW_nil h2;obtain⟨xs,rfl,h3⟩:=hasW_list h1;obtain⟨ns,rfl⟩:=items_int h3;have a0:ns.length<=n:=by
  unfold OpenLaw.pre at O;have j:(WTm.not (.lt (.lit (.int (n:Int))) (.len (.arg 0)))).holds [] { args:=[.list (ns.map .int)] } = true:=by
   have j:=(holds_andW O).1;rw[hn]at j;exact j
  have G:=condW_of j (w_not (w_lt w_lit (w_len_list (w_arg rfl))));rw[aj]at G;refine Nat.le_of_not_lt λq=>?_;have q':(n:Int)<((ns.length:Nat):Int):=by omega
  first
   | (rw[bN q']at G;exact absurd G (by decide))
   | (simp at G;omega)
 cases Y with
 | cons w1 w2=>
  cases w2;cases w1 with
  | list ho qI=>exact⟨_,_,ns,rfl,rfl,ho,ac7 ns _ qI,a0⟩
theorem ada(l:OpenLaw)(args:List WData):l.row.toRowW.claim.post args (.bool true) args=true:=
 postW_of (r:=l.row.toRowW) (X:=(true == true))
  (show WShape.has [] (.bool true) .bool=true by first | rfl | decide | simp[WShape.has,WShape.arms,WShape.armsAll])
  (show(WTm.eq .res (.lit (.bool true))).value [] { args:=args,res:=some (.bool true),after:=args } = some (.bool (true == true)) from w_eq_bool (w_res rfl) w_lit) rfl
theorem adb{l:OpenLaw}{n:Nat}{q:Program}{a0:Ls}{XP:(Mv)->Heap->Prop}{YP:World->Heap->Prop}{d:DefRec}
 (hn:l.most=some n) (yu:d.params.defaults=[])
 (call:∀(w:World) (s₀ j:Shared) (mg U:Mv) (J:Addr) (o:Obj) (pm cd O:Value) (a:Addr) (vs:Lw) (ns:List Int),
  Ground q a0 [] XP w s₀ mg U j.heap->YP w j.heap ->
  j.heap.get? J=some o->o.data=.func (docDef d.name d.params d.body d.scope pm cd O)->j.heap.CodeRec cd d.name->mg d.name=some (.ref J) ->
  j.heap.get? a=some { cls:=.type "list",data:=.seq vs.toArray }->IntsAre vs ns->ns.length<=n->j.gens = #[] ->
  codeAny (model l.prog w) callerA (.call (.ref J) ⟨[.ref a],[]⟩) (λr s'=>r=.ok (.ret (.bool true))/\OldK j.heap s'.heap/\s'.os=j.os/\AllBare s'.gens) j) :
 WalkO q a0 XP YP l.row.toRowW d [] (λf vs=>PySem.call f vs):=by
 intro w s₀ j mg U G Y J o pm cd O dV kV ho hd iU hD yw hg args a6 as Bs a3 a5 Fz a4;obtain rfl:dV=.none:=Dflts.none hD yu;obtain rfl:kV=.none:=Dflts.noKw hD;obtain⟨a,vs,ns,rfl,rfl,tO,a1,a2⟩:=ac8 hn Bs Fz;refine enter_call (qt (call w s₀ j mg U J o pm cd O a vs ns G Y ho (fd_plain hd) iU yw tO a1 a2 hg) λr s' hq=>?_);obtain⟨rfl,h2,h3,h4⟩:=hq;exact⟨.inl ⟨.bool true,.bool true,[],rfl,λ_=>rfl,.bool true,ada l _,λ_=>⟨List.Pairwise.nil,λ_ hm=>(nomatch hm)⟩⟩,h2,h3,h4⟩
end Att
namespace L2
variable {x a_:Str}{st:Stmt}{f:Addr}{fd:Fy}{A B:Prop}{l:Ls}{us:Lw}
theorem OD:∀{vs:Lw}{ns:List Int},IntsAre vs ns->aW (ns.map V.int) vs
 | _,_,.nil=>.nil
 | _,_,.cons n t h=>.cons ⟨t,rfl⟩ (OD h)
def gP(s:Stmt)(j:Nat):Stmt:=match s with
 | .ClassDef _ _ _ body _ _ _ _ _ _ _=>body.getD j (.Pass ⟨0,0,0,0⟩)
 | _=>.Pass ⟨0,0,0,0⟩
def dq(s:Stmt):Arguments:=match s with
 | .FunctionDef _ a _ _ _ _ _ _ _ _=>a
 | _=>{ posonlyargs:=[],args:=[],vararg:=none,kwonlyargs:=[],kw_defaults:=[],kwarg:=none,defaults:=[] }
def cM(s:Stmt):List Stmt:=match s with
 | .FunctionDef _ _ b _ _ _ _ _ _ _=>b
 | _=>[]
def au(s:Stmt):Scope:=match s with
 | .FunctionDef _ _ _ _ _ _ sc _ _ _=>sc
 | _=>{ kind:=.function,names:=[],isGenerator:=false,isCoroutine:=false }
abbrev aJ:ie:=λ_ _ _ _ _ _=>False
abbrev E0:XK:=λ_ _ _=>False
theorem dv{X:Cx}:mx aJ X E0:=λ_ _ _ _ _ _ _ h=>h.elim
structure cq(K:Fg)(x a_:Str)(st:Stmt)(f:Addr)(fd:Fy):Prop where
 ex:∃(oc:Value) (od:Oa) (kV doc pm:Value) (an:Oa) (ar ct:Value) (iX:Array (Option Value)),
  fd=W.fnOf x a_ (dq st) (cM st) (au st) .none kV doc pm an ar ct/\K.lookup f=some ⟨oc,od,.func fd,iX⟩/\W.codeIn K ar a_=true
 kp:W.keepIn K (.ref f)=true
section
variable {P:Program}{w:World}{K:Fg}{mg:Mv}{base:Heap}
theorem cq.ok{N ps:Ls}{k:Nat}{sp:Sp}(F:cq K x a_ st f fd)(S:aN N ps (au st))(len:∀vs H Q E,sp vs H Q E->vs.length=ps.length)
 (Y:∀(j:Value) (A:Around) (outer:List Env) (s:Shared) (H:Hp) (vs:Lv) (Q:VK) (E:XK),ci k (A.deeper (envOfC a_ (au st) s.heap.objs.size f j))->sp vs H Q E ->
  ∃t,cf (lq aJ P w K mg base N a_ (au st) f j A outer s H E).nox (cM st) t/\t { nx:=λ_ H'=>Q .non H',rt:=Q } (start N vs) H):aA P w K mg base aJ (k+1) f fd ps sp:=by
 obtain⟨oc,od,kV,a0,pm,an,j,ct,iX,rfl,U,J⟩:=F.ex;refine Fe U J S len λA outer s H vs Q E G O=>?_;obtain⟨t,h,q⟩:=Y j A outer s H vs Q E G O;exact⟨t,h.nox,q⟩
theorem cq.binds{ps:Ls}(F:cq K x a_ st f fd)
 (h:∀(kV J pm:Value) (j:Oa) (G ct:Value) (us:Lw),us.length=ps.length->bindArgs (W.fnOf x a_ (dq st) (cM st) (au st) .none kV J pm j G ct) ⟨us,[]⟩=pure (ps.zip us)):Binds K fd ps []:=by
 obtain⟨oc,od,kV,J,pm,j,G,ct,U,rfl,Y,O⟩:=F.ex;exact .all (h kV J pm j G ct)
theorem gD{U:Value}{Y G:Oa}{O:Array (Option Value)}{kV J pm j ct:Value}(l:K.lookup f=some ⟨U,Y,.func (W.fnOf x a_ (dq st) (cM st) (au st) .none kV J pm G j ct),O⟩)
 (c:W.codeIn K j a_=true) (k:W.keepIn K (.ref f)=true):cq K x a_ st f (W.fnOf x a_ (dq st) (cM st) (au st) .none kV J pm G j ct):=⟨⟨U,Y,kV,J,pm,G,j,ct,O,rfl,l,c⟩,k⟩
end
theorem bY{n:Nat}(h:n<=1000):n<sizeLine:=XX h (by decide)
section
variable {X:Cx}
theorem pv(i:Nat){pos:Pos}(j:X.N[i]?=some x:=by rfl)(G:A6 X.env.scope x:=by first | exact Or.inl rfl | exact Or.inr (Or.inl rfl) | exact Or.inr (Or.inr rfl))(hd:(x == ("__debug__":Str))=false:=by decide)
 (J:(x == ("__classdict__":Str))=false:=by decide):PE X (.Name x pos) (qM i):=Za j G hd J
theorem adc:eS X (.builtin "len") (λxs H Q=>∃a kvs,xs=[V.ref a]/\H a=some (.dK kvs)/\Q (.int kvs.length) H):=by
 intro ad s Z H xs us Q I r h;obtain⟨a,kvs,rfl,G,q⟩:=h;obtain⟨u,rfl,J⟩:=vals1 r;cases J;exact ab4 I (.inl G) λt s' j=>⟨.int kvs.length,H,j,⟨t,rfl⟩,q⟩
end
theorem eL(h:B):if false=true then A else B:=by
 rw[ag cW];exact h
theorem gm(h:A):if true=true then A else B:=by
 rw[ai rfl];exact h
theorem bu{c:Prop}[Decidable c](h1:c->A)(h2:¬c->B):if c then A else B:=by
 by_cases h:c
 . rw[ai h];exact h1 h
 rw[ag h];exact h2 h
theorem add{c:Prop}[Decidable c](j:c)(h:B):if (!decide c)=true then A else B:=by
 rw[bN j];exact eL h
def aa(H H':Hp):Prop:=∀b o,H b=some o->H' b=some o
theorem aa.refl(H:Hp):aa H H:=λ_ _ h=>h
theorem aa.trans{H H1 H2:Hp}(a:aa H H1)(b:aa H1 H2):aa H H2:=λc o h=>b c o (a c o h)
theorem aa.free{H H':Hp}(e:aa H H'){l:Addr}(h:H' l=Option.none):H l=Option.none:=by
 cases q:H l with
 | none=>rfl
 | some o=>
  rw[e l o q]at h;cases h
theorem aa.seq{K:Fg}{H H':Hp}{a:Addr}{xs:Lv}(e:aa H H')(h:ac K H a xs):ac K H' a xs:=by
 rcases h with(h | ⟨o,h⟩) | h
 . exact .inl (.inl (e _ _ h))
 . exact .inl (.inr ⟨o,e _ _ h⟩)
 exact .inr h
section
variable {K:Fg}
theorem qS{n:Nat}(h:us.length=n+1):∃u r,us=u::r/\r.length=n:=by
 cases us with
 | nil=>cases h
 | cons u r=>exact⟨u,r,rfl,Nat.succ.inj h⟩
theorem OE(h:us.length=1):∃j,us=[j]:=by
 obtain⟨j,r,rfl,e⟩:=qS h;rw[List.eq_nil_of_length_eq_zero e];exact⟨j,rfl⟩
theorem OF(h:us.length=2):∃j G,us=[j,G]:=by
 obtain⟨j,r,rfl,e⟩:=qS h;obtain⟨G,rfl⟩:=OE e;exact⟨j,G,rfl⟩
theorem OG(h:us.length=3):∃j G J,us=[j,G,J]:=by
 obtain⟨j,r,rfl,e⟩:=qS h;obtain⟨G,J,rfl⟩:=OF e;exact⟨j,G,J,rfl⟩
theorem OH(h:us.length=4):∃j G J O,us=[j,G,J,O]:=by
 obtain⟨j,r,rfl,e⟩:=qS h;obtain⟨G,J,O,rfl⟩:=OG e;exact⟨j,G,J,O,rfl⟩
theorem ade(h:us.length=5):∃j G J O U,us=[j,G,J,O,U]:=by
 obtain⟨j,r,rfl,e⟩:=qS h;obtain⟨G,J,O,U,rfl⟩:=OH e;exact⟨j,G,J,O,U,rfl⟩
theorem OI(h:us.length=6):∃j G J O U Y,us=[j,G,J,O,U,Y]:=by
 obtain⟨j,r,rfl,e⟩:=qS h;obtain⟨G,J,O,U,Y,rfl⟩:=ade e;exact⟨j,G,J,O,U,Y,rfl⟩
theorem adf(h:us.length=7):∃j G J O U Y u6,us=[j,G,J,O,U,Y,u6]:=by
 obtain⟨j,r,rfl,e⟩:=qS h;obtain⟨G,J,O,U,Y,u6,rfl⟩:=OI e;exact⟨j,G,J,O,U,Y,u6,rfl⟩
theorem adg(h:us.length=8):∃j G J O U Y u6 u7,us=[j,G,J,O,U,Y,u6,u7]:=by
 obtain⟨j,r,rfl,e⟩:=qS h;obtain⟨G,J,O,U,Y,u6,u7,rfl⟩:=adf e;exact⟨j,G,J,O,U,Y,u6,u7,rfl⟩
theorem cq.binds1(F:cq K x a_ st f fd)
 (h:∀(kV O pm:Value) (G:Oa) (J ct j:Value),bindArgs (W.fnOf x a_ (dq st) (cM st) (au st) .none kV O pm G J ct) ⟨[j],[]⟩=pure (l.zip [j])) (U:l.length=1:=by rfl):Binds K fd l []:=
 F.binds (ps:=l) λkV O pm G J ct us e=>by
  obtain⟨j,rfl⟩:=OE (e.trans U);exact h kV O pm G J ct j
theorem cq.binds2(F:cq K x a_ st f fd)
 (h:∀(kV U pm:Value) (J:Oa) (O ct j G:Value),bindArgs (W.fnOf x a_ (dq st) (cM st) (au st) .none kV U pm J O ct) ⟨[j,G],[]⟩=pure (l.zip [j,G])) (Y:l.length=2:=by rfl):Binds K fd l []:=
 F.binds (ps:=l) λkV U pm J O ct us e=>by
  obtain⟨j,G,rfl⟩:=OF (e.trans Y);exact h kV U pm J O ct j G
theorem cq.binds3(F:cq K x a_ st f fd)
 (h:∀(kV Y pm:Value) (O:Oa) (U ct j G J:Value),bindArgs (W.fnOf x a_ (dq st) (cM st) (au st) .none kV Y pm O U ct) ⟨[j,G,J],[]⟩=pure (l.zip [j,G,J])) (hl:l.length=3:=by rfl):Binds K fd l []:=
 F.binds (ps:=l) λkV Y pm O U ct us e=>by
  obtain⟨j,G,J,rfl⟩:=OG (e.trans hl);exact h kV Y pm O U ct j G J
theorem cq.binds4(F:cq K x a_ st f fd)
 (h:∀(kV a0 pm:Value) (U:Oa) (Y ct j G J O:Value),bindArgs (W.fnOf x a_ (dq st) (cM st) (au st) .none kV a0 pm U Y ct) ⟨[j,G,J,O],[]⟩=pure (l.zip [j,G,J,O])) (hl:l.length=4:=by rfl):Binds K fd l []:=
 F.binds (ps:=l) λkV a0 pm U Y ct us e=>by
  obtain⟨j,G,J,O,rfl⟩:=OH (e.trans hl);exact h kV a0 pm U Y ct j G J O
theorem cq.binds6(F:cq K x a_ st f fd)
 (h:∀(kV a0 pm:Value) (an:Oa) (ar ct j G J O U Y:Value),bindArgs (W.fnOf x a_ (dq st) (cM st) (au st) .none kV a0 pm an ar ct) ⟨[j,G,J,O,U,Y],[]⟩=pure (l.zip [j,G,J,O,U,Y])) (hl:l.length=6:=by rfl):Binds K fd l []:=
 F.binds (ps:=l) λkV a0 pm an ar ct us e=>by
  obtain⟨j,G,J,O,U,Y,rfl⟩:=OI (e.trans hl);exact h kV a0 pm an ar ct j G J O U Y
theorem cq.binds8(F:cq K x a_ st f fd)
 (h:∀(kV a0 pm:Value) (an:Oa) (ar ct j G J O U Y u6 u7:Value),bindArgs (W.fnOf x a_ (dq st) (cM st) (au st) .none kV a0 pm an ar ct) ⟨[j,G,J,O,U,Y,u6,u7],[]⟩=pure (l.zip [j,G,J,O,U,Y,u6,u7])) (hl:l.length=8:=by rfl):Binds K fd l []:=
 F.binds (ps:=l) λkV a0 pm an ar ct us e=>by
  obtain⟨j,G,J,O,U,Y,u6,u7,rfl⟩:=adg (e.trans hl);exact h kV a0 pm an ar ct j G J O U Y u6 u7
end
end L2
set_option maxHeartbeats 4000000
namespace L2
theorem fD{H:Hp}{p:Addr}{o:HO}(h:H p=none):aa H (upd H p o):=λb u e=>by
 rw[aQ (aH e h)];exact e
theorem eM{H0 H:Hp}{p:Addr}{o:HO}(s:aa H0 H)(h:H0 p=none):aa H0 (upd H p o):=λb u e=>by
 rw[aQ (aH e h)];exact s b u e
theorem adh{K:Fg}{H H':Hp}{a:Addr}{xs:Lv}(e:aa H H')(h:aX K H a xs):aX K H' a xs:=by
 rcases h with(h | ⟨o,h⟩) | h
 . exact .inl (.inl (e _ _ h))
 . exact .inl (.inr ⟨o,e _ _ h⟩)
 exact .inr h
abbrev eD (x:Str):Prop:=PyData.strOk x=true
theorem tP{x:Str}:eD x↔∀c∈x.cps.toList,c<0x110000:=by
 unfold eD PyData.strOk;rw[Array.all_eq_true'];simp
theorem Bt{x y:Str}(G:eD x)(J:eD y):eD (x++y):=by
 rw[tP]at *;intro c j;have e:(x++y).cps.toList=x.cps.toList++y.cps.toList:=by
  show(x.cps++y.cps).toList=_;simp
 rw[e,bR]at j;exact j.elim (G c) (J c)
theorem ku(x y:Str):(x++y).length=x.length+y.length:=by
 show(x.cps++y.cps).size=_;rw[Array.size_append];rfl
theorem oZ(c:Nat):(⟨#[c]⟩:Str).length=1:=rfl
section
variable {X:Cx}
inductive OJ (lo:Option Int) (hi:Option Int) (H:Hp) (Q:VK):V->Prop where
 | mk {z:Str} (_:z.length<=sizeLine) (_:Q (.str (Txt.slice z lo hi)) H):OJ lo hi H Q (.str z)
def adi:V->Option Int->Option Int->Hp->VK->Prop:=λx lo hi H Q=>OJ lo hi H Q x
theorem Bu:tJ X adi:=by
 intro ad s Z H x v vl vu lo hi sl Q I rx hs pl O h;obtain @⟨z,hz,q⟩:=h;obtain⟨t,rfl⟩:=rx;refine⟨"str",_,PyProof.Rows.slot_str_getitem.lookup,AK _ _ _,?_⟩;obtain⟨o,ho,Y,hd⟩:=hs;have G:∀(l u:Option (Int×Tok)),vl=partValue l->vu=partValue u->lo=l.map (·.1)->hi=u.map (·.1)->wpAny (model X.prog X.w) X.A (getItem (.str z t) (.ref sl)) (EP X ad Z Q) X.xe s:=by
  intro l u e1 e2 e3 e4;subst e1 e2 e3 e4;refine wpAny_getItem_str_slice (l:=l) (u:=u) (st:=none) ⟨o,ho,Y,hd⟩ rfl ?_;exact post_val_or_str ⟨b8 (Txt.slice_le z _ _) hz,λt' k=>⟨.str (Txt.slice z (l.map (·.1)) (u.map (·.1))),H,I.tok _,⟨_,rfl⟩,q⟩⟩
 cases pl with
 | none=>
  cases O with
  | none=>exact G none none rfl rfl rfl rfl
  | int j J=>exact G none (some (j,J)) rfl rfl rfl rfl
 | int i U=>
  cases O with
  | none=>exact G (some (i,U)) none rfl rfl rfl rfl
  | int j J=>exact G (some (i,U)) (some (j,J)) rfl rfl rfl rfl
theorem adj:eS X (.builtin "isinstance") (λxs H Q=>∃x t c b,xs=[x,.ty c]/\kj X.K H x t/\W.kitOne X.K t (.type c)=some b/\Q (.bl b) H):=by
 intro ad s Z H xs us Q I r h;obtain⟨x,t,c,b,rfl,ty,e,q⟩:=h;obtain⟨u,J,rfl,j,G⟩:=vals2 r;cases (show J=Value.type c from G);exact aaS I j ty e λtk=>⟨.bl b,H,I.tok tk,rfl,q⟩
end
variable {X:Cx}{K:Fg}{s:Shared}{α:Type}{elt iter tg:Expr}{ifs:List Expr}{pos:Pos}{env:Env}{C:Addr}{bj:Ls}{js:List Nat}{sc:Scope}{g:TG}{tt:TT}{te:TE}{σ0:St}
mutual
inductive DV (K:Fg) (H:Hp):V->W.Dat->Prop
 | non:DV K H .non .none
 | int (i:Int):DV K H (.int i) (.int i)
 | str (x:Str):DV K H (.str x) (.str x)
 | tup {a:Addr}{xs:Lv}{ds:List W.Dat}:aX K H a xs->iD K H xs ds->DV K H (.ref a) (.tuple ds)
 | lst {a:Addr}{xs:Lv}{ds:List W.Dat}:ac K H a xs->iD K H xs ds->DV K H (.ref a) (.list ds)
inductive iD (K:Fg) (H:Hp):Lv->List W.Dat->Prop
 | nil:iD K H [] []
 | cons {x:V}{d:W.Dat}{xs:Lv}{ds:List W.Dat}:DV K H x d->iD K H xs ds->iD K H (x::xs) (d::ds)
end
theorem Bv{H:Hp}:∀ns:List Int,iD K H (ns.map V.int) (ns.map W.Dat.int)
 | []=>.nil
 | n::ns=>.cons (.int n) (Bv ns)
theorem OL{H:Hp}:∀xs:Ls,iD K H (xs.map V.str) (xs.map W.Dat.str)
 | []=>.nil
 | n::ns=>.cons (.str n) (OL ns)
section
variable {ad:Po}{Z:St}{H:Hp}
mutual
theorem DV.reads(I:Inv X ad Z H s):∀{x:V}{d:W.Dat}{u:Value},DV X.K H x d->RelV x u->∃as,Reads s.heap u (W.kqdP d) as
 | _,_,_,.non,r=>by cases r;exact⟨_,Reads.none⟩
 | _,_,_,.int i,r=>by obtain⟨t,rfl⟩:=r;exact⟨_,Reads.int i t⟩
 | _,_,_,.str x,r=>by obtain⟨t,rfl⟩:=r;exact⟨_,Reads.str x t⟩
 | _,_,_,.tup h q,r=>by
  cases r;obtain⟨b_,j,⟨o,e,c,n,d⟩,_⟩:=I.tuple h;obtain⟨as,z⟩:=iD.reads I q j;rw[W.kqdP];exact⟨as,reads_tuple_at e c d (by simpa using z)⟩
 | _,_,_,.lst h q,r=>by
  cases r;obtain⟨b_,j,⟨o,n,e,c,_,d⟩,_⟩:=I.list h;obtain⟨as,z⟩:=iD.reads I q j;rw[W.kqdP];exact⟨_,reads_list_at e c d (by simpa using z)⟩
theorem iD.reads(I:Inv X ad Z H s):∀{xs:Lv}{ds:List W.Dat}{us:Lw},iD X.K H xs ds->aW xs us->∃as,ReadsAll s.heap us (W.kqdPs ds) as
 | _,_,_,.nil,.nil=>⟨_,ReadsAll.nil⟩
 | _,_,_,.cons q qs,.cons r rs=>by
  obtain⟨as,z⟩:=DV.reads I q r;obtain⟨bs,y⟩:=iD.reads I qs rs;rw[W.kqdPs];exact⟨_,ReadsAll.cons z y⟩
end
end
theorem qT{d:W.Dat}(h:W.kqdOk 9 d=true):SeqAt.shaped (W.kqdP d)=true:=by
 have l:=W.kqd_lay 9 d h;unfold SeqAt.shaped;rw[l.1,xK];exact bN (b8 l.2 (by decide))
theorem vI(O:X.A.units+64<cLine):cK X (compareOp .Eq) (λx y H Q=>∃d e,DV X.K H x d/\DV X.K H y e/\W.kqdOk 9 d=true/\W.kqdOk 9 e=true/\∀b:Bool,(b=true↔d=e)->Q (.bl b) H):=by
 intro ad s Z H x y v u Q I rx ry h;obtain⟨d,e,hd,J,j,G,q⟩:=h;obtain⟨as,U⟩:=hd.reads I rx;obtain⟨bs,Y⟩:=J.reads I ry;exact eq_dataH U Y (qT j) (qT G) O ⟨.bl _,H,I,rfl,q _ (xL 9 d e 9 j G)⟩
theorem Bw(O:X.A.units+64<cLine):cK X (compareOp .NotEq) (λx y H Q=>∃d e,DV X.K H x d/\DV X.K H y e/\W.kqdOk 9 d=true/\W.kqdOk 9 e=true/\∀b:Bool,(b=true↔d=e)->Q (.bl (!b)) H):=by
 intro ad s Z H x y v u Q I rx ry h;obtain⟨d,e,hd,J,j,G,q⟩:=h;obtain⟨as,U⟩:=hd.reads I rx;obtain⟨bs,Y⟩:=J.reads I ry;exact ne_dataH U Y (qT j) (qT G) O ⟨.bl _,H,I,rfl,q _ (xL 9 d e 9 j G)⟩
section
variable {st:Stmt}{rest:List Stmt}{t u:TS}
def adk(M:St->Hp->Prop)(t u:TS):TS:=λD Z H=>t { D with nx:=M } Z H/\∀σ' H',M σ' H'->u D σ' H'
theorem Bx(M:St->Hp->Prop)(h1:PS X st t)(h2:cf X rest u):cf X (st::rest) (adk M t u):=by
 intro ad s Z H D I h;refine XI (thn (h1 ad s Z H { D with nx:=M } I h.1) λf G q=>?_);cases f with
 | next=>
  obtain⟨σ',H',j,q⟩:=q;exact h2 ad G σ' H' D j (h.2 σ' H' q)
 | ret v=>exact q
 | brk=>exact q
 | cont=>exact q
end
theorem lC{H:Hp}{p t:Addr}{o:HO}(h:upd H p o t=none):t≠p/\H t=none:=by
 by_cases e:t=p
 . subst e;rw[aB]at h;cases h
 exact⟨e,by rw[aQ e]at h;exact h⟩
theorem fit{a b:Str}(j:a.length<=100)(G:b.length<=100):a.length+b.length<=sizeLine:=ve (bY (by omega))
theorem jF{a:Str}(j:a.length<=100):a.length<=sizeLine:=ve (bY (by omega))
theorem FA{xs:List α}{r:Int}(h0:0<=r)(h1:r<xs.length):∃v,cQ xs r=some v/\xs[r.toNat]?=some v:=by
 obtain⟨n,rfl⟩:∃n:Nat,r=n:=⟨r.toNat,by omega⟩;have j:n<xs.length:=by omega
 have e:xs[n]?=some (xs[n]'j):=by simp
 exact⟨_,Fh e,by simpa using e⟩
theorem OM{ns:List Int}{r:Int}(h0:0<=r)(h1:r<ns.length):∃z,cQ (ns.map V.int) r=some (V.int z)/\ns[r.toNat]?=some z:=by
 obtain⟨v,e,e2⟩:=FA (xs:=ns.map V.int) h0 (by rw[aj];exact h1);rw[dN]at e2;cases q:ns[r.toNat]? with
 | none=>rw[q]at e2;cases e2
 | some z=>
  rw[q]at e2;cases e2;exact⟨z,e,rfl⟩
def bE(K:Fg)(mg:Mv)(x:Str)(st:Stmt):Prop:=∃f fd,mg x=some (.ref f)/\cq K x x st f fd/\W.keepIn K (.ref f)=true
theorem bF{h:Heap}{mg:Mv}{x:Str}{st:Stmt}{f:Addr}{O j:Oa}{U:Array (Option Value)}{J kV dc pm cd ct:Value}(X:K.In h)(G:h.Ns mainGlobals mg)
 (a:W.nsIn K mainGlobals x=some (some (.ref f))) (l:K.lookup f=some ⟨J,O,.func (W.fnOf x x (dq st) (cM st) (au st) .none kV dc pm j cd ct),U⟩) (c:W.codeIn K cd x=true) (k:W.keepIn K (.ref f)=true) :
 bE K mg x st:=⟨f,_,kZ X G a,gD l c k,k⟩
abbrev ON (ifs:List Expr) (env:Env):Sem Bool:=
 forIn ifs true λc r=>if r=true then do let ok <-isTrue c env (eval c env);pure (ForInStep.yield ok) else pure (ForInStep.yield r)
def fW(X:Cx)(ifs:List Expr)(t:TT):Prop:=
 ∀(ad:Po) (s:Shared) (Z:St) (H:Hp) (Q:Bool->Hp->Prop),Inv X ad Z H s->t Z H Q->wpAny (model X.prog X.w) X.A (ON ifs X.env) (TP X ad Z Q) X.xe s
def qU:TT:=λ_ H Q=>Q true H
theorem gQ:fW X [] qU:=λ_ _ _ H _ I h=>wpAny_tests_nil ⟨H,I,h⟩
theorem o9{c:Expr}{t:TT}(h:PT X c t):fW X [c] t:=λad s Z H Q I q=>wpAny_tests_one (h ad s Z H Q I q)
section
variable {prog:Program}{w:World}{A:Around}{R:Result->Shared->Prop}
theorem adl{j:Expr}{scope:Scope}{it G:Value}(I:Nat->Shared->Prop)
 (a0:∀n s,I n s->wpAny (model prog w) A (pyNext it) (λr J=>match r with
  | none=>R (.ok .next) J
  | some v=>wpAny (model prog w) A (letOwnedTupleGo j it v) (λ_ s₀=>wpAny (model prog w) A (assign j env v) (λ_ s₂=>
   wpAny (model prog w) A (ON ifs env) (λok O=>
    if ok=true then wpAny (model prog w) A (eval elt env) (λx s₄=>
     wpAny (model prog w) A (call (.builtin "list.append") [G,x]) (λ_ s₅=>∃m,m<n/\I m s₅) (notedBy (model prog w) A env λe s'=>R (.error e) s') s₄) (notedBy (model prog w) A env λe s'=>R (.error e) s') O
    else∃m,m<n/\I m O) (notedBy (model prog w) A env λe s'=>R (.error e) s') s₂) (notedBy (model prog w) A env λe s'=>R (.error e) s') s₀) (notedBy (model prog w) A env λe s'=>R (.error e) s') J) (notedBy (model prog w) A env λe s'=>R (.error e) s') s)
 (n:Nat) (h:I n s):codeAny (model prog w) A (.compLoop (.ListComp elt [⟨j,iter,ifs,0⟩] scope pos) 0 it G env) R s:=by
 refine codeAny_loop rfl I (λn s hI=>?_) n h;show wpAny _ A ((compTurn (.ListComp elt [⟨j,iter,ifs,0⟩] scope pos) 0 it G env).onRaise (λx=>do noteFrame x env;theTreesLotGoes x)) _ _ s;refine wpAny_noted ?_;rw[compTurn_list];refine ae (XN (ae (eP (a0 n s hI) (λr J U=>?_) λ_ _ h'=>h')));cases r with
 | none=>exact aq U
 | some v=>
  refine ae (eP U (λ_ s₀ h₀=>?_) λ_ _ h'=>h');refine ae (eP h₀ (λ_ s₂ h₂=>ae (eP h₂ (λok O Y=>?_) λ_ _ h'=>h')) λ_ _ h'=>h');cases ok with
  | false=>exact aq ⟨rfl,Y⟩
  | true=>
   exact ae (ae (eP Y (λx s₄ h₄=>ae (eP h₄ (λ_ s₅ h₅=>aq (aq ⟨rfl,h₅⟩)) λ_ _ h'=>h')) λ_ _ h'=>h'))
end
theorem adm{P:Program}{w:World}{H:Hp}{h1 h2:Heap}(ok:cr P w H h1)(G:Heap.SameBut C h1 h2)(j:H C=none):cr P w H h2:=λb ob e=>by
 refine(ok b ob e).stay (λc J hc q=>(G.2 c ?_).trans q) (λ_ q=>q) λ_ _ q=>q;rintro rfl
 rcases hc with rfl | hc
 . rw[j]at e;cases e
 rw[j]at hc;cases hc
def lE(J:It)(g:TG)(tt:TT)(te:TE)(D:Addr)(O:Hp->Prop)(W:Nat->Nat->St->Hp->Prop):Prop:=
 ∀i m Z H,W i m Z H->(J.stop i H/\O H)\/(J.go i H/\∀x H2,J.yld i H x H2->g x Z H2 λσ3 H3=>tt σ3 H3 λok j=>
  if ok=true then te σ3 j λy G=>∃ys,G D=some (.lst ys)/\ys.length<sizeLine/\∃m',m'<m/\W (i+1) m' σ3 (upd G D (.lst (ys++[y])))
  else∃m',m'<m/\W (i+1) m' σ3 j)
def iE(env:Env):List (Str×NameKind)->List (Str×Addr)->List (Str×Addr)
 | [],cs=>cs
 | (n,k)::r,cs=>if k=.free then iE env r ((n,(env.cells.lookup n).getD 0)::cs) else iE env r cs
theorem adn{scope:Scope}(h:∀y∈scope.names,y.2=.free->∃c,env.cells.lookup y.1=some c):closureFor scope env=pure (iE env scope.names []):=by
 unfold closureFor;generalize scope.names=l at h;have U:∀(l:List (Str×NameKind)) (cs:List (Str×Addr)),(∀y∈l,y.2=.free->∃c,env.cells.lookup y.1=some c) ->
  (forIn l cs fun(x:Str×NameKind) (r:List (Str×Addr))=>(if (x.2 == .free)=true then do let y <-cellOf env x.1;pure (ForInStep.yield ((x.1,y)::r)) else pure (ForInStep.yield r):Sem (ForInStep (List (Str×Addr)))))=pure (iE env l cs):=by
  intro l
  induction l with
  | nil=>intro cs _;rfl
  | cons x l J=>
   intro cs h;obtain⟨n,k⟩:=x;rw[List.forIn_cons]
   by_cases e:k=.free
   . subst e;obtain⟨c,j⟩:=h _ bL rfl;have j:env.cells.lookup n=some c:=j;have e1:cellOf env n=pure c:=by unfold cellOf;rw[j]
     simp only[e1,iE,j,vc,Mm,beq_self_eq_true,pure_bind];exact J _ λy G=>h y (bT _ G)
   have O:(k == NameKind.free)=false:=by simpa using e
   simp only[O,iE,e,mT,qp,pure_bind];exact J _ λy G=>h y (bT _ G)
 have:=U l [] h;simpa using this
theorem FC:∀{l:List (Str×NameKind)}{cs:List (Str×Addr)}{x:Str}{c:Addr},(∀y∈l,y.2=.free->∃c,env.cells.lookup y.1=some c)->(∀x c,cs.lookup x=some c->env.cells.lookup x=some c) ->
 (iE env l cs).lookup x=some c->env.cells.lookup x=some c
 | [],_,_,_,_,hc,e=>hc _ _ e
 | (n,k)::l,cs,x,c,h,hc,e=>by
  unfold iE at e;have h':∀y∈l,y.2=.free->∃c,env.cells.lookup y.1=some c:=λy G=>h y (bT _ G);split at e
  . refine FC h' (λz d hz=>?_) e;rename_i j;rw[XY]at hz;split at hz
    . rename_i q;obtain⟨d',hd⟩:=h (n,k) bL j;have hd:env.cells.lookup n=some d':=hd;have:z=n:=by simpa using q
      subst this;rw[hd]at hz ⊢;exact hz
    exact hc _ _ hz
  exact FC h' hc e
theorem FD:∀{l:List (Str×NameKind)}{cs:List (Str×Addr)}{x:Str},(cs.lookup x).isSome=true->((iE env l cs).lookup x).isSome=true
 | [],_,_,h=>h
 | (n,k)::l,cs,x,h=>by
  unfold iE;split
  . refine FD ?_;rw[XY];split
    . rfl
    exact h
  exact FD h
theorem FE{x:Str}:∀{l:List (Str×NameKind)}{cs:List (Str×Addr)},(x,NameKind.free)∈l->((iE env l cs).lookup x).isSome=true
 | (n,k)::l,cs,h=>by
  unfold iE
  rcases aZ.mp h with e | e
  . cases e;rw[ai rfl];refine FD ?_;rw[XY];simp
  split
  . exact FE e
  exact FE e
def dU(X:Cx)(N:Ls)(sc:Scope)(s₀:Shared)(H₀:Hp)(C:Addr)(ex:List Addr):Cx where
 prog:=X.prog
 w:=X.w
 K:=X.K
 mg:=X.mg
 base:=X.base
 A:=X.A
 N:=N
 s₀:=s₀
 H₀:=H₀
 env:=compEnvC sc (iE X.env sc.names []) C X.env
 outer:=X.stack
 stack:=X.stack
 ex:=ex
 fn:=λ_=>false
 calm:=X.calm
 pn:=[]
 xe:=λ_ _=>False
structure lF(X:Cx)(own bj:Ls)(js:List Nat)(sc:Scope):Prop where
 kind:sc.kind=.function
 nocell:∀y∈sc.names,y.2≠.cell
 names:∀y∈sc.names,y.2=.local->sc.names.lookup y.1=some .local
 nd:(own++bj).Nodup
 frees:∀y∈sc.names,y.2=.free->y.1∈bj
 slots:js.map (λj=>X.N[j]?)=bj.map some
 outer':bj.map X.env.kindOf=bj.map λ_=>some NameKind.cell
 capk':bj.map (λx=>(relabel sc X.env).names.lookup x)=bj.map λ_=>some NameKind.cell
theorem FF{β:Type}{f:α->β}{c:β}:∀{l:List α},l.map f=l.map (λ_=>c)->∀x∈l,f x=c
 | [],_,_,h=>nomatch h
 | y::l,e,x,h=>by
  rw[bV,bV]at e;injection e with e1 e2
  rcases aZ.mp h with q | q
  . rw[q];exact e1
  exact FF e2 x q
theorem lF.outer{own:Ls}(S:lF X own bj js sc):∀x∈bj,X.env.kindOf x=some .cell:=FF S.outer'
theorem lF.capk{own:Ls}(S:lF X own bj js sc):∀x∈bj,(relabel sc X.env).names.lookup x≠some .local:=λx j h=>by
 rw[FF S.capk' x j]at h;cases h
def compStart(n:Nat)(js:List Nat)(Z:St):St:=List.replicate n none++js.map λj=>(Z[j]?).join
def FG(j:TI)(n:Nat)(js:List Nat)(g:TG)(tt:TT)(te:TE):TE:=λZ H Q=>j Z H λJ H1=>∀D,H1 D=none ->
 ∃W:Nat->Nat->St->Hp->Prop,(∃m,W 0 m (compStart n js Z) (upd H1 D (.lst [])))/\lE J g tt te D (λH'=>Q (.ref D) H') W
section
variable {ad:Po}{Z:St}{H3:Hp}{s3:Shared}
theorem OO{x:Str}{k:NameKind}(h:(relabel sc env).names.lookup x=some k):k=.local\/k=.globalImplicit\/(x,k)∈sc.names\/(x,NameKind.free)∈sc.names:=by
 have j:=AJ h;unfold relabel at j;obtain⟨⟨n,k'⟩,G,e⟩:=cC.mp j;dsimp only at e;split at e
 . rename_i c;cases e;simp only[iP,jZ]at c;obtain⟨⟨c,_⟩,_⟩:=c;subst c;exact .inr (.inr (.inr G))
 cases e;exact .inr (.inr (.inl G))
theorem ado{own:Ls}{it D:Addr}{fp:List Addr}{tn:Nat->Heap->Prop}{J:It}{h4:Heap}{tk:Nat}{m:Mv}
 {W:Nat->Nat->St->Hp->Prop}{Qd:Hp->Prop}{m0:Nat} (S:lF X own bj js sc) (hc:X.calm=true) (G:Inv X ad Z H3 s3) (T:oJ X.prog X.w X.K tg J fp it tn) (tE:tn 0 s3.heap) (f3:∀b∈fp,fz X ad H3 b)
 (eC:C=s3.heap.objs.size) (lG:h4.Ns C m) (hk:∀b o,s3.heap.get? b=some o->h4.get? b=some o)
 (hg:PG (dU X (own++bj) sc s3 H3 C fp) tg g) (ht:fW (dU X (own++bj) sc s3 H3 C fp) ifs tt) (he:PE (dU X (own++bj) sc s3 H3 C fp) elt te)
 (w0:W 0 m0 (compStart own.length js Z) H3) (ask:lE J g tt te D Qd W) :
 codeAny (model X.prog X.w) X.A (.compStart (.ListComp elt [⟨tg,iter,ifs,0⟩] sc pos) 0 (.ref it) (.ref D) (compEnvC sc (iE X.env sc.names []) C X.env))
  (λr s'=>r=.ok .next/\∃m' H',s'.heap.Ns C m'/\s'.os=s3.os/\AllBare s'.gens/\Un (cJ X.stack) fp H3 H' s3.heap s'.heap/\cr X.prog X.w H' s'.heap/\H' C=none/\Qd H') { s3 with heap:=h4,toks:=tk }:=by
 have b1:∀y∈sc.names,y.2=.free->∃c,X.env.cells.lookup y.1=some c:=λy hy e=>G.ok.has _ (.inl (S.outer _ (S.frees y hy e)));have U:∀(x:Str) (c:Addr),(dU X (own++bj) sc s3 H3 C fp).env.cells.lookup x=some c->X.env.cells.lookup x=some c:=λx c e=>
  FC b1 (λx c h=>by cases (show([]:List (Str×Addr)).lookup x=some c from h)) e
 have bl:∀(x:Str) (c:Addr),X.env.cells.lookup x=some c->c<s3.heap.objs.size:=λx c e=>by
  obtain⟨v,q⟩:=G.cell x c e;exact q.lt
 have By:∀b∈fp,b<s3.heap.objs.size:=λb O=>by
  obtain⟨o,e,_⟩:=T.obj 0 _ tE b O;exact bH e
 have tQ:(dU X (own++bj) sc s3 H3 C fp).Ok:=by
  refine⟨G.ok.mod,S.kind,G.ok.glob,G.ok.blt,xG eC.symm,λx y c e1 e2=>G.ok.inj x y c (U x c e1) (U y c e2),λx hx=>?_,(λx c z _=>nomatch (show false=true from z)),G.ok.hd,G.ok.frames,.inl rfl,λb O=>?_,
   G.bs,b8 G.ok.bsz G.sz,λb o e O=>?_,λb O hs=>?_,G.stack,G.stkFree⟩
  . have jo:(relabel sc X.env).names.lookup x=some .cell\/(relabel sc X.env).names.lookup x=some .free:=hx;have hm:(x,NameKind.free)∈sc.names:=by
     rcases jo with z | z
     . rcases OO z with q | q | q | q
       . cases q
       . cases q
       . exact absurd rfl (S.nocell _ q)
       exact q
     rcases OO z with q | q | q | q
     . cases q
     . cases q
     . exact q
     exact q
    exact El.mp (FE hm)
  . refine⟨?_,λx c e=>(f3 b O).2.2.2.2.1 x c (U x c e)⟩;show b≠C;rw[eC];exact cX (By b O)
  . rcases(f3 b O).2.2.2.1 with z | z
    . exact G.ok.noex b o e z
    have h1:b<X.base.objs.size:=bH e;exact absurd (gz h1 (b8 G.ok.bsz z)) (oA _)
  obtain⟨_,f1,f2,_⟩:=f3 b O
  rcases aZ.mp (G.stkSub b hs) with z | z
  . exact f1 z
  exact f2 z
 have bd:H3 C=none:=by rw[eC];exact G.hok.fresh (aG _)
 have sl:js.length=bj.length:=by have:=eZ List.length S.slots;simpa using this
 have I4:Inv (dU X (own++bj) sc s3 H3 C fp) [] (compStart own.length js Z) H3 { s3 with heap:=h4,toks:=tk }:=by
  refine⟨tQ,rfl,G.bare,Un.kept hk,⟨m,lG,λi x v e1 e2 hv=>?_⟩,λx c e=>?_,bd,λx c e=>G.freeC x c (U x c e),λp hp=>?_,G.hok.kept hk,?_⟩
  . have e1:(own++bj)[i]?=some x:=e1;unfold compStart at e2
    by_cases hi:i<own.length
    . rw[XQ (by simpa using hi),av9,ai hi]at e2;cases e2
    rw[Em (by omega)]at e1;rw[Em (by simpa using hi),XR,dN]at e2;obtain⟨j,hj⟩:∃j,js[i - own.length]?=some j:=by
     cases q:js[i - own.length]? with
     | none=>rw[q]at e2;cases e2
     | some j=>exact⟨j,rfl⟩
    rw[hj]at e2;have e2:(Z[j]?).join=some v:=gM e2;have e3:Z[j]?=some (some v):=by
     cases q:Z[j]? with
     | none=>rw[q]at e2;cases e2
     | some z=>rw[q]at e2;rw[show z=some v from e2]
    have hs:=eZ (λl=>l[i - own.length]?) S.slots;simp only[dN,hj,e1,sU]at hs;have hN:X.N[j]?=some x:=gM hs;have hx:x∈bj:=dM e1;obtain⟨m2,yj,vE⟩:=G.loc;obtain⟨u,ru,lk⟩:=vE j x v hN e3 (.inr (.inl (S.outer x hx)));refine⟨u,ru,?_⟩
    rcases lk with⟨k1,_⟩ | ⟨_,c,a0,mB⟩
    . rw[S.outer x hx]at k1;cases k1
    have hv:A6 (relabel sc X.env) x:=hv;have kd:(dU X (own++bj) sc s3 H3 C fp).env.kindOf x=some .cell\/(dU X (own++bj) sc s3 H3 C fp).env.kindOf x=some .free\/(dU X (own++bj) sc s3 H3 C fp).env.kindOf x=some .local:=by
     rcases hv with z | z | z
     . exact .inr (.inr z)
     . exact .inl z
     exact .inr (.inl z)
    rcases kd with kd | kd | kd
    . obtain⟨c',ia⟩:=tQ.has x (.inl kd);have:=U x c' ia;rw[a0]at this;cases this;exact .inr ⟨.inl kd,c,ia,mB.keeps hk⟩
    . obtain⟨c',ia⟩:=tQ.has x (.inr kd);have:=U x c' ia;rw[a0]at this;cases this;exact .inr ⟨.inr kd,c,ia,mB.keeps hk⟩
    have kd:(relabel sc X.env).names.lookup x=some .local:=kd;exact absurd kd (S.capk x hx)
  . obtain⟨v,q⟩:=G.cell x c (U x c e);exact⟨v,q.keeps hk⟩
  . have bW:p∈([]:Po):=hp;cases bW
  show(compStart own.length js Z).length=(own++bj).length;unfold compStart;rw[bI,XR,aj,bI,sl]
 have FH:∀{H':Hp},(∀b∈fp,H' b=none)->∀b∈fp,fz (dU X (own++bj) sc s3 H3 C fp) [] H' b:=λ{H'} hn b O=>by
  refine⟨hn b O,?_,λhs=>tQ.exfs b O hs,.inl O,λx c e=>(f3 b O).2.2.2.2.1 x c (U x c e),λp hp=>?_⟩
  . show b≠C;rw[eC];exact cX (By b O)
  have bW:p∈([]:Po):=hp;cases bW
 have OP:tn 0 h4:=T.keep 0 _ _ tE λb _ o e=>hk b o e;have a1:codeAny (model X.prog X.w) X.A (.compLoop (.ListComp elt [⟨tg,iter,ifs,0⟩] sc pos) 0 (.ref it) (.ref D) (compEnvC sc (iE X.env sc.names []) C X.env))
  (λr s'=>r=.ok .next/\∃m' H',s'.heap.Ns C m'/\s'.os=s3.os/\AllBare s'.gens/\Un (cJ X.stack) fp H3 H' s3.heap s'.heap/\cr X.prog X.w H' s'.heap/\H' C=none/\Qd H') { s3 with heap:=h4,toks:=tk }:=by
  refine adl (λn s'=>∃i σ' H',Inv (dU X (own++bj) sc s3 H3 C fp) [] σ' H' s'/\tn i s'.heap/\(∀b∈fp,H' b=none)/\W i n σ' H') ?_ m0 ⟨0,_,H3,I4,OP,λb O=>(f3 b O).1,w0⟩;rintro n s' ⟨i,σ',H',J',fN,OQ,w'⟩
  rcases ask i n σ' H' w' with⟨stop,qd⟩ | ⟨go,step⟩
  . refine thn (T.done (dU X (own++bj) sc s3 H3 C fp) rfl rfl rfl hc i [] s' σ' H' _ J' (FH OQ) fN stop) λr s1 b2=>b2.elim λhr J1=>?_;subst hr;obtain⟨m1,bh,_⟩:=J1.loc;exact⟨rfl,m1,H',bh,J1.os,J1.bare,J1.base,J1.hok,J1.free,qd⟩
  refine thn (T.item (dU X (own++bj) sc s3 H3 C fp) rfl rfl rfl hc i [] s' σ' H' _ J' (FH OQ) fN go) λr s1 b3=>b3.elim λu b4=>b4.elim λhr h1=>?_;subst hr;refine thn h1 λ_ s2 b5=>b5.elim λx b6=>b6.elim λH5 b7=>b7.elim λJ5 ba=>ba.elim λr5 bb=>bb.elim λy5 a3=>a3.elim λtF ER=>?_;have a2:=J5.pinned (FH ER) (T.obj _ _ tF);refine eP (hg _ s2 σ' H5 x u _ a2 r5 (step x H5 y5)) (λ_ s6 a4=>a4.elim λσ6 a5=>a5.elim λH6 a6=>a6.elim λJ6 q6=>?_) (λ_ _ z=>z.elim);refine eP (ht _ s6 σ6 H6 _ J6 q6) (λok s7 a7=>a7.elim λH7 a8=>a8.elim λJ7 q7=>?_) (λ_ _ z=>z.elim);have again:∀{s9:Shared}{Y:Hp}{m':Nat},Inv (dU X (own++bj) sc s3 H3 C fp) ([]++tD fp s2.heap) σ6 Y s9->m'<n->W (i+1) m' σ6 Y ->
   ∃m,m<n/\∃i σ' H',Inv (dU X (own++bj) sc s3 H3 C fp) [] σ' H' s9/\tn i s9.heap/\(∀b∈fp,H' b=none)/\W i m σ' H':=λ{s9 Y m'} J9 hm w9=>by
   refine⟨m',hm,i+1,σ6,Y,J9.unpinned,T.keep _ _ _ tF λb O o e=>(J9.pin (b,o) (eX _ (eX _ (qO O e)))).1,λb O=>?_,w9⟩;obtain⟨o,e,d⟩:=T.obj _ _ tF b O;exact(J9.pin (b,o) (eX _ (eX _ (qO O e)))).2.1
  cases ok with
  | false=>
   rw[ag cW]at q7 ⊢;obtain⟨m',hm,w7⟩:=q7;exact again J7 hm w7
  | true=>
   rw[ai rfl]at q7 ⊢;refine eP (he _ s7 σ6 H7 _ J7 q7) (λy s8 a9=>a9.elim λyv ab=>ab.elim λH8 af=>af.elim λJ8 an=>an.elim λr8 ap=>ap.elim λys ar=>ar.elim λtR ax=>ax.elim λhz az=>az.elim λm' a'=>a'.elim λhm w8=>?_) (λ_ _ z=>z.elim);refine eP (oU (X:=dU X (own++bj) sc s3 H3 C fp) _ s8 σ6 H8 (.ref D) [yv] (.ref D) [y] (λv Y=>Y=upd H8 D (.lst (ys++[yv]))) J8 rfl (.cons r8 .nil) ⟨tR,hz,rfl⟩) (λ_ s9 aC=>aC.elim λ_ aO=>aO.elim λY aR=>aR.elim λJ9 b0=>b0.elim λ_ eH=>?_) (λ_ _ z=>z.elim);subst eH;exact again J9 hm w8
 exact codeAny_compStart_list a1 (T.self X.A 0 _ _ _ OP a1)
theorem OR{own:Ls}{it:Addr}{fp:List Addr}{tn:Nat->Heap->Prop}{J:It}{H2:Hp}{j:Shared}{use:Option (Value->Sem Unit)}{Qr:VP}{U:VP}
 {Q:V->Hp->Prop} (S:lF X own bj js sc) (hc:X.calm=true) (Y:Inv X ad Z H2 j) (T:oJ X.prog X.w X.K tg J fp it tn) (gi:tn 0 j.heap) (O:∀b∈fp,fz X ad H2 b)
 (hg:∀s₀ H₀ C ex,PG (dU X (own++bj) sc s₀ H₀ C ex) tg g) (ht:∀s₀ H₀ C ex,fW (dU X (own++bj) sc s₀ H₀ C ex) ifs tt) (he:∀s₀ H₀ C ex,PE (dU X (own++bj) sc s₀ H₀ C ex) elt te)
 (q2:∀D,H2 D=none->∃W:Nat->Nat->St->Hp->Prop,(∃m,W 0 m (compStart own.length js Z) (upd H2 D (.lst [])))/\lE J g tt te D (λH'=>Q (.ref D) H') W)
 (a2:∀(D C:Addr) (H':Hp) (s':Shared) (m':Mv),j.heap.objs.size<C->s'.heap.Ns C m'->Inv X ad Z H' s'->H' C=none->Q (.ref D) H'->compPost (model X.prog X.w) X.A U use Qr (.ref D) C (.ok .next) s') :
 wpAny (model X.prog X.w) X.A (newList []) (λa0 s₃=>wpAny (model X.prog X.w) X.A (newFunctionEnv sc X.env.globals (iE X.env sc.names []) [] X.env.qual none .none (some X.env)) (λOS s₄=>
  codeAny (model X.prog X.w) X.A (.compStart (.ListComp elt [⟨tg,iter,ifs,0⟩] sc pos) 0 (.ref it) a0 { OS with scope:=relabel sc X.env }) (compPost (model X.prog X.w) X.A U use Qr a0 OS.locals) s₄) U s₃) U j:=by
 have OT:H2 j.heap.objs.size=none:=Y.fresh;obtain⟨W,⟨m0,w0⟩,ask⟩:=q2 _ OT;have I3:=Y.lnew (ys:=[]) (b_:=[]) (t':=j.toks) .nil (dC _);have By:∀b∈fp,b<j.heap.objs.size:=λb G=>by
  obtain⟨o,e,_⟩:=T.obj 0 _ gi b G;exact bH e
 have f3:∀b∈fp,fz X ad (upd H2 j.heap.objs.size (.lst [])) b:=λb G=>by
  refine⟨?_,(O b G).2⟩;rw[aQ (cX (By b G))];exact(O b G).1
 refine AQ (hd:=by size_fits) (wpAny_newFunctionEnv S.nocell (by intro y hy;simp at hy) (λh4 lG OU=>?_) S.kind);dsimp only at lG OU ⊢;have a3:∀b o,(j.heap.push { cls:=.type "list",dict:=none,data:=.seq ([]:Lw).toArray }).get? b=some o->h4.get? b=some o:=λb o e=>
  OU.extBut b o (cX (bH e)) (b9 _ e)
 have tE:tn 0 (j.heap.push { cls:=.type "list",dict:=none,data:=.seq ([]:Lw).toArray }):=T.keep 0 _ _ gi λb _ o e=>b9 _ e;refine qt (ado (s3:={ j with heap:=j.heap.push { cls:=.type "list",dict:=none,data:=.seq ([]:Lw).toArray } }) (tk:=j.toks+([]:List (Str×Value)).length) S hc I3 T tE f3 rfl lG a3 (hg _ _ _ _) (ht _ _ _ _) (he _ _ _ _) w0 ask) λr s' hr=>?_;obtain⟨er,m',H',jp,Bi,a1,a4,tS,yx,qd⟩:=hr;subst er;have a5:Un (cJ X.stack) fp H2 (upd H2 j.heap.objs.size (.lst [])) j.heap (j.heap.push { cls:=.type "list",dict:=none,data:=.seq ([]:Lw).toArray }):=Un.laid (λb o e=>b9 _ e) (aG _) OT;refine a2 _ _ H' s' m' ?_ jp (Y.call' (s':=s') (ch:=fp) Bi (a5.trans a4) tS a1 (λb G=>⟨(O b G).2.2.2.1,(O b G).2.1,(O b G).2.2.2.2.1,(O b G).2.2.2.2.2⟩)) yx qd;show j.heap.objs.size<(j.heap.push { cls:=.type "list",dict:=none,data:=.seq ([]:Lw).toArray }).objs.size;rw[sM];exact xH _
theorem Inv.letGo{H:Hp}{h':Heap}(I:Inv X ad Z H s)(G:Heap.SameBut C s.heap h')(O:H C=none)(h0:X.s₀.heap.objs.size<=C)(h1:C≠X.env.locals)(h2:∀x c,X.env.cells.lookup x=some c->c≠C)(J:∀p∈X.pn++ad,p.1≠C) :
 Inv X ad Z H { s with heap:=h' }:=by
 refine I.call' (s':={ s with heap:=h' }) (ch:=[C]) rfl ⟨λb o e _ _ j=>?_,λb o e _ _ j=>⟨o.slots,?_⟩,λ_ _ _ n _=>n,λb o e j=>⟨o,?_⟩,λ_ _ q=>q,λ_ _ _ q=>q,λ_ ps q=>⟨#[],by rw[q];simp⟩⟩ (adm I.hok G O) I.bare (λb j=>?_)
 . exact(G.2 b (by simpa using j)).trans e
 . exact(G.2 b (by simpa using j)).trans e
 . exact(G.2 b (by simpa using j)).trans e
 have:b=C:=by simpa using j
 subst this;exact⟨.inr h0,h1,h2,J⟩
theorem Inv.goes{H2 H:Hp}{J:Shared}{σ':St}{h':Heap}(j:Inv X ad σ' H2 J)(G:J.heap.objs.size<C)(I:Inv X ad Z H s)(Y:Heap.SameBut C s.heap h')(O:H C=none):Inv X ad Z H { s with heap:=h' }:=by
 refine I.letGo Y O (ve (XX j.sz G)) (kU (vh j.lt G)) (λx c e z=>?_) (λp U z=>?_)
 . obtain⟨v,q⟩:=j.cell x c e;exact absurd (vh q.lt G) (by rw[z];exact oA _)
 exact absurd (vh (bH (j.pin p U).1) G) (by rw[z];exact oA _)
theorem lF.clos{own:Ls}(S:lF X own bj js sc)(ok:X.Ok):closureFor sc X.env=pure (iE X.env sc.names []):=
 adn λy j e=>ok.has _ (.inl (S.outer _ (S.frees y j e)))
theorem gE(own bj:Ls)(js:List Nat){G:TI}(S:lF X own bj js sc)(hc:X.calm=true)(hi:PI X tg iter G)
 (hg:∀s₀ H₀ C ex,PG (dU X (own++bj) sc s₀ H₀ C ex) tg g) (ht:∀s₀ H₀ C ex,fW (dU X (own++bj) sc s₀ H₀ C ex) ifs tt) (he:∀s₀ H₀ C ex,PE (dU X (own++bj) sc s₀ H₀ C ex) elt te)
 (hs:∀x,foldedSetIterable iter X.env x=pure x:=by intro _;rfl):PE X (.ListComp elt [⟨tg,iter,ifs,0⟩] sc pos) (FG G own.length js g tt te):=by
 intro ad s Z H Q I h;rw[eval_ListComp];refine awj (use:=none) rfl hs (S.clos I.ok) S.kind S.names (thn (hi ad s Z H _ I h) λv s1 h1=>thn h1 λBc s2 h2=>?_);obtain⟨it,fp,tn,J,H2,e,j,T,Y,U,q2⟩:=h2;subst e;refine OR (Q:=Q) S hc j T Y U hg ht he q2 λD C H' s' m' hC jp O yx qd=>?_;exact⟨m',jp,λh' sb=>⟨.ref D,H',j.goes hC O sb yx,rfl,qd⟩⟩
theorem qW{i:Nat}{x:Str}{px ps:Pos}(own bj:Ls)(js:List Nat){Y:TI}(hN:X.N.Nodup)(hx:X.N[i]?=some x)(U:X.env.scope.names.lookup x=some .local)(S:lF X own bj js sc)(hc:X.calm=true)
 (hi:PI X tg iter Y) (hg:∀s₀ H₀ C ex,PG (dU X (own++bj) sc s₀ H₀ C ex) tg g) (ht:∀s₀ H₀ C ex,fW (dU X (own++bj) sc s₀ H₀ C ex) ifs tt) (he:∀s₀ H₀ C ex,PE (dU X (own++bj) sc s₀ H₀ C ex) elt te)
 (a3:swapsWith (.ListComp elt [⟨tg,iter,ifs,0⟩] sc pos) (some (.Name x px)) ps.line X.env=pure true:=by rfl)
 (hs:∀x,foldedSetIterable iter X.env x=pure x:=by intro _;rfl):PS X (.Assign [.Name x px] (.ListComp elt [⟨tg,iter,ifs,0⟩] sc pos) ps) (Nb (FG Y own.length js g tt te) (ki i)):=by
 intro ad s Z H D I h;rw[exec_Assign_Name_used _ _ _ _ a3];refine ae (XN (ae ?_));show wpAny _ X.A (do let _ <-comprehension (.ListComp elt [⟨tg,iter,ifs,0⟩] sc pos) sc X.env _ (newList []) false (eval iter X.env) (some (assign (.Name x px) X.env))) _ _ s;refine ae (eP (awj (use:=some (assign (.Name x px) X.env)) (Q:=λ_ s'=>∃σ' H',Inv X ad σ' H' s'/\D.nx σ' H') rfl hs (S.clos I.ok) S.kind S.names
  (thn (hi ad s Z H _ I h) λv s1 h1=>thn h1 λBc s2 h2=>?_)) (λ_ s' hq=>aq (aq hq)) λ_ _ e=>e)
 obtain⟨it,fp,tn,J,H2,e,j,T,gi,f2,q2⟩:=h2;subst e;refine OR (Q:=λv H1=>ki i v Z H1 D.nx) S hc j T gi f2 hg ht he q2 λO C H' s' m' G jp I' yx qd=>?_;show wpAny _ X.A (assign (.Name x px) X.env (.ref O)) _ _ s';refine wpAny_assign_Name (MU (v:=.ref O) I' hN hx (.inl U) rfl (λBj a0 a1=>a1.elim λa a2=>a2.elim λsb ha=>?_) (.inr U));have ne:C≠a:=by
  rcases ha with z | z
  . rw[z];exact kU (vh j.lt G)
  obtain⟨v,q⟩:=j.cell x a z;exact kU (vh q.lt G)
 exact⟨m',jp.sameBut sb ne,λh' a4=>⟨_,H',j.goes G a0 a4 yx,qd⟩⟩
end
section
variable {e k:Expr}{tk:TE}{p2:Pos}
def ad3(K:Fg)(te tk:TE):TE:=λZ H Q=>te Z H λx H1=>tk Z H1 λz H2=>z=.int (-1)/\∃a xs,x=.ref a/\ac K H2 a xs/\∀p,H2 p=none->Q (.ref p) (upd H2 p (.lst xs.reverse))
theorem Paired.rev{β:Type}{R:α->β->Prop}:∀{xs:List α}{ys:List β},Paired R xs ys->∀{G:List α}{j:List β},Paired R G j->Paired R (xs.reverseAux G) (ys.reverseAux j)
 | _,_,.nil,_,_,h=>h
 | _,_,.cons r rs,_,_,h=>Paired.rev rs (.cons r h)
theorem ad4(he:PE X e te)(hk:PE X k tk):PE X (.Subscript e (.Slice none none (some k) p2) pos) (ad3 X.K te tk):=by
 intro ad s Z H Q I h;refine Mj (thn (he ad s Z H _ I h) λv s1 U=>aP U λx H1 J r1 q1=>?_);refine wpAny_Slice ?_;rw[XS];refine aq (aq ?_);rw[evalPart_some];refine thn (hk ad s1 Z H1 _ J q1) λu s3 Y=>aP Y λz H3 O r3 q3=>?_;obtain⟨ez,a,xs,ex,hx,q⟩:=q3;subst ez ex;obtain⟨t,rfl⟩:=r3;cases r1;have j:Inv X ad Z H3 { s3 with heap:=s3.heap.push { cls:=.type "slice",data:=.fields #[.none,.none,.int (-1) t] } }:=O.kept (t':=s3.toks) λb ob q=>b9 _ q;obtain⟨b_,r,G,hz⟩:=j.list hx;have a0:=r.length;show wpAny (model X.prog X.w) X.A (subscriptTail e (.Slice none none (some k) p2) (.ref a) (.ref s3.heap.objs.size)) (EP X ad Z Q) X.xe { s3 with heap:=s3.heap.push { cls:=.type "slice",data:=.fields #[.none,.none,.int (-1) t] } };refine tail_any (ops:=[.ref a,.ref s3.heap.objs.size]) (T:="list") G.isList.typeIs XT.lookup ?_ (by with_unfolding_all rfl);refine awc G.isList (Heap.IsSliceOf.new ..) .none .none (.int (-1) t) (by decide) ?_ (by rw[gc];omega);rw[W.krv_pick];refine⟨.ref _,_,j.laid (t':=s3.toks) (o:=.lst xs.reverse) (λb ob q=>b9 _ q) (aG _) ?_,rfl,q _ (j.hok.fresh (aG _))⟩;exact⟨by rw[XZ];exact hz,_,0,Paired.rev r .nil,dL _ rfl⟩
end
abbrev d5 (H:Hp) (o:HO) (Q:V->Hp->Prop):Prop:=∀p H',H p=none->aa H H'->H' p=some o->Q (.ref p) H'
theorem d5.at{H:Hp}{o:HO}{Q:V->Hp->Prop}(h:d5 H o Q):∀p,H p=none->Q (.ref p) (upd H p o):=λp j=>h p _ j (fD j) aB
theorem cK.weak{f:Value->Value->Sem Value}{r j:R2}(h:cK X f r)(w:∀x y H Q,j x y H Q->r x y H Q):cK X f j:=λad s Z H x y v u Q I G J q=>h ad s Z H x y v u Q I G J (w _ _ _ _ q)
theorem eS.weak{f:Value}{r j:Lv->Hp->VK->Prop}(h:eS X f r)(w:∀xs H Q,j xs H Q->r xs H Q):eS X f j:=λad s Z H xs us Q I G q=>h ad s Z H xs us Q I G (w _ _ _ q)
theorem tJ.weak{r j:V->Option Int->Option Int->Hp->VK->Prop}(h:tJ X r)(w:∀x l u H Q,j x l u H Q->r x l u H Q):tJ X j:=λad s Z H x v U Y lo hi O Q I J hs pl G q=>h ad s Z H x v U Y lo hi O Q I J hs pl G (w _ _ _ _ _ q)
section
variable {e k:Expr}{es:List Expr}{tk:TE}{t:TA}{p2:Pos}
inductive OV (H:Hp) (Q:VK):V->V->Prop where
 | mk {l:Addr}{b:Addr}{xs:Lv}{zs:Lv} (_:H l=some (.lst xs)) (_:H b=some (.lst zs)) (_:xs.length+zs.length<=sizeLine) (_:d5 H (.lst (xs++zs)) Q):OV H Q (.ref l) (.ref b)
def ad7:R2:=λx y H Q=>OV H Q x y
theorem vJ:cK X (binaryOp .Add) ad7:=abP.weak λx y H Q h=>by obtain @⟨l,b,xs,zs,j,G,J,O⟩:=h;exact⟨l,b,xs,zs,rfl,rfl,j,G,J,O.at⟩
inductive OW (K:Fg) (lo:Option Int) (hi:Option Int) (H:Hp) (Q:VK):V->Prop where
 | mk {a:Addr}{xs:Lv} (_:ac K H a xs) (_:d5 H (.lst (tK xs lo hi)) Q):OW K lo hi H Q (.ref a)
def ad8(K:Fg):V->Option Int->Option Int->Hp->VK->Prop:=λx lo hi H Q=>OW K lo hi H Q x
theorem vK:tJ X (ad8 X.K):=abz.weak λx l u H Q h=>by obtain @⟨a,xs,j,G⟩:=h;exact⟨a,xs,rfl,j,G.at⟩
theorem jG:eS X (.type "list") (λxs H Q=>∃p ys,xs=[.ref p]/\(ac X.K H p ys\/aX X.K H p ys)/\d5 H (.lst ys) Q):=yp.weak λxs H Q O=>O.elim λp U=>U.elim λys Y=>Y.elim λj a0=>a0.elim λG J=>⟨p,ys,j,G,J.at⟩
def aed(t:TA):TE:=λZ H Q=>t Z H λxs H1=>xs.length<=sizeLine/\d5 H1 (.tup xs) Q
def aee(t:TA):TE:=λZ H Q=>t Z H λxs H1=>xs.length<=sizeLine/\d5 H1 (.lst xs) Q
theorem PA.thn{t:TA}(h:PA X es t){A:Hp->Prop}{F:VK->Lv->Hp->Prop}{G:VK->Lv->Hp->Prop}(w:∀Q xs H,F Q xs H->G Q xs H):PA X es (λZ H R=>∃Q:VK,t Z H (F Q)/\R=G Q):=by
 intro pos ad s Z H R I ⟨Q,q,e⟩;subst e;exact L2.thn (h pos ad s Z H _ I q) λus Y J=>aP J λvs H1 j U O=>⟨vs,H1,j,U,w _ _ _ O⟩
theorem eT{x1}(h:PA X es t):PE X (.Tuple es x1 pos) (aed t):=by
 intro ad s Z H Q I q;exact NH (PA.thn (A:=λ_=>True) (F:=λQ xs H1=>xs.length<=sizeLine/\d5 H1 (.tup xs) Q) (G:=λQ xs H1=>xs.length<=sizeLine/\∀p,H1 p=none->Q (.ref p) (upd H1 p (.tup xs))) h (λQ xs H j=>j.elim λa b=>⟨a,b.at⟩)) ad s Z H Q I ⟨Q,q,rfl⟩
theorem db(h:PA X es t):PE X (.List es pos) (aee t):=by
 intro ad s Z H Q I q;exact aa1 (PA.thn (A:=λ_=>True) (F:=λQ xs H1=>xs.length<=sizeLine/\d5 H1 (.lst xs) Q) (G:=λQ xs H1=>xs.length<=sizeLine/\∀p,H1 p=none->Q (.ref p) (upd H1 p (.lst xs))) h (λQ xs H j=>j.elim λa b=>⟨a,b.at⟩)) ad s Z H Q I ⟨Q,q,rfl⟩
def aei(K:Fg)(te:TE):TE:=λZ H Q=>te Z H λx H2=>∃a xs,x=.ref a/\ac K H2 a xs/\d5 H2 (.lst xs.reverse) Q
theorem PE.thn{t:TE}{F G:VK->VK}(h:PE X e t)(w:∀Q v H,F Q v H->G Q v H):PE X e (λZ H R=>∃Q:VK,t Z H (F Q)/\R=G Q):=by
 intro ad s Z H R I ⟨Q,q,e⟩;subst e;exact L2.thn (h ad s Z H _ I q) λu Y J=>aP J λv H1 j U O=>⟨v,H1,j,U,w _ _ _ O⟩
theorem OX{j p3 p4}(he:PE X e te):PE X (.Subscript e (.Slice none none (some (.UnaryOp .USub (.Constant (.int 1) j p3) p4)) p2) pos) (aei X.K te):=by
 intro ad s Z H Q I q;refine ad4 (k:=.UnaryOp .USub (.Constant (.int 1) j p3) p4) (PE.thn (F:=λQ x H2=>∃a xs,x=.ref a/\ac X.K H2 a xs/\d5 H2 (.lst xs.reverse) Q)
  (G:=λQ x H1=>∃i,V.int 1=.int i/\(V.int (-i)=.int (-1)/\∃a xs,x=.ref a/\ac X.K H1 a xs/\∀p,H1 p=none->Q (.ref p) (upd H1 p (.lst xs.reverse)))) he
  λQ v H Y=>Y.elim λa a0=>a0.elim λxs a4=>a4.elim λJ a5=>a5.elim λO U=>⟨1,rfl,rfl,a,xs,J,O,U.at⟩) (vy vA am) ad s Z H Q I ⟨Q,q,rfl⟩
end
section
variable {H1:Hp}{Q:Addr->Hp->Prop}
theorem aeo{lo:Int}{n:Nat}(S:St->Prop)(P:Nat->Lv->Hp->Prop)(s0:S σ0)(st:∀D,H1 D=none->P 0 [] (upd H1 D (.lst [])))
 (a0:∀D i ys Z H (k:St->V->Hp->Prop) (k':St->Hp->Prop),H1 D=none->i<n->S Z->H D=some (.lst ys)->aa H1 H->P i ys H ->
  (∀σ3 y G,S σ3->aa H G->ys.length<sizeLine->P (i+1) (ys++[y]) (upd G D (.lst (ys++[y])))->k σ3 y G)->(∀σ3 j,S σ3->aa H j->P (i+1) ys j->k' σ3 j) ->
  g (.int (lo+i)) Z H λσ3 H3=>tt σ3 H3 λok j=>if ok=true then te σ3 j (k σ3) else k' σ3 j)
 (done:∀D ys H,H1 D=none->H D=some (.lst ys)->aa H1 H->P n ys H->Q D H) :
 ∀D,H1 D=none->∃W:Nat->Nat->St->Hp->Prop,(∃m,W 0 m σ0 (upd H1 D (.lst [])))/\lE (oK lo n) g tt te D (λH'=>Q D H') W:=by
 intro D O;refine⟨λi m Z H=>m=n - i/\i<=n/\S Z/\∃ys,H D=some (.lst ys)/\aa H1 H/\P i ys H,⟨n,by simp,dC _,s0,[],aB,fD O,st D O⟩,?_⟩;rintro i m Z H ⟨rfl,hi,hS,ys,hd,hs,hp⟩
 by_cases U:i<n
 . refine .inr ⟨U,λx H2 hy=>?_⟩;obtain⟨e1,e2⟩:=hy;subst e1 e2;exact a0 D i ys Z _ (λσ3 y G=>∃ys,G D=some (.lst ys)/\ys.length<sizeLine/\∃m',m'<n - i/\(m'=n - (i+1)/\i+1<=n/\S σ3/\∃zs,upd G D (.lst (ys++[y])) D=some (.lst zs)/\aa H1 (upd G D (.lst (ys++[y])))/\P (i+1) zs (upd G D (.lst (ys++[y])))))
    (λσ3 j=>∃m',m'<n - i/\(m'=n - (i+1)/\i+1<=n/\S σ3/\∃zs,j D=some (.lst zs)/\aa H1 j/\P (i+1) zs j)) O U hS hd hs hp
    (λσ3 y G Y J a3 a4=>⟨ys,J _ _ hd,a3,n - (i+1),by omega,rfl,U,Y,ys++[y],aB,eM (hs.trans J) O,a4⟩)
    (λσ3 j Y J a3=>⟨n - (i+1),by omega,rfl,U,Y,ys,J _ _ hd,hs.trans J,a3⟩)
 have e:i=n:=by omega
 subst e;exact .inl ⟨aG _,done D ys H O hd hs hp⟩
theorem FI{a:Addr}{xs:Lv}(hx:ac K H1 a xs)(S:St->Prop)(P:Nat->Lv->Hp->Prop)(s0:S σ0)(st:∀D,H1 D=none->P 0 [] (upd H1 D (.lst [])))
 (a0:∀D i x ys Z H (k:St->V->Hp->Prop) (k':St->Hp->Prop),H1 D=none->xs[i]?=some x->S Z->H D=some (.lst ys)->aa H1 H->P i ys H ->
  (∀σ3 y G,S σ3->aa H G->ys.length<sizeLine->P (i+1) (ys++[y]) (upd G D (.lst (ys++[y])))->k σ3 y G)->(∀σ3 j,S σ3->aa H j->P (i+1) ys j->k' σ3 j) ->
  g x Z H λσ3 H3=>tt σ3 H3 λok j=>if ok=true then te σ3 j (k σ3) else k' σ3 j)
 (done:∀D ys H,H1 D=none->H D=some (.lst ys)->aa H1 H->P xs.length ys H->Q D H) :
 ∀D,H1 D=none->∃W:Nat->Nat->St->Hp->Prop,(∃m,W 0 m σ0 (upd H1 D (.lst [])))/\lE (ni K a) g tt te D (λH'=>Q D H') W:=by
 intro D O;refine⟨λi m Z H=>m=xs.length - i/\i<=xs.length/\S Z/\∃ys,H D=some (.lst ys)/\aa H1 H/\P i ys H,⟨xs.length,by simp,dC _,s0,[],aB,fD O,st D O⟩,?_⟩;rintro i m Z H ⟨rfl,hi,hS,ys,hd,hs,hp⟩;have q:ac K H a xs:=aa.seq hs hx
 by_cases aO:i<xs.length
 . refine .inr ⟨⟨xs,xs[i],q,by simp[aO]⟩,λx H2 hy=>?_⟩;obtain⟨e1,e2⟩:=hy;subst e1;exact a0 D i x ys Z _ (λσ3 y G=>∃ys,G D=some (.lst ys)/\ys.length<sizeLine/\∃m',m'<xs.length - i/\(m'=xs.length - (i+1)/\i+1<=xs.length/\S σ3/\∃zs,upd G D (.lst (ys++[y])) D=some (.lst zs)/\aa H1 (upd G D (.lst (ys++[y])))/\P (i+1) zs (upd G D (.lst (ys++[y])))))
    (λσ3 j=>∃m',m'<xs.length - i/\(m'=xs.length - (i+1)/\i+1<=xs.length/\S σ3/\∃zs,j D=some (.lst zs)/\aa H1 j/\P (i+1) zs j)) O (e2 xs q) hS hd hs hp
    (λσ3 y G U J Y a4=>⟨ys,J _ _ hd,Y,xs.length - (i+1),by omega,rfl,aO,U,ys++[y],aB,eM (hs.trans J) O,a4⟩)
    (λσ3 j U J Y=>⟨xs.length - (i+1),by omega,rfl,aO,U,ys,J _ _ hd,hs.trans J,Y⟩)
 have e:i=xs.length:=by omega
 subst e;exact .inl ⟨⟨xs,q,aG _⟩,done D ys H O hd hs hp⟩
theorem vL{lo:Int}{n:Nat}(S:St->Prop)(P:Nat->Lv->Hp->Prop)(s0:S σ0)(st:∀D,H1 D=none->P 0 [] (upd H1 D (.lst [])))
 (a0:∀D i ys Z H (k:St->V->Hp->Prop),H1 D=none->i<n->S Z->H D=some (.lst ys)->aa H1 H->P i ys H ->
  (∀σ3 y j,S σ3->aa H j->ys.length<sizeLine->P (i+1) (ys++[y]) (upd j D (.lst (ys++[y])))->k σ3 y j)->g (.int (lo+i)) Z H λσ3 H3=>te σ3 H3 (k σ3))
 (done:∀D ys H,H1 D=none->H D=some (.lst ys)->aa H1 H->P n ys H->Q D H) :
 ∀D,H1 D=none->∃W:Nat->Nat->St->Hp->Prop,(∃m,W 0 m σ0 (upd H1 D (.lst [])))/\lE (oK lo n) g qU te D (λH'=>Q D H') W:=
 aeo S P s0 st (λD i ys Z H k k' G J O U Y a6 a7 _=>a0 D i ys Z H k G J O U Y a6 a7) done
theorem yz{a:Addr}{xs:Lv}(hx:ac K H1 a xs)(S:St->Prop)(P:Nat->Lv->Hp->Prop)(s0:S σ0)(st:∀D,H1 D=none->P 0 [] (upd H1 D (.lst [])))
 (a0:∀D i x ys Z H (k:St->V->Hp->Prop),H1 D=none->xs[i]?=some x->S Z->H D=some (.lst ys)->aa H1 H->P i ys H ->
  (∀σ3 y j,S σ3->aa H j->ys.length<sizeLine->P (i+1) (ys++[y]) (upd j D (.lst (ys++[y])))->k σ3 y j)->g x Z H λσ3 H3=>te σ3 H3 (k σ3))
 (done:∀D ys H,H1 D=none->H D=some (.lst ys)->aa H1 H->P xs.length ys H->Q D H) :
 ∀D,H1 D=none->∃W:Nat->Nat->St->Hp->Prop,(∃m,W 0 m σ0 (upd H1 D (.lst [])))/\lE (ni K a) g qU te D (λH'=>Q D H') W:=
 FI hx S P s0 st (λD i x ys Z H k k' G J O U Y a6 a7 _=>a0 D i x ys Z H k G J O U Y a6 a7) done
end
end L2
namespace Lcp
variable {xs ys:Ls}
def eU:Ls->Ls->Nat
 | x::xs,y::ys=>if x=y then eU xs ys+1 else 0
 | _,_=>0
theorem FJ:∀(xs ys:Ls),eU xs ys<=xs.length/\eU xs ys<=ys.length
 | [],_=>by simp[eU]
 | _::_,[]=>by simp[eU]
 | x::xs,y::ys=>by
  unfold eU;have:=FJ xs ys;split<;>simp only[cT]<;>omega
theorem FK:∀(xs ys:Ls),xs.take (eU xs ys)=ys.take (eU xs ys)
 | [],_=>by simp[eU]
 | _::_,[]=>by simp[eU]
 | x::xs,y::ys=>by
  unfold eU;split
  . rename_i h;rw[List.take_succ_cons,List.take_succ_cons,h,FK xs ys]
  simp
theorem aep{i:Nat}{x y:Str}(j:xs[i]?=some x)(G:ys[i]?=some y):eU (xs.drop i) (ys.drop i)=if x=y then eU (xs.drop (i+1)) (ys.drop (i+1))+1 else 0:=by
 obtain⟨h1,e1⟩:=dg.mp j;obtain⟨h2,e2⟩:=dg.mp G;rw[Mn h1,Mn h2,e1,e2];rfl
theorem OY{i:Nat}(h:xs.length<=i\/ys.length<=i):eU (xs.drop i) (ys.drop i)=0:=by
 rcases h with h | h
 . rw[AR.mpr h];rfl
 rw[AR.mpr h];cases xs.drop i<;>rfl
def fst(xs ys:Ls):Nat:=eU xs ys
def iY(xs ys:Ls):Nat:=eU (xs.drop (fst xs ys)).reverse (ys.drop (fst xs ys)).reverse
def gR(xs ys:Ls):Nat:=xs.length - iY xs ys
def tU(xs ys:Ls):Ls:=(ys.drop (fst xs ys)).take (ys.length - iY xs ys - fst xs ys)
theorem FL(xs ys:Ls):fst xs ys+iY xs ys<=xs.length/\fst xs ys+iY xs ys<=ys.length:=by
 have h1:=FJ xs ys;have h2:=FJ (xs.drop (fst xs ys)).reverse (ys.drop (fst xs ys)).reverse;rw[XZ,j0,XZ,j0]at h2;unfold iY;unfold fst at *;omega
theorem OZ(xs ys:Ls):xs.take (fst xs ys)=ys.take (fst xs ys):=FK xs ys
theorem aeq(xs ys:Ls):xs.drop (gR xs ys)=ys.drop (ys.length - iY xs ys):=by
 have h:=FK (xs.drop (fst xs ys)).reverse (ys.drop (fst xs ys)).reverse;obtain⟨j,G⟩:=FL xs ys;have h':(xs.drop (fst xs ys)).reverse.take (iY xs ys)=(ys.drop (fst xs ys)).reverse.take (iY xs ys):=h;rw[List.take_reverse,List.take_reverse]at h';have h2:=List.reverse_inj.mp h';rw[List.drop_drop,List.drop_drop,j0,j0]at h2;unfold gR;have e1:fst xs ys+(xs.length - fst xs ys - iY xs ys)=xs.length - iY xs ys:=by omega
 have e2:fst xs ys+(ys.length - fst xs ys - iY xs ys)=ys.length - iY xs ys:=by omega
 rw[e1,e2]at h2;exact h2
theorem FM(xs ys:Ls):(tU xs ys).length=ys.length - iY xs ys - fst xs ys:=by
 obtain⟨j,G⟩:=FL xs ys;unfold tU;rw[eR,j0];omega
theorem Bz{x:Str}(h:x∈tU xs ys):x∈ys:=AS (AT h)
end Lcp
namespace L2
variable {xs ys:Ls}
structure Ln(x:Str):Prop where
 ok:eD x
 len:x.length<=60
structure mC(xs:Ls):Prop where
 len:xs.length<=20
 all:∀x∈xs,Ln x
def qX(xs:Ls)(lo hi:Option Int):Ls:=(xs.drop (HT.gB xs.length 0 lo)).take (HT.gB xs.length xs.length hi - HT.gB xs.length 0 lo)
theorem vM(xs:Ls)(lo hi:Option Int):tK (xs.map V.str) lo hi=(qX xs lo hi).map V.str:=by
 unfold tK qX;rw[aj,X2,List.map_drop]
theorem aer{k:Int}(h:0<=k):qX xs none (some k)=xs.take k.toNat:=by
 obtain⟨n,rfl⟩:∃n:Nat,k=n:=⟨k.toNat,by omega⟩;unfold qX;rw[HT.NZ,HT.Bm,List.drop_zero,Nat.sub_zero];exact awk.mpr (by simp)
theorem FO{k:Int}(h:0<=k):qX xs (some k) none=xs.drop k.toNat:=by
 obtain⟨n,rfl⟩:∃n:Nat,k=n:=⟨k.toNat,by omega⟩;unfold qX;rw[HT.NZ,HT.Bm,me];rw[X3 (by rw[j0];omega)]
 by_cases q:n<=xs.length
 . rw[Nat.min_eq_left q]
 rw[Nat.min_eq_right (by omega),AR.mpr (aG _),AR.mpr (by omega)]
theorem O0{i j:Int}(h:0<=i)(h':0<=j):qX xs (some i) (some j)=(xs.drop i.toNat).take (j.toNat - i.toNat):=by
 obtain⟨n,rfl⟩:∃n:Nat,i=n:=⟨i.toNat,by omega⟩;obtain⟨m,rfl⟩:∃n:Nat,j=n:=⟨j.toNat,by omega⟩;unfold qX;rw[HT.Bm,HT.Bm,me,me]
 by_cases q:n<=xs.length
 . rw[Nat.min_eq_left q];exact awk.mpr (by rw[j0];omega)
 rw[AR.mpr (show xs.length<=n by omega),AR.mpr (show xs.length<=min n xs.length by omega)];simp
theorem tV{r:Int}(h0:0<=r)(h1:r<xs.length):∃z,cQ (xs.map V.str) r=some (V.str z)/\xs[r.toNat]?=some z:=by
 obtain⟨v,e,e2⟩:=FA (xs:=xs.map V.str) h0 (by rw[aj];exact h1);rw[dN]at e2;cases q:xs[r.toNat]? with
 | none=>rw[q]at e2;cases e2
 | some z=>
  rw[q]at e2;cases e2;exact⟨z,e,rfl⟩
theorem BA(xs ys:Ls):xs.map V.str++ys.map V.str=(xs++ys).map V.str:=(dP ..).symm
theorem O1(xs:Ls):(xs.map V.str).reverse=xs.reverse.map V.str:=List.map_reverse.symm
theorem tW(xs:Ls)(y:Str):xs.map V.str++[V.str y]=(xs++[y]).map V.str:=by rw[dP];rfl
theorem ky{n:Nat}(h:n<=1000):n<=sizeLine:=ve (bY h)
abbrev dS (xs:Ls):W.Dat:=.list (xs.map W.Dat.str)
theorem jH{K:Fg}{H:Hp}{a:Addr}(h:ac K H a (xs.map V.str)):DV K H (.ref a) (dS xs):=.lst h (OL xs)
theorem mD(n:Nat)(h:∀x∈xs,Ln x):W.kqdOk (n+1) (dS xs)=true:=by
 simp only[dS,W.kqdOk,iQ,cC];rintro d ⟨x,j,rfl⟩;cases n with
 | zero=>exact(h x j).ok
 | succ n=>exact(h x j).ok
theorem aes(h:xs.map W.Dat.str=ys.map W.Dat.str):xs=ys:=by
 induction xs generalizing ys with
 | nil=>cases ys with
  | nil=>rfl
  | cons y ys=>cases h
 | cons x xs j=>cases ys with
  | nil=>cases h
  | cons y ys=>
   rw[bV,bV]at h;injection h with h1 h2
   injection h1 with h1
   rw[h1,j h2]
theorem FP:dS xs=dS ys↔xs=ys:=⟨λh=>aes (W.Dat.list.inj h),λh=>by rw[h]⟩
theorem FQ{b:Bool}(h:b=true↔dS xs=dS ys):b=decide (xs=ys):=by
 rw[FP]at h
 by_cases q:xs=ys
 . rw[bN q];exact h.mpr q
 rw[cx q];exact qx.mpr λz=>q (h.mp z)
theorem aet{c A B:Prop}[Decidable c](j:¬c)(h:A):if (!decide c)=true then A else B:=by rw[cx j];exact gm h
end L2
namespace Lcp
open L2
variable {b o n:Ls}
def kz(b x y:Ls):Ls:=(((b.take (fst b x)++tU b x)++(b.drop (gR b x)).take (fst b y - gR b x))++tU b y)++b.drop (gR b y)
def BB(j J G O:Int):Bool:=if (j=J/\G=O)/\j=G then false else(decide (J<=G) || decide (O<=j))
def apart(b o n:Ls):Bool:=BB (fst b o) (gR b o) (fst b n) (gR b n)
def merge(b o n:Ls):Ls×Option (Ls):=
 if o=b then(n,none) else if n=b\/o=n then(o,none) else if apart b o n=false then(n,some o) else if gR b o<=fst b n then(kz b o n,none) else(kz b n o,none)
theorem O2(h:o=b):merge b o n=(n,none):=by unfold merge;rw[ai h]
theorem FR(h:o≠b)(h':n=b\/o=n):merge b o n=(o,none):=by unfold merge;rw[ag h,ai h']
theorem aeu(h:o≠b)(h':¬(n=b\/o=n))(h2:apart b o n=false):merge b o n=(n,some o):=by unfold merge;rw[ag h,ag h',ai h2]
theorem aev(h:o≠b)(h':¬(n=b\/o=n))(h2:apart b o n=true)(j:gR b o<=fst b n):merge b o n=(kz b o n,none):=by unfold merge;rw[ag h,ag h',ag (by rw[h2];decide),ai j]
theorem aew(h:o≠b)(h':¬(n=b\/o=n))(h2:apart b o n=true)(j:¬gR b o<=fst b n):merge b o n=(kz b n o,none):=by unfold merge;rw[ag h,ag h',ag (by rw[h2];decide),ag j]
theorem O3{x y:Ls}{z:Str}(h:z∈kz b x y):z∈b\/z∈x\/z∈y:=by
 unfold kz at h
 rcases bR.mp h with h | h
 . rcases bR.mp h with h | h
   . rcases bR.mp h with h | h
     . rcases bR.mp h with h | h
       . exact .inl (AT h)
       exact .inr (.inl (Bz h))
     exact .inl (AS (AT h))
   exact .inr (.inr (Bz h))
 exact .inl (AS h)
theorem aex{z:Str}(h:z∈(merge b o n).1):z∈b\/z∈o\/z∈n:=by
 unfold merge at h;split at h
 . exact .inr (.inr h)
 split at h
 . exact .inr (.inl h)
 split at h
 . exact .inr (.inr h)
 split at h
 . exact O3 h
 rcases O3 h with h | h | h
 . exact .inl h
 . exact .inr (.inr h)
 exact .inr (.inl h)
theorem aey(b o n:Ls):(merge b o n).2=none\/(merge b o n).2=some o:=by
 unfold merge;split
 . exact .inl rfl
 split
 . exact .inl rfl
 split
 . exact .inr rfl
 split<;>exact .inl rfl
theorem aez(h1:∀x∈b,Ln x)(h2:∀x∈o,Ln x)(j:∀x∈n,Ln x):∀x∈(merge b o n).1,Ln x:=λx G=>by
 rcases aex G with h | h | h
 . exact h1 x h
 . exact h2 x h
 exact j x h
end Lcp
namespace L2
section
open Lcp
def aeA(H:Hp)(r:V):Option (Ls)->Prop
 | none=>r=.non
 | some z=>∃j,r=.ref j/\H j=some (.lst (z.map V.str))
structure aeB(H:Hp)(t l:Addr)(r:V)(m:Ls×Option (Ls)):Prop where
 tup:H t=some (.tup [.ref l,r])
 lst:H l=some (.lst (m.1.map V.str))
 bes:aeA H r m.2
end
section
variable {ys:Ls}
section
variable {X:Cx}
theorem O4:∀{us:Lw},aW (ys.map V.str) us->StrsAre us ys:=by
 induction ys with
 | nil=>intro us r;rw[AN]at r;cases r;exact .nil
 | cons n ns j=>
  intro us r;rw[bV]at r;cases r with
  | cons G J=>
   obtain⟨t,e⟩:=G;subst e;exact .cons n t (j J)
inductive O5 (K:Fg) (H:Hp) (Q:VK):V->Lv->Prop where
 | mk {sep:Str}{p:Addr} (ys:Ls) (_:ac K H p (ys.map V.str)) (_:(ys.map (·.length)).sum+ys.length * sep.length<=16777216) (_:Q (.str (Txt.join sep ys)) H):O5 K H Q (.str sep) [.ref p]
def O6(K:Fg):V->Lv->Hp->VK->Prop:=λx vs H Q=>O5 K H Q x vs
theorem vN:nv X "str.join" (O6 X.K):=by
 intro ad s Z H x xs v us Q I Y U h;obtain @⟨sep,p,ys,j,hz,q⟩:=h;obtain⟨t,rfl⟩:=Y;cases U with
 | cons J O=>
  cases J;cases O;obtain⟨b_,r,G,_⟩:=I.list j;exact join_list G.isList (by simpa using O4 r) hz λt' k=>⟨.str _,H,I.tok k,⟨_,rfl⟩,q⟩
end
section
variable {X:Cx}{K:Fg}
theorem FS(K:Fg)(h:X.K=K:=by rfl):vD X (N3 K):=h▸fV
theorem aeC(K:Fg)(h:X.K=K:=by rfl):vD X (N6 K):=h▸fh
theorem O7(K:Fg)(h:X.K=K:=by rfl):cK X (compareOp .In) (Fj K false):=h▸Oc
def aeD(K:Fg):Lv->Hp->VK->Prop:=λxs H Q=>∃p ys,xs=[.ref p]/\(ac K H p ys\/aX K H p ys)/\Q (.int ys.length) H
theorem aeE(K:Fg)(h:X.K=K:=by rfl):eS X (.builtin "len") (aeD K):=by subst h;exact ig
end
theorem yA{b:Nat}(h:∀y∈ys,y.length<=b):(ys.map (·.length)).sum<=ys.length * b:=by
 induction ys with
 | nil=>simp
 | cons y ys j=>
  have h1:=h y bL;have h2:=j λz hz=>h z (bT _ hz);simp only[bV,List.sum_cons,cT,X4];omega
theorem BC{sep:Str}:(Txt.join sep ys).length<=(ys.map (·.length)).sum+ys.length * sep.length:=by
 have e:Txt.join sep ys=Str.join sep ys:=AU sep ys;rw[e];cases ys with
 | nil=>exact dC _
 | cons a l=>
  rw[len_join_cons];simp only[cT,X4];omega
theorem aeF:eD Str.empty:=by decide +kernel
theorem FT{sep:Str}(hs:eD sep):∀{ys:Ls},(∀y∈ys,eD y)->eD (Txt.join sep ys):=by
 intro ys h;have e:Txt.join sep ys=Str.join sep ys:=AU sep ys;rw[e];clear e
 induction ys with
 | nil=>exact aeF
 | cons a l G=>
  cases l with
  | nil=>exact h a bL
  | cons b r=>
   show eD (a++sep++Str.join sep (b::r));exact Bt (Bt (h a bL) hs) (G λy j=>h y (bT _ j))
end
end L2
namespace Lcp
open L2
theorem O8{b x y:Ls}{z:Str}(h:z∈kz b x y):z∈x\/z∈y:=by
 unfold kz at h
 rcases bR.mp h with h | h
 . rcases bR.mp h with h | h
   . rcases bR.mp h with h | h
     . rcases bR.mp h with h | h
       . rw[OZ]at h;exact .inl (AT h)
       exact .inl (Bz h)
     right;have e:(b.drop (gR b x)).take (fst b y - gR b x)=(b.take (fst b y)).drop (gR b x):=by rw[List.drop_take]
     rw[e,OZ]at h;exact AT (AS h)
   exact .inr (Bz h)
 rw[aeq]at h;exact .inr (AS h)
theorem aeG{b o n:Ls}{z:Str}(h:z∈(merge b o n).1):z∈o\/z∈n:=by
 unfold merge at h;split at h
 . exact .inr h
 split at h
 . exact .inl h
 split at h
 . exact .inr h
 split at h
 . exact O8 h
 exact(O8 h).symm
end Lcp
namespace L2
section
variable {X:Cx}{ad:Po}{d:Addr}{kvs:List (ak×V)}{o:Obj}{prog:Program}{w:World}{A:Around}{E:VP}{e:Expr}{elts:List Expr}{x1:Nat}{pos:Pos}
section
variable {Z:St}{H:Hp}{s:Shared}
theorem Inv.rehp{H':Hp}(I:Inv X ad Z H s)(h0:∀b,H b=none->H' b=none)(O:∀b xs,H b=some (.tup xs)->H' b=some (.tup xs))(J:∀b o u,X.H₀ b=some (.frz o u)->H' b=some (.frz o u))
 (G:∀b ps,H b=some (.tbl ps)->H' b=some (.tbl ps)) (hok:cr X.prog X.w H' s.heap):Inv X ad Z H' s:=
 ⟨I.ok,I.os,I.bare,⟨I.base.keep,I.base.slot,λb o e n U=>h0 b (I.base.free b o e n U),I.base.there,λb xs e=>O b xs (I.base.tups b xs e),J,λb ps e=>(I.base.tbls b ps e).elim λm q=>⟨m,G _ _ q⟩⟩,I.loc,I.cell,h0 _ I.free,
  λx c e=>h0 _ (I.freeC x c e),λp j=>⟨(I.pin p j).1,h0 _ (I.pin p j).2.1,(I.pin p j).2.2⟩,hok,I.len⟩
theorem Inv.freeze(I:Inv X ad Z H s)(e:H d=some (.dK kvs))(G:s.heap.get? d=some o):Inv X ad Z (upd H d (.frz o (.dK kvs))) s:=by
 have ne:∀b u,H b=some u->(∀ks,u≠.dK ks)->b≠d:=λb u q J z=>by rw[z,e]at q;cases q;exact J _ rfl
 refine I.rehp (λb q=>?_) (λb xs q=>?_) (λb o' u q=>?_) (λb ps q=>?_) λb u q=>?_
 . rw[aQ (λz=>by rw[z,e]at q;cases q)];exact q
 . rw[aQ (ne b _ q (by intro ks z;cases z))];exact q
 . have q:=I.base.frzs b o' u q;rw[aQ (ne b _ q (by intro ks z;cases z))];exact q
 . rw[aQ (ne b _ q (by intro ks z;cases z))];exact q
 have up:∀{c:Addr}{w:HO},H c=some w->(∀ks,w≠.dK ks)->upd H d (.frz o (.dK kvs)) c=some w:=λ{c w} j O=>by rw[aQ (ne c _ j O)];exact j
 by_cases z:b=d
 . subst z;rw[aB]at q;cases q;exact⟨G,(I.hok b _ e).stay (λ_ _ _ q=>q) (λc j=>up j (by intro ks z;cases z)) λc xs j=>up j (by intro ks z;cases z)⟩
 rw[aQ z]at q;exact(I.hok b _ q).stay (λ_ _ _ q=>q) (λc j=>up j (by intro ks z;cases z)) λc xs j=>up j (by intro ks z;cases z)
theorem Inv.thaw(I:Inv X ad Z H s)(e:H d=some (.frz o (.dK kvs)))(hz:∀o' u,X.H₀ d≠some (.frz o' u)):Inv X ad Z (upd H d (.dK kvs)) s:=by
 have ne:∀b u,H b=some u->(∀o' G,u≠.frz o' G)->b≠d:=λb u q J z=>by rw[z,e]at q;cases q;exact J _ _ rfl
 have up:∀{c:Addr}{w:HO},H c=some w->(∀o' G,w≠.frz o' G)->upd H d (.dK kvs) c=some w:=λ{c w} j O=>by rw[aQ (ne c _ j O)];exact j
 refine I.rehp (λb q=>?_) (λb xs q=>up q (by intro _ _ z;cases z)) (λb o' u q=>?_) (λb ps q=>up q (by intro _ _ z;cases z)) λb u q=>?_
 . rw[aQ (λz=>by rw[z,e]at q;cases q)];exact q
 . have U:b≠d:=λz=>hz o' u (z▸q);rw[aQ U];exact I.base.frzs b o' u q
 by_cases z:b=d
 . subst z;rw[aB]at q;cases q;exact(show bX X.prog X.w H s.heap b (.dK kvs) from (show bX X.prog X.w H s.heap b (.frz o (.dK kvs)) from I.hok b _ e).2).stay (λ_ _ _ q=>q) (λc j=>up j (by intro _ _ z;cases z)) λc xs j=>up j (by intro _ _ z;cases z)
 rw[aQ z]at q;exact(I.hok b _ q).stay (λ_ _ _ q=>q) (λc j=>up j (by intro _ _ z;cases z)) λc xs j=>up j (by intro _ _ z;cases z)
theorem Inv.track{a:Addr}{o:HO}(I:Inv X ad Z H s)(O:H a=none)(h0:X.s₀.heap.objs.size<=a)(h1:a≠X.env.locals)(h2:∀x c,X.env.cells.lookup x=some c->c≠a)(J:∀p∈X.pn++ad,p.1≠a)
 (new:bX X.prog X.w (upd H a o) s.heap a o):Inv X ad Z (upd H a o) s:=by
 have up:∀{c:Addr}{w:HO},H c=some w->upd H a o c=some w:=λ{c w} j=>by rw[aQ (aH j O)];exact j
 refine⟨I.ok,I.os,I.bare,⟨I.base.keep,I.base.slot,λb ob e n U=>?_,I.base.there,λb xs e=>up (I.base.tups b xs e),λb o' u e=>up (I.base.frzs b o' u e),λb ps e=>(I.base.tbls b ps e).elim λm q=>⟨m,up q⟩⟩,I.loc,I.cell,?_,λx c e=>?_,
  λp G=>⟨(I.pin p G).1,?_,(I.pin p G).2.2⟩,λb u q=>?_,I.len⟩
 . rw[aQ (cX (gz (bH e) h0))];exact I.base.free b ob e n U
 . rw[aQ (fw h1)];exact I.free
 . rw[aQ (h2 x c e)];exact I.freeC x c e
 . rw[aQ (J p G)];exact(I.pin p G).2.1
 by_cases z:b=a
 . subst z;rw[aB]at q;cases q;exact new
 rw[aQ z]at q;exact(I.hok b _ q).stay (λ_ _ _ q=>q) (λc j=>up j) λc xs j=>up j
end
theorem vO:eS X (.type "dict") (λxs H Q=>∃a kvs,xs=[.ref a]/\H a=some (.dK kvs)/\d5 H (.dK kvs) Q):=by
 intro ad s Z H xs us Q I r h;obtain⟨a,kvs,rfl,e,q⟩:=h;obtain⟨u,rfl,J⟩:=vals1 r;cases J;exact ac6 I (.inl e) λp s' G j=>⟨.ref p,_,j,rfl,q.at p G⟩
theorem aeH{K:Type}[DecidableEq K]{knd:KeyKind prog w K}{s:Shared}{kvs:List (K×Value)}{k:K}{a0 dflt:Value}{Q:VP}(J:knd.is k a0=true)(hm:s.heap.DictOf knd d kvs)
 (a1:∀v,valueAt kvs k=some v->Q v { s with toks:=s.toks+1 })
 (a2:valueAt kvs k=none->∀h',h'.DictOf knd d (kvs++[(k,dflt)])->Heap.SameBut d s.heap h'->Q dflt { s with heap:=h',toks:=s.toks+1 }) (hsz:kvs.length<=sizeLine) :
 wpAny (model prog w) A (dictSetDefault d a0 dflt) Q E s:=by
 have a3:=hm.mapOf;obtain⟨o,es,ep,j,hc,hd,hk,U,hn⟩:=hm;obtain⟨o',es',qL,iy,ia,jD,eE,hf⟩:=a3;rw[j]at iy;cases iy;rw[hd]at jD;cases jD;have FU:es.size<=sizeLine:=by
  have e1:=U.length;have e2:es.toList.length=es.size:=by simp
  omega
 unfold dictSetDefault
 try with_reducible refine jY ?_
 refine ae (knd.pyHash J ?_);refine ae (wpAny_dictFind_of (s:={ s with toks:=s.toks+1 }) J j hd hk ?_);have a4:(es.findIdx? λe=>knd.is k e.key)=kvs.findIdx? λkv=>decide (kv.1=k):=by
  rw[<-U.findIdx k];obtain⟨l⟩:=es;simp
 cases hi:es.findIdx? λe=>knd.is k e.key with
 | some i=>
  have G:valueAt kvs k=(es[i]?).map (·.val):=by rw[<-hf k,findBy_of_findIdx?,hi]
  refine ae (Mo (s:={ s with toks:=s.toks+1 }) j hd ?_);cases O:es[i]? with
  | none=>
   exfalso;have:=Array.findIdx?_eq_some_iff_findIdx_eq.mp hi;have aO:i<es.size:=this.1;rw[qy aO]at O;exact nomatch O
  | some e=>
   rw[O]at G;exact ae (oq (aq (a1 e.val G)))
 | none=>
  have G:valueAt kvs k=none:=by rw[<-hf k,findBy_of_findIdx?,hi]
  have a5:k∉kvs.map (·.1):=not_mem_of_findIdx_none (a4▸hi);refine ae (oq (ae (wpAny_updateDictKeys (hz:=FU) (s:={ s with toks:=s.toks+1 }) j hd (aq (a2 G _ ⟨_,_,ep+1,AV _ j (Obj.isFreed_of_dict (Obj.data_mapDictKeys hd _)),
   hc.mapDictKeys _,Obj.data_mapDictKeys hd _,hk.push J _,?_,?_⟩ (mf ..))))))
  . have:=U.append J (knd.hash k) dflt;obtain⟨l⟩:=es;simpa using this
  rw[dP,qz];refine⟨hn,by simp,?_⟩;intro a ha b Y;simp only[bV,AN,bD]at Y;subst Y;exact λe=>a5 (e▸ha)
theorem aeN{K:Type}[DecidableEq K]{knd:KeyKind prog w K}{k:K}{j:Value}(lj:knd.is k j=true)(hd:(d == sysModules)=false)(dflt:Value) :
 MeetsIn prog w (Builtin.«dict.setdefault» ⟨[.ref d,j,dflt],[]⟩) (λ_ R s=>∃kvs,s.heap.DictOf knd d kvs/\kvs.length<=sizeLine /\
  (∀v,valueAt kvs k=some v->R (.ok (.ret v)) { s with toks:=s.toks+1 }) /\
  (valueAt kvs k=none->∀h',h'.DictOf knd d (kvs++[(k,dflt)])->Heap.SameBut d s.heap h'->R (.ok (.ret dflt)) { s with heap:=h',toks:=s.toks+1 })):=
 .of_wp λA R s O=>O.elim λkvs U=>U.elim λG Y=>Y.elim λhz a0=>a0.elim λh1 h2=>by
  unfold Builtin.«dict.setdefault»;refine ae ?_;unfold Builtin.Dict.keyAndDefault;refine ae (wpAny_notOrdered_dict G.typeIs ?_);show wpAny _ _ (pure (d,j,some dflt)) _ _ s;refine aq ?_;show wpAny _ _ (if (d == sysModules)=true then _ else(dictSetDefault d j dflt >>= _)) _ _ s;rw[ag (by rw[hd];exact cW)];exact ae (aeH lj G (λv hv=>aq ⟨v,rfl,h1 v hv⟩) (λhn h' J tX=>aq ⟨dflt,rfl,h2 hn h' J tX⟩) hz)
def aeS:V->Lv->Hp->VK->Prop:=λx vs H Q=>∃a kvs k y,x=.ref a/\vs=[kV k,y]/\H a=some (.dK kvs)/\kvs.length<sizeLine/\(∀z,bg kvs k=some z->Q z H)/\(bg kvs k=none->Q y (upd H a (.dK (cL kvs k y))))
theorem aeT:nv X "dict.setdefault" aeS:=by
 intro ad s Z H x xs v us Q I rx rs h;obtain⟨a,kvs,k,y,rfl,rfl,e,hl,q1,q2⟩:=h;cases rx;cases rs with
 | cons r1 r2=>
  cases r2 with
  | cons r3 r4=>
   cases r4;obtain⟨z,hd,vs,G,dd⟩:=iB I.hok e;refine sV awl dd.typeIs PySem.F.entry_dict_setdefault (PySem.F.args_dict_setdefault_3 _ _ _) (aeN (knd:=ce X.prog X.w) (my r1) hd _) ⟨vs,dd,by rw[<-G.length];exact z,λu hu=>?_,λhn h' Y hs=>?_⟩
   . obtain⟨j,O9,rz⟩:∃j,bg kvs k=some j/\RelV j u:=by
      have:=G.val k;rw[hu]at this;cases q:bg kvs k with
      | none=>rw[q]at this;cases this
      | some j=>rw[q]at this;exact⟨j,rfl,this⟩
     exact⟨j,H,I.tok _,rz,q1 j O9⟩
   have J:bg kvs k=none:=by
    have:=G.val k;rw[hn]at this;cases q:bg kvs k with
    | none=>rfl
    | some j=>rw[q]at this;cases this
   have U:∃q,h'.get? a=some q:=Y.elim λq a0=>a0.elim λ_ a1=>a1.elim λ_ a2=>a2.elim λhq _=>⟨q,hq⟩;have O:=G.put k r3;rw[Fp _ J]at O;refine⟨y,_,vF I (ob:=.dK (cL kvs k y)) (by rw[e];exact True.intro) hs U ?_,r3,q2 J⟩;rw[Fp _ J];refine vG (by rw[bI];simp;omega) hd ?_ Y;have e2:∀b,stored vs k b=vs++[(k,b)]:=by
    intro b;unfold stored;rw[ag];rw[sW];rintro⟨kv,tY,U⟩;have:valueAt vs k≠none:=by
     unfold valueAt;rw[Ne,awm,X5];exact λz=>z kv tY U
    exact this hn
   rw[e2]at O;exact O
theorem aeX{k:ak}{v:Value}(h:oF k v=true):RelV (kV k) v:=by
 rcases jl h with⟨i,t,rfl,rfl⟩ | ⟨x,t,rfl,rfl⟩
 . exact⟨t,rfl⟩
 exact⟨t,rfl⟩
theorem FY:∀{us:Lw}{ys:Ls},StrsAre us ys->aW (ys.map V.str) us
 | _,_,.nil=>.nil
 | _,_,.cons x t r=>.cons ⟨t,rfl⟩ (FY r)
section
variable {s:Shared}
theorem Pa{r:Addr}{Q:VP}(Y:wpAny (model prog w) A.in1 (collect (.ref r)) (λus s'=>∃(ys:Ls) (h':Heap) (tk:Nat),s'={ s with heap:=h',toks:=tk }/\StrsAre us ys/\us.length<64 /\
 ∀(h2:Heap) (out:Lw) (j:Ls) (e:Nat),(∀b o,h'.get? b=some o->h2.get? b=some o)->h2.get? h'.objs.size=some (seqObj "list" out.toArray e)->StrsAre out j->j.Perm ys->sortedS j=true->Q (.ref h'.objs.size) { s with heap:=h2,toks:=tk }) E s) :
 wpAny (model prog w) A (call (.builtin "sorted") [.ref r]) Q E s:=by
 refine awn kind_sorted plain_sorted entry_sorted (args_sorted1 _) ?_;unfold Builtin.«sorted»;refine ae (m:=checkCount "sorted" 1 1 _) (aq ?_);refine ae (eP Y (λus s' a6=>a6.elim λys a7=>a7.elim λh' a0=>a0.elim λtk a3=>a3.elim λes a4=>a4.elim λG a5=>a5.elim λqY a8=>?_) λ_ _ e=>e);subst es;refine ae (X6 ?_ (by rw[sL];omega));have J:(h'.push (seqObj "list" us.toArray 0)).get? h'.objs.size=some (seqObj "list" us.toArray 0):=dL _ rfl;show wpAny _ _ _ _ _ { s with heap:=h'.push (seqObj "list" us.toArray 0),toks:=tk };refine ae (jY (sK slot_list_sort ⟨_,J,rfl⟩ entry_list_sort (list_sort_treeK strKind_oneLt J G.keysOf (λv₁ v₂ rest e=>keyKind_strs (by rw[<-e];exact G)) qY λO a1 a2=>⟨_,rfl,?_⟩) (args_list_sort _)));obtain⟨j,h1,h2,h3⟩:=sorted_out_str G a1 a2;obtain⟨e,he⟩:=sortedHeap_at (vs:=us) (out:=(arrOf O).map (·.2)) J;refine aq ⟨_,rfl,a8 _ ((arrOf O).map (·.2)).toList j e (λb o q=>?_) (by rw[X7];exact he) h1 h2 h3⟩;have U:=bH q;rw[sortedHeap_old (cX U) (by rw[sM];exact X8 U)];exact b9 _ q
end
theorem F0{Z:St}{H:Hp}{s:Shared}{h' h2:Heap}{tk e:Nat}{out:Lw}{j:Ls}(I:Inv X ad Z H { s with heap:=h',toks:=tk })(k:∀b o,h'.get? b=some o->h2.get? b=some o)
 (J:h2.get? h'.objs.size=some (seqObj "list" out.toArray e)) (G:StrsAre out j) (O:j.length<=sizeLine):Inv X ad Z (upd H h'.objs.size (.lst (j.map V.str))) { s with heap:=h2,toks:=tk }:=
 I.laid (s:={ s with heap:=h',toks:=tk }) (t':=tk) k (aG _) ⟨by rw[aj];exact O,out,e,FY G,J⟩
theorem ae4:eS X (.builtin "sorted") (λxs H Q=>∃p ys,xs=[.ref p]/\ac X.K H p (ys.map V.str)/\ys.length<64/\∀j,j.Perm ys->sortedS j=true->d5 H (.lst (j.map V.str)) Q):=by
 intro ad s Z H xs us Q I r h;obtain⟨p,ys,rfl,hp,qY,q⟩:=h;obtain⟨u,rfl,ru⟩:=vals1 r;cases ru;obtain⟨b_,rv,ht,hz⟩:=I.list hp;have J:StrsAre b_ ys:=O4 rv;have a0:=Mp J;refine sorted_strs ht.isList J (by omega) λout j O G U=>?_;obtain⟨e,Y⟩:=sortedAll_at s.heap b_ out;have hl:=G.length_eq;refine⟨.ref (s.heap.objs.size+1),_,I.laid (t':=s.toks) (a:=s.heap.objs.size+1) (o:=.lst (j.map V.str)) (λb o q=>sortedAll_old q) (qv _) ⟨by rw[aj];exact ky (by omega),out.toList,e,FY O,by rw[X7];exact Y⟩,rfl,?_⟩;exact(q j G U).at _ (I.hok.fresh (qv _))
def qZ(kvs:List (ak×V))(ks:Ls):Prop:=kvs.map (·.1)=ks.map Sum.inr
theorem F1{ks:Ls}(h:qZ kvs ks){vs:List (ak×Value)}(U:KV kvs vs){us:Lw}(J:us.length=vs.length)(O:∀(j:Nat) (v:Value),us[j]?=some v->∃k x,vs[j]?=some (k,x)/\(ce X.prog X.w).is k v=true):StrsAre us ks:=by
 induction us generalizing kvs vs ks with
 | nil=>
  have:vs=[]:=xM.mp J.symm;subst this;cases U;unfold qZ at h;cases ks with
  | nil=>exact .nil
  | cons a b=>cases h
 | cons u us ih=>
  cases U with
  | nil=>cases J
  | @cons p q ps qs r rr=>
   cases ks with
   | nil=>cases h
   | cons a ks=>
    unfold qZ at h;rw[bV,bV]at h;injection h with h1 h2
    obtain⟨k,x,e,G⟩:=O 0 u rfl;have e:q=(k,x):=gM e;have hp:p.1=k:=by rw[r.1,e]
    have G:oF k u=true:=G;rw[<-hp,h1]at G
    rcases jl G with⟨i,t,e1,e2⟩ | ⟨x',t,e1,e2⟩
    . cases e1
    cases e1;subst e2;exact .cons _ _ (ih h2 rr (by simpa using J) λj v Y=>O (j+1) v (by simpa using Y))
theorem BE(hc:X.calm=true):eS X (.builtin "sorted") (λxs H Q=>∃d kvs ks,xs=[.ref d]/\H d=some (.dK kvs)/\qZ kvs ks/\kvs.length<64/\∀G,G.Perm ks->sortedS G=true->d5 H (.lst (G.map V.str)) Q):=by
 intro ad s Z H xs us Q I r h;obtain⟨d,kvs,ks,rfl,e,vP,qY,q⟩:=h;obtain⟨u,rfl,ru⟩:=vals1 r;cases ru;obtain⟨z,hd,vs,a0,dd⟩:=iB I.hok e;obtain⟨ep,lH⟩:=dd.dictAt;have a1:=a0.length;refine Pa (W.kdu_collect (W.kdl_dict (knd:=ce X.prog X.w) (kvs:=vs) (ep:=ep) hd) (I.ok.hd hc) lH (by omega) λh' tk U hk J=>?_);have hS:StrsAre U.toList ks:=F1 (X:=X) vP a0 (by rw[eJ];exact J.1) λj v hj=>J.2 j v (by rw[<-qA];exact hj);have vE:U.toList.length=vs.length:=by rw[eJ];exact J.1
 have O:Inv X ad Z H { s with heap:=h',toks:=tk }:=I.kept hk;refine⟨ks,h',tk,rfl,hS,by omega,λh2 out G e' k2 he ii Y tX=>?_⟩;have hl:=Y.length_eq;have Pb:=Mp hS;exact⟨.ref h'.objs.size,_,F0 O k2 he ii (ky (by omega)),rfl,(q G Y tX).at _ (O.hok.fresh (aG _))⟩
def ae5:V->Lv->Hp->VK->Prop:=λx vs H Q=>∃d kvs,x=.ref d/\vs=[]/\H d=some (.dK kvs)/\∀p H',H p=none->aa H H'->H' p=some (.ext λh=>W.KdlKeysView h p d)->Q (.ref p) H'
theorem ae6:nv X "dict.keys" ae5:=by
 intro ad s Z H x xs v us Q I U O h;obtain⟨d,kvs,rfl,rfl,e,q⟩:=h;cases U;cases O;obtain⟨z,hd,vs,Y,dd⟩:=iB I.hok e;refine sV awo dd.typeIs PySem.F.entry_dict_keys (PySem.F.args_dict_keys_1 _) (W.kdl_meets_keys (ce X.prog X.w) d hd) ⟨⟨vs,dd⟩,?_⟩;have G:=I.hok.fresh (aG s.heap.objs.size);have j:(s.heap.push { cls:=.type "dict_keys",data:=.fields #[.ref d] }).get? s.heap.objs.size=some { cls:=.type "dict_keys",data:=.fields #[.ref d] }:=dL _ rfl;refine⟨.ref s.heap.objs.size,_,I.laid (t':=s.toks) (a:=s.heap.objs.size) (o:=.ext λh=>W.KdlKeysView h s.heap.objs.size d) (λb ob q=>b9 _ q) (aG _) ⟨⟨_,j,rfl,rfl⟩,⟨_,j⟩,?_⟩,rfl,q _ _ G (fD G) aB⟩;rintro h1 h2 ⟨o,J,c1,c2⟩ k;exact⟨o,k o J,c1,c2⟩
theorem ae7(hc:X.calm=true):eS X (.builtin "sorted") (λxs H Q=>∃p d kvs ks,xs=[.ref p]/\H p=some (.ext λh=>W.KdlKeysView h p d)/\H d=some (.dK kvs)/\qZ kvs ks/\kvs.length<64/\∀G,G.Perm ks->sortedS G=true->d5 H (.lst (G.map V.str)) Q):=by
 intro ad s Z H xs us Q I r h;obtain⟨p,d,kvs,ks,rfl,qL,e,vP,qY,q⟩:=h;obtain⟨u,rfl,ru⟩:=vals1 r;cases ru;obtain⟨z,hd,vs,a0,dd⟩:=iB I.hok e;obtain⟨ep,lH⟩:=dd.dictAt;have hv:W.KdlKeysView s.heap p d:=(show bX X.prog X.w H s.heap p (.ext λh=>W.KdlKeysView h p d) from I.hok p _ qL).1;have a1:=a0.length;refine Pa (W.kdu_collect (W.kdl_keys (knd:=ce X.prog X.w) (r:=p) (d:=d) (kvs:=vs) (ep:=ep)) (I.ok.hd hc) ⟨hv,lH⟩ (by omega) λh' tk U hk J=>?_);have hS:StrsAre U.toList ks:=F1 (X:=X) vP a0 (by rw[eJ];exact J.1) λj v hj=>J.2 j v (by rw[<-qA];exact hj);have vE:U.toList.length=vs.length:=by rw[eJ];exact J.1
 have O:Inv X ad Z H { s with heap:=h',toks:=tk }:=I.kept hk;refine⟨ks,h',tk,rfl,hS,by omega,λh2 out G e' k2 he ii Y tX=>?_⟩;have hl:=Y.length_eq;have Pb:=Mp hS;exact⟨.ref h'.objs.size,_,F0 O k2 he ii (ky (by omega)),rfl,(q G Y tX).at _ (O.hok.fresh (aG _))⟩
theorem ae8{Z:St}{H:Hp}{s:Shared}(hu:X.A.units+65<cLine)(I:Inv X ad Z H s){x:V}{v:Value}{xs:Lv}{us:Lw}{d:W.Dat}{ds:List W.Dat}(rx:RelV x v)(U:aW xs us)(hd:DV X.K H x d)(O:iD X.K H xs ds)(J:W.kqdOk 9 d=true)(vQ:∀e∈ds,W.kqdOk 9 e=true) :
 ∃e:Value->Bool,(∀y∈us.toArray,SeqAt.EqAt X.A.in1 s y v (e y))/\(us.toArray.any e=true↔d∈ds):=by
 obtain⟨as,ra⟩:=hd.reads I rx
 classical
 have a0:∀{xs:Lv}{us:Lw}{ds:List W.Dat},aW xs us->iD X.K H xs ds->∀y∈us,∃e∈ds,∃bs,Reads s.heap y (W.kqdP e) bs:=by
  intro xs us ds U
  induction U generalizing ds with
  | nil=>intro _ y j;cases j
  | cons r rr ih=>
   intro O y j;cases O with
   | cons q qs=>
    rcases aZ.mp j with e | e
    . subst e;obtain⟨bs,z⟩:=q.reads I r;exact⟨_,bL,bs,z⟩
    obtain⟨e',kB,z⟩:=ih qs y e;exact⟨e',bT _ kB,z⟩
 have a1:∀{xs:Lv}{us:Lw}{ds:List W.Dat},aW xs us->iD X.K H xs ds->∀e∈ds,∃y∈us,∃bs,Reads s.heap y (W.kqdP e) bs:=by
  intro xs us ds U
  induction U generalizing ds with
  | nil=>intro h e G;cases h;cases G
  | cons r rr ih=>
   intro O e G;cases O with
   | cons q qs=>
    rcases aZ.mp G with z | z
    . subst z;obtain⟨bs,w⟩:=q.reads I r;exact⟨_,bL,bs,w⟩
    obtain⟨y,j,w⟩:=ih qs e z;exact⟨y,bT _ j,w⟩
 refine⟨λy=>decide (∃bs,Reads s.heap y (W.kqdP d) bs),λy j=>?_,?_⟩
 . obtain⟨e,G,bs,Y⟩:=a0 U O y (by simpa using j);have x1:=W.keq_at (A:=X.A) Y ra (qT (vQ e G)) (qT J) (by show X.A.units+1+64<cLine;omega);have hb:(PyData.eqv (W.kqdP e) (W.kqdP d)=true)↔e=d:=xL 9 e d 9 (vQ e G) J;have iZ:PyData.eqv (W.kqdP e) (W.kqdP d)=decide (∃bs,Reads s.heap y (W.kqdP d) bs):=by
    by_cases z:e=d
    . rw[hb.mpr z];subst z;exact(bN ⟨bs,Y⟩).symm
    rw[qx.mpr λw=>z (hb.mp w)];refine(cx ?_).symm;rintro⟨vR,F2⟩;have l:=W.kqd_lay 9 e (vQ e G);have eq:=(Y.unique _ _ F2).1;have:PyData.eqv (W.kqdP e) (W.kqdP d)=true:=by
     rw[eq];exact(xL 9 d d 9 J J).mpr rfl
    exact z (hb.mp this)
   rw[iZ]at x1;exact x1
 constructor
 . intro h;rw[List.any_toArray,sW]at h;obtain⟨y,j,hz⟩:=h;obtain⟨vR,F2⟩:=cH hz;obtain⟨e,G,bs,Y⟩:=a0 U O y j;have eq:=(Y.unique _ _ F2).1;have:PyData.eqv (W.kqdP e) (W.kqdP d)=true:=by
    rw[eq];exact(xL 9 d d 9 J J).mpr rfl
   rw[<-(xL 9 e d 9 (vQ e G) J).mp this];exact G
 intro h;obtain⟨y,j,z⟩:=a1 U O d h;rw[List.any_toArray,sW];exact⟨y,j,bN z⟩
def afa(K:Fg)(j:Bool):R2:=λx y H Q=>∃p xs d ds,y=.ref p/\ac K H p xs/\DV K H x d/\iD K H xs ds/\W.kqdOk 9 d=true/\(∀e∈ds,W.kqdOk 9 e=true)/\∀b:Bool,(b=true↔d∈ds)->Q (.bl (if j then !b else b)) H
theorem afb(O:X.A.units+65<cLine):cK X (compareOp .NotIn) (afa X.K true):=by
 intro ad s Z H x y v u Q I rx ry h;obtain⟨p,xs,d,ds,rfl,J,hd,Y,U,vQ,q⟩:=h;cases ry;obtain⟨b_,r,pl,hz⟩:=I.list J;obtain⟨e,G,j⟩:=ae8 O I rx r hd Y U vQ;exact SeqAt.notIn_listAt e pl.isList G ⟨.bl _,H,I,rfl,q _ j⟩
def yB(o:Obj):Nat:=match o.data with
 | .dict _ ep=>ep
 | _=>0
def Pc(d:Addr)(kvs:List (ak×V))(o:Obj):It:=
 ⟨λi H=>H d=some (.frz o (.dK kvs))/\i<kvs.length,λi H x H'=>∃k v p,kvs[i]?=some (k,v)/\H p=none/\x=.ref p/\H'=upd H p (.tup [kV k,v]),λi H=>H d=some (.frz o (.dK kvs))/\kvs.length<=i⟩
theorem Pd{P:Program}{H:Hp}{h:Heap}(ok:cr P w H h)(e:H d=some (.frz o (.dK kvs))):∃vs,KV kvs vs/\h.DictAt (ce P w) d vs (yB o)/\(d == sysModules)=false:=by
 obtain⟨j,_,hd,vs,U,o',es,ep,G,O,J,r⟩:=(show bX P w H h d (.frz o (.dK kvs)) from ok d _ e);rw[j]at G;cases G;refine⟨vs,U,⟨o,es,j,O,?_,r⟩,hd⟩;unfold yB;rw[J]
theorem afc{vs:List (ak×Value)}(r:KV kvs vs){i:Nat}{k:ak}{v:V}(h:kvs[i]?=some (k,v)):∃u,vs[i]?=some (k,u)/\RelV v u:=by
 unfold KV at r
 induction r generalizing i with
 | nil=>simp at h
 | @cons p q ps J j O G=>
  cases i with
  | zero=>
   simp at h;subst h;obtain⟨a,b⟩:=q;exact⟨b,by simp;exact j.1.symm,j.2⟩
  | succ i=>exact G (by simpa using h)
theorem afd:entryFor table "dict_itemiterator.__iter__"=some Builtin.«dict_keyiterator.__iter__»:=
 Mq (id':="dict_keyiterator.__iter__") (by kernel_rfl) rfl (by decide +kernel) (by kernel_rfl)
theorem afe{s:Shared}{it:Addr}{i n ep:Nat}{ok J:Value}{Q:VP}(G:IsItemIter s.heap it d i n ep ok J)(h:Q (.ref it) s):wpAny (model prog w) A (pyIter (.ref it)) Q E s:=by
 have j:s.TypeIs (.ref it) "dict_itemiterator":=⟨_,G,rfl⟩;refine X9 j awp (sK awp j afd ?_ (PySem.F.args_dict_itemiterator_iter_1 _));show wpAny _ _ (ret (.ref it)) _ _ s;exact aq ⟨_,rfl,"dict_itemiterator",_,j,PySem.F.slot_dict_itemiterator_next.lookup,h⟩
theorem aff{P:Program}{K:Fg}(d it:Addr)(kvs:List (ak×V))(o:Obj):oJ P w K (.Tuple elts x1 pos) (Pc d kvs o) [it] it (λi h=>∃ok G,IsItemIter h it d i kvs.length (yB o) ok G) where
 mem:=by simp
 obj:=λi h st b j=>by
  have e:b=it:=by simpa using j
  subst e;obtain⟨ok,G,st⟩:=st;exact⟨_,st,λv z=>by
   have z':Data.fields _=Data.cell v:=z;cases z'⟩
 keep:=λi h h' a1 k=>a1.elim λok a2=>a2.elim λG st=>⟨ok,G,k it (by simp) _ st⟩
 item:=by
  intro X hP hw hK hc i ad s Z H E I hf st hg;subst hP hw hK;obtain⟨ok,G,st⟩:=st;obtain⟨hd,aO⟩:=hg;obtain⟨f0,f1,f2,Y,f4,f5⟩:=hf it (by simp);obtain⟨vs,O,lH,hS⟩:=Pd I.hok hd;have J:=O.length;obtain⟨kv,tY⟩:∃kv,kvs[i]?=some kv:=⟨_,hX aO⟩;obtain⟨k,v⟩:=kv;obtain⟨u,hu,ru⟩:=afc O tY;rw[J]at st;refine wpAny_pyNext_items_item st lH hu λa0 h1 lj a3 F3 hsz fE=>⟨.ref s.heap.objs.size,rfl,?_⟩;refine wpAny_letOwnedTupleGo_items a3 λh2 gi U=>?_;have BG:it<s.heap.objs.size:=bH st;have U:Heap.SameBut it h1 h2:=U;have I1:Inv X ad Z H { s with heap:=h2 }:=I.turned (t':=s.toks) (λb ob j e=>(U.2 b j).trans (fE b ob j e)) f0 f1 Y f4 f5;have hn:H s.heap.objs.size=none:=I.hok.fresh (aG _);have fp:=I.fpOk (H':=H) (aG _) hn;have tO:h2.get? s.heap.objs.size=some { cls:=.type "tuple",data:=.seq #[a0,u] }:=(U.2 _ (kU BG)).trans F3;have I2:Inv X ad Z (upd H s.heap.objs.size (.tup [kV k,v])) { s with heap:=h2 }:=by
   refine I1.track hn I.sz fp.2.1 fp.2.2.2.2.1 fp.2.2.2.2.2 ?_;exact⟨by show 2<=sizeLine;decide,[a0,u],.cons (aeX lj) (.cons ru .nil),_,tO,rfl,0,rfl⟩
  refine⟨.ref s.heap.objs.size,_,I2,rfl,⟨k,v,_,tY,hn,rfl,rfl⟩,⟨a0,u,by rw[J];exact gi⟩,λb j=>?_⟩;have e:b=it:=by simpa using j
  subst e;rw[aQ (cX BG)];exact f0
 done:=by
  intro X hP hw hK hc i ad s Z H E I hf st hg;subst hP hw hK;obtain⟨ok,G,st⟩:=st;obtain⟨hd,a6⟩:=hg;obtain⟨f0,f1,f2,Y,f4,f5⟩:=hf it (by simp);obtain⟨vs,O,lH,hS⟩:=Pd I.hok hd;have J:=O.length;rw[J]at st;exact wpAny_pyNext_items_end (I.ok.hd hc) st lH (by rw[List.getElem?_eq_none_iff];omega) λh' eb=>⟨rfl,I.turned (t':=s.toks) (λb o j e=>eb b o j e) f0 f1 Y f4 f5⟩
 self:=λ_ _ _ _ _ a4 h=>a4.elim λok a5=>a5.elim λG st=>afe st h
theorem PE.weak{t:TE}(h:PE X e t):PE X e (λZ H Q=>∃j:VK,t Z H j/\∀v H,j v H->Q v H):=by
 intro ad s Z H Q I ⟨j,q,w⟩;exact L2.thn (h ad s Z H _ I q) λu Y J=>aP J λv H1 G U O=>⟨v,H1,G,U,w _ _ O⟩
theorem PG.weak{g:TG}(h:PG X e g):PG X e (λx Z H Q=>∃j:St->Hp->Prop,g x Z H j/\∀Z H,j Z H->Q Z H):=by
 intro ad s Z H v u Q I r ⟨j,q,w⟩;exact L2.thn (h ad s Z H v u _ I r q) λ_ s1 J=>J.elim λσ1 O=>O.elim λH1 U=>U.elim λG Y=>⟨σ1,H1,G,w _ _ Y⟩
theorem cf.weak{b:List Stmt}{t:TS}(h:cf X b t):cf X b (λD Z H=>∃G:Ends,t G Z H/\(∀Z H,G.nx Z H->D.nx Z H)/\(∀v H,G.rt v H->D.rt v H)/\(∀Z H,G.bk Z H->D.bk Z H)/\∀Z H,G.ct Z H->D.ct Z H):=by
 intro ad s Z H D I ⟨G,q,O,U,Y,w4⟩;refine L2.thn (h ad s Z H G I q) λf s1 j=>?_;cases f with
 | next=>obtain⟨σ1,H1,J,j⟩:=j;exact⟨σ1,H1,J,O _ _ j⟩
 | ret v=>obtain⟨x,σ1,H1,J,r,j⟩:=j;exact⟨x,σ1,H1,J,r,U _ _ j⟩
 | brk=>obtain⟨σ1,H1,J,j⟩:=j;exact⟨σ1,H1,J,Y _ _ j⟩
 | cont=>obtain⟨σ1,H1,J,j⟩:=j;exact⟨σ1,H1,J,w4 _ _ j⟩
theorem afp{o:Expr}{vC apos cj:Pos}{td:TE}(ho:PE X o td)(oR:attributeBase o "items" X.env (eval o X.env)=eval o X.env:=by rfl)(oS:(apos.endLine == cj.line)=true:=by rfl) :
 PI X (.Tuple elts x1 vC) (.Call (.Attribute o "items" apos) [] [] cj) (λZ H R=>td Z H λx H1=>∃d kvs,x=.ref d/\H1 d=some (.dK kvs)/\∀ob,(∀o' u,X.H₀ d≠some (.frz o' u))->R (Pc d kvs ob) (upd H1 d (.frz ob (.dK kvs)))):=by
 intro ad s Z H R I h;refine awd oR oS (thn (ho ad s Z H _ I h) λv j a0=>aP a0 λx H1 G r1 a1=>a1.elim λd a2=>a2.elim λkvs a3=>a3.elim λe a4=>a4.elim λed q=>?_);subst e;cases r1;obtain⟨z,hd,vs,a7,dd⟩:=iB G.hok ed;obtain⟨h1,h2⟩:=Fm G (x:=.ref d) rfl (T:="dict") (.inr (.inr (.inl ⟨rfl,.inl ⟨kvs,ed⟩⟩)));refine⟨"dict","dict.items",xJ,awq,PySem.F.type_dict_items,h1,h2,AL rfl (PySem.evalArgs_none ?_)⟩;refine sV awq dd.typeIs PySem.F.entry_dict_items (PySem.F.args_dict_items_1 _) (meets_dict_items (ce X.prog X.w) d hd) ⟨⟨vs,dd⟩,?_⟩;have yC:=dd.push { cls:=.type "dict_items",data:=.fields #[.ref d] };obtain⟨ob,es,ep,Y,hc,O,rest⟩:=id yC;have lH:(j.heap.push { cls:=.type "dict_items",data:=.fields #[.ref d] }).DictAt (ce X.prog X.w) d vs ep:=⟨ob,es,Y,hc,O,rest⟩;have J:Inv X ad Z H1 { j with heap:=j.heap.push { cls:=.type "dict_items",data:=.fields #[.ref d] } }:=G.kept (t':=j.toks) λb o e=>b9 _ e;refine wpAny_pyIter_items (s:={ j with heap:=j.heap.push { cls:=.type "dict_items",data:=.fields #[.ref d] } }) ⟨_,dL _ rfl,rfl,rfl⟩ lH ?_;have a5:yB ob=ep:=by unfold yB;rw[O]
 have a6:=a7.length;have I3:Inv X ad Z H1 { j with heap:=(j.heap.push { cls:=.type "dict_items",data:=.fields #[.ref d] }).push { cls:=.type "dict_itemiterator",data:=.fields #[.none,.bool false,.ref d,.int 0 0,.int vs.length 0,.int ep 0,.none,.none] } }:=
  J.kept (t':=j.toks) λb o e=>b9 _ e
 have U:=J.hok.fresh (aG (j.heap.push { cls:=.type "dict_items",data:=.fields #[.ref d] }).objs.size);have hz:∀o' u,X.H₀ d≠some (.frz o' u):=λo' u hq=>by
  have:=G.base.frzs d o' u hq;rw[ed]at this;cases this
 refine⟨_,[_],_,_,_,rfl,I3.freeze ed (b9 _ Y),aff d _ kvs ob,⟨.none,.none,?_⟩,λb hb=>?_,q ob hz⟩
 . show Heap.get? _ _=_;rw[a5,a6];exact dL _ rfl
 have e:b=(j.heap.push { cls:=.type "dict_items",data:=.fields #[.ref d] }).objs.size:=by simpa using hb
 subst e;refine J.fpOk (aG _) ?_;rw[aQ (fw (aH ed U))];exact U
def afw(td:TE)(g:TG)(tb:TS):TS:=λD Z H=>td Z H λx H1=>∃d kvs,x=.ref d/\H1 d=some (.dK kvs)/\∀ob,∃W:Nat->Nat->St->Hp->Prop,(∃m,W 0 m Z (upd H1 d (.frz ob (.dK kvs))))/\∀i m Z H,W i m Z H ->
 H d=some (.frz ob (.dK kvs))/\((kvs.length<=i/\D.nx Z (upd H d (.dK kvs)))\/(i<kvs.length/\∃N:St->Hp->Prop,(∀σ' H',N σ' H'->∃m',m'<m/\W (i+1) m' σ' H') /\
  ∀k v p,kvs[i]?=some (k,v)->H p=none->g (.ref p) Z (upd H p (.tup [kV k,v])) λσ2 H2=>
   tb { nx:=N,ct:=N,bk:=λσ' H'=>H' d=some (.frz ob (.dK kvs))/\D.nx σ' (upd H' d (.dK kvs)),rt:=λj H'=>H' d=some (.frz ob (.dK kvs))/\D.rt j (upd H' d (.dK kvs)) } σ2 H2))
theorem F4{o:Expr}{vC apos cj:Pos}{td:TE}{g:TG}{tb:TS}{body:List Stmt}(G:PassesOwn (model X.prog X.w) X.A X.env X.xe)(hc:X.calm=true)(ho:PE X o td)(hg:PG X (.Tuple elts x1 vC) g)(hb:cf X body tb)
 (oR:attributeBase o "items" X.env (eval o X.env)=eval o X.env:=by rfl) (oS:(apos.endLine == cj.line)=true:=by rfl) (hs:∀x,foldedSetIterable (.Call (.Attribute o "items" apos) [] [] cj) X.env x=pure x:=by intro _;rfl) :
 PS X (.For (.Tuple elts x1 vC) (.Call (.Attribute o "items" apos) [] [] cj) body [] pos) (afw td g tb):=by
 intro ad s Z H D I h;refine thn (eK (X:=X) G hc (afp ho.weak oR oS) hg.weak hb.weak hs ad s Z H
  { nx:=λσ' H'=>∃d kvs ob,H' d=some (.frz ob (.dK kvs))/\(∀o' u,X.H₀ d≠some (.frz o' u))/\D.nx σ' (upd H' d (.dK kvs)),rt:=λJ H'=>∃d kvs ob,H' d=some (.frz ob (.dK kvs))/\(∀o' u,X.H₀ d≠some (.frz o' u))/\D.rt J (upd H' d (.dK kvs)) } I ?_) λf s' q=>?_
 . refine⟨_,h,λx H1 a7=>a7.elim λd a8=>a8.elim λkvs a9=>a9.elim λe U=>U.elim λed q=>⟨d,kvs,e,ed,λob hz=>?_⟩⟩;obtain⟨W,w0,ab⟩:=q ob;refine⟨W,w0,λi m Z H hw=>?_⟩;obtain⟨hd,c | ⟨O,N,hN,step⟩⟩:=ab i m Z H hw
   . exact .inl ⟨⟨hd,c.1⟩,d,kvs,ob,hd,hz,c.2⟩
   refine .inr ⟨⟨hd,O⟩,N,hN,λx H' Y=>Y.elim λk a0=>a0.elim λv a1=>a1.elim λp a2=>a2.elim λhk a3=>a3.elim λG a4=>a4.elim λe eH=>?_⟩;subst e eH;exact⟨_,step k v p hk G,λσ2 H2 q2=>⟨_,q2,λ_ _ z=>z,λJ H' a5=>a5.elim λa b=>⟨d,kvs,ob,a,hz,b⟩,λσ' H' a6=>a6.elim λa b=>⟨d,kvs,ob,a,hz,b⟩,λ_ _ z=>z⟩⟩
 cases f with
 | next=>
  obtain⟨σ',H',j,d,kvs,ob,hd,hz,q⟩:=q;exact⟨σ',_,j.thaw hd hz,q⟩
 | ret v=>
  obtain⟨x,σ',H',j,r,d,kvs,ob,hd,hz,q⟩:=q;exact⟨x,σ',_,j.thaw hd hz,r,q⟩
 | brk=>obtain⟨_,_,_,q⟩:=q;exact q.elim
 | cont=>obtain⟨_,_,_,q⟩:=q;exact q.elim
theorem BH:Slot "set_iterator" "__next__" "set_iterator.__next__":=
 .of (owner:="set_iterator") (n:="__next__") (by rw[Ya,Yb];kernel_rfl) (by decide +kernel) (by decide +kernel) (by decide +kernel)
  (by first | exact .inl (by decide +kernel) | exact .inr (by decide +kernel)) (by rw[Yc];kernel_rfl)
theorem Pe:Slot "set_iterator" "__iter__" "set_iterator.__iter__":=
 .of (owner:="set_iterator") (n:="__iter__") (by rw[Ya,Yb];kernel_rfl) (by decide +kernel) (by decide +kernel) (by decide +kernel)
  (by first | exact .inl (by decide +kernel) | exact .inr (by decide +kernel)) (by rw[Yc];kernel_rfl)
theorem afJ:entryFor table "set_iterator.__next__"=some Builtin.«set_iterator.__next__»:=entryFor_of_tree (by kernel_rfl)
theorem afK:entryFor table "set_iterator.__iter__"=some Builtin.«dict_keyiterator.__iter__»:=Mq (id':="dict_keyiterator.__iter__") (by kernel_rfl) rfl (by decide +kernel) (by kernel_rfl)
theorem afL:entryFor table "set.__iter__"=some Builtin.«frozenset.__iter__»:=Mq (id':="frozenset.__iter__") (by kernel_rfl) rfl (by decide +kernel) (by kernel_rfl)
theorem Pf:Manifest.owners.lookup (String.ofList ['r','o','t','a','r','e','t','i','_','t','e','s'].reverse)=some Manifest.sig_set_iterator:=by kernel_rfl
theorem afM(a:Value):argsOk "set_iterator.__next__" ⟨[a],[]⟩:=by
 unfold argsOk;rw[signature?_of (id:="set_iterator.__next__") (n:=['_','_','t','x','e','n','_','_']) (o:=['r','o','t','a','r','e','t','i','_','t','e','s']) (by kernel_rfl) Pf];kernel_rfl
theorem afN(a:Value):argsOk "set_iterator.__iter__" ⟨[a],[]⟩:=by
 unfold argsOk;rw[signature?_of (id:="set_iterator.__iter__") (n:=['_','_','r','e','t','i','_','_']) (o:=['r','o','t','a','r','e','t','i','_','t','e','s']) (by kernel_rfl) Pf];kernel_rfl
section
variable {s:Shared}{a it:Addr}{ep:Nat}{t:SetTable}
theorem afO:typeLookup (.type "set") "__len__"=pure (some (.builtin "set.__len__")):=by rw[Ya,Yb];kernel_rfl
theorem afP{Q:Bool->Shared->Prop}(j:s.TypeIs (.ref a) "set")(h:Q false s):wpAny (model prog w) A (Builtin.List.listLengthHint (.ref a)) Q E s:=by
 unfold Builtin.List.listLengthHint;refine ae (AG j afO ?_);generalize J:("set.__len__":String)=O
 wp_delta
 rw[show splitId O=some ("set","__len__") from by subst J;decide +kernel];subst J;refine ae (ou (T:="set") (b:=true) j (by rw[Yc];kernel_rfl) ?_);refine Yd (λG=>absurd G (by decide)) (λ_=>?_);refine Yd (λ_=>?_) (λG=>absurd (by decide +kernel) G);refine ae (Mr j ?_);exact aq h
end
section
theorem kC:PE X (.Dict [] [] pos) (λ_ H Q=>d5 H (.dK []) Q):=λad s Z H Q I h=>acs ad s Z H Q I h.at
theorem afQ:PE X (.Dict [] [] pos) (λ_ H Q=>d5 H (.dT []) Q):=λad s Z H Q I h=>act ad s Z H Q I h.at
theorem i8(K:Fg){f:Str}{ta:TE}(G:PE X e ta)(j:attributeBase e f X.env (eval e X.env)=eval e X.env)(h:X.K=K:=by rfl):PE X (.Attribute e f pos) (NE K ta f):=h▸bK G j
def afR:V->Lv->Hp->VK->Prop:=λx vs H Q=>∃a b kvs j,x=.ref a/\vs=[.ref b]/\a≠b/\H a=some (.dK kvs)/\H b=some (.dK j)/\kvs.length+j.length<=sizeLine/\Q .non (upd H a (.dK (mz kvs j)))
theorem afS:nv X "dict.update" afR:=by
 intro ad s Z H x xs v us Q I rx rs h;obtain⟨a,b,kvs,a2,rfl,rfl,j9,G,eb,J,q⟩:=h;cases rx;cases rs with
 | cons r1 r2=>
  cases r2;cases r1;obtain⟨z,hd,vs,U,dd⟩:=iB I.hok G;obtain⟨z',jD,ws,O,fC⟩:=iB I.hok eb;refine sV awr dd.typeIs PySem.F.entry_dict_update (PySem.F.args_dict_update_2 _ _) (meets_dict_update (ce X.prog X.w) a b j9 jD) ⟨vs,ws,dd,fC,by rw[<-U.length,<-O.length];exact J,λh' j _ hs=>?_⟩;have he:∃q,h'.get? a=some q:=j.elim λq Y=>Y.elim λ_ a0=>a0.elim λ_ a1=>a1.elim λhq _=>⟨q,hq⟩;exact⟨.non,_,vF I (ob:=.dK (mz kvs a2)) (by rw[G];exact True.intro) hs he (vG (b8 (Fu _ _) J) hd (O.merge U) j),rfl,q⟩
theorem afW(U:X.A.units<cLine):cK X (compareOp .NotEq) (λx y H Q=>∃a b kvs,x=.ref a/\y=.ref b/\H a=some (.dK kvs)/\H b=some (.dK [])/\Q (.bl (!kvs.isEmpty)) H):=by
 intro ad s Z H x y v u Q I rx ry h;obtain⟨a,b,kvs,rfl,rfl,G,J,q⟩:=h;cases rx;cases ry;obtain⟨_,hd,vs,a0,dd⟩:=iB I.hok G;obtain⟨_,Y,kD,nG,O⟩:=iB I.hok J;cases nG;refine W.keq_ne (knd:=ce X.prog X.w) (r:=true) hd Y dd O U (λe=>?_) ⟨.bl _,H,I,rfl,?_⟩
 . have:vs=[]:=xM.mp e;subst this;exact .nil
 have j:=a0.length;have e:(vs.length == ([]:List (ak×Value)).length && true)=kvs.isEmpty:=by
  cases kvs with
  | nil=>rw[<-j];rfl
  | cons p r=>rw[<-j];rfl
 rw[e];exact q
theorem afX(x:Str):Str.empty++x=x:=by
 obtain⟨c⟩:=x;show(⟨#[]++c⟩:Str)=⟨c⟩;rw[Array.empty_append]
variable {e1 e2:Expr}{te t1 t2:TE}
inductive Pj (Q:VK) (H1:Hp):V->Prop where
 | mk {y:Str} (_:y.length<=sizeLine) (_:Q (.str y) H1):Pj Q H1 (.str y)
def afY(te:TE):TE:=λZ H Q=>te Z H λx H1=>Pj Q H1 x
theorem yD(O:PE X e te):PE X (.FormattedValue e (-1) none pos) (afY te):=by
 intro ad s Z H Q I h;refine FormattedValue_plain (thn (O ad s Z H _ I h) λv s1 J=>aP J λx H1 G Y j=>?_);obtain @⟨y,U,q⟩:=j;obtain⟨t,rfl⟩:=Y;exact formatField_str (λt' tk=>⟨.str y,H1,G.tok _,⟨_,rfl⟩,q⟩) U
inductive Pk (t2:TE) (Z:St) (Q:VK) (H1:Hp):V->Prop where
 | mk {x:Str} (_:x.length<=sizeLine) (_:t2 Z H1 λb H2=>∃y,b=.str y/\x.length+y.length<=sizeLine/\Q (.str (x++y)) H2):Pk t2 Z Q H1 (.str x)
def af0(t1 t2:TE):TE:=λZ H Q=>t1 Z H λa H1=>Pk t2 Z Q H1 a
theorem vS(h1:PE X e1 t1)(h2:PE X e2 t2):PE X (.JoinedStr [e1,e2] pos) (af0 t1 t2):=by
 intro ad s Z H Q I h;refine JoinedStr_many (joinParts_cons (thn (h1 ad s Z H _ I h) λv j U=>aP U λa H1 J r1 G=>?_));obtain @⟨x,hx,q1⟩:=G;obtain⟨t,rfl⟩:=r1;show(Str.empty++x).length<=sizeLine/\wpAny _ _ (joinParts (Str.empty++x) (eval e2 X.env::evalEach [] X.env)) _ _ j;rw[afX];refine⟨hx,joinParts_cons (thn (h2 ad j Z H1 _ J q1) λv s2 Y=>aP Y λb H2 O r2 a0=>?_)⟩;obtain⟨y,ey,hl,q2⟩:=a0;subst ey;obtain⟨t',rfl⟩:=r2;have hz:(x++y).length<=sizeLine:=by rw[ku];exact hl
 exact⟨hz,joinParts_nil ⟨.str (x++y),H2,O.tok _,⟨_,rfl⟩,q2⟩ hz⟩
end
end
section
theorem vT{X:Cx}{st:Stmt}{j:List Stmt}{t u:TS}(h1:PS X st t)(h2:cf X j u):cf X (st::j) (λD Z H=>∃P:St->Hp->Prop,t { D with nx:=P } Z H/\∀σ' H',P σ' H'->u D σ' H'):=by
 intro ad s Z H D I ⟨P,a,b⟩;exact Bx P h1 h2 ad s Z H D I ⟨a,b⟩
variable {t1 t2 t3 t4 t5 t6 t7 t8:TS}{D:Ends}{Z:St}{H:Hp}{X:Cx}{w:World}{K:Fg}{tk:Tok}
theorem ju(h:let d:=D;let s:=Z;let j:=t2;aM t1 j d s H):aM t1 (t2) D Z H:=h
theorem i9(h:let d:=D;let s:=Z;let G:=t3;let j:=aM t2 G;aM t1 j d s H):aM t1 (aM t2 (t3)) D Z H:=h
theorem lI(h:let d:=D;let s:=Z;let J:=t4;let G:=aM t3 J;let j:=aM t2 G;aM t1 j d s H):aM t1 (aM t2 (aM t3 (t4))) D Z H:=h
theorem F5(h:let d:=D;let s:=Z;let O:=t5;let J:=aM t4 O;let G:=aM t3 J;let j:=aM t2 G;aM t1 j d s H):aM t1 (aM t2 (aM t3 (aM t4 (t5)))) D Z H:=h
theorem yE(h:let d:=D;let s:=Z;let U:=t6;let O:=aM t5 U;let J:=aM t4 O;let G:=aM t3 J;let j:=aM t2 G;aM t1 j d s H):aM t1 (aM t2 (aM t3 (aM t4 (aM t5 (t6))))) D Z H:=h
theorem af4(h:let d:=D;let s:=Z;let Y:=t7;let U:=aM t6 Y;let O:=aM t5 U;let J:=aM t4 O;let G:=aM t3 J;let j:=aM t2 G;aM t1 j d s H):aM t1 (aM t2 (aM t3 (aM t4 (aM t5 (aM t6 (t7)))))) D Z H:=h
theorem af5(h:let d:=D;let s:=Z;let u8:=t8;let Y:=aM t7 u8;let U:=aM t6 Y;let O:=aM t5 U;let J:=aM t4 O;let G:=aM t3 J;let j:=aM t2 G;aM t1 j d s H):aM t1 (aM t2 (aM t3 (aM t4 (aM t5 (aM t6 (aM t7 (t8))))))) D Z H:=h
theorem af6{j:TS}(h:let d:=D;let s:=Z;let u9:=j;let u8:=aM t8 u9;let u7:=aM t7 u8;let Y:=aM t6 u7;let U:=aM t5 Y;let O:=aM t4 U;let J:=aM t3 O;let G:=aM t2 J;aM t1 G d s H):aM t1 (aM t2 (aM t3 (aM t4 (aM t5 (aM t6 (aM t7 (aM t8 (j)))))))) D Z H:=h
theorem af7{G j:TS}(h:let d:=D;let s:=Z;let J:=j;let u9:=aM G J;let u8:=aM t8 u9;let u7:=aM t7 u8;let u6:=aM t6 u7;let u5:=aM t5 u6;let Y:=aM t4 u5;let U:=aM t3 Y;let O:=aM t2 U;aM t1 O d s H):aM t1 (aM t2 (aM t3 (aM t4 (aM t5 (aM t6 (aM t7 (aM t8 (aM G (j))))))))) D Z H:=h
theorem tZ{b:List PySem.Stmt}(h:let x:=X;let d:=D;∃t,cf x b t/\t d Z H):∃t,cf X b t/\t D Z H:=h
section
theorem aV{N P:Ls}{sc:Scope}(a:sc.kind=.function:=by rfl)(b:sc.isCoroutine=false:=by rfl)(c:sc.isGenerator=false:=by rfl)(d:N.Nodup:=by decide +kernel)(e:N.take P.length=P:=by rfl)(f:∀x∈P,sc.names.lookup x=some .local\/sc.names.lookup x=some .cell:=by decide +kernel)(g:∀y∈sc.names,y.2≠.free:=by decide +kernel):aN N P sc:=⟨a,b,c,d,e,f,g⟩
theorem eF{own bj:Ls}{js:List Nat}{sc:Scope}(a:sc.kind=.function:=by rfl)(b:∀y∈sc.names,y.2≠.cell:=by decide +kernel)(c:∀y∈sc.names,y.2=.local->sc.names.lookup y.1=some .local:=by decide +kernel)(d:(own++bj).Nodup:=by decide +kernel)(e:∀y∈sc.names,y.2=.free->y.1∈bj:=by decide +kernel)(f:js.map (λj=>X.N[j]?)=bj.map some:=by rfl)(g:bj.map X.env.kindOf=bj.map λ_=>some NameKind.cell:=by rfl)(h:bj.map (λx=>(relabel sc X.env).names.lookup x)=bj.map λ_=>some NameKind.cell:=by rfl):lF X own bj js sc:=⟨a,b,c,d,e,f,g,h⟩
theorem cq.okL{P:Program}{mg:Mv}{base:Heap}{x a_:Str}{st:Stmt}{f:Addr}{fd:Fy}{N ps:Ls}{k:Nat}{sp:Sp}(F:cq K x a_ st f fd)(S:aN N ps (au st))(G:∀(j:Value) (A:Around) (outer:List Env) (s:Shared) (H:Hp) (vs:Lv) (Q:VK) (E:XK),ci k (A.deeper (envOfC a_ (au st) s.heap.objs.size f j))->sp vs H Q E->let y:=(lq aJ P w K mg base N a_ (au st) f j A outer s H E).nox;let d:Ends:={ nx:=λ_ H'=>Q .non H',rt:=Q };∃t,cf y (cM st) t/\t d (start N vs) H)(len:∀vs H Q E,sp vs H Q E->vs.length=ps.length:=by intro _ _ _ _ h;(cases h;rfl)):aA P w K mg base aJ (k+1) f fd ps sp:=F.ok S len G
end
section
variable {a b c d:Expr}{ta tb tc td:TE}
theorem ao(j:PE X a ta)(G:starEach [a] X.env=(false,eval a X.env)::starEach [] X.env:=by rfl):PA X [a] (fU ta (fT)):=gk j dG G
theorem aL(j:PE X a ta)(G:PE X b tb)(J:starEach [a,b] X.env=(false,eval a X.env)::starEach [b] X.env:=by rfl)(O:starEach [b] X.env=(false,eval b X.env)::starEach [] X.env:=by rfl):PA X [a,b] (fU ta (fU tb (fT))):=gk j (gk G dG O) J
theorem d6(j:PE X a ta)(G:PE X b tb)(J:PE X c tc)(O:starEach [a,b,c] X.env=(false,eval a X.env)::starEach [b,c] X.env:=by rfl)(U:starEach [b,c] X.env=(false,eval b X.env)::starEach [c] X.env:=by rfl)(sc:starEach [c] X.env=(false,eval c X.env)::starEach [] X.env:=by rfl):PA X [a,b,c] (fU ta (fU tb (fU tc (fT)))):=gk j (gk G (gk J dG sc) U) O
theorem q5(j:PE X a ta)(G:PE X b tb)(J:PE X c tc)(hd:PE X d td)(O:starEach [a,b,c,d] X.env=(false,eval a X.env)::starEach [b,c,d] X.env:=by rfl)(U:starEach [b,c,d] X.env=(false,eval b X.env)::starEach [c,d] X.env:=by rfl)(sc:starEach [c,d] X.env=(false,eval c X.env)::starEach [d] X.env:=by rfl)(Y:starEach [d] X.env=(false,eval d X.env)::starEach [] X.env:=by rfl):PA X [a,b,c,d] (fU ta (fU tb (fU tc (fU td fT)))):=gk j (gk G (gk J (gk hd dG Y) sc) U) O
end
theorem bq{p:Prop}(h:let T:=p;T):p:=h
theorem ub{g:TG}{tb:TS}{E:Ends}{x:V}(h:let e:=E;let s:=Z;g x s H λσ2 H2=>tb e σ2 H2):g x Z H λσ2 H2=>tb E σ2 H2:=h
open PySem.W PySem.Builtin PySem.Builtin.ObjectAttr PySem.Builtin.Getset_descriptor
abbrev pi (a:Addr) (c:Value):HO:=.ext λh=>∃o,h.get? a=some o/\o.cls=c
theorem af8{P:Program}{h:Heap}{a:Addr}{c:Value}(e:∃o,h.get? a=some o/\o.cls=c):bX P w H h a (pi a c):=by
 obtain⟨o,e1,e2⟩:=e;exact⟨⟨o,e1,e2⟩,⟨o,e1⟩,λh1 h2 z k=>by
  obtain⟨o',x,y⟩:=z;exact⟨o',k _ x,y⟩⟩
abbrev Pm:Lw:=[.type "ValueError",.type "Exception",.type "BaseException",.type "object"]
structure uc(K:Fg)(C:Addr):Prop where
 exc:W.excIn K C Pm "ValueError.__new__"=true
 ga:W.findIn K (.ref C) "__getattribute__"=some (some (.builtin "BaseException.__getattribute__"))
 gh:W.findIn K (.ref C) "__getattr__"=some none
 cls:W.findIn K (.ref C) "__class__"=some (some (.builtin "object.__class__"))
 spc:W.specialIn K (.builtin "object.__class__") "__get__"=some (some (.builtin "getset_descriptor.__get__"))
 tak:W.takesIn K (.builtin "object.__class__")=some true
 mro:W.mroIn K C (.type "object")=some true
 mrb:W.mroIn K C (.type "BaseException")=some true
structure lJ(K:Fg)(C:Addr):Prop where
 ga:W.findIn K (.ref C) "__getattribute__"=some (some (.builtin "BaseException.__getattribute__"))
 gh:W.findIn K (.ref C) "__getattr__"=some none
 cls:W.findIn K (.ref C) "__class__"=some (some (.builtin "object.__class__"))
 spc:W.specialIn K (.builtin "object.__class__") "__get__"=some (some (.builtin "getset_descriptor.__get__"))
 tak:W.takesIn K (.builtin "object.__class__")=some true
 mro:W.mroIn K C (.type "object")=some true
 mrb:W.mroIn K C (.type "BaseException")=some true
theorem uc.c0{C:Addr}(x:uc K C):lJ K C:=⟨x.ga,x.gh,x.cls,x.spc,x.tak,x.mro,x.mrb⟩
section
variable {D a:Addr}{M:Model}{h:Heap}
theorem lJ.there(x:lJ K D):∃cd,W.clsIn K D=some cd:=by
 have e:=x.mro;unfold W.mroIn at e;obtain⟨cd,q,_⟩:=Option.bind_eq_some_iff.mp e;exact⟨cd,q⟩
theorem lJ.obj(x:lJ K D):∃c d cd j,K.lookup D=some ⟨c,d,.cls cd,j⟩:=by
 obtain⟨cd,e⟩:=x.there;unfold W.clsIn at e;split at e
 . exact⟨_,_,_,_,‹_›⟩
 cases e
theorem BI(e:∃o,h.get? a=some o/\o.cls=.ref D):Looks M h (typeOf (.ref a)) (.ref D):=by
 obtain⟨o,e1,e2⟩:=e;exact e2▸(Looks.ld e1).andThen .now
end
section
variable {prog:Program}{A:Around}{E:VP}{s:Shared}{D a:Addr}
theorem af9{R:Result->Shared->Prop}{j:Value}(x:lJ K D)(X:K.In s.heap)(p:∃o,s.heap.get? a=some o/\o.cls=.ref D)(q:R (.ok (.ret (.ref D))) s) :
 codeAny (model prog w) A (.call (.builtin "getset_descriptor.__get__") ⟨[.builtin "object.__class__",.ref a,j],[]⟩) R s:=by
 obtain⟨J,gg,dr,tk,os⟩:=s;have LT:=BI (M:=model prog w) p;have G:=looks_mroIn (M:=model prog w) X x.mro;refine Ye KF.slot_gs.plain KF.entry_gs
  (KF.slot_gs.check _ _ _ _ _ _ _ _ KF.type_class (KF.args_gs _ _ _) ?_)
 unfold Builtin.«getset_descriptor.__get__»;unfold descrGet;rw[dga_obj];refine ae (aq ?_);unfold descrGetter descrCheckInstance;unfold descrNameAndClass isInstance;simp only[KF.owner_class]
 repeat lk
 refine⟨Code.quiet_builtin _ (by decide +kernel),
  qB KF.entry_class ?_⟩
 unfold Builtin.«object.__class__»;unfold shownTypeOf
 repeat lk
 exact q
theorem aga(x:lJ K D){Q:PySem.Fin->Shared->Prop}(X:K.In s.heap)(p:∃o,s.heap.get? a=some o/\o.cls=.ref D)(q:Q (.done (.ret (.ref D))) s) :
 wpAny (model prog w) A (Builtin.«object.__getattribute__» ⟨[.ref a,.str "__class__" tk],[]⟩) Q E s:=by
 obtain⟨j,gg,dr,tt,os⟩:=s;have LT:=BI (M:=model prog w) p;have G:Looks (model prog w) j (find (.ref a) (.ref D) "__class__") (.bind (.builtin "getset_descriptor.__get__") (.builtin "object.__class__")):=
  (Yf X x.cls).andThen ((looks_specialIn X x.spc).andThen ((show Looks (model prog w) j (dataDescriptor? (some (.builtin "object.__class__")) (some (.builtin "getset_descriptor.__get__"))) (some (.builtin "getset_descriptor.__get__",.builtin "object.__class__")) from (looks_takesIn X x.tak).andThen .now).andThen (Looks.tag .now)))
 unfold Builtin.«object.__getattribute__»
 repeat (any_goals (first | assumption | with_reducible refine LT.at ?_ | with_reducible refine G.at ?_ | wp_step))
 refine af9 x X p ?_
 repeat (any_goals (first | assumption | wp_step))
theorem agb(x:lJ K D){j:Value}{Q:Unit->Shared->Prop}(X:K.In s.heap)(p:∃o,s.heap.get? a=some o/\o.cls=.ref D)(q:Q () s) :
 wpAny (model prog w) A (checkBuiltinCall "BaseException.__getattribute__" ⟨[.ref a,j],[]⟩) Q E s:=by
 obtain⟨hh,gg,dr,tt,os⟩:=s;have O:builtinKind "BaseException.__getattribute__"=some .slot:=by decide +kernel
 have Y:splitId "BaseException.__getattribute__"=some ("BaseException","__getattribute__"):=by decide +kernel
 have G:=looks_mroIn (M:=model prog w) X x.mrb;obtain⟨o,U,J⟩:=id p;have ha:=F.args_bexc_ga (.ref a) j;simp only[checkBuiltinCall,O,Y];refine ae ?_;unfold isInstance
 repeat (first | (with_reducible refine wpAny_loadPart_at U ?_;rw[J]) | with_reducible refine G.at ?_ | wp_step)
 exact q
theorem agc(x:lJ K D){R:Result->Shared->Prop}(X:K.In s.heap)(p:∃o,s.heap.get? a=some o/\o.cls=.ref D)(q:R (.ok (.ret (.ref D))) s) :
 codeAny (model prog w) A (.call (.builtin "BaseException.__getattribute__") ⟨[.ref a,.str "__class__" tk],[]⟩) R s:=
 Ye F.excAttr_ValueError.ga.plain F.entry_bexc_ga (agb x X p (aga x X p q))
theorem agd(x:lJ K D){Q:VP}(X:K.In s.heap)(p:∃o,s.heap.get? a=some o/\o.cls=.ref D)(q:Q (.ref D) s) :
 wpAny (model prog w) A (getAttrBy (.ref a) (.str "__class__" tk) false) Q E s:=by
 obtain⟨hh,gg,dr,tt,os⟩:=s;have LT:=BI (M:=model prog w) p;have j:=Yf (M:=model prog w) X x.ga;have G:=Yf (M:=model prog w) X x.gh;have Y:=F.excAttr_ValueError.ga.bind (.ref a);have O:(false && onTheHeap (Value.builtin "BaseException.__getattribute__"))=false:=rfl;have J:(Value.builtin "BaseException.__getattribute__" == Value.builtin "object.__getattribute__")=false:=by decide +kernel
 have U:(onTheHeap (Value.ref D) && Value.builtin "BaseException.__getattribute__" == Value.builtin "object.__getattribute__")=false:=by rw[J];rfl
 repeat (any_goals (first | assumption | with_reducible refine LT.at ?_ | with_reducible refine j.at ?_ | with_reducible refine G.at ?_ | wp_step))
 refine agc x X p ?_
 repeat (any_goals (first | assumption | wp_step))
theorem age(x:lJ K D){Q:Option Value->Shared->Prop}(X:K.In s.heap)(p:∃o,s.heap.get? a=some o/\o.cls=.ref D)(q:Q (some (.ref D)) { s with toks:=s.toks+1 }) :
 wpAny (model prog w) A (getAttr? (.ref a) "__class__") Q E s:=by
 obtain⟨j,gg,dr,tt,os⟩:=s;unfold getAttr?;refine ae (wpAny_mkText ?_);unfold getAttrBy?;refine ae (wpAny_attempt (agd x X p ?_));exact aq q
theorem Ps(x:lJ K D):W.KitX K (.ref a) (.ref D) (λh=>∃o,h.get? a=some o/\o.cls=.ref D) where
 ty:=λ_ _ _ p=>BI p
 it:=λM h X _=>by
  obtain⟨c,d,cd,G,e⟩:=x.obj;intro O Y U s' k q;unfold isType loadHead;exact ae (wpAny_loadPart (k _ _ (X _ _ e)) (aq q))
 ne:=λh J dd b_ n G X e=>by
  obtain⟨c,d,cd,qK,j⟩:=x.obj;refine qx.mpr λq=>?_;obtain rfl:D=J:=Value.ref.inj (jZ.mp q);cases (X _ _ j).symm.trans e
 ca:=λX p q=>age x X p q
end
end
section
open PySem.W
variable {P:Program}{w:World}{h:Heap}{a C:Addr}{ad:Po}{s:Shared}{x:Str}{pos:Pos}
theorem bX.obj{H:Hp}{o:HO}(x:bX P w H h a o):∃u,h.get? a=some u:=by
 cases o with
 | lst xs=>obtain⟨_,_,_,_,e⟩:=x;exact⟨_,e⟩
 | tup xs=>obtain⟨_,_,_,ob,e,_⟩:=x;exact⟨_,e⟩
 | dK kvs=>obtain⟨_,_,_,_,o,_,_,e,_⟩:=x;exact⟨_,e⟩
 | dT kvs=>obtain⟨_,_,_,_,o,_,_,e,_⟩:=x;exact⟨_,e⟩
 | set S n=>obtain⟨o,_,_,_,e,_⟩:=x;exact⟨_,e⟩
 | ins C dx fs=>obtain⟨_,_,_,e,_⟩:=x;exact⟨_,e⟩
 | own y=>obtain⟨_,e⟩:=x;exact⟨_,e⟩
 | xd fs=>obtain⟨_,⟨_,_,_,e,_⟩,_⟩:=x;exact⟨_,e⟩
 | rng lo hi=>obtain⟨_,_,_,e⟩:=x;exact⟨_,e⟩
 | frz ob u=>obtain⟨e,_⟩:=x;exact⟨_,e⟩
 | tbl ps=>exact⟨_,(show h.get? a=some _ from x)⟩
 | met f y=>exact⟨_,(show h.get? a=some _ from x)⟩
 | ext φ=>obtain⟨_,⟨_,e⟩,_⟩:=x;exact⟨_,e⟩
structure mG(l:List Env)(B:Heap)(H:Hp)(h0 h h':Heap):Prop where
 big:∀b o,h.get? b=some o->((H b).isSome=true\/∃o',h0.get? b=some o')->b∉cJ l->B.get? b=some o
 stay:B.StaysIn h'
 slots:∀b o,h.get? b=some o->b∈cJ l->∃sl,h'.get? b=some { o with slots:=sl }
section
variable {l:List Env}{B:Heap}{H H0:Hp}{h0 h' F6:Heap}
theorem mG.at(f:mG l B H h0 h h'){b:Addr}{o:Obj}(e:h.get? b=some o)(t:(H b).isSome=true\/∃o',h0.get? b=some o')(n:b∉cJ l):h'.get? b=some o:=f.stay _ _ (f.big b o e t n)
theorem mG.hok(f:mG l B H h0 h h')(ok:cr P w H h)(G:∀b∈cJ l,H b=none):cr P w H h':=λb o e=>by
 have j:∀c u,H c=some u->c∉cJ l:=λc u q z=>by rw[G c z]at q;cases q
 refine(ok b o e).stay (λc u hc q=>?_) (λ_ q=>q) λ_ _ q=>q
 rcases hc with rfl | hc
 . exact f.at q (.inl (by rw[e];rfl)) (j _ _ e)
 exact f.at q (.inl (by rw[hc];rfl)) (j _ _ hc)
theorem mG.un{fs:List Addr}(f:mG l B H h0 h h')(u:Un fs [] H0 H h0 h)(hs:∀b∈cJ l,b∈fs\/h0.get? b=none)(O:∀b∈fs,b∈cJ l):Un fs [] H0 H h0 h' where
 keep:=λb o q n j G=>f.at (u.keep b o q n j G) (.inr ⟨o,q⟩) λz=>by
  rcases hs b z with y | y
  . exact j y
  rw[y]at q;cases q
 slot:=λb o q n j G=>by
  obtain⟨Y,e⟩:=u.slot b o q n j G;obtain⟨U,J⟩:=f.slots b _ e (O b j);exact⟨U,J⟩
 free:=u.free
 there:=λb o q G=>by
  obtain⟨o',e⟩:=u.there b o q G
  by_cases j:b∈cJ l
  . obtain⟨Y,J⟩:=f.slots b _ e j;exact⟨_,J⟩
  exact⟨o',f.at e (.inr ⟨o,q⟩) j⟩
 tups:=u.tups
 frzs:=u.frzs
 tbls:=u.tbls
theorem mG.on(f:mG l B H h0 h h')(st:B.StaysIn F6)(U:h'.UpToSlots F6)(G:∀b o,h.get? b=some o->b∈cJ l->∀vs,o.data≠.fields vs):mG l B H h0 h F6:=⟨f.big,st,λb o e j=>by
 obtain⟨Y,q⟩:=f.slots b o e j;obtain⟨O,J⟩:=U b _ q (G b o e j);exact⟨O,J⟩⟩
end
def pj(P:Program)(w:World):ie:=λouter H s E e s'=>∃(a:Addr) (c:Value) (H':Hp) (B:Heap) (j:Value),e=.ref a/\s'.os=s.os/\AllBare s'.gens/\Un (cJ outer) [] H H' s.heap s'.heap/\cr P w H' s'.heap/\s.heap.get? a=none /\
 Heap.FlyingW B outer a c j s'.heap/\(∀b o,s'.heap.get? b=some o->((H' b).isSome=true\/∃o',s.heap.get? b=some o')->b∉cJ outer->B.get? b=some o)/\E c none H'
section
variable {X:Cx}{Z:St}{H:Hp}{E:XK}
theorem Inv.nofld(I:Inv X ad Z H s){b:Addr}(j:b∈cJ X.stack):∃o,s.heap.get? b=some o/\∀vs,o.data≠.fields vs:=(I.stack.mem j).2
theorem Pu{B h':Heap}{c U:Value}{g':Array GenState}{d':Drawn}{t':Nat}(I:Inv X ad Z H s)(hex:X.ex=[])(fg:X.stack=X.env::X.outer)(ud:X.env.frame=some X.env.locals)(f:mG X.stack B H X.s₀.heap s.heap h')(na:X.s₀.heap.get? a=none)
 (fl:Heap.FlyingW B X.outer a c U h') (hg:AllBare g') (e:E c none H):pj X.prog X.w X.outer X.H₀ X.s₀ E (.ref a) { s with heap:=h',gens:=g',drawn:=d',toks:=t' }:=by
 have sub:∀b∈cJ X.outer,b∈cJ X.stack:=λb G=>by
  rw[fg];unfold cJ at G ⊢;rw[Eg,ud];exact bT _ G
 have a1:∀b∈cJ X.stack,b∈cJ X.outer\/X.s₀.heap.get? b=none:=λb G=>by
  rcases aZ.mp (I.stkSub b G) with z | z
  . rw[z];exact .inr (Heap.get?_none_of_le I.ok.above)
  exact .inl z
 have O:=I.base;rw[hex]at O;refine⟨a,c,H,B,U,rfl,I.os,hg,f.un O a1 sub,f.hok I.hok I.stkFree,na,fl,λb o q t nb=>?_,e⟩;have q:h'.get? b=some o:=q;have F7:b∉cJ X.stack\/X.s₀.heap.get? b=none:=by
  by_cases z:b∈cJ X.stack
  . rcases a1 b z with y | y
    . exact absurd y nb
    exact .inr y
  exact .inl z
 have tr:∀j,s.heap.get? b=some j->b∉cJ X.stack->B.get? b=some o:=λj e2 z=>by
  have:=f.big b j e2 t z;have Y:=f.stay _ _ this;rw[q]at Y;cases Y;exact this
 rcases t with t | ⟨o',t⟩
 . obtain⟨u,J⟩:=El.mp t;obtain⟨j,e2⟩:=(I.hok b u J).obj;exact tr j e2 λz=>by rw[I.stkFree b z]at J;cases J
 obtain⟨j,e2⟩:=O.there b o' t (by simp);refine tr j e2 λz=>?_
 rcases F7 with y | y
 . exact y z
 rw[y]at t;cases t
abbrev rc (P:Program) (w:World) (K:Fg) (mg:Mv) (base:Heap) (N:Ls) (a_:Str) (scope:Scope) (f:Addr) (cd:Value) (A:Around) (outer:List Env) (s:Shared) (H:Hp) (E:XK):Cx:=lq (pj P w) P w K mg base N a_ scope f cd A outer s H E
end
section
variable {K:Fg}{mg:Mv}{base:Heap}{N:Ls}{a_:Str}{scope:Scope}{f:Addr}{cd:Value}{A:Around}{outer:List Env}{s0:Shared}{H0:Hp}{E:XK}
theorem Pw:mx (pj P w) (rc P w K mg base N a_ scope f cd A outer s0 H0 E) E:=by
 intro ad Z H s e s' I h;obtain⟨a,c,H',B,a0,rfl,os,j,un,hok,Y,fl,big,q⟩:=h;have J:=I.call' (ch:=[]) os un hok j (λb z=>nomatch z);refine wpAny_leaves_onW (L:=(envOfC a_ scope s0.heap.objs.size f cd).locals) I.ok.frames rfl fl λh' x1 x2=>?_;obtain⟨hh,g,d,t,Bi⟩:=s';have G:s0.heap.get? a=none:=by
  cases z:s0.heap.get? a with
  | none=>rfl
  | some o=>
   obtain⟨o',y⟩:=I.base.there a o z (λz=>nomatch z);rw[Y]at y;cases y
 exact Pu (g':=g) (d':=d) (t':=t) J rfl rfl rfl ⟨λb o e t nb=>big b o e (t.imp id λO=>O.elim λo' z=>I.base.there b o' z (λz=>nomatch z)) nb,x1.1,λb o e U=>by
  obtain⟨o1,e1,n1⟩:=J.nofld U;rw[e]at e1;cases e1;exact x2 b o e n1⟩ G x1 j q
theorem agg(X:K.In h)(x:uc K C):∃bm U nm q bs hdct sn sub ab col dd k0 k1 k2 k3 k5 mN,h.get? C=some (excClassObj nm q C U bs bm hdct sn sub ab col dd k0 k1 k2 k3 k5 "ValueError.__new__")/\h.Ns U mN/\mN "__init__"=none/\OwnTail h Pm bm:=by
 have q:=x.exc;unfold excIn at q;split at q
 case h_2=>cases q
 rename_i dd Y sl ho;split at q
 case h_2=>cases q
 rename_i C' bm k0 k1 k2 k3 n k5 G hs;rw[iP,iP,iP,iP,iP]at q;obtain⟨⟨⟨⟨⟨J,O⟩,j⟩,z4⟩,z5⟩,z6⟩:=q;have J:=jZ.mp J;have O:=jZ.mp O;have j:Y.hasDel=false:=by simpa using j
 subst J O;obtain⟨nm,bs,a1,ns,qn,hd,sn,sub,ab,col,a0⟩:=Y;have G:a1=.ref C'::bm:=G;have j:a0=false:=j;subst G j;obtain⟨a2⟩:=sl;have hs:a2=[k0,k1,k2,k3,some (.builtin "ValueError.__new__"),k5]:=hs;subst hs;exact⟨bm,ns,nm,qn,bs,hd,sn,sub,ab,col,dd,k0,k1,k2,k3,k5,_,X _ _ ho,.of_isNs (isNs_of_in X z5),nsMap_none_of_in X z5 (jZ.mp z6),tail_of_in X z4⟩
theorem agi{np cj:Pos}{e:Expr}{te:TE}(xc:uc K C)(hm:mg x=some (.ref C))(he:PE (rc P w K mg base N a_ scope f cd A outer s0 H0 E) e te)(hg:Gl (rc P w K mg base N a_ scope f cd A outer s0 H0 E) x:=by rfl)
 (hs:starEach [e] (envOfC a_ scope s0.heap.objs.size f cd)=[(false,eval e (envOfC a_ scope s0.heap.objs.size f cd))]:=by rfl) (hd:(x == ("__debug__":Str))=false:=by decide) :
 PS (rc P w K mg base N a_ scope f cd A outer s0 H0 E) (.Raise (some (.Call (.Name x np) [e] [] cj)) none pos) (λ_ Z H=>te Z H λv H1=>[v].length<=1/\E (.ref C) none H1):=by
 intro ad s Z H D I h;obtain⟨bm,Nn,nm,q,bs,hdct,sn,sub,ab,col,dd,k0,k1,k2,k3,k5,mN,hC,hN,Y,T⟩:=agg I.mod.kin xc;have hh:(A.deeper (envOfC a_ scope s0.heap.objs.size f cd)).handled=none:=I.ok.hd rfl;refine wpAny_Raise_call_subT (C:=C) (nm:=nm) (q:=q) (N:=Nn) (bs:=bs) (bm:=bm) (hdct:=hdct) (sn:=sn) (sub:=sub) (ab:=ab) (col:=col) (dd:=dd) (k0:=k0) (k1:=k1) (k2:=k2) (k3:=k3) (k5:=k5)
  aws (mN:=mN) (T.hasType aws.hasBase) hh (by show(backTo cj (starEach [e] (envOfC a_ scope s0.heap.objs.size f cd))).any (·.1)=false;rw[hs];rfl) Y (vv I hg hm ⟨rfl,?_⟩ hd)
 have ha:PA (rc P w K mg base N a_ scope f cd A outer s0 H0 E) [e] (fU te fT):=gk he dG hs;have J:=ha cj ad s Z H (λvs H1=>vs.length<=1/\E (.ref C) none H1) I h;have J:wpAny (model P w) (A.deeper (envOfC a_ scope s0.heap.objs.size f cd)) (spliced (backTo cj (starEach [e] (envOfC a_ scope s0.heap.objs.size f cd)))) (AP (rc P w K mg base N a_ scope f cd A outer s0 H0 E) ad Z (λvs H1=>vs.length<=1/\E (.ref C) none H1)) (rc P w K mg base N a_ scope f cd A outer s0 H0 E).xe s:=J;show wpAny (model P w) (A.deeper (envOfC a_ scope s0.heap.objs.size f cd)) (evalArgs (.ref C) true (backTo cj (starEach [e] (envOfC a_ scope s0.heap.objs.size f cd))) []) _ _ s;rw[hs]at J ⊢;refine Eo (eP J (λus G z=>?_) λ_ _ y=>y);obtain⟨vs,H1,j,rv,l1,q1⟩:=z;have hl:us.length<=sizeLine:=by
  rw[<-rv.length];exact b8 l1 (by decide)
 refine⟨rfl,hl,j.bk _ _ hC,hN.keeps j.bk,T.keeps j.bk,λh' a U=>?_⟩;have F8:s0.heap.get? a=none:=by
  cases z:s0.heap.get? a with
  | none=>rfl
  | some o=>
   obtain⟨o',y⟩:=j.base.there a o z (λz=>nomatch z);rw[U.new]at y;cases y
 refine wpAny_leaves_madeW (base:=hideAll G.heap (cJ (envOfC a_ scope s0.heap.objs.size f cd::outer))) (L:=(envOfC a_ scope s0.heap.objs.size f cd).locals) (h:=G.heap) j.ok.frames rfl (λb o z=>of_hideAll _ z)
  (funFrames_hide j.stack λenv a0 b O=>Mf.mpr ⟨env,a0,O⟩) U λh2 t x1 x2 x3 x4=>?_
 refine Pu (g':=G.gens) (d':=G.drawn) (t':=G.toks) j rfl rfl rfl ⟨λb o z _ nb=>hideAll_get _ z nb,x1.1,λb o z O=>?_⟩ F8 x1 j.bare q1;obtain⟨o1,e1,n1⟩:=j.nofld O;rw[z]at e1;cases e1;exact x4 b o (U.keeps _ _ z) n1
end
section
variable {X:Cx}{Z:St}{H:Hp}
theorem BK{M:Model}{A:Around}{E:VP}{i:Nat}{Q:Unit->Shared->Prop}(I:Inv X ad Z H s)(hN:X.N.Nodup)(hi:X.N[i]?=some x)(hk:X.env.kindOf x=some .local)
 (h:∀s',Inv X ad (Z.set i none) H s'->Q () s'):wpAny M A (do bindName X.env x .none;unbindBehindTheSuite X.env x pos) Q E s:=by
 obtain⟨m,U,hl⟩:=id I.loc;have EH:(X.env.scope.kind == .class || (X.env.scope.kind == .module && X.env.locals != X.env.globals))=false:=by rw[I.ok.kind];rfl
 have cne:=I.cne;refine wpAny_nameGoes_keeps hk U EH λh' v jp hs=>?_;obtain⟨oL,_,_,mY,_⟩:=id U;have old:∀{b:Addr}{o:Obj},X.s₀.heap.get? b=some o->b≠X.env.locals:=λe=>cX (gz (bH e) I.ok.above);refine h _ ⟨I.ok,I.os,I.bare,⟨λb o e n J G=>(hs.2 b (old e)).trans (I.base.keep b o e n J G),λb o e n J G=>?_,I.base.free,λb o e G=>?_,I.base.tups,I.base.frzs,I.base.tbls⟩,⟨_,jp,λj y v' e1 e2 e3=>?_⟩,λy c e=>?_,I.free,I.freeC,λp hp=>?_,λb ob e=>?_,by simpa using I.len⟩
 . obtain⟨sl,e1⟩:=I.base.slot b o e n J G;exact⟨sl,(hs.2 b (old e)).trans e1⟩
 . obtain⟨o',e1⟩:=I.base.there b o e G;exact⟨o',(hs.2 b (old e)).trans e1⟩
 . by_cases O:j=i
   . subst O;have A8:j<Z.length:=by rw[I.len];exact(dg.mp hi).1
     rw[XG A8]at e2;cases e2
   rw[XH (fw O)]at e2;obtain⟨u',r',q⟩:=hl j y v' e1 e2 e3;refine⟨u',r',?_⟩
   rcases q with⟨k,e⟩ | ⟨k,c,e,z⟩
   . have ne:y≠x:=λe=>O (EG hN e1 (e▸hi));exact .inl ⟨k,by simp[ne,e]⟩
   exact .inr ⟨k,c,e,z.sameBut hs (cne y c e)⟩
 . obtain⟨Y,z⟩:=I.cell y c e;exact⟨Y,z.sameBut hs (cne y c e)⟩
 . obtain⟨e,n,ne,nf,d⟩:=I.pin p hp;exact⟨(hs.2 p.1 ne).trans e,n,ne,nf,d⟩
 refine(I.hok b ob e).stay (λc Y hc q=>(hs.2 c ?_).trans q) (λ_ q=>q) λ_ _ q=>q;rintro rfl
 rcases hc with rfl | hc
 . rw[I.free]at e;cases e
 rw[I.free]at hc;cases hc
abbrev Cx.tr (X:Cx) (XE:VP) (pn:Po):Cx:={ X with xe:=XE,pn:=X.pn++pn }
abbrev Cx.exs (X:Cx) (a:Addr):Cx:={ X with A:=X.A.mark (some (.ref a)),calm:=false,xe:=λ_ _=>False }
theorem Inv.tr(I:Inv X ad Z H s)(j:VP):Inv (X.tr j ad) [] Z H s:=
 ⟨⟨I.ok.mod,I.ok.kind,I.ok.glob,I.ok.blt,I.ok.above,I.ok.inj,I.ok.has,I.ok.cab,I.ok.hd,I.ok.frames,I.ok.stk,I.ok.exf,I.ok.bs,I.ok.bsz,I.ok.noex,I.ok.exfs,I.ok.funs,I.ok.frf⟩,I.os,I.bare,I.base,I.loc,I.cell,I.free,I.freeC,λp G=>I.pin p (by simpa using G),I.hok,I.len⟩
theorem Inv.untr{j:VP}{ps:Po}(I:Inv (X.tr j ad) ps Z H s):Inv X ad Z H s:=
 ⟨⟨I.ok.mod,I.ok.kind,I.ok.glob,I.ok.blt,I.ok.above,I.ok.inj,I.ok.has,I.ok.cab,I.ok.hd,I.ok.frames,I.ok.stk,I.ok.exf,I.ok.bs,I.ok.bsz,I.ok.noex,I.ok.exfs,I.ok.funs,I.ok.frf⟩,I.os,I.bare,I.base,I.loc,I.cell,I.free,I.freeC,λp G=>I.pin p (vf _ G),I.hok,I.len⟩
theorem Inv.exs(I:Inv X ad Z H s)(a:Addr):Inv (X.exs a) ad Z H s:=
 ⟨⟨I.ok.mod,I.ok.kind,I.ok.glob,I.ok.blt,I.ok.above,I.ok.inj,I.ok.has,I.ok.cab,λz=>(nomatch z),I.ok.frames,I.ok.stk,I.ok.exf,I.ok.bs,I.ok.bsz,I.ok.noex,I.ok.exfs,I.ok.funs,I.ok.frf⟩,I.os,I.bare,I.base,I.loc,I.cell,I.free,I.freeC,I.pin,I.hok,I.len⟩
theorem Inv.unexs(ok:X.Ok)(I:Inv (X.exs a) ad Z H s):Inv X ad Z H s:=⟨ok,I.os,I.bare,I.base,I.loc,I.cell,I.free,I.freeC,I.pin,I.hok,I.len⟩
theorem SP.untr{j:VP}{ps:Po}{D:Ends}{f:Flow}{s':Shared}(h:SP (X.tr j ad) ps D f s'):SP X ad D f s':=by
 cases f with
 | next=>obtain⟨σ',H',I,q⟩:=h;exact⟨σ',H',I.untr,q⟩
 | brk=>obtain⟨σ',H',I,q⟩:=h;exact⟨σ',H',I.untr,q⟩
 | cont=>obtain⟨σ',H',I,q⟩:=h;exact⟨σ',H',I.untr,q⟩
 | ret u=>obtain⟨v,σ',H',I,r,q⟩:=h;exact⟨v,σ',H',I.untr,r,q⟩
end
def F9(CX:ie)(X:Cx)(E:St->XK):Prop:=∀(ad:Po) (Z:St) (H:Hp) (s:Shared) (e:Value) (s':Shared),Inv X ad Z H s->CX X.stack H s (E Z) e s'->X.xe e s'
section
variable {X:Cx}{CX:ie}{k:Nat}{f:Addr}{fd:Fy}{ps:Ls}{sp:Sp}{dj:Lv}{ds:Lw}{E:St->XK}{m:Str}{p apos:Pos}{e o:Expr}{es:List Expr}{ta:TE}{t:TA}
theorem agk{Z:St}{H:Hp}{Q:VK}{us:Lw}{vs:Lv}(F:aA X.prog X.w X.K X.mg X.base CX k f fd ps sp)(U:ci k X.A)(J:Binds X.K fd ps ds)(hd:aW dj ds)(Y:F9 CX X E)
 (I:Inv X ad Z H s) (r:aW vs us) (h:sp (vs++dj) H Q (E Z)):wpAny (model X.prog X.w) X.A (call (.ref f) us) (EP X ad Z Q) X.xe s:=by
 have G:aW (vs++dj) (us++ds):=r.append hd;have O:(us++ds).length=ps.length:=by rw[<-G.length];exact F.len _ _ _ _ h
 refine Ek (qt (F.run X.A X.stack s H ⟨us,[]⟩ (us++ds) (vs++dj) Q (E Z) U I.env0 (J s us I.kIn O) G h) λr s' j=>?_);cases r with
 | error e=>exact Y ad Z H s e s' I j
 | ok fl=>
  cases fl with
  | ret u=>exact I.after j
  | next=>exact False.elim j
  | brk=>exact False.elim j
  | cont=>exact False.elim j
def agl(C:Addr)(m:Str)(sp:Sp)(dj:Lv)(E:St->XK)(ta:TE)(t:TA):TE:=λZ H Q=>E9 C m sp dj (E Z) ta t Z H Q
theorem Py{pl:Sem Bool}(he:PE X o ta)(c:iV X.K C)(J:ic X.K C m f)(F:aA X.prog X.w X.K X.mg X.base CX k f fd ps sp)(hr:ci k X.A)(hb:Binds X.K fd ps ds)(hd:aW dj ds)(hx:F9 CX X E)(ha:PA X (e::es) t)
 (fg:starEach (e::es) X.env=(false,eval e X.env)::starEach es X.env:=by rfl) (dQ:(backTo pos (starEach es X.env)).any (·.1)=false:=by rfl)
 (ht:eval (.Call (.Attribute o m apos) (e::es) [] pos) X.env=(do
  let O <-eval o X.env
  standAt apos.atName
  let (f,first) <-holding [O] (getMethod O m pl)
  callWith pos f first (backTo pos (starEach (e::es) X.env)) (backToKw pos (keywordEach [] X.env))):=by rfl) :
 PE X (.Call (.Attribute o m apos) (e::es) [] pos) (agl C m sp dj E ta t):=by
 intro ad s Z H Q I h;refine XM (pl:=pl) (thn (he ad s Z H _ I h) λu s1 U=>aP U λx H1 j rx zz=>?_) ht;obtain @⟨a,dx,fs,ea,l,q⟩:=zz;obtain rfl:u=Value.ref a:=rx;refine E6 j ea c J l ?_;refine Mh (first:=[.ref a]) (h₀:=X.base) I.ok.mod.kin J.kp (thn (ha pos ad s1 Z H1 _ j q) λus s2 Y=>aP Y λvs H2 G r q2=>⟨G.kIn,?_⟩) fg dQ;exact agk (us:=.ref a::us) (vs:=.ref a::vs) F hr hb hd hx G (.cons rfl r) q2
end
section
variable {X:Cx}
def Pz(K:Fg)(M:Addr)(i:Nat)(j:TS)(D:Ends):St->XK:=λZ c _ H=>exmOne K c (.ref M)=some true/\∀a,H a=none ->
 j { nx:=λσ2 H2=>D.nx (σ2.set i none) H2,rt:=D.rt,bk:=λσ2 H2=>D.bk (σ2.set i none) H2,ct:=λσ2 H2=>D.ct (σ2.set i none) H2 } (Z.set i (some (.ref a))) (upd H a (pi a c))
theorem ago{i:Nat}{M:Addr}{n:Str}{body:List Stmt}{b0:Stmt}{Ga:List Stmt}{np pq:Pos}{tb:(St->XK)->TS}{ts:TS}(nd:X.N.Nodup)(hi:X.N[i]?=some n)(hl:X.env.kindOf n=some .local)
 (fg:X.stack=X.env::X.outer) (ud:X.env.frame=some X.env.locals) (hm:X.mg x=some (.ref M)) (hg:Gl X x)
 (G:∀XE pn E,F9 (pj X.prog X.w) (X.tr XE pn) E->cf (X.tr XE pn) body (tb E)) (hs:∀a,cf (X.exs a) (b0::Ga) ts) (ix:(x == ("__debug__":Str))=false:=by decide) :
 PS X (.Try body [.ExceptHandler (some (.Name x np)) (some n) (b0::Ga) pq] [] [] pos) (λD Z H=>tb (Pz X.K M i ts D) D Z H):=by
 intro ad s Z H D I h;refine wpAny_Try_except ?_;refine eP (G (λe s₁=>wpAny (model X.prog X.w) X.A (noteFrame e X.env) (λ_ s₂=>wpAny (model X.prog X.w) X.A (setFlight e none) (λ_ s₃=>wpAny (model X.prog X.w) X.A (handleBy e X.env [.ExceptHandler (some (.Name x np)) (some n) (b0::Ga) pq]) (SP X ad D) X.xe s₃) X.xe s₂) X.xe s₁)
  ad (Pz X.K M i ts D) ?_ [] s Z H D (I.tr _) h) (λf s1 z=>?_) λ_ _ z=>z
 . intro ps σ1 H1 s1 e s' J hx;have J:=J.untr;obtain⟨a,c,H',B,a0,rfl,os,a1,un,hok,na,fl,big,Pq,q9⟩:=hx;have fl:Heap.FlyingW B (X.env::X.outer) a c a0 s'.heap:=fg▸fl;have a5:X.A.frames=some (X.env::X.outer):=fg▸J.ok.frames;have un:Un (cJ X.stack) [] H1 H' s1.heap s'.heap:=un;have big:∀b o,s'.heap.get? b=some o->((H' b).isSome=true\/∃o',s1.heap.get? b=some o')->b∉cJ X.stack->B.get? b=some o:=big;have J0:=J.call' (ch:=[]) os un hok a1 (λb z=>nomatch z);have nf:∀b o,s'.heap.get? b=some o->b∈cJ X.stack->∀vs,o.data≠.fields vs:=λb o e G=>by
    obtain⟨o1,e1,n1⟩:=J0.nofld G;rw[e]at e1;cases e1;exact n1
   refine wpAny_looks_onW a5 ud fl λh4 a4 a9=>?_;refine wpAny_landsW a4 λh5 Gb ab=>?_;have f5:mG X.stack B H' s1.heap s'.heap h5:=⟨big,Gb.1,λb o e G=>(a9.trans ab) b o e (nf b o e G)⟩;have J5:Inv X ad σ1 H' { s' with heap:=h5 }:=J.call' (ch:=[]) os (f5.un un (λ_ z=>.inl z) λ_ z=>z) (f5.hok hok J0.stkFree) a1 (λb z=>nomatch z);refine wpAny_handleBy_cons (codeAny_handlers_test ?_) (by intro q;cases q);refine vv (J5.exs a) hg hm ?_ ix;have LT:Looks (model X.prog X.w) h5 (typeOf (.ref a)) c:=by
    obtain⟨ob,o1,o2⟩:=Gb.there;exact o2▸(Looks.ld o1).andThen .now
   refine(exm_one J5.kIn LT Pq).here ?_;refine codeAny_handlers_suite_as ?_;refine lands_againW Gb λh6 PB yF=>?_;have f6:=f5.on PB.1 yF nf;have j:=f6.un un (λ_ z=>.inl z) λ_ z=>z;have a2:=f6.hok hok J0.stkFree;obtain⟨oe,a7,a8⟩:=PB.there;have F7:a∉cJ X.stack:=λz=>by
    obtain⟨o1,e1,n1⟩:=J.nofld z;rw[na]at e1;cases e1
   have vU:H' a=none:=by
    cases z:H' a with
    | none=>rfl
    | some u=>
     obtain⟨o1,e1⟩:=(hok a u z).obj;have:=big a o1 e1 (.inl (by rw[z];rfl)) F7;rw[fl.2.1]at this;cases this
   have af:Un (cJ X.stack) [] H1 (upd H' a (pi a c)) s1.heap h6:=⟨j.keep,j.slot,λb o q n hx=>by rw[aQ (λz=>by rw[z,na]at q;cases q)];exact j.free b o q n hx,j.there,
    λb xs q=>by rw[aQ (aH (j.tups b xs q) vU)];exact j.tups b xs q,λb o u q=>by rw[aQ (aH (j.frzs b o u q) vU)];exact j.frzs b o u q,λb ps q=>by
     obtain⟨a6,z⟩:=j.tbls b ps q;exact⟨a6,by rw[aQ (aH z vU)];exact z⟩⟩
   have a3:cr X.prog X.w (upd H' a (pi a c)) h6:=λb u q=>by
    by_cases G:b=a
    . subst G;rw[aB]at q;cases q;exact af8 ⟨oe,a7,a8⟩
    rw[aQ G]at q;exact(a2 b u q).stay (λ_ _ _ z=>z) (λd z=>by rw[aQ (aH z vU)];exact z) λd xs z=>by rw[aQ (aH z vU)];exact z
   have J6:Inv X ad σ1 (upd H' a (pi a c)) { s' with heap:=h6 }:=J.call' (ch:=[]) os af a3 a1 (λb z=>nomatch z);refine EI J6 nd hi (Or.inl hl) (v:=.ref a) rfl (λs7 J7=>?_) (.inr hl);refine eP (hs a ad s7 _ _ _ (J7.exs a) (q9 a vU)) (λf s8 z=>?_) λ_ _ z=>z.elim;cases f with
   | next=>
    obtain⟨σ8,H8,O,Y⟩:=z;exact BK (O.unexs J7.ok) nd hi hl λs9 U=>⟨_,H8,U,Y⟩
   | brk=>
    obtain⟨σ8,H8,O,Y⟩:=z;exact BK (O.unexs J7.ok) nd hi hl λs9 U=>⟨_,H8,U,Y⟩
   | cont=>
    obtain⟨σ8,H8,O,Y⟩:=z;exact BK (O.unexs J7.ok) nd hi hl λs9 U=>⟨_,H8,U,Y⟩
   | ret u=>
    obtain⟨v,σ8,H8,O,r8,Y⟩:=z;exact BK (O.unexs J7.ok) nd hi hl λs9 U=>⟨v,_,H8,U,r8,Y⟩
 have z:=z.untr;cases f with
 | next=>exact Eh z
 | brk=>exact z
 | cont=>exact z
 | ret u=>exact z
end
theorem cq.okR{K:Fg}{mg:Mv}{base:Heap}{a_:Str}{st:Stmt}{f:Addr}{fd:Fy}{N ps:Ls}{k:Nat}{sp:Sp}(F:cq K x a_ st f fd)(S:aN N ps (au st))(len:∀vs H Q E,sp vs H Q E->vs.length=ps.length)
 (Y:∀(j:Value) (A:Around) (outer:List Env) (s:Shared) (H:Hp) (vs:Lv) (Q:VK) (E:XK),ci k (A.deeper (envOfC a_ (au st) s.heap.objs.size f j))->sp vs H Q E ->
  ∃t,cf (rc P w K mg base N a_ (au st) f j A outer s H E) (cM st) t/\t { nx:=λ_ H'=>Q .non H',rt:=Q } (start N vs) H):aA P w K mg base (pj P w) (k+1) f fd ps sp:=by
 obtain⟨oc,od,kV,a0,pm,an,j,ct,iX,rfl,U,J⟩:=F.ex;exact Fe U J S len λA outer s H vs Q E G O=>Y j A outer s H vs Q E G O
section
variable {X:Cx}
theorem PD{H:Hp}{c:Value}(ok:cr P w H h)(e:H a=some (pi a c)):∃o,h.get? a=some o/\o.cls=c:=(ok a _ e).1
theorem agx:eS X (.builtin "isinstance") (λxs H Q=>∃a C D b,xs=[.ref a,.ref D]/\H a=some (pi a (.ref C))/\uc X.K C/\kitOne X.K (.ref C) (.ref D)=some b/\Q (.bl b) H):=by
 intro ad s Z H xs us Q I r h;obtain⟨a,C,D,b,rfl,e,O,k,q⟩:=h;obtain⟨u,J,rfl,j,G⟩:=vals2 r;cases (show u=Value.ref a from j);cases (show J=Value.ref D from G);exact kia_one (Ps O.c0) I.kIn (PD I.hok e) k (by intro z;cases z) λtk=>⟨.bl b,H,I.tok tk,rfl,q⟩
theorem Gc:∀{j:List Addr}{us:Lw},aW (j.map V.ref) us->us=j.map Value.ref
 | [],_,.nil=>rfl
 | D::j,_,.cons r t=>by
  rw[bV,Gc t]
  congr 1
theorem agy:eS X (.builtin "isinstance") (λxs H Q=>∃(a C j:Addr) (G:List Addr) (b:Bool),xs=[.ref a,.ref j]/\H a=some (pi a (.ref C))/\H j=some (.tup (G.map V.ref))/\uc X.K C/\kitAny X.K (.ref C) (G.map Value.ref)=some b/\Q (.bl b) H):=by
 intro ad s Z H xs us Q I r h;obtain⟨a,C,j,G,b,rfl,e,O,xc,k,q⟩:=h;obtain⟨u,u2,rfl,Y,r2⟩:=vals2 r;cases (show u=Value.ref a from Y);cases (show u2=Value.ref j from r2);obtain⟨_,b_,rv,ob,e1,c1,n1,d1⟩:=I.hok j _ O;obtain⟨U,od,J,iX⟩:=ob;have c1:U=.type "tuple":=c1;have d1:J=.seq b_.toArray n1:=d1;subst c1 d1;rw[Gc rv]at e1;exact kia_tup (Ps xc.c0) I.kIn (PD I.hok e) e1 k (by intro z;cases z) λtk=>⟨.bl b,H,I.tok tk,rfl,q⟩
def rf(K:Fg)(H:Hp)(p q:ak×V):Prop:=p.1=q.1/\∃d,DV K H p.2 d/\DV K H q.2 d/\W.kqdOk 9 d=true
theorem agz{kvs:List (ak×V)}(nd:(kvs.map (·.1)).Nodup){k:ak}{v:V}(h:(k,v)∈kvs):bg kvs k=some v:=by
 induction kvs with
 | nil=>cases h
 | cons p r j=>
  rw[bV,qw]at nd
  rcases aZ.mp h with e | h
  . subst e;exact km rfl
  rw[jt λe=>nd.1 (by rw[e];exact ge (f:=(·.1)) h)];exact j nd.2 h
theorem Gd{Z:St}{H:Hp}(I:Inv X ad Z H s)(hu:X.A.units+65<cLine){fA:List (ak×V)}{O:List (ak×Value)}(nd:(fA.map (·.1)).Nodup)(Y:KV fA O):∀{ka kb:List (ak×V)}{va:List (ak×Value)},Paired (rf X.K H) ka kb->KV ka va->(∀p∈kb,p∈fA)->KeqHits X.A.in1 s O va true
 | _,_,_,.nil,.nil,_=>.nil
 | _,_,_,.cons (a:=p) (b:=q) r t,.cons (b:=pv) rv tv,hm=>by
  obtain⟨e,d,d1,d2,ok⟩:=r;obtain⟨as,ra⟩:=d1.reads I rv.2;have hq:=agz nd (k:=q.1) (v:=q.2) (hm q bL);have j:=Y.val q.1;rw[hq]at j;cases J:valueAt O q.1 with
  | none=>rw[J]at j;exact j.elim
  | some y=>
   rw[J]at j;have j:RelV q.2 y:=j;obtain⟨bs,rb⟩:=d2.reads I j;have U:=keq_at (A:=X.A) ra rb (qT ok) (qT ok) hu;have et:=(xL 9 d d 9 ok ok).mpr rfl;rw[et]at U;have G:pv.1=q.1:=rv.1.symm.trans e;obtain⟨pk,a0⟩:=pv;have G:pk=q.1:=G;subst G;exact .hit (e:=true) (b:=true) J U (Gd I hu nd Y t tv λp hp=>hm p (bT _ hp))
end
end
section
open PySem.W
section
variable {X:Cx}
theorem PH{P:Program}{w:World}:mx (pj P w) X (λ_ _ _=>False):=λ_ _ _ _ _ _ _ h=>by
 obtain⟨_,_,_,_,_,_,_,_,_,_,_,_,_,q⟩:=h;exact q.elim
def agA(K:Fg):V->V->Hp->VK->Prop:=λx y H Q=>∃d e,DV K H x d/\DV K H y e/\W.kqdOk 9 d=true/\W.kqdOk 9 e=true/\∀b:Bool,(b=true↔d=e)->Q (.bl (!b)) H
theorem agB(K:Fg)(j:X.A.units+64<cLine)(h:X.K=K:=by rfl):cK X (compareOp .NotEq) (agA K):=h▸Bw j
end
end
section
variable {mask ep n:Nat}{α:Type}{w:World}{h':Heap}{a it:Addr}{xs ys:Ls}{s:Shared}{P:Program}{o:Obj}{es:Array (Int×Value)}{os:List (Int×Value)}{a_:Str}
def pA(m:Nat):Prop:=m=7\/m=15\/m=31\/m=63\/m=127\/m=255
def pB(mask:Nat):Nat->Nat->Nat
 | 0,i=>i
 | m+1,i=>pB mask m ((i * 5+1) % (mask+1))
theorem BL(mask:Nat):∀(m k i:Nat),pB mask (m+k) i=pB mask k (pB mask m i)
 | 0,k,i=>by rw[Et];rfl
 | m+1,k,i=>by
  rw[Nat.succ_add];exact BL mask m k _
def agC(mask:Nat):Bool:=pB mask (mask+1) 0 == 0 && (List.range (mask+1)).all λj=>(List.range (mask+1)).any λm=>pB mask m 0 == j
theorem agD(h:pA mask):agC mask=true:=by
 rcases h with rfl | rfl | rfl | rfl | rfl | rfl
 . decide +kernel
 . decide +kernel
 . decide +kernel
 . decide +kernel
 . decide +kernel
 decide +kernel
theorem agE{i j:Nat}(h:pA mask)(hi:i<=mask)(U:j<=mask):∃m,m<=mask/\pB mask m i=j:=by
 obtain⟨h0,h1⟩:=xN.mp (agD h);have h0:=eq_of_beq h0;have G:∀z,z<=mask->∃m,m<=mask/\pB mask m 0=z:=λz hz=>by
  obtain⟨m,Y,e⟩:=sW.mp (iQ.mp h1 z (vd.mpr (by omega)));exact⟨m,by have:=vd.mp Y;omega,eq_of_beq e⟩
 obtain⟨a,ha,J⟩:=G i hi;obtain⟨b,hb,O⟩:=G j U
 by_cases le:a<=b
 . refine⟨b - a,by omega,?_⟩;rw[<-J,<-BL,show a+(b - a)=b by omega];exact O
 refine⟨b+(mask+1) - a,by omega,?_⟩;rw[<-J,<-BL,show a+(b+(mask+1) - a)=(mask+1)+b by omega,BL,h0];exact O
def jJ(mask:Nat):Nat->Nat->Nat->Nat×Nat
 | 0,i,p=>(i,p)
 | m+1,i,p=>jJ mask m ((i * 5+1+p / 32) % (mask+1)) (p / 32)
theorem PL(mask:Nat):∀(m i:Nat),jJ mask m i 0=(pB mask m i,0)
 | 0,i=>rfl
 | m+1,i=>by
  show jJ mask m ((i * 5+1+0 / 32) % (mask+1)) (0 / 32)=_;rw[Nat.zero_div,Ms,PL mask m];rfl
theorem PM(mask:Nat):∀(m k i p:Nat),jJ mask (m+k) i p=jJ mask k (jJ mask m i p).1 (jJ mask m i p).2
 | 0,k,i,p=>by rw[Et];rfl
 | m+1,k,i,p=>by
  rw[Nat.succ_add];exact PM mask m k _ _
theorem PN(mask:Nat):∀(m i p:Nat),(jJ mask m i p).2=p / 32 ^ m
 | 0,i,p=>by simp[jJ]
 | m+1,i,p=>by
  show(jJ mask m _ (p / 32)).2=_;rw[PN mask m,Nat.div_div_eq_div_mul,Nat.pow_succ,Nat.mul_comm]
theorem PP(mask:Nat):∀(m i p:Nat),i<=mask->(jJ mask m i p).1<=mask
 | 0,i,p,h=>h
 | m+1,i,p,h=>PP mask m _ _ (Nat.le_of_lt_succ (Eu (i * 5+1+p / 32) (Nat.succ_pos mask)))
theorem agF{i p j:Nat}(h:pA mask)(hi:i<=mask)(J:p<2 ^ 64)(G:j<=mask):∃m,m<SetTable.turns mask/\(jJ mask m i p).1=j:=by
 have h2:(jJ mask 13 i p).2=0:=by
  rw[PN];exact Nat.div_eq_of_lt (vh J (by decide))
 obtain⟨m,O,e⟩:=agE h (PP mask 13 i p hi) G;refine⟨13+m,by unfold SetTable.turns;omega,?_⟩;rw[PM,h2,PL];exact e
theorem PQ(mask:Nat)(ow:Array (Option Nat)):∀(f i p:Nat),SetTable.layClean.free mask ow f i p=none->∀m,m<f->(ow.getD (jJ mask m i p).1 (some 0)).isNone=false
 | 0,i,p,_,m,h=>absurd h (Mt _)
 | f+1,i,p,e,m,h=>by
  unfold SetTable.layClean.free at e;cases j:(List.range (SetTable.runEnd mask i+1 - i)).find? λk=>(ow.getD (i+k) (some 0)).isNone with
  | some k=>rw[j]at e;cases e
  | none=>
   rw[j]at e;cases m with
   | zero=>
    have:=X5.mp j 0 (vd.mpr (by unfold SetTable.runEnd;split<;>omega));rw[Ms]at this;cases hz:(ow.getD i (some 0)).isNone with
    | true=>exact absurd hz this
    | false=>exact hz
   | succ m=>exact PQ mask ow f _ _ e m (by omega)
theorem PR(mask:Nat)(ow:Array (Option Nat)):∀(f i p j:Nat),SetTable.layClean.free mask ow f i p=some j->(ow.getD j (some 0)).isNone=true
 | 0,i,p,j,e=>by cases e
 | f+1,i,p,j,e=>by
  unfold SetTable.layClean.free at e;cases G:(List.range (SetTable.runEnd mask i+1 - i)).find? λk=>(ow.getD (i+k) (some 0)).isNone with
  | some k=>
   rw[G]at e;cases e;exact List.find?_some (p:=λk=>(ow.getD (i+k) (some 0)).isNone) G
  | none=>
   rw[G]at e;exact PR mask ow f _ _ j e
theorem PU:∀{l:List (Option α)}{j:Nat}{x:α},l[j]?=some none->((l.set j (some x)).filterMap id).Perm (x::l.filterMap id)
 | [],j,x,h=>by cases h
 | o::l,0,x,h=>by
  cases h;simp
 | o::l,j+1,x,h=>by
  have G:=PU (l:=l) (j:=j) (x:=x) h;rw[List.set_cons_succ];cases o with
  | none=>simpa using G
  | some y=>
   simp only[Eg,id];exact(G.cons y).trans (.swap ..)
structure Lay(mask:Nat)(r:Array (Option Nat)×Nat):Prop where
 size:r.1.size=mask+1
 perm:(r.1.toList.filterMap id).Perm (List.range r.2)
theorem Lay.step(Y:pA mask){r:Array (Option Nat)×Nat}(x:Lay mask r)(hk:r.2<=mask)(h:Int):∃j,SetTable.layClean.free mask r.1 (SetTable.turns mask) (SetTable.bits h % (mask+1)) (SetTable.bits h)=some j/\Lay mask (r.1.setIfInBounds j (some r.2),r.2+1):=by
 obtain⟨ow,k⟩:=r;dsimp only at *;have hz:ow.size=mask+1:=x.size;have U:=x.perm.length_eq;dsimp only at U;rw[Mu]at U;cases O:SetTable.layClean.free mask ow (SetTable.turns mask) (SetTable.bits h % (mask+1)) (SetTable.bits h) with
 | none=>
  exfalso;have qI:∀j,j<=mask->(ow.getD j (some 0)).isNone=false:=λj G=>by
   obtain⟨m,h1,h2⟩:=agF Y (i:=SetTable.bits h % (mask+1)) (p:=SetTable.bits h) (Nat.le_of_lt_succ (Eu (SetTable.bits h) (Nat.succ_pos mask))) (by
    unfold SetTable.bits;have h1:=xO h (show(0:Int)<2 ^ 64 by decide);have h0:=vi h (show(2 ^ 64:Int)≠0 by decide);omega) G
   have:=PQ mask ow _ _ _ O m h1
   rwa [h2]at this
  have:(ow.toList.filterMap id).length=ow.toList.length:=by
   rw[List.length_filterMap_eq_countP,List.countP_eq_length];intro o ho;obtain⟨j,G,e⟩:=Mw.mp ho;rw[eJ]at G;have:=qI j (by omega);rw[Mx,qy G]at this;rw[<-e,Array.getElem_toList];cases J:ow[j]with
   | none=>rw[J]at this;cases this
   | some y=>rfl
  have e9:ow.toList.length=ow.size:=eJ;omega
 | some j=>
  have hs:=PR mask ow _ _ _ _ O;have G:j<ow.size:=by
   refine Nat.lt_of_not_le λz=>?_;rw[Mx,Yg z]at hs;cases hs
  have hn:ow.toList[j]?=some none:=by
   rw[Mx,qy G]at hs;rw[qA,qy G];cases J:ow[j]with
   | none=>rfl
   | some y=>rw[J]at hs;cases hs
  refine⟨j,rfl,⟨by simp[hz],?_⟩⟩;dsimp only;rw[Array.toList_setIfInBounds,List.range_succ];exact(PU hn).trans ((x.perm.cons k).trans (List.perm_append_singleton k _).symm)
theorem PV(J:pA mask):∀(hs:List Int) (r:Array (Option Nat)×Nat),Lay mask r->r.2+hs.length<=mask+1->∃G,hs.foldl (fun(O:Option (Array (Option Nat)×Nat)) h=>do
 let (owner,k) <-O
 let j <-SetTable.layClean.free mask owner (SetTable.turns mask) (SetTable.bits h % (mask+1)) (SetTable.bits h)
 pure (owner.setIfInBounds j (some k),k+1)) (some r)=some G/\Lay mask G/\G.2=r.2+hs.length
 | [],r,x,_=>⟨r,rfl,x,rfl⟩
 | h::hs,r,x,hl=>by
  rw[cT]at hl;obtain⟨j,e,U⟩:=x.step J (by omega) h;obtain⟨G,e1,x1,e2⟩:=PV J hs _ U (by dsimp only;omega);refine⟨G,?_,x1,by rw[e2,cT];dsimp only;omega⟩;rw[j6,<-e1]
  congr 1
  show(SetTable.layClean.free mask r.1 (SetTable.turns mask) (SetTable.bits h % (mask+1)) (SetTable.bits h)).bind _=_;rw[e];rfl
theorem PX{f m:Nat}{led plain:Bool}{hs:Array Int}(hm:pA mask)(hl:hs.size<=mask):∃t U,SetTable.laid mask f m led plain hs=some (t,U)/\U.toList.Perm (List.range hs.size)/\t.fits hs.size=true/\t.led=led/\t.plain=plain/\t.mask=mask:=by
 have x0:Lay mask (Array.replicate (mask+1) none,0):=⟨by simp,by simp⟩;obtain⟨r,e,x,e2⟩:=PV hm hs.toList _ x0 (by dsimp only;rw[eJ];omega);have hc:SetTable.layClean mask hs=some r.1:=by
  unfold SetTable.layClean;rw[<-Array.foldl_toList,e];rfl
 dsimp only at e2;rw[Et,eJ]at e2;have J:((List.range (mask+1)).filterMap λj=>(r.1.getD j none).map (j,·)).map (·.2)=r.1.toList.filterMap id:=by
  have e3:r.1.toList=(List.range (mask+1)).map λj=>r.1.getD j none:=by
   refine List.ext_getElem? λj=>?_;rw[dN,qA]
   by_cases G:j<mask+1
   . rw[List.getElem?_range G,qy (by rw[x.size];exact G),sU,Mx,qy (by rw[x.size];exact G)];rfl
   rw[Yg (by rw[x.size];omega),awt (by rw[Mu];omega)];rfl
  rw[e3,List.filterMap_map,List.map_filterMap]
  congr 1
  funext j
  show Option.map _ (Option.map _ (r.1.getD j none))=r.1.getD j none;cases r.1.getD j none<;>rfl
 have a0:((List.range (mask+1)).filterMap λj=>(r.1.getD j none).map (j,·)).length=hs.size:=by
  have:=eZ List.length J;rw[aj,x.perm.length_eq,Mu,e2]at this;exact this
 unfold SetTable.laid;rw[hc];refine⟨_,_,rfl,?_,?_,rfl,rfl,rfl⟩
 . show(((List.range (mask+1)).filterMap λj=>(r.1.getD j none).map (j,·)).map (·.2)).Perm _;rw[J,<-e2];exact x.perm
 unfold SetTable.fits SetTable.fill;have O:((((List.range (mask+1)).filterMap λj=>(r.1.getD j none).map (j,·)).map (·.1)).toArray).size=hs.size:=by
  rw[gc,aj];exact a0
 have Y:(#[]:Array Nat).size=0:=rfl;rw[iP];refine⟨jZ.mpr O,bN ?_⟩;show _+(#[]:Array Nat).size<=mask;rw[Y,Ms];exact b8 (xG O) hl
def fF(w:World):Bool:=w.params.followText "set-order"
def iF(e:Int×Value):Str:=match e.2 with
 | .str y _=>y
 | _=>Str.ofString ""
def nI(w:World)(e:Int×Value):Prop:=∃y tk,e=(mo w (.inr y),Value.str y tk)
structure eV(w:World)(o:Obj)(es:Array (Int×Value))(ep:Nat)(t:SetTable)(xs:Ls):Prop where
 ex:o.ExactSet
 dat:o.data=.set es ep t
 good:∀e∈es.toList,nI w e
 perm:(es.toList.map iF).Perm xs
 nd:xs.Nodup
 len:xs.length<=1000
 fit:t.fits es.size=true
 led:t.led = !fF w
 pl:es.size≠0->t.plain=false
 msk:es.size=0->pA t.mask
def cV(w:World)(h:Heap)(a:Addr)(xs:Ls):Prop:=∃o es ep t,h.get? a=some o/\eV w o es ep t xs
theorem cV.at'{h:Heap}(x:cV w h a xs)(k:∀o,h.get? a=some o->h'.get? a=some o):cV w h' a xs:=
 x.elim λo j=>j.elim λes G=>G.elim λep J=>J.elim λt O=>O.elim λe r=>⟨o,es,ep,t,k o e,r⟩
theorem cV.typeIs(x:cV w s.heap a xs):s.TypeIs (.ref a) "set":=x.elim λo j=>j.elim λ_ G=>G.elim λ_ J=>J.elim λ_ O=>O.elim λe r=>⟨o,e,r.ex.1⟩
section
variable {t:SetTable}
theorem eV.elems(x:eV w o es ep t xs):ElemsOf (ce P w) es.toList:=λe j=>by
 obtain⟨y,tk,rfl⟩:=x.good e j;exact⟨⟨.inr y,sZ P w y tk,rfl⟩,rfl⟩
theorem eV.size(x:eV w o es ep t xs):es.size=xs.length:=by
 have:=x.perm.length_eq;rw[aj,eJ]at this;exact this
theorem eV.bnd(x:eV w o es ep t xs):es.size<scanBound:=by
 rw[x.size];have:=x.len;show _<4096;omega
theorem PY{y:Str}{e:Int×Value}(g:nI w e):(ce P w).is (.inr y) e.2=true↔iF e=y:=by
 obtain⟨z,tk,rfl⟩:=g;constructor
 . intro h;have:=(ce P w).inj _ _ _ h (sZ P w z tk);injection this with this
   exact this.symm
 intro h;rw[<-h];exact sZ P w z tk
theorem eV.find_some(x:eV w o es ep t xs){y:Str}{j:Nat}(h:List.findIdx? (λe=>(ce P w).is (.inr y) e.2) es.toList=some j):y∈xs:=by
 obtain⟨J,O,_⟩:=List.findIdx?_eq_some_iff_getElem.mp h;have G:=Ev J;exact x.perm.mem_iff.mp (cC.mpr ⟨_,G,(PY (x.good _ G)).mp O⟩)
theorem eV.find_none(x:eV w o es ep t xs){y:Str}(h:List.findIdx? (λe=>(ce P w).is (.inr y) e.2) es.toList=none):y∉xs:=λJ=>by
 obtain⟨e,j,G⟩:=cC.mp (x.perm.mem_iff.mpr J);have:=List.findIdx?_eq_none_iff.mp h e j;rw[(PY (x.good _ j)).mpr G]at this;cases this
end
theorem agO(t:SetTable)(es:Array (Int×Value))(h:Int)(x:Value):(layNew t es h x).2.1.led=t.led:=by
 unfold layNew;split
 . dsimp only;unfold SetTable.orStandIn;split<;>rfl
 rfl
theorem agP{f m:Nat}{led plain:Bool}{hs:Array Int}{r:SetTable×Array Nat}(e:SetTable.laid mask f m led plain hs=some r):r.1.led=led/\r.1.plain=plain/\r.1.mask=mask/\r.1.dummies = #[]:=by
 unfold SetTable.laid at e;cases j:SetTable.layClean mask hs with
 | none=>rw[j]at e;cases e
 | some ow=>
  rw[j]at e;cases e;exact⟨rfl,rfl,rfl,rfl⟩
theorem agQ(t:SetTable)(es:Array (Int×Value))(n:Nat):(relayAll t es n).2.1.led=t.led/\(t.plain=false->(relayAll t es n).2.1.plain=false):=by
 unfold relayAll;split
 . rename_i t' j e;dsimp only;split
   . obtain⟨h1,h2,_⟩:=agP e;exact⟨h1,λz=>h2.trans z⟩
   exact⟨rfl,λ_=>rfl⟩
 exact⟨rfl,λ_=>rfl⟩
def ja(xs:Ls)(y:Str):Ls:=if y∈xs then xs else xs++[y]
theorem PZ{y:Str}(h:xs.Nodup):(ja xs y).Nodup:=by
 unfold ja;split
 . exact h
 rename_i z;rw[qz];exact⟨h,by simp,λa j b G=>by rw[bD.mp G];exact λq=>z (q▸j)⟩
theorem Ge{y z:Str}:z∈ja xs y↔z∈xs\/z=y:=by
 unfold ja;split
 . rename_i h;exact⟨.inl,λq=>q.elim id λq=>q▸h⟩
 simp
theorem BM(xs:Ls)(y:Str):(ja xs y).length<=xs.length+1:=by
 unfold ja;split
 . omega
 simp
section
variable {prog:Program}{A:Around}{E:VP}
theorem eV.store{h:Heap}{es':Array (Int×Value)}{t t':SetTable}(j:h.get? a=some o)(x:o.ExactSet)(d:o.data=.set es ep t):(h.update a (Obj.putSet es' t')).get? a=some { o with data:=.set es' (ep+1) t' }:=by
 have q:=AV (Obj.putSet es' t') j (by rw[putSet_of es' t' d];rfl)
 rwa [putSet_of es' t' d]at q
theorem P1{g:Bool->Sem Unit}(hg:∀(b:Bool) (s₁:Shared) (Q':Unit->Shared->Prop),Q' () s₁->wpAny (model prog w) A (g b) Q' E s₁){j:Array (Int×Value)}{t t2:SetTable}{wd:Bool}{R:Option Bool->Shared->Prop}
 (ho:s.heap.get? a=some o) (O:o.ExactSet) (hd:o.data=.set es ep t) (gd:∀e∈j.toList,nI w e) (pm:(j.toList.map iF).Perm ys) (nd:ys.Nodup) (ln:ys.length<=1000) (hf:t2.fits j.size=true) (ld:t2.led = !fF w) (pl:t2.plain=false) (ne:j.size≠0)
 (h:∀h',Heap.SameBut a s.heap h'->cV w h' a ys->R (some true) { s with heap:=h' }) :
 wpAny (model prog w) A (do { storeSet a j t2;if (!wd && t2.tooFull)=true then do { g (relayAll t2 j (SetTable.grown j.size)).2.2;storeSet a (relayAll t2 j (SetTable.grown j.size)).1 (relayAll t2 j (SetTable.grown j.size)).2.1;pure (some true) } else pure (some true) }) R E s:=by
 have sz:j.size=ys.length:=by have:=pm.length_eq;rw[aj,eJ]at this;exact this
 have b1:j.size<scanBound:=by rw[sz];show _<4096;omega
 refine ae (AW ho hd ?_ (xP b1));have Y:=eV.store (es':=j) (t':=t2) ho O hd;have sb:=mf s.heap a (Obj.putSet j t2);split
 . have G:=relayAll_perm t2 j (SetTable.grown j.size);have ud:=relayAll_fits t2 j (SetTable.grown j.size);have J:=agQ t2 j (SetTable.grown j.size);generalize hR:relayAll t2 j (SetTable.grown j.size)=Rl at G ud J ⊢;obtain⟨U,t3,g2⟩:=Rl;dsimp only at G ud J ⊢;have P2:U.size=j.size:=by rw[<-eJ,G.length_eq,eJ]
   refine ae (hg _ _ _ (ae (AW Y rfl ?_ (xP (by rw[P2];exact b1)))));have o2:=eV.store (es':=U) (t':=t3) Y O rfl;exact aq (h _ (sb.trans (mf _ a _)) ⟨_,U,_,t3,o2,O,rfl,λe he=>gd e (G.mem_iff.mp he),(G.map iF).trans pm,nd,ln,ud,J.1.trans ld,λ_=>J.2 pl,λz=>absurd (P2.symm.trans z) ne⟩)
 exact aq (h _ sb ⟨_,j,_,t2,Y,O,rfl,gd,pm,nd,ln,hf,ld,λ_=>pl,λz=>absurd z ne⟩)
theorem Gg{y:Str}{tk:Tok}{Q:Bool->Shared->Prop}(hS:cV w s.heap a xs)(hl:xs.length<1000)(h:∀b h',Heap.SameBut a s.heap h'->cV w h' a (ja xs y)->Q b { s with heap:=h' }) :
 wpAny (model prog w) A (setAddHashed a (.str y tk) (mo w (.inr y))) Q E s:=by
 obtain⟨o,es,ep,t,O,x⟩:=hS;have el:ElemsOf (ce prog w) es.toList:=x.elems;unfold setAddHashed setAddHashedIn;refine jY (ae (iR O x.dat x.fit ?_));dsimp only;rw[byScan_of (x:=.str y tk) rfl x.bnd el];simp only[↓reduceIte];unfold setAddByScan;refine ae (ae (oq (ae (wpAny_setScan_of (knd:=ce prog w) (k:=.inr y) (sZ prog w y tk) O x.dat x.fit el ?_))));cases hr:List.findIdx? (λe=>(ce prog w).is (.inr y) e.2) es.toList with
 | some j=>
  dsimp only;refine aq (aq ?_);have hy:=x.find_some hr;exact h false s.heap (Ew a s.heap) (by unfold ja;rw[ai hy];exact⟨o,es,ep,t,O,x⟩)
 | none=>
  dsimp only;have hy:=x.find_none hr;have Y:=layNew_perm t es (mo w (.inr y)) (.str y tk);have BO:=layNew_fits t es (mo w (.inr y)) (.str y tk);have BP:=agO t es (mo w (.inr y)) (.str y tk);have e0:(ce prog w).hash (.inr y)=mo w (.inr y):=rfl
  try rw[e0]
  generalize hL:layNew t es (mo w (.inr y)) (.str y tk)=L at Y BO BP ⊢;obtain⟨dz,t1,wd,a3⟩:=L;dsimp only at Y BO BP ⊢;rw[Array.toList_push]at Y;have gd:∀e∈dz.toList,nI w e:=λe he=>by
   rcases bR.mp (Y.mem_iff.mp he) with z | z
   . exact x.good e z
   exact⟨y,tk,bD.mp z⟩
  have ea:ja xs y=xs++[y]:=by unfold ja;rw[ag hy]
  have pm:(dz.toList.map iF).Perm (ja xs y):=by
   rw[ea];refine(Y.map iF).trans ?_;rw[dP];exact x.perm.append_right _
  have ne:dz.size≠0:=λz=>by
   have:=pm.length_eq;rw[ea,aj,eJ,z,bI]at this;simp at this
  have ln:(ja xs y).length<=1000:=by have:=BM xs y;omega
  have a1:∀(b:Bool) {U:Shared}{J:Unit->Shared->Prop},J () U->wpAny (model prog w) A (match b with | true=>rule "set.scan.the-table-gave-way" | false=>pure ()) J E U:=λb U J G=>by
   cases b
   . exact aq G
   exact oq G
  refine ae (a1 _ ?_);have a0:∀h',Heap.SameBut a s.heap h'->cV w h' a (ja xs y)->wpAny (model prog w) A (pure true:Sem Bool) Q E { s with heap:=h' }:=λh' k z=>aq (h true h' k z);split
  . refine ae ?_;rw[hashByValue_scannable (x:=.str y tk) 8 rfl];refine aq ?_;refine P1 ?_ O x.ex x.dat gd pm (PZ x.nd) ln ?_ ?_ ?_ ne (λh' k z=>a0 h' k z)
    . intro b U J G;cases b
      . exact aq G
      exact oq G
    . exact SetTable.fits_plain_off BO
    . exact BP.trans x.led
    rfl
  rename_i a2;refine ae (aq ?_);simp only[↓reduceIte];refine P1 ?_ O x.ex x.dat gd pm (PZ x.nd) ln BO (BP.trans x.led) (by simpa using a2) ne (λh' k z=>a0 h' k z);intro b U J G;cases b
  . exact aq G
  exact oq G
end
theorem Gh:∀{l:List α}{i:Nat} (h:i<l.length),(l[i]::l.eraseIdx i).Perm l
 | [],i,h=>absurd h (Mt _)
 | x::r,0,h=>.refl _
 | x::r,i+1,h=>by
  have h':i<r.length:=by simpa using h
  show(r[i]::x::r.eraseIdx i).Perm _;exact(List.Perm.swap ..).trans ((Gh (l:=r) (i:=i) h').cons x)
theorem P4(next:Nat->Nat):∀(f k:Nat) (left:List α) (out:Array α),f=left.length->(pickOrder.go next f k left out).toList.Perm (out.toList++left)
 | 0,k,left,out,h=>by
  rw[xM.mp h.symm];simp[pickOrder.go]
 | f+1,k,left,out,h=>by
  have j:next k % left.length<left.length:=Eu _ (by omega);unfold pickOrder.go;rw[hX j];dsimp only;refine(P4 next f (k+1) _ _ (by rw[awu j];omega)).trans ?_;rw[Array.toList_push,j7];exact List.Perm.append_left _ (Gh j)
theorem P5(next:Nat->Nat)(xs:Array α):(pickOrder next xs).toList.Perm xs.toList:=by
 have:=P4 next xs.size 0 xs.toList #[] (by simp);simpa [pickOrder]using this
section
variable {prog:Program}{A:Around}{E:VP}
theorem agT(j:n≠0){Q:Nat->Shared->Prop}(h:∀i d,i<n->Q i { s with drawn:=d }):wpAny (model prog w) A (choose .order n) Q E s:=λΓ p hΓ=>by
 unfold choose;rw[Sem.wp_choose];refine⟨j,?_⟩;simp only[Sem.wp_pure];exact h _ _ (Eu _ (Nat.pos_of_ne_zero j))
theorem P6:∀(n:Nat) (l:List α) (s:Shared) (Q:List α->Shared->Prop),n=l.length->(∀out d,out.Perm l->Q out { s with drawn:=d })->wpAny (model prog w) A (drawOrder n l) Q E s
 | 0,l,s,Q,hn,h=>by
  have j:=xM.mp hn.symm;subst j;exact aq (h [] s.drawn .nil)
 | n+1,l,s,Q,hn,h=>by
  cases l with
  | nil=>cases hn
  | cons x r=>
   show wpAny _ _ (choose .order (x::r).length >>= _) _ _ _;refine ae (agT (by simp) λi d hi=>?_);rw[hX hi];dsimp only;refine ae (P6 n ((x::r).eraseIdx i) _ _ (by rw[awu hi];simp at hn ⊢;omega) λout d2 G=>aq ?_);exact h _ d2 ((G.cons _).trans (Gh hi))
end
def jb(h:Heap)(it a:Addr)(ep n:Nat)(f:Value)(i:Nat):Prop:=∃o,h.get? it=some o/\o.cls=.type "set_iterator"/\o.data=.fields #[f,rawInt i,.ref a,rawInt n,rawInt ep]
theorem jb.at'{h:Heap}{i:Nat}{f:Value}(x:jb h it a ep n f i)(k:∀o,h.get? it=some o->h'.get? it=some o):jb h' it a ep n f i:=x.elim λo j=>j.elim λe r=>⟨o,k _ e,r⟩
theorem jb.typeIs{i:Nat}{f:Value}(x:jb s.heap it a ep n f i):s.TypeIs (.ref it) "set_iterator":=x.elim λo j=>j.elim λe G=>G.elim λr _=>⟨o,e,r⟩
inductive Md (w:World) (h:Heap) (I a T:Addr) (es:Array (Int×Value)) (ep:Nat) (t:SetTable) (os:List (Int×Value)) (i:Nat):Prop
 | text (b:fF w=true) (e:os=(pickOrder (w.params.setOrder a ep) es).toList) (x:jb h I a ep es.size (rawInt 0) i)
 | draw (pl:List Nat) (b:fF w=false) (e:os.length=pl.length/\∀(k j:Nat),pl[k]?=some j->os[k]?=es[j]?) (x:jb h I a ep es.size (.ref T) i) (y:∃o n,h.get? T=some o/\o.data=.seq (pl.map λj=>rawInt (j:Nat)).toArray n) (z:I≠T)
 | tab (G:Nat) (b:fF w=false) (l:es.size<=1) (e:os=es.toList) (x:jb h I a ep es.size (rawInt G) i) (y:SetTable.below t.place G=i)
def vV(w:World)(I a T:Addr)(os:List (Int×Value))(i:Nat)(h:Heap):Prop:=∃o es ep t xs,h.get? a=some o/\eV w o es ep t xs/\os.Perm es.toList/\I≠a/\Md w h I a T es ep t os i
section
variable {prog:Program}{A:Around}{E:VP}
theorem Gi{i:Nat}{f v:Value}{Q:Unit->Shared->Prop}(x:jb s.heap it a ep n f i)(q:∀h',Heap.SameBut it s.heap h'->jb h' it a ep n v i->Q () { s with heap:=h' }):wpAny (model prog w) A (setField (.ref it) 0 v) Q E s:=by
 obtain⟨o,j,G,hd⟩:=x;exact Yh j hd (by simp) (q _ (mf ..) ⟨_,AV _ j (awv (My hd _)),(Obj.cls_mapFields ..).trans G,by rw[My hd];simp⟩)
theorem Gj{i:Nat}{f:Value}{Q:Unit->Shared->Prop}(x:jb s.heap it a ep n f i)(q:∀h',Heap.SameBut it s.heap h'->jb h' it a ep n f (i+1)->Q () { s with heap:=h' }):wpAny (model prog w) A (setField (.ref it) 1 (rawInt ((i:Int)+1))) Q E s:=by
 obtain⟨o,j,G,hd⟩:=x;exact Yh j hd (by simp) (q _ (mf ..) ⟨_,AV _ j (awv (My hd _)),(Obj.cls_mapFields ..).trans G,by rw[My hd];simp[rawInt]⟩)
theorem Gk{i:Nat}{f:Value}{R:PySem.Fin->Shared->Prop}{j:VP}(G:A.handled=none)(x:jb s.heap it a ep n f i)
 (q:∀h' e,Heap.ExtBut it s.heap h'->Shared.TypeIs { s with heap:=h' } e "StopIteration"->j e { s with heap:=h' }):wpAny (model prog w) A.in1 (do { setField (.ref it) 2 .none;raiseNew (<-newExc (.type "StopIteration") []) }) R j s:=by
 obtain⟨o,J,O,hd⟩:=x;refine ae (Yh J hd (by simp) ?_);show wpAny _ _ (newExc (.type "StopIteration") [] >>= _) _ _ _;refine ae ?_;simp only[newExc,newTuple];refine ae (AQ ?_ (by size_fits));refine ae (m:=firstArgMember _ _) (wpAny_of_eq (a:=Value.none) (by first | rfl | (simp only[firstArgMember];rfl)) ?_);refine AQ ?_ (by size_fits);simp only[raiseNew];refine ae (wpAny_handled ?_);rw[show A.in1.handled=none from G];refine ae (aq (wpAny_throw ?_));refine q _ _ (((mf ..).extBut.push _).push _) ?_;exact⟨_,dL _ rfl,rfl⟩
theorem P8(j:Nat):SetTable.below #[j] 0=0/\SetTable.below #[j] (j+1)=1:=by
 constructor
 . simp[SetTable.below,SetTable.below.go]
 simp[SetTable.below,SetTable.below.go]
theorem P9{t:SetTable}{i:Nat}{Q:Option (Value×Nat)->Shared->Prop}(b:fF w=true)(J:s.heap.get? a=some o)(hd:o.data=.set es ep t)(G:t.fits es.size=true)
 (q:Q (((pickOrder (w.params.setOrder a ep) es)[i]?).map λe=>(e.2,0)) s):wpAny (model prog w) A (setNext a 0 i ep) Q E s:=by
 have j:w.params.followText "set-order"=true:=b;unfold setNext;refine ae (iR J hd G ?_);refine ae (m:=setsByText) (ae (qC (aq ?_)));show wpAny _ _ (if w.params.followText "set-order"=true then _ else _) _ _ s;rw[ai j,ag (show ¬((ep != ep)=true) by simp)];refine ae ?_;unfold setWalk;refine ae (iR J hd G ?_);refine ae (m:=setsByText) (ae (qC (aq ?_)));show wpAny _ _ (if w.params.followText "set-order"=true then _ else _) _ _ s;rw[ai j];exact ae (qC (aq (aq q)))
theorem Qa{t:SetTable}{G i:Nat}{Q:Option (Value×Nat)->Shared->Prop}(b:fF w=false)(Y:s.heap.get? a=some o)(hd:o.data=.set es ep t)(O:t.fits es.size=true)(U:t.led = !fF w)(l:es.size<=1)
 (q:Q (match es[SetTable.below t.place G]?,t.place[SetTable.below t.place G]? with | some (_,x),some j=>some (x,j+1) | _,_=>none) s):wpAny (model prog w) A (setNext a G i ep) Q E s:=by
 have J:w.params.followText "set-order"=false:=b;unfold setNext;refine ae (iR Y hd O ?_);refine ae (m:=setsByText) (ae (qC (aq ?_)));show wpAny _ _ (if w.params.followText "set-order"=true then _ else _) _ _ s;rw[ag (by rw[J];exact cW)];show wpAny _ _ (if (!t.plain && decide (es.size > 1))=true then _ else _) _ _ s;rw[ag (by rw[cx (by omega),vg];exact cW)];show wpAny _ _ ((if (!t.led && !es.isEmpty)=true then _ else _) >>= _) _ _ s;rw[ag (by rw[U,b];exact cW)];exact ae (aq (aq q))
theorem vW{n i:Nat}{f:Value}{t:SetTable}{Q:Option Value->Shared->Prop}(x:jb s.heap it a ep es.size f i)(O:s.heap.get? a=some o)(hd:o.data=.set es ep t)(J:t.fits es.size=true)
 {E1:VP}
 (q:wpAny (model prog w) A.in1 (if let .int slot _:=f then
  (do
   match <-setNext a slot.toNat i ep with
   | some (x,next)=>setField (.ref it) 0 (rawInt next);setField (.ref it) 1 (rawInt ((i:Int)+1));ret x
   | none=>setField (.ref it) 2 .none;raiseNew (<-newExc (.type "StopIteration") []))
  else(do
   let some places <-seqItems? f | unsupported "internal:set_iterator"
   match places[i]? with
   | some (.int place _)=>let x <-setNextDrawn a place.toNat ep;setField (.ref it) 1 (rawInt ((i:Int)+1));ret x
   | some _=>unsupported "internal:set_iterator"
   | none=>setField (.ref it) 0 (rawInt 0);setField (.ref it) 2 .none;raiseNew (<-newExc (.type "StopIteration") [])))
  (λj s'=>∃v,j=.done (.ret v)/\Q (some v) s') (λe s'=>Shared.TypeIs s' e "StopIteration"/\Q none s') s) :
 wpAny (model prog w) A (pyNext (.ref it)) Q E s:=by
 obtain⟨oi,U,Y,G⟩:=id x;unfold pyNext;refine ae (wpAny_attempt (wpAny_callSpecial?_slot (name:=Str.ofString "__next__") x.typeIs BH (sK BH x.typeIs afJ ?_ (afM _))));unfold Builtin.«set_iterator.__next__»;refine ae (aq ?_);refine ae (wpAny_fieldsOf U G ?_);show wpAny _ _ (setEntries a >>= _) _ _ s;unfold setEntries;refine ae (ae (iR O hd J (aq ?_)));dsimp only;rw[ag (by simp)];refine eP q (λj s' z=>?_) (λe s' z=>?_)
 . obtain⟨v,rfl,z⟩:=z;exact⟨v,rfl,aq z⟩
 exact ae (ou (T:="StopIteration") (b:=true) z.1 isSubtype_stop (aq z.2))
end
section
variable {prog:Program}{A:Around}{E:VP}{I T:Addr}
theorem Md.keep{h:Heap}{t:SetTable}{i:Nat}(x:Md w h I a T es ep t os i)(k:∀b,b=I\/b=T->∀o,h.get? b=some o->h'.get? b=some o):Md w h' I a T es ep t os i:=by
 cases x with
 | text b e x=>exact .text b e (x.at' (k I (.inl rfl)))
 | draw pl b e x y z=>
  obtain⟨o,n,e1,e2⟩:=y;exact .draw pl b e (x.at' (k I (.inl rfl))) ⟨o,n,k T (.inr rfl) o e1,e2⟩ z
 | tab j b l e x y=>exact .tab j b l e (x.at' (k I (.inl rfl))) y
theorem agZ{i:Nat}{e:Int×Value}{Q:Option Value->Shared->Prop}(x:vV w I a T os i s.heap)(hi:os[i]?=some e)(q:∀h',Heap.SameBut I s.heap h'->vV w I a T os (i+1) h'->Q (some e.2) { s with heap:=h' }) :
 wpAny (model prog w) A (pyNext (.ref I)) Q E s:=by
 obtain⟨o,es,ep,t,xs,J,X,pm,vX,m⟩:=x;have done:∀h',Heap.SameBut I s.heap h'->Md w h' I a T es ep t os (i+1)->Q (some e.2) { s with heap:=h' }:=λh' k m'=>q h' k ⟨o,es,ep,t,xs,by rw[k.2 a (λz=>vX z.symm)];exact J,X,pm,vX,m'⟩;cases m with
 | text b G x=>
  have vY:(pickOrder (w.params.setOrder a ep) es)[i]?=some e:=by rw[G,qA]at hi;exact hi
  refine vW (E1:=E) (n:=0) x J X.dat X.fit ?_;show wpAny _ _ (setNext a 0 i ep >>= _) _ _ _;refine ae (P9 b J X.dat X.fit ?_);rw[vY];refine ae (Gi x λh1 k1 x1=>ae (Gj (s:={ s with heap:=h1 }) x1 λh2 k2 O=>aq ⟨_,rfl,done h2 (k1.trans k2) (.text b G O)⟩))
 | draw pl b G x y z=>
  obtain⟨oT,nT,hT,U⟩:=y;have Y:i<pl.length:=by
   rw[<-G.1];exact(dg.mp hi).1
  have dQ:pl[i]?=some pl[i]:=hX Y;have he:es[pl[i]]?=some e:=(G.2 i _ dQ).symm.trans hi;refine vW (E1:=E) (n:=0) x J X.dat X.fit ?_;show wpAny _ _ (seqItems? (.ref T) >>= _) _ _ _;refine ae (xD hT U ?_);have Gm:(pl.map λj=>rawInt (j:Nat)).toArray[i]?=some (rawInt (pl[i]:Nat)):=by simp[Y]
  dsimp only;rw[Gm];show wpAny _ _ (setNextDrawn a pl[i] ep >>= _) _ _ _;refine ae ?_;unfold setNextDrawn;refine ae (iR J X.dat X.fit ?_);dsimp only;rw[ag (show ¬((ep != ep)=true) by simp),he];refine aq ?_;refine ae (Gj x λh2 k2 O=>aq ⟨_,rfl,done h2 k2 (.draw pl b G O ⟨oT,nT,by rw[k2.2 T (λq=>z q.symm)];exact hT,U⟩ z)⟩)
 | tab sl b l G x y=>
  have hz:es.size=1/\i=0:=by
   rw[G]at hi;have:=(dg.mp hi).1;rw[eJ]at this;omega
  have Gn:es[i]?=some e:=by rw[G,qA]at hi;exact hi
  have bG:t.place.size=1:=by
   have:=X.fit;unfold SetTable.fits at this;simp only[iP,jZ]at this;omega
  obtain⟨j,hj⟩:∃j,t.place = #[j]:=by
   rcases hp:t.place with⟨l⟩
   rw[hp]at bG
   match l,bG with
   | [j],_=>exact⟨j,rfl⟩
  refine vW (E1:=E) (n:=0) x J X.dat X.fit ?_;show wpAny _ _ (setNext a sl i ep >>= _) _ _ _;refine ae (Qa b J X.dat X.fit X.led l ?_);have Go:t.place[i]?=some j:=by rw[hj,hz.2];rfl
  rw[y,Gn,Go];refine ae (Gi x λh1 k1 x1=>ae (Gj (s:={ s with heap:=h1 }) x1 λh2 k2 O=>aq ⟨_,rfl,done h2 (k1.trans k2) (.tab (j+1) b l G O (by rw[hj,(P8 j).2,hz.2]))⟩))
theorem ag0{Q:Option Value->Shared->Prop}(O:A.handled=none)(x:vV w I a T os os.length s.heap)(q:∀h',Heap.ExtBut I s.heap h'->Q none { s with heap:=h' }):wpAny (model prog w) A (pyNext (.ref I)) Q E s:=by
 obtain⟨o,es,ep,t,xs,G,X,pm,vX,m⟩:=x;have hn:os.length=es.size:=by rw[pm.length_eq,eJ]
 have U:∀h' e,Heap.ExtBut I s.heap h'->Shared.TypeIs { s with heap:=h' } e "StopIteration"->Shared.TypeIs { s with heap:=h' } e "StopIteration"/\Q none { s with heap:=h' }:=λh' e k z=>⟨z,q h' k⟩;cases m with
 | text b J x=>
  refine vW (E1:=E) (n:=0) x G X.dat X.fit ?_;show wpAny _ _ (setNext a 0 os.length ep >>= _) _ _ _;refine ae (P9 b G X.dat X.fit ?_);have vY:(pickOrder (w.params.setOrder a ep) es)[os.length]?=none:=by
   have:(pickOrder (w.params.setOrder a ep) es).toList[os.length]?=none:=by rw[<-J];simp
   rwa [qA]at this
  rw[vY];exact Gk O x U
 | draw pl b J x y z=>
  obtain⟨oT,nT,hT,Y⟩:=y;refine vW (E1:=E) (n:=0) x G X.dat X.fit ?_;show wpAny _ _ (seqItems? (.ref T) >>= _) _ _ _;refine ae (xD hT Y ?_);have Gm:(pl.map λj=>rawInt (j:Nat)).toArray[os.length]?=none:=by simp[J.1]
  dsimp only;rw[Gm];refine ae (Gi x λh1 k1 x1=>?_);refine Gk (s:={ s with heap:=h1 }) O x1 λh' e k z=>U h' e (k1.extBut.trans k) z
 | tab sl b l J x y=>
  refine vW (E1:=E) (n:=0) x G X.dat X.fit ?_;show wpAny _ _ (setNext a sl os.length ep >>= _) _ _ _;refine ae (Qa b G X.dat X.fit X.led l ?_);have Gn:es[os.length]?=none:=by rw[hn];simp
  rw[y,Gn];exact Gk O x U
theorem ag1(hh:A.handled=none)(I a T:Addr)(os:List (Int×Value)):Walks prog w A I [I,a,T] [I] os.length (λi v=>∃e,os[i]?=some e/\v=e.2) (λi h=>vV w I a T os i h) where
 sub:=λb j=>by simp at j;simp[j]
 frame:=λi h h' st O=>by
  obtain⟨o,es,ep,t,xs,U,X,pm,Y,m⟩:=st;exact⟨o,es,ep,t,xs,O a (by simp) o U,X,pm,Y,m.keep λb j o e=>O b (by rcases j with rfl | rfl<;>simp) o e⟩
 item:=λi s Q E hi st G=>by
  refine agZ st (hX hi) λh' k fN=>?_;exact G _ h' s.toks ⟨_,hX hi,rfl⟩ fN λb o j e=>k.extBut b o (λh=>j (by simp[h])) e
 done:=λs Q E st G=>ag0 hh st λh' kB=>G h' s.toks λb o j e=>kB b o (λh=>j (by simp[h])) e
 self:=λi s Q E st G=>by
  obtain⟨o,es,ep,t,xs,U,X,pm,Y,m⟩:=st;have J:s.TypeIs (.ref I) "set_iterator":=by
   cases m with
   | text b e x=>exact x.typeIs
   | draw pl b e x y z=>exact x.typeIs
   | tab sl b l e x y=>exact x.typeIs
  refine X9 J Pe (sK Pe J afK ?_ (afN _));show wpAny _ _ (ret (.ref I)) _ _ s;exact aq ⟨_,rfl,"set_iterator",_,J,BH.lookup,G⟩
theorem Qb:∀{pl:List Nat},(∀j∈pl,j<es.size)->(pl.filterMap (es[·]?)).length=pl.length/\∀(k j:Nat),pl[k]?=some j->(pl.filterMap (es[·]?))[k]?=es[j]?
 | [],_=>⟨rfl,λk j h=>by cases h⟩
 | p::r,h=>by
  have O:p<es.size:=h p (by simp);have J:es[p]?=some es[p]:=qy O;obtain⟨h1,h2⟩:=Qb (pl:=r) λj U=>h j (bT _ U);rw[List.filterMap_cons_some J];refine⟨by simp[h1],λk j G=>?_⟩;cases k with
  | zero=>cases G;exact J.symm
  | succ k=>exact h2 k j G
theorem ag2{Q:VP}(x:cV w s.heap a xs)(hQ:∀I T d h' os,s.heap.objs.size<=I->(∀b o,s.heap.get? b=some o->h'.get? b=some o)->(T=a\/s.heap.objs.size<=T)->vV w I a T os 0 h'->(os.map iF).Perm xs->(∀e∈os,nI w e)->Q (.ref I) { s with heap:=h',drawn:=d }) :
 wpAny (model prog w) A (pyIter (.ref a)) Q E s:=by
 obtain⟨o,es,ep,t,O,X⟩:=id x;have aO:=bH O;refine X9 x.typeIs aww (sK aww x.typeIs afL ?_ (PySem.F.args_set_iter_1 _));unfold Builtin.«frozenset.__iter__»;refine ae (m:=Builtin.Frozenset.slot0 _ _) (aq ?_);refine ae ?_;unfold Builtin.Frozenset.sizeOf setEntries;refine ae (ae (iR O X.dat X.fit (aq (aq ?_))));refine ae ?_;unfold setDrawn;refine ae (iR O X.dat X.fit ?_);refine ae (m:=setsByText) (ae (qC (aq ?_)));show wpAny _ _ (pure (!fF w && (!t.plain && decide (es.size > 1)))) _ _ _;refine aq ?_;have Y:∀(f:Value) (d:_) (h1:Heap),(∀b o,s.heap.get? b=some o->h1.get? b=some o)->s.heap.objs.size<=h1.objs.size ->
  (∀h',(∀b o,h1.get? b=some o->h'.get? b=some o)->jb h' h1.objs.size a ep es.size f 0->h1.objs.size<h'.objs.size->∃T os,(T=a\/s.heap.objs.size<=T)/\os.Perm es.toList/\Md w h' h1.objs.size a T es ep t os 0) ->
  wpAny (model prog w) A.in1 (setEpoch a >>= λe=>newFields "set_iterator" [f,rawInt 0,.ref a,rawInt es.size,rawInt e] >>= λv=>ret v) (λY s'=>∃v,Y=.done (.ret v)/\∃T r,s'.TypeIs v T/\typeLookup (.type T) "__next__"=pure (some r)/\Q v s') E { s with heap:=h1,drawn:=d }:=by
  intro f d h1 k1 hz hm;refine ae ?_;unfold setEpoch;refine ae (iR (s:={ s with heap:=h1,drawn:=d }) (k1 a o O) X.dat X.fit (aq ?_));refine ae (AQ ?_);have G:jb (h1.push { cls:=.type "set_iterator",data:=.fields #[f,rawInt 0,.ref a,rawInt es.size,rawInt ep] }) h1.objs.size a ep es.size f 0:=⟨_,dL _ rfl,rfl,rfl⟩;obtain⟨T,os,hT,pm,m⟩:=hm _ (λb o e=>b9 _ e) G (by rw[sM];exact xH _);refine aq ⟨_,rfl,"set_iterator",_,G.typeIs (s:={ s with heap:=_,drawn:=d }),BH.lookup,?_⟩;refine hQ h1.objs.size T d _ os hz (λb o e=>b9 _ (k1 b o e)) hT ⟨o,es,ep,t,xs,b9 _ (k1 a o O),X,pm,kU (gz aO hz),m⟩ ((pm.map iF).trans X.perm) λe he=>X.good e (pm.mem_iff.mp he)
 cases hb:(!fF w && (!t.plain && decide (es.size > 1))) with
 | false=>
  rw[ag cW];refine ae (m:=pure (rawInt 0)) (aq ?_);refine Y (rawInt 0) s.drawn s.heap (λb o e=>e) (aG _) λh' k G hl=>?_;cases J:fF w with
  | true=>exact⟨a,_,.inl rfl,P5 _ _,.text J rfl G⟩
  | false=>
   have hs:es.size<=1:=by
    refine Nat.le_of_not_lt λz=>?_;rw[J,X.pl (by omega),bN (by omega:es.size > 1)]at hb;cases hb
   refine⟨a,_,.inl rfl,.refl _,.tab 0 J hs rfl G ?_⟩;have bG:t.place.size=es.size:=by
    have:=X.fit;unfold SetTable.fits at this;simp only[iP,jZ]at this;exact this.1
   rcases U:t.place with⟨l⟩
   rw[U]at bG
   match l,bG with
   | [],_=>rfl
   | [j],_=>exact(P8 j).1
   | _::_::_,z=>simp at z;omega
 | true=>
  have J:fF w=false:=by cases J:fF w with | false=>rfl | true=>rw[J]at hb;cases hb
  rw[ai rfl];refine ae (P6 es.size (List.range es.size) s _ (by simp) λpl d U=>?_);have hsz:es.size<=sizeLine:=xP X.bnd;refine ae (wpAny_newTuple ?_ (by rw[aj,U.length_eq,Mu];exact hsz));have dQ:∀j∈pl,j<es.size:=λj hj=>vd.mp (U.mem_iff.mp hj);obtain⟨g1,g2⟩:=Qb dQ;refine Y (.ref s.heap.objs.size) d (s.heap.push { cls:=.type "tuple",data:=.seq (pl.map fun(i:Nat)=>rawInt i).toArray }) (λb o e=>b9 _ e) (by rw[sM];exact qv _) λh' k G hl=>?_;refine⟨s.heap.objs.size,pl.filterMap (es[·]?),.inr (aG _),?_,.draw pl J ⟨g1,g2⟩ G ⟨_,0,k _ _ (dL _ rfl),rfl⟩ (kU (by rw[sM];exact xH _))⟩;exact(U.filterMap _).trans (by rw[awx])
end
theorem Gp:∀{os:List (Int×Value)},(∀e∈os,nI w e)->StrsAre (os.map (·.2)) (os.map iF)
 | [],_=>.nil
 | e::r,h=>by
  obtain⟨y,tk,rfl⟩:=h e (by simp);exact .cons y tk (Gp λe j=>h e (bT _ j))
section
variable {prog:Program}{A:Around}{E:VP}
theorem ag3{R:Result->Shared->Prop}(hh:A.handled=none)(x:cV w s.heap a xs)(S:Addr)(O:S≠a)(res:Value)(c₀:Nat)(hS:s.heap.get? S=some { cls:=.type "list",data:=.seq #[] c₀ })
 (hR:∀(h':Heap) (tk:Nat) (d:Drawn) (os:List (Int×Value)) (a0:Av) (c':Nat),(∀b o,b≠S->s.heap.get? b=some o->h'.get? b=some o)->h'.get? S=some { cls:=.type "list",dict:=none,data:=.seq a0 c',slots:=#[] }->a0.toList=os.map (·.2)->(os.map iF).Perm xs->(∀e∈os,nI w e)->R (.ok (.ret res)) { s with heap:=h',toks:=tk,drawn:=d }) (hn:xs.length<=sizeLine) :
 wpAny (model prog w) A.in1 (Builtin.List.listExtendWith (.ref S) (.ref a) res) (λa2 s'=>match a2 with | .done f=>R (.ok f) s' | .again c'=>c'.quiet=true/\codeAny (model prog w) A c' R s') (λe s'=>R (.error e) s') s:=by
 unfold Builtin.List.listExtendWith;refine ae (Mr (T:="set") x.typeIs ?_);have h1:Builtin.List.listSameRef (.ref S) (.ref a)=false:=by simp[Builtin.List.listSameRef,O]
 have h2:(Value.type "set" == Value.type "list")=false:=by decide
 have h3:(Value.type "set" == Value.type "tuple")=false:=by decide
 simp only[h1,h2,h3,sO,qp,mT];refine ae (ag2 x λI T d hp os hI kp hT st pm gd=>?_);have yH:=bH hS;have ln:os.length=xs.length:=by have:=pm.length_eq;rwa [aj]at this
 have a3:S≠T:=λz=>hT.elim (λq=>O (z.trans q)) λq=>absurd (gz (z▸yH) q) (oA _);have yI:S∉[I,a,T]:=by
  simp only[aZ,fc,fe,mh];exact⟨cX (gz yH hI),O,a3⟩
 have W:=ag1 (prog:=prog) (w:=w) (A:=A.in1) hh I a T os;have a1:∀(h:Heap) (U tk:Nat),vV w I a T os 0 h->(∀b o,b≠S->s.heap.get? b=some o->h.get? b=some o)->h.get? S=some { cls:=.type "list",data:=.seq #[] U } ->
  codeAny (model prog w) A (.builtin "list.extend.loop" ⟨[.ref S,.ref I,res],[]⟩) R { s with heap:=h,toks:=tk,drawn:=d }:=by
  intro h U tk fg hk J;refine codeAny_extend_loopS W.toS (by omega) S yI res os.length 0 _ #[] U rfl (dC _) fg J (ItemsOf.nil _) λs' Qc c' hm ii Y=>?_;rw[Moved.eq_with hm];refine hR s'.heap s'.toks d os Qc c' (λb o G e=>hm.heap b o (λue=>?_) (hk b o G e)) ii ?_ pm gd
  . rcases aZ.mp ue with e' | ue
    . exact G e'
    have aO:=bH e;rw[bD.mp ue]at aO;exact absurd (gz aO hI) (oA _)
  refine List.ext_getElem? λj=>?_;rw[qA,dN]
  by_cases hj:j<os.length
  . have Qe:j<Qc.size:=by rw[Y.1];exact hj
    obtain⟨e,he,hv⟩:=Y.2 j _ (qy Qe);rw[he,qy Qe,hv];rfl
  rw[Yg (by rw[Y.1];omega),awt (by omega)];rfl
 have J:=kp _ _ hS;refine ae (jY (afP (cV.typeIs (s:={ s with heap:=hp,drawn:=d }) (x.at' λo e=>kp a o e)) ?_));refine Yd (λ_=>?_) (λ_=>aq ⟨sX awy _,a1 _ c₀ _ st (λb o _ e=>kp b o e) J⟩);refine ae (oq (ae ?_));show wpAny _ _ (updateSeq S (·.push .none) >>= λ_=>updateSeq S (·.pop)) _ _ _;refine ae (Ex (s:={ s with heap:=hp,drawn:=d }) J rfl ?_);have Qf:=AV (Obj.mapSeq (·.push Value.none)) J rfl;refine Ex (hz:=by seq_fits) Qf rfl ?_;have a4:=AV (Obj.mapSeq (·.pop)) Qf rfl;refine aq ⟨sX awy _,a1 _ _ _ (W.frame 0 _ _ st λb G o e=>?_) (λb o G e=>?_) a4⟩
 . have Qg:b≠S:=λh=>yI (h▸G);exact(Ep _ _ (fw Qg)).trans ((Ep _ _ (fw Qg)).trans e)
 exact(Ep _ _ (fw G)).trans ((Ep _ _ (fw G)).trans (kp b o e))
theorem ag6{R:Lw->Shared->Prop}(hh:A.handled=none)(x:cV w s.heap a xs)
 (h:∀(h':Heap) (tk:Nat) (d:Drawn) (us:Lw) (ys:Ls),(∀b o,s.heap.get? b=some o->h'.get? b=some o)->StrsAre us ys->ys.Perm xs->R us { s with heap:=h',toks:=tk,drawn:=d }) (hn:xs.length<=sizeLine):wpAny (model prog w) A (collect (.ref a)) R E s:=by
 obtain⟨o,_,_,_,ho,_⟩:=id x;have O:=bH ho;unfold collect;refine ae (wpAny_runValue (qB PyProof.Rows.entry_proto_collect' ?_));rw[vj PySem.F.plain_proto_collect _];show wpAny _ A.in1 (newList [] >>= λl=>again (.builtin "list.__iadd__" ⟨[l,.ref a],[]⟩)) _ _ s;refine ae (AQ (aq ⟨sX awz _,qB PyProof.Rows.entry_list_iadd' ?_⟩));rw[vj awz _];show wpAny _ A.in1 (Builtin.List.listExtendWith (.ref s.heap.objs.size) (.ref a) (.ref s.heap.objs.size)) _ _ _;have a0:=ag3 (prog:=prog) (A:=A) (s:={ s with heap:=s.heap.push { cls:=.type "list",data:=.seq ([]:Lw).toArray } })
  (R:=fun(q:Result) (s':Shared)=>∃(h':Heap) (tk:Nat) (d:Drawn) (os:List (Int×Value)) (j:Av) (c':Nat),q=.ok (.ret (.ref s.heap.objs.size))/\s'={ s with heap:=h',toks:=tk,drawn:=d }/\(∀b o,s.heap.get? b=some o->h'.get? b=some o) /\
   h'.get? s.heap.objs.size=some { cls:=.type "list",dict:=none,data:=.seq j c',slots:=#[] }/\j.toList=os.map (·.2)/\(os.map iF).Perm xs/\∀e∈os,nI w e)
  hh (x.at' λo e=>b9 _ e) s.heap.objs.size (kU O) (.ref s.heap.objs.size) 0 (dL _ rfl)
  (λh' tk d os j c' G J e1 e2 e3=>⟨h',tk,d,os,j,c',rfl,rfl,λb o e=>G b o (cX (bH e)) (b9 _ e),J,e1,e2,e3⟩) hn
 refine eP a0 (λY s' z=>?_) λe s' z=>?_
 . cases Y with
   | done f=>
    obtain⟨h',tk,d,os,j,c',e,rfl,G,J,e1,e2,e3⟩:=z;cases e;show wpAny _ A (load s.heap.objs.size >>= _) _ _ _;refine ae (wpAny_load (s:={ s with heap:=h',toks:=tk,drawn:=d }) J (aq ?_));exact h h' tk d _ _ G (by rw[e1];exact Gp e3) e2
   | again c₁=>
    refine⟨z.1,qt z.2 λq s₂ y=>?_⟩;obtain⟨h',tk,d,os,j,c',rfl,rfl,G,J,e1,e2,e3⟩:=y;show wpAny _ A (load s.heap.objs.size >>= _) _ _ _;refine ae (wpAny_load (s:={ s with heap:=h',toks:=tk,drawn:=d }) J (aq ?_));exact h h' tk d _ _ G (by rw[e1];exact Gp e3) e2
 obtain⟨_,_,_,_,_,_,U,_⟩:=z;cases U
theorem ag7{r:Addr}{Q:VP}(Y:wpAny (model prog w) A.in1 (collect (.ref r)) (λus s'=>∃(ys:Ls) (h':Heap) (tk:Nat) (d:Drawn),s'={ s with heap:=h',toks:=tk,drawn:=d }/\StrsAre us ys/\us.length<64 /\
 ∀(h2:Heap) (out:Lw) (j:Ls) (e:Nat),(∀b o,h'.get? b=some o->h2.get? b=some o)->h2.get? h'.objs.size=some (seqObj "list" out.toArray e)->StrsAre out j->j.Perm ys->sortedS j=true->Q (.ref h'.objs.size) { s with heap:=h2,toks:=tk,drawn:=d }) E s) :
 wpAny (model prog w) A (call (.builtin "sorted") [.ref r]) Q E s:=by
 refine awn kind_sorted plain_sorted entry_sorted (args_sorted1 _) ?_;unfold Builtin.«sorted»;refine ae (m:=checkCount "sorted" 1 1 _) (aq ?_);refine ae (eP Y (λus s' a0=>a0.elim λys a3=>a3.elim λh' a4=>a4.elim λtk a5=>a5.elim λd a6=>a6.elim λes a7=>a7.elim λG a8=>a8.elim λqY a9=>?_) λ_ _ e=>e);subst es;refine ae (X6 ?_ (by rw[sL];omega));have J:(h'.push (seqObj "list" us.toArray 0)).get? h'.objs.size=some (seqObj "list" us.toArray 0):=dL _ rfl;show wpAny _ _ _ _ _ { s with heap:=h'.push (seqObj "list" us.toArray 0),toks:=tk,drawn:=d };refine ae (jY (sK slot_list_sort ⟨_,J,rfl⟩ entry_list_sort (list_sort_treeK strKind_oneLt J G.keysOf (λv₁ v₂ rest e=>keyKind_strs (by rw[<-e];exact G)) qY λO a1 a2=>⟨_,rfl,?_⟩) (args_list_sort _)));obtain⟨j,h1,h2,h3⟩:=sorted_out_str G a1 a2;obtain⟨e,he⟩:=sortedHeap_at (vs:=us) (out:=(arrOf O).map (·.2)) J;refine aq ⟨_,rfl,a9 _ ((arrOf O).map (·.2)).toList j e (λb o q=>?_) (by rw[X7];exact he) h1 h2 h3⟩;have U:=bH q;rw[sortedHeap_old (cX U) (by rw[sM];exact X8 U)];exact b9 _ q
end
def nJ(w:World)(a:Addr)(xs:Ls):HO:=.ext λh=>cV w h a xs
theorem Gr{H:Hp}{h:Heap}(x:cV w h a xs):bX P w H h a (nJ w a xs):=
 ⟨x,x.elim λo j=>j.elim λ_ G=>G.elim λ_ J=>J.elim λ_ O=>O.elim λe _=>⟨o,e⟩,λ_ _ z k=>z.at' k⟩
theorem Gs{H:Hp}{h:Heap}(ok:cr P w H h)(e:H a=some (nJ w a xs)):cV w h a xs:=(show bX P w H h a (nJ w a xs) from ok a _ e).1
section
variable {X:Cx}{ad:Po}{Z:List (Option V)} {H:Hp}
theorem Inv.drew{d:Drawn}(I:Inv X ad Z H s):Inv X ad Z H { s with drawn:=d }:=⟨I.ok,I.os,I.bare,I.base,I.loc,I.cell,I.free,I.freeC,I.pin,I.hok,I.len⟩
theorem Qh(U:X.calm=true):eS X (.builtin "sorted") (λvs H Q=>∃p xs,vs=[.ref p]/\H p=some (nJ X.w p xs)/\xs.length<64/\∀ys,ys.Perm xs->sortedS ys=true->d5 H (.lst (ys.map V.str)) Q):=by
 intro ad s Z H xs us Q I r h;obtain⟨p,zs,rfl,e,qY,q⟩:=h;obtain⟨u,rfl,ru⟩:=vals1 r;cases ru;refine ag7 (ag6 (I.ok.hd U) (Gs I.hok e) (λh' tk d us ys k hs J=>?_) (ky (by omega)));have hl:=J.length_eq;have vE:=Mp hs;have j:Inv X ad Z H { s with heap:=h',toks:=tk,drawn:=d }:=(I.kept (t':=tk) k).drew;refine⟨ys,h',tk,d,rfl,hs,by omega,λh2 out O e' k2 Y ii G tX=>?_⟩;have Pb:=G.length_eq;exact⟨.ref h'.objs.size,_,F0 (s:={ s with drawn:=d }) j k2 Y ii (ky (by omega)),rfl,(q O (G.trans J) tX).at _ (j.hok.fresh (aG _))⟩
end
theorem Qi{j:Array Nat}(G:j.toList.Perm (List.range es.size)):(j.filterMap (es[·]?)).toList.Perm es.toList:=by
 rw[Array.toList_filterMap];exact(G.filterMap _).trans (by rw[awx])
theorem ahj(h:n<=252):pA (SetTable.sizeAbove n - 1)/\n<=SetTable.sizeAbove n - 1/\SetTable.sizeAbove n<=256:=by
 have hd:(List.range 253).all (λn=>decide ((SetTable.sizeAbove n - 1=7\/SetTable.sizeAbove n - 1=15\/SetTable.sizeAbove n - 1=31\/SetTable.sizeAbove n - 1=63\/SetTable.sizeAbove n - 1=127\/SetTable.sizeAbove n - 1=255)/\n<=SetTable.sizeAbove n - 1/\SetTable.sizeAbove n<=256))=true:=by decide +kernel
 unfold pA;exact cH (iQ.mp hd n (vd.mpr (by omega)))
section
variable {prog:Program}{A:Around}{E:VP}
theorem Gu:eV w { cls:=.type "set",dict:=none,data:=.set #[] 0 (.fresh 0 0 (!fF w)) } #[] 0 (.fresh 0 0 (!fF w)) []:=
 ⟨⟨rfl,rfl,rfl⟩,rfl,(λe j=>by cases j),.nil,.nil,by decide,rfl,rfl,λh=>absurd rfl h,λ_=>.inl rfl⟩
theorem ahk{t:SetTable}{Q:Unit->Shared->Prop}(G:s.heap.get? a=some o)(X:eV w o es ep t xs)(hn:n<=252)(hx:xs.length<=n)
 (q:∀h' o' es' t',Heap.SameBut a s.heap h'->h'.get? a=some o'->eV w o' es' (ep+1) t' xs->n<=t'.mask->Q () { s with heap:=h' }):wpAny (model prog w) A (setRelay a n) Q E s:=by
 obtain⟨m1,m2,m3⟩:=ahj hn;unfold setRelay;refine ae (iR G X.dat X.fit ?_);dsimp only;have sl:¬(SetTable.sizeAbove n > sizeLine):=by rw[sL];omega
 rw[ag sl];have hz:=X.size;have hsz:(es.map (·.1)).size=es.size:=Array.size_map;obtain⟨t',J,e,Y,O,hl,dQ,U⟩:=PX (mask:=SetTable.sizeAbove n - 1) (f:=t.finger) (m:=t.movedTo (SetTable.sizeAbove n - 1)) (led:=t.led) (plain:=t.plain) (hs:=es.map (·.1)) m1 (by rw[hsz];omega);rw[hsz]at Y O;have e':t.relaid (es.map (·.1)) n=some (t',J):=e;rw[e'];have pm:=Qi Y;have j:(J.filterMap (es[·]?)).size=es.size:=by rw[<-eJ,pm.length_eq,eJ]
 refine ae ?_;show wpAny _ _ (if ((J.filterMap (es[·]?)).size != es.size)=true then _ else _) _ _ _;rw[ag (by rw[j];simp)];refine aq ?_;dsimp only;refine AW G X.dat ?_ (by rw[j];exact xP X.bnd);refine q _ _ _ t' (mf ..) (eV.store G X.ex X.dat) ⟨X.ex,rfl,λe he=>X.good e (pm.mem_iff.mp he),(pm.map iF).trans X.perm,X.nd,X.len,by rw[j];exact O,hl.trans X.led,λz=>dQ.trans (X.pl (by rw[<-j];exact z)),λ_=>by rw[U];exact m1⟩ (by rw[U];exact m2)
theorem Qj{Q:Unit->Shared->Prop}(x:cV w s.heap a xs)(hn:xs.length+n<=126)
 (q:∀h' o' es' U t',Heap.SameBut a s.heap h'->h'.get? a=some o'->eV w o' es' U t' xs->(t'.fill=0->n<=t'.mask)->Q () { s with heap:=h' }):wpAny (model prog w) A (setRoomFor a n) Q E s:=by
 obtain⟨o,es,ep,t,G,X⟩:=x;have j:t.place.size=xs.length:=by
  have:=X.fit;unfold SetTable.fits at this;simp only[iP,jZ]at this;rw[this.1,X.size]
 unfold setRoomFor;refine ae (iR G X.dat X.fit ?_);show wpAny _ _ (match t.roomFor n with | some Y=>setRelay a Y | x=>pure PUnit.unit) _ _ _;unfold SetTable.roomFor
 by_cases J:(t.fill+n) * 5 >= t.mask * 3
 . rw[ai J];refine ahk G X (by rw[j];omega) (by rw[j];omega) λh' o' es' t' k h1 h2 O=>q h' o' es' _ t' k h1 h2 λ_=>by rw[j]at O;omega
 rw[ag J];exact aq (q s.heap o es ep t (Ew _ _) G X λz=>by rw[z]at J;omega)
end
section
variable {prog:Program}{A:Around}{E:VP}{f:Addr}
theorem ahl{t:SetTable}{Q:Array (Int×Value)->Shared->Prop}(J:s.heap.get? a=some o)(X:eV w o es ep t xs)(c:fF w=true\/es.size<=1)(q:∀G:Array (Int×Value),G.toList.Perm es.toList->Q G s) :
 wpAny (model prog w) A (setWalk a) Q E s:=by
 unfold setWalk;refine ae (iR J X.dat X.fit ?_);refine ae (m:=setsByText) (ae (qC (aq ?_)));cases j:fF w with
 | true=>
  have j:w.params.followText "set-order"=true:=j;show wpAny _ _ (if w.params.followText "set-order"=true then _ else _) _ _ s;rw[ai j];exact ae (qC (aq (q _ (P5 _ _))))
 | false=>
  have hs:es.size<=1:=by
   rcases c with c | c
   . rw[c]at j;cases j
   exact c
  have j:w.params.followText "set-order"=false:=j;show wpAny _ _ (if w.params.followText "set-order"=true then _ else _) _ _ s;rw[ag (by rw[j];exact cW)];show wpAny _ _ (if (!t.plain && decide (es.size > 1))=true then _ else _) _ _ s;rw[ag (by rw[cx (by omega),vg];exact cW)];show wpAny _ _ ((if (!t.led && decide (es.size > 1))=true then _ else _) >>= _) _ _ s;rw[ag (by rw[cx (by omega),vg];exact cW)];exact ae (aq (aq (q _ (.refl _))))
theorem ahm{J:List Addr}{Q:Bool->Shared->Prop}(h:∀b∈J,∃xs,cV w s.heap b xs)(q:Q true s):wpAny (model prog w) A (setsQuiet J) Q E s:=by
 unfold setsQuiet;refine ae (xC _ (λrest r s'=>r.1=none/\s'=s/\∀b∈rest,∃xs,cV w s.heap b xs) _ ?_ ?_ _ _ ⟨rfl,rfl,h⟩)
 . rintro b rest r s' ⟨e1,rfl,Y⟩;obtain⟨xs,o,es,ep,t,ho,X⟩:=Y b (by simp);unfold setEntries;refine ae (ae (iR ho X.dat X.fit (aq ?_)));refine ae (wpAny_forIn_array' _ (λO j G=>j.1=none/\G=s'/\∀e∈O,nI w e) _ ?_ ?_ _ _ ⟨rfl,rfl,X.good⟩)
   . rintro e O j G ⟨e3,rfl,U⟩;obtain⟨y,tk,rfl⟩:=U e (by simp);exact aq ⟨rfl,rfl,λe he=>U e (bT _ he)⟩
   rintro⟨j,u2⟩ G ⟨e3,rfl,_⟩;dsimp only at e3;subst e3;exact aq ⟨rfl,rfl,λb hb=>Y b (bT _ hb)⟩
 rintro⟨r,u⟩ s' ⟨e1,rfl,_⟩;dsimp only at e1;subst e1;exact aq q
theorem ahn{t:SetTable}{U:Ls}{Q:Array (Int×Value)->Shared->Prop}(J:s.heap.get? a=some o)(X:eV w o es ep t U)(y:cV w s.heap f xs)(cY:f≠a)
 (q:∀h' (j:Array (Int×Value)),Heap.SameBut f s.heap h'->cV w h' f xs->j.toList.Perm es.toList->Q j { s with heap:=h' }):wpAny (model prog w) A (setWalkUnseen a [f] (some f)) Q E s:=by
 unfold setWalkUnseen;refine ae (iR J X.dat X.fit ?_);refine ae (m:=setsByText) (ae (qC (aq ?_)));show wpAny _ _ (if (fF w || (t.led && t.plain) || decide (es.size<=1))=true then _ else _) _ _ _
 by_cases c:(fF w || (t.led && t.plain) || decide (es.size<=1))=true
 . rw[ai c];refine ahl J X ?_ λj pm=>q s.heap j (Ew _ _) y pm
   by_cases hz:es.size<=1
   . exact .inr hz
   rw[X.pl (by omega),cx hz,vg,sO,sO]at c;exact .inl c
 rw[ag c];refine ae (ahm (λb hb=>?_) ?_)
 . rcases aZ.mp hb with rfl | hb
   . exact⟨U,o,es,ep,t,J,X⟩
   rw[bD.mp hb];exact⟨xs,y⟩
 show wpAny _ _ (if (!true)=true then _ else _) _ _ _;rw[ag (by decide)];refine ae (oq ?_);obtain⟨of,Y,a0,O,G,F⟩:=id y;show wpAny _ _ (setState f >>= _) _ _ _;refine ae (iR G F.dat F.fit ?_);dsimp only;split
 . refine ae (AW G F.dat ?_ (xP F.bnd));refine aq (q _ es (mf ..) ⟨_,Y,_,_,eV.store G F.ex F.dat,F.ex,rfl,F.good,F.perm,F.nd,F.len,?_,?_,?_,?_⟩ (.refl _))
   . have:=F.fit;cases O;exact this
   . show(O.led && t.led)=_;rw[F.led,X.led,Yi]
   . intro z;show(O.plain && t.plain)=false;rw[F.pl z,Ei]
   exact F.msk
 exact aq (q s.heap es (Ew _ _) y (.refl _))
theorem Qm{a0:Sem Unit}{j:Array (Int×Value)}{t:SetTable}{O:Ls}{Q:Unit->Shared->Prop}(ho:s.heap.get? a=some o)(X:eV w o j ep t O)(y:cV w s.heap f xs)(U:f≠a)(hz:xs.length+O.length<=126)
 (hE:∀(s':Shared) (Q:Unit->Shared->Prop),s'.heap.get? a=some o->Q () s'->wpAny (model prog w) A a0 Q E s')
 (q:∀h' ys,Heap.SameBut f s.heap h'->cV w h' f ys->(∀z,z∈ys↔z∈xs\/z∈O)->Q () { s with heap:=h' }):wpAny (model prog w) A (setMerge f a a0) Q E s:=by
 have ze:=X.size;unfold setMerge;rw[ag (by simpa using U)];refine ae (iR ho X.dat X.fit ?_);dsimp only
 by_cases G:j.isEmpty=true
 . rw[ai G];have h0:O=[]:=xM.mp (by rw[<-ze];simpa using G);exact aq (q s.heap xs (Ew _ _) y λz=>by rw[h0];simp)
 rw[ag G];refine ae (Qj (n:=j.size) y (by rw[ze];exact hz) λh1 of dz rh t1 k1 e1 F hm=>?_);have nK:h1.get? a=some o:=by rw[k1.2 a (fw U)];exact ho
 refine ae (iR (s:={ s with heap:=h1 }) e1 F.dat F.fit ?_);dsimp only;have bG:t1.place.size=xs.length:=by
  have:=F.fit;unfold SetTable.fits at this;simp only[iP,jZ]at this;rw[this.1,F.size]
 have Qn:j.size≠0:=λz=>G (by simpa using z);have Pp:t1.fill=0->xs=[]/\dz.size=0:=λz=>by
  unfold SetTable.fill at z;have:xs.length=0:=by omega
  exact⟨xM.mp this,by rw[F.size,this]⟩
 by_cases BR:t1.fill=0
 . obtain⟨hx,FU⟩:=Pp BR;unfold SetTable.road;rw[ag (by rw[BR];simp)]
   by_cases hr:(t1.mask == t.mask && t.dummies.isEmpty)=true
   . rw[ai hr];dsimp only;refine AW e1 F.dat ?_ (xP X.bnd);refine q _ O (k1.trans (mf ..)) ⟨_,j,_,_,eV.store e1 F.ex F.dat,F.ex,rfl,X.good,X.perm,X.nd,X.len,?_,?_,?_,λz=>absurd z Qn⟩ λz=>by rw[hx];simp
     . have:=X.fit;cases t;exact this
     . show(t1.led && t.led)=_;rw[F.led,X.led,Yi]
     intro z;show(t1.plain && t.plain)=false;rw[X.pl z,vg]
   rw[ag hr];dsimp only;have hsz:(j.map (·.1)).size=j.size:=Array.size_map;obtain⟨t',a1,e,hp,hf,hl,dQ,BS⟩:=PX (mask:=t1.mask) (f:=t1.finger) (m:=t1.moves) (led:=t1.led && t.led) (plain:=t1.plain && t.plain) (hs:=j.map (·.1)) (F.msk FU) (by rw[hsz];exact hm BR);rw[hsz]at hp hf;rw[e];have pm:=Qi hp;have Y:(a1.filterMap (j[·]?)).size=j.size:=by rw[<-eJ,pm.length_eq,eJ]
   refine ae ?_;show wpAny _ _ (if ((a1.filterMap (j[·]?)).size != j.size)=true then _ else _) _ _ _;rw[ag (by rw[Y];simp)];refine aq ?_;dsimp only;refine AW e1 F.dat ?_ (by rw[Y];exact xP X.bnd);refine q _ O (k1.trans (mf ..)) ⟨_,_,_,t',eV.store e1 F.ex F.dat,F.ex,rfl,λe G=>X.good e (pm.mem_iff.mp G),(pm.map iF).trans X.perm,X.nd,X.len,by rw[Y];exact hf,?_,?_,λz=>absurd (Y.symm.trans z) Qn⟩ λz=>by rw[hx];simp
   . rw[hl,F.led,X.led,Yi]
   intro z;rw[dQ,X.pl (by rw[<-Y];exact z),vg]
 unfold SetTable.road;rw[ai (by simpa using BR)];dsimp only;refine ae (ahn (s:={ s with heap:=h1 }) nK X ⟨of,dz,rh,t1,e1,F⟩ U λh2 a2 k2 y2 pm=>?_);have yK:h2.get? a=some o:=by rw[k2.2 a (fw U)];exact nK
 refine ae (wpAny_forIn_array' _ (λrest _ s'=>∃J ys,s'={ s with heap:=J }/\Heap.SameBut f s.heap J/\cV w J f ys/\(∀e∈rest,nI w e)/\ys.length+rest.length<=252/\∀z,(z∈ys\/z∈rest.map iF)↔(z∈xs\/z∈O)) _ ?_ ?_ _ _ ⟨h2,xs,rfl,k1.trans k2,y2,λe G=>X.good e (pm.mem_iff.mp G),?_,λz=>?_⟩)
 . rintro e rest r s' ⟨J,ys,rfl,k3,y3,hg,hl,ue⟩;obtain⟨z,tk,rfl⟩:=hg e (by simp);have BU:J.get? a=some o:=by rw[k3.2 a (fw U)];exact ho
   rw[cT]at hl;refine ae (jY (Gg (s:={ s with heap:=J }) y3 (by omega) λb h4 k4 y4=>?_));have BV:h4.get? a=some o:=by rw[k4.2 a (fw U)];exact BU
   refine ae (hE _ _ BV ?_);refine ae (iR (s:={ s with heap:=h4 }) BV X.dat X.fit ?_);dsimp only;rw[ag (by simp)];refine aq ⟨h4,ja ys z,rfl,k3.trans k4,y4,λe G=>hg e (bT _ G),by have:=BM ys z;omega,λu=>?_⟩;rw[<-ue u,Ge,bV,aZ];have ek:iF (mo w (.inr z),Value.str z tk)=z:=rfl;rw[ek];constructor
   . rintro((p | p) | p)
     . exact .inl p
     . exact .inr (.inl p)
     exact .inr (.inr p)
   rintro(p | p | p)
   . exact .inl (.inl p)
   . exact .inl (.inr p)
   exact .inr p
 . rintro r s' ⟨J,ys,rfl,k3,y3,_,_,ue⟩;exact aq (q J ys k3 y3 λz=>by rw[<-ue z];simp)
 . have e9:j.toList.length=j.size:=eJ;have e8:=pm.length_eq;omega
 have:z∈a2.toList.map iF↔z∈O:=((pm.map iF).trans X.perm).mem_iff;rw[this]
end
theorem kE[DecidableEq α]:∀{xs ys:List α},xs.Nodup->(∀z∈xs,z∈ys)->xs.length<=ys.length
 | [],ys,_,_=>dC _
 | x::xs,ys,hn,h=>by
  have j:=h x (by simp);have G:=qw.mp hn;have:=kE (xs:=xs) (ys:=ys.erase x) G.2 λz hz=>(List.mem_erase_of_ne (λe=>G.1 (by rw[<-e];exact hz))).mpr (h z (bT _ hz));rw[List.length_erase_of_mem j]at this;have J:0<ys.length:=awA j;rw[cT];omega
section
variable {prog:Program}{A:Around}{E:VP}{f:Addr}
theorem Gw{v:Value}{Q:Bool->Shared->Prop}(j:s.TypeIs v "set")(q:Q true s):wpAny (model prog w) A (Builtin.Frozenset.isAnySet v) Q E s:=by
 unfold Builtin.Frozenset.isAnySet;show wpAny _ _ (isInstance v (.type "set") >>= _) _ _ _;exact ae (ou (T:="set") (b:=true) j Yj (aq q))
theorem aho{v:Value}{Q:Bool->Shared->Prop}(j:s.TypeIs v "dict")(q:Q false s):wpAny (model prog w) A (Builtin.Frozenset.isAnySet v) Q E s:=by
 unfold Builtin.Frozenset.isAnySet;show wpAny _ _ (isInstance v (.type "set") >>= _) _ _ _;refine ae (ou (T:="dict") (b:=false) j PySem.F.sub_dict_set ?_);exact ou (T:="dict") (b:=false) j PySem.F.sub_dict_frozenset q
theorem ahp{Q:VP}(h:Q (.ref s.heap.objs.size) { s with heap:=s.heap.push { cls:=.type "set",dict:=none,data:=.set #[] 0 (.fresh 0 0 (!fF w)) } }):wpAny (model prog w) A (newSet (.type "set")) Q E s:=by
 unfold newSet;refine ae (m:=setsByText) (ae (qC (aq ?_)));exact AQ h
theorem ahq{Q:VP}(x:cV w s.heap a xs)(hz:xs.length<=126)(q:∀h' ys,(∀b o,s.heap.get? b=some o->h'.get? b=some o)->s.heap.objs.size<h'.objs.size->cV w h' s.heap.objs.size ys->(∀z,z∈ys↔z∈xs)->Q (.ref s.heap.objs.size) { s with heap:=h' }) :
 wpAny (model prog w) A (Builtin.Frozenset.copyOf a) Q E s:=by
 obtain⟨o,es,ep,t,j,X⟩:=id x;have G:=bH j;unfold Builtin.Frozenset.copyOf;refine ae ?_;unfold Builtin.Frozenset.baseOf;refine ae (ou (T:="set") (b:=true) x.typeIs Yj (aq ?_));rw[ai rfl];refine ae (ahp ?_);refine ae (m:=Builtin.Frozenset.addrOf _) (aq ?_);have U:=b9 { cls:=.type "set",dict:=none,data:=.set #[] 0 (.fresh 0 0 (!fF w)) } j;refine ae (Qm (s:={ s with heap:=_ }) U X ⟨_,_,_,_,dL _ rfl,Gu⟩ (kU G) (by simpa using hz) (λs' Q _ h=>aq h) λh' ys k y O=>aq ?_);refine q h' ys (λb o e=>?_) ?_ y λz=>by rw[O z];simp
 . rw[k.2 b (cX (bH e))];exact b9 _ e
 obtain⟨o',_,_,_,J,_⟩:=y;exact bH J
theorem ahr:entryFor table "set.__or__"=some Builtin.«frozenset.__or__»:=Mq (id':="frozenset.__or__") (by kernel_rfl) rfl (by decide +kernel) (by kernel_rfl)
theorem ahs{l r:Addr}{Q:VP}(x:cV w s.heap l xs)(y:cV w s.heap r ys)(U:l≠r)(hz:xs.length+ys.length<=126)
 (q:∀h' zs,(∀b o,s.heap.get? b=some o->h'.get? b=some o)->cV w h' s.heap.objs.size zs->(∀z,z∈zs↔z∈xs\/z∈ys)->Q (.ref s.heap.objs.size) { s with heap:=h' }) :
 wpAny (model prog w) A (call (.builtin "set.__or__") [.ref l,.ref r]) (λv s'=>v≠.notImplemented/\Q v s') E s:=by
 refine sK PySem.F.slot_set_or x.typeIs ahr ?_ (PySem.F.args_set_or_2 _ _);unfold Builtin.«frozenset.__or__»;show wpAny _ _ (Builtin.Frozenset.slot1 "__or__" ⟨[.ref l,.ref r],[]⟩ >>= _) _ _ _;refine ae (m:=Builtin.Frozenset.slot1 _ _) (aq ?_);dsimp only;rw[ag cW];dsimp only;refine ae ?_;show wpAny _ _ (Builtin.Frozenset.isAnySet (.ref l) >>= _) _ _ _;refine ae (Gw x.typeIs ?_);refine Gw y.typeIs ?_;show wpAny _ _ (if (!true)=true then _ else _) _ _ _;rw[ag (by decide)];refine ae (m:=Builtin.Frozenset.addrOf _) (aq ?_);refine ae ?_;show wpAny _ _ (Builtin.Frozenset.copyOf l >>= _) _ _ _;obtain⟨ox,_,_,_,a0,_⟩:=id x;have a2:=bH a0;refine ae (ahq x (by omega) λh1 zs k1 yL O G=>?_);show wpAny _ _ (if (Value.ref r != Value.ref l)=true then _ else _) _ _ _;rw[ai (by simp[bne];exact λz=>U z.symm)];have J:=y.at' (h':=h1) λo e=>k1 _ o e;obtain⟨o,es,ep,t,j,X⟩:=id J;obtain⟨oy,_,_,_,a1,_⟩:=id y;have Y:=bH a1;have lz:zs.length<=xs.length:=by
  obtain⟨_,_,_,_,_,σ⟩:=O;obtain⟨_,_,_,_,_,X0⟩:=x;exact kE σ.nd λz hz=>(G z).mp hz
 refine ae (m:=Builtin.Frozenset.addrOf _) (aq (ae (jY ?_)));unfold Builtin.Frozenset.updateFrom;refine ae (Gw (s:={ s with heap:=h1 }) J.typeIs ?_);rw[ai rfl];refine ae (m:=Builtin.Frozenset.addrOf _) (aq ?_);refine ae (m:=setEpoch r) (wpAny_setEpoch_of (s:={ s with heap:=h1 }) j X.dat X.fit ?_);refine Qm (s:={ s with heap:=h1 }) j X O (kU Y) (by omega) (λs' Q' e q'=>?_) λh2 us k2 u2 m2=>?_
 . unfold Builtin.Frozenset.unchanged;refine ae (wpAny_setEpoch_of e X.dat X.fit ?_);rw[ag (by simp)];exact aq q'
 refine aq (aq ⟨_,rfl,(by intro z;cases z),q h2 us (λb o e=>?_) u2 λz=>by rw[m2 z,G z]⟩);rw[k2.2 b (cX (bH e))];exact k1 b o e
def iG(w:World):Obj:={ cls:=.type "set",dict:=none,data:=.set #[] 0 (.fresh 0 0 (!fF w)) }
theorem ahw(v:Value){Q₁:VP}(h:Q₁ (.ref s.heap.objs.size) { s with heap:=s.heap.push (iG w) }):codeAny (model prog w) A (.call (.builtin "set.__new__") ⟨[.type "set",v],[]⟩) (wants Q₁ E) s:=by
 refine codeAny_of_tree ?_;show wpAny _ A.in1 (do { checkBuiltinCall "set.__new__" ⟨[.type "set",v],[]⟩;again (.builtin "set.__new__" ⟨[.type "set",v],[]⟩) }) _ _ s;refine ae (wpAny_of_eq (PySem.F.newCall_set_1 v) (aq ⟨sX awB _,qB PySem.F.entry_set_new ?_⟩));rw[vj awB _];unfold Builtin.«set.__new__» Builtin.Frozenset.newClass;have j:=Yj;obtain⟨G,g,d,tk,os⟩:=s;dsimp only
 wp_walk
 refine qC (aq ?_);dsimp only;simp only[newObj];exact ae (wpAny_alloc (aq (aq h)))
theorem Qo{v:Value}{Q:VP}(hq:∀J:Around,J.handled=A.handled->wpAny (model prog w) J (Builtin.Frozenset.updateFrom "set.__init__" s.heap.objs.size v) (λ_ s'=>Q (.ref s.heap.objs.size) s') E { s with heap:=s.heap.push (iG w) }) :
 wpAny (model prog w) A (call (.type "set") [v]) Q E s:=by
 obtain⟨c,tl,a3⟩:=vk.mro;have a2:=vk.made;have a1:=vk.sub;refine Ek (codeAny_of_tree ?_);show wpAny _ _ (callAny (.type "set") _) _ _ _;refine aq ⟨Code.quiet_builtin _ (by decide +kernel),qB PySem.F.entry_type_call ?_⟩;rw[Around.under_plain (weight_type_call_type "set" [v] []) rfl];have h1:=vk.notType;have h2:=vk.canCreate;have hct:=PySem.F.typeCall_set_1 v
 repeat (any_goals (first | assumption | wp_step))
 refine qt (ahw v (E:=E) (Q₁:=λobj Y=>obj=.ref s.heap.objs.size/\Y={ s with heap:=s.heap.push (iG w) }) ⟨rfl,rfl⟩) λr Y G=>?_;cases r with
 | error e=>exact G
 | ok fl=>
  cases fl with
  | ret obj=>
   obtain⟨rfl,rfl⟩:=G;have O:(s.heap.push (iG w)).get? s.heap.objs.size=some (iG w):=dL _ rfl;have hT:Shared.TypeIs { s with heap:=s.heap.push (iG w) } (.ref s.heap.objs.size) "set":=⟨_,O,rfl⟩;have a6:=vk.init.lookup;have a5:=vk.init.bind (.ref s.heap.objs.size)
   repeat (any_goals (first | assumption | wp_step))
   refine qt (Ye (R:=wants (λr s₂=>r=.none/\Q (.ref s.heap.objs.size) s₂) E) vk.init.plain PySem.F.entry_set_init (check_set_init_1 hT ?_)) λr₂ s₂ j=>?_
   . unfold Builtin.«set.__init__» noKeywords;have U:=hq;generalize a4:Builtin.Frozenset.updateFrom=UF at U ⊢;have ii:(s.heap.push (iG w)).get? s.heap.objs.size=some { cls:=.type "set",dict:=none,data:=.set #[] 0 (.fresh 0 0 (!fF w)) }:=O
     wp_walk
     exact eP (U _ rfl) (λ_ s' z=>aq ⟨rfl,z⟩) λ_ _ e=>e
   cases r₂ with
   | error e=>exact j
   | ok a0=>
    cases a0 with
    | ret r=>
     obtain⟨rfl,z⟩:=j
     repeat (any_goals (first | assumption | wp_step))
    | _=>exact j.elim
  | _=>exact G.elim
theorem ahz{v:Value}{Q:Bool->Shared->Prop}(j:s.TypeIs v "list")(q:Q false s):wpAny (model prog w) A (Builtin.Frozenset.isAnySet v) Q E s:=by
 unfold Builtin.Frozenset.isAnySet;show wpAny _ _ (isInstance v (.type "set") >>= _) _ _ _;refine ae (ou (T:="list") (b:=false) j PySem.F.sub_list_set ?_);exact ou (T:="list") (b:=false) j PySem.F.sub_list_frozenset q
theorem ahA{R:Result->Shared->Prop}{I S:Addr}{fp Y:List Addr}{P:Nat->Value->Prop}{St:Nat->Heap->Prop}(W:Walks prog w A.in1 I fp Y n P St)(yI:S∉fp)(hv:∀i v,P i v->∃y tk,ys[i]?=some y/\v=.str y tk)(j:n<=500)(hn:ys.length=n) :
 ∀(k i:Nat) (s:Shared) (xs:Ls),n - i=k->i<=n->St i s.heap->cV w s.heap S xs->xs.length<=i->(∀h' tk zs,(∀b o,b≠S->b∉Y->s.heap.get? b=some o->h'.get? b=some o)->cV w h' S zs->(∀z,z∈zs↔z∈xs\/z∈ys.drop i)->R (.ok (.ret .none)) { s with heap:=h',toks:=tk }) ->
  codeAny (model prog w) A (.builtin "set.update.loop" ⟨[.ref S,.ref I],[]⟩) R s:=by
 have Qp:S∉Y:=λh=>yI (W.sub _ h);intro k
 induction k with
 | zero=>
  intro i s xs hk hi J U hl O;have ij:i=n:=by omega
  subst ij;refine qB awC ?_;rw[vj Yk _];show wpAny _ A.in1 (pyNext (.ref I) >>= _) _ _ s;refine ae (W.done s _ _ J λh' tk G=>?_);show wpAny _ A.in1 (ret Value.none) _ _ _;exact aq (O h' tk xs (λb o _ j e=>G b o j e) (U.at' λo e=>G S o Qp e) λz=>by rw[List.drop_eq_nil_of_le (by omega)];simp)
 | succ k ih=>
  intro i s xs hk hi J U hl O;have aO:i<n:=by omega
  refine qB awC ?_;rw[vj Yk _];show wpAny _ A.in1 (pyNext (.ref I) >>= _) _ _ s;refine ae (W.item i s _ _ aO J λv h1 Qq hP yM G=>?_);obtain⟨y,tk,hy,rfl⟩:=hv i v hP;have ii:cV w h1 S xs:=U.at' λo e=>G S o Qp e;show wpAny _ A.in1 (holding [Value.str y tk] (setAdd S (.str y tk)) >>= _) _ _ _;refine ae (jY ?_);unfold setAdd;refine jY (ae ((ce prog w).pyHash (k:=.inr y) (sZ prog w y tk) ?_));refine Gg (s:={ s with heap:=h1,toks:=Qq+1 }) ii (by omega) λb h2 k2 S2=>?_;have ld:=BM xs y;have hd:ys.drop i=y::ys.drop (i+1):=by
   obtain⟨vY,e⟩:=dg.mp hy;rw[<-e];exact Mn vY
  refine aq ⟨sX Yk _,ih (i+1) { s with heap:=h2,toks:=Qq+1 } (ja xs y) (by omega) aO (W.frame _ h1 _ yM λb j o e=>?_) S2 (by omega) λh' nQ zs kk σ mem=>?_⟩
  . rw[k2.2 b (λh:b=S=>yI (by rw[<-h];exact j))];exact e
  refine O h' nQ zs (λb o j hw e=>kk b o j hw ?_) σ λz=>?_
  . rw[k2.2 b j];exact G b o hw e
  rw[mem z,Ge,hd,aZ];constructor
  . rintro((p | p) | p)
    . exact .inl p
    . exact .inr (.inl p)
    exact .inr (.inr p)
  rintro(p | p | p)
  . exact .inl (.inl p)
  . exact .inl (.inr p)
  exact .inr p
theorem ahB{l:Addr}{j:Av}{Q:VP}(hh:A.handled=none)(U:s.heap.IsList l j)(hv:∀(i:Nat) (v:Value),j[i]?=some v->∃y tk,ys[i]?=some y/\v=Value.str y tk)(O:j.size<=500)(hn:ys.length=j.size)
 (q:∀h' tk zs,(∀b o,s.heap.get? b=some o->h'.get? b=some o)->cV w h' s.heap.objs.size zs->(∀z,z∈zs↔z∈ys)->Q (.ref s.heap.objs.size) { s with heap:=h',toks:=tk }):wpAny (model prog w) A (call (.type "set") [.ref l]) Q E s:=by
 refine Qo λJ hA=>?_;have G:(s.heap.push (iG w)).IsList l j:=U.push _;obtain⟨ol,BW,mH,nl,a1⟩:=id U;have Y:l<s.heap.objs.size:=bH BW;unfold Builtin.Frozenset.updateFrom;refine ae (ahz (s:={ s with heap:=_ }) G.typeIs ?_);rw[ag cW];refine ae (Mr (s:={ s with heap:=_ }) G.typeIs ?_);rw[ag (by decide)];refine ae (Mc (s:={ s with heap:=_ }) G ?_);refine ae (wpAny_runValue ?_);have hz:(s.heap.push (iG w)).objs.size=s.heap.objs.size+1:=sM _ _;have a0:l≠(s.heap.push (iG w)).objs.size:=by rw[hz];exact cX (X8 Y)
 refine ahA (Ey (A:=J.in1) (by rw[show J.in1.handled=J.handled from rfl,hA,hh]) _ l a0 j) (S:=s.heap.objs.size) ?_ hv O hn (j.size - 0) 0 _ [] (by omega) (dC _) ⟨⟨_,dL _ rfl,rfl,rfl⟩,G.push _⟩
  ⟨_,_,_,_,b9 _ (dL _ rfl),Gu⟩ (dC _) λh' tk zs k σ m=>?_
 . simp only[aZ,fc,fe,mh];exact⟨by rw[hz];exact cX (xH _),kU Y⟩
 show wpAny _ _ _ _ _ _;refine aq (q h' tk zs (λb o e=>k b o (cX (bH e)) (λO=>?_) (b9 _ (b9 _ e))) σ λz=>by rw[m z];simp);have:=bH e;rw[bD.mp O,hz]at this;exact absurd (Nat.lt_of_succ_lt this) (oA _)
end
section
variable {prog:Program}{A:Around}{E:VP}
theorem ahD{d:Addr}{es:Array DictEntry}{ks:Ls}{Q:VP}(ho:s.heap.get? d=some o)(hc:o.cls=.type "dict")(hd:o.data=.dict es ep)(hm:(d == sysModules)=false)(hn:ks.length=es.size)(hb:ks.length<=63)
 (hk:∀(i:Nat) (e:DictEntry),es[i]?=some e->∃y tk,ks[i]?=some y/\e.key=Value.str y tk/\e.hash=mo w (.inr y))
 (q:∀h' zs,(∀b o,s.heap.get? b=some o->h'.get? b=some o)->cV w h' s.heap.objs.size zs->(∀z,z∈zs↔z∈ks)->Q (.ref s.heap.objs.size) { s with heap:=h' }):wpAny (model prog w) A (call (.type "set") [.ref d]) Q E s:=by
 refine Qo λA' hA=>?_;have aO:=bH ho;have G:=b9 (iG w) ho;have Y:Shared.TypeIs { s with heap:=s.heap.push (iG w) } (.ref d) "dict":=⟨_,G,hc⟩;unfold Builtin.Frozenset.updateFrom;refine ae (aho Y ?_);rw[ag cW];refine ae (Mr Y ?_);rw[ai (by decide)];refine ae (oq ?_);refine ae (m:=Builtin.Frozenset.addrOf _) (aq ?_);rw[hm,ag cW];refine ae (wpAny_dictEpoch (s:={ s with heap:=s.heap.push (iG w) }) G hd ?_);refine ae (Mo (s:={ s with heap:=s.heap.push (iG w) }) G hd ?_);have a0:cV w (s.heap.push (iG w)) s.heap.objs.size []:=⟨_,_,_,_,dL _ rfl,Gu⟩;refine ae (Qj (s:={ s with heap:=s.heap.push (iG w) }) (n:=es.size) a0 (by rw[<-hn];simpa using b8 hb (by decide)) λh1 o1 dz rh t1 k1 e1 X1 _=>?_);have J:d≠s.heap.objs.size:=cX aO;have yK:h1.get? d=some o:=by rw[k1.2 d J];exact G
 refine ae (Mo (s:={ s with heap:=h1 }) yK hd ?_);refine ae ?_;rw[Std.Legacy.Range.forIn_eq_forIn_range'];simp only[Std.Legacy.Range.size,Nat.sub_zero,Nat.add_sub_cancel,Nat.div_one];refine xC _ (λrest _ s'=>∃h' i zs,s'={ s with heap:=h' }/\rest=List.range' i (es.size - i)/\i<=es.size/\Heap.SameBut s.heap.objs.size (s.heap.push (iG w)) h'/\cV w h' s.heap.objs.size zs/\zs.length<=i/\∀z,z∈zs↔z∈ks.take i) _ ?_ ?_ _ _ ⟨h1,0,[],rfl,by simp,dC _,k1,⟨_,_,_,_,e1,X1⟩,aG _,λz=>by simp⟩
 . rintro x rest b s' ⟨h',i,zs,rfl,j,hi,kk,σ,hl,mem⟩;have U:i<es.size:=by
    rcases Nat.lt_or_ge i es.size with h | h
    . exact h
    rw[Nat.sub_eq_zero_of_le h]at j;simp at j
   obtain⟨rfl,Gy⟩:x=i/\rest=List.range' (i+1) (es.size - (i+1)):=by
    have e:es.size - i=(es.size - (i+1))+1:=by omega
    rw[e,List.range'_succ]at j;injection j with h1 h2;exact⟨h1,h2⟩
   have O:h'.get? d=some o:=by rw[kk.2 d J];exact G
   refine ae (Mo (s:={ s with heap:=h' }) O hd ?_);have hg:es[x]?=some es[x]:=qy U;obtain⟨y,tk,hy,lj,Gz⟩:=hk x _ hg;rw[hg];dsimp only;rw[lj,Gz];refine ae (jY (Gg (s:={ s with heap:=h' }) σ (by omega) λb h2 k2 Z2=>?_));have BV:h2.get? d=some o:=by rw[k2.2 d J];exact O
   refine ae (wpAny_dictEpoch (s:={ s with heap:=h2 }) BV hd ?_);rw[ag (by simp)];refine aq ⟨h2,x+1,ja zs y,rfl,Gy,U,kk.trans k2,Z2,by have:=BM zs y;omega,λz=>?_⟩;rw[Ge,mem z,hZ,hy];simp
 rintro b s' ⟨h',i,zs,rfl,j,hi,kk,σ,hl,mem⟩;have ij:i=es.size:=by
  rcases Nat.lt_or_ge i es.size with h | h
  . have e:es.size - i=(es.size - (i+1))+1:=by omega
    rw[e,List.range'_succ]at j;exact nomatch j
  exact Nat.le_antisymm hi h
 refine aq (q h' zs (λb o e=>?_) σ λz=>by rw[mem z,ij,<-hn,ff]);rw[kk.2 b (cX (bH e))];exact b9 _ e
end
def GA(w:World)(H:Hp)(ys:Ls)(Q:VK):Prop:=∀r xs H',H r=none->aa H H'->H' r=some (nJ w r xs)->xs.Nodup->(∀z,z∈xs↔z∈ys)->Q (.ref r) H'
theorem cV.nd{h:Heap}(x:cV w h a xs):xs.Nodup:=x.elim λ_ j=>j.elim λ_ G=>G.elim λ_ J=>J.elim λ_ O=>O.elim λ_ X=>X.nd
theorem Qt{us:Lw}(h:StrsAre us ys):us.length=ys.length/\∀(i:Nat) (v:Value),us[i]?=some v->∃y tk,ys[i]?=some y/\v=Value.str y tk:=by
 induction h with
 | nil=>exact⟨rfl,λi v e=>by cases e⟩
 | cons y t _ j=>
  refine⟨by simp[j.1],λi v e=>?_⟩;cases i with
  | zero=>cases e;exact⟨y,t,rfl,rfl⟩
  | succ i=>exact j.2 i v e
theorem Qu:∀{ys:Ls}{us:Lw},aW (ys.map V.str) us->StrsAre us ys
 | [],us,r=>by cases r;exact .nil
 | y::ys,us,r=>by
  cases r with
  | cons a b=>
   obtain⟨t,rfl⟩:=a;exact .cons y t (Qu b)
section
variable {X:Cx}
theorem ahJ(G:X.calm=true):eS X (.type "set") (λvs H Q=>∃p ys,vs=[.ref p]/\ac X.K H p (ys.map V.str)/\ys.length<=500/\GA X.w H ys Q):=by
 intro ad s Z H xs us Q I r h;obtain⟨p,ys,rfl,J,hz,q⟩:=h;obtain⟨u,rfl,U⟩:=vals1 r;cases U;obtain⟨b_,Y,O,O9⟩:=I.list J;have hs:=Qt (Qu Y);refine ahB (I.ok.hd G) O.isList (ys:=ys) (λi v e=>hs.2 i v (by simpa using e)) (by simp;omega) (by simp[hs.1]) λh' tk zs k σ m=>?_;have j:=I.hok.fresh (aG s.heap.objs.size);exact⟨.ref s.heap.objs.size,_,I.laid (t':=tk) (a:=s.heap.objs.size) (o:=nJ X.w s.heap.objs.size zs) k (aG _) (Gr σ),rfl,q _ zs _ j (fD j) aB σ.nd m⟩
theorem Qv:eS X (.type "set") (λvs H Q=>∃p kvs ks,vs=[.ref p]/\H p=some (.dK kvs)/\qZ kvs ks/\ks.length<=63/\GA X.w H ks Q):=by
 intro ad s Z H xs us Q I r h;obtain⟨p,kvs,ks,rfl,e,vP,hz,q⟩:=h;obtain⟨u,rfl,ru⟩:=vals1 r;cases ru;obtain⟨z,hd,vs,a0,dd⟩:=iB I.hok e;obtain⟨o,es,ep,ho,hx,a1,BX,mI,Qw⟩:=id dd;have a3:=a0.length;have l1:kvs.length=ks.length:=by have:=eZ List.length vP;simpa using this
 have l2:es.size=vs.length:=by have:=mI.length;simpa using this
 have hS:StrsAre (es.toList.map (·.key)) ks:=F1 (X:=X) vP a0 (by rw[aj,eJ];exact l2) λj v G=>by
  rw[dN]at G;cases J:es.toList[j]? with
  | none=>rw[J]at G;cases G
  | some O=>
   rw[J]at G;cases G;have a2:=(dg.mp J).1;rw[eJ]at a2;obtain⟨kv,tY⟩:∃kv,vs[j]?=some kv:=⟨vs[j]'(by omega),hX _⟩;exact⟨kv.1,kv.2,tY,(mI.get? J tY).1⟩
 refine ahD (ks:=ks) ho hx.1 a1 hd (by omega) hz (λi O hi=>?_) λh' zs k σ m=>?_
 . obtain⟨y,tk,hy,Y⟩:=(Qt hS).2 i O.key (by rw[dN,qA,hi];rfl);obtain⟨k',U,Gz⟩:=BX O (awD hi);refine⟨y,tk,hy,Y,?_⟩;rw[Y]at U;rw[Gz,(ce X.prog X.w).inj _ _ _ U (sZ X.prog X.w y tk)];rfl
 have hn:=I.hok.fresh (aG s.heap.objs.size);exact⟨.ref s.heap.objs.size,_,I.laid (t':=s.toks) (a:=s.heap.objs.size) (o:=nJ X.w s.heap.objs.size zs) k (aG _) (Gr σ),rfl,q _ zs _ hn (fD hn) aB σ.nd m⟩
theorem ahM:cK X (binaryOp .BitOr) (λx y H Q=>∃p q xs ys,x=.ref p/\y=.ref q/\p≠q/\H p=some (nJ X.w p xs)/\H q=some (nJ X.w q ys)/\xs.length+ys.length<=126/\GA X.w H (xs++ys) Q):=by
 intro ad s Z H x y v u Q I U Y h;obtain⟨p,q,xs,ys,rfl,rfl,J,e1,e2,hz,O⟩:=h;cases U;cases Y;have x1:=Gs I.hok e1;have G:=Gs I.hok e2;refine wpAny_binaryOp_same (op:=.BitOr) (T:="set") x1.typeIs G.typeIs PySem.F.fills_set_or PySem.F.slot_set_or (ahs x1 G J hz λh' zs k σ m=>?_);have j:=I.hok.fresh (aG s.heap.objs.size);exact⟨.ref s.heap.objs.size,_,I.laid (t':=s.toks) (a:=s.heap.objs.size) (o:=nJ X.w s.heap.objs.size zs) k (aG _) (Gr σ),rfl,O _ zs _ j (fD j) aB σ.nd λz=>by rw[m z];simp⟩
end
theorem ahN{K:Fg}{mg:Mv}{base:Heap}{k:Nat}{q c':Addr}{params:Arguments}{body:Expr}{scope:Scope}{pm iH:Value}{N ps:Ls}{A:Around}{outer:List Env}{H:Hp}{us:Lw}{vs:Lv}{Q:VK}{E:XK}{t:TE}
 (S:aN N ps scope) (j:ci (k+1) A) (e0:mw P w K mg base A outer s H) (ho:s.heap.get? q=some (W.kla_obj "<lambda>" a_ params body scope [] pm c' iH)) (U:s.heap.CodeRec (.ref c') a_)
 (Y:bindArgs (W.kla_fn "<lambda>" a_ params body scope [] pm (.ref c') iH) ⟨us,[]⟩=pure (ps.zip us)) (hl:vs.length=ps.length) (r:aW vs us)
 (ht:PE (lq aJ P w K mg base N a_ scope q (.ref c') A outer s H E) body t) (hq:t (start N vs) H Q) :
 codeAny (model P w) A (.call (.ref q) ⟨us,[]⟩) (CR aJ outer P w H s Q E) s:=by
 have a0:s.heap.NoLimit:=e0.mod.nolimit.keeps λb o e=>(e0.bs b o e).1;have O:∀y∈ps.zip us,scope.names.lookup y.1=some .local\/(scope.names.lookup y.1=some .cell/\((cellsFrom (s.heap.objs.size+1) scope.names []).lookup y.1).isSome=true):=λ⟨n,v⟩ hy=>by
  rcases S.par n (Mi hy).1 with q | q
  . exact .inl q
  exact .inr ⟨q,XO _ _ _ (.inl q)⟩
 refine W.kla_callFunE j.depth ho rfl S.co S.gen rfl U ?_;rw[Y];refine aq ?_;refine awa S.kind O λenv he G x=>?_;subst he;refine⟨a0.keeps x.toInCall.keep,W.kla_codeExpr ?_⟩;have I:Inv (lq aJ P w K mg base N a_ scope q (.ref c') A outer s H E) [] (start N vs) H G:=NX S j.hd e0 hl r x;refine eP (ht [] G (start N vs) H _ I hq) (λu s' hs=>?_) λe s' hs=>hs;obtain⟨v,H',J,rv,q⟩:=hs;exact⟨v,H',J.os,J.bare,J.base,J.hok,rv,q⟩
open PySem.W (tabObj)
def iI(P:Addr)(ps:Av):HO:=.ext λh=>h.get? P=some (tabObj ps)
def yN(c':Addr)(a_:Str):HO:=.ext λh=>h.CodeRec (.ref c') a_
def yO(q c':Addr)(a_:Str)(params:Arguments)(body:Expr)(scope:Scope):HO:=.ext λh=>∃pm iH,h.get? q=some (W.kla_obj "<lambda>" a_ params body scope [] pm c' iH)
def TabSt(H:Hp)(P:Addr)(pos:Pos)(a_:Str):Prop:=H P=some (iI P #[])\/∃c',H P=some (iI P #[rawInt pos.line,rawInt pos.col,.ref c'])/\H c'=some (yN c' a_)
def Qy(P:Addr)(a_:Str)(params:Arguments)(body:Expr)(scope:Scope)(pos:Pos):TE:=λZ H Q=>TabSt H P pos a_/\∀q c' H',H q=none->H' P≠none->(∀b o,H b=some o->b≠P->H' b=some o)->TabSt H' P pos a_->H' c'=some (yN c' a_)->H' q=some (yO q c' a_ params body scope)->Q (.ref q) H'
theorem yP{j:Program}{H:Hp}{h:Heap}{p:Heap->Prop}(e:h.get? a=some o)(J:p h)(G:∀h1 h2:Heap,p h1->(∀o,h1.get? a=some o->h2.get? a=some o)->p h2):bX j w H h a (.ext p):=⟨J,⟨_,e⟩,G⟩
theorem ahO{c':Addr}{h1 h2:Heap}(h:h1.CodeRec (.ref c') a_)(k:∀o,h1.get? c'=some o->h2.get? c'=some o):h2.CodeRec (.ref c') a_:=by
 obtain⟨c,O,vs,t,e,j,G,J⟩:=h;cases e;exact⟨c',O,vs,t,rfl,k _ j,G,J⟩
section
variable {X:Cx}{c P:Addr}{params:Arguments}{body:Expr}{scope:Scope}{pos:Pos}
theorem ahP(BY:X.env.code=.ref c)(hd:W.codeHdIn X.K c P=true)(hb:X.base.BuiltinsAt X.mg P)(hq:X.env.qual ++ "<lambda>"=a_:=by rfl)(BZ:X.env.globals=mainGlobals:=by rfl)(mH:closureFor scope X.env=pure []:=by rfl)(GD:defaultsOf params X.env=([],[]):=by rfl) :
 PE X (.Lambda params body scope pos) (Qy P a_ params body scope pos):=by
 intro ad s Z H Q I h;obtain⟨tb,q⟩:=h;subst hq;refine W.kla_eval GD ?_;have hg:s.heap.Ns mainGlobals X.mg:=I.mod.glob.keeps I.bk;obtain⟨bm,ob,b1,b2,b3,b4,b5,b6⟩:=hb;have kF:s.heap.BuiltinsAt X.mg P:=⟨bm,ob,b1,b2,b3,b4,I.bk _ _ b5,b6⟩;have C:=W.codeHd_of_K I.kIn hd;have a5:∀ps,s.heap.get? P=some (tabObj ps)->mainGlobals≠P:=λps e z=>by
  obtain⟨o,es,ep,e',d',_⟩:=hg;rw[z,e]at e';cases e';cases d'
 have Y:∀b o,s.heap.get? b=some o->b<s.heap.objs.size:=λb o e=>bH e
 rcases tb with e | ⟨c',e1,e2⟩
 . have O:s.heap.get? P=some (tabObj #[]):=(show bX X.prog X.w H s.heap P (iI P #[]) from I.hok P _ e).1;refine W.kla_makeFunction mH BZ hg BY C O trivial rfl (a5 _ O) kF λc' iH h' tk hx G hl Qz GF=>?_;have I1:Inv X ad Z (upd H P (iI P (#[] ++ #[rawInt pos.line,rawInt pos.col,.ref c']))) { s with heap:=h',toks:=tk }:=
    I.write (x:=P) (e:=P) (by rw[e];exact True.intro) (.inl rfl) (λb u hb e=>hx b u hb e) ⟨_,GF⟩ (yP GF GF λh1 h2 a k=>k _ a)
   have nc:H c'=none:=I.hok.fresh G;have cP:c'≠P:=λz=>absurd (Y _ _ O) (Mz.mpr (z▸G));have a6:upd H P (iI P (#[] ++ #[rawInt pos.line,rawInt pos.col,.ref c'])) c'=none:=by rw[aQ cP];exact nc
   have a0:=Qz;obtain⟨c2,oc,vs,t,ec,oG,ug,a7⟩:=a0;cases ec;have I2:=I1.track (o:=yN c' (X.env.qual ++ "<lambda>")) a6 (b8 I.sz G) (kU (gz I.lt G)) (λx cc ex z=>by
    obtain⟨v,oo,hv,_⟩:=I.cell x cc ex;exact absurd (Y _ _ hv) (Mz.mpr (z▸G))) (λp hp z=>absurd (Y _ _ (I.pin p hp).1) (Mz.mpr (z▸G))) (yP oG Qz λh1 h2 a k=>ahO a k)
   have U:(h'.push (W.kla_obj "<lambda>" (X.env.qual ++ "<lambda>") params body scope [] ((X.mg "__name__").getD .none) c' iH)).get? h'.objs.size=some (W.kla_obj "<lambda>" (X.env.qual ++ "<lambda>") params body scope [] ((X.mg "__name__").getD .none) c' iH):=dL _ rfl;have I3:=I2.laid (t':=tk) (h':=h'.push (W.kla_obj "<lambda>" (X.env.qual ++ "<lambda>") params body scope [] ((X.mg "__name__").getD .none) c' iH)) (a:=h'.objs.size) (o:=yO h'.objs.size c' (X.env.qual ++ "<lambda>") params body scope)
    (λb u e=>b9 _ e) (aG _) (yP U ⟨_,_,U⟩ λh1 h2 a1 k=>a1.elim λpm a2=>a2.elim λcv a=>⟨pm,cv,k _ a⟩)
   have hsz:s.heap.objs.size<=h'.objs.size:=b8 G (ve hl);have j:H h'.objs.size=none:=I.hok.fresh hsz;have qP:h'.objs.size≠P:=λz=>absurd (Y _ _ O) (Mz.mpr (z▸hsz));have qc:h'.objs.size≠c':=(cX hl).symm;refine⟨.ref h'.objs.size,_,I3,rfl,q _ c' _ j ?_ (λb o J nb=>?_) (.inr ⟨c',?_,?_⟩) ?_ aB⟩
   . rw[aQ qP.symm,aQ cP.symm,aB];exact λz=>nomatch z
   . rw[aQ (aH J j),aQ (aH J nc),aQ nb];exact J
   . rw[aQ qP.symm,aQ cP.symm,aB];rfl
   . rw[aQ qc.symm,aB]
   rw[aQ qc.symm,aB]
 have O:s.heap.get? P=some (tabObj #[rawInt pos.line,rawInt pos.col,.ref c']):=(show bX X.prog X.w H s.heap P (iI P _) from I.hok P _ e1).1;have hf:codeAmong pos (#[rawInt pos.line,rawInt pos.col,.ref c']:Av).toList=some (.ref c'):=by
  show(if ((pos.line:Int) == pos.line && (pos.col:Int) == pos.col)=true then _ else _)=_;rw[ai (by simp)]
 refine W.kla_makeFunctionHit mH BZ hg BY C O trivial hf kF λiH h' tk hk hsz=>?_;have U:(h'.push (W.kla_obj "<lambda>" (X.env.qual ++ "<lambda>") params body scope [] ((X.mg "__name__").getD .none) c' iH)).get? h'.objs.size=some (W.kla_obj "<lambda>" (X.env.qual ++ "<lambda>") params body scope [] ((X.mg "__name__").getD .none) c' iH):=dL _ rfl;have I3:=I.laid (t':=tk) (h':=h'.push (W.kla_obj "<lambda>" (X.env.qual ++ "<lambda>") params body scope [] ((X.mg "__name__").getD .none) c' iH)) (a:=h'.objs.size) (o:=yO h'.objs.size c' (X.env.qual ++ "<lambda>") params body scope)
  (λb u e=>b9 _ (hk b u e)) hsz (yP U ⟨_,_,U⟩ λh1 h2 a3 k=>a3.elim λpm a4=>a4.elim λcv a=>⟨pm,cv,k _ a⟩)
 have j:H h'.objs.size=none:=I.hok.fresh hsz;refine⟨.ref h'.objs.size,_,I3,rfl,q _ c' _ j ?_ (λb o J nb=>?_) (.inr ⟨c',?_,?_⟩) ?_ aB⟩
 . rw[aQ (aH e1 j),e1];exact λz=>nomatch z
 . rw[aQ (aH J j)];exact J
 . rw[aQ (aH e1 j)];exact e1
 . rw[aQ (aH e2 j)];exact e2
 rw[aQ (aH e2 j)];exact e2
end
end
section
variable {w:World}{K:Fg}{a:Addr}{σ0:St}
section
variable {X:Cx}
theorem QA:cK X (compareOp .LtE) (λx y H Q=>∃i j,x=.str i/\y=.str j/\Q (.bl (!decide (j.cps.toList<i.cps.toList))) H):=by
 intro ad s Z H x y v u Q I G J h;obtain⟨i,j,rfl,rfl,q⟩:=h;obtain⟨t,rfl⟩:=G;obtain⟨t',rfl⟩:=J;exact PySem.P.le_str (di I q rfl)
def ahX:V->Lv->Hp->VK->Prop:=λx vs H Q=>∃a b,x=.str a/\vs=[.str b]/\Q (.bl (Txt.startswith a b)) H
theorem QB:nv X "str.startswith" ahX:=by
 intro ad s Z H x xs v us Q I G j h;obtain⟨a,b,rfl,rfl,q⟩:=h;obtain⟨t,rfl⟩:=G;obtain⟨u,rfl,t',rfl⟩:=vals1 j;exact SC.startswith (di I q rfl)
theorem QC:∀l:List (Str×Tok),aW ((l.map (·.1)).map V.str) (strValues l)
 | []=>.nil
 | p::r=>.cons ⟨p.2,rfl⟩ (QC r)
def ahY:V->Lv->Hp->VK->Prop:=λx vs H Q=>∃a b,x=.str a/\vs=[.str b]/\b.length≠0/\a.length+2<=sizeLine/\d5 H (.lst ((Txt.split a b).map V.str)) Q
theorem B0:nv X "str.split" ahY:=by
 intro ad s Z H x xs v us Q I rx rs h;obtain⟨a,b,rfl,rfl,O,hz,q⟩:=h;obtain⟨t,rfl⟩:=rx;obtain⟨u,rfl,t',rfl⟩:=vals1 rs;have J:(b.length == 0)=false:=by simpa using O
 have G:∀(l:List (Str×Tok)) (k:Nat),l.map (·.1)=Txt.split a b->EP X ad Z Q (.ref s.heap.objs.size) { s with heap:=s.heap.push { cls:=.type "list",data:=.seq (strValues l).toArray },toks:=k }:=λl k e=>by
  have r:=QC l;rw[e]at r;have U:((Txt.split a b).map V.str).length<=sizeLine:=by
   rw[aj];exact b8 (split_le a b) hz
  exact⟨.ref s.heap.objs.size,_,I.laid (t':=k) (λb o e=>b9 _ e) (aG _) (show bX X.prog X.w _ _ _ (.lst ((Txt.split a b).map V.str)) from ⟨U,_,_,r,dL _ rfl⟩),rfl,q.at _ (I.hok.fresh (aG _))⟩
 have Y:(Builtin.Str.partsBetween a (Builtin.Str.occurrences a b 0 a.length (a.length+1)) b.length).length<=sizeLine:=by
  have e1:=StrLaws.occ_length_le a b 0 a.length (a.length+1);rw[length_partsBetween];omega
 cases h1:(decide (a.length<b.length) || decide (Builtin.Str.strKind a<Builtin.Str.strKind b))
 . cases j:(Builtin.Str.occurrences a b 0 a.length (a.length+1)).isEmpty
   . refine Es Yl (AK _ _ _) Ym (Yn _ _) (meets_str_split_sep a b t t' h1 J j (by omega) Y) ?_;show wants _ _ _ { s with toks:=_,heap:=s.heap.push { cls:=.type "list",data:=.seq (strsFrom s.toks (Builtin.Str.partsBetween a (Builtin.Str.occurrences a b 0 a.length (a.length+1)) b.length)).toArray } };rw[strsFrom_eq];exact G (numbered s.toks _) _ ((numbered_texts _ _).trans ((ag (Yo h1)).trans (ag (Yo j))).symm)
   exact Es Yl (AK _ _ _) Ym (Yn _ _) (meets_str_split_not_found a b t t' h1 J j)
    (G [(a,t)] s.toks ((ag (Yo h1)).trans (ai j)).symm)
 exact Es Yl (AK _ _ _) Ym (Yn _ _) (meets_str_split_cannot_occur a b t t' h1)
  (G [(a,t)] s.toks (ai h1).symm)
theorem ahZ:eS X (.type "int") (λxs H Q=>∃x n,xs=[.str x]/\PySem.intText? x=some n/\x.length<=640/\Q (.int n) H):=by
 intro ad s Z H xs us Q I r h;obtain⟨x,n,rfl,G,j,q⟩:=h;obtain⟨u,rfl,t,rfl⟩:=vals1 r;exact W.KIN.call_text G j ⟨.int n,H,I.tok _,⟨_,rfl⟩,q⟩
end
def ri(c:Nat):Str:=⟨#[c]⟩
def B1(x:Str):It:=⟨λi _=>i<x.cps.size,λi H v H'=>H'=H/\∃c,x.cps[i]?=some c/\v=.str (ri c),λi _=>x.cps.size<=i⟩
theorem ah0{P:Program}{tg:Expr}(it:Addr)(x:Str)(t:Tok)(n:String)(Y:n="str_ascii_iterator"\/n="str_iterator"):oJ P w K tg (B1 x) [it] it (λi h=>h.IsStrIter it n x t i/\i<=x.cps.size) where
 mem:=by simp
 obj:=λi h st b j=>by
  have e:b=it:=by simpa using j
  subst e;obtain⟨o,e,c,d⟩:=st.1;exact⟨o,e,λv z=>by rw[d]at z;cases z⟩
 keep:=λi h h' st k=>⟨st.1.elim λo a0=>a0.elim λho r=>⟨o,k it (by simp) o ho,r⟩,st.2⟩
 item:=by
  intro X hP hw hK J i ad s Z H E I O st U;subst hP hw hK;obtain⟨f0,f1,f2,f3,f4,f5⟩:=O it (by simp);have G:∀(W:Walks X.prog X.w X.A it [it] [it] x.cps.size (SignAt x) (λi h=>h.IsStrIter it n x t i)),wpAny (model X.prog X.w) X.A (pyNext (.ref it)) (λr s1=>∃u,r=some u /\
   wpAny (model X.prog X.w) X.A (letOwnedTupleGo tg (.ref it) u) (λ_ s2=>∃v H',Inv X ad Z H' s2/\RelV v u/\(B1 x).yld i H v H'/\(s2.heap.IsStrIter it n x t (i+1)/\i+1<=x.cps.size)/\∀b∈[it],H' b=none) E s1) E s:=λW=>by
   refine W.item i s _ _ U st.1 λv h' tk hv fN kk=>?_;obtain⟨c,u,ia,rfl⟩:=hv;have I1:Inv X ad Z H { s with heap:=h',toks:=tk }:=I.turned (λb o j e=>kk b o (by simpa using j) e) f0 f1 f3 f4 f5;obtain⟨o,e,c',d⟩:=id fN;have QD:i<x.cps.size:=U;exact⟨_,rfl,Bd (s:={ s with heap:=h',toks:=tk }) e c' d (by rcases Y with rfl | rfl<;>decide) ⟨.str (ri c),H,I1,⟨u,rfl⟩,⟨rfl,c,ia,rfl⟩,⟨fN,by omega⟩,λb j=>(O b j).1⟩⟩
  rcases Y with rfl | rfl
  . exact G (Walks.strAscii (I.ok.hd J) it x t)
  exact G (Walks.strWide (I.ok.hd J) it x t)
 done:=by
  intro X hP hw hK J i ad s Z H E I O st U;subst hP hw hK;obtain⟨f0,f1,f2,f3,f4,f5⟩:=O it (by simp);have QD:x.cps.size<=i:=U;have e:i=x.cps.size:=Nat.le_antisymm st.2 QD;subst e;have G:∀(W:Walks X.prog X.w X.A it [it] [it] x.cps.size (SignAt x) (λi h=>h.IsStrIter it n x t i)),wpAny (model X.prog X.w) X.A (pyNext (.ref it)) (λr s1=>r=none/\Inv X ad Z H s1) E s:=λW=>
   W.done s _ _ st.1 λh' tk kk=>⟨rfl,I.turned (λb o j e=>kk b o (by simpa using j) e) f0 f1 f3 f4 f5⟩
  rcases Y with rfl | rfl
  . exact G (Walks.strAscii (I.ok.hd J) it x t)
  exact G (Walks.strWide (I.ok.hd J) it x t)
 self:=λ_ _ _ _ _ st h=>by
  rcases Y with rfl | rfl
  . exact wpAny_pyIter_striter_ascii st.1 h
  exact wpAny_pyIter_striter_wide st.1 h
section
variable {X:Cx}{tg:Expr}
def ah2(tl:TE):TI:=λZ H R=>tl Z H λx H1=>∃a,x=.str a/\R (B1 a) H1
theorem ah3{l:Expr}{tl:TE}(hl:PE X l tl):PI X tg l (ah2 tl):=by
 intro ad s Z H R I h;refine thn (hl ad s Z H _ I h) λv j U=>aP U λx H1 G r1 q1=>?_;obtain⟨a,e,q⟩:=q1;subst e;obtain⟨t,rfl⟩:=r1;have J:∀(o:Obj) (n:String),(n="str_ascii_iterator"\/n="str_iterator")->(j.heap.push o).IsStrIter j.heap.objs.size n a t 0->EM X ad Z tg R (.ref j.heap.objs.size) { j with heap:=j.heap.push o }:=λo n hn st=>by
  refine⟨j.heap.objs.size,[j.heap.objs.size],_,_,H1,rfl,G.kept (t':=j.toks) λb o e=>b9 _ e,ah0 _ a t n hn,⟨st,dC _⟩,λb Y=>?_,q⟩;have e:b=j.heap.objs.size:=by simpa using Y
  subst e;exact G.fpOk (aG _) (G.hok.fresh (aG _))
 cases O:a.cps.all (· < 128)
 . exact wpAny_pyIter_wide O (J _ _ (.inr rfl) ⟨_,dL _ rfl,rfl,rfl⟩)
 exact wpAny_pyIter_ascii O (J _ _ (.inl rfl) ⟨_,dL _ rfl,rfl,rfl⟩)
def ah5(K:Fg):Lv->Hp->VK->Prop:=λxs H Q=>∃(p:Addr) (bs:List Bool),xs=[.ref p]/\ac K H p (bs.map V.bl)/\Q (.bl (bs.all id)) H
theorem ah6(bs:List Bool):(List.range bs.length).all (λi=>bs.getD i false)=bs.all id:=by
 rw[xF,iQ,iQ];constructor
 . intro h b j;obtain⟨i,hi,e⟩:=Mw.mp j;have:=h i (vd.mpr hi);rw[MA,hX hi,Mm,e]at this;exact this
 intro h i hi;have hi:=vd.mp hi;rw[MA,hX hi,Mm];exact h _ (Ev hi)
theorem QE(K:Fg)(h:X.K=K:=by rfl)(hc:X.calm=true:=by rfl):eS X (.builtin "all") (ah5 K):=by
 subst h;intro ad s Z H xs us Q I r h;obtain⟨p,bs,rfl,hq,q⟩:=h;obtain⟨u,rfl,rx⟩:=vals1 r;cases rx;obtain⟨b_,U,pl,hz⟩:=I.list hq;have a0:=U.length;rw[aj]at a0;refine call_all_walk (Mc pl.isList ?_);have cY:p≠s.heap.objs.size:=by
  obtain⟨o,ho,_⟩:=pl.isList;exact cX (bH ho)
 refine⟨_,_,_,_,_,_,λi=>bs.getD i false,rfl,Ey (A:=X.A.in1) (I.ok.hd hc) _ p cY b_.toArray,⟨⟨_,dL _ rfl,rfl,rfl⟩,pl.isList.push _⟩,?_,λh' tk kk=>?_⟩
 . intro i v s' Y E j G;have j:b_[i]?=some v:=by simpa using j
   have hi:i<bs.length:=by
    have:=(dg.mp j).1;omega
   obtain⟨u,O,J⟩:=U.get (i:=i) (x:=V.bl bs[i]) (by rw[dN,hX hi];rfl);rw[j]at O;cases O;have J:v=.bool bs[i]:=by cases J;rfl
   subst J;have G:Y (bs.getD i false) s':=G;rw[MA,hX hi,Mm]at G;exact qr G
 have e:b_.toArray.size=bs.length:=by simp;omega
 rw[e,ah6];exact⟨.bl _,H,I.kept λb o e=>kk b o (by
  have:=bH e;rw[bD];exact cX this) (b9 _ e),rfl,q⟩
end
theorem Inv.turnedL{X:Cx}{ad:Po}{Z:St}{H:Hp}{s:Shared}{h':Heap}{t':Nat}{fp:List Addr}(I:Inv X ad Z H s)(k:∀b o,b∉fp->s.heap.get? b=some o->h'.get? b=some o)(G:∀b∈fp,fz X ad H b):Inv X ad Z H { s with heap:=h',toks:=t' }:=by
 have J:∀b u,H b=some u->b∉fp:=λb u e z=>by rw[(G b z).1]at e;cases e
 have hL:X.env.locals∉fp:=λz=>(G _ z).2.1 rfl;refine I.step (g':=s.gens) (d':=s.drawn) (ch:=fp) (λb hb=>?_) (λb o _ _ j e _=>k b o j e) (λb o _ _ j e _=>⟨o.slots,k b o j e⟩) (λ_ _ _ _ n=>n)
  (λb o j e=>⟨o,k b o j e⟩) (λ_ _ e=>e) (λ_ _ _ e=>e) (λb ps e=>⟨#[],by rw[e];simp⟩) (λm hm=>?_) (λb u e=>?_) I.bare
 . obtain⟨f0,f1,f2,O,U,Y⟩:=G b hb;exact⟨O,f1,U,Y⟩
 . obtain⟨o,es,ep,ho,r⟩:=hm;exact⟨o,es,ep,k _ o hL ho,r⟩
 refine(I.hok b u e).stay (λc v j q=>k c v ?_ q) (λ_ q=>q) λ_ _ q=>q
 rcases j with z | z
 . rw[z];exact J b u e
 exact J c _ z
def yQ(K:Fg)(a:Addr):It:=
 ⟨λi H=>∃xs x,ac K H a xs/\xs[i]?=some x,λi H v H'=>∃p x,H p=none/\(∀xs,ac K H a xs->xs[i]?=some x)/\v=.ref p/\H'=upd H p (.tup [.int i,x]),λi H=>∃xs,ac K H a xs/\xs.length<=i⟩
theorem ah7{P:Program}{elts:List Expr}{x1:Nat}{pos:Pos}(a e it:Addr)(cY:e≠it):oJ P w K (.Tuple elts x1 pos) (yQ K a) [e,it] e (λi h=>(∃old,IsEnum h e it i old)/\h.IsListIter it a i) where
 mem:=by simp
 obj:=λi h st b hb=>by
  obtain⟨⟨old,st⟩,o,j,c,d⟩:=st
  rcases aZ.mp hb with rfl | hb
  . exact⟨_,st,λv z=>by
     have z':Data.fields _=Data.cell v:=z;cases z'⟩
  have hb:=bD.mp hb;subst hb;exact⟨o,j,λv z=>by rw[d]at z;cases z⟩
 keep:=λi h h' a0 k=>a0.elim λa1 G=>a1.elim λold st=>⟨⟨old,k e (by simp) _ st⟩,G.at λo j=>k it (by simp) o j⟩
 item:=by
  intro X hP hw Y hc i ad s Z H E I O st hg;subst hP hw Y;obtain⟨⟨old,st⟩,G⟩:=st;obtain⟨xs,x,U,hx⟩:=hg;obtain⟨b_,rv,p,hz⟩:=I.list U;obtain⟨u,hu,ru⟩:=rv.get hx;refine wpAny_pyNext_enum_item st G p.isList (x:=u) (by simpa using hu) cY λh1 ho QF F3 hsz fE=>⟨.ref s.heap.objs.size,rfl,?_⟩;refine wpAny_letOwnedTupleGo_enum ho λh2 a3 J=>?_;have J:Heap.SameBut e h1 h2:=J;have QG:e<s.heap.objs.size:=bH st;have BG:it<s.heap.objs.size:=by
   obtain⟨o,j,_⟩:=G;exact bH j
  have I1:Inv X ad Z H { s with heap:=h2,toks:=s.toks+1 }:=I.turnedL (fp:=[e,it]) (λb ob hb j=>by
   simp only[aZ,fc,fe,mh]at hb;exact(J.2 b hb.1).trans (fE b ob hb.1 hb.2 j)) O
  have hn:H s.heap.objs.size=none:=I.hok.fresh (aG _);have fp:=I.fpOk (H':=H) (aG _) hn;have tO:h2.get? s.heap.objs.size=some { cls:=.type "tuple",data:=.seq #[.int i s.toks,u] }:=(J.2 _ (kU QG)).trans F3;have I2:Inv X ad Z (upd H s.heap.objs.size (.tup [.int i,x])) { s with heap:=h2,toks:=s.toks+1 }:=by
   refine I1.track hn I.sz fp.2.1 fp.2.2.2.2.1 fp.2.2.2.2.2 ?_;exact⟨by show 2<=sizeLine;decide,[.int i s.toks,u],.cons ⟨_,rfl⟩ (.cons ru .nil),_,tO,rfl,0,rfl⟩
  refine⟨.ref s.heap.objs.size,_,I2,rfl,⟨_,x,hn,λys hy=>by rw[I.list_inj hy U];exact hx,rfl,rfl⟩,⟨⟨u,by simpa using a3⟩,QF.at λo j=>(J.2 it (fw cY)).trans j⟩,λb hb=>?_⟩;have a4:=(O b hb).1;rw[aQ,a4];simp only[aZ,fc,fe]at hb
  rcases hb with rfl | rfl
  . exact cX QG
  exact cX BG
 done:=by
  intro X hP hw Y hc i ad s Z H E I O st hg;subst hP hw Y;obtain⟨⟨old,st⟩,G⟩:=st;obtain⟨xs,U,hx⟩:=hg;obtain⟨b_,rv,p,hz⟩:=I.list U;have hl:=rv.length;exact wpAny_pyNext_enum_end (I.ok.hd hc) st G p.isList (by simp;omega) λh' eb=>⟨rfl,I.turnedL (t':=s.toks) (fp:=[e,it]) (λb o hb j=>eb b o (λz=>hb (by simp[z])) j) O⟩
 self:=λ_ _ _ _ _ st h=>st.elim λa2 _=>a2.elim λ_ st=>wpAny_pyIter_enum st h
section
variable {X:Cx}
def aid(K:Fg)(ta:TA):TI:=λZ H R=>ta Z H λvs H1=>∃a,vs=[.ref a]/\(∃xs,ac K H1 a xs)/\R (yQ K a) H1
theorem QH{l:Expr}{ta:TA}{p pos p2:Pos}{elts:List Expr}{x1:Nat}(hg:Gl X "enumerate")(hm:X.mg "enumerate"=none)(Y:PA X [l] ta)(hs:starEach [l] X.env=[(false,eval l X.env)]:=by rfl) :
 PI X (.Tuple elts x1 p2) (.Call (.Name "enumerate" p) [l] [] pos) (aid X.K ta):=by
 intro ad s Z H R I h;refine Call_ (tq I hg hm boot_enumerate (Me (thn (Y pos ad s Z H _ I h) λus j U=>aP U λvs H1 G r1 q1=>?_) hs rfl));obtain⟨a,e,⟨xs,hq⟩,q⟩:=q1;subst e;obtain⟨u,rfl,rx⟩:=vals1 r1;cases rx;obtain⟨b_,rv,pl,hz⟩:=G.list hq;refine call_enumerate_list pl.isList λh' J it hsz kp=>?_;refine wpAny_pyIter_enum J ?_;refine⟨j.heap.objs.size+1,[j.heap.objs.size+1,j.heap.objs.size],_,_,H1,rfl,G.kept (t':=j.toks) kp,ah7 a _ _ (Nat.succ_ne_self _),⟨⟨_,J⟩,it⟩,λb O=>?_,q⟩;have e:j.heap.objs.size<=b:=by
  simp only[aZ,fc,fe]at O
  rcases O with rfl | rfl
  . exact qv _
  exact aG _
 exact G.fpOk e (G.hok.fresh e)
end
theorem aa.seqT{H H':Hp}{xs:Lv}(e:aa H H')(h:aX K H a xs):aX K H' a xs:=by
 rcases h with(h | ⟨o,h⟩) | h
 . exact .inl (.inl (e _ _ h))
 . exact .inl (.inr ⟨o,e _ _ h⟩)
 exact .inr h
theorem take_snoc{α:Type}{ys:List α}{i:Nat}{y:α}(h:ys[i]?=some y):ys.take (i+1)=ys.take i++[y]:=by
 rw[List.take_succ,h];rfl
section
variable {g:TG}{te:TE}{H1:Hp}{Q:Addr->Hp->Prop}
theorem vZ{xs:Lv}(hx:ac K H1 a xs)(S:St->Prop)(ys:Lv)(hl:ys.length=xs.length)(big:xs.length<=sizeLine)(s0:S σ0)
 (a0:∀(i:Nat) x y Z H (k:St->V->Hp->Prop),xs[i]?=some x->ys[i]?=some y->S Z->aa H1 H->(∀σ3 G,S σ3->aa H G->k σ3 y G)->g x Z H λσ3 H3=>te σ3 H3 (k σ3))
 (done:∀D H,H1 D=none->H D=some (.lst ys)->aa H1 H->Q D H) :
 ∀D,H1 D=none->∃W:Nat->Nat->St->Hp->Prop,(∃m,W 0 m σ0 (upd H1 D (.lst [])))/\lE (ni K a) g qU te D (λH'=>Q D H') W:=by
 refine yz hx S (λi zs _=>zs=ys.take i) s0 (λ_ _=>rfl) (λD i x zs Z H k O j J U a5 Y a7=>?_) λD zs H O j J U=>?_
 . have hi:i<ys.length:=by rw[hl];exact(dg.mp j).1
   have hy:=hX hi;refine a0 i x ys[i] Z H k j hy J a5 λσ3 G b1 b2=>a7 σ3 _ G b1 b2 ?_ ?_
   . rw[Y,eR];omega
   rw[Y,take_snoc hy]
 rw[U,<-hl,ff]at j;exact done D H O j J
theorem aif{xs:Lv}(hx:aX K H1 a xs)(S:St->Prop)(ys:Lv)(hl:ys.length=xs.length)(big:xs.length<=sizeLine)(s0:S σ0)
 (a0:∀(i:Nat) x y Z H (k:St->V->Hp->Prop),xs[i]?=some x->ys[i]?=some y->S Z->aa H1 H->(∀σ3 j,S σ3->aa H j->k σ3 y j)->g x Z H λσ3 H3=>te σ3 H3 (k σ3))
 (done:∀D H,H1 D=none->H D=some (.lst ys)->aa H1 H->Q D H) :
 ∀D,H1 D=none->∃W:Nat->Nat->St->Hp->Prop,(∃m,W 0 m σ0 (upd H1 D (.lst [])))/\lE (EN K a) g qU te D (λH'=>Q D H') W:=by
 intro D J;refine⟨λi m Z H=>m=xs.length - i/\i<=xs.length/\S Z/\H D=some (.lst (ys.take i))/\aa H1 H,⟨xs.length,by simp,dC _,s0,aB,fD J⟩,?_⟩;rintro i m Z H ⟨rfl,hi,hS,hd,hs⟩;have q:aX K H a xs:=aa.seqT hs hx
 by_cases U:i<xs.length
 . refine .inr ⟨⟨xs,xs[i],q,by simp[U]⟩,λx H2 G=>?_⟩;obtain⟨e1,e2⟩:=G;subst e1;have G:=hX (by omega:i<ys.length);refine a0 i x ys[i] Z _ (λσ3 y j=>∃zs,j D=some (.lst zs)/\zs.length<sizeLine/\∃m',m'<xs.length - i/\(m'=xs.length - (i+1)/\i+1<=xs.length/\S σ3/\upd j D (.lst (zs++[y])) D=some (.lst (ys.take (i+1)))/\aa H1 (upd j D (.lst (zs++[y]))))) (e2 xs q) G hS hs
    (λσ3 j Y O=>⟨ys.take i,O _ _ hd,by rw[eR];omega,xs.length - (i+1),by omega,rfl,U,Y,by rw[aB,take_snoc G],eM (hs.trans O) J⟩)
 have e:i=xs.length:=by omega
 subst e;rw[<-hl,ff]at hd;exact .inl ⟨⟨xs,q,aG _⟩,done D H J hd hs⟩
theorem aig{a:Str}(S:St->Prop)(f:Nat->V)(big:a.cps.size<=sizeLine)(s0:S σ0)
 (a0:∀c Z H (k:St->V->Hp->Prop),c∈a.cps.toList->S Z->aa H1 H->(∀σ3 j,S σ3->aa H j->k σ3 (f c) j)->g (.str (ri c)) Z H λσ3 H3=>te σ3 H3 (k σ3))
 (done:∀D H,H1 D=none->H D=some (.lst (a.cps.toList.map f))->aa H1 H->Q D H) :
 ∀D,H1 D=none->∃W:Nat->Nat->St->Hp->Prop,(∃m,W 0 m σ0 (upd H1 D (.lst [])))/\lE (B1 a) g qU te D (λH'=>Q D H') W:=by
 intro D G;have hn:(a.cps.toList.map f).length=a.cps.size:=by rw[aj,eJ]
 refine⟨λi m Z H=>m=a.cps.size - i/\i<=a.cps.size/\S Z/\H D=some (.lst ((a.cps.toList.map f).take i))/\aa H1 H,⟨a.cps.size,by simp,dC _,s0,aB,fD G⟩,?_⟩;rintro i m Z H ⟨rfl,hi,hS,hd,hs⟩
 by_cases U:i<a.cps.size
 . refine .inr ⟨U,λx H2 J=>?_⟩;obtain⟨e1,c,hc,e2⟩:=J;subst e1 e2;have Y:a.cps.toList[i]?=some c:=by rw[qA];exact hc
   have J:(a.cps.toList.map f)[i]?=some (f c):=by rw[dN,Y];rfl
   refine a0 c Z _ (λσ3 y j=>∃zs,j D=some (.lst zs)/\zs.length<sizeLine/\∃m',m'<a.cps.size - i/\(m'=a.cps.size - (i+1)/\i+1<=a.cps.size/\S σ3/\upd j D (.lst (zs++[y])) D=some (.lst ((a.cps.toList.map f).take (i+1)))/\aa H1 (upd j D (.lst (zs++[y]))))) (dM Y) hS hs
    (λσ3 j a1 O=>⟨(a.cps.toList.map f).take i,O _ _ hd,by rw[eR];omega,a.cps.size - (i+1),by omega,rfl,U,a1,by rw[aB,take_snoc J],eM (hs.trans O) G⟩)
 have e:i=a.cps.size:=by omega
 subst e;rw[<-hn,ff]at hd;exact .inl ⟨aG _,done D H G hd hs⟩
end
end
end L2
namespace HT
abbrev At:=Int ⊕ Str
def yR:At->At->Bool
 | .inl a,.inl b=>decide (a<b)
 | .inr x,.inr y=>decide (x.cps.toList<y.cps.toList)
 | _,_=>false
def kin:At->At->Prop
 | .inl _,.inl _=>True
 | .inr _,.inr _=>True
 | _,_=>False
def cu:List At->List At->Bool
 | [],[]=>false
 | [],_::_=>true
 | _::_,[]=>false
 | x::xs,y::ys=>if x=y then cu xs ys else yR x y
def ik:List At->List At->Prop
 | x::xs,y::ys=>if x=y then ik xs ys else kin x y
 | _,_=>True
theorem B2(x y:At)(xs ys:List At):cu (x::xs) (y::ys)=if x=y then cu xs ys else yR x y:=rfl
theorem uh(x y:At)(xs ys:List At):ik (x::xs) (y::ys)=if x=y then ik xs ys else kin x y:=rfl
inductive gT:Lw->List At->Prop
 | nil:gT [] []
 | int (n:Int) (t:Tok) {vs:Lw}{as:List At}:gT vs as->gT (.int n t::vs) (.inl n::as)
 | str (x:Str) (t:Tok) {vs:Lw}{as:List At}:gT vs as->gT (.str x t::vs) (.inr x::as)
theorem gT.length{vs:Lw}{as:List At}(h:gT vs as):vs.length=as.length:=by
 induction h with
 | nil=>rfl
 | int _ _ _ j=>exact eZ (· + 1) j
 | str _ _ _ j=>exact eZ (· + 1) j
theorem aih(A:Around)(s:Shared)(a:Str)(t:Tok)(c:Str)(u:Tok):∃e,SeqAt.EqAt A s (.str a t) (.str c u) e/\(e=true↔a=c):=
 ⟨(a == c),SeqAt.EqAt.str_str a t c u,by simp⟩
theorem aii(A:Around)(s:Shared)(a:Str)(t:Tok)(c:Str)(u:Tok)(prog:Program)(w:World)(E:VP)(Q:VP)(h:Q (.bool (decide (a.cps.toList<c.cps.toList))) s) :
 wpAny (model prog w) A (richCompare .Lt (.str a t) (.str c u)) Q E s:=
 (PyProof.Rows.lt_str h:wpAny (model prog w) A (compareOp .Lt (.str a t) (.str c u)) Q E s)
theorem aij{vs ws:Lw}{as bs:List At}(G:gT vs as)(j:gT ws bs)(ok:ik as bs)(A:Around)(s:Shared):(vs=[]\/ws=[])\/∃v kD a O w GG b Y,vs=v::kD/\as=a::O/\ws=w::GG/\bs=b::Y/\gT kD O/\gT GG Y /\
 (∃e,SeqAt.EqAt A s v w e/\(e=true↔a=b))/\(a=b->ik O Y)/\∀(prog:Program) (J:World) (E:VP) (Q:VP),Q (.bool (yR a b)) s->wpAny (model prog J) A (richCompare .Lt v w) Q E s:=by
 cases G with
 | nil=>exact .inl (.inl rfl)
 | int a t G=>
  cases j with
  | nil=>exact .inl (.inr rfl)
  | int b u j=>
   obtain⟨e,U,hi⟩:=abi A s a t b u;refine .inr ⟨_,_,_,_,_,_,_,_,rfl,rfl,rfl,rfl,G,j,⟨e,U,hi.trans ⟨λz=>by rw[z],λz=>by injection z⟩⟩,λz=>?_,λprog J E Q h=>abj A s a t b u prog J E Q h⟩;rw[uh,ai z]at ok;exact ok
  | str b u j=>
   rw[uh,ag (by intro z;cases z)]at ok;exact ok.elim
 | str a t G=>
  cases j with
  | nil=>exact .inl (.inr rfl)
  | int b u j=>
   rw[uh,ag (by intro z;cases z)]at ok;exact ok.elim
  | str b u j=>
   obtain⟨e,U,hi⟩:=aih A s a t b u;refine .inr ⟨_,_,_,_,_,_,_,_,rfl,rfl,rfl,rfl,G,j,⟨e,U,hi.trans ⟨λz=>by rw[z],λz=>by injection z⟩⟩,λz=>?_,λprog J E Q h=>aii A s a t b u prog J E Q h⟩;rw[uh,ai z]at ok;exact ok
section
open PySem.SeqAt
open PySem.AutoSeq1 (wpAny_loadPart')
open PySem.MeetsSeq PySem.MeetsSeq2 PySem.MeetsSeq3
theorem aik(l b:Addr)(J O:Av)(n n2:Nat)(dd yC:Oa)(sl ui:Array (Option Value))(ns ms:List At)(hi:gT J.toList ns)(hj:gT O.toList ms)(ok:ik ns ms) :
 Meets (Builtin.«tuple.__lt__» ⟨[.ref l,.ref b],[]⟩)
  (λ_ R s=>s.heap.get? l=some { cls:=.type "tuple",dict:=dd,data:=.seq J n,slots:=sl }/\s.heap.get? b=some { cls:=.type "tuple",dict:=yC,data:=.seq O n2,slots:=ui } /\
   R (.ok (.ret (.bool (cu ns ms)))) s):=
 .of_wp λprog w A R s h=>by
  obtain⟨hp,g,d,tk,os⟩:=s;obtain⟨hl,hb,h⟩:=h;have f2:=AutoSeq1.sub_tuple_tuple;have z1:J.size=ns.length:=by rw[<-hi.length];simp
  have z2:O.size=ms.length:=by rw[<-hj.length];simp
  wp_walk using wpAny_loadPart' hl,wpAny_loadPart' hb,xC _ (λrest b s'=>b.1=none/\s'=⟨hp,g,d,tk,os⟩/\∃(vs U:Lw) (G j:List At),rest=vs.zip U /\
   gT vs G/\gT U j/\ik G j/\G.length+O.size=j.length+J.size/\R (.ok (.ret (.bool (cu G j)))) ⟨hp,g,d,tk,os⟩) _
  case turn=>
   rintro⟨y,x⟩ rest b s' ⟨kF,rfl,vs,U,G,j,hz,GH,GI,hok,hlen,hR⟩
   rcases aij GH GI hok A.in1 ⟨hp,g,d,tk,os⟩ with h0 | ⟨v,kD,a,B3,w1,GG,b1,vR,rfl,rfl,rfl,rfl,a0,a1,⟨e,he,Y⟩,tS,aO⟩
   . rcases h0 with h0 | h0
     . rw[h0,List.zip_nil_left]at hz;cases hz
     rw[h0,List.zip_nil_right]at hz;cases hz
   rw[XD]at hz;injection hz with a3 Gy
   injection a3 with hy hx
   subst hy hx;rw[B2]at hR;simp only[cT]at hlen;refine ae (he prog w _ _ ?_);cases e with
   | true=>
    rw[ai (Y.mp rfl)]at hR
    wp_walk
    exact⟨rfl,rfl,_,_,_,_,Gy,a0,a1,tS (Y.mp rfl),by omega,hR⟩
   | false=>
    rw[ag (λq=>absurd (Y.mpr q) cW)]at hR;have a2:=aO prog w
    wp_walk using a2
    exact⟨_,rfl,by simpa using hR⟩
  case fin=>
   rintro⟨b1,b2⟩ s' ⟨kF,rfl,vs,U,G,j,hz,GH,GI,hok,hlen,hR⟩;simp only at kF;subst kF;have h1:=GH.length;have h2:=GI.length;have hv:cu G j=decide (J.size<O.size):=by
    cases G with
    | nil=>
     cases j with
     | nil=>
      simp only[kX]at hlen;exact(cx (by omega)).symm
     | cons c u=>
      simp only[kX,cT]at hlen;exact(bN (by omega)).symm
    | cons a t=>
     cases j with
     | nil=>
      simp only[kX,cT]at hlen;exact(cx (by omega)).symm
     | cons c u=>
      cases vs with
      | nil=>cases h1
      | cons v vs=>
       cases U with
       | nil=>cases h2
       | cons w1 U=>rw[XD]at hz;cases hz
   rw[hv]at hR
   wp_walk
   exact⟨_,rfl,by simpa [Builtin.Tuple.tupleCompareSizes]using hR⟩
  case h=>
   exact⟨rfl,rfl,J.toList,O.toList,ns,ms,rfl,hi,hj,ok,by omega,h⟩
end
section
variable {prog:Program}{w:World}{A:Around}{E:VP}{s:Shared}
theorem aio{l b:Addr}{j G:Av}{ns ms:List At}{Q:VP}(hl:IsTup s.heap l j)(hb:IsTup s.heap b G)(hi:gT j.toList ns)(hj:gT G.toList ms)(ok:ik ns ms)
 (hu:A.units<cLine) (h:Q (.bool (cu ns ms)) s):wpAny (model prog w) A (compareOp .Lt (.ref l) (.ref b)) Q E s:=by
 obtain⟨⟨cls,dd,data,sl⟩,U,J,n,hd⟩:=id hl;obtain⟨⟨a0,yC,data2,ui⟩,yK,Y,n2,O⟩:=id hb;simp only at J hd Y O;subst J hd Y O;exact richCompare_meets_room (op:=.Lt) ⟨_,U,rfl⟩ ⟨_,yK,rfl⟩ PySem.F.slot_tuple_lt PySem.F.entry_tuple_lt (PySem.F.args_tuple_lt_2 _ _) (aik l b j G n n2 dd yC sl ui ns ms hi hj ok)
  ⟨U,yK,show Value.bool (cu ns ms)≠Value.notImplemented/\Q (.bool (cu ns ms)) s from ⟨(λx=>nomatch x),h⟩⟩ hu
end
end HT
namespace L2
section
section
variable {X:Cx}
theorem QI:cK X (compareOp .Gt) (λx y H Q=>∃i j,x=.str i/\y=.str j/\Q (.bl (decide (j.cps.toList<i.cps.toList))) H):=by
 intro ad s Z H x y v u Q I G J h;obtain⟨i,j,rfl,rfl,q⟩:=h;obtain⟨t,rfl⟩:=G;obtain⟨t',rfl⟩:=J;exact PySem.P.gt_str (di I q rfl)
end
section
variable {X:Cx}{e e1 e2 e3 e4:Expr}{te t1 t2 t3 t4:TE}{pos:Pos}
def aip(te:TE):TE:=λZ H Q=>te Z H λx H1=>∃y,x=.str y/\eD y/\y.length<=1000/\∀z:Str,z.length<=20000->Q (.str z) H1
theorem aiq(he:PE X e te):PE X (.FormattedValue e 114 none pos) (aip te):=by
 intro ad s Z H Q I h;refine wpAny_FormattedValue_repr (thn (he ad s Z H _ I h) λv s1 G=>aP G λx H1 j r1 J=>J.elim λy O=>O.elim λex U=>U.elim λok Y=>Y.elim λhl q=>?_);subst ex;obtain⟨t,rfl⟩:=r1;have hz:=StrLaws.reprText_len y λc hc=>vh (tP.mp ok c hc) (by decide);have hs:(reprText y).length<=sizeLine:=by rw[sL];omega
 refine pyReprObj_str (formatField_str (λt' tk=>⟨.str (reprText y),H1,?_,⟨_,rfl⟩,q _ (by omega)⟩) hs) hs;exact(j.tok (s.toks)).tok _
end
open PySem.W
open PySem.Builtin PySem.Builtin.ObjectAttr
end
section
variable {H:Hp}{s:Shared}
open HT (At cu ik)
def B4:At->V
 | .inl n=>.int n
 | .inr x=>.str x
theorem B5:∀{as:List At}{us:Lw},aW (as.map B4) us->HT.gT us as
 | [],us,h=>by cases h;exact .nil
 | .inl n::as,us,h=>by
  cases h with
  | cons r t=>
   obtain⟨tk,rfl⟩:=(show∃tk,_=Value.int n tk from r);exact .int n tk (B5 t)
 | .inr x::as,us,h=>by
  cases h with
  | cons r t=>
   obtain⟨tk,rfl⟩:=(show∃tk,_=Value.str x tk from r);exact .str x tk (B5 t)
section
variable {X:Cx}{ad:Po}{Z:St}{H0:Hp}{l q I S:Addr}{as:List Addr}{ks:Nat->List At}{R:Result->Shared->Prop}{Q:VP}{E:VP}
def GL(X:Cx)(q:Addr)(as:List Addr)(ks:Nat->List At)(H0:Hp):Prop:=∀(i:Nat) (a:Addr),as[i]?=some a->∀(ad:Po) (Z:St) (H:Hp) (s:Shared),Inv X ad Z H s->aa H0 H ->
 wpAny (model X.prog X.w) X.A.in1 (call (.ref q) [.ref a]) (λu s'=>∃j H',Inv X ad Z H' s'/\u=.ref j/\aa H H'/\H' j=some (.tup ((ks i).map B4))) (λ_ _=>False) s
theorem Inv.isL(I:Inv X ad Z H s)(h:H l=some (.lst (as.map V.ref))):s.heap.IsList l (as.map Value.ref).toArray:=by
 obtain⟨b_,r,p,_⟩:=I.list (ac.of (K:=X.K) h);rw[Gc r]at p;exact p.isList
theorem fz.of{H':Hp}{b:Addr}(f:fz X ad H b)(n:H' b=none):fz X ad H' b:=⟨n,f.2⟩
theorem Inv.turnF{h':Heap}{t':Nat}{b:Addr}(I:Inv X ad Z H s)(f:fz X ad H b)(k:∀c o,c≠b->s.heap.get? c=some o->h'.get? c=some o):Inv X ad Z H { s with heap:=h',toks:=t' }:=
 I.turned k f.1 f.2.1 f.2.2.2.1 f.2.2.2.2.1 f.2.2.2.2.2
theorem aiw(hc:X.calm=true)(hu:X.A.in1.units<cLine)(yS:l≠I)(uj:S≠I)(B6:H0 l=some (.lst (as.map V.ref)))(ok:∀i j,ik (ks i) (ks j))(tr:∀a b c,cu (ks a) (ks b)=true->cu (ks b) (ks c)=true->cu (ks a) (ks c)=true)(v3:∀a,cu (ks a) (ks a)=false)
 (a3:GL X q as ks H0) (hR:∀i a H' s',as[i]?=some a->(∀j,j<as.length->cu (ks j) (ks i)=false)->Inv X ad Z H' s'->aa H0 H'->R (.ok (.ret (.ref a))) s') :
 ∀(r j i:Nat) (H:Hp) (s:Shared) (ab O:Addr) (c:Nat),as.length - (j+1)=r->j+1<=as.length->Inv X ad Z H s->aa H0 H->fz X ad H I->fz X ad H S->s.heap.get? S=some (seqObj "list" #[.ref ab,.ref O] c)->s.heap.IsListIter I l (j+1) ->
  as[i]?=some ab->H O=some (.tup ((ks i).map B4))->(∀J,J<=j->cu (ks J) (ks i)=false)->codeAny (model X.prog X.w) X.A (.builtin "min.loop" ⟨[.ref I,.ref q,.ref S],[]⟩) R s:=by
 have yT:(toString "min"++toString ".loop":String)="min.loop":=by decide
 have hsz:(as.map Value.ref).toArray.size=as.length:=by simp
 intro r
 induction r with
 | zero=>
  intro j i H s ab O c hr hj U sm fI fS hS a1 j9 GN a0;have W:=Ey (prog:=X.prog) (w:=X.w) (A:=X.A.in1) (U.ok.hd hc) I l yS (as.map Value.ref).toArray;have ij:j+1=as.length:=by omega
  refine qB Yp ?_;rw[vj xQ _];show wpAny _ X.A.in1 (seqItems? (.ref S) >>= _) _ _ _;refine ae (xD hS rfl ?_);show wpAny _ X.A.in1 (tryCatch (pyNext (.ref I)) _ >>= _) _ _ _;refine ae (AX (W.done _ _ _ ⟨by rw[hsz,<-ij];exact a1,U.isL (sm _ _ B6)⟩ λh' nQ eE=>?_));have I1:Inv X ad Z H { s with heap:=h',toks:=nQ }:=U.turnF fI λb o G e=>eE b o (by simpa using G) e;have ii:=eE S _ (by simpa using uj) hS;have s1:=mf h' S (Obj.mapSeq λ_=>(#[]:Av));show wpAny _ X.A.in1 (updateSeq S (λ_=>#[]) >>= _) _ _ _;refine ae ?_;refine Ex ii rfl (ae (MB (aq ?_)));exact hR i ab H _ j9 (λJ rm=>a0 J (by omega)) (I1.turnF (t':=nQ) fS λb o G e=>(s1.2 b G).trans e) sm
 | succ r ih=>
  intro j i H s ab O c hr hj U sm fI fS hS a1 j9 GN a0;have W:=Ey (prog:=X.prog) (w:=X.w) (A:=X.A.in1) (U.ok.hd hc) I l yS (as.map Value.ref).toArray;have aO:j+1<as.length:=by omega
  refine qB Yp ?_;rw[vj xQ _];show wpAny _ X.A.in1 (seqItems? (.ref S) >>= _) _ _ _;refine ae (xD hS rfl ?_);show wpAny _ X.A.in1 (tryCatch (pyNext (.ref I)) _ >>= _) _ _ _;refine ae (AX (W.item (j+1) _ _ _ (by rw[hsz];exact aO) ⟨a1,U.isL (sm _ _ B6)⟩ λv h' nQ hP yM eE=>?_));have jv:(as.map Value.ref)[j+1]?=some v:=by simpa using hP
  obtain⟨a,ha,rfl⟩:∃a,as[j+1]?=some a/\v=.ref a:=by
   rw[dN]at jv;cases e:as[j+1]? with
   | none=>rw[e]at jv;cases jv
   | some a=>rw[e]at jv;cases jv;exact⟨a,rfl,rfl⟩
  obtain⟨rn,yU,oG,ug⟩:=id yM.1;have I1:Inv X ad Z H { s with heap:=h',toks:=nQ }:=U.turnF fI λb o G e=>eE b o (by simpa using G) e;have yV:h'.get? S=some (seqObj "list" #[.ref ab,.ref O] c):=eE S _ (by simpa using uj) hS;have Ip:Inv X (ad++tD [I,S] h') Z H { s with heap:=h',toks:=nQ }:=I1.pinned (fp:=[I,S]) (λb G=>by
   rcases aZ.mp G with e | e
   . rw[e];exact fI
   . rw[bD.mp e];exact fS) (λb G=>by
   rcases aZ.mp G with e | e
   . rw[e];exact⟨rn,yU,λv z=>by rw[ug]at z;cases z⟩
   rw[bD.mp e];exact⟨_,yV,λv z=>nomatch z⟩)
  show wpAny _ X.A.in1 (tryCatch (holding [.ref a] (call (.ref q) [.ref a])) _ >>= _) _ _ _;refine ae (AX (jY (eP (a3 (j+1) a ha _ Z H _ Ip sm) (λx s2 he=>?_) λ_ _ hF=>hF.elim)));obtain⟨Y,H2,um,rfl,bM,v4⟩:=he;have pI:=um.pin (I,rn) (eX _ (eX _ (qO (by simp) yU)));have pS:=um.pin (S,seqObj "list" #[.ref ab,.ref O] c) (eX _ (eX _ (qO (by simp) yV)));have I2:=um.unpinned;have QJ:=sm.trans bM;have B7:fz X ad H2 I:=fI.of pI.2.1;have v5:fz X ad H2 S:=fS.of pS.2.1;have a2:s2.heap.IsListIter I l (j+1+1):=⟨rn,pI.1,oG,ug⟩;obtain⟨QF,r1,p1,_⟩:=I2.tuple (aX.of (K:=X.K) v4);obtain⟨a4,r2,p2,_⟩:=I2.tuple (aX.of (K:=X.K) (bM _ _ GN));show wpAny _ X.A.in1 (tryCatch (holding [.ref a,.ref Y] (richCompare .Lt (.ref Y) (.ref O) >>= _)) _ >>= _) _ _ _;refine ae (AX (jY (ae (HT.aio p1 p2 (B5 r1) (B5 r2) (ok _ _) hu ?_))));refine ae (jY (qr ?_));refine ae (MB (aq ?_))
  by_cases kF:cu (ks (j+1)) (ks i)=true
  . have s1:=mf s2.heap S (Obj.mapSeq λ_=>#[.ref a,.ref Y]);obtain⟨c2,mB⟩:∃c2,(s2.heap.update S (Obj.mapSeq λ_=>#[.ref a,.ref Y])).get? S=some (seqObj "list" #[.ref a,.ref Y] c2):=⟨_,get?_update_seq pS.1 λ_=>#[.ref a,.ref Y]⟩;simp only[kF,vc];refine ae ?_;refine Ex pS.1 rfl (ae (MB ?_));rw[yT];refine aq ⟨sX xQ _,ih (j+1) (j+1) H2 _ a Y c2 (by omega) aO (I2.turnF (t':=s2.toks) v5 λb o G e=>(s1.2 b G).trans e) QJ B7 v5 mB ⟨rn,(s1.2 I uj.symm).trans pI.1,oG,ug⟩ ha v4 λJ rm=>?_⟩
    by_cases e:J=j+1
    . subst e;exact v3 _
    cases z:cu (ks J) (ks (j+1)) with
    | false=>rfl
    | true=>have:=tr _ _ _ z kF;rw[a0 J (by omega)]at this;cases this
  have jc:cu (ks (j+1)) (ks i)=false:=by simpa using kF
  simp only[jc,qp,mT];refine ae (MB ?_);rw[yT];refine aq ⟨sX xQ _,ih (j+1) i H2 _ ab O c (by omega) aO I2 QJ B7 v5 pS.1 a2 j9 (bM _ _ GN) λJ rm=>?_⟩
  by_cases e:J=j+1
  . subst e;exact jc
  exact a0 J (by omega)
theorem aiy(G:Inv X ad Z H s)(hc:X.calm=true)(hu:X.A.in1.units<cLine)(hl:H l=some (.lst (as.map V.ref)))(cY:0<as.length)(ok:∀i j,ik (ks i) (ks j))(tr:∀a b c,cu (ks a) (ks b)=true->cu (ks b) (ks c)=true->cu (ks a) (ks c)=true)(v3:∀a,cu (ks a) (ks a)=false)
 (a0:GL X q as ks H) (hQ:∀i a H' s',as[i]?=some a->(∀j,j<as.length->cu (ks j) (ks i)=false)->Inv X ad Z H' s'->aa H H'->Q (.ref a) s') :
 wpAny (model X.prog X.w) X.A (call (.builtin "min") [.ref l] [(Str.ofString "key",.ref q)]) Q E s:=by
 have yT:(toString "min"++toString ".loop":String)="min.loop":=by decide
 have A4:=G.isL hl;obtain⟨ol,BW,_⟩:=id A4;have a1:l<s.heap.objs.size:=bH BW;have hsz:(as.map Value.ref).toArray.size=as.length:=by simp
 refine kmk_tree PySem.F.kind_min PySem.F.plain_min PySem.F.entry_min (kmk_min_key _ _) ?_;show wpAny _ X.A.in1 (Builtin.Builtins.bindParams "min" ["key","default"] 0 ⟨[],[(Str.ofString "key",.ref q)]⟩ >>= _) _ _ s;refine ae (wpAny_of_eq (show Builtin.Builtins.bindParams "min" ["key","default"] 0 ⟨[],[(Str.ofString "key",.ref q)]⟩=pure [some (.ref q),none] from rfl) ?_);refine ae (aq ?_);refine ae (Mc A4 ?_);refine ae (X6 ?_ (dC _));rw[yT];refine aq ⟨sX xQ _,?_⟩;have Y:(s.heap.push { cls:=.type "list_iterator",data:=.fields #[.ref l,.int 0 0] }).objs.size=s.heap.objs.size+1:=size_push' ..;have yS:l≠s.heap.objs.size:=cX a1;have uj:(s.heap.push { cls:=.type "list_iterator",data:=.fields #[.ref l,.int 0 0] }).objs.size≠s.heap.objs.size:=by rw[Y];exact kU (xH _)
 have fI:fz X ad H s.heap.objs.size:=G.fpOk (aG _) (G.hok.fresh (aG _));have fS:fz X ad H (s.heap.push { cls:=.type "list_iterator",data:=.fields #[.ref l,.int 0 0] }).objs.size:=G.fpOk (by rw[Y];exact qv _) (G.hok.fresh (by rw[Y];exact qv _));have gI:((s.heap.push { cls:=.type "list_iterator",data:=.fields #[.ref l,.int 0 0] }).push (seqObj "list" #[] 0)).get? s.heap.objs.size=some { cls:=.type "list_iterator",data:=.fields #[.ref l,.int 0 0] }:=
  b9 _ (dL _ rfl)
 have gS:((s.heap.push { cls:=.type "list_iterator",data:=.fields #[.ref l,.int 0 0] }).push (seqObj "list" #[] 0)).get? (s.heap.push { cls:=.type "list_iterator",data:=.fields #[.ref l,.int 0 0] }).objs.size=some (seqObj "list" #[] 0):=dL _ rfl;have I0:Inv X ad Z H { s with heap:=(s.heap.push { cls:=.type "list_iterator",data:=.fields #[.ref l,.int 0 0] }).push (seqObj "list" #[] 0) }:=G.kept (t':=s.toks) λb o e=>b9 _ (b9 _ e);generalize (s.heap.push { cls:=.type "list_iterator",data:=.fields #[.ref l,.int 0 0] }).objs.size=S at *;generalize s.heap.objs.size=I at *;generalize (s.heap.push { cls:=.type "list_iterator",data:=.fields #[.ref l,.int 0 0] }).push (seqObj "list" #[] 0)=h0 at *;have W:=Ey (prog:=X.prog) (w:=X.w) (A:=X.A.in1) (G.ok.hd hc) I l yS (as.map Value.ref).toArray;refine qB Yp ?_;rw[vj xQ _];show wpAny _ X.A.in1 (seqItems? (.ref S) >>= _) _ _ _;refine ae (xD gS rfl ?_);show wpAny _ X.A.in1 (tryCatch (pyNext (.ref I)) _ >>= _) _ _ _;refine ae (AX (W.item 0 _ _ _ (by rw[hsz];exact cY) ⟨⟨_,gI,rfl,rfl⟩,I0.isL hl⟩ λv h' nQ hP yM eE=>?_));have U:(as.map Value.ref)[0]?=some v:=by simpa using hP
 obtain⟨a,ha,rfl⟩:∃a,as[0]?=some a/\v=.ref a:=by
  rw[dN]at U;cases e:as[0]? with
  | none=>rw[e]at U;cases U
  | some a=>rw[e]at U;cases U;exact⟨a,rfl,rfl⟩
 obtain⟨rn,yU,oG,ug⟩:=id yM.1;have I1:Inv X ad Z H { s with heap:=h',toks:=nQ }:=I0.turnF fI λb o J e=>eE b o (by simpa using J) e;have yV:h'.get? S=some (seqObj "list" #[] 0):=eE S _ (by simpa using uj) gS;have Ip:Inv X (ad++tD [I,S] h') Z H { s with heap:=h',toks:=nQ }:=I1.pinned (fp:=[I,S]) (λb J=>by
  rcases aZ.mp J with e | e
  . rw[e];exact fI
  . rw[bD.mp e];exact fS) (λb J=>by
  rcases aZ.mp J with e | e
  . rw[e];exact⟨rn,yU,λv z=>by rw[ug]at z;cases z⟩
  rw[bD.mp e];exact⟨_,yV,λv z=>nomatch z⟩)
 show wpAny _ X.A.in1 (tryCatch (holding [.ref a] (call (.ref q) [.ref a])) _ >>= _) _ _ _;refine ae (AX (jY (eP (a0 0 a ha _ Z H _ Ip (aa.refl H)) (λx s2 he=>?_) λ_ _ hF=>hF.elim)));obtain⟨O,H2,um,rfl,bM,v4⟩:=he;have pI:=um.pin (I,rn) (eX _ (eX _ (qO (by simp) yU)));have pS:=um.pin (S,seqObj "list" #[] 0) (eX _ (eX _ (qO (by simp) yV)));have I2:=um.unpinned;have B7:fz X ad H2 I:=fI.of pI.2.1;have v5:fz X ad H2 S:=fS.of pS.2.1;have s1:=mf s2.heap S (Obj.mapSeq λ_=>#[.ref a,.ref O]);obtain⟨c2,mB⟩:∃c2,(s2.heap.update S (Obj.mapSeq λ_=>#[.ref a,.ref O])).get? S=some (seqObj "list" #[.ref a,.ref O] c2):=⟨_,get?_update_seq pS.1 λ_=>#[.ref a,.ref O]⟩;show wpAny _ X.A.in1 (updateSeq S (λ_=>#[.ref a,.ref O]) >>= _) _ _ _;refine ae ?_;refine Ex pS.1 rfl ?_;rw[yT];refine aq ⟨sX xQ _,aiw (H0:=H) hc hu yS uj hl ok tr v3 a0 (λi a H' s' e b I' sm=>hQ i a H' s' e b I' sm) _ 0 0 H2 _ a O c2 rfl cY (I2.turnF (t':=s2.toks) v5 λb o J e=>(s1.2 b J).trans e) bM B7 v5 mB ⟨rn,(s1.2 I uj.symm).trans pI.1,oG,ug⟩ ha v4 λj' rm=>?_⟩;have e:j'=0:=by omega
 subst e;exact v3 _
end
def lK(P:Addr)(H H':Hp):Prop:=∀b o,H b=some o->b≠P->H' b=some o
def aiA(P:Addr)(a_:Str)(lpos:Pos)(x:Str)(te tb:TE):TE:=λZ H Q=>fU te fT Z H λus H1=>∃(l:Addr) (as:List Addr) (ks:Nat->List At),us=[.ref l]/\l≠P/\H1 l=some (.lst (as.map V.ref))/\0<as.length/\(∀i j,ik (ks i) (ks j)) /\
 (∀a b c,cu (ks a) (ks b)=true->cu (ks b) (ks c)=true->cu (ks a) (ks c)=true)/\(∀a,cu (ks a) (ks a)=false)/\TabSt H1 P lpos a_ /\
 (∀i a,as[i]?=some a->∀H2,lK P H1 H2->tb [some (.ref a)] H2 λv H3=>∃G,v=.ref G/\aa H2 H3/\H3 G=some (.tup ((ks i).map B4))) /\
 ∀i a H',as[i]?=some a->(∀j,j<as.length->cu (ks j) (ks i)=false)->lK P H1 H'->TabSt H' P lpos a_->Q (.ref a) H'
section
variable {X:Cx}{c P:Addr}{params:Arguments}{body e:Expr}{scope:Scope}{p pos lpos yk:Pos}{a_ x:Str}{k:Nat}{te tb:TE}
theorem TabSt.same{H':Hp}(s:aa H H')(h:TabSt H P lpos a_):TabSt H' P lpos a_:=by
 rcases h with h | ⟨c',h1,h2⟩
 . exact .inl (s _ _ h)
 exact .inr ⟨c',s _ _ h1,s _ _ h2⟩
theorem aiB(he:PE X e te)(S:aN [x] [x] scope)(hr:ci (k+1) X.A.in1)(hc:X.calm=true)(BY:X.env.code=.ref c)(hd:W.codeHdIn X.K c P=true)(hb:X.base.BuiltinsAt X.mg P)(hg:Gl X "min")(hm:X.mg "min"=none)
 (oO:∀(q c':Addr) (A:Around) (outer:List Env) (s:Shared) (H:Hp) (E:XK),PE (lq aJ X.prog X.w X.K X.mg X.base [x] a_ scope q (.ref c') A outer s H E) body tb)
 (GO:∀(pm iH u:Value) (c':Addr),bindArgs (W.kla_fn "<lambda>" a_ params body scope [] pm (.ref c') iH) ⟨[u],[]⟩=pure ([x].zip [u]))
 (hq:X.env.qual ++ "<lambda>"=a_:=by rfl) (BZ:X.env.globals=mainGlobals:=by rfl) (mH:closureFor scope X.env=pure []:=by rfl) (GD:defaultsOf params X.env=([],[]):=by rfl)
 (h1:backTo pos (starEach [e] X.env)=(false,eval e X.env)::backTo pos (starEach [] X.env):=by rfl) (h2:starEach [e] X.env=[(false,eval e X.env)]:=by rfl) (h3:(backTo pos (starEach [e] X.env)).any (·.1)=false:=by rfl) :
 PE X (.Call (.Name "min" p) [e] [⟨some "key",.Lambda params body scope lpos,yk⟩] pos) (aiA P a_ lpos x te tb):=by
 intro ad s Z H Q I h;have hu:X.A.in1.units<cLine:=by have:=hr.un;omega
 refine AI (tq I hg hm boot_min ?_ (by decide) (by decide));have G:PA X [e] (fU te fT):=gk he dG h2;refine callWith_kw (thn (G pos ad s Z H _ I h) λus s1 a0=>aP a0 λvs H1 I1 r a1=>a1.elim λl a2=>a2.elim λas a3=>a3.elim λks a4=>a4.elim λe1 a5=>a5.elim λlP a6=>a6.elim λhl a7=>a7.elim λcY a8=>a8.elim λok a9=>a9.elim λtr ab=>ab.elim λv3 af=>af.elim λb5 an=>an.elim λap b1=>?_) h1 h3;subst e1;obtain⟨u1,rfl,ru⟩:=vals1 r;cases ru;have hk:PK X [⟨some "key",.Lambda params body scope lpos,yk⟩] (fU (Qy P a_ params body scope lpos) fT):=abd (ahP BY hd hb hq BZ mH GD) abc;refine thn (hk pos ad s1 Z H1 (λzs H2=>∃q c',zs=[.ref q]/\lK P H1 H2/\TabSt H2 P lpos a_/\H2 c'=some (yN c' a_)/\H2 q=some (yO q c' a_ params body scope)) I1 ⟨b5,λq c' H2 nq nP kp U ia iA=>⟨q,c',rfl,kp,U,ia,iA⟩⟩) λws s2 ar=>aP ar λzs H2 I2 rz ax=>ax.elim λq az=>az.elim λc' a'=>a'.elim λez aC=>aC.elim λkp aO=>aO.elim λU aR=>aR.elim λmB b2=>?_;subst ez;obtain⟨w1,rfl,b3⟩:=vals1 rz;cases b3;have b6:GL X q as ks H2:=by
  intro i a G EF σ' H3 s3 O j;obtain⟨pm,iH,ho⟩:=(show bX X.prog X.w H3 s3.heap q (yO q c' a_ params body scope) from O.hok q _ (j _ _ b2)).1;have GB:s3.heap.CodeRec (.ref c') a_:=(show bX X.prog X.w H3 s3.heap c' (yN c' a_) from O.hok c' _ (j _ _ mB)).1;refine Ek (qt (ahN (E:=E0) (vs:=[.ref a]) (us:=[.ref a]) S hr O.env0.in1 ho GB (GO pm iH _ c') rfl (.cons rfl .nil) (oO q c' _ _ _ _ _) (ap i a G H3 λb o e n=>j _ _ (kp b o e n))) λr s' J=>?_);cases r with
  | error e=>exact(show False from J).elim
  | ok fl=>
   cases fl with
   | ret u=>
    obtain⟨v,H',Y,rv,kt,ev,b4,v4⟩:=O.after J;subst ev;cases rv;exact⟨kt,H',Y,rfl,b4,v4⟩
   | next=>exact False.elim J
   | brk=>exact False.elim J
   | cont=>exact False.elim J
 refine aiy I2 hc hu (kp _ _ hl lP) cY ok tr v3 b6 λi a H' s' G b0 Y j=>?_;exact⟨.ref a,H',Y,rfl,b1 i a H' G b0 (λb o e n=>j _ _ (kp b o e n)) (U.same j)⟩
end
end
section
open PySem.W (tabObj CodeHd)
theorem ai1{P:Program}{w:World}{K:Fg}{mg mb:Mv}{CX:ie}{k:Nat}{fa a Pt c:Addr}{fd:Fy}{x a_:Str}{lpos:Pos}{sp:Sp}{j:Shared}{vs:Lw}{ns:List Int}
 (KX:K.In j.heap) (lG:j.heap.Ns mainGlobals mg) (G:j.heap.Ns builtinsNs mb) (iZ:∀x:Str,x≠"__name__"->mb x=bootBuiltins x) (a3:j.heap.NoLimit) (hg:j.gens = #[])
 (a7:∃bm ob,mg "__builtins__"=some (.ref bm)/\bm≠builtinsNs/\j.heap.get? bm=some ob/\ob.cls=.type "module"/\ob.dict=some builtinsNs/\ob.data=.plain)
 (O:j.heap.get? Pt=some (tabObj #[])) (hC:CodeHd j.heap c Pt) (GQ:K.lookup Pt=none)
 (ha:j.heap.get? a=some { cls:=.type "list",data:=.seq vs.toArray }) (hi:IntsAre vs ns) (hl:ns.length<=sizeLine) (hr:ci k callerA)
 (F:∀base:Heap,K.In base->base.Ns mainGlobals mg->base.BuiltinsAt mg Pt->aA P w K mg base CX k fa fd [x] sp) (GO:∀(s:Shared) (u:Value),BindsTo s fd ⟨[u],[]⟩ [(x,u)])
 (jE:∀H:Hp,H Pt=some (iI Pt #[])->ac K H a (ns.map V.int)->sp [.ref a] H (λv H'=>v=.bl true/\TabSt H' Pt lpos a_) λ_ _ _=>False)
 (GR:∀H e s',CX [] H j (λ_ _ _=>False) e s'->False) :
 codeAny (model P w) callerA (.call (.ref fa) ⟨[.ref a],[]⟩) (λr s'=>r=.ok (.ret (.bool true))/\OldK j.heap s'.heap/\s'.os=j.os/\AllBare s'.gens) j:=by
 have rv:=OD hi;have a4:=hi.length;have QK:a≠Pt:=λz=>by rw[z,O]at ha;cases ha
 have a1:∀H:Hp,H Pt=some (iI Pt #[])->(∀b,b≠Pt->H b=none\/∃o xs,H b=some (.frz o (.lst xs)))->ac K H a (ns.map V.int)->cr P w H j.heap->(∀b,H b≠none->b=a\/b=Pt)->(H a≠none->K.lookup a=none) ->
  codeAny (model P w) callerA (.call (.ref fa) ⟨[.ref a],[]⟩) (λr s'=>r=.ok (.ret (.bool true))/\OldK j.heap s'.heap/\s'.os=j.os/\AllBare s'.gens) j:=by
  intro H hT hO hS hok hA hK;have GS:∀{b:Addr}{o:Obj},j.heap.get? b=some o->H b=none->(mX j.heap H).get? b=some o:=λe n=>Y4 e n;have QL:∀{b:Addr}{o:Obj},j.heap.get? b=some o->(∀it n,o.data≠.seq it n)->(∀ps,o.data≠.fields ps)->H b=none:=λ{b o} e d1 d2=>by
   cases q:H b with
   | none=>rfl
   | some u=>
    rcases hA b (by rw[q];simp) with e' | e'
    . subst e';rw[ha]at e;cases e;exact absurd rfl (d1 _ _)
    subst e';rw[O]at e;cases e;exact absurd rfl (d2 _)
  have B8:∀{b:Addr}{m:Mv},j.heap.Ns b m->(mX j.heap H).Ns b m:=λ{b m} ⟨o,es,ep,e,d,r⟩=>⟨o,es,ep,GS e (QL e (λit n z=>by rw[d]at z;cases z) λps z=>by rw[d]at z;cases z),d,r⟩;have QM:K.In (mX j.heap H):=λb o e=>GS (KX b o e) (by
   cases q:H b with
   | none=>rfl
   | some u=>
    rcases hA b (by rw[q];simp) with e' | e'
    . subst e';rw[hK (by rw[q];simp)]at e;cases e
    subst e';rw[GQ]at e;cases e)
  have hM:Mod K mg (mX j.heap H):=⟨QM,B8 lG,⟨mb,B8 G,iZ⟩,a3.elim λmc a5=>a5.elim λh1 h2=>⟨mc,B8 h1,h2⟩⟩;have e0:mw P w K mg (mX j.heap H) callerA [] j H:=⟨rfl,hM,λb o e=>Y5 e,xG (Y3 _ _),trivial,λb G=>absurd (show b∈([]:List Addr) from G) (by simp),hok,.of_eq hg⟩;have a8:(mX j.heap H).BuiltinsAt mg Pt:=by
   obtain⟨bm,a9,b1,b2,U,b4,b5,Y⟩:=a7;refine⟨bm,a9,b1,b2,λz=>?_,λz=>?_,GS U (QL U (λit n z=>by rw[Y]at z;cases z) λps z=>by rw[Y]at z;cases z),b4,b5,Y⟩
   . obtain⟨o,es,ep,e,d,_⟩:=lG;rw[z,e]at U;cases U;rw[d]at Y;cases Y
   rw[z,O]at U;cases U;cases Y
  refine qt ((F _ QM (B8 lG) a8).run callerA [] j H ⟨[.ref a],[]⟩ [.ref a] [.ref a] _ _ hr e0 (GO j (.ref a)) (.cons rfl .nil) (jE H hT hS)) λr s' h=>?_;cases r with
  | error e=>exact(GR H e s' h).elim
  | ok fl=>
   cases fl with
   | next=>exact False.elim h
   | brk=>exact False.elim h
   | cont=>exact False.elim h
   | ret u=>
    obtain⟨v,H',os,a6,un,tS,r',q',tb⟩:=h;subst q';obtain rfl:u=Value.bool true:=r';have old:∀b o,j.heap.get? b=some o->b≠Pt->s'.heap.get? b=some o:=λb o e J=>by
     cases q:H b with
     | none=>exact un.keep b o e q (by intro z;exact absurd (show b∈([]:List Addr) from z) (by simp)) (by simp)
     | some u=>
      rcases hO b J with z | ⟨ob,xs,z⟩
      . rw[q]at z;cases z
      have z2:=un.frzs b ob _ z;obtain⟨e1,_⟩:=hok b _ z;obtain⟨e2,_⟩:=tS b _ z2;rw[e]at e1;cases e1;exact e2
    have a2:s'.heap.get? Pt=some (tabObj #[])\/∃a0,s'.heap.get? Pt=some (tabObj (#[]++a0)):=by
     rcases tb with z | ⟨c',z,_⟩
     . exact .inl (show bX P w H' s'.heap Pt (iI Pt #[]) from tS Pt _ z).1
     exact .inr ⟨_,by rw[Array.empty_append];exact(show bX P w H' s'.heap Pt (iI Pt _) from tS Pt _ z).1⟩
    refine⟨rfl,⟨λb o e=>?_,λb o e=>?_⟩,os,a6⟩
    . by_cases J:b=Pt
      . subst J;rw[O]at e;cases e
        rcases a2 with z | ⟨a0,z⟩
        . exact .inl z
        exact .inr (.inl ⟨(hC.tab O).isCodeTable,rfl,#[],a0,rfl,z⟩)
      exact .inl (old b o e J)
    by_cases J:b=Pt
    . subst J
      rcases a2 with z | ⟨a0,z⟩
      . exact⟨_,z⟩
      exact⟨_,z⟩
    exact⟨o,old b o e J⟩
 have uo:∀H:Hp,H Pt=some (iI Pt #[])->bX P w H j.heap Pt (iI Pt #[]):=λH _=>yP O O λh1 h2 z k=>k _ z;cases hk:K.lookup a with
 | some o=>
  have e:=KX a o hk;rw[ha]at e;cases e;refine a1 (λb=>if b=Pt then some (iI Pt #[]) else none) (ai rfl) (λb J=>.inl (ag J)) (.inr ⟨_,vs.toArray,_,hk,rfl,rfl,rfl,by rw[gc,a4];exact hl,by simpa using rv⟩) (λb u z=>?_) (λb z=>?_) λz=>absurd (ag QK) z
  . by_cases G:b=Pt
    . have z':=(ai G).symm.trans z;cases z';subst G;exact uo _ (ai rfl)
    have z':=(ag G).symm.trans z;cases z'
  by_cases G:b=Pt
  . exact .inr G
  exact absurd (ag G) z
 | none=>
  refine a1 (λb=>if b=Pt then some (iI Pt #[]) else if b=a then some (.frz { cls:=.type "list",data:=.seq vs.toArray } (.lst (ns.map V.int))) else none) (ai rfl) (λb J=>?_) (.inl (.inr ⟨{ cls:=.type "list",data:=.seq vs.toArray },by show(if a=Pt then _ else if a=a then _ else _)=_;rw[ag QK,ai rfl]⟩)) (λb u z=>?_) (λb z=>?_) λ_=>hk
  . show(if b=Pt then _ else if b=a then _ else _)=_\/∃o xs,(if b=Pt then _ else if b=a then _ else _)=_;rw[ag J]
    by_cases G:b=a
    . exact .inr ⟨_,_,ai G⟩
    exact .inl (ag G)
  . have z:(if b=Pt then some (iI Pt #[]) else if b=a then some (.frz { cls:=.type "list",data:=.seq vs.toArray } (.lst (ns.map V.int))) else none)=some u:=z
    by_cases G:b=Pt
    . rw[ai G]at z;cases z;subst G;exact uo _ (ai rfl)
    rw[ag G]at z
    by_cases jc:b=a
    . rw[ai jc]at z;cases z;subst jc;exact⟨ha,by rw[aj];exact hl,vs,_,rv,ha⟩
    rw[ag jc]at z;cases z
  have z:(if b=Pt then some (iI Pt #[]) else if b=a then some (HO.frz { cls:=.type "list",data:=.seq vs.toArray } (.lst (ns.map V.int))) else none)≠none:=z
  by_cases G:b=Pt
  . exact .inr G
  rw[ag G]at z
  by_cases jc:b=a
  . exact .inl jc
  rw[ag jc]at z;exact absurd rfl z
theorem ai7{l:W.OpenLaw}{n k:Nat}{q:Program}{a1:Ls}{XP:(Mv)->Heap->Prop}{O:World->Heap->Prop}{d:DefRec}{K:Params->Fg}{CX:World->ie}{sp:World->Sp}{x a_:Str}{lpos:Pos}{Pt:Addr}
 (hn:l.most=some n) (yj:n<=sizeLine) (yu:d.params.defaults=[]) (hr:ci k callerA)
 (hY:∀(w:World) (h:Heap),O w h->(K w.params).In h/\h.get? Pt=some (tabObj #[]))
 (F:∀(w:World) (mg:Mv) (j:Addr) (h:Heap),(K w.params).In h->h.Ns mainGlobals mg->mg d.name=some (.ref j) ->
  ∃(fd:Fy) (c:Addr),(∀(s:Shared) (u:Value),BindsTo s fd ⟨[u],[]⟩ [(x,u)])/\W.codeHdIn (K w.params) c Pt=true/\(K w.params).lookup Pt=none /\
   ∀base:Heap,(K w.params).In base->base.Ns mainGlobals mg->base.BuiltinsAt mg Pt->aA l.prog w (K w.params) mg base (CX w) k j fd [x] (sp w))
 (jE:∀(w:World) (H:Hp) (a:Addr) (ns:List Int),ns.length<=n->H Pt=some (iI Pt #[])->ac (K w.params) H a (ns.map V.int)->sp w [.ref a] H (λv H'=>v=.bl true/\TabSt H' Pt lpos a_) λ_ _ _=>False)
 (GR:∀(w:World) (H:Hp) (s:Shared) (e:Value) (s':Shared),CX w [] H s (λ_ _ _=>False) e s'->False) :
 W.WalkO q a1 XP O l.row.toRowW d [] (λf vs=>PySem.call f vs):=by
 refine Att.adb hn yu λw s₀ s₁ mg mb j o pm cd a2 a vs ns G Y ho hd iU yw tO a0 U hg=>?_;obtain⟨J,hP⟩:=hY w _ Y;obtain⟨fd,c,hb,hC,GQ,hF⟩:=F w mg j _ J G.T.g yw;exact ai1 J G.T.g G.T.b G.T.builtins G.T.nolimit hg G.T.bmain hP (W.codeHd_of_K J hC) GQ tO a0 (b8 U yj) hr hF hb (λH hO hS=>jE w H a ns U hO hS) λH e s'=>GR w H s₁ e s'
end
end L2
abbrev aya:PySem.Str:="self"
abbrev ayb:PySem.Str:="_law_cell"
abbrev ayc:PySem.Str:="_law_number"
abbrev ayd:PySem.Str:="shelf"
abbrev aye:PySem.Str:="path"
abbrev ayf:PySem.Str:="parcel"
abbrev ayg:PySem.Str:="parcels"
abbrev ayh:PySem.Str:="chosen"
abbrev ayi:PySem.Str:="_law_path_here"
abbrev ayj:PySem.Str:="name"
abbrev ayk:PySem.Str:="_law_script"
abbrev ayl:PySem.Str:="disk"
abbrev aym:PySem.Str:="_law_names"
abbrev ayn:PySem.Str:="make"
abbrev ayo:PySem.Str:="files"
abbrev ayp:PySem.Str:="_law_parcels"
abbrev ayq:PySem.Str:="text"
abbrev ayr:PySem.Str:="choices"
abbrev ays:PySem.Str:="_law_brought_here"
abbrev ayt:PySem.Str:="_law_lines_here"
abbrev ayu:PySem.Str:="lines"
abbrev ayv:PySem.Str:="_law_k"
abbrev ayw:PySem.Str:="_law_house"
abbrev ayx:PySem.Str:="other"
abbrev ayy:PySem.Str:="rank"
abbrev ayz:PySem.Str:="goal"
abbrev ayA:PySem.Str:="stand"
abbrev ayB:PySem.Str:="own"
abbrev ayC:PySem.Str:="_law_some"
abbrev ayD:PySem.Str:="_law_chosen_here"
abbrev ayE:PySem.Str:="_law_files"
abbrev ayF:PySem.Str:="needs"
abbrev ayG:PySem.Str:="change"
abbrev ayH:PySem.Str:="second"
abbrev ayI:PySem.Str:="first"
abbrev ayJ:PySem.Str:="block"
abbrev ayK:PySem.Str:="abcdefghijklmnopqrstuvwxyz"
abbrev ayL:PySem.Str:="now"
abbrev ayM:PySem.Str:="shuts"
abbrev ayN:PySem.Str:="group"
abbrev ayO:PySem.Str:="tree"
abbrev ayP:PySem.Str:="base"
abbrev ayQ:PySem.Str:="common"
abbrev ayR:PySem.Str:="_law_one"
abbrev ayS:PySem.Str:="_law_before"
abbrev ayT:PySem.Str:="brought"
abbrev ayU:PySem.Str:="_law_parcels_apart"
abbrev ayV:PySem.Str:="_law_own"
abbrev ayW:PySem.Str:="offers"
abbrev ayX:PySem.Str:="names"
abbrev ayY:PySem.Str:="behind"
abbrev ayZ:PySem.Str:="_law_disk"
abbrev ay0:PySem.Str:="kind"
abbrev ay1:PySem.Str:="name_behind"
abbrev ay2:PySem.Str:="_law_p"
abbrev ay3:PySem.Str:="_law_start"
abbrev ay4:PySem.Str:="others"
abbrev ay5:PySem.Str:="groups"
abbrev ay6:PySem.Str:="_law_name_here"
abbrev ay7:PySem.Str:="shelved"
namespace K71
open L2
variable {x:Str}{H:Hp}{o:HO}{n:Int}{L:List Addr}{α β:Type}{kvs:List (ak×V)}{c d:Nat}{ms:List Int}
structure eW(C dx x:Addr)(H Hk:Hp)(fl:List (Str×V)):Prop where
 same:∀b o,H b=some o->b≠x->Hk b=some o
 free:∀b,Hk b=none->H b=none
 ob:Hk x=some (.ins C dx fl)
section
variable {K:Fg}{C dx x p a:Addr}{Hk:Hp}{fl rp:List (Str×V)} {o':HO}{xs:Lv}
theorem eW.put(S:eW C dx x H Hk fl):eW C dx x H (upd Hk x (.ins C dx rp)) rp:=
 ⟨λb o e j=>by rw[aQ j];exact S.same b o e j,λb e=>S.free b (lC e).2,aB⟩
theorem eW.lay(S:eW C dx x H Hk fl)(G:Hk p=none):eW C dx x H (upd Hk p o) fl:=
 ⟨λb u e j=>by rw[aQ (aH (S.same b u e j) G)];exact S.same b u e j,λb e=>S.free b (lC e).2,by rw[aQ (aH S.ob G)];exact S.ob⟩
theorem eW.sqL(S:eW C dx x H Hk fl)(j:H x=some (.ins C dx rp))(h:ac K H a xs):ac K Hk a xs:=by
 rcases h with(h | ⟨o,h⟩) | h
 . exact .inl (.inl (S.same _ _ h (be h j (by intro z;cases z))))
 . exact .inl (.inr ⟨o,S.same _ _ h (be h j (by intro z;cases z))⟩)
 exact .inr h
theorem eW.sqT(S:eW C dx x H Hk fl)(j:H x=some (.ins C dx rp))(h:aX K H a xs):aX K Hk a xs:=by
 rcases h with(h | ⟨o,h⟩) | h
 . exact .inl (.inl (S.same _ _ h (be h j (by intro z;cases z))))
 . exact .inl (.inr ⟨o,S.same _ _ h (be h j (by intro z;cases z))⟩)
 exact .inr h
theorem aw(h:Hk a=some o)(n:a≠p):upd Hk p o' a=some o:=by rw[aQ n];exact h
theorem lp{f:Str}{v:V}{n:Nat}(h:fl.length<=n):(ay f v fl).length<=n+1:=b8 (E5 _ _ _) (by omega)
theorem few{n:Nat}(h:fl.length<=n)(h2:n<1000):fl.length<1000:=by omega
theorem pD:([]:List (Str×V)).length<=0:=aG _
end
def msk(L:List Addr)(H:Hp):Hp:=λb=>if b∈L then none else H b
theorem bc:aa (msk L H) H:=λb o e=>by
 unfold msk at e;split at e
 . cases e
 exact e
theorem dw{H':Hp}(s:aa H H'):aa (msk L H) (msk L H'):=λb o e=>by
 unfold msk at e ⊢;split at e
 . cases e
 rw[ag ‹_›];exact s _ _ e
theorem B9(h:p∈L):msk L (upd H p o)=msk L H:=by
 funext b
 unfold msk;split
 . rfl
 have j:¬b∈L:=‹_›;rw[aQ (λz=>j (by rw[z];exact h))]
theorem cw(n:b∉L)(h:H b=some o):msk L H b=some o:=by
 unfold msk;rw[ag n];exact h
theorem GU{j:List Addr}(h:∀b∈j,b∈L):aa (msk L H) (msk j H):=λb o e=>by
 unfold msk at e ⊢;split at e
 . cases e
 rw[ag (λz=>‹¬b∈L› (h b z))];exact e
def jd(H:Hp)(L:List Addr):Prop:=∀b∈L,∃o,H b=some o/\∀vs,o≠.tup vs
theorem jd.free(h:jd H L){b:Addr}(n:H b=none):b∉L:=λz=>by
 obtain⟨o,e,_⟩:=h b z;rw[n]at e;cases e
theorem jd.tup(h:jd H L){b:Addr}{vs:Lv}(n:H b=some (.tup vs)):b∉L:=λz=>by
 obtain⟨o,e,q⟩:=h b z;rw[n]at e;cases e;exact q _ rfl
theorem Ca{F:α->β->Prop}:∀{xs:List α}{ys:List β},Paired F xs ys->∀{i:Nat}{y:β},ys[i]?=some y->∃x,xs[i]?=some x/\F x y
 | _,_,.nil,i,y,h=>by cases h
 | _,_,.cons r t,0,y,h=>by cases h;exact⟨_,rfl,r⟩
 | _,_,.cons r t,i+1,y,h=>Ca t (i:=i) h
theorem eN{F:α->β->Prop}:∀{xs:List α}{ys:List β},Paired F xs ys->∀{i:Nat}{x:α},xs[i]?=some x->∃y,ys[i]?=some y/\F x y
 | _,_,.nil,i,y,h=>by cases h
 | _,_,.cons r t,0,y,h=>by cases h;exact⟨_,rfl,r⟩
 | _,_,.cons r t,i+1,y,h=>eN t (i:=i) h
theorem bA{F:α->β->Prop}:∀{xs:List α}{ys:List β},Paired F xs ys->xs.length=ys.length
 | _,_,.nil=>rfl
 | _,_,.cons _ t=>eZ (· + 1) (bA t)
theorem jK{F:α->β->Prop}{x:α}{y:β}(h:F x y):∀{xs:List α}{ys:List β},Paired F xs ys->Paired F (xs++[x]) (ys++[y])
 | _,_,.nil=>.cons h .nil
 | _,_,.cons r t=>.cons r (jK h t)
theorem QN{F:α->β->Prop}:∀{xs:List α}{ys:List β},xs.length=ys.length->(∀(i:Nat) (y:β),ys[i]?=some y->∃x,xs[i]?=some x/\F x y)->Paired F xs ys
 | [],[],_,_=>.nil
 | [],_::_,h,_=>nomatch h
 | _::_,[],h,_=>nomatch h
 | x::xs,y::ys,h,k=>by
  obtain⟨j,e,r⟩:=k 0 y rfl;cases e;exact .cons r (QN (Nat.succ.inj h) λi z hz=>k (i+1) z hz)
theorem QO:∀(p:Str) (l:Ls),risingS p l=true->(p::l).Pairwise (λa b=>a.cps.toList<=b.cps.toList)
 | p,[],_=>List.pairwise_singleton _ _
 | p,x::r,h=>by
  have h:(!ltCps x.cps.toList p.cps.toList && risingS x r)=true:=h;obtain⟨h1,h2⟩:=xN.mp h;have j:=QO x r h2;have le:p.cps.toList<=x.cps.toList:=by
   rw[PyProof.Rows.ltCps_eq]at h1;intro z;rw[bN z]at h1;cases h1
  refine List.pairwise_cons.mpr ⟨λy hy=>?_,j⟩
  rcases aZ.mp hy with e | hy
  . rw[e];exact le
  exact List.le_trans le (List.rel_of_pairwise_cons j hy)
theorem GV:∀{l:Ls},sortedS l=true->l.Pairwise (λa b=>a.cps.toList<=b.cps.toList)
 | [],_=>.nil
 | x::r,h=>QO x r h
theorem ai8{a b:Ls}(p:a.Perm b)(h1:sortedS a=true)(h2:sortedS b=true):a=b:=by
 refine awE (λx y _ _ h h'=>?_) (GV h1) (GV h2) p;have e:=Yq h h';obtain⟨⟨x⟩⟩:=x;obtain⟨⟨y⟩⟩:=y;have e:x=y:=e;rw[e]
def bw(tr:List (Str×β))(x:Str)(ls:β):List (Str×β):=if (tr.any λf=>decide (f.1=x))=true then tr.map (λf=>if f.1=x then(f.1,ls) else f) else tr++[(x,ls)]
theorem mJ{tr:List (Str×β)}{ls:β}{f:Str×β}(h:f∈bw tr x ls):f=(x,ls)\/f∈tr:=by
 unfold bw at h;split at h
 . obtain⟨g,j,e⟩:=cC.mp h;split at e
   . rename_i G;left;rw[<-e,G]
   right;rw[<-e];exact j
 rcases bR.mp h with h | h
 . exact .inr h
 exact .inl (bD.mp h)
theorem QP(tr:List (Str×β))(x:Str)(ls:β):(bw tr x ls).map (·.1)=if (tr.any λf=>decide (f.1=x))=true then tr.map (·.1) else tr.map (·.1)++[x]:=by
 unfold bw;split
 . rw[mi];refine ME λf _=>?_;show(if f.1=x then(f.1,ls) else f).1=f.1;split<;>rfl
 rw[dP];rfl
theorem rq{tr:List (Str×β)}:(tr.any λf=>decide (f.1=x))=true↔x∈tr.map (·.1):=by
 rw[sW,cC];constructor
 . rintro⟨f,hf,e⟩;exact⟨f,hf,cH e⟩
 rintro⟨f,hf,e⟩;exact⟨f,hf,bN e⟩
theorem jL{tr:List (Str×β)}{ls:β}(h:(tr.map (·.1)).Nodup):((bw tr x ls).map (·.1)).Nodup:=by
 rw[QP];split
 . exact h
 rename_i J;rw[qz];refine⟨h,by simp,λa j b G=>?_⟩;rw[bD.mp G];intro e;exact J (rq.mpr (e▸j))
theorem GW{tr:List (Str×β)}{y:Str}{ls:β}(h:y=x\/y∈tr.map (·.1)):y∈(bw tr x ls).map (·.1):=by
 rw[QP];split
 . rename_i j
   rcases h with h | h
   . rw[h];exact rq.mp j
   exact h
 rcases h with h | h
 . rw[h];exact eX _ (bD.mpr rfl)
 exact vf _ h
theorem jM(tr:List (Str×β))(x:Str)(ls:β):(bw tr x ls).length<=tr.length+1:=by
 unfold bw;split
 . rw[aj];omega
 rw[bI,kW];omega
theorem je{F:ak×V->Str×β->Prop}(J:∀kv f,F kv f->kv.1=Sum.inr f.1){ls:β}{v:V}(U:F (.inr x,v) (x,ls)){tr:List (Str×β)}(h:Paired F kvs tr):Paired F (cL kvs (.inr x) v) (bw tr x ls):=by
 have e:(kvs.any λkv=>decide (kv.1=Sum.inr x))=(tr.any λf=>decide (f.1=x)):=by
  induction h with
  | nil=>rfl
  | cons r t G=>
   rw[sP,sP,G,J _ _ r]
   congr 1
   exact xR.mpr ⟨λz=>md z,λz=>by rw[z]⟩
 unfold cL bw;rw[e];split
 . clear e;rename_i hh;clear hh
   induction h with
   | nil=>exact .nil
   | @cons kv f kvs tr r t G=>
    refine .cons ?_ G;have O:=J _ _ r;dsimp only
    by_cases j:f.1=x
    . have Y:kv.1=Sum.inr x:=by rw[O,j]
      rw[ai Y,ai j,Y,j];exact U
    rw[ag (λz=>j (md (O.symm.trans z))),ag j];exact r
 exact jK U h
theorem pE{F:ak×V->Str×β->Prop}(j:∀kv f,F kv f->kv.1=Sum.inr f.1){tr:List (Str×β)}(h:Paired F kvs tr):qZ kvs (tr.map (·.1)):=by
 unfold qZ
 induction h with
 | nil=>rfl
 | cons r t G=>rw[bV,bV,bV,G,j _ _ r]
theorem mK{F:ak×V->Str×β->Prop}(J:∀kv f,F kv f->kv.1=Sum.inr f.1){tr:List (Str×β)}(h:Paired F kvs tr)(G:x∈tr.map (·.1)):∃v ls,bg kvs (.inr x)=some v/\(x,ls)∈tr/\F (.inr x,v) (x,ls):=by
 induction h with
 | nil=>cases G
 | @cons kv f kvs tr r t O=>
  have j:=J _ _ r
  by_cases e:f.1=x
  . refine⟨kv.2,f.2,by rw[km (j.trans (by rw[e]))],?_,?_⟩
    . rw[<-e];exact bL
    rw[<-e,<-j];exact r
  rcases aZ.mp G with z | z
  . exact absurd z.symm e
  obtain⟨v,ls,a,b,c⟩:=O z;exact⟨v,ls,by rw[jt (λq=>e (md (j.symm.trans q)))];exact a,bT _ b,c⟩
theorem rA{F:ak×V->Str×β->Prop}(G:∀kv f,F kv f->kv.1=Sum.inr f.1){tr:List (Str×β)}(h:Paired F kvs tr)(j:x∉tr.map (·.1)):bg kvs (.inr x)=none:=by
 induction h with
 | nil=>rfl
 | @cons kv f kvs tr r t O=>
  have J:=G _ _ r;rw[bV,aZ,mh]at j;rw[jt (λq=>j.1 (md (J.symm.trans q)).symm)];exact O j.2
theorem kG{tr:List (Str×β)}(h:(tr.map (·.1)).Nodup){a b:β}(ha:(x,a)∈tr)(hb:(x,b)∈tr):a=b:=by
 induction tr with
 | nil=>cases ha
 | cons f tr J=>
  rw[bV,qw]at h
  rcases aZ.mp ha with G | ha
  . rcases aZ.mp hb with j | hb
    . rw[<-G]at j;exact(Prod.mk.inj j).2.symm
    exact absurd (ge (f:=(·.1)) hb) (by rw[<-G]at h;exact h.1)
  rcases aZ.mp hb with j | hb
  . exact absurd (ge (f:=(·.1)) ha) (by rw[<-j]at h;exact h.1)
  exact J h.2 ha hb
theorem QQ:∀{p q x y:List Nat},c∉p->c∉q->p++c::x=q++c::y->p=q/\x=y
 | [],[],x,y,_,_,h=>⟨rfl,(sY h).2⟩
 | [],b::q,x,y,_,hq,h=>absurd ((sY h).1▸bL) hq
 | a::p,[],x,y,hp,_,h=>absurd ((sY h).1.symm▸bL) hp
 | a::p,b::q,x,y,hp,hq,h=>by
  have h:=sY h;obtain⟨e1,e2⟩:=QQ (λz=>hp (bT _ z)) (λz=>hq (bT _ z)) h.2;exact⟨by rw[h.1,e1],e2⟩
theorem yX{a b:Str}(h:a.cps.toList=b.cps.toList):a=b:=Str.ext' (Array.toList_inj.mp h)
theorem jN(a b:Str):(a++b).cps.toList=a.cps.toList++b.cps.toList:=by rw[Str.cps_append,Array.toList_append]
theorem mL(c:Nat)(p q:Str)(r:Ls):(Str.join ⟨#[c]⟩ (p::q::r)).cps.toList=p.cps.toList++c::(Str.join ⟨#[c]⟩ (q::r)).cps.toList:=by
 show(p++⟨#[c]⟩++Str.join ⟨#[c]⟩ (q::r)).cps.toList=_;rw[jN,jN,j7];rfl
theorem QR:∀{ps j:Ls},ps≠[]->j≠[]->(∀p∈ps,c∉p.cps.toList)->(∀q∈j,c∉q.cps.toList)->Str.join ⟨#[c]⟩ ps=Str.join ⟨#[c]⟩ j->ps=j
 | [],_,h,_,_,_,_=>absurd rfl h
 | _::_,[],_,h,_,_,_=>absurd rfl h
 | [p],[q],_,_,_,_,e=>by
  have e:p=q:=e;rw[e]
 | [p],q::q'::r,_,_,hp,_,e=>by
  have e:=eZ (λx:Str=>x.cps.toList) e;have e:p.cps.toList=(Str.join ⟨#[c]⟩ (q::q'::r)).cps.toList:=e;rw[mL]at e;exact absurd (by rw[e];exact eX _ bL) (hp p bL)
 | p::p'::r,[q],_,_,_,hq,e=>by
  have e:=eZ (λx:Str=>x.cps.toList) e;have e:(Str.join ⟨#[c]⟩ (p::p'::r)).cps.toList=q.cps.toList:=e;rw[mL]at e;exact absurd (by rw[<-e];exact eX _ bL) (hq q bL)
 | p::p'::r,q::q'::t,_,_,hp,hq,e=>by
  have e:=eZ (λx:Str=>x.cps.toList) e;have e:(Str.join ⟨#[c]⟩ (p::p'::r)).cps.toList=(Str.join ⟨#[c]⟩ (q::q'::t)).cps.toList:=e;rw[mL,mL]at e;obtain⟨e1,e2⟩:=QQ (hp p bL) (hq q bL) e;rw[yX e1,QR (Ez _ _) (Ez _ _) (λz hz=>hp z (bT _ hz)) (λz hz=>hq z (bT _ hz)) (yX e2)]
theorem ai9(x y:Str):Txt.split x y≠[]:=λz=>by
 have:=split_pos x y;rw[z]at this;exact absurd this (by decide)
theorem Cb{ps:Ls}(ne:ps≠[])(h:∀p∈ps,c∉p.cps.toList):Txt.split (Str.join ⟨#[c]⟩ ps) ⟨#[c]⟩=ps:=
 QR (ai9 _ _) ne (StrLaws.split_free _ _) h (StrLaws.join_split _ _)
def yY(x y:Str):Bool:=!decide (y.cps.toList<x.cps.toList)
def rB(lo hi:Str)(c:Nat):Bool:=if yY lo (ri c)=true then yY (ri c) hi else false
theorem QS(a b:Nat):yY ⟨#[a]⟩ ⟨#[b]⟩=decide (a<=b):=by
 unfold yY;show(!decide ([b] < [a]))=_;rw[StrLaws.lt_cons_cons,StrLaws.lt_nil_nil,vg,sO]
 by_cases h:b<a
 . rw[bN h,cx (by omega)];rfl
 rw[cx h,bN (by omega)];rfl
theorem Cc(a b c:Nat):rB ⟨#[a]⟩ ⟨#[b]⟩ c=decide (a<=c/\c<=b):=by
 unfold rB ri;rw[QS,QS]
 by_cases h:a<=c
 . rw[bN h,ai rfl];exact xR.mpr ⟨λz=>⟨h,z⟩,λz=>z.2⟩
 rw[cx h,ag (by decide),cx (λz=>h z.1)]
theorem QT(x:Str)(c:Nat):Txt.startswith x ⟨#[c]⟩=decide (x.cps.toList[0]?=some c):=by
 unfold Txt.startswith;rw[xF,iP,xS,xS];exact StrLaws.subAt_one x c 0
def lL:Str:="\n"
def spS:Str:=" "
def lN:Str:="/"
def lO:Str:="."
def fj:Str:="<"
def fk:Str:=">"
def aS:Str:="a"
def zS:Str:="z"
def QU:Str:="~"
def Cd:Str:="0"
def QV:Str:="9"
def gr:Str:="in"
def fX:Str:="choose"
def d8:Str:=ayB
theorem GX:lL=⟨#[10]⟩:=by decide +kernel
theorem rC:spS=⟨#[32]⟩:=by decide +kernel
theorem Ce:lN=⟨#[47]⟩:=by decide +kernel
theorem QW:lO=⟨#[46]⟩:=by decide +kernel
theorem nW:fj=⟨#[60]⟩:=by decide +kernel
theorem pF:fk=⟨#[62]⟩:=by decide +kernel
theorem aja:aS=⟨#[97]⟩:=by decide +kernel
theorem ajb:zS=⟨#[122]⟩:=by decide +kernel
theorem ajc:QU=⟨#[126]⟩:=by decide +kernel
theorem GY:Cd=⟨#[48]⟩:=by decide +kernel
theorem QX:QV=⟨#[57]⟩:=by decide +kernel
theorem Cf:gr=⟨#[105,110]⟩:=by decide +kernel
theorem Cg:fX=⟨#[99,104,111,111,115,101]⟩:=by decide +kernel
theorem GZ:d8=⟨#[111,119,110]⟩:=by decide +kernel
def nX(x:Str):Bool:=decide (0<x.length/\x.length<=8) && x.cps.toList.all (rB aS zS)
def kH(x:Str):Bool:=decide ((Txt.split x lN).length<=4) && (Txt.split x lN).all nX
def QY(c:Nat):Bool:=rB spS QU c && decide (c≠37)
def G0(x:Str):Bool:=decide (x.length<=60) && x.cps.toList.all QY
def v8(x:Str):Bool:=x.cps.toList.all (rB Cd QV)
def v9(x:Str):Option Int:=if (decide (0<x.length/\x.length<=10) && v8 x)=true then(if (Txt.startswith x Cd && decide (x≠Cd))=true then none else if 1000000000<(NumText.digitsVal x.cps.toList:Int) then none else some (NumText.digitsVal x.cps.toList)) else none
def uq(x:Str):Bool:=decide ((Txt.split x lO).length<=3) && (Txt.split x lO).all λp=>(v9 p).isSome
def jO(j:Str):Bool:=
 if (Txt.startswith j fj || Txt.startswith j fk)=true then G0 (Txt.slice j (some 1) none) else
 match Txt.split j spS with
 | [w,p]=>decide (w=d8) && kH p
 | [w,n,x]=>!decide (w=d8) && nX n && (if w=gr then uq x else decide (w=fX) && nX x)
 | _=>false
theorem ajd(h:v8 x=true):NumText.AllDigits x.cps.toList:=λc j=>by
 have:=iQ.mp h c j;rw[GY,QX,Cc]at this;exact cH this
theorem aje(h:v8 x=true)(h1:0<x.length)(h2:x.length<=4300):PySem.intText? x=some ((NumText.digitsVal x.cps.toList:Nat):Int):=
 PySem.intText_digits (ajd h) (λz=>by
  have:x.cps.toList.length=x.length:=eJ;rw[z]at this;simp at this;omega) h2
inductive Row
 | les (x:Str)
 | mor (x:Str)
 | inn (n t:Str)
 | cho (c n:Str)
 | own (p:Str)
def im(j:Str):Row:=
 if Txt.startswith j fj=true then .les (Txt.slice j (some 1) none) else if Txt.startswith j fk=true then .mor (Txt.slice j (some 1) none) else
 if (Txt.split j spS).getD 0 Str.empty=gr then .inn ((Txt.split j spS).getD 1 Str.empty) ((Txt.split j spS).getD 2 Str.empty) else
 if (Txt.split j spS).getD 0 Str.empty=fX then .cho ((Txt.split j spS).getD 1 Str.empty) ((Txt.split j spS).getD 2 Str.empty) else .own ((Txt.split j spS).getD 1 Str.empty)
def rD(t:Str):List Int:=(Txt.split t lO).map λp=>((NumText.digitsVal p.cps.toList:Nat):Int)
structure Nt where
 ch:List (Str×List Int):=[]
 cs:List (Str×Str):=[]
 ow:List (Str×(Ls×Ls)):=[]
 ck:Option Str:=none
 b:Ls:=[]
 m:Ls:=[]
def iJ(ow:List (Str×(Ls×Ls)))(ck:Option Str)(r:Ls×Ls):List (Str×(Ls×Ls)):=
 match ck with
 | none=>ow
 | some p=>bw ow p r
def Nt.step(s:Nt)(j:Str):Nt:=
 match im j with
 | .les x=>{ s with ow:=iJ s.ow s.ck (s.b++[x],s.m),b:=s.b++[x] }
 | .mor x=>{ s with ow:=iJ s.ow s.ck (s.b,s.m++[x]),m:=s.m++[x] }
 | .inn n t=>{ s with ch:=bw s.ch n (rD t) }
 | .cho c n=>{ s with cs:=bw s.cs c n }
 | .own p=>{ s with ow:=bw s.ow p ([],[]),ck:=some p,b:=[],m:=[] }
def gF(rows:Ls):Nt:=rows.foldl Nt.step {}
def jf(n:Int):Str:=toString n
def jP(ms:List Int):Str:=Str.join lO (ms.map jf)
def iK(e:Str×List Int):Str:=Str.join spS [gr,e.1,jP e.2]
def io(e:Str×Str):Str:=Str.join spS [fX,e.1,e.2]
def eG(e:Str×(Ls×Ls)):Ls:=[Str.join spS [d8,e.1]]++e.2.1.map (fj ++ ·)++e.2.2.map (fk ++ ·)
def fY(ch:List (Str×List Int))(cs:List (Str×Str))(ow:List (Str×(Ls×Ls))):Ls:=ch.map iK++cs.map io++ow.flatMap eG
def rowsOf(t:Str):Ls:=if t=Str.empty then [] else Txt.split t lL
structure cR(x:Str):Prop where
 lo:1<=x.length
 hi:x.length<=8
 az:∀c∈x.cps.toList,97<=c/\c<=122
structure fm(x:Str):Prop where
 hi:x.length<=60
 sg:∀c∈x.cps.toList,32<=c/\c<=126/\c≠37
structure fZ(ms:List Int):Prop where
 lo:1<=ms.length
 hi:ms.length<=3
 rg:∀n∈ms,0<=n/\n<=1000000000
def cz(x:Str):Prop:=∃ps:Ls,x=Str.join lN ps/\1<=ps.length/\ps.length<=4/\∀p∈ps,cR p
theorem cR.name(h:cR x):nX x=true:=by
 unfold nX;rw[bN ⟨h.lo,h.hi⟩,xK,iQ];intro c j;rw[aja,ajb,Cc];exact bN (h.az c j)
theorem fm.line(h:fm x):G0 x=true:=by
 unfold G0;rw[bN h.hi,xK,iQ];intro c G;obtain⟨h1,h2,j⟩:=h.sg c G;unfold QY;rw[rC,ajc,Cc,bN ⟨h1,h2⟩,bN j];rfl
theorem QZ{l:List α}(h:1<=l.length):l≠[]:=λz=>by
 rw[z,kX]at h;omega
theorem cz.path(h:cz x):kH x=true:=by
 obtain⟨ps,rfl,h1,h2,G⟩:=h;have e:Txt.split (Str.join lN ps) lN=ps:=by
  rw[Ce];exact Cb (QZ h1) λp j J=>by have:=(G p j).az _ J;omega
 unfold kH;rw[e,bN h2,xK,iQ];exact λp j=>(G p j).name
theorem yZ:∀{ps:Ls}{d:Nat},d∈(Str.join ⟨#[c]⟩ ps).cps.toList->d=c\/∃p∈ps,d∈p.cps.toList
 | [],d,h=>by
  have h:d∈([]:List Nat):=h;cases h
 | [p],d,h=>.inr ⟨p,bL,h⟩
 | p::q::r,d,h=>by
  rw[mL]at h
  rcases bR.mp h with h | h
  . exact .inr ⟨p,bL,h⟩
  rcases aZ.mp h with h | h
  . exact .inl h
  rcases yZ h with h | ⟨z,hz,hd⟩
  . exact .inl h
  exact .inr ⟨z,bT _ hz,hd⟩
theorem cz.signs(h:cz x):∀c∈x.cps.toList,c=47\/(97<=c/\c<=122):=by
 obtain⟨ps,rfl,h1,h2,G⟩:=h;intro c j;rw[Ce]at j
 rcases yZ j with e | ⟨p,J,hd⟩
 . exact .inl e
 exact .inr ((G p J).az c hd)
theorem ajf:∀(m:Nat) (r:List Char),Nat.toDigits 10 m='0'::r->m=0:=by
 intro m
 induction m using Nat.strongRecOn with
 | _ m O=>
  intro r h
  by_cases j:m<10
  . rw[Nat.toDigits_of_lt_base j]at h;have h1:=(sY h).1;have:∀d:Nat,d<10->Nat.digitChar d='0'->d=0:=by decide
    exact this m j h1
  have G:m % 10<10:=Eu m (by decide);have t:Nat.toDigits 10 (m / 10)++Nat.toDigits 10 (m % 10)=Nat.toDigits 10 (10 * (m / 10)+m % 10):=Nat.toDigits_append_toDigits (by decide) (by omega) G;rw[Nat.div_add_mod,h]at t;cases hd:Nat.toDigits 10 (m / 10) with
  | nil=>
   have:=awF 10 (m / 10);rw[hd]at this;exact absurd this (by decide)
  | cons a U=>
   rw[hd]at t;have J:a='0':=(sY t).1;subst J;have:=O (m / 10) (by omega) U hd;omega
theorem y8(h0:0<=n):(jf n).cps.toList=(Nat.toDigits 10 n.toNat).map Char.toNat:=by
 obtain⟨m,rfl⟩:=Int.eq_ofNat_of_zero_le h0;exact W.KIN.signs_num m
theorem G1(h0:0<=n):NumText.AllDigits (jf n).cps.toList:=by
 intro c j;rw[y8 h0]at j;obtain⟨ch,G,e⟩:=cC.mp j;have r:=digit_range (Nat.isDigit_of_mem_toDigits (by decide) (by decide) G);rw[<-e];exact r
theorem ajg(h0:0<=n):v8 (jf n)=true:=by
 unfold v8;rw[iQ];intro c j;rw[GY,QX,Cc];exact bN (G1 h0 c j)
theorem Q0(h0:0<=n):((NumText.digitsVal (jf n).cps.toList:Nat):Int)=n:=by
 rw[y8 h0,W.KIN.val_back];omega
theorem Q1(h0:0<=n)(h1:n<=1000000000):1<=(jf n).length/\(jf n).length<=10:=by
 refine⟨?_,W.KT.len_num h0 (by omega)⟩;have e:(jf n).cps.toList.length=(jf n).length:=eJ;rw[<-e,y8 h0,aj];exact awF 10 _
theorem ajh(h0:0<=n)(h1:n<=1000000000):v9 (jf n)=some n:=by
 obtain⟨G,J⟩:=Q1 h0 h1;unfold v9;rw[bN ⟨G,J⟩,ajg h0,ai (by rfl),Q0 h0,ag (by omega:¬1000000000<n)];rw[ag];rw[GY,QT,iP,xS,xS,y8 h0];rintro⟨h,ne⟩;refine ne (yX ?_);rw[y8 h0];cases hd:Nat.toDigits 10 n.toNat with
 | nil=>rw[hd]at h;cases h
 | cons a r=>
  rw[hd]at h;have h:a.toNat=48:=gM h;have j:a='0':=by
   apply Char.ext;apply UInt32.toNat.inj;exact h
  rw[j]at hd;have e0:=ajf _ _ hd;rw[e0]at hd;have hd:['0']=a::r:=by rw[j];exact hd
  rw[<-hd];rfl
theorem fZ.split(h:fZ ms):Txt.split (jP ms) lO=ms.map jf:=by
 unfold jP;rw[QW];refine Cb (λz=>QZ h.lo (List.map_eq_nil_iff.mp z)) λp J j=>?_;obtain⟨n,G,rfl⟩:=cC.mp J;have:=G1 (h.rg n G).1 _ j;omega
theorem fZ.good(h:fZ ms):uq (jP ms)=true:=by
 unfold uq;rw[h.split,aj,bN h.hi,xK,iQ];intro p G;obtain⟨n,j,rfl⟩:=cC.mp G;rw[ajh (h.rg n j).1 (h.rg n j).2];rfl
theorem fZ.back(h:fZ ms):rD (jP ms)=ms:=by
 unfold rD;rw[h.split,mi];exact(ME λn j=>Q0 (h.rg n j).1).trans (List.map_id _)
theorem fZ.signs(h:fZ ms):∀c∈(jP ms).cps.toList,46<=c/\c<=57:=by
 intro c j;unfold jP at j;rw[QW]at j
 rcases yZ j with e | ⟨p,J,hd⟩
 . omega
 obtain⟨n,G,rfl⟩:=cC.mp J;have:=G1 (h.rg n G).1 c hd;omega
theorem G2(x:Str)(l u:Option Int):Txt.slice x l u=PySem.StrLaws.sliceText x l u:=rfl
theorem Ci(x:Str)(c:Nat):Txt.slice (⟨#[c]⟩++x) (some 1) none=x:=by
 apply yX;have e:(⟨#[c]⟩++x:Str).cps.toList=c::x.cps.toList:=by rw[jN];rfl
 have h:=PySem.StrLaws.sliceText_from (x:=⟨#[c]⟩++x) (i:=1) ⟨by decide,by rw[e,cT];omega⟩;rw[G2,h,e];show(List.take _ x.cps.toList)=x.cps.toList;refine X3 ?_;rw[cT];omega
theorem ur{r:List Nat}(e:x.cps.toList=d::r)(c:Nat):Txt.startswith x ⟨#[c]⟩=decide (d=c):=by
 rw[QT,e];exact xR.mpr ⟨λz=>gM z,λz=>by rw[z];rfl⟩
theorem Cj(x:Str):(fj++x).cps.toList=60::x.cps.toList:=by rw[nW,jN];rfl
theorem y9(x:Str):(fk++x).cps.toList=62::x.cps.toList:=by rw[pF,jN];rfl
theorem aji(h:fm x):jO (fj++x)=true:=by
 unfold jO;have e:Txt.startswith (fj++x) fj=true:=by
  have:=ur (Cj x) 60;rw[<-nW]at this;rw[this];rfl
 rw[e,XU,ai rfl]
 conv=>lhs;arg 1;rw[nW,Ci]
 exact h.line
theorem ajj(h:fm x):jO (fk++x)=true:=by
 unfold jO;have e:Txt.startswith (fk++x) fk=true:=by
  have:=ur (y9 x) 62;rw[<-pF]at this;rw[this];rfl
 rw[e,Bool.or_true,ai rfl]
 conv=>lhs;arg 1;rw[pF,Ci]
 exact h.line
theorem ajk(x:Str):im (fj++x)=.les x:=by
 unfold im;have e:Txt.startswith (fj++x) fj=true:=by
  have:=ur (Cj x) 60;rw[<-nW]at this;rw[this];rfl
 rw[ai e]
 congr 1
 rw[nW,Ci]
theorem ajl(x:Str):im (fk++x)=.mor x:=by
 unfold im;have e:Txt.startswith (fk++x) fk=true:=by
  have:=ur (y9 x) 62;rw[<-pF]at this;rw[this];rfl
 have e0:Txt.startswith (fk++x) fj=false:=by
  have:=ur (y9 x) 60;rw[<-nW]at this;rw[this];rfl
 rw[ag (by rw[e0];decide),ai e]
 congr 1
 rw[pF,Ci]
theorem za{w:Str}{r:List Nat}(G:w.cps.toList=d::r)(O:d≠60)(U:d≠62){j:Ls}(h:∀p∈w::j,32∉p.cps.toList):Txt.split (Str.join spS (w::j)) spS=w::j/\Txt.startswith (Str.join spS (w::j)) fj=false/\Txt.startswith (Str.join spS (w::j)) fk=false:=by
 have hd:∃J,(Str.join spS (w::j)).cps.toList=d::J:=by
  cases j with
  | nil=>exact⟨r,G⟩
  | cons v j=>rw[rC,mL,G];exact⟨_,rfl⟩
 obtain⟨J,e⟩:=hd;refine⟨?_,?_,?_⟩
 . rw[rC];exact Cb (Ez _ _) h
 . rw[nW,ur e 60];exact cx O
 rw[pF,ur e 62];exact cx U
theorem Ck{a b c:Str}(h1:32∉a.cps.toList)(h2:32∉b.cps.toList)(G:32∉c.cps.toList):∀p∈[a,b,c],32∉p.cps.toList:=by
 intro p j;simp only[aZ,fc,fe]at j
 rcases j with rfl | rfl | rfl<;>assumption
theorem cR.no(h:cR x)(j:c<97):c∉x.cps.toList:=λz=>by have:=h.az c z;omega
theorem G6(j:c<97):c∉gr.cps.toList:=by
 rw[Cf];intro z;have z:c∈[105,110]:=z;simp at z;omega
theorem G7(j:c<97):c∉fX.cps.toList:=by
 rw[Cg];intro z;have z:c∈[99,104,111,111,115,101]:=z;simp at z;omega
theorem Q2(j:c<97):c∉d8.cps.toList:=by
 rw[GZ];intro z;have z:c∈[111,119,110]:=z;simp at z;omega
theorem fZ.no(h:fZ ms)(j:c<46):c∉(jP ms).cps.toList:=λz=>by have:=h.signs c z;omega
theorem cz.no(h:cz x)(j:c<47):c∉x.cps.toList:=λz=>by have:=h.signs c z;omega
theorem ajn:gr≠d8:=by decide +kernel
theorem ajo:fX≠d8:=by decide +kernel
theorem Cm:fX≠gr:=by decide +kernel
theorem G8:d8≠gr:=by decide +kernel
theorem G9:d8≠fX:=by decide +kernel
theorem ajp{e:Str×List Int}(h1:cR e.1)(h2:fZ e.2):jO (iK e)=true:=by
 obtain⟨a,b,c⟩:=za (w:=gr) (d:=105) (r:=[110]) (by rw[Cf]) (by decide) (by decide) (Ck (G6 (by decide)) (h1.no (by decide)) (h2.no (by decide)));unfold jO iK;rw[b,c,sO,ag (by decide),a];dsimp only;rw[cx ajn,h1.name,ai rfl,h2.good];rfl
theorem ajq{e:Str×List Int}(h1:cR e.1)(h2:fZ e.2):im (iK e)=.inn e.1 (jP e.2):=by
 obtain⟨a,b,c⟩:=za (w:=gr) (d:=105) (r:=[110]) (by rw[Cf]) (by decide) (by decide) (Ck (G6 (by decide)) (h1.no (by decide)) (h2.no (by decide)));unfold im iK;rw[b,c,a,ag (by decide),ag (by decide)];rfl
theorem ajr{e:Str×Str}(h1:cR e.1)(h2:cR e.2):jO (io e)=true:=by
 obtain⟨a,b,c⟩:=za (w:=fX) (d:=99) (r:=[104,111,111,115,101]) (by rw[Cg]) (by decide) (by decide) (Ck (G7 (by decide)) (h1.no (by decide)) (h2.no (by decide)));unfold jO io;rw[b,c,sO,ag (by decide),a];dsimp only;rw[cx ajo,h1.name,ag Cm,bN rfl,h2.name];rfl
theorem ajs{e:Str×Str}(h1:cR e.1)(h2:cR e.2):im (io e)=.cho e.1 e.2:=by
 obtain⟨a,b,c⟩:=za (w:=fX) (d:=99) (r:=[104,111,111,115,101]) (by rw[Cg]) (by decide) (by decide) (Ck (G7 (by decide)) (h1.no (by decide)) (h2.no (by decide)));unfold im io;rw[b,c,a,ag (by decide),ag (by decide)];rw[ag (show ¬[fX,e.1,e.2].getD 0 Str.empty=gr from Cm),ai (show [fX,e.1,e.2].getD 0 Str.empty=fX from rfl)];rfl
theorem Q3{p:Str}(h:cz p):Txt.split (Str.join spS [d8,p]) spS=[d8,p]/\Txt.startswith (Str.join spS [d8,p]) fj=false/\Txt.startswith (Str.join spS [d8,p]) fk=false:=
 za (w:=d8) (d:=111) (r:=[119,110]) (by rw[GZ]) (by decide) (by decide) λq j=>by
  simp only[aZ,fc,fe]at j
  rcases j with rfl | rfl
  . exact Q2 (by decide)
  exact h.no (by decide)
theorem ajt{p:Str}(h:cz p):jO (Str.join spS [d8,p])=true:=by
 obtain⟨a,b,c⟩:=Q3 h;unfold jO;rw[b,c,sO,ag (by decide),a];dsimp only;rw[bN rfl,h.path];rfl
theorem aju{p:Str}(h:cz p):im (Str.join spS [d8,p])=.own p:=by
 obtain⟨a,b,c⟩:=Q3 h;unfold im;rw[b,c,a,ag (by decide),ag (by decide)];rw[ag (show ¬[d8,p].getD 0 Str.empty=gr from G8),ag (show ¬[d8,p].getD 0 Str.empty=fX from G9)];rfl
structure wa(ch:List (Str×List Int))(cs:List (Str×Str))(ow:List (Str×(Ls×Ls))):Prop where
 ch:∀e∈ch,cR e.1/\fZ e.2
 cs:∀e∈cs,cR e.1/\cR e.2
 ow:∀e∈ow,cz e.1/\(∀x∈e.2.1,fm x)/\∀x∈e.2.2,fm x
theorem Hd{ch:List (Str×List Int)}{cs:List (Str×Str)}{ow:List (Str×(Ls×Ls))}(ok:wa ch cs ow){r:Str}(h:r∈fY ch cs ow) :
 (∃e:Str×List Int,cR e.1/\fZ e.2/\r=iK e)\/(∃e:Str×Str,cR e.1/\cR e.2/\r=io e)\/(∃p,cz p/\r=Str.join spS [d8,p])\/(∃x,fm x/\r=fj++x)\/∃x,fm x/\r=fk++x:=by
 unfold fY at h
 rcases bR.mp h with h | h
 . rcases bR.mp h with h | h
   . obtain⟨e,j,rfl⟩:=cC.mp h;exact .inl ⟨e,(ok.ch e j).1,(ok.ch e j).2,rfl⟩
   obtain⟨e,j,rfl⟩:=cC.mp h;exact .inr (.inl ⟨e,(ok.cs e j).1,(ok.cs e j).2,rfl⟩)
 obtain⟨e,j,hr⟩:=qD.mp h;obtain⟨h1,h2,J⟩:=ok.ow e j;unfold eG at hr
 rcases bR.mp hr with hr | hr
 . rcases bR.mp hr with hr | hr
   . exact .inr (.inr (.inl ⟨e.1,h1,bD.mp hr⟩))
   obtain⟨x,G,rfl⟩:=cC.mp hr;exact .inr (.inr (.inr (.inl ⟨x,h2 x G,rfl⟩)))
 obtain⟨x,G,rfl⟩:=cC.mp hr;exact .inr (.inr (.inr (.inr ⟨x,J x G,rfl⟩)))
theorem ajv{ch:List (Str×List Int)}{cs:List (Str×Str)}{ow:List (Str×(Ls×Ls))}(ok:wa ch cs ow):∀r∈fY ch cs ow,jO r=true:=λr h=>by
 rcases Hd ok h with⟨e,a,b,rfl⟩ | ⟨e,a,b,rfl⟩ | ⟨p,a,rfl⟩ | ⟨x,a,rfl⟩ | ⟨x,a,rfl⟩
 . exact ajp a b
 . exact ajr a b
 . exact ajt a
 . exact aji a
 exact ajj a
theorem Q4{a b c:Str}(h:d∈(Str.join spS [a,b,c]).cps.toList):d=32\/d∈a.cps.toList\/d∈b.cps.toList\/d∈c.cps.toList:=by
 rw[rC]at h
 rcases yZ h with e | ⟨p,j,hd⟩
 . exact .inl e
 simp only[aZ,fc,fe]at j
 rcases j with rfl | rfl | rfl
 . exact .inr (.inl hd)
 . exact .inr (.inr (.inl hd))
 exact .inr (.inr (.inr hd))
theorem He{ch:List (Str×List Int)}{cs:List (Str×Str)}{ow:List (Str×(Ls×Ls))}(ok:wa ch cs ow):∀r∈fY ch cs ow,10∉r.cps.toList/\r≠Str.empty:=λr h=>by
 rcases Hd ok h with⟨e,a,b,rfl⟩ | ⟨e,a,b,rfl⟩ | ⟨p,a,rfl⟩ | ⟨x,a,rfl⟩ | ⟨x,a,rfl⟩
 . refine⟨λz=>?_,λz=>?_⟩
   . rcases Q4 z with z | z | z | z
     . omega
     . exact G6 (by decide) z
     . exact a.no (by decide) z
     exact b.no (by decide) z
   have z:(iK e).cps.toList=[]:=by rw[z];rfl
   unfold iK at z;rw[rC,mL,Cf]at z;cases z
 . refine⟨λz=>?_,λz=>?_⟩
   . rcases Q4 z with z | z | z | z
     . omega
     . exact G7 (by decide) z
     . exact a.no (by decide) z
     exact b.no (by decide) z
   have z:(io e).cps.toList=[]:=by rw[z];rfl
   unfold io at z;rw[rC,mL,Cg]at z;cases z
 . refine⟨λz=>?_,λz=>?_⟩
   . rw[rC]at z
     rcases yZ z with z | ⟨q,j,hd⟩
     . omega
     simp only[aZ,fc,fe]at j
     rcases j with rfl | rfl
     . exact Q2 (by decide) hd
     exact a.no (by decide) hd
   have z:(Str.join spS [d8,p]).cps.toList=[]:=by rw[z];rfl
   rw[rC,mL,GZ]at z;cases z
 . refine⟨λz=>?_,λz=>?_⟩
   . rw[Cj]at z
     rcases aZ.mp z with z | z
     . omega
     have:=a.sg _ z;omega
   have z:(fj++x).cps.toList=[]:=by rw[z];rfl
   rw[Cj]at z;cases z
 refine⟨λz=>?_,λz=>?_⟩
 . rw[y9]at z
   rcases aZ.mp z with z | z
   . omega
   have:=a.sg _ z;omega
 have z:(fk++x).cps.toList=[]:=by rw[z];rfl
 rw[y9]at z;cases z
theorem Hf{rows:Ls}(h:∀r∈rows,10∉r.cps.toList/\r≠Str.empty):rowsOf (Str.join lL rows)=rows:=by
 unfold rowsOf;cases rows with
 | nil=>exact ai rfl
 | cons r j=>
  have ne:Str.join lL (r::j)≠Str.empty:=λz=>by
   have J:=(h r bL).2;have z:(Str.join lL (r::j)).cps.toList=[]:=by rw[z];rfl
   cases j with
   | nil=>exact J (yX (by rw[show r.cps.toList=[] from z];rfl))
   | cons q O=>
    rw[GX,mL]at z;have:=eZ List.length z;rw[bI,cT]at this;simp at this
  rw[ag ne,GX];exact Cb (Ez _ _) λp G=>(h p G).1
theorem zc{tr:List (Str×β)}{y:β}(h:x∉tr.map (·.1)):bw tr x y=tr++[(x,y)]:=by
 unfold bw;rw[ag (λz=>h (rq.mp z))]
theorem Q5{tr:List (Str×β)}{y z:β}(h:x∉tr.map (·.1)):bw (tr++[(x,y)]) x z=tr++[(x,z)]:=by
 unfold bw;rw[ai (rq.mpr (by rw[dP];exact eX _ bL)),dP]
 congr 1
 . refine(ME λf j=>?_).trans (List.map_id _);rw[ag (λe:f.1=x=>h (by rw[<-e];exact ge j))];rfl
 show [if x=x then(x,z) else(x,y)]=_;rw[ai rfl]
theorem Q6:∀(es:List (Str×List Int)) (s:Nt),(∀e∈es,cR e.1/\fZ e.2)->((s.ch++es).map (·.1)).Nodup->(es.map iK).foldl Nt.step s={ s with ch:=s.ch++es }
 | [],s,_,_=>by rw[jX];rfl
 | e::es,s,ok,nd=>by
  have h1:=ok e bL;have e1:Nt.step s (iK e)={ s with ch:=s.ch++[e] }:=by
   unfold Nt.step;rw[ajq h1.1 h1.2];dsimp only;rw[h1.2.back,zc];rw[dP,bV]at nd;intro z;exact(qz.mp nd).2.2 _ z _ bL rfl
  rw[bV,j6,e1];have e2:=Q6 es { s with ch:=s.ch++[e] } (λx j=>ok x (bT _ j)) (by show(((s.ch++[e])++es).map (·.1)).Nodup;rw[j7];exact nd);rw[e2];show { s with ch:=s.ch++[e]++es } = _;rw[j7];rfl
theorem Q7:∀(es:List (Str×Str)) (s:Nt),(∀e∈es,cR e.1/\cR e.2)->((s.cs++es).map (·.1)).Nodup->(es.map io).foldl Nt.step s={ s with cs:=s.cs++es }
 | [],s,_,_=>by rw[jX];rfl
 | e::es,s,ok,nd=>by
  have h1:=ok e bL;have e1:Nt.step s (io e)={ s with cs:=s.cs++[e] }:=by
   unfold Nt.step;rw[ajs h1.1 h1.2];dsimp only;rw[zc];rw[dP,bV]at nd;intro z;exact(qz.mp nd).2.2 _ z _ bL rfl
  rw[bV,j6,e1];have e2:=Q7 es { s with cs:=s.cs++[e] } (λx j=>ok x (bT _ j)) (by show(((s.cs++[e])++es).map (·.1)).Nodup;rw[j7];exact nd);rw[e2];show { s with cs:=s.cs++[e]++es } = _;rw[j7];rfl
theorem Q8(p:Str)(tr:List (Str×(Ls×Ls)))(h:p∉tr.map (·.1))(m:Ls):∀(xs b:Ls) (s:Nt),(xs.map (fj ++ ·)).foldl Nt.step { s with ow:=tr++[(p,(b,m))],ck:=some p,b:=b,m:=m } = { s with ow:=tr++[(p,(b++xs,m))],ck:=some p,b:=b++xs,m:=m }
 | [],b,s=>by rw[jX];rfl
 | x::xs,b,s=>by
  have e1:Nt.step { s with ow:=tr++[(p,(b,m))],ck:=some p,b:=b,m:=m } (fj++x)={ s with ow:=tr++[(p,(b++[x],m))],ck:=some p,b:=b++[x],m:=m }:=by
   unfold Nt.step;rw[ajk];dsimp only[iJ];rw[Q5 h]
  rw[bV,j6,e1,Q8 p tr h m xs (b++[x]) s,j7];rfl
theorem Q9(p:Str)(tr:List (Str×(Ls×Ls)))(h:p∉tr.map (·.1))(b:Ls):∀(xs m:Ls) (s:Nt),(xs.map (fk ++ ·)).foldl Nt.step { s with ow:=tr++[(p,(b,m))],ck:=some p,b:=b,m:=m } = { s with ow:=tr++[(p,(b,m++xs))],ck:=some p,b:=b,m:=m++xs }
 | [],m,s=>by rw[jX];rfl
 | x::xs,m,s=>by
  have e1:Nt.step { s with ow:=tr++[(p,(b,m))],ck:=some p,b:=b,m:=m } (fk++x)={ s with ow:=tr++[(p,(b,m++[x]))],ck:=some p,b:=b,m:=m++[x] }:=by
   unfold Nt.step;rw[ajl];dsimp only[iJ];rw[Q5 h]
  rw[bV,j6,e1,Q9 p tr h b xs (m++[x]) s,j7];rfl
theorem Ra:∀(es:List (Str×(Ls×Ls))) (s:Nt),(∀e∈es,cz e.1)->((s.ow++es).map (·.1)).Nodup->∃ck b m,(es.flatMap eG).foldl Nt.step s={ s with ow:=s.ow++es,ck:=ck,b:=b,m:=m }
 | [],s,_,_=>⟨s.ck,s.b,s.m,by rw[jX];rfl⟩
 | e::es,s,ok,nd=>by
  obtain⟨p,b,m⟩:=e;have h1:cz p:=ok _ bL;have j:p∉s.ow.map (·.1):=λz=>by
   rw[dP,bV]at nd;exact(qz.mp nd).2.2 _ z _ bL rfl
  have e1:(eG (p,(b,m))).foldl Nt.step s={ s with ow:=s.ow++[(p,(b,m))],ck:=some p,b:=b,m:=m }:=by
   unfold eG;rw[qE,qE];have e0:[Str.join spS [d8,p]].foldl Nt.step s={ s with ow:=s.ow++[(p,([],[]))],ck:=some p,b:=[],m:=[] }:=by
    show Nt.step s (Str.join spS [d8,p])=_;unfold Nt.step;rw[aju h1];dsimp only;rw[zc j]
   rw[e0,Q8 p s.ow j [] b [] s,Q9 p s.ow j _ m [] s];rfl
  rw[xT,qE,e1];obtain⟨ck,b',m',e2⟩:=Ra es { s with ow:=s.ow++[(p,(b,m))],ck:=some p,b:=b,m:=m } (λx G=>ok x (bT _ G)) (by show(((s.ow++[(p,(b,m))])++es).map (·.1)).Nodup;rw[j7];exact nd);refine⟨ck,b',m',?_⟩;rw[e2];show { s with ow:=s.ow++[(p,(b,m))]++es,ck:=ck,b:=b',m:=m' } = _;rw[j7];rfl
theorem Hg{ch:List (Str×List Int)}{cs:List (Str×Str)}{ow:List (Str×(Ls×Ls))}(ok:wa ch cs ow)(n1:(ch.map (·.1)).Nodup)(n2:(cs.map (·.1)).Nodup)(n3:(ow.map (·.1)).Nodup):∃ck b m,gF (fY ch cs ow)=⟨ch,cs,ow,ck,b,m⟩:=by
 unfold gF fY;rw[qE,qE,Q6 ch {} ok.ch n1];show∃ck b m,List.foldl Nt.step (List.foldl Nt.step ({ ch:=ch }:Nt) (List.map io cs)) (List.flatMap eG ow)=_;rw[Q7 cs { ch:=ch } ok.cs n2];exact Ra ow { ch:=ch,cs:=cs } (λe j=>(ok.ow e j).1) n3
theorem Hh{f:α->β}{ks ls:List β}(p:ks.Perm ls):∀{l:List α},ls=l.map f->∃j:List α,j.Perm l/\j.map f=ks:=by
 induction p with
 | nil=>
  intro l e;cases l with
  | nil=>exact⟨[],.nil,rfl⟩
  | cons a l=>cases e
 | cons x p Y=>
  intro l e;cases l with
  | nil=>cases e
  | cons a l=>
   rw[bV]at e;obtain⟨e1,e2⟩:=sY e;obtain⟨j,h1,h2⟩:=Y e2;exact⟨a::j,h1.cons a,by rw[bV,h2,e1]⟩
 | swap x y r=>
  intro l e;cases l with
  | nil=>cases e
  | cons a l=>
   cases l with
   | nil=>cases e
   | cons b l=>
    rw[bV,bV]at e;obtain⟨e1,e2⟩:=sY e;obtain⟨e2,e3⟩:=sY e2;exact⟨b::a::l,.swap a b l,by rw[bV,bV,<-e1,<-e2,<-e3]⟩
 | trans p q G J=>
  intro l e;obtain⟨l1,h1,h2⟩:=J e;obtain⟨l2,O,U⟩:=G h2.symm;exact⟨l2,O.trans h1,U⟩
structure cS(a b:List (Str×β)):Prop where
 pm:b.Perm a
 so:sortedS (b.map (·.1))=true
theorem cS.eq{a b c:List (Str×β)}(nd:(a.map (·.1)).Nodup)(h1:cS a b)(h2:cS a c):b=c:=by
 have pm:b.Perm c:=h1.pm.trans h2.pm.symm;have e:b.map (·.1)=c.map (·.1):=ai8 (pm.map _) h1.so h2.so;have Y:(b.map (·.1)).Nodup:=(h1.pm.map _).nodup_iff.mpr nd;have J:=pm.length_eq;refine List.ext_getElem J λi hi j=>?_;have O:b[i]∈c:=pm.mem_iff.mp (Ev hi);have e1:b[i].1=c[i].1:=by
  have:(b.map (·.1))[i]?=(c.map (·.1))[i]?:=by rw[e]
  rw[dN,dN,hX hi,hX j]at this;exact gM this
 have G:c[i]∈c:=Ev j;have U:(c.map (·.1)).Nodup:=by rw[<-e];exact Y
 have:b[i].2=c[i].2:=kG U (x:=b[i].1) O (by rw[e1];exact G);exact Prod.ext e1 this
theorem cS.self{a b:List (Str×β)}(h:cS a b):cS b b:=⟨.refl _,h.so⟩
end K71
namespace L2
structure Fd(K:Fg)(mg:Mv)(x:Str)(st:Stmt)(ps:Ls):Type where
 f:Addr
 fd:Fy
 u:cq K x x st f fd
 m:mg x=some (.ref f)
 b:Binds K fd ps []
structure gU(K:Fg)(x q:Str)(st:Stmt)(ps:Ls):Type where
 f:Addr
 fd:Fy
 u:cq K x q st f fd
 b:Binds K fd ps []
section
variable {X:Cx}{k k':Nat}{ps:Ls}{sp:Sp}{x:Str}{st:Stmt}{p pos:Pos}{e:Expr}{es:List Expr}{t:TA}{CX:ie}{E:XK}
theorem up{P:Program}{w:World}{K:Fg}{mg:Mv}{base:Heap}{CX:ie}{j k:Nat}{ps:Ls}{sp:Sp}(F:aA P w K mg base CX j f fd ps sp)(h:j<=k:=by decide):aA P w K mg base CX k f fd ps sp:=F.mono h
theorem aF{d:Fd X.K X.mg x st ps}(G:aA X.prog X.w X.K X.mg X.base aJ k d.f d.fd ps sp)(hr:ci k' X.A)(U:Gl X x)(J:PA X (e::es) t)(Y:k<=k':=by decide)(ix:(x == ("__debug__":Str))=false:=by decide)(O:starEach (e::es) X.env=(false,eval e X.env)::starEach es X.env:=by rfl)(j:(backTo pos (starEach es X.env)).any (·.1)=false:=by rfl) :
 PE X (.Call (.Name x p) (e::es) [] pos) (E8 sp [] E0 t):=NM (G.mono Y) hr U d.m d.u.kp d.b .nil dv J ix O j
theorem Rc{d:Fd X.K X.mg x st ps}(G:aA X.prog X.w X.K X.mg X.base CX k d.f d.fd ps sp)(hr:ci k' X.A)(U:Gl X x)(hx:mx CX X E)(J:PA X (e::es) t)(Y:k<=k':=by decide)(ix:(x == ("__debug__":Str))=false:=by decide)(O:starEach (e::es) X.env=(false,eval e X.env)::starEach es X.env:=by rfl)(j:(backTo pos (starEach es X.env)).any (·.1)=false:=by rfl) :
 PE X (.Call (.Name x p) (e::es) [] pos) (E8 sp [] E t):=NM (G.mono Y) hr U d.m d.u.kp d.b .nil hx J ix O j
end
end L2
namespace K71
open L2
structure Hm(mg:Mv):Prop where
 let8:∃t,mg "MOST_LETTERS"=some (.int 8 t)
 pw4:∃t,mg "MOST_PATH_WORDS"=some (.int 4 t)
def aU(i:Nat):Stmt:=PySem.Challenge.pw_parcelmend_k71_edits.main.body.getD i (.Pass ⟨0,0,0,0⟩)
abbrev ut:Stmt:=gP (aU 27) 0
abbrev wb:Stmt:=gP (aU 28) 0
abbrev wc:Stmt:=gP (aU 28) 3
abbrev we:Stmt:=gP (aU 39) 0
abbrev wf:Stmt:=gP (aU 70) 0
abbrev wg:Stmt:=gP (aU 70) 1
abbrev wj:Stmt:=gP (aU 70) 2
abbrev wk:Stmt:=gP (aU 70) 3
abbrev wm:Stmt:=gP (aU 70) 4
abbrev wn:Stmt:=gP (aU 70) 5
abbrev zd:Stmt:=gP (aU 70) 6
abbrev wo:Stmt:=gP (aU 70) 7
abbrev Hn:Stmt:=aU 2
abbrev Ho:Stmt:=aU 3
abbrev Hq:Stmt:=aU 4
abbrev Hr:Stmt:=aU 5
abbrev Hs:Stmt:=aU 6
abbrev Ht:Stmt:=aU 7
abbrev Hu:Stmt:=aU 8
abbrev Hv:Stmt:=aU 19
abbrev Hw:Stmt:=aU 22
abbrev Hy:Stmt:=aU 24
abbrev Hz:Stmt:=aU 30
abbrev HA:Stmt:=aU 31
abbrev HB:Stmt:=aU 32
abbrev HC:Stmt:=aU 34
abbrev HD:Stmt:=aU 35
abbrev HE:Stmt:=aU 36
abbrev HF:Stmt:=aU 37
abbrev HG:Stmt:=aU 40
abbrev zf:Stmt:=aU 41
abbrev HH:Stmt:=aU 42
abbrev HI:Stmt:=aU 43
abbrev HJ:Stmt:=aU 44
abbrev wp:Stmt:=aU 45
abbrev HK:Stmt:=aU 47
abbrev HL:Stmt:=aU 48
abbrev HM:Stmt:=aU 49
abbrev HN:Stmt:=aU 50
abbrev HP:Stmt:=aU 52
abbrev HQ:Stmt:=aU 53
abbrev HR:Stmt:=aU 54
abbrev HS:Stmt:=aU 55
abbrev Cn:Stmt:=aU 57
abbrev HU:Stmt:=aU 58
abbrev HV:Stmt:=aU 59
abbrev HX:Stmt:=aU 60
abbrev HY:Stmt:=aU 61
abbrev HZ:Stmt:=aU 62
abbrev Ia:Stmt:=aU 63
abbrev Ib:Stmt:=aU 72
abbrev Ic:Stmt:=aU 73
abbrev Ie:Stmt:=aU 74
abbrev Ig:Stmt:=aU 75
abbrev Ih:Stmt:=aU 76
abbrev Ii:Stmt:=aU 77
abbrev Ij:Stmt:=aU 78
abbrev zi:Stmt:=aU 79
abbrev Ik:Stmt:=aU 80
abbrev Il:Stmt:=aU 81
abbrev Im:Stmt:=aU 20
abbrev Io:Stmt:=aU 21
abbrev Iq:Stmt:=aU 66
abbrev Ir:Stmt:=aU 68
abbrev Iu:Stmt:=aU 82
abbrev Iw:Stmt:=aU 83
abbrev Ix:Stmt:=aU 84
abbrev Co:Stmt:=aU 85
abbrev Cp:Stmt:=aU 86
abbrev uu:Stmt:=aU 87
abbrev wq:Stmt:=gP (aU 65) 0
abbrev wt:Stmt:=gP (aU 65) 1
abbrev wu:Stmt:=gP (aU 65) 2
abbrev wv:Stmt:=gP (aU 65) 5
abbrev ww:Stmt:=gP (aU 65) 6
abbrev wx:Stmt:=gP (aU 65) 8
abbrev wy:Stmt:=gP (aU 65) 9
structure Iy(mg:Mv):Prop where
 range:mg "range"=none
 len:mg "len"=none
 min:mg "min"=none
 list:mg "list"=none
 dict:mg "dict"=none
 set:mg "set"=none
 sorted:mg "sorted"=none
 isinstance:mg "isinstance"=none
 str:mg "str"=none
 tuple:mg "tuple"=none
 all:mg "all"=none
 enumerate:mg "enumerate"=none
 int:mg "int"=none
structure Txt(K:Fg)(mg:Mv)(C:Addr):Prop where
 cl:iV K C
 nN:fQ K C ayj
 nM:fQ K C ayn
 nR:fQ K C ayy
 nF:fQ K C ayo
 nE:fQ K C ayF
 nS:fQ K C ayM
 nO:fQ K C ayW
 mgC:mg "Parcel"=some (.ref C)
structure Rf(K:Fg)(mg:Mv)(S fP:Addr):Prop where
 cl:iV K S
 nS:fQ K S ay7
 mP:ic K S ayf fP
 mgC:mg "Shelf"=some (.ref S)
structure Rg(K:Fg)(mg:Mv)(T:Addr):Prop where
 cl:iV K T
 nC:fQ K T ayh
 nH:fQ K T ayr
 nO:fQ K T ayB
 mgC:mg "Stand"=some (.ref T)
structure Rh(K:Fg)(mg:Mv)(C wz wA wB wC wD wE wF:Addr):Prop where
 cl:iV K C
 nF:fQ K C ayo
 nB:fQ K C "book"
 nL:fQ K C "left"
 mFNo:ic K C "files_now" wz
 mBNo:ic K C "book_now" wA
 mDPt:ic K C "put" wB
 mDEr:ic K C "erase" wC
 mDNt:ic K C "note" wD
 mDAl:ic K C "allow" wE
 mDTk:ic K C "take_write" wF
 mgC:mg "Disk"=some (.ref C)
structure Ri(K:Fg)(mg:Mv)(Hc fUp fSt fSK fGo fEd fFg:Addr):Prop where
 cl:iV K Hc
 nS:fQ K Hc ayd
 nD:fQ K Hc ayl
 mUp:ic K Hc "up" fUp
 mSt:ic K Hc ayA fSt
 mSK:ic K Hc "stand_kept" fSK
 mGo:ic K Hc "go_to" fGo
 mEd:ic K Hc "edit" fEd
 mFg:ic K Hc "forget" fFg
 mgC:mg "House"=some (.ref Hc)
structure Rj(K:Fg)(mg:Mv)(M Fa NP NN NU:Addr):Prop where
 xc:uc K NP
 mM:mg "MendError"=some (.ref M)
 mF:mg "Fallen"=some (.ref Fa)
 mP:mg "NoPath"=some (.ref NP)
 mN:mg "NoName"=some (.ref NN)
 mU:mg "NotUp"=some (.ref NU)
 kP:W.kitOne K (.ref NP) (.ref NP)=some true
 kA:W.kitAny K (.ref NP) [.ref Fa,.ref NN,.ref NU]=some false
 ex:W.exmOne K (.ref NP) (.ref M)=some true
structure wG(K:Fg)(x a_:Str)(st:Stmt)(f c:Addr)(fd:Fy):Prop where
 ex:∃(oc:Value) (od:Oa) (kV doc pm:Value) (an:Oa) (ct:Value) (iX:Array (Option Value)),fd=W.fnOf x a_ (dq st) (cM st) (au st) .none kV doc pm an (.ref c) ct /\
  K.lookup f=some ⟨oc,od,.func (W.fnOf x a_ (dq st) (cM st) (au st) .none kV doc pm an (.ref c) ct),iX⟩/\W.codeIn K (.ref c) a_=true
 kp:W.keepIn K (.ref f)=true
structure Pg(K:Fg)(mg:Mv)(base:Heap)(Pt:Addr):Type where
 B:Iy mg
 K0:Hm mg
 C:Addr
 S:Addr
 T:Addr
 D:Addr
 Hc:Addr
 TIn:gU K "__init__" "Stand.__init__" we [aya,ayh,ayr,ayB]
 PIn:gU K "__init__" "Parcel.__init__" ut [aya,ayj,ayn,ayy,ayo,ayF,ayM,ayW]
 SIn:gU K "__init__" "Shelf.__init__" wb [aya,ayg]
 SPa:gU K ayf "Shelf.parcel" wc [aya,ayj,ayn]
 DTk:gU K "take_write" "Disk.take_write" wo [aya]
 DIn:gU K "__init__" "Disk.__init__" wf [aya]
 DPt:gU K "put" "Disk.put" wk [aya,aye,ayu]
 DEr:gU K "erase" "Disk.erase" wm [aya,aye]
 DNt:gU K "note" "Disk.note" wn [aya,ay0,ayq]
 FNo:gU K "files_now" "Disk.files_now" wg [aya]
 BNo:gU K "book_now" "Disk.book_now" wj [aya]
 HIn:gU K "__init__" "House.__init__" wq [aya,ayd,ayl]
 HUp:gU K "up" "House.up" wt [aya]
 HSt:gU K ayA "House.stand" wu [aya]
 HSK:gU K "stand_kept" "House.stand_kept" wv [aya]
 HGo:gU K "go_to" "House.go_to" ww [aya,ayh,ayr,ayB]
 HFg:gU K "forget" "House.forget" wy [aya,aye]
 HEd:gU K "edit" "House.edit" wx [aya,aye,ayu]
 DAl:gU K "allow" "Disk.allow" zd [aya,"many"]
 TC:Txt K mg C
 US:Rf K mg S SPa.f
 UT:Rg K mg T
 UD:Rh K mg D FNo.f BNo.f DPt.f DEr.f DNt.f DAl.f DTk.f
 UH:Ri K mg Hc HUp.f HSt.f HSK.f HGo.f HEd.f HFg.f
 MPIn:Mk K C PIn.f
 MSIn:Mk K S SIn.f
 MTIn:Mk K T TIn.f
 MDIn:Mk K D DIn.f
 MHIn:Mk K Hc HIn.f
 Mix:Fd K mg "_law_mixed" Ic [ayb,ayv]
 Cel:Fd K mg "_law_cell_at" Ib [ayk,ayv]
 Nam:Fd K mg "_law_name" Ie [ayb,ay2]
 Lin:Fd K mg "_law_line" Ig [ayc]
 Lis:Fd K mg "_law_lines" Ih [ayc]
 Pat:Fd K mg "_law_path" Ii [ayc]
 Mak:Fd K mg "_law_make" Ij [ayc]
 RwO:Fd K mg "rows_of" Hv [ayq]
 MkS:Fd K mg "make_shown" Hw [ayn]
 CCo:Fd K mg "changes_copied" HG [ayB]
 ChR:Fd K mg "change_rows" HL [aye,ayG]
 Sho:Fd K mg "stand_shown" HK [ayA]
 MkN:Fd K mg "make_noted" HN [ayq]
 Not:Fd K mg "stand_noted" HM [ayq]
 PsO:Fd K mg "parcels_of" Hz [ayd,ayh]
 Bro:Fd K mg "brought_by" HH [ayg]
 Cho:Fd K mg "_law_chosen" Ik [ayp,aym,ayb]
 PAp:Fd K mg ayU zi [ayk,aym,ay3]
 Com:Fd K mg "commons_of" HJ [ayg]
 KUn:Fd K mg "keys_unlike" Hy [ayI,ayH]
 Tur:Fd K mg "turn_to" Cn [ayl,ayO]
 Ali:Fd K mg "alike_ahead" Ho [ayu,ay4]
 Blk:Fd K mg "block_of" Hn [ayP,ayx]
 IsA:Fd K mg "is_ahead" Hq [ayJ,ayx]
 Tak:Fd K mg "takes_none" Hr [ayJ]
 Apa:Fd K mg "are_apart" Hs [ayJ,ayx]
 Bot:Fd K mg "with_both" Ht [ayP,ayI,ayH]
 Put:Fd K mg "put_together" Hu [ayP,ayB,"new"]
 FoC:Fd K mg "files_of_change" HI [aye,ayG,ayT]
 Tre:Fd K mg "tree_of" zf [ayd,ayA]
 NBe:Fd K mg ay1 wp [ayQ,ayg,ayr]
 PaO:Fd K mg "paths_of" HF [ayf]
 NFa:Fd K mg "need_faults" HC [ayf,ayg]
 SFa:Fd K mg "shut_faults" HD [ayf,ayg]
 CFa:Fd K mg "clash_faults" HE [ayf,ayg]
 FaO:Fd K mg "faults_of" HA [ayd,ayh]
 Sou:Fd K mg "is_sound" HB [ayd,ayh]
 Beh:Fd K mg "set_behind" HQ [ayL,ayz,ayN]
 Wom:Fd K mg "with_one_more" HS [ay5,ayX]
 Fst:Fd K mg "first_group" HR [ayd,ayL,ayz,ayX]
 Gro:Fd K mg "groups_to" HP [ayd,ayL,ayz]
 IUp:Fd K mg "is_up" HU [ayl]
 TxB:Fd K mg "texts_begun" HV [ayl]
 StO:Fd K mg "stand_on" HX [ayl]
 Fin:Fd K mg "finish" HY [ayl,ayO]
 StT:Fd K mg "steps_to" Ia [ayd,ayL,ayz]
 DoD:Fd K mg "do_deed" HZ [ayd,ayl,ayz]
 LSt:Fd K mg "_law_stand" Il [ayp,aym,ayb]
 IsN:Fd K mg "is_name" Im [ayq]
 IsP:Fd K mg "is_path" Io [ayq]
 AsP:Fd K mg "ask_path" Iq [aye]
 WEn:Fd K mg "with_entry" Ir ["entries","key","entry"]
 LBr:Fd K mg "_law_brought" Iu [ayp,ayD]
 LBy:Fd K mg "_law_lines_by" Ix [ayb,ayE,ays,ayi]
 LRe:Fd K mg "_law_refused" Iw [ayw,ayi,ayt]
 LAf:Fd K mg "_law_after" Co [ayw,ayS,ayV,ayi,ayt,ayE]
 LDe:Fd K mg "_law_deed" Cp [ayw,ayZ,ays,ayb]
 Law:Fd K mg "law" uu [ayk]
 M:Addr
 Fa:Addr
 NP:Addr
 NN:Addr
 NU:Addr
 R:Rj K mg M Fa NP NN NU
 cN:Addr
 FN:wG K ay1 ay1 wp NBe.f cN NBe.fd
 hN:W.codeHdIn K cN Pt=true
 hB:base.BuiltinsAt mg Pt
end K71
section
open L2
variable {P:Program}{w:World}{K:Fg}{mg:Mv}{base:Heap}{Pt:Addr}
namespace K71
section
variable {x:Str}{α:Type}
theorem Cq{sep:Str}:∀{ps:Ls}{d:Nat},d∈(Str.join sep ps).cps.toList->d∈sep.cps.toList\/∃p∈ps,d∈p.cps.toList
 | [],d,h=>by
  have h:d∈([]:List Nat):=h;cases h
 | [p],d,h=>.inr ⟨p,bL,h⟩
 | p::q::r,d,h=>by
  have h:d∈(p++sep++Str.join sep (q::r)).cps.toList:=h;rw[jN,jN]at h
  rcases bR.mp h with h | h
  . rcases bR.mp h with h | h
    . exact .inr ⟨p,bL,h⟩
    exact .inl h
  rcases Cq h with h | ⟨z,hz,hd⟩
  . exact .inl h
  exact .inr ⟨z,bT _ hz,hd⟩
theorem Rk{l u:Option Int}{c:Nat}(h:c∈(Txt.slice x l u).cps.toList):c∈x.cps.toList:=by
 unfold Txt.slice at h;split at h
 . exact h
 have j:c∈(Builtin.Str.strSliceIndices l u 1 x.length).filterMap (x.cps[·]?):=by simpa using h
 obtain⟨i,_,hi⟩:=Mf.mp j;have:=awD hi;simpa using this
theorem ajD(x:Str)(k:Int)(h0:0<=k)(h1:k<=x.length):(Txt.slice x none (some k)).length+(Txt.slice x (some k) none).length=x.length:=by
 have G:x.cps.toList.length=x.length:=eJ;rw[G2,G2,StrLaws.sliceText_to (x:=x) (j:=k) ⟨h0,by omega⟩,StrLaws.sliceText_from (x:=x) (i:=k) ⟨h0,by omega⟩];show((List.drop 0 x.cps.toList).take (k - 0).toNat).toArray.size+((List.drop k.toNat x.cps.toList).take ((x.cps.toList.length:Int) - k).toNat).toArray.size=x.length;rw[gc,gc,eR,eR,j0,j0];omega
theorem Cr{c d:Nat}(h:d∈(⟨#[c]⟩:Str).cps.toList):d=c:=bD.mp h
theorem Rm{P:Nat->Prop}(ok:∀c∈x.cps.toList,P c){r:Int}(h0:0<=r)(h1:r<x.length):∃c,cQ x.cps.toList r=some c/\P c:=by
 obtain⟨n,rfl⟩:∃n:Nat,r=n:=⟨r.toNat,by omega⟩;have j:n<x.cps.toList.length:=by
  have:x.cps.toList.length=x.length:=by simp[Str.length]
  omega
 exact⟨_,Fh (hX j),ok _ (Ev j)⟩
def wH:Str:=ayK
theorem ajE:∀c∈wH.cps.toList,97<=c/\c<=122:=by decide +kernel
theorem zj:wH.length=26:=by decide +kernel
theorem Ct(n:Int):∃c,cQ wH.cps.toList (n % 26)=some c/\(97<=c/\c<=122):=Rm ajE (by omega) (by rw[zj];omega)
def rF : Str := " !\"#$&'()*+,-./0123456789:;<=>?@ABCDEFGHIJKLMNOPQRSTUVWXYZ[\\]^_`"
def rG:Str:="abcdefghijklmnopqrstuvwxyz{|}~"
theorem ajF:∀c∈(rF++rG).cps.toList,32<=c/\c<=126/\c≠37:=by decide +kernel
theorem wI:(rF++rG).length=94:=by decide +kernel
inductive Rn:Sp where
 | mk {H:Hp}{Q:VK}{E:XK}{c k:Int} (_:∀n:Int,Q (.int n) H):Rn [.int c,.int k] H Q E
theorem Ro:aN [ayb,ayv,ayc] [ayb,ayv] (au Ic):=aV
theorem gG(j:Pg K mg base Pt):aA P w K mg base aJ 1 j.Mix.f j.Mix.fd [ayb,ayv] Rn:=by
 refine j.Mix.u.okL Ro ?_;intro G A outer s H vs Q E Y h xX O;obtain @⟨_,_,_,c,k,q⟩:=h;refine⟨_,(ah (aI (i:=2) Ro.nd rfl (Or.inl rfl) (aE cy (aE vz (aE gj (aE gj (aE cy (pv 0) am) (aE vz am (pv 1))) am) am) am))
  (al (aT (aE cy (aE vz (pv 2) (aE gj (aE gO (pv 2) am) am)) am)))),?_⟩
 refine ju ?_;intro J sS U;refine⟨(by show(0:Int)<2147483647;decide),.inl ⟨by omega,by omega⟩,.inr ⟨by omega,by omega⟩,(by show(0:Int)<2147483647;decide),?_⟩;refine⟨⟨by omega,by omega⟩,.inl ⟨by omega,by omega⟩,(by show(0:Int)<2147483647;decide),?_⟩;exact q _
inductive Rp (K:Fg):Sp where
 | mk {H:Hp}{Q:VK}{E:XK}{a:Addr}{k:Int}{ns:List Int} (_:0<=k) (_:ac K H a (ns.map V.int)) (_:∀n:Int,Q (.int n) H):Rp K [.ref a,.int k] H Q E
theorem ajG:aN [ayk,ayv] [ayk,ayv] (au Ib):=aV
theorem zk(j:Pg K mg base Pt):aA P w K mg base aJ 1 j.Cel.f j.Cel.fd [ayk,ayv] (Rp K):=by
 refine j.Cel.u.okL ajG ?_;intro J A outer s H vs Q E hr h xX U;obtain @⟨_,_,_,a,k,ns,k0,G,q⟩:=h;refine⟨_,(ah (cg (bS yg (pv 1) (c8 ig (by rfl) j.B.len gA (ao (pv 0))) (bJ _))
  (al (aT (bP fV (pv 0) (pv 1) (λ_ _=>rfl)))) cZ)
  (al (aT am))),?_⟩
 refine ju ?_;intro O sS Y;refine⟨a,_,rfl,.inl G,⟨⟨?_⟩⟩⟩;refine bu (λh=>?_) (λh=>?_)
 . have h':=cH h;rw[aj]at h';obtain⟨z,hz,_⟩:=OM (ns:=ns) (r:=k) k0 h';exact⟨G,hz,q z⟩
 exact q 0
inductive Rq:Sp where
 | mk {H:Hp}{Q:VK}{E:XK}{c p:Int} (_:∀x H',cR x->aa H H'->Q (.str x) H'):Rq [.int c,.int p] H Q E
theorem Cu:aN [ayb,ay2,ayC,"_law_body","_law_at"] [ayb,ay2] (au Ie):=aV
theorem ajH(j:Pg K mg base Pt):aA P w K mg base aJ 1 j.Nam.f j.Nam.fd [ayb,ay2] Rq:=by
 refine j.Nam.u.okL Cu ?_;intro ar A outer s H vs Q E hr h xX dX;obtain @⟨_,_,_,c,p,q⟩:=h;refine⟨_,(ah (aI (i:=2) Cu.nd rfl (Or.inr rfl) bO)
  (Bx (λZ H2=>∃x:Str,Z=[some (.int c),some (.int p),some (.str wH),some (.str x),none]/\aa H H2/\(∀c∈x.cps.toList,97<=c/\c<=122)/\x.length<=7) (aI (i:=3) Cu.nd rfl (Or.inl rfl) (dH mj xU xV vN bO (ao (gE [ayv] [ayC,ayb] [2,0] eF rfl (oM rfl j.B.range (ao (aE cy (aE gO (pv 0) am) am))) (λ_ _ _ _=>(bf (i:=0) (show List.Nodup ([ayv,ayC,ayb]:Ls) by decide +kernel) rfl (Or.inl rfl))) (λ_ _ _ _=>gQ) (λ_ _ _ _=>(bP ym (pv 1) (aE cy (aE gO (pv 2) (aE gj am (aE vz am (pv 0)))) am) (λ_ _=>rfl)))))))
  (ah (aI (i:=4) Cu.nd rfl (Or.inl rfl) (aE cy (aE gO (pv 0) am) (aE gj (c8 Fk (by rfl) j.B.len gA (ao (pv 3))) am)))
  (al (aT (aE vB (aE vB (nn Bu (pv 3) qQ (lw (pv 4))) (bP ym (pv 2) (aE cy (aE gj (pv 0) (pv 1)) am) (λ_ _=>rfl))) (nn Bu (pv 3) (lw (pv 4)) qQ))))))),?_⟩
 refine ju ?_;intro dD sS eh;refine⟨?_,?_⟩
 . refine⟨rfl,⟨by omega,by omega⟩,(by show(0:Int)<8;decide),by omega,by omega,?_⟩;refine vL (σ0:=[none,some (.str wH),some (.int c)]) (λZ=>∃v,Z=[v,some (.str wH),some (.int c)]) (λi ys _=>∃xs:Ls,ys=xs.map V.str/\xs.length=i/\∀x∈xs,(∀c∈x.cps.toList,97<=c/\c<=122)/\x.length<=1) ⟨_,rfl⟩ (λ_ _=>⟨[],rfl,rfl,λ_ h=>nomatch h⟩) ?_ ?_
   . intro D i ys Z H2 k hD hi fG hd hs gW hk;refine bq ?_;intro U;obtain⟨v,rfl⟩:=fG;obtain⟨xs,rfl,O,G⟩:=gW;obtain⟨z,hz,J⟩:=Ct (c / (16+5 * (0+(i:Int))));refine⟨.inl ⟨by omega,by omega⟩,⟨by omega,by omega⟩,(by show(0:Int)<26;decide),jF (by rw[zj];decide),hz,?_⟩;refine hk _ _ _ ⟨_,rfl⟩ (aa.refl _) (bY (by rw[aj];omega)) ⟨xs++[_],tW xs _,by rw[bI,O];rfl,λy hy=>?_⟩
     rcases bR.mp hy with hy | hy
     . exact G y hy
     rw[bD.mp hy];exact⟨λd hd=>by rw[Cr hd];exact J,xG (oZ z)⟩
   intro D ys H2 hD hd hs gX;refine bq ?_;intro U;obtain⟨xs,rfl,O,G⟩:=gX;have a0:=yA (b:=1) λy hy=>(G y hy).2;have e0:(Str.ofString "").length=0:=by decide +kernel
   refine⟨xs,ac.of hd,by rw[e0];omega,?_⟩;refine⟨_,rfl,hs,λd hd=>?_,?_⟩
   . rw[show Txt.join (Str.ofString "") xs=Str.join (Str.ofString "") xs from AU _ _]at hd
     rcases Cq hd with hd | ⟨y,hy,hd⟩
     . cases hd
     exact(G y hy).1 d hd
   refine b8 BC ?_;rw[e0];omega
 intro σ' H' pG;refine bq ?_;intro U;obtain⟨x,rfl,s1,Y,x8⟩:=pG;refine⟨⟨by omega,by omega⟩,_,rfl,jF (by omega),(by show(0:Int)<(x.length:Int)+1;omega),?_⟩;obtain⟨z,hz,J⟩:=Ct (c+p);have l1:=Txt.slice_le x none (some (c / 7 % ((x.length:Int)+1)));have l2:=Txt.slice_le x (some (c / 7 % ((x.length:Int)+1))) none;have l3:(⟨#[z]⟩:Str).length=1:=oZ z;refine⟨jF (by omega),(by show(0:Int)<26;decide),jF (by rw[zj];decide),hz,_,_,rfl,rfl,fit (by omega) (by omega),jF (by omega),_,_,rfl,rfl,fit (by rw[ku];omega) (by omega),?_⟩;have l4:=ajD x (c / 7 % ((x.length:Int)+1)) (vi _ (by omega)) (by have:=xO (c / 7) (show(0:Int)<(x.length:Int)+1 by omega);omega);refine q _ _ ⟨?_,?_,λd hd=>?_⟩ s1
 . rw[ku,ku];omega
 . rw[ku,ku];omega
 rw[jN,jN]at hd
 rcases bR.mp hd with hd | hd
 . rcases bR.mp hd with hd | hd
   . exact Y d (Rk hd)
   rw[Cr hd];exact J
 exact Y d (Rk hd)
inductive Rr:Sp where
 | mk {H:Hp}{Q:VK}{E:XK}{c:Int} (_:∀x H',fm x->aa H H'->Q (.str x) H'):Rr [.int c] H Q E
theorem Cv:aN [ayc,ayC,"_law_many"] [ayc] (au Ig):=aV
theorem ajJ(j:Pg K mg base Pt):aA P w K mg base aJ 1 j.Lin.f j.Lin.fd [ayc] Rr:=by
 refine j.Lin.u.okL Cv ?_;intro ar A outer s H vs Q E hr h xX dX;obtain @⟨_,_,_,c,q⟩:=h;refine⟨_,(ah (aI (i:=1) Cv.nd rfl (Or.inr rfl) bO)
  (ah (aI (i:=1) Cv.nd rfl (Or.inr rfl) (aE vB (pv 1) bO))
  (ah (aI (i:=2) Cv.nd rfl (Or.inl rfl) (aE cy (pv 0) am))
  (al (aT (dH mj xU xV vN bO (ao (gE [ayv] [ayC,ayc] [1,0] eF rfl (oM rfl j.B.range (ao (pv 2))) (λ_ _ _ _=>(bf (i:=0) (show List.Nodup ([ayv,ayC,ayc]:Ls) by decide +kernel) rfl (Or.inl rfl))) (λ_ _ _ _=>gQ) (λ_ _ _ _=>(bP ym (pv 1) (aE cy (aE gO (pv 2) (aE gj am (aE vz am (pv 0)))) (c8 Fk (by rfl) j.B.len gA (ao (pv 1)))) (λ_ _=>rfl))))))))))),?_⟩
 refine lI ?_;intro dD sS nY gs eh;refine⟨_,_,rfl,rfl,(by show rF.length+rG.length<=sizeLine;rw[<-ku,wI];decide),?_⟩;refine⟨(by show(0:Int)<5;decide),?_⟩;refine⟨rfl,by omega,by omega,?_⟩;have e1:∀i:Nat,∃z,cQ (rF++rG).cps.toList (c / (5+11 * (0+(i:Int))) % ((rF++rG).length:Int))=some z/\(32<=z/\z<=126/\z≠37):=λi=>Rm ajF (vi _ (by rw[wI];decide)) (xO _ (by rw[wI];decide));refine vL (σ0:=[none,some (.str (rF++rG)),some (.int c)]) (λZ=>∃v,Z=[v,some (.str (rF++rG)),some (.int c)]) (λi ys _=>∃xs:Ls,ys=xs.map V.str/\xs.length=i/\∀x∈xs,(∀c∈x.cps.toList,32<=c/\c<=126/\c≠37)/\x.length<=1) ⟨_,rfl⟩ (λ_ _=>⟨[],rfl,rfl,λ_ h=>nomatch h⟩) ?_ ?_
 . intro D i ys Z H2 k O hi uv hd hs uw U;refine bq ?_;intro Y;obtain⟨v,rfl⟩:=uv;obtain⟨xs,rfl,J,G⟩:=uw;obtain⟨z,hz,zb⟩:=e1 i;refine⟨.inl ⟨by omega,by omega⟩,⟨by omega,by omega⟩,_,rfl,jF (by rw[wI];decide),(by show(0:Int)<((rF++rG).length:Int);rw[wI];decide),jF (by rw[wI];decide),hz,?_⟩;refine U _ _ _ ⟨_,rfl⟩ (aa.refl _) (bY (by rw[aj];omega)) ⟨xs++[_],tW xs _,by rw[bI,J];rfl,λy hy=>?_⟩
   rcases bR.mp hy with hy | hy
   . exact G y hy
   rw[bD.mp hy];exact⟨λd hd=>by rw[Cr hd];exact zb,xG (oZ z)⟩
 intro D ys H2 O hd hs zn;refine bq ?_;intro Y;obtain⟨xs,rfl,J,G⟩:=zn;have a0:=yA (b:=1) λy hy=>(G y hy).2;have e0:(Str.ofString "").length=0:=by decide +kernel
 refine⟨xs,ac.of hd,by rw[e0];omega,?_⟩;refine q _ _ ⟨?_,λd hd=>?_⟩ hs
 . refine b8 BC ?_;rw[e0];omega
 rw[show Txt.join (Str.ofString "") xs=Str.join (Str.ofString "") xs from AU _ _]at hd
 rcases Cq hd with hd | ⟨y,hy,hd⟩
 . cases hd
 exact(G y hy).1 d hd
abbrev ajK (H:Hp) (Q:V->Hp->Prop):Prop:=∀(l:Addr) (H':Hp) (xs:Ls),H l=none->aa H H'->H' l=some (.lst (xs.map V.str))->xs.length<=4->(∀x∈xs,fm x)->Q (.ref l) H'
inductive Rs:Sp where
 | mk {H:Hp}{Q:VK}{E:XK}{c:Int} (_:ajK H Q):Rs [.int c] H Q E
theorem Rt:aN [ayc,ayC] [ayc] (au Ih):=aV
theorem Cw(j:Pg K mg base Pt):aA P w K mg base aJ 2 j.Lis.f j.Lis.fd [ayc] Rs:=by
 refine j.Lis.u.okL Rt ?_;intro ar A outer s H vs Q E U h xX dX;obtain @⟨_,_,_,c,q⟩:=h;refine⟨_,(ah (aI (i:=1) Rt.nd rfl (Or.inr rfl) (aE gj am (aE vz am (aE cy (pv 0) am))))
  (al (aT (gE [ayv] [ayC,ayc] [1,0] eF rfl (oM rfl j.B.range (ao (aE cy (pv 0) am))) (λ_ _ _ _=>(bf (i:=0) (show List.Nodup ([ayv,ayC,ayc]:Ls) by decide +kernel) rfl (Or.inl rfl))) (λ_ _ _ _=>gQ) (λ_ _ _ _=>(aF (ajJ j) U rfl (ao (aE cy (aF (gG j) U rfl (aL (aE gO (pv 2) am) (pv 0))) (pv 1))))))))),?_⟩
 refine ju ?_;intro dD sS eh;refine⟨(by show(0:Int)<3;decide),.inl ⟨by omega,by omega⟩,⟨?_⟩⟩;refine⟨(by show(0:Int)<5;decide),by omega,by omega,?_⟩;refine vL (σ0:=[none,some (.int (40+900 * (c % 3))),some (.int c)]) (λZ=>∃v,Z=[v,some (.int (40+900 * (c % 3))),some (.int c)]) (λi ys _=>∃xs:Ls,ys=xs.map V.str/\xs.length=i/\∀x∈xs,fm x) ⟨_,rfl⟩ (λ_ _=>⟨[],rfl,rfl,λ_ h=>nomatch h⟩) ?_ ?_
 . intro D i ys Z H2 k O hi zq hd hs Iz hk;refine bq ?_;intro tT;obtain⟨v,rfl⟩:=zq;obtain⟨xs,rfl,Y,G⟩:=Iz;refine⟨⟨by omega,by omega⟩,⟨⟨λn=>?_⟩⟩⟩;refine⟨(by show(0:Int)<40+900 * (c % 3);omega),⟨λx H3 lx s3=>?_⟩⟩;exact hk _ _ _ ⟨_,rfl⟩ s3 (bY (by rw[aj];omega)) ⟨xs++[x],tW xs x,by rw[bI,Y];rfl,λy J=>(bR.mp J).elim (G y) (λJ=>by rw[bD.mp J];exact lx)⟩
 intro D ys H2 O hd hs a0;refine bq ?_;intro tT;obtain⟨xs,rfl,Y,G⟩:=a0;exact q D H2 xs O hs hd (by omega) G
inductive Ru:Sp where
 | mk {H:Hp}{Q:VK}{E:XK}{c:Int} (_:∀x H',cz x->aa H H'->Q (.str x) H'):Ru [.int c] H Q E
theorem IA:aN [ayc,ayC,"_law_way"] [ayc] (au Ii):=aV
def IB:Ls:=["a","a/b","conf/ed/three/four","zz"]
def IC(x:Str):Bool:=decide (1<=x.length) && decide (x.length<=8) && x.cps.toList.all λc=>decide (97<=c) && decide (c<=122)
theorem ajM(h:IC x=true):cR x:=by
 unfold IC at h;simp only[iP,xS,iQ]at h;exact⟨h.1.1,h.1.2,h.2⟩
theorem Cy(ps:Ls)(e:x=Str.join lN ps)(h1:1<=ps.length)(h2:ps.length<=4)(h:ps.all IC=true):cz x:=⟨ps,e,h1,h2,λp j=>ajM (iQ.mp h p j)⟩
theorem ajN:∀x∈IB,cz x:=by
 intro x j;simp only[IB,aZ,fc,fe]at j
 rcases j with rfl | rfl | rfl | rfl
 . exact Cy ["a"] (by decide +kernel) (by decide) (by decide) (by decide +kernel)
 . exact Cy ["a","b"] (by decide +kernel) (by decide) (by decide) (by decide +kernel)
 . exact Cy ["conf","ed","three","four"] (by decide +kernel) (by decide) (by decide) (by decide +kernel)
 exact Cy ["zz"] (by decide +kernel) (by decide) (by decide) (by decide +kernel)
theorem Rv{z:Nat}(h:97<=z/\z<=122):cR ⟨#[z]⟩:=⟨aG _,(by show 1<=8;decide),λd hd=>by rw[Cr hd];exact h⟩
theorem ID(j:Pg K mg base Pt):aA P w K mg base aJ 1 j.Pat.f j.Pat.fd [ayc] Ru:=by
 refine j.Pat.u.okL IA ?_;intro ar A outer s H vs Q E hr h xX dX;obtain @⟨_,_,_,c,q⟩:=h;refine⟨_,(ah (aI (i:=1) IA.nd rfl (Or.inl rfl) bO)
  (ah (aI (i:=2) IA.nd rfl (Or.inl rfl) (aE cy (pv 0) am))
  (ah (cg (bS fO (pv 2) am (bJ _))
  (al (aT (aE vB (aE vB (bP ym (pv 1) (aE cy (aE gO (pv 0) am) am) (λ_ _=>rfl)) bO) (bP ym (pv 1) (aE cy (aE gO (pv 0) am) am) (λ_ _=>rfl))))) cZ)
  (al (aT (bP fV (db (q5 bO bO bO bO)) (pv 2) (λ_ _=>rfl))))))),?_⟩
 refine lI ?_;intro dD sS nY gs eh;refine⟨(by show(0:Int)<5;decide),?_⟩;refine⟨rfl,⟨?_⟩⟩;refine bu (λh=>?_) (λh=>?_)
 . obtain⟨z,hz,Y⟩:=Ct (c / 5);obtain⟨y,J,U⟩:=Ct (c / 130);have lz:(⟨#[z]⟩:Str).length=1:=oZ z;have ly:(⟨#[y]⟩:Str).length=1:=oZ y;have ls:(Str.ofString "/").length=1:=by decide +kernel
   refine⟨⟨by omega,by omega⟩,(by show(0:Int)<26;decide),jF (by rw[show(Str.ofString "abcdefghijklmnopqrstuvwxyz").length=26 from zj];decide),hz,_,_,rfl,rfl,fit (by omega) (by omega),⟨by omega,by omega⟩,(by show(0:Int)<26;decide),jF (by rw[show(Str.ofString "abcdefghijklmnopqrstuvwxyz").length=26 from zj];decide),J,_,_,rfl,rfl,fit (by rw[ku];omega) (by omega),?_⟩;refine q _ _ ⟨[⟨#[z]⟩,⟨#[y]⟩],rfl,(by show 1<=2;decide),(by show 2<=4;decide),λp G=>?_⟩ (aa.refl _);simp only[aZ,fc,fe]at G
   rcases G with rfl | rfl
   . exact Rv Y
   exact Rv U
 have h4:c % 5≠4:=λz=>h (by show decide (V.int (c % 5)=V.int 4)=true;rw[z];rfl);refine⟨(by show 4<=sizeLine;decide),λp1 H1 n1 O e1=>?_⟩;obtain⟨z,hz,zm⟩:=tV (xs:=IB) (r:=c % 5) (by omega) (by show c % 5<(4:Nat);omega);exact⟨ac.of e1,hz,q z H1 (ajN z (dM zm)) O⟩
theorem Rw(n:Int):0<=n % (10 ^ (9:Int).toNat)/\n % (10 ^ (9:Int).toNat)<=1000000000:=by
 have e:(10 ^ (9:Int).toNat:Int)=1000000000:=by decide
 rw[e];omega
def ajO(H:Hp)(Q:VK):Prop:=∀p H' (ms:List Int),H p=none->aa H H'->H' p=some (.tup (ms.map V.int))->fZ ms->Q (.ref p) H'
inductive Rx:Sp where
 | mk {H:Hp}{Q:VK}{E:XK}{c:Int} (_:ajO H Q):Rx [.int c] H Q E
theorem ajP:aN [ayc] [ayc] (au Ij):=aV
theorem ajQ(G:Pg K mg base Pt):aA P w K mg base aJ 1 G.Mak.f G.Mak.fd [ayc] Rx:=by
 refine G.Mak.u.okL ajP ?_;intro ar A outer s H vs Q E hr h xX dX;obtain @⟨_,_,_,c,q⟩:=h;refine⟨_,(ah (cg (bS fO (aE cy (pv 0) am) am (bJ _))
  (al (aT (eT (ao (aE gj am (aE cy (aE gO (pv 0) am) am)))))) cZ)
  (ah (cg (bS fO (aE cy (pv 0) am) am (bJ _))
  (al (aT (eT (aL am (aE cy (aE gO (pv 0) am) am))))) cZ)
  (ah (cg (bS fO (aE cy (pv 0) am) am (bJ _))
  (al (aT (eT (d6 am am (aE cy (aE gO (pv 0) am) (aE EX am am)))))) cZ)
  (al (aT (eT (ao (aE cy (aE gO (pv 0) am) (aE EX am am))))))))),?_⟩
 refine lI ?_;intro dD sS nY gs eh;refine⟨(by show(0:Int)<4;decide),rfl,⟨?_⟩⟩;refine bu (λh=>?_) (λh=>?_)
 . refine⟨⟨by omega,by omega⟩,(by show(0:Int)<3;decide),Ac,λU H1 n1 s1 e1=>?_⟩;exact q U H1 [_] n1 s1 e1 ⟨(by show 1<=1;decide),(by show 1<=3;decide),λn j=>by rw[bD.mp j];omega⟩
 refine⟨(by show(0:Int)<4;decide),rfl,⟨?_⟩⟩;refine bu (λh=>?_) (λh=>?_)
 . refine⟨⟨by omega,by omega⟩,(by show(0:Int)<3;decide),An,λp2 H2 n2 s2 e2=>?_⟩;exact q p2 H2 [_,_] n2 s2 e2 ⟨(by show 1<=2;decide),(by show 2<=3;decide),λn j=>by
    simp only[aZ,fc,fe]at j
    rcases j with rfl | rfl<;>omega⟩
 refine⟨(by show(0:Int)<4;decide),rfl,⟨?_⟩⟩;refine bu (λh=>?_) (λh=>?_)
 . refine⟨⟨by omega,by omega⟩,⟨by decide,by decide,by decide⟩,(by show(0:Int)<10 ^ (9:Int).toNat;decide),A7,λY H3 n3 s3 e3=>?_⟩;exact q Y H3 [_,_,_] n3 s3 e3 ⟨(by show 1<=3;decide),(by show 3<=3;decide),λn j=>by
    simp only[aZ,fc,fe]at j
    rcases j with rfl | rfl | rfl
    . omega
    . omega
    exact Rw _⟩
 refine⟨⟨by omega,by omega⟩,⟨by decide,by decide,by decide⟩,(by show(0:Int)<10 ^ (9:Int).toNat;decide),Ac,λp4 J O s4 e4=>?_⟩;exact q p4 J [_] O s4 e4 ⟨(by show 1<=1;decide),(by show 1<=3;decide),λn j=>by rw[bD.mp j];exact Rw _⟩
theorem dW{n:Nat}(h:n<=100000):n<=sizeLine:=by rw[sL];omega
theorem ajR(l:List α)(f:α->Bool):l.map (λc=>V.bl (f c))=(l.map f).map V.bl:=by rw[mi];rfl
theorem Ry(l:List α)(f:α->Bool):(l.map f).all id=l.all f:=by rw[List.all_map];rfl
theorem jg{β:Type}{l:List α}{f:α->β}{i:Nat}{y:β}(h:(l.map f)[i]?=some y):∃x,l[i]?=some x/\y=f x:=by
 rw[dN]at h;cases e:l[i]? with
 | none=>rw[e]at h;cases h
 | some x=>rw[e]at h;exact⟨x,rfl,(gM h).symm⟩
inductive Rz:Sp where
 | mk {H:Hp}{Q:VK}{E:XK}{t:Str} (_:t.length<=90000) (_:∀l H',H l=none->aa H H'->H' l=some (.lst ((rowsOf t).map V.str))->Q (.ref l) H'):Rz [.str t] H Q E
theorem ajS:aN [ayq] [ayq] (au Hv):=aV
theorem ajT(j:Pg K mg base Pt):aA P w K mg base aJ 1 j.RwO.f j.RwO.fd [ayq] Rz:=by
 refine j.RwO.u.okL ajS ?_;intro G A outer s H vs Q E O h Y J;obtain @⟨_,_,_,t,U,q⟩:=h;refine⟨_,(al (aT (M3 (bS Nw (pv 0) bO (bJ _)) (dH mj MF MG B0 (pv 0) (ao bO)) (db dG)))),?_⟩;refine⟨rfl,⟨?_⟩⟩;refine bu (λh=>?_) (λh=>?_)
 . have ne:t≠Str.empty:=λz=>by
    rw[z]at h;exact absurd h (by decide +kernel)
   refine⟨rfl,t,lL,rfl,rfl,by decide +kernel,dW (by omega),λl H' a b c=>?_⟩;refine q l H' a b ?_;rw[c];unfold rowsOf;rw[ag ne]
 have e:t=Str.empty:=by
  rcases Classical.em (t=Str.empty) with z | z
  . exact z
  refine absurd ?_ h;show(!decide (V.str t=V.str Str.empty))=true;rw[cx (λy=>z (V.str.inj y))];rfl
 refine⟨(by show 0<=sizeLine;exact dC _),λl H' a b c=>?_⟩;refine q l H' a b ?_;rw[c];unfold rowsOf;rw[ai e];rfl
theorem IE{y a:Str}(h:a∈Txt.split x y):a.length<=x.length:=part_short h
def zr(ms:List Int):Prop:=ms.length<=3/\∀n∈ms,0<=n/\n<=1000000000
theorem fZ.ok{ms:List Int}(h:fZ ms):zr ms:=⟨h.hi,h.rg⟩
inductive RA:Sp where
 | mk {H:Hp}{Q:VK}{E:XK}{m:Addr}{ms:List Int} (_:H m=some (.tup (ms.map V.int))) (_:zr ms) (_:∀H',aa H H'->Q (.str (jP ms)) H'):RA [.ref m] H Q E
theorem ajU:aN [ayn] [ayn] (au Hw):=aV
theorem RB{ms:List Int}(h:zr ms):((ms.map jf).map (·.length)).sum<=30:=by
 have:=yA (ys:=ms.map jf) (b:=10) λy G=>by
  obtain⟨n,j,rfl⟩:=cC.mp G;exact(Q1 (h.2 n j).1 (h.2 n j).2).2
 rw[aj]at this;have:=h.1;omega
theorem ajV{n:Int}(h0:0<=n)(h1:n<=1000000000):n.natAbs.log2<1920:=by
 have:n.natAbs<2 ^ 1920:=XX (by omega:n.natAbs<=1000000000) (by decide +kernel)
 by_cases z:n.natAbs=0
 . rw[z];decide
 exact(Nat.log2_lt z).mpr this
theorem ajW(j:Pg K mg base Pt):aA P w K mg base aJ 1 j.MkS.f j.MkS.fd [ayn] RA:=by
 refine j.MkS.u.okL ajU ?_;intro ar A outer s H vs Q E hr h xX dX;obtain @⟨_,_,_,m,ms,G,ok,q⟩:=h;refine⟨_,(al (aT (dH mj xU xV vN bO (ao (gE ["number"] [] [] eF rfl (ZT (pv 0)) (λ_ _ _ _=>(bf (i:=0) (show List.Nodup (["number"]:Ls) by decide +kernel) rfl (Or.inl rfl))) (λ_ _ _ _=>gQ) (λ_ _ _ _=>(dR aav (by rfl) j.B.str awG (ao (pv 0))))))))),?_⟩;refine⟨rfl,⟨_,aX.of G⟩,?_⟩;refine aif (σ0:=[none]) (aX.of G) (λZ=>∃v,Z=[v]) ((ms.map jf).map V.str) (by rw[aj,aj,aj]) (dW (by rw[aj];have:=ok.1;omega)) ⟨_,rfl⟩ ?_ ?_
 . intro i z y Z H2 k hz O Y hs hk;obtain⟨v,rfl⟩:=Y;obtain⟨n,J,rfl⟩:=jg hz;rw[mi]at O;obtain⟨n',U,rfl⟩:=jg O;rw[J]at U;cases U;have r:=ok.2 n (dM J);exact⟨n,rfl,ajV r.1 r.2,hk _ _ ⟨_,rfl⟩ (aa.refl _)⟩
 intro D H2 hD hd hs;have l1:=RB ok;refine⟨ms.map jf,ac.of hd,?_,?_⟩
 . rw[show(Str.ofString ".").length=1 by decide +kernel,aj];have:=ok.1;omega
 have:=q H2 hs;rw[show jP ms=Txt.join lO (ms.map jf) from (AU _ _).symm]at this;exact this
end
section
variable {H1 H H':Hp}{kv:ak×V}{e:Str×(Ls×Ls)}
theorem IF{g:TG}{tb:TS}{D:Ends}{Z:L2.St}{kvs:List (ak×V)}{ob:Obj}(Pv:Nat->L2.St->Hp->Prop)(h0:Pv 0 Z (upd H1 d (.frz ob (.dK kvs))))(J:∀i Z H,Pv i Z H->H d=some (.frz ob (.dK kvs)))
 (hs:∀i k v p Z H,kvs[i]?=some (k,v)->Pv i Z H->H p=none->g (.ref p) Z (upd H p (.tup [kV k,v])) λσ2 H2=>
  tb { nx:=Pv (i+1),ct:=Pv (i+1),bk:=λσ' H'=>H' d=some (.frz ob (.dK kvs))/\D.nx σ' (upd H' d (.dK kvs)),rt:=λj H'=>H' d=some (.frz ob (.dK kvs))/\D.rt j (upd H' d (.dK kvs)) } σ2 H2)
 (hd:∀Z H,Pv kvs.length Z H->D.nx Z (upd H d (.dK kvs))):∃W:Nat->Nat->L2.St->Hp->Prop,(∃m,W 0 m Z (upd H1 d (.frz ob (.dK kvs))))/\∀i m Z H,W i m Z H ->
 H d=some (.frz ob (.dK kvs))/\((kvs.length<=i/\D.nx Z (upd H d (.dK kvs)))\/(i<kvs.length/\∃N:L2.St->Hp->Prop,(∀σ' H',N σ' H'->∃m',m'<m/\W (i+1) m' σ' H') /\
  ∀k v p,kvs[i]?=some (k,v)->H p=none->g (.ref p) Z (upd H p (.tup [kV k,v])) λσ2 H2=>
   tb { nx:=N,ct:=N,bk:=λσ' H'=>H' d=some (.frz ob (.dK kvs))/\D.nx σ' (upd H' d (.dK kvs)),rt:=λj H'=>H' d=some (.frz ob (.dK kvs))/\D.rt j (upd H' d (.dK kvs)) } σ2 H2)):=by
 refine⟨λi m Z H=>m=kvs.length - i/\i<=kvs.length/\Pv i Z H,⟨kvs.length,by simp,dC _,h0⟩,?_⟩;rintro i m Z H ⟨rfl,hi,p⟩;refine⟨J i Z H p,?_⟩
 by_cases G:i<kvs.length
 . exact .inr ⟨G,Pv (i+1),λσ' H' Y=>⟨kvs.length - (i+1),by omega,rfl,G,Y⟩,λk v q O U=>hs i k v q Z H O p U⟩
 have e:i=kvs.length:=by omega
 subst e;exact .inl ⟨aG _,hd Z H p⟩
abbrev Ch:=List (Str×List Int)
variable {ch:Ch}
def dA(H:Hp)(kv:ak×V)(e:Str×List Int):Prop:=kv.1=.inr e.1/\∃m,kv.2=.ref m/\H m=some (.tup (e.2.map V.int))
theorem dA.same(s:aa H H'){e:Str×List Int}(h:dA H kv e):dA H' kv e:=h.elim λa j=>j.elim λm G=>G.elim λb c=>⟨a,m,b,s _ _ c⟩
def de(H:Hp)(c:Addr)(ch:Ch):Prop:=∃kvs,H c=some (.dK kvs)/\Paired (dA H) kvs ch
theorem de.same(s:aa H H'){c:Addr}(h:de H c ch):de H' c ch:=h.elim λkvs j=>j.elim λa b=>⟨kvs,s _ _ a,av b λ_ _=>dA.same s⟩
abbrev Ow:=List (Str×(Ls×Ls))
variable {ow:Ow}
def cD(H:Hp)(kv:ak×V)(e:Str×(Ls×Ls)):Prop:=kv.1=.inr e.1/\∃t j G,kv.2=.ref t/\H t=some (.tup [.ref j,.ref G])/\H j=some (.lst (e.2.1.map V.str))/\H G=some (.lst (e.2.2.map V.str))
theorem cD.same(s:aa H H')(h:cD H kv e):cD H' kv e:=h.elim λa j=>j.elim λt G=>G.elim λl1 J=>J.elim λl2 O=>O.elim λb U=>U.elim λc Y=>Y.elim λd f=>⟨a,t,l1,l2,b,s _ _ c,s _ _ d,s _ _ f⟩
def jQ(H H':Hp)(kv:ak×V)(e:Str×(Ls×Ls)):Prop:=kv.1=.inr e.1/\∃t j G,kv.2=.ref t/\H t=none/\H j=none/\H G=none/\H' t=some (.tup [.ref j,.ref G])/\H' j=some (.lst (e.2.1.map V.str))/\H' G=some (.lst (e.2.2.map V.str))
theorem jQ.same{H2:Hp}(s:∀b o,H1 b=some o->H b=none->H2 b=some o)(h:jQ H H1 kv e):jQ H H2 kv e:=h.elim λa j=>j.elim λt G=>G.elim λl1 J=>J.elim λl2 O=>O.elim λb U=>U.elim λn1 Y=>Y.elim λn2 a0=>a0.elim λn3 a1=>a1.elim λc a2=>a2.elim λd f=>⟨a,t,l1,l2,b,n1,n2,n3,s _ _ c n1,s _ _ d n2,s _ _ f n3⟩
theorem jQ.put{ks mV:List (ak×V)}(hd:H1 d=some (.dK ks))(h:jQ H H1 kv e):jQ H (upd H1 d (.dK mV)) kv e:=
 h.elim λa j=>j.elim λt G=>G.elim λl1 J=>J.elim λl2 O=>O.elim λb U=>U.elim λn1 Y=>Y.elim λn2 a0=>a0.elim λn3 a1=>a1.elim λc a2=>a2.elim λd' f=>⟨a,t,l1,l2,b,n1,n2,n3,aw c (be c hd (by intro z;cases z)),aw d' (be d' hd (by intro z;cases z)),aw f (be f hd (by intro z;cases z))⟩
def kI(H:Hp)(o:Addr)(ow:Ow):Prop:=∃kvs,H o=some (.dK kvs)/\Paired (cD H) kvs ow
theorem kI.same(s:aa H H'){o:Addr}(h:kI H o ow):kI H' o ow:=h.elim λkvs j=>j.elim λa b=>⟨kvs,s _ _ a,av b λ_ _=>cD.same s⟩
abbrev Cs:=List (Str×Str)
variable {cs:Cs}
def pH(kv:ak×V)(e:Str×Str):Prop:=kv.1=.inr e.1/\kv.2=.str e.2
def pJ(H:Hp)(h:Addr)(cs:Cs):Prop:=∃kvs,H h=some (.dK kvs)/\Paired pH kvs cs
theorem pJ.same(s:aa H H'){h:Addr}(x:pJ H h cs):pJ H' h cs:=x.elim λkvs j=>j.elim λa b=>⟨kvs,s _ _ a,b⟩
def ip(T:Addr)(H:Hp)(v:V)(ch:Ch)(cs:Cs)(ow:Ow):Prop:=∃a dx fl c h o,v=.ref a/\H a=some (.ins T dx fl)/\fl.lookup (ayh:Str)=some (.ref c)/\fl.lookup (ayr:Str)=some (.ref h)/\fl.lookup (ayB:Str)=some (.ref o) /\
 de H c ch/\pJ H h cs/\kI H o ow
theorem ip.same{v:V}(s:aa H H')(x:ip T H v ch cs ow):ip T H' v ch cs ow:=by
 obtain⟨a,dx,fl,c,h,o,e,h1,h2,j,G,J,O,U⟩:=x;exact⟨a,dx,fl,c,h,o,e,s _ _ h1,h2,j,G,J.same s,O.same s,U.same s⟩
inductive RC:Sp where
 | mk {H:Hp}{Q:VK}{E:XK}{o:Addr}{kvs:List (ak×V)}{ow:Ow} (_:H o=some (.dK kvs)) (_:Paired (cD H) kvs ow) (_:(ow.map (·.1)).Nodup) (_:ow.length<=400) (_:∀d H' j,H d=none->aa H H'->H' d=some (.dK j)->Paired (jQ H H') j ow->Q (.ref d) H'):RC [.ref o] H Q E
theorem Cz:aN [ayB,"copied",aye,ayG] [ayB] (au HG):=aV
theorem akq(zZ:Pg K mg base Pt):aA P w K mg base aJ 1 zZ.CCo.f zZ.CCo.fd [ayB] RC:=by
 refine zZ.CCo.u.okL Cz ?_;intro ar A outer s H vs Q E hr h xX dX;obtain @⟨_,_,_,o,kvs,ow,ho,pr,nd,wJ,q⟩:=h;have hu:=hr.units;refine⟨_,(ah (aI (i:=1) Cz.nd rfl (Or.inl rfl) kC)
  (ah (F4 dZ rfl (pv 0) (m9 rfl (fM (bf (i:=2) Cz.nd rfl (Or.inl rfl)) (fM (bf (i:=3) Cz.nd rfl (Or.inl rfl)) mv)))
  (al (iC hu (pv 1) (pv 2) (eT (aL (dR jG (by rfl) zZ.B.list iS (ao (bP fh (pv 3) am (λ_ _=>rfl)))) (dR jG (by rfl) zZ.B.list iS (ao (bP fh (pv 3) am (λ_ _=>rfl)))))) rfl)))
  (al (aT (pv 1))))),?_⟩
 refine i9 ?_;intro dD sS gs eh;have hk:∀(H':Hp) kv f,jQ H H' kv f->kv.1=Sum.inr f.1:=λ_ kv f z=>z.1;refine λd H1 n1 s1 e1=>?_;have od:d≠o:=(aH ho n1).symm;refine⟨o,kvs,rfl,s1 _ _ ho,λob=>?_⟩;refine IF (λi Z G=>∃u v U,Z=[some (.ref o),some (.ref d),u,v]/\(∀b x,H b=some x->b≠o->G b=some x)/\(∀b,G b=none->H b=none)/\G o=some (.frz ob (.dK kvs))/\G d=some (.dK U)/\Paired (jQ H G) U (ow.take i))
  ⟨none,none,[],rfl,λb x e J=>aw (s1 _ _ e) J,λb e=>s1.free (lC e).2,aB,aw e1 od,.nil⟩ ?_ ?_ ?_
 . intro i Z G fG;refine bq ?_;intro tT;obtain⟨u,v,U,rfl,_,_,h,_⟩:=fG;exact h
 . intro i k v p Z G hi gW hp;refine bq ?_;intro tT;obtain⟨u,v',U,rfl,k5,Y,h5,gH,gt⟩:=gW
   first | (refine ub (g:=ki _) ?_;intro eQ sQ) | (refine ub (g:=tw _ _ _) ?_;intro eQ sQ) | skip
   obtain⟨⟨x,b1,m1⟩,hf,a1,t,l1,l2,a2,a3,a4,a5⟩:=eN pr hi;have a1:k=.inr x:=a1;have a2:v=.ref t:=a2;subst a1 a2;have aO:=(dg.mp hf).1;have sp:aa G (upd G p (.tup [kV (.inr x),.ref t])):=fD hp;have K5:∀{b:Addr}{z:HO},H b=some z->(∀ks,z≠.dK ks)->(upd G p (.tup [kV (.inr x),.ref t])) b=some z:=λ{b z} e hz=>sp _ _ (k5 _ _ e (be e ho (hz _)));have T5:=K5 a3 (by intro ks z;cases z);have L5:=K5 a4 (by intro ks z;cases z);have M5:=K5 a5 (by intro ks z;cases z);have z0:cQ [V.ref l1,V.ref l2] 0=some (V.ref l1):=rfl;have z1:cQ [V.ref l1,V.ref l2] 1=some (V.ref l2):=rfl;refine⟨aX.of aB,rfl,rfl,?_⟩;refine⟨aX.of T5,z0,l1,_,rfl,.inl (ac.of L5),λq1 H6 n6 s6 e6=>?_⟩;refine⟨aX.of (s6 _ _ T5),z1,l2,_,rfl,.inl (ac.of (s6 _ _ M5)),λq2 H7 n7 s7 e7=>?_⟩;refine⟨An,λq3 H8 n8 s8 e8=>?_⟩;have O:=sp.trans (s6.trans (s7.trans s8));have pl:=bA gt;rw[eR]at pl;refine⟨fB.k (k:=.inr x) (O _ _ gH) (bY (by omega)),?_⟩;have IG:x∉(ow.take i).map (·.1):=by
    rw[X2];intro hm;obtain⟨j,hj,ej⟩:=Mw.mp hm;rw[eR,aj]at hj;rw[List.getElem_take]at ej;have e1:(ow.map (·.1))[j]?=some x:=by rw[hX (by rw[aj];omega),ej]
    have e2:(ow.map (·.1))[i]?=some x:=by rw[dN,hf];rfl
    have:=(Yr (l:=ow.map (·.1)) (i:=j) (j:=i) (by rw[aj];omega) nd).mp (by rw[e1,e2]);omega
   have a0:∀b,H8 b=none->H b=none:=λb e=>Y b (O.free e);refine⟨_,_,_,rfl,λb z e J=>?_,λb e=>a0 b (lC e).2,aw (O _ _ h5) od.symm,aB,?_⟩
   . rw[aQ (λy=>by rw[y,n1]at e;cases e)];exact O _ _ (k5 _ _ e J)
   rw[hZ,hf];have:=je (F:=jQ H H8) (hk H8) (x:=x) (ls:=(b1,m1)) (v:=.ref q3) ⟨rfl,q3,q1,q2,rfl,Y _ (sp.free (s6.free (s7.free n8))),Y _ (sp.free n6),Y _ (sp.free (s6.free n7)),e8,s8 _ _ (s7 _ _ e6),s8 _ _ e7⟩ (av gt λ_ _=>jQ.same λb z e _=>O _ _ e);rw[zc IG]at this;exact av this λ_ _=>jQ.put (O _ _ gH)
 intro Z G gX;refine bq ?_;intro tT;obtain⟨u,v,U,rfl,k5,Y,h5,gH,gt⟩:=gX
 first | (refine ub (g:=ki _) ?_;intro eQ sQ) | (refine ub (g:=tw _ _ _) ?_;intro eQ sQ) | skip
 rw[bA pr,ff]at gt;refine⟨q d _ U n1 (λb z e=>?_) (aw gH od) (av gt λ_ _=>jQ.same λb z e J=>aw e (λy=>by rw[y,ho]at J;cases J))⟩
 by_cases J:b=o
 . subst J;rw[ho]at e;cases e;exact aB
 exact aw (k5 b z e J) J
inductive IH (T:Addr):Sp where
 | mk {H:Hp}{Q:VK}{E:XK}{x dx c h o:Addr}{kvs G:List (ak×V)}{ow:Ow} (_:H x=some (.ins T dx [])) (_:H c=some (.dK kvs)) (_:H h=some (.dK G)) (_:kI H o ow) (_:(ow.map (·.1)).Nodup) (_:ow.length<=400) (_:∀(H':Hp) (fl:List (Str×V)) (c' h' o':Addr) (j:List (ak×V)),(∀b o,H b=some o->b≠x->H' b=some o)->H' x=some (.ins T dx fl)->fl.lookup (ayh:Str)=some (.ref c')->fl.lookup (ayr:Str)=some (.ref h')->fl.lookup (ayB:Str)=some (.ref o') ->
  H c'=none->H h'=none->H o'=none->H' c'=some (.dK kvs)->H' h'=some (.dK G)->H' o'=some (.dK j)->Paired (jQ H H') j ow->Q .non H'):IH T [.ref x,.ref c,.ref h,.ref o] H Q E
theorem aks:aN [aya,ayh,ayr,ayB] [aya,ayh,ayr,ayB] (au we):=aV
theorem eW.over{Hk j:Hp}{fl:List (Str×V)}(S:eW C dx x H Hk fl)(s:aa Hk j):eW C dx x H j fl:=⟨λb o e G=>s _ _ (S.same b o e G),λb e=>S.free b (s.free e),s _ _ S.ob⟩
theorem CB(j:Pg K mg base Pt):aA P w K mg base aJ 2 j.TIn.f j.TIn.fd [aya,ayh,ayr,ayB] (IH j.T):=by
 refine j.TIn.u.okL aks ?_;intro ar A outer s H vs Q E hr h xX dX;obtain @⟨_,_,_,x,dx,c,h,o,kvs,zt,ow,J,hc,hh,ho,nd,wJ,q⟩:=h;refine⟨_,(ah (iW (pv 0) (dR vO (by rfl) j.B.dict AY (ao (pv 1))) rfl)
  (ah (iW (pv 0) (dR vO (by rfl) j.B.dict AY (ao (pv 2))) rfl)
  (al (iW (pv 0) (aF (akq j) hr rfl (ao (pv 3))) rfl)))),?_⟩
 refine i9 ?_;intro dD sS gs eh;have S0:eW j.T dx x H H []:=⟨λ_ _ e _=>e,λ_ e=>e,J⟩;have ch:∀{b:Addr}{ks:List (ak×V)},H b=some (.dK ks)->b≠x:=λe=>be e J (by intro z;cases z);refine⟨c,_,rfl,hc,λc1 H1 n1 s1 e1=>?_⟩;have S1:=S0.over s1;refine⟨S1.ob,j.UT.cl,j.UT.nC,(by decide),?_⟩;have S2:eW j.T dx x H _ (ay ayh (.ref c1) []):=S1.put;have II:c1≠x:=(aH J n1).symm;have c2:(upd H1 x (.ins j.T dx (ay ayh (.ref c1) []))) c1=some (.dK kvs):=aw e1 II;refine⟨h,_,rfl,S2.same _ _ hh (ch hh),λh1 H3 n3 s3 e3=>?_⟩;have S3:=S2.over s3;have RD:=S2.free _ n3;refine⟨S3.ob,j.UT.cl,j.UT.nH,few (lp pD) (by decide),?_⟩;have G:eW j.T dx x H _ (ay ayr (.ref h1) (ay ayh (.ref c1) [])):=S3.put;have RE:h1≠x:=(aH J RD).symm;obtain⟨ko,zu,zv⟩:=ho;have rH:Paired (cD (upd H3 x (.ins j.T dx (ay ayr (.ref h1) (ay ayh (.ref c1) []))))) ko ow:=av zv λkv e z=>by
  obtain⟨z1,t,l1,l2,z2,O,U,Y⟩:=z;exact⟨z1,t,l1,l2,z2,G.same _ _ O (be O J (by intro z;cases z)),G.same _ _ U (be U J (by intro z;cases z)),G.same _ _ Y (be Y J (by intro z;cases z))⟩
 refine⟨G.same _ _ zu (ch zu),rH,nd,wJ,λo1 H5 lQ n5 s5 e5 gt=>?_⟩;have S5:=G.over s5;have RF:=G.free _ n5;refine⟨S5.ob,j.UT.cl,j.UT.nO,few (lp (lp pD)) (by decide),?_⟩;have a0:o1≠x:=(aH J RF).symm;have S6:eW j.T dx x H _ (ay ayB (.ref o1) (ay ayr (.ref h1) (ay ayh (.ref c1) []))):=S5.put;refine q _ _ c1 h1 o1 lQ S6.same S6.ob ?_ ?_ ?_ n1 RD RF (aw (s5 _ _ (aw (s3 _ _ c2) II)) II) (aw (s5 _ _ (aw e3 RE)) RE) (aw e5 a0) (av gt λkv e z=>?_)
 . rw[cO,ag (by decide +kernel),cO,ag (by decide +kernel),cO,ai rfl]
 . rw[cO,ag (by decide +kernel),cO,ai rfl]
 . rw[cO,ai rfl]
 obtain⟨z1,t,l1,l2,z2,m1,m2,m3,O,U,Y⟩:=z;have fx:∀{b:Addr}{z:HO},H5 b=some z->(∀fs,z≠.ins j.T dx fs)->b≠x:=λe hz=>be e S5.ob (hz _);exact⟨z1,t,l1,l2,z2,G.free _ m1,G.free _ m2,G.free _ m3,aw O (fx O (by intro fs z;cases z)),aw U (fx U (by intro fs z;cases z)),aw Y (fx Y (by intro fs z;cases z))⟩
theorem CF{Q:Addr->Hp->Prop}{E:XK}(hc:de H c ch)(hh:pJ H h cs)(ho:kI H o ow)(nd:(ow.map (·.1)).Nodup)(wJ:ow.length<=400)(q:∀x H',H x=none->aa H H'->(∀L,jd H L->ip T (msk L H') (.ref x) ch cs ow)->Q x H') :
 ∀x dx,H x=none->H dx=none->dx≠x->IH T (.ref x::([.ref c,.ref h,.ref o]++[])) (upd (upd H dx (.own x)) x (.ins T dx [])) (λv H2=>v=.non/\Q x H2) E:=by
 intro x dx J bC nx;have j:aa H (upd (upd H dx (.own x)) x (.ins T dx [])):=eM (fD bC) J;obtain⟨kvs,e1,e2⟩:=hc;obtain⟨zt,e3,e4⟩:=hh;refine⟨aB,j _ _ e1,j _ _ e3,ho.same j,nd,wJ,λH' fl c' h' o' ko keep qH O U l3 n1 n2 n3 g1 g2 g3 g4=>?_⟩;have Y:aa H H':=λb o e=>keep b o (j _ _ e) (aH e J);refine⟨rfl,q x H' J Y λL G=>⟨x,dx,fl,c',h',o',rfl,cw (G.free J) qH,O,U,l3,⟨kvs,cw (G.free (j.free n1)) g1,av e2 λkv e z=>?_⟩,⟨zt,cw (G.free (j.free n2)) g2,e4⟩,⟨ko,cw (G.free (j.free n3)) g3,av g4 λkv e z=>?_⟩⟩⟩
 . obtain⟨a,m,b,c⟩:=z;exact⟨a,m,b,cw (G.tup c) (Y _ _ c)⟩
 obtain⟨z1,t,O,U,z2,m1,m2,m3,z3,z4,z5⟩:=z;exact⟨z1,t,O,U,z2,cw (G.free (j.free m1)) z3,cw (G.free (j.free m2)) z4,cw (G.free (j.free m3)) z5⟩
end
end K71
namespace L2
theorem RG{X:Cx}(K:Fg){T id:String}{name:Str}{r:V->Lv->Hp->VK->Prop}{o e:Expr}{es:List Expr}{to:TE}{t:TA}{apos cj:Pos}(pa:PlainAttrs T)(slot:Slot T name id)(yq:typeOf (.builtin id)=pure (.type "method_descriptor"))(O:Fi X id r)(U:PE X o to)(J:PA X (e::es) t)(h:X.K=K:=by rfl)
 (Y:attributeBase o name X.env (eval o X.env)=eval o X.env:=by rfl)
 (j:((backTo cj (starEach (e::es) X.env)).all (λx=>!x.1) && (backToKw cj (keywordEach [] X.env)).all (λx=>x.1.isSome)
  && decide ((e::es).length+([]:List Keyword).length+(if ([]:List Keyword).isEmpty then 0 else 1)<30))=true:=by rfl)
 (oS:(apos.endLine == cj.line)=true:=by rfl) (hs:starEach (e::es) X.env=(false,eval e X.env)::starEach es X.env:=by rfl) (G:(backTo cj (starEach es X.env)).any (·.1)=false:=by rfl) :
 PE X (.Call (.Attribute o name apos) (e::es) [] cj) (Od K T r to t):=by
 subst h;exact dH pa slot yq O U J Y j oS hs G
theorem RH{X:Cx}(K:Fg)(h:X.K=K:=by rfl):nv X "str.join" (O6 K):=h▸vN
end L2
namespace K71
section
variable {c:Str}
structure CG(ch:Ch)(cs:Cs)(ow:Ow):Prop where
 nch:ch.length<64
 ncs:cs.length<64
 now:ow.length<64
 dch:(ch.map (·.1)).Nodup
 dcs:(cs.map (·.1)).Nodup
 dow:(ow.map (·.1)).Nodup
 ch:∀e∈ch,e.1.length<=60/\zr e.2
 cs:∀e∈cs,e.1.length<=60/\e.2.length<=60
 ow:∀e∈ow,e.1.length<=60/\e.2.1.length<=60/\e.2.2.length<=60/\(∀x∈e.2.1,x.length<=60)/\∀x∈e.2.2,x.length<=60
theorem uy(sep:Str)(ps:Ls):Txt.join sep ps=Str.join sep ps:=AU _ _
theorem RI(p:Str):(Str.ofString "own ")++p=Str.join spS [d8,p]:=by
 show _=d8++spS++p;rw[show(Str.ofString "own ")=d8++spS by decide +kernel]
theorem IJ{sep:Str}{ps:Ls}{b:Nat}(h:∀p∈ps,p.length<=b)(hs:sep.length<=1):(Str.join sep ps).length<=ps.length * (b+1):=by
 rw[<-uy];refine b8 BC ?_;have:=yA h;have h2:ps.length * sep.length<=ps.length * 1:=Nat.mul_le_mul_left _ hs;rw[Nat.mul_add];omega
inductive RJ:Sp where
 | mk {H:Hp}{Q:VK}{E:XK}{p:Str}{t j G:Addr}{b m:Ls} (_:H t=some (.tup [.ref j,.ref G])) (_:H j=some (.lst (b.map V.str))) (_:H G=some (.lst (m.map V.str))) (_:p.length<=60) (_:b.length<=60) (_:m.length<=60) (_:(∀x∈b,x.length<=60)) (_:(∀x∈m,x.length<=60)) (_:∀l H',H l=none->aa H H'->H' l=some (.lst ((eG (p,(b,m))).map V.str))->Q (.ref l) H'):RJ [.str p,.ref t] H Q E
theorem RK:aN [aye,ayG,"rows"] [aye,ayG] (au HL):=aV
theorem aku(zZ:Pg K mg base Pt):aA P w K mg base aJ 1 zZ.ChR.f zZ.ChR.fd [aye,ayG] RJ:=by
 refine zZ.ChR.u.okL RK ?_;intro ar A outer s H vs Q E hr h xX dX;obtain @⟨_,_,_,p,t,l1,l2,b,m,ht,h1,h2,hp,hb,hm,a0,a1,q⟩:=h;refine⟨_,(ah (aI (i:=2) RK.nd rfl (Or.inl rfl) (db (ao (vS bO (yD (pv 0))))))
  (ah (cp (dH iT qF qG nw (pv 2) (ao (gE ["line"] [] [] eF rfl (cU (bP fh (pv 1) am (λ_ _=>rfl))) (λ_ _ _ _=>(bf (i:=0) (show List.Nodup (["line"]:Ls) by decide +kernel) rfl (Or.inl rfl))) (λ_ _ _ _=>gQ) (λ_ _ _ _=>(vS bO (yD (pv 0))))))))
  (ah (cp (dH iT qF qG nw (pv 2) (ao (gE ["line"] [] [] eF rfl (cU (bP fh (pv 1) am (λ_ _=>rfl))) (λ_ _ _ _=>(bf (i:=0) (show List.Nodup (["line"]:Ls) by decide +kernel) rfl (Or.inl rfl))) (λ_ _ _ _=>gQ) (λ_ _ _ _=>(vS bO (yD (pv 0))))))))
  (al (aT (pv 2)))))),?_⟩
 refine lI ?_;intro dD sS nY gs eh;have z0:cQ [V.ref l1,V.ref l2] 0=some (V.ref l1):=rfl;have z1:cQ [V.ref l1,V.ref l2] 1=some (V.ref l2):=rfl;have e4:(Str.ofString "own ").length=4:=by decide +kernel
 refine⟨dW (by rw[e4];omega),dW (by omega),_,rfl,dW (by rw[e4];omega),Ac,λr H1 n1 O e1=>?_⟩;refine⟨.inl ⟨rfl,_,ac.of e1⟩,aX.of (O _ _ ht),z0,⟨_,ac.of (O _ _ h1)⟩,?_⟩;refine vZ (σ0:=[none]) (ac.of (O _ _ h1)) (λZ=>∃v,Z=[v]) ((b.map (fj ++ ·)).map V.str) (by rw[aj,aj,aj]) (dW (by rw[aj];omega)) ⟨_,rfl⟩ ?_ ?_
 . intro i z y Z H2 k hz G U hs Y;obtain⟨v,rfl⟩:=U;obtain⟨x,j,rfl⟩:=jg hz;rw[mi]at G;obtain⟨x',J,rfl⟩:=jg G;rw[j]at J;cases J;have:=a0 x (dM j);exact⟨dW (by show fj.length<=_;rw[nW];decide),dW (by omega),_,rfl,dW (by show fj.length+_<=_;rw[nW,oZ];omega),Y _ _ ⟨_,rfl⟩ (aa.refl _)⟩
 intro D1 H2 n2 e2 s2;refine⟨s2 _ _ e1,e2,dW (by simp only[aj,cT,kX];omega),?_⟩;have bM:=O.trans s2;have nr:∀{c:Addr}{o:HO},H c=some o->c≠r:=λe=>aH e n1;have k3:∀{c:Addr}{o:HO}{o':HO},H c=some o->upd H2 r o' c=some o:=λe=>aw (bM _ _ e) (nr e);refine⟨.inl ⟨rfl,_,ac.of aB⟩,aX.of (k3 ht),z1,⟨_,ac.of (k3 h2)⟩,?_⟩;refine vZ (σ0:=[none]) (ac.of (k3 h2)) (λZ=>∃v,Z=[v]) ((m.map (fk ++ ·)).map V.str) (by rw[aj,aj,aj]) (dW (by rw[aj];omega)) ⟨_,rfl⟩ ?_ ?_
 . intro i z y Z H3 k hz G U hs Y;obtain⟨v,rfl⟩:=U;obtain⟨x,j,rfl⟩:=jg hz;rw[mi]at G;obtain⟨x',J,rfl⟩:=jg G;rw[j]at J;cases J;have:=a1 x (dM j);exact⟨dW (by show fk.length<=_;rw[pF];decide),dW (by omega),_,rfl,dW (by show fk.length+_<=_;rw[pF,oZ];omega),Y _ _ ⟨_,rfl⟩ (aa.refl _)⟩
 intro D2 H3 n3 e3 s3;refine⟨s3 _ _ aB,e3,dW (by simp only[aj,cT,kX,bI];omega),?_⟩;refine⟨q r _ n1 (λc o e=>aw (s3 _ _ (k3 e)) (nr e)) ?_⟩;rw[aB];unfold eG;rw[dP,dP,<-RI];rfl
inductive CH (T:Addr):Sp where
 | mk {H:Hp}{Q:VK}{E:XK}{v:V}{ch:Ch}{cs:Cs}{ow:Ow} (_:ip T H v ch cs ow) (_:CG ch cs ow) (_:∀aY bi aD H',cS ch aY->cS cs bi->cS ow aD->aa H H'->Q (.str (Str.join lL (fY aY bi aD))) H'):CH T [v] H Q E
theorem IK:aN [ayA,"rows",aye] [ayA] (au HK):=aV
theorem RL{a b:Str}(j:a.length<=10)(G:b.length<=60)(J:c.length<=60):(([a,b,c].map (·.length)).sum + [a,b,c].length * spS.length)<=16777216:=by
 rw[show spS.length=1 by decide +kernel];simp only[bV,AN,List.sum_cons,List.sum_nil,cT,kX];omega
theorem RM{ms:List Int}(h:zr ms):(jP ms).length<=60:=by
 unfold jP;rw[<-uy];refine b8 BC ?_;have:=RB h;have:=h.1;rw[show lO.length=1 by decide +kernel,aj];omega
theorem RN{a b:Str}(j:a.length<=10)(G:b.length<=60)(J:c.length<=60):(Str.join spS [a,b,c]).length<=133:=by
 show(a++spS++(b++spS++c)).length<=133;simp only[ku,show spS.length=1 by decide +kernel];omega
theorem RO{ch:Ch}{cs:Cs}{ow:Ow}(j:CG ch cs ow){aY:Ch}{bi:Cs}{aD:Ow}(jw:aY.Perm ch)(Y:bi.Perm cs)(O:aD.Perm ow):(fY aY bi aD).length<=64+64+64 * 121/\∀y∈fY aY bi aD,y.length<=140:=by
 refine⟨?_,λy hy=>?_⟩
 . have:∀(l:Ow),(∀e∈l,e∈ow)->(l.flatMap eG).length<=l.length * 121:=by
    intro l
    induction l with
    | nil=>intro _;exact dC _
    | cons e l ih=>
     intro U;have h1:=ih λx J=>U x (bT _ J);obtain⟨_,h2,h3,_⟩:=j.ow e (U e bL);rw[xT,bI,cT];have:(eG e).length<=121:=by
      unfold eG;simp only[bI,aj,cT,kX];omega
     omega
   have h3:=this aD λe G=>O.mem_iff.mp G;have a1:=jw.length_eq;have a2:=Y.length_eq;have a3:=O.length_eq;have b1:=j.nch;have b2:=j.ncs;have b3:=j.now;have h4:aD.length * 121<=64 * 121:=MI _ (by omega);unfold fY;rw[bI,bI,aj,aj];omega
 unfold fY at hy
 rcases bR.mp hy with hy | hy
 . rcases bR.mp hy with hy | hy
   . obtain⟨e,G,rfl⟩:=cC.mp hy;obtain⟨k1,k2⟩:=j.ch e (jw.mem_iff.mp G);have:=RN (a:=gr) (by decide +kernel) k1 (RM k2);unfold iK;omega
   obtain⟨e,G,rfl⟩:=cC.mp hy;obtain⟨k1,k2⟩:=j.cs e (Y.mem_iff.mp G);have:=RN (a:=fX) (by decide +kernel) k1 k2;unfold io;omega
 obtain⟨e,G,hy⟩:=qD.mp hy;obtain⟨j1,j2,j3,j4,j5⟩:=j.ow e (O.mem_iff.mp G);unfold eG at hy
 rcases bR.mp hy with hy | hy
 . rcases bR.mp hy with hy | hy
   . rw[bD.mp hy,<-RI,ku,show(Str.ofString "own ").length=4 by decide +kernel];omega
   obtain⟨x,J,rfl⟩:=cC.mp hy;have:=j4 x J;show(fj++x).length<=140;rw[ku,nW,oZ];omega
 obtain⟨x,J,rfl⟩:=cC.mp hy;have:=j5 x J;show(fk++x).length<=140;rw[ku,pF,oZ];omega
theorem akx{ch:Ch}{cs:Cs}{ow:Ow}(j:CG ch cs ow){aY:Ch}{bi:Cs}{aD:Ow}(jw:aY.Perm ch)(J:bi.Perm cs)(G:aD.Perm ow):((fY aY bi aD).map (·.length)).sum+(fY aY bi aD).length * lL.length<=16777216:=by
 obtain⟨h1,h2⟩:=RO j jw J G;have:=yA h2;rw[show lL.length=1 by decide +kernel];omega
theorem RP(j:Pg K mg base Pt):aA P w K mg base aJ 2 j.Sho.f j.Sho.fd [ayA] (CH j.T):=by
 refine j.Sho.u.okL IK ?_;intro ar A outer s H vs Q E hr h xX dX;obtain @⟨_,_,_,v,ch,cs,ow,hS,G,q⟩:=h;have hu:=hr.units;obtain⟨a,dx,fl,c,h,o,rfl,ha,f1,f2,f3,⟨kc,RQ,IL⟩,⟨kh,RR,IM⟩,⟨ko,zu,zv⟩⟩:=hS;refine⟨_,(ah (qW (i:=1) [ayj] [ayA] [0] IK.nd rfl rfl eF rfl (cU (c8 (BE rfl) (by rfl) j.B.sorted vm (ao (bK (pv 0) rfl)))) (λ_ _ _ _=>(bf (i:=0) (show List.Nodup ([ayj,ayA]:Ls) by decide +kernel) rfl (Or.inl rfl))) (λ_ _ _ _=>gQ) (λ_ _ _ _=>(RG K mj xU xV (RH K) bO (ao (db (d6 bO (pv 0) (aF (ajW j) hr (by rfl) (ao (oV hu (i8 K (pv 1) rfl) (pv 0) (λ_ _=>rfl))))))))))
  (ah (cp (dH iT qF qG nw (pv 1) (ao (gE [ayQ] [ayA] [0] eF rfl (cU (c8 (BE rfl) (by rfl) j.B.sorted vm (ao (bK (pv 0) rfl)))) (λ_ _ _ _=>(bf (i:=0) (show List.Nodup ([ayQ,ayA]:Ls) by decide +kernel) rfl (Or.inl rfl))) (λ_ _ _ _=>gQ) (λ_ _ _ _=>(RG K mj xU xV (RH K) bO (ao (db (d6 bO (pv 0) (oV hu (i8 K (pv 1) rfl) (pv 0) (λ_ _=>rfl)))))))))))
  (ah (eK dZ rfl (cU (c8 (BE rfl) (by rfl) j.B.sorted vm (ao (bK (pv 0) rfl)))) (bf (i:=2) IK.nd rfl (Or.inl rfl))
   (al (cp (dH iT qF qG nw (pv 1) (ao (aF (aku j) hr (by rfl) (aL (pv 2) (oV hu (bK (pv 0) rfl) (pv 2) (λ_ _=>rfl)))))))))
  (al (aT (dH mj xU xV vN bO (ao (pv 1)))))))),?_⟩
 refine lI ?_;intro dD sS nY gs eh;have RS:∀kv f,dA H kv f->kv.1=Sum.inr f.1:=λkv f z=>z.1;have RT:∀kv f,pH kv f->kv.1=Sum.inr f.1:=λkv f z=>z.1;have BX:∀kv f,cD H kv f->kv.1=Sum.inr f.1:=λkv f z=>z.1;have lc:=bA IL;have lh:=bA IM;have lo:=bA zv;have b1:=G.nch;have b2:=G.ncs;have b3:=G.now;refine⟨ha,j.UT.cl,j.UT.nC,f1,c,kc,_,rfl,RQ,pE RS IL,by omega,λys hp hs l1 H1 n1 s1 e1=>⟨⟨_,ac.of e1⟩,?_⟩⟩;obtain⟨aY,jw,a5⟩:=Hh hp rfl;subst a5;have y1:aY.length=ch.length:=jw.length_eq;refine vZ (σ0:=[none,some (.ref a)]) (ac.of e1) (λZ=>∃v,Z=[v,some (.ref a)]) ((aY.map iK).map V.str) (by rw[aj,aj,aj,aj]) (dW (by rw[aj,aj];omega)) ⟨_,rfl⟩ ?_ ?_
 . intro i z y Z H2 k hz hy Y tz hk;obtain⟨v,rfl⟩:=Y;rw[mi]at hz hy;obtain⟨e,U,rfl⟩:=jg hz;obtain⟨e',kB,rfl⟩:=jg hy;rw[U]at kB;cases kB;have O:e∈ch:=jw.mem_iff.mp (dM U);obtain⟨u,ms,g1,g2,_,m,J,g3⟩:=mK RS IL (ge (f:=(·.1)) O);have J:u=.ref m:=J;subst J;have em:ms=e.2:=kG G.dch g2 (by exact O);subst em;have bM:=s1.trans tz;obtain⟨k1,k2⟩:=G.ch e O;refine⟨rfl,bM _ _ ha,j.UT.cl,j.UT.nC,f1,(by rw[<-g1];exact cn.k (k:=.inr e.1) (bM _ _ RQ)),?_⟩;refine⟨bM _ _ g3,k2,λH3 s3=>?_⟩;refine⟨A7,λr H4 n4 s4 e4=>?_⟩;refine⟨[gr,e.1,jP e.2],ac.of e4,RL (by decide +kernel) k1 (RM k2),?_⟩;have eE:=hk [some (.str e.1),some (.ref a)] H4 ⟨_,rfl⟩ (s3.trans s4);rw[uy];exact eE
 intro D1 H2 n2 e2 s2;have bM:=s1.trans s2;have RU:H D1=none:=s1.free n2;refine⟨.inl ⟨rfl,_,ac.of e2⟩,bM _ _ ha,j.UT.cl,j.UT.nH,f2,h,kh,_,rfl,bM _ _ RR,pE RT IM,by omega,λa9 Fq a1 l2 H3 n3 s3 e3=>⟨⟨_,ac.of e3⟩,?_⟩⟩;obtain⟨bi,kK,a6⟩:=Hh Fq rfl;subst a6;have y2:bi.length=cs.length:=kK.length_eq;have gY:=bM.trans s3;refine vZ (σ0:=[none,some (.ref a)]) (ac.of e3) (λZ=>∃v,Z=[v,some (.ref a)]) ((bi.map io).map V.str) (by rw[aj,aj,aj,aj]) (dW (by rw[aj,aj];omega)) ⟨_,rfl⟩ ?_ ?_
 . intro i z y Z H4 k hz hy Y a3 hk;obtain⟨v,rfl⟩:=Y;rw[mi]at hz hy;obtain⟨e,U,rfl⟩:=jg hz;obtain⟨e',kB,rfl⟩:=jg hy;rw[U]at kB;cases kB;have O:e∈cs:=kK.mem_iff.mp (dM U);obtain⟨u,nm,g1,g2,_,J⟩:=mK RT IM (ge (f:=(·.1)) O);have J:u=.str nm:=J;subst J;have em:nm=e.2:=kG G.dcs g2 (by exact O);subst em;have rJ:=gY.trans a3;obtain⟨k1,k2⟩:=G.cs e O;refine⟨rfl,rJ _ _ ha,j.UT.cl,j.UT.nH,f2,(by rw[<-g1];exact cn.k (k:=.inr e.1) (rJ _ _ RR)),?_⟩;refine⟨A7,λr H5 n5 s5 e5=>?_⟩;refine⟨[fX,e.1,e.2],ac.of e5,RL (by decide +kernel) k1 k2,?_⟩;have eE:=hk [some (.str e.1),some (.ref a)] H5 ⟨_,rfl⟩ s5;rw[uy];exact eE
 intro D2 H4 n4 e4 s4;have rJ:=gY.trans s4;refine⟨s4 _ _ (s3 _ _ e2),e4,dW (by simp only[aj];omega),?_⟩;have k5:∀{b:Addr}{z o':HO},H b=some z->upd H4 D1 o' b=some z:=λe=>aw (rJ _ _ e) (aH e RU);refine⟨k5 ha,j.UT.cl,j.UT.nO,f3,o,ko,_,rfl,k5 zu,pE BX zv,by omega,λab a2 a0 l3 H6 n6 s6 e6=>⟨⟨_,ac.of e6⟩,?_⟩⟩;obtain⟨aD,jx,a7⟩:=Hh a2 rfl;subst a7;have y3:aD.length=ow.length:=jx.length_eq;have f6:H6 D1=some (.lst ((aY.map iK++bi.map io).map V.str)):=by
  rw[dP];exact s6 _ _ aB
 have k6:∀{b:Addr}{z:HO},H b=some z->H6 b=some z:=λe=>s6 _ _ (k5 e);have a4:l3≠D1:=λz=>by
  subst z;rw[aB]at n6;cases n6
 have rl:∀i,((aD.take i).flatMap eG).length<=64 * 121:=λi=>by
  have:∀(l:Ow),(∀e∈l,e∈ow)->(l.flatMap eG).length<=l.length * 121:=by
   intro l
   induction l with
   | nil=>intro _;exact dC _
   | cons e l ih=>
    intro hm;have h1:=ih λx hx=>hm x (bT _ hx);obtain⟨_,h2,h3,_⟩:=G.ow e (hm e bL);rw[xT,bI,cT];have:(eG e).length<=121:=by
     unfold eG;simp only[bI,aj,cT,kX];omega
    omega
  refine b8 (this _ λe U=>jx.mem_iff.mp (AT U)) ?_;rw[eR];have:min i aD.length<=64:=by omega
  exact MI _ this
 refine ib (xs:=(aD.map (·.1)).map V.str) (λi Z H7=>∃u,Z=[some (.ref a),some (.ref D1),u]/\(∀b z,H b=some z->H7 b=some z)/\H7 l3=some (.lst ((aD.map (·.1)).map V.str))/\H7 D1=some (.lst ((aY.map iK++bi.map io++(aD.take i).flatMap eG).map V.str))) ⟨none,rfl,λb z e=>k6 e,e6,by rw[Ys,List.flatMap_nil,jX];exact f6⟩ ?_ ?_ ?_
 . intro i Z H7 hi Y;obtain⟨u,rfl,_,h7,_⟩:=Y;exact ac.of h7
 . intro i z Z H7 hz Y;obtain⟨u,rfl,k7,l7,d7⟩:=Y;rw[mi]at hz;obtain⟨e,U,rfl⟩:=jg hz;have O:e∈ow:=jx.mem_iff.mp (dM U);obtain⟨u2,bm,g1,g2,_,t,q1,q2,J,g5,g6,g7⟩:=mK BX zv (ge (f:=(·.1)) O);have J:u2=.ref t:=J;subst J;have em:bm=e.2:=kG G.dow g2 (by exact O);subst em;obtain⟨j1,j2,j3,j4,j5⟩:=G.ow e O;refine⟨.inl ⟨rfl,_,ac.of d7⟩,k7 _ _ ha,j.UT.cl,j.UT.nO,f3,(by rw[<-g1];exact cn.k (k:=.inr e.1) (k7 _ _ zu)),?_⟩;refine⟨k7 _ _ g5,k7 _ _ g6,k7 _ _ g7,j1,j2,j3,j4,j5,λr H8 n8 s8 e8=>?_⟩;have a8:=rl i;refine⟨s8 _ _ d7,e8,dW ?_,?_⟩
   . have:(eG e).length<=121:=by
      unfold eG;simp only[bI,aj,cT,kX];omega
     rw[aj,aj,bI,bI,aj,aj];show _+(eG (e.1,(e.2.1,e.2.2))).length<=_;have e0:(eG (e.1,(e.2.1,e.2.2)))=eG e:=rfl;rw[e0];omega
   refine⟨_,rfl,λb z hb=>aw (s8 _ _ (k7 _ _ hb)) (aH hb RU),aw (s8 _ _ l7) a4,?_⟩;rw[aB,hZ,U,<-dP];show some (HO.lst (List.map V.str (aY.map iK++bi.map io++(aD.take i).flatMap eG++eG e)))=some (HO.lst (List.map V.str (aY.map iK++bi.map io++(aD.take i++[e]).flatMap eG)));rw[AZ,j7 (List.map iK aY++List.map io bi),List.flatMap_singleton]
 intro Z H7 Y;obtain⟨u,rfl,k7,l7,d7⟩:=Y;rw[aj,aj,ff]at d7;refine⟨rfl,fY aY bi aD,ac.of d7,?_,?_⟩
 . exact akx G jw kK jx
 rw[uy];exact q aY bi aD H7 ⟨jw,hs⟩ ⟨kK,a1⟩ ⟨jx,a0⟩ (λb z e=>k7 b z e)
theorem akG{p:Str}(h:(v9 p).isSome=true):v8 p=true/\0<p.length/\p.length<=10/\(NumText.digitsVal p.cps.toList:Int)<=1000000000:=by
 unfold v9 at h;split at h
 . rename_i h1;obtain⟨h2,j⟩:=xN.mp h1;have h2:=cH h2;split at h
   . cases h
   split at h
   . cases h
   exact⟨j,h2.1,h2.2,by omega⟩
 cases h
theorem akH{t:Str}(h:uq t=true):(Txt.split t lO).length<=3/\∀p∈Txt.split t lO,(v9 p).isSome=true:=by
 unfold uq at h;obtain⟨h1,h2⟩:=xN.mp h;exact⟨cH h1,iQ.mp h2⟩
theorem akI{j:Str}(h:jO j=true)(h1:Txt.startswith j fj=false)(h2:Txt.startswith j fk=false) :
 (∃p,Txt.split j spS=[d8,p])\/(∃n x,Txt.split j spS=[gr,n,x]/\uq x=true)\/∃n x,Txt.split j spS=[fX,n,x]:=by
 unfold jO at h;rw[h1,h2,sO,ag (by decide)]at h;generalize Txt.split j spS=J at h
 match J,h with
 | [w,p],h=>
  have h:=cH (xN.mp h).1;rw[h];exact .inl ⟨p,rfl⟩
 | [w,n,x],h=>
  obtain⟨_,h⟩:=xN.mp h
  by_cases G:w=gr
  . rw[ai G]at h;rw[G];exact .inr (.inl ⟨n,x,rfl,h⟩)
  rw[ag G]at h;have h:=cH (xN.mp h).1;rw[h];exact .inr (.inr ⟨n,x,rfl⟩)
def nZ(H7:Hp)(ck:Option Str)(ct cE cF:Addr)(b m:Ls)(kv:ak×V)(e:Str×(Ls×Ls)):Prop:=
 kv.1=.inr e.1/\((ck=some e.1/\kv.2=.ref ct/\e.2=(b,m))\/(ck≠some e.1/\∃t j G,kv.2=.ref t/\H7 t=some (.tup [.ref j,.ref G])/\H7 j=some (.lst (e.2.1.map V.str))/\H7 G=some (.lst (e.2.2.map V.str))/\j≠cE/\j≠cF/\G≠cE/\G≠cF))
structure f8(H H7:Hp)(dc dh dO ct cE cF:Addr)(s:Nt):Prop where
 old:∀b z,H b=some z->H7 b=some z
 nc:H dc=none
 nh:H dh=none
 no:H dO=none
 n1:H cE=none
 n2:H cF=none
 d1:dc≠dh
 d2:dc≠dO
 d3:dh≠dO
 d4:cE≠cF
 ch:∃kc,H7 dc=some (.dK kc)/\Paired (dA H7) kc s.ch
 cs:∃kh,H7 dh=some (.dK kh)/\Paired pH kh s.cs
 hct:H7 ct=some (.tup [.ref cE,.ref cF])
 c1:H7 cE=some (.lst (s.b.map V.str))
 c2:H7 cF=some (.lst (s.m.map V.str))
 ow:∃ko,H7 dO=some (.dK ko)/\Paired (nZ H7 s.ck ct cE cF s.b s.m) ko s.ow
 ck:∀p,s.ck=some p->p∈s.ow.map (·.1)
section
variable {H H7 H8:Hp}{dc dh dO ct cE cF:Addr}{s:Nt}
theorem nZ.keep{ck:Option Str}{b m:Ls}{kv:ak×V}{e:Str×(Ls×Ls)}(k:∀c z,H7 c=some z->(∀ks,z≠.dK ks)->c≠cE->c≠cF->H8 c=some z)(h1:∃xs,H7 cE=some (.lst xs))(h2:∃xs,H7 cF=some (.lst xs))(h:nZ H7 ck ct cE cF b m kv e):nZ H8 ck ct cE cF b m kv e:=by
 obtain⟨a,h⟩:=h;refine⟨a,?_⟩
 rcases h with h | ⟨nk,t,U,Y,e1,e2,e3,e4,j,G,J,O⟩
 . exact .inl h
 obtain⟨x1,h1⟩:=h1;obtain⟨x2,h2⟩:=h2;exact .inr ⟨nk,t,U,Y,e1,k _ _ e2 (by intro ks z;cases z) (be e2 h1 (by intro z;cases z)) (be e2 h2 (by intro z;cases z)),k _ _ e3 (by intro ks z;cases z) j G,k _ _ e4 (by intro ks z;cases z) J O,j,G,J,O⟩
theorem f8.same(N:f8 H H7 dc dh dO ct cE cF s)(j:aa H7 H8):f8 H H8 dc dh dO ct cE cF s where
 old:=λb z e=>j _ _ (N.old b z e)
 nc:=N.nc
 nh:=N.nh
 no:=N.no
 n1:=N.n1
 n2:=N.n2
 d1:=N.d1
 d2:=N.d2
 d3:=N.d3
 d4:=N.d4
 ch:=N.ch.elim λU G=>G.elim λa b=>⟨U,j _ _ a,av b λ_ _=>dA.same j⟩
 cs:=N.cs.elim λY J=>J.elim λa b=>⟨Y,j _ _ a,b⟩
 hct:=j _ _ N.hct
 c1:=j _ _ N.c1
 c2:=j _ _ N.c2
 ow:=N.ow.elim λko O=>O.elim λa b=>⟨ko,j _ _ a,av b λ_ _=>nZ.keep (λ_ _ e _ _ _=>j _ _ e) ⟨_,N.c1⟩ ⟨_,N.c2⟩⟩
 ck:=N.ck
theorem f8.inn(N:f8 H H7 dc dh dO ct cE cF s){j:List (ak×V)}(J:H7 dc=some (.dK j)){n:Str}{ms:List Int}{m:Addr}(hm:H7 m=some (.tup (ms.map V.int))) :
 f8 H (upd H7 dc (.dK (cL j (.inr n) (.ref m)))) dc dh dO ct cE cF { s with ch:=bw s.ch n ms }:=by
 have up:∀c z,H7 c=some z->(∀ks,z≠.dK ks)->upd H7 dc (.dK (cL j (.inr n) (.ref m))) c=some z:=λc z e hz=>aw e (be e J (hz _));obtain⟨a3,G,O⟩:=N.ch;rw[J]at G;cases G;obtain⟨kh,b1,b2⟩:=N.cs;obtain⟨ko,o1,o2⟩:=N.ow;exact {
  old:=λb z e=>aw (N.old b z e) (aH e N.nc)
  nc:=N.nc,nh:=N.nh,no:=N.no,n1:=N.n1,n2:=N.n2,d1:=N.d1,d2:=N.d2,d3:=N.d3,d4:=N.d4
  ch:=⟨_,aB,av (je (F:=dA H7) (λkv f z=>z.1) (x:=n) (ls:=ms) (v:=.ref m) ⟨rfl,m,rfl,hm⟩ O) λkv f U=>U.elim λx1 Y=>Y.elim λx2 a0=>a0.elim λx3 x4=>⟨x1,x2,x3,up _ _ x4 (by intro ks z;cases z)⟩⟩
  cs:=⟨kh,aw b1 N.d1.symm,b2⟩
  hct:=up _ _ N.hct (by intro ks z;cases z)
  c1:=up _ _ N.c1 (by intro ks z;cases z)
  c2:=up _ _ N.c2 (by intro ks z;cases z)
  ow:=⟨ko,aw o1 N.d2.symm,av o2 λ_ _=>nZ.keep (λc z e hz _ _=>up c z e hz) ⟨_,N.c1⟩ ⟨_,N.c2⟩⟩
  ck:=N.ck }
theorem f8.cho(N:f8 H H7 dc dh dO ct cE cF s){j:List (ak×V)}(J:H7 dh=some (.dK j)){n:Str} :
 f8 H (upd H7 dh (.dK (cL j (.inr c) (.str n)))) dc dh dO ct cE cF { s with cs:=bw s.cs c n }:=by
 have up:∀b z,H7 b=some z->(∀ks,z≠.dK ks)->upd H7 dh (.dK (cL j (.inr c) (.str n))) b=some z:=λb z e hz=>aw e (be e J (hz _));obtain⟨kc,O,U⟩:=N.ch;obtain⟨a4,G,b2⟩:=N.cs;rw[J]at G;cases G;obtain⟨ko,o1,o2⟩:=N.ow;exact {
  old:=λb z e=>aw (N.old b z e) (aH e N.nh)
  nc:=N.nc,nh:=N.nh,no:=N.no,n1:=N.n1,n2:=N.n2,d1:=N.d1,d2:=N.d2,d3:=N.d3,d4:=N.d4
  ch:=⟨kc,aw O N.d1,av U λkv f Y=>Y.elim λx1 a0=>a0.elim λx2 a3=>a3.elim λx3 x4=>⟨x1,x2,x3,up _ _ x4 (by intro ks z;cases z)⟩⟩
  cs:=⟨_,aB,je (F:=pH) (λkv f z=>z.1) (x:=c) (ls:=n) (v:=.str n) ⟨rfl,rfl⟩ b2⟩
  hct:=up _ _ N.hct (by intro ks z;cases z)
  c1:=up _ _ N.c1 (by intro ks z;cases z)
  c2:=up _ _ N.c2 (by intro ks z;cases z)
  ow:=⟨ko,aw o1 N.d3.symm,av o2 λ_ _=>nZ.keep (λc z e hz _ _=>up c z e hz) ⟨_,N.c1⟩ ⟨_,N.c2⟩⟩
  ck:=N.ck }
theorem RV{ck:Option Str}{b m b' m':Ls}{O:List (ak×V)}{ow:Ow}(hc:∀p,ck=some p->p∈ow.map (·.1))(k:∀c z,H7 c=some z->c≠cE->c≠cF->H8 c=some z)(h1:∃xs,H7 cE=some (.lst xs))(h2:∃xs,H7 cF=some (.lst xs))
 (h:Paired (nZ H7 ck ct cE cF b m) O ow):Paired (nZ H8 ck ct cE cF b' m') O (iJ ow ck (b',m'))/\(iJ ow ck (b',m')).map (·.1)=ow.map (·.1):=by
 obtain⟨x1,h1⟩:=h1;obtain⟨x2,h2⟩:=h2;have U:∀{t j G:Addr}{e:Ls×Ls},H7 t=some (.tup [.ref j,.ref G])/\H7 j=some (.lst (e.1.map V.str))/\H7 G=some (.lst (e.2.map V.str))/\j≠cE/\j≠cF/\G≠cE/\G≠cF->H8 t=some (.tup [.ref j,.ref G])/\H8 j=some (.lst (e.1.map V.str))/\H8 G=some (.lst (e.2.map V.str))/\j≠cE/\j≠cF/\G≠cE/\G≠cF:=by
  rintro t j G e ⟨e2,e3,e4,Y,e6,e7,e8⟩;exact⟨k _ _ e2 (be e2 h1 (by intro z;cases z)) (be e2 h2 (by intro z;cases z)),k _ _ e3 Y e6,k _ _ e4 e7 e8,Y,e6,e7,e8⟩
 cases ck with
 | none=>
  refine⟨av h λkv e z=>?_,rfl⟩;obtain⟨a,z⟩:=z
  rcases z with⟨z,_⟩ | ⟨J,t,j,G,e1,z⟩
  . cases z
  exact⟨a,.inr ⟨J,t,j,G,e1,U z⟩⟩
 | some p=>
  have hp:=hc p rfl;have e0:iJ ow (some p) (b',m')=ow.map λf=>if f.1=p then(f.1,(b',m')) else f:=ai (rq.mpr hp);refine⟨?_,?_⟩
  . rw[e0];clear e0 hp hc
    induction h with
    | nil=>exact .nil
    | @cons kv e O ow r t ih=>
     refine .cons ?_ ih;obtain⟨a,z⟩:=r;dsimp only
     by_cases ep:e.1=p
     . rw[ai ep]
       rcases z with⟨z1,z2,z3⟩ | ⟨J,_⟩
       . exact⟨a,.inl ⟨by rw[ep],z2,rfl⟩⟩
       exact absurd (by rw[ep]) J
     rw[ag ep]
     rcases z with⟨z1,z2,z3⟩ | ⟨J,t,j,G,e1,z⟩
     . exact absurd (gM z1).symm ep
     exact⟨a,.inr ⟨J,t,j,G,e1,U z⟩⟩
  rw[e0,mi];refine ME λf _=>?_;show(if f.1=p then(f.1,(b',m')) else f).1=f.1;split<;>rfl
theorem f8.les(N:f8 H H7 dc dh dO ct cE cF s)(x:Str):f8 H (upd H7 cE (.lst (s.b.map V.str++[.str x]))) dc dh dO ct cE cF { s with ow:=iJ s.ow s.ck (s.b++[x],s.m),b:=s.b++[x] }:=by
 have up:∀c z,H7 c=some z->c≠cE->upd H7 cE (.lst (s.b.map V.str++[.str x])) c=some z:=λc z e hc=>aw e hc;have j:∀{c:Addr}{z:HO},H7 c=some z->(∀xs,z≠.lst xs)->c≠cE:=λe hz=>be e N.c1 (hz _);obtain⟨kc,G,Y⟩:=N.ch;obtain⟨kh,J,b2⟩:=N.cs;obtain⟨ko,O,o2⟩:=N.ow;obtain⟨p1,p2⟩:=RV (H8:=upd H7 cE (.lst (s.b.map V.str++[.str x]))) (b':=s.b++[x]) (m':=s.m) N.ck (λc z e h1 _=>up c z e h1) ⟨_,N.c1⟩ ⟨_,N.c2⟩ o2;exact {
  old:=λb z e=>aw (N.old b z e) (aH e N.n1)
  nc:=N.nc,nh:=N.nh,no:=N.no,n1:=N.n1,n2:=N.n2,d1:=N.d1,d2:=N.d2,d3:=N.d3,d4:=N.d4
  ch:=⟨kc,up _ _ G (j G (by intro xs z;cases z)),av Y λkv f a0=>a0.elim λx1 a3=>a3.elim λx2 a4=>a4.elim λx3 U=>⟨x1,x2,x3,up _ _ U (j U (by intro xs z;cases z))⟩⟩
  cs:=⟨kh,up _ _ J (j J (by intro xs z;cases z)),b2⟩
  hct:=up _ _ N.hct (j N.hct (by intro xs z;cases z))
  c1:=by rw[aB,tW]
  c2:=up _ _ N.c2 N.d4.symm
  ow:=⟨ko,up _ _ O (j O (by intro xs z;cases z)),p1⟩
  ck:=λp hp=>by
   show p∈(iJ s.ow s.ck (s.b++[x],s.m)).map (·.1);rw[p2];exact N.ck p hp }
theorem f8.mor(N:f8 H H7 dc dh dO ct cE cF s)(x:Str):f8 H (upd H7 cF (.lst (s.m.map V.str++[.str x]))) dc dh dO ct cE cF { s with ow:=iJ s.ow s.ck (s.b,s.m++[x]),m:=s.m++[x] }:=by
 have up:∀c z,H7 c=some z->c≠cF->upd H7 cF (.lst (s.m.map V.str++[.str x])) c=some z:=λc z e hc=>aw e hc;have j:∀{c:Addr}{z:HO},H7 c=some z->(∀xs,z≠.lst xs)->c≠cF:=λe hz=>be e N.c2 (hz _);obtain⟨kc,G,Y⟩:=N.ch;obtain⟨kh,J,b2⟩:=N.cs;obtain⟨ko,O,o2⟩:=N.ow;obtain⟨p1,p2⟩:=RV (H8:=upd H7 cF (.lst (s.m.map V.str++[.str x]))) (b':=s.b) (m':=s.m++[x]) N.ck (λc z e _ h1=>up c z e h1) ⟨_,N.c1⟩ ⟨_,N.c2⟩ o2;exact {
  old:=λb z e=>aw (N.old b z e) (aH e N.n2)
  nc:=N.nc,nh:=N.nh,no:=N.no,n1:=N.n1,n2:=N.n2,d1:=N.d1,d2:=N.d2,d3:=N.d3,d4:=N.d4
  ch:=⟨kc,up _ _ G (j G (by intro xs z;cases z)),av Y λkv f a0=>a0.elim λx1 a3=>a3.elim λx2 a4=>a4.elim λx3 U=>⟨x1,x2,x3,up _ _ U (j U (by intro xs z;cases z))⟩⟩
  cs:=⟨kh,up _ _ J (j J (by intro xs z;cases z)),b2⟩
  hct:=up _ _ N.hct (j N.hct (by intro xs z;cases z))
  c1:=up _ _ N.c1 N.d4
  c2:=by rw[aB,tW]
  ow:=⟨ko,up _ _ O (j O (by intro xs z;cases z)),p1⟩
  ck:=λp hp=>by
   show p∈(iJ s.ow s.ck (s.b,s.m++[x])).map (·.1);rw[p2];exact N.ck p hp }
theorem akZ{β:Type}{G F:ak×V->Str×β->Prop}(hk:∀kv f,G kv f->kv.1=Sum.inr f.1){x:Str}{ls:β}{v:V}(hv:F (.inr x,v) (x,ls))(hg:∀kv f,G kv f->f.1≠x->F kv f){kvs:List (ak×V)}{tr:List (Str×β)}(h:Paired G kvs tr):Paired F (cL kvs (.inr x) v) (bw tr x ls):=by
 have h':Paired (λkv f=>kv.1=Sum.inr f.1/\(f.1≠x->F kv f)) kvs tr:=av h λkv f z=>⟨hk kv f z,hg kv f z⟩;have:=je (F:=λkv f=>kv.1=Sum.inr f.1/\(f.1≠x->F kv f)) (λkv f z=>z.1) (x:=x) (ls:=ls) (v:=v) ⟨rfl,λz=>absurd rfl z⟩ h';have e:(kvs.any λkv=>decide (kv.1=Sum.inr x))=(tr.any λf=>decide (f.1=x)):=by
  clear this
  induction h' with
  | nil=>rfl
  | cons r t J=>
   cases h with
   | cons _ t0=>
   rw[sP,sP,J t0,r.1]
   congr 1
   exact xR.mpr ⟨λz=>md z,λz=>by rw[z]⟩
 clear this;unfold cL bw;rw[e];split
 . rename_i O;clear O e h
   induction h' with
   | nil=>exact .nil
   | @cons kv f kvs tr r t J=>
    refine .cons ?_ J;have Y:=r.1;dsimp only
    by_cases j:f.1=x
    . have yW:kv.1=Sum.inr x:=by rw[Y,j]
      rw[ai yW,ai j,yW,j];exact hv
    rw[ag (λz=>j (md (Y.symm.trans z))),ag j];exact r.2 j
 rename_i O;refine jK hv ?_;have U:x∉tr.map (·.1):=λz=>O (rq.mpr z);clear O e h
 induction h' with
 | nil=>exact .nil
 | @cons kv f kvs tr r t J=>
  rw[bV,aZ,mh]at U;exact .cons (r.2 λz=>U.1 z.symm) (J U.2)
theorem f8.own(N:f8 H H7 dc dh dO ct cE cF s){Y O U:Addr}(j:aa H7 H8)(f1:H7 O=none)(f2:H7 U=none)(ne:O≠U)(g1:H8 O=some (.lst []))(g2:H8 U=some (.lst []))(g3:H8 Y=some (.tup [.ref O,.ref U])){ko:List (ak×V)}(ho:H8 dO=some (.dK ko))(p:Str) :
 f8 H (upd H8 dO (.dK (cL ko (.inr p) (.ref Y)))) dc dh dO Y O U { s with ow:=bw s.ow p ([],[]),ck:=some p,b:=[],m:=[] }:=by
 have fr:∀b,H7 b=none->H b=none:=λb e=>by
  cases hb:H b with
  | none=>rfl
  | some z=>rw[N.old b z hb]at e;cases e
 have up:∀c z,H8 c=some z->(∀ks,z≠.dK ks)->upd H8 dO (.dK (cL ko (.inr p) (.ref Y))) c=some z:=λc z e hz=>aw e (be e ho (hz _));obtain⟨kc,a1,a2⟩:=N.ch;obtain⟨kh,b1,b2⟩:=N.cs;obtain⟨lQ,o1,o2⟩:=N.ow;have RX:=j _ _ o1;rw[ho]at RX;cases RX;exact {
  old:=λb z e=>aw (j _ _ (N.old b z e)) (aH e N.no)
  nc:=N.nc,nh:=N.nh,no:=N.no,n1:=fr _ f1,n2:=fr _ f2,d1:=N.d1,d2:=N.d2,d3:=N.d3,d4:=ne
  ch:=⟨kc,aw (j _ _ a1) N.d2,av a2 λkv f a0=>a0.elim λx1 a3=>a3.elim λx2 a4=>a4.elim λx3 x4=>⟨x1,x2,x3,up _ _ (j _ _ x4) (by intro ks z;cases z)⟩⟩
  cs:=⟨kh,aw (j _ _ b1) N.d3,b2⟩
  hct:=up _ _ g3 (by intro ks z;cases z)
  c1:=up _ _ g1 (by intro ks z;cases z)
  c2:=up _ _ g2 (by intro ks z;cases z)
  ow:=⟨_,aB,akZ (G:=nZ H7 s.ck ct cE cF s.b s.m) (λkv f z=>z.1) ⟨rfl,.inl ⟨rfl,rfl,rfl⟩⟩ (λkv f z hf=>by
   obtain⟨z1,z⟩:=z;have J:∀{l:Addr}{xs:Lv},H7 l=some (.lst xs)->l≠O/\l≠U:=λe=>⟨aH e f1,aH e f2⟩
   rcases z with⟨z2,z3,z4⟩ | ⟨nk,t,l1,l2,e1,e2,e3,e4,e5,e6,e7,e8⟩
   . refine⟨z1,.inr ⟨λy=>hf (gM y).symm,ct,cE,cF,z3,up _ _ (j _ _ N.hct) (by intro ks z;cases z),?_,?_,(J N.c1).1,(J N.c1).2,(J N.c2).1,(J N.c2).2⟩⟩
     . rw[z4];exact up _ _ (j _ _ N.c1) (by intro ks z;cases z)
     rw[z4];exact up _ _ (j _ _ N.c2) (by intro ks z;cases z)
   exact⟨z1,.inr ⟨λy=>hf (gM y).symm,t,l1,l2,e1,up _ _ (j _ _ e2) (by intro ks z;cases z),up _ _ (j _ _ e3) (by intro ks z;cases z),up _ _ (j _ _ e4) (by intro ks z;cases z),(J e3).1,(J e3).2,(J e4).1,(J e4).2⟩⟩) o2⟩
  ck:=λp' bW=>by
   cases bW;exact GW (.inl rfl) }
theorem f8.own_at(N:f8 H H7 dc dh dO ct cE cF s):kI H7 dO s.ow:=by
 obtain⟨J,Y,o2⟩:=N.ow;refine⟨J,Y,av o2 λkv e z=>?_⟩;obtain⟨j,z⟩:=z
 rcases z with⟨z2,z3,G⟩ | ⟨nk,t,O,U,e1,e2,e3,e4,_⟩
 . refine⟨j,ct,cE,cF,z3,N.hct,?_,?_⟩
   . rw[G];exact N.c1
   rw[G];exact N.c2
 exact⟨j,t,O,U,e1,e2,e3,e4⟩
end
theorem ak3{s:Nt}(h:(s.ch.map (·.1)).Nodup/\(s.cs.map (·.1)).Nodup/\(s.ow.map (·.1)).Nodup)(j:Str):((s.step j).ch.map (·.1)).Nodup/\((s.step j).cs.map (·.1)).Nodup/\((s.step j).ow.map (·.1)).Nodup:=by
 have G:∀r,((iJ s.ow s.ck r).map (·.1)).Nodup:=λr=>by
  unfold iJ;split
  . exact h.2.2
  exact jL h.2.2
 unfold Nt.step;split
 . exact⟨h.1,h.2.1,G _⟩
 . exact⟨h.1,h.2.1,G _⟩
 . exact⟨jL h.1,h.2⟩
 . exact⟨h.1,jL h.2.1,h.2.2⟩
 exact⟨h.1,h.2.1,jL h.2.2⟩
theorem ak4(rows:Ls):((gF rows).ch.map (·.1)).Nodup/\((gF rows).cs.map (·.1)).Nodup/\((gF rows).ow.map (·.1)).Nodup:=by
 have:∀(rows:Ls) (s:Nt),((s.ch.map (·.1)).Nodup/\(s.cs.map (·.1)).Nodup/\(s.ow.map (·.1)).Nodup)->((rows.foldl Nt.step s).ch.map (·.1)).Nodup/\((rows.foldl Nt.step s).cs.map (·.1)).Nodup/\((rows.foldl Nt.step s).ow.map (·.1)).Nodup:=by
  intro rows
  induction rows with
  | nil=>exact λs h=>h
  | cons r rows j=>exact λs h=>j _ (ak3 h r)
 exact this rows {} ⟨kY,kY,kY⟩
theorem ak5(s:Nt)(j:Str):(s.step j).ch.length<=s.ch.length+1/\(s.step j).cs.length<=s.cs.length+1/\(s.step j).ow.length<=s.ow.length+1/\(s.step j).b.length<=s.b.length+1/\(s.step j).m.length<=s.m.length+1:=by
 have G:∀r,(iJ s.ow s.ck r).length<=s.ow.length+1:=λr=>by
  unfold iJ;split
  . omega
  exact jM _ _ _
 unfold Nt.step;split
 . exact⟨by dsimp only;omega,by dsimp only;omega,G _,by simp,by dsimp only;omega⟩
 . exact⟨by dsimp only;omega,by dsimp only;omega,G _,by dsimp only;omega,by simp⟩
 . exact⟨jM _ _ _,by dsimp only;omega,by dsimp only;omega,by dsimp only;omega,by dsimp only;omega⟩
 . exact⟨by dsimp only;omega,jM _ _ _,by dsimp only;omega,by dsimp only;omega,by dsimp only;omega⟩
 exact⟨by dsimp only;omega,by dsimp only;omega,jM _ _ _,by simp,by simp⟩
theorem RY(rows:Ls):(gF rows).ch.length<=rows.length/\(gF rows).cs.length<=rows.length/\(gF rows).ow.length<=rows.length/\(gF rows).b.length<=rows.length/\(gF rows).m.length<=rows.length:=by
 have:∀(rows:Ls) (s:Nt),(rows.foldl Nt.step s).ch.length<=s.ch.length+rows.length/\(rows.foldl Nt.step s).cs.length<=s.cs.length+rows.length/\(rows.foldl Nt.step s).ow.length<=s.ow.length+rows.length/\(rows.foldl Nt.step s).b.length<=s.b.length+rows.length/\(rows.foldl Nt.step s).m.length<=s.m.length+rows.length:=by
  intro rows
  induction rows with
  | nil=>exact λs=>⟨aG _,aG _,aG _,aG _,aG _⟩
  | cons r rows j=>
   intro s;obtain⟨G,J,O,U,Y⟩:=j (s.step r);obtain⟨b1,b2,b3,b4,b5⟩:=ak5 s r;rw[j6,cT];exact⟨by omega,by omega,by omega,by omega,by omega⟩
 have h:=this rows {};simp only[kX,Et]at h;exact h
theorem ak6(rows:Ls)(r:Str):gF (rows++[r])=(gF rows).step r:=by
 unfold gF;rw[qE];rfl
theorem IN{x y:Str}{b:Bool}(h:decide (V.str x=V.str y)=b):decide (x=y)=b:=by
 rw[<-h];exact xR.mpr ⟨λz=>by rw[z],λz=>V.str.inj z⟩
inductive RZ:Sp where
 | mk {H:Hp}{Q:VK}{E:XK}{x:Str} (_:x.length<=70000) (_:uq x=true) (_:∀p H',H p=none->aa H H'->H' p=some (.tup ((rD x).map V.int))->Q (.ref p) H'):RZ [.str x] H Q E
theorem ak7:aN [ayq] [ayq] (au HN):=aV
theorem ak8(G:Pg K mg base Pt):aA P w K mg base aJ 1 G.MkN.f G.MkN.fd [ayq] RZ:=by
 refine G.MkN.u.okL ak7 ?_;intro ar A outer s H vs Q E hr h xX dX;obtain @⟨_,_,_,x,hx,hb,q⟩:=h;obtain⟨m1,m2⟩:=akH hb;refine⟨_,(al (aT (dR abC (by rfl) G.B.tuple PyProof.Rows.boot_tuple (ao (gE ["part"] [] [] eF rfl (cU (dH mj MF MG B0 (pv 0) (ao bO))) (λ_ _ _ _=>(bf (i:=0) (show List.Nodup (["part"]:Ls) by decide +kernel) rfl (Or.inl rfl))) (λ_ _ _ _=>gQ) (λ_ _ _ _=>(dR ahZ (by rfl) G.B.int PyProof.Rows.boot_int (ao (pv 0))))))))),?_⟩;have a0:=split_le x lO;refine⟨rfl,x,lO,rfl,rfl,by decide +kernel,dW (by omega),λl H1 n1 s1 e1=>⟨⟨_,ac.of e1⟩,?_⟩⟩;refine vZ (σ0:=[none]) (ac.of e1) (λZ=>∃v,Z=[v]) ((rD x).map V.int) (by unfold rD;rw[aj,aj,aj]) (dW (by rw[aj];omega)) ⟨_,rfl⟩ ?_ ?_
 . intro i z y Z H2 k hz J hQ hs hk;obtain⟨v,rfl⟩:=hQ;obtain⟨p,j,rfl⟩:=jg hz;unfold rD at J;rw[mi]at J;obtain⟨p',O,rfl⟩:=jg J;rw[j]at O;cases O;obtain⟨Y,g2,g3,_⟩:=akG (m2 p (dM j));exact⟨p,_,rfl,aje Y g2 (by omega),by omega,hk _ _ ⟨_,rfl⟩ (aa.refl _)⟩
 intro D H2 hD hd hs;refine⟨D,_,rfl,.inl ⟨ac.of hd,λp j=>?_⟩⟩;have U:=s1.trans hs;exact q p _ (U.free j) (U.trans (fD j)) aB
theorem CJ(H:Hp):msk [] H=H:=by
 funext b
 unfold msk;exact ag (λz=>nomatch z)
inductive IP (T:Addr):Sp where
 | mk {H:Hp}{Q:VK}{E:XK}{t:Str} (_:t.length<=60000) (_:(rowsOf t).length<=400) (_:(∀r∈rowsOf t,jO r=true)) (_:∀v H',aa H H'->(∀L,jd H L->ip T (msk L H') v (gF (rowsOf t)).ch (gF (rowsOf t)).cs (gF (rowsOf t)).ow)->Q v H'):IP T [.str t] H Q E
theorem rL:aN [ayq,ayh,ayr,ayB,ayG,"row","words"] [ayq] (au HM):=aV
theorem ak9{t r:Str}(h:r∈rowsOf t):r.length<=t.length:=by
 unfold rowsOf at h;split at h
 . cases h
 exact IE h
theorem ala(zZ:Pg K mg base Pt):aA P w K mg base aJ 4 zZ.Not.f zZ.Not.fd [ayq] (IP zZ.T):=by
 refine zZ.Not.u.okL rL ?_;intro ar A outer s H vs Q E hr h xX dX;obtain @⟨_,_,_,t,ht,hn,hg,q⟩:=h;have hu:=hr.units;have eA:=hr.mono (j:=1) (by decide);refine⟨_,(ah (aI (i:=1) rL.nd rfl (Or.inl rfl) kC) (ah (aI (i:=2) rL.nd rfl (Or.inl rfl) kC) (ah (aI (i:=3) rL.nd rfl (Or.inl rfl) kC) (ah (aI (i:=4) rL.nd rfl (Or.inl rfl) (eT (aL (db dG) (db dG))))
  (ah (eK dZ rfl (cU (aF (ajT zZ) eA (by rfl) (ao (pv 0)))) (bf (i:=5) rL.nd rfl (Or.inl rfl))
   (ah (aI (i:=6) rL.nd rfl (Or.inl rfl) (dH mj MF MG B0 (pv 5) (ao bO))) (al (cg (mr (dH mj awH awI QB (pv 5) (ao bO))) (al (cp (dH iT vn vo oU (bP fh (pv 4) am (λ_ _=>rfl)) (ao (nn Bu (pv 5) (lw am) qQ))))) (al (cg (mr (dH mj awH awI QB (pv 5) (ao bO))) (al (cp (dH iT vn vo oU (bP fh (pv 4) am (λ_ _=>rfl)) (ao (nn Bu (pv 5) (lw am) qQ))))) (al (cg (bS fO (bP fV (pv 6) am (λ_ _=>rfl)) bO (bJ _)) (al (iC hu (pv 1) (bP fV (pv 6) am (λ_ _=>rfl)) (aF (ak8 zZ) eA (by rfl) (ao (bP fV (pv 6) am (λ_ _=>rfl)))) rfl)) (al (cg (bS fO (bP fV (pv 6) am (λ_ _=>rfl)) bO (bJ _)) (al (iC hu (pv 2) (bP fV (pv 6) am (λ_ _=>rfl)) (bP fV (pv 6) am (λ_ _=>rfl)) rfl)) (ah (aI (i:=4) rL.nd rfl (Or.inl rfl) (eT (aL (db dG) (db dG)))) (al (iC hu (pv 3) (bP fV (pv 6) am (λ_ _=>rfl)) (pv 4) rfl)))))))))))))
  (al (aT (tI zZ.MTIn (up (CB zZ)) hr (by rfl) zZ.UT.mgC zZ.TIn.b .nil dv (d6 (pv 1) (pv 2) (pv 3)))))))))),?_⟩
 refine yE ?_;intro dD sS IQ CK nY gs eh;refine λdc H1 n1 s1 e1 dh H2 n2 s2 e2 dO H3 n3 s3 e3=>?_;refine⟨(by show 0<=sizeLine;exact dC _),λG H4 n4 s4 e4=>⟨(by show 0<=sizeLine;exact dC _),λJ H5 n5 s5 e5=>⟨An,λct H6 n6 s6 e6=>?_⟩⟩⟩;have a2:=s1.trans (s2.trans (s3.trans (s4.trans s5)));have N0:f8 H H6 dc dh dO ct G J {}:={
  old:=λb z e=>s6 _ _ (a2 _ _ e)
  nc:=n1
  nh:=s1.free n2
  no:=(s1.trans s2).free n3
  n1:=(s1.trans (s2.trans s3)).free n4
  n2:=(s1.trans (s2.trans (s3.trans s4))).free n5
  d1:=aH e1 n2
  d2:=aH (s2 _ _ e1) n3
  d3:=aH e2 n3
  d4:=aH e4 n5
  ch:=⟨[],s6 _ _ (s5 _ _ (s4 _ _ (s3 _ _ (s2 _ _ e1)))),.nil⟩
  cs:=⟨[],s6 _ _ (s5 _ _ (s4 _ _ (s3 _ _ e2))),.nil⟩
  hct:=e6
  c1:=s6 _ _ (s5 _ _ e4)
  c2:=s6 _ _ e5
  ow:=⟨[],s6 _ _ (s5 _ _ (s4 _ _ e3)),.nil⟩
  ck:=λp hp=>nomatch hp }
 refine⟨by omega,λl H7 n7 s7 e7=>⟨⟨_,ac.of e7⟩,?_⟩⟩;refine ib (xs:=(rowsOf t).map V.str) (λi Z H8=>∃ct G J u v,Z=[some (.str t),some (.ref dc),some (.ref dh),some (.ref dO),some (.ref ct),u,v]/\H8 l=some (.lst ((rowsOf t).map V.str))/\l≠G/\l≠J/\f8 H H8 dc dh dO ct G J (gF ((rowsOf t).take i)))
  ⟨ct,G,J,none,none,rfl,e7,(aH N0.c1 n7).symm,(aH N0.c2 n7).symm,N0.same s7⟩ ?_ ?_ ?_
 . intro i Z H8 hi hQ;obtain⟨ct,G,J,u,v,rfl,h8,_⟩:=hQ;exact ac.of h8
 . intro i z Z H8 hz hQ;refine bq ?_;intro tT;obtain⟨ct,G,J,u,v,rfl,h8,m1,m2,N⟩:=hQ;obtain⟨r,pC,rfl⟩:=jg hz;have R0:=dM pC;have a1:=hg r R0;have a3:=ak9 R0;have es:gF ((rowsOf t).take (i+1))=(gF ((rowsOf t).take i)).step r:=by rw[take_snoc pC,ak6]
   rw[show dc=dc from rfl]at N;have R3:=RY ((rowsOf t).take i);rw[eR]at R3;obtain⟨k1,k2,k3,k4,k5⟩:=R3;generalize gF ((rowsOf t).take i)=s0 at N es k1 k2 k3 k4 k5;have sl:=Txt.slice_le r (some 1) none;refine⟨rfl,r,spS,rfl,rfl,by decide +kernel,dW (by omega),λwl H9 n9 s9 U=>?_⟩;have O:=N.same s9;have h9:=s9 _ _ h8;have z0:cQ [V.ref G,V.ref J] 0=some (V.ref G):=rfl;have z1:cQ [V.ref G,V.ref J] 1=some (V.ref J):=rfl;refine⟨rfl,r,fj,rfl,rfl,⟨?_⟩⟩;refine bu (λh1=>?_) (λh1=>?_)
   . refine⟨aX.of O.hct,z0,.inl ⟨rfl,_,ac.of O.c1⟩,dW (by omega),O.c1,bY (by rw[aj];omega),?_⟩;refine⟨ct,G,J,_,_,rfl,aw h9 m1,m1,m2,?_⟩;have e0:s0.step r={ s0 with ow:=iJ s0.ow s0.ck (s0.b++[Txt.slice r (some 1) none],s0.m),b:=s0.b++[Txt.slice r (some 1) none] }:=by
      unfold Nt.step im;rw[ai h1]
     rw[es,e0];exact O.les _
   refine⟨rfl,r,fk,rfl,rfl,⟨?_⟩⟩;refine bu (λh2=>?_) (λh2=>?_)
   . refine⟨aX.of O.hct,z1,.inl ⟨rfl,_,ac.of O.c2⟩,dW (by omega),O.c2,bY (by rw[aj];omega),?_⟩;refine⟨ct,G,J,_,_,rfl,aw h9 m2,m1,m2,?_⟩;have e0:s0.step r={ s0 with ow:=iJ s0.ow s0.ck (s0.b,s0.m++[Txt.slice r (some 1) none]),m:=s0.m++[Txt.slice r (some 1) none] }:=by
      unfold Nt.step im;rw[ag h1,ai h2]
     rw[es,e0];exact O.mor _
   have Y:im r=if (Txt.split r spS).getD 0 Str.empty=gr then .inn ((Txt.split r spS).getD 1 Str.empty) ((Txt.split r spS).getD 2 Str.empty) else
    if (Txt.split r spS).getD 0 Str.empty=fX then .cho ((Txt.split r spS).getD 1 Str.empty) ((Txt.split r spS).getD 2 Str.empty) else .own ((Txt.split r spS).getD 1 Str.empty):=by
    unfold im;rw[ag h1,ag h2]
   have pl:∀p∈Txt.split r spS,p.length<=r.length:=λp hp=>IE hp
   rcases akI a1 (qx.mpr h1) (qx.mpr h2) with⟨p,hw⟩ | ⟨n,x,hw,BS⟩ | ⟨c,n,hw⟩
   . rw[hw]at U Y pl;have y0:cQ ([d8,p].map V.str) 0=some (V.str d8):=rfl;have y1:cQ ([d8,p].map V.str) 1=some (V.str p):=rfl;have Y:im r=.own p:=Y.trans ((ag G8).trans (ag G9));refine⟨ac.of U,y0,rfl,⟨?_⟩⟩;refine bu (λh3=>absurd (cH (IN h3)) G8) (λh3=>?_);refine⟨ac.of U,y0,rfl,⟨?_⟩⟩;refine bu (λh4=>absurd (cH (IN h4)) G9) (λh4=>?_);refine⟨(by show 0<=sizeLine;exact dC _),λp1 Ha na sa ea=>⟨(by show 0<=sizeLine;exact dC _),λp2 Hb nb sb eb=>⟨An,λp3 Hc a4 sc ec=>?_⟩⟩⟩;have zw:=sa.trans (sb.trans sc);obtain⟨ko,o1,o2⟩:=O.ow;have lo:=bA o2;refine⟨ac.of (zw _ _ U),y1,fB.k (k:=.inr p) (zw _ _ o1) (bY (by omega)),?_⟩;have d9:∃ks,H9 dO=some (.dK ks):=⟨_,o1⟩;have hl:l≠dO:=be h9 o1 (by intro z;cases z);refine⟨p3,p1,p2,_,_,rfl,aw (zw _ _ h9) hl,aH h9 na,aH (sa _ _ h9) nb,?_⟩;have e0:s0.step r={ s0 with ow:=bw s0.ow p ([],[]),ck:=some p,b:=[],m:=[] }:=by
      unfold Nt.step;rw[Y]
     rw[es,e0];exact O.own zw na (sa.free nb) (aH ea nb) (sc _ _ (sb _ _ ea)) (sc _ _ eb) ec (zw _ _ o1) p
   . rw[hw]at U Y pl;have y0:cQ ([gr,n,x].map V.str) 0=some (V.str gr):=rfl;have y1:cQ ([gr,n,x].map V.str) 1=some (V.str n):=rfl;have y2:cQ ([gr,n,x].map V.str) 2=some (V.str x):=rfl;have Y:im r=.inn n x:=Y.trans (ai rfl);have lx:=pl x (bT _ (bT _ bL));refine⟨ac.of U,y0,rfl,⟨?_⟩⟩;refine bu (λh3=>?_) (λh3=>absurd (bN rfl) h3);refine⟨ac.of U,y2,by omega,BS,λm Ha na sa ea=>?_⟩;have Na:=O.same sa;obtain⟨kc,c1,c2⟩:=Na.ch;have lc:=bA c2;refine⟨ac.of (sa _ _ U),y1,fB.k (k:=.inr n) c1 (bY (by omega)),?_⟩;refine⟨ct,G,J,_,_,rfl,aw (sa _ _ h9) (be (sa _ _ h9) c1 (by intro z;cases z)),m1,m2,?_⟩;have e0:s0.step r={ s0 with ch:=bw s0.ch n (rD x) }:=by
      unfold Nt.step;rw[Y]
     rw[es,e0];exact Na.inn c1 ea
   rw[hw]at U Y pl;have y0:cQ ([fX,c,n].map V.str) 0=some (V.str fX):=rfl;have y1:cQ ([fX,c,n].map V.str) 1=some (V.str c):=rfl;have y2:cQ ([fX,c,n].map V.str) 2=some (V.str n):=rfl;have Y:im r=.cho c n:=Y.trans ((ag Cm).trans (ai rfl));refine⟨ac.of U,y0,rfl,⟨?_⟩⟩;refine bu (λh3=>absurd (cH (IN h3)) Cm) (λh3=>?_);refine⟨ac.of U,y0,rfl,⟨?_⟩⟩;refine bu (λh4=>?_) (λh4=>absurd (bN rfl) h4);obtain⟨kh,c1,c2⟩:=O.cs;have lh:=bA c2;refine⟨ac.of U,y2,ac.of U,y1,fB.k (k:=.inr c) c1 (bY (by omega)),?_⟩;refine⟨ct,G,J,_,_,rfl,aw h9 (be h9 c1 (by intro z;cases z)),m1,m2,?_⟩;have e0:s0.step r={ s0 with cs:=bw s0.cs c n }:=by
    unfold Nt.step;rw[Y]
   rw[es,e0];exact O.cho c1
 intro Z H8 hQ;refine bq ?_;intro tT;obtain⟨ct,G,J,u,v,rfl,h8,m1,m2,N⟩:=hQ;rw[aj,ff]at N;obtain⟨kc,c1,c2⟩:=N.ch;obtain⟨kh,b1,b2⟩:=N.cs;have nd:=ak4 (rowsOf t);have nl:=RY (rowsOf t);refine⟨⟨⟨?_⟩⟩⟩;refine CF (T:=zZ.T) ⟨kc,c1,c2⟩ ⟨kh,b1,b2⟩ N.own_at nd.2.2 (by omega) λx H' nx sx hx=>?_;exact q (.ref x) H' (λb z e=>sx _ _ (N.old b z e)) λL hL=>hx L λb hb=>(hL b hb).elim λo a0=>a0.elim λe n=>⟨o,N.old b o e,n⟩
end
section
variable {X:Cx}{H H':Hp}{xs:Lv}
structure IR(fl:List (Str×V))(nm mk rk:V)(pf pn ps po:Addr):Prop where
 name:fl.lookup (ayj:Str)=some nm
 make:fl.lookup (ayn:Str)=some mk
 rank:fl.lookup (ayy:Str)=some rk
 files:fl.lookup (ayo:Str)=some (.ref pf)
 needs:fl.lookup (ayF:Str)=some (.ref pn)
 shuts:fl.lookup (ayM:Str)=some (.ref ps)
 offers:fl.lookup (ayW:Str)=some (.ref po)
def uz(nm mk rk:V)(j pn ps G:Addr):List (Str×V):=ay ayW (.ref G) (ay ayM (.ref ps) (ay ayF (.ref pn) (ay ayo (.ref j) (ay ayy rk (ay ayn mk (ay ayj nm []))))))
theorem ale(nm mk rk:V)(j pn ps G:Addr):IR (uz nm mk rk j pn ps G) nm mk rk j pn ps G:=by
 unfold uz;constructor
 . rw[cO,ag (by decide +kernel),cO,ag (by decide +kernel),cO,ag (by decide +kernel),cO,ag (by decide +kernel),cO,ag (by decide +kernel),cO,ag (by decide +kernel),cO,ai rfl]
 . rw[cO,ag (by decide +kernel),cO,ag (by decide +kernel),cO,ag (by decide +kernel),cO,ag (by decide +kernel),cO,ag (by decide +kernel),cO,ai rfl]
 . rw[cO,ag (by decide +kernel),cO,ag (by decide +kernel),cO,ag (by decide +kernel),cO,ag (by decide +kernel),cO,ai rfl]
 . rw[cO,ag (by decide +kernel),cO,ag (by decide +kernel),cO,ag (by decide +kernel),cO,ai rfl]
 . rw[cO,ag (by decide +kernel),cO,ag (by decide +kernel),cO,ai rfl]
 . rw[cO,ag (by decide +kernel),cO,ai rfl]
 rw[cO,ai rfl]
structure R5(K:Fg)(H:Hp)(xs:Lv)(fs:List (V×Lv)):Prop where
 len:xs.length=fs.length
 item:∀(i:Nat) (p:V) (ls:Lv),fs[i]?=some (p,ls)->∃t l,xs[i]?=some (.ref t)/\aX K H t [p,.ref l]/\ac K H l ls
structure CL(H H':Hp)(D:Addr)(xs:Lv)(fs:List (V×Lv))(k:Nat):Prop where
 len:xs.length=k
 item:∀(i:Nat) (p:V) (ls:Lv),i<k->fs[i]?=some (p,ls)->∃t l,xs[i]?=some (.ref t)/\H t=none/\H l=none/\t≠D/\l≠D/\H' t=some (.tup [p,.ref l])/\H' l=some (.lst ls)
def zx:Expr:=match (cM ut).getD 3 (.Pass ⟨0,0,0,0⟩) with
 | .Assign _ e _=>e
 | _=>.Constant .none 0 ⟨0,0,0,0⟩
def uA:Scope:=match zx with
 | .ListComp _ _ sc _=>sc
 | _=>{ kind:=.function,names:=[],isGenerator:=false,isCoroutine:=false }
def R6:Expr:=match zx with
 | .ListComp e _ _ _=>e
 | _=>.Constant .none 0 ⟨0,0,0,0⟩
def IS:Expr:=match zx with
 | .ListComp _ [⟨t,_,_,_⟩] _ _=>t
 | _=>.Constant .none 0 ⟨0,0,0,0⟩
def R7:Expr:=match zx with
 | .ListComp _ [⟨_,t,_,_⟩] _ _=>t
 | _=>.Constant .none 0 ⟨0,0,0,0⟩
theorem IT(X:Cx):lF X [aye,ayu] [] [] uA:=eF
def R8(K:Fg):Lv->Hp->VK->Prop:=λxs H Q=>∃p ys,xs=[.ref p]/\(ac K H p ys\/aX K H p ys)/\∀l,H l=none->Q (.ref l) (upd H l (.lst ys))
theorem alf(G:X.calm=true)(s₀:Shared)(H₀:Hp)(j:Addr)(ex:List Addr):PG (dU X (([aye,ayu]:Ls)++([]:Ls)) uA s₀ H₀ j ex) IS (tw X.K 2 (yf (ki 0) (yf (ki 1) EL))):=
 m9 (X:=dU X (([aye,ayu]:Ls)++([]:Ls)) uA s₀ H₀ j ex) G (fM (bf (i:=0) (IT X).nd rfl (Or.inl rfl)) (fM (bf (i:=1) (IT X).nd rfl (Or.inl rfl)) mv))
theorem alg(G:X.mg "list"=none)(s₀:Shared)(H₀:Hp)(j:Addr)(ex:List Addr):PE (dU X (([aye,ayu]:Ls)++([]:Ls)) uA s₀ H₀ j ex) R6 (E7 (fU (qM 0) (fU (Bl (R8 X.K) (fU (qM 1) fT)) fT))):=
 NH (X:=dU X (([aye,ayu]:Ls)++([]:Ls)) uA s₀ H₀ j ex) (aL (pv 0) (dR (yp (X:=dU X (([aye,ayu]:Ls)++([]:Ls)) uA s₀ H₀ j ex)) (by rfl) G iS (ao (pv 1))))
theorem alh{G:TI}(j:X.calm=true)(J:X.mg "list"=none)(hi:PI X IS R7 G):PE X zx (FG G 2 [] (tw X.K 2 (yf (ki 0) (yf (ki 1) EL))) qU (E7 (fU (qM 0) (fU (Bl (R8 X.K) (fU (qM 1) fT)) fT)))):=
 gE [aye,ayu] [] [] (elt:=R6) (tg:=IS) (iter:=R7) (ifs:=[]) (sc:=uA) (IT X) j hi (alf j) (λ_ _ _ _=>gQ) (alg J)
theorem ali:aN [aya,ayj,ayn,ayy,ayo,ayF,ayM,ayW] [aya,ayj,ayn,ayy,ayo,ayF,ayM,ayW] (au ut):=aV
inductive CM (K:Fg) (C:Addr):Sp where
 | mk {H:Hp}{Q:VK}{E:XK}{x dx J U sa Y:Addr}{nm mk rk:V}{xs ns ss os:Lv}{fs:List (V×Lv)} (_:H x=some (.ins C dx [])) (_:ac K H J xs) (_:R5 K H xs fs) (_:ac K H U ns) (_:ac K H sa ss) (_:ac K H Y os) (_:fs.length<=1000) (_:∀(fl:List (Str×V)) (j pn ps G:Addr) (O:Lv) (H':Hp),IR fl nm mk rk j pn ps G->H' x=some (.ins C dx fl)->H j=none->H pn=none->H ps=none->H G=none ->
  H' j=some (.lst O)->CL H H' j O fs fs.length->H' pn=some (.lst ns)->H' ps=some (.lst ss)->H' G=some (.lst os)->(∀b o,H b=some o->b≠x->H' b=some o)->Q .non H'):CM K C [.ref x,nm,mk,rk,.ref J,.ref U,.ref sa,.ref Y] H Q E
theorem alj{Hk j:Hp}{fs:List (V×Lv)}{k:Nat}(fn:CL H Hk D xs fs k)(h:∀b o,Hk b=some o->b≠D->H b=none->j b=some o):CL H j D xs fs k:=by
 refine⟨fn.len,λi p ls hi U=>?_⟩;obtain⟨t,l,e1,e2,e3,e4,G,J,O⟩:=fn.item i p ls hi U;exact⟨t,l,e1,e2,e3,e4,G,h t _ J e4 e2,h l _ O G e3⟩
theorem alk(G:Pg K mg base Pt):aA P w K mg base aJ 1 G.PIn.f G.PIn.fd [aya,ayj,ayn,ayy,ayo,ayF,ayM,ayW] (CM K G.C):=by
 refine G.PIn.u.okL ali ?_;intro ar A outer s H vs Q E hr h xX dX;obtain @⟨_,_,_,x,dx,fa,na,sa,oa,nm,mk,rk,xs,ns,ss,os,fs,hx,jR,lR,a2,a3,EE,CN,k⟩:=h;refine⟨_,ah (iW (pv 0) (pv 1) rfl) (ah (iW (pv 0) (pv 2) rfl) (ah (iW (pv 0) (pv 3) rfl)
  (ah (iW (pv 0) (alh rfl G.B.list (cU (pv 4))) rfl)
  (ah (iW (pv 0) (dR yp (by rfl) G.B.list iS (ao (pv 5))) rfl)
  (ah (iW (pv 0) (dR yp (by rfl) G.B.list iS (ao (pv 6))) rfl)
  (al (iW (pv 0) (dR yp (by rfl) G.B.list iS (ao (pv 7))) rfl))))))),?_⟩
 refine af4 ?_;intro dD sS a7 IQ CK nY gs eh;have S0:eW G.C dx x H H []:=⟨λ_ _ e _=>e,λ_ e=>e,hx⟩;refine⟨S0.ob,G.TC.cl,G.TC.nN,few pD (by decide),?_⟩;have S1:eW G.C dx x H _ (ay ayj nm []):=S0.put;refine⟨S1.ob,G.TC.cl,G.TC.nM,few (lp pD) (by decide),?_⟩;have S2:eW G.C dx x H _ (ay ayn mk (ay ayj nm [])):=S1.put;refine⟨S2.ob,G.TC.cl,G.TC.nR,few (lp (lp pD)) (by decide),?_⟩;have O:eW G.C dx x H _ (ay ayy rk (ay ayn mk (ay ayj nm []))):=S2.put;generalize upd (upd (upd H x (.ins G.C dx (ay ayj nm []))) x (.ins G.C dx (ay ayn mk (ay ayj nm [])))) x (.ins G.C dx (ay ayy rk (ay ayn mk (ay ayj nm []))))=H1 at O ⊢;refine⟨⟨xs,O.sqL hx jR⟩,λD hD=>?_⟩;refine⟨λi m Z H2=>m=xs.length - i/\i<=xs.length/\∃(u v:Option V) (ys:Lv),Z=[u,v]/\H2 D=some (.lst ys)/\aa H1 H2/\CL H H2 D ys fs i,⟨xs.length,by simp,dC _,none,none,[],rfl,aB,fD hD,rfl,λi p ls hi=>absurd hi (Mt _)⟩,?_⟩;intro i m Z H2 fG;refine bq ?_;intro tT;obtain⟨rfl,hi,u,v,ys,rfl,zy,Y,fn⟩:=fG;have IU:ac K H2 fa xs:=Y.seq (O.sqL hx jR)
 by_cases aO:i<xs.length
 . refine .inr ⟨⟨xs,xs[i],IU,by simp[aO]⟩,λz H3 y=>?_⟩;obtain⟨e,y⟩:=y;subst e;have ez:=y xs IU;have a1:i<fs.length:=by rw[<-lR.len];exact aO
   obtain⟨⟨p,ls⟩,dQ⟩:∃q,fs[i]?=some q:=⟨fs[i],by simp[a1]⟩;obtain⟨t,l,e1,e2,e3⟩:=lR.item i p ls dQ;rw[ez]at e1;cases e1;have t2:=adh Y (O.sqT hx e2);have l2:=Y.seq (O.sqL hx e3);refine⟨t2,rfl,rfl,?_⟩;refine⟨l,_,rfl,.inl l2,λl' mW=>⟨An,λt' IV=>?_⟩⟩;obtain⟨n1,n2⟩:=lC IV;have dl:D≠l':=aH zy mW;have dt:D≠t':=aH zy n2;refine⟨ys,aw (aw zy dl) dt,bY (by rw[fn.len];omega),xs.length - (i+1),by omega,rfl,aO,_,_,ys++[.ref t'],rfl,aB,?_,⟨by rw[bI,fn.len];rfl,λj p' xW hj bW=>?_⟩⟩
   . exact eM (eM (eM Y (Y.free mW)) (Y.free n2)) hD
   by_cases CO:j=i
   . subst CO;rw[dQ]at bW;cases bW;refine⟨t',l',by rw[Em (by rw[fn.len];omega),fn.len];simp,O.free _ (Y.free n2),O.free _ (Y.free mW),dt.symm,dl.symm,aw aB dt.symm,aw (aw aB n1.symm) dl.symm⟩
   have rm:j<i:=by omega
   obtain⟨t0,l0,g1,g2,g3,g4,g5,g6,g7⟩:=fn.item j p' xW rm bW;exact⟨t0,l0,by rw[XQ (by rw[fn.len];exact rm)];exact g1,g2,g3,g4,g5,aw (aw (aw g6 (aH g6 mW)) (aH g6 n2)) g4,aw (aw (aw g7 (aH g7 mW)) (aH g7 n2)) g5⟩
 have ei:i=xs.length:=by omega
 subst ei;refine .inl ⟨⟨xs,IU,aG _⟩,?_⟩;have S4:eW G.C dx x H H2 (ay ayy rk (ay ayn mk (ay ayj nm []))):=⟨λb o e J=>Y b o (O.same b o e J),λb e=>O.free b (Y.free e),Y _ _ O.ob⟩;have CP:D≠x:=be zy S4.ob (by intro z;cases z);have a0:H D=none:=O.free _ hD;refine⟨S4.ob,G.TC.cl,G.TC.nF,few (lp (lp (lp pD))) (by decide),?_⟩;have S5:eW G.C dx x H _ (ay ayo (.ref D) (ay ayy rk (ay ayn mk (ay ayj nm [])))):=S4.put;refine⟨na,_,rfl,.inl (S5.sqL hx a2),λpn wK=>?_⟩;have S6:=S5.lay (o:=.lst ns) wK;have IW:pn≠x:=(aH S5.ob wK).symm;refine⟨S6.ob,G.TC.cl,G.TC.nE,few (lp (lp (lp (lp pD)))) (by decide),?_⟩;have S7:eW G.C dx x H _ (ay ayF (.ref pn) (ay ayo (.ref D) (ay ayy rk (ay ayn mk (ay ayj nm []))))):=S6.put;refine⟨sa,_,rfl,.inl (S7.sqL hx a3),λps bG=>?_⟩;have S8:=S7.lay (o:=.lst ss) bG;have R9:ps≠x:=(aH S7.ob bG).symm;refine⟨S8.ob,G.TC.cl,G.TC.nS,few (lp (lp (lp (lp (lp pD))))) (by decide),?_⟩;have S9:eW G.C dx x H _ (ay ayM (.ref ps) (ay ayF (.ref pn) (ay ayo (.ref D) (ay ayy rk (ay ayn mk (ay ayj nm [])))))):=S8.put;refine⟨oa,_,rfl,.inl (S9.sqL hx EE),λU mI=>?_⟩;have Sa:=S9.lay (o:=.lst os) mI;have a6:U≠x:=(aH S9.ob mI).symm;refine⟨Sa.ob,G.TC.cl,G.TC.nO,few (lp (lp (lp (lp (lp (lp pD)))))) (by decide),?_⟩;have Sb:eW G.C dx x H _ (uz nm mk rk D pn ps U):=Sa.put;have k5:∀b o,H2 b=some o->b≠x->(upd H2 x (.ins G.C dx (ay ayo (.ref D) (ay ayy rk (ay ayn mk (ay ayj nm [])))))) b=some o:=λb o e J=>aw e J;have kp:=λb o (e:H2 b=some o) (J:b≠x)=>aw (p:=x) (o':=.ins G.C dx (ay ayF (.ref pn) (ay ayo (.ref D) (ay ayy rk (ay ayn mk (ay ayj nm [])))))) (aw (p:=pn) (o':=.lst ns) (k5 b o e J) (aH (k5 b o e J) wK)) J;have kq:=λb o (e:H2 b=some o) (J:b≠x)=>aw (p:=x) (o':=.ins G.C dx (ay ayM (.ref ps) (ay ayF (.ref pn) (ay ayo (.ref D) (ay ayy rk (ay ayn mk (ay ayj nm []))))))) (aw (p:=ps) (o':=.lst ss) (kp b o e J) (aH (kp b o e J) bG)) J;have kr:=λb o (e:H2 b=some o) (J:b≠x)=>aw (p:=x) (o':=.ins G.C dx (uz nm mk rk D pn ps U)) (aw (p:=U) (o':=.lst os) (kq b o e J) (aH (kq b o e J) mI)) J;have Sc:(upd (upd (upd H2 x (.ins G.C dx (ay ayo (.ref D) (ay ayy rk (ay ayn mk (ay ayj nm [])))))) pn (.lst ns)) x (.ins G.C dx (ay ayF (.ref pn) (ay ayo (.ref D) (ay ayy rk (ay ayn mk (ay ayj nm []))))))) pn=some (.lst ns):=aw aB IW;have Sd:=aw (p:=x) (o':=.ins G.C dx (ay ayM (.ref ps) (ay ayF (.ref pn) (ay ayo (.ref D) (ay ayy rk (ay ayn mk (ay ayj nm []))))))) (aw (p:=ps) (o':=.lst ss) Sc (aH Sc bG)) IW;have a4:=aw (p:=x) (o':=.ins G.C dx (uz nm mk rk D pn ps U)) (aw (p:=U) (o':=.lst os) Sd (aH Sd mI)) IW;have Se:=aw (p:=x) (o':=.ins G.C dx (ay ayM (.ref ps) (ay ayF (.ref pn) (ay ayo (.ref D) (ay ayy rk (ay ayn mk (ay ayj nm []))))))) (aB (H:=upd (upd (upd H2 x (.ins G.C dx (ay ayo (.ref D) (ay ayy rk (ay ayn mk (ay ayj nm [])))))) pn (.lst ns)) x (.ins G.C dx (ay ayF (.ref pn) (ay ayo (.ref D) (ay ayy rk (ay ayn mk (ay ayj nm []))))))) (a:=ps) (o:=.lst ss)) R9;have a5:=aw (p:=x) (o':=.ins G.C dx (uz nm mk rk D pn ps U)) (aw (p:=U) (o':=.lst os) Se (aH Se mI)) R9;refine k (uz nm mk rk D pn ps U) D pn ps U ys _ (ale nm mk rk D pn ps U) Sb.ob a0 (S5.free _ wK) (S7.free _ bG) (S9.free _ mI) (kr D _ zy CP) ?_ a4 a5 (aw aB a6) Sb.same;rw[lR.len]at fn;exact alj fn λb o e J hn=>kr b o e λz=>by rw[z,hx]at hn;cases hn
structure cb where
 nm:Str
 ms:List Int
 fs:List (Str×Ls)
 os:Ls
 rk:Int
abbrev Lp:=List cb
def jS(H:Hp)(v:V)(f:Str×Ls):Prop:=∃t l,v=.ref t/\H t=some (.tup [.str f.1,.ref l])/\H l=some (.lst (f.2.map V.str))
def jy(C:Addr)(H:Hp)(v:V)(p:cb):Prop:=∃a dx fl rk m j pn ps G xs,v=.ref a/\H a=some (.ins C dx fl)/\IR fl (.str p.nm) (.ref m) rk j pn ps G/\H m=some (.tup (p.ms.map V.int)) /\
 H j=some (.lst xs)/\Paired (jS H) xs p.fs/\H G=some (.lst (p.os.map V.str))/\rk=.int p.rk/\H pn=some (.lst [])/\H ps=some (.lst [])
theorem jS.same{v:V}{f:Str×Ls}(s:aa H H')(h:jS H v f):jS H' v f:=by
 obtain⟨t,l,e,a,b⟩:=h;exact⟨t,l,e,s _ _ a,s _ _ b⟩
theorem jy.same{v:V}{p:cb}(s:aa H H')(h:jy C H v p):jy C H' v p:=by
 obtain⟨a,dx,fl,rk,m,U,pn,ps,Y,xs,e,h1,h2,G,J,O,j⟩:=h;exact⟨a,dx,fl,rk,m,U,pn,ps,Y,xs,e,s _ _ h1,h2,s _ _ G,s _ _ J,av O (λ_ _=>jS.same s),s _ _ j.1,j.2.1,s _ _ j.2.2.1,s _ _ j.2.2.2⟩
abbrev dY (C:Addr) (H:Hp):Lv->Lp->Prop:=Paired (jy C H)
theorem dY.same{vs:Lv}{ps:Lp}(s:aa H H')(h:dY C H vs ps):dY C H' vs ps:=av h λ_ _=>jy.same s
def rM(fs:List (Str×Ls)):List (V×Lv):=fs.map λf=>(.str f.1,f.2.map V.str)
theorem alt{fs:List (Str×Ls)}(h:Paired (jS H) xs fs):R5 K H xs (rM fs):=by
 refine⟨by rw[rM,aj];exact bA h,λi p ls e=>?_⟩;rw[rM,dN]at e;cases j:fs[i]? with
 | none=>rw[j]at e;cases e
 | some f=>
  rw[j]at e;cases e;obtain⟨x,G,t,l,rfl,a,b⟩:=Ca h j;exact⟨t,l,G,aX.of a,ac.of b⟩
theorem alu{Q:VK}{E:XK}{nm:Str}{mk:List Int}{rk:Int}{os:Ls}{fs:List (Str×Ls)}(Y:H m=some (.tup (mk.map V.int)))(hf:H fa=some (.lst xs))(lR:Paired (jS H) xs fs)
 (hn:H na=some (.lst [])) (hs:H sa=some (.lst [])) (ho:H oa=some (.lst (os.map V.str))) (CN:fs.length<=1000) (q:∀x H',H x=none->aa H H'->(∀L,jd H L->jy C (msk L H') (.ref x) ⟨nm,mk,fs,os,rk⟩)->Q (.ref x) H') :
 ∀x dx,H x=none->H dx=none->dx≠x->CM K C (.ref x::([.str nm,.ref m,.int rk,.ref fa,.ref na,.ref sa,.ref oa]++[])) (upd (upd H dx (.own x)) x (.ins C dx [])) (λv H2=>v=.non/\Q (.ref x) H2) E:=by
 intro x dx O bC nx;have G:aa H (upd (upd H dx (.own x)) x (.ins C dx [])):=eM (fD bC) O;have a1:rM fs=rM fs:=rfl;have U:(rM fs).length=fs.length:=by rw[rM,aj]
 refine⟨aB,ac.of (G _ _ hf),?_,ac.of (G _ _ hn),ac.of (G _ _ hs),ac.of (G _ _ ho),by rw[U];exact CN,?_⟩
 . exact alt (av lR λ_ _=>jS.same G)
 intro fl pf pn ps po j8 H' hF qH n1 n2 n3 n4 a0 vt wK bG mI keep;have s2:aa H H':=λb o e=>keep b o (G _ _ e) (aH e O);have J:∀b,(upd (upd H dx (.own x)) x (.ins C dx [])) b=none->H b=none:=λb z=>G.free z;refine⟨rfl,q x H' O s2 λL j=>⟨x,dx,fl,.int rk,m,pf,pn,ps,po,j8,rfl,cw (j.free O) qH,hF,cw (j.tup Y) (s2 _ _ Y),cw (j.free (J _ n1)) a0,?_,cw (j.free (J _ n4)) mI,rfl,cw (j.free (J _ n2)) wK,cw (j.free (J _ n3)) bG⟩⟩;refine QN (by rw[vt.len,U]) λi f hi=>?_;obtain⟨t,l,e1,e2,e3,e4,e5,e6,e7⟩:=vt.item i (.str f.1) (f.2.map V.str) (by rw[U];exact(dg.mp hi).1) (by rw[rM,dN,hi];rfl);exact⟨_,e1,t,l,rfl,cw (j.free (J _ e2)) e6,cw (j.free (J _ e3)) e7⟩
def gK(p:cb):List NI:=[.inl (.inr p.nm),.inr (p.ms.map Sum.inl)]
theorem IY{nm:Str}{mk:List Int}(j:H b=some (.tup [.str nm,.ref m]))(G:H m=some (.tup (mk.map V.int))):lg H [.inl (.inr nm),.inr (mk.map Sum.inl)] b:=
 ⟨_,j,.cons rfl (.cons ⟨m,rfl,by rw[G,mi];rfl⟩ .nil)⟩
def Sf(kvs:List (List NI×V))(vs:Lv)(ps:Lp)(i:Nat):Prop:=kvs.length<=i/\∀(j:Nat) (p:cb) (v:V),j<i->ps[j]?=some p->vs[j]?=some v->bg kvs (gK p)=some v
def jz(S:Addr)(H:Hp)(v:V)(vs:Lv)(ps:Lp):Prop:=∃a dx fl d kvs,v=.ref a/\H a=some (.ins S dx fl)/\fl.lookup (ay7:Str)=some (.ref d)/\fl.lookup (ayf:Str)=none/\H d=some (.dT kvs)/\Sf kvs vs ps ps.length
theorem jz.same{v:V}{vs:Lv}{ps:Lp}(s:aa H H')(h:jz S H v vs ps):jz S H' v vs ps:=by
 obtain⟨a,dx,fl,d,kvs,e,h1,h2,j,G,J⟩:=h;exact⟨a,dx,fl,d,kvs,e,s _ _ h1,h2,j,s _ _ G,J⟩
inductive IZ (K:Fg) (C S:Addr):Sp where
 | mk {H:Hp}{Q:VK}{E:XK}{x dx a:Addr}{xs:Lv}{ps:Lp} (_:H x=some (.ins S dx [])) (_:H a=some (.lst xs)) (_:dY C H xs ps) (_:ps.length<=100) (_:(ps.map gK).Nodup) (_:∀H',(∀b o,H b=some o->b≠x->H' b=some o)->jz S H' (.ref x) xs ps->Q .non H'):IZ K C S [.ref x,.ref a] H Q E
theorem Sg:aN [aya,ayg,ayf] [aya,ayg] (au wb):=aV
theorem alw(G:Pg K mg base Pt):aA P w K mg base aJ 1 G.SIn.f G.SIn.fd [aya,ayg] (IZ K G.C G.S):=by
 refine G.SIn.u.okL Sg ?_;intro ar A outer s H vs Q E hr h xX dX;obtain @⟨_,_,_,x,dx,a,xs,ps,U,ha,bG,CQ,oh,q⟩:=h;have hu:=hr.units;refine⟨_,(ah (iW (pv 0) afQ rfl)
  (al (eK dZ rfl (cU (pv 1)) (bf (i:=2) Sg.nd rfl (Or.inl rfl))
  (al (iC hu (bK (pv 0) rfl) (eT (aL (bK (pv 2) rfl) (bK (pv 2) rfl))) (pv 2) rfl))))),?_⟩
 refine ju ?_;intro dD sS eh;refine λd H1 n1 s1 e1=>?_;refine⟨s1 _ _ U,G.US.cl,G.US.nS,(by decide),?_⟩;have CP:d≠x:=(aH U n1).symm;have ax:a≠x:=be ha U (by intro z;cases z);have nl:=bA bG;refine⟨⟨_,ac.of (by rw[aQ ax];exact s1 _ _ ha)⟩,?_⟩;refine ib (xs:=xs) (λi Z H2=>∃u kvs,Z=[some (.ref x),some (.ref a),u]/\(∀b o,H b=some o->b≠x->H2 b=some o)/\H2 x=some (.ins G.S dx (ay ay7 (.ref d) []))/\H2 d=some (.dT kvs)/\Sf kvs xs ps i)
  ⟨none,[],rfl,λb o e hb=>by rw[aQ hb];exact s1 _ _ e,aB,by rw[aQ CP];exact e1,aG _,λj p v hj=>absurd hj (Mt _)⟩ ?_ ?_ ?_
 . intro i Z H2 hi gW;refine bq ?_;intro tT;obtain⟨u,kvs,rfl,k2,_⟩:=gW;exact ac.of (k2 _ _ ha ax)
 . intro i v Z H2 hv gX;refine bq ?_;intro tT;obtain⟨u,kvs,rfl,k2,Y,a0,J⟩:=gX;obtain⟨p,hp,b,dy,fl,rk,m,pf,pn,jA,po,ys,rfl,h1,h2,h3,h4,h5,h6⟩:=eN bG hv;have bx:b≠x:=be h1 U (by intro z;injection z with _ _ z;subst z;have:=h2.name;cases this);have b2:=k2 _ _ h1 bx;have m2:=k2 _ _ h3 (be h3 U (by intro z;cases z));have a1:(ay (ay7:Str) (V.ref d) []).lookup (ay7:Str)=some (.ref d):=by rw[cO,ai rfl]
   refine⟨Y,G.US.cl,G.US.nS,a1,b2,G.TC.cl,G.TC.nN,h2.name,b2,G.TC.cl,G.TC.nM,h2.make,An,λt H3 n3 s3 e3=>?_⟩;have aO:=(dg.mp hv).1;refine⟨fB.t (s3 _ _ a0) (IY e3 (s3 _ _ m2)) (bY (by have:=J.1;omega)),?_⟩;refine⟨_,_,rfl,λc o e hc=>?_,?_,aB,?_,λj p' v' hj O yi=>?_⟩
   . rw[aQ (λz=>by rw[z,n1]at e;cases e)];exact s3 _ _ (k2 _ _ e hc)
   . rw[aQ CP.symm];exact s3 _ _ Y
   . exact b8 (yt _ _ _) (MJ J.1)
   rw[Bo]
   by_cases CO:j=i
   . subst CO;rw[hp]at O;rw[hv]at yi;cases O;cases yi;exact ai rfl
   have rm:j<i:=by omega
   rw[ag]
   . exact J.2 j p' v' rm O yi
   intro z;have z:gK p'=gK p:=z;refine CO ((Yr (l:=ps.map gK) (i:=j) (j:=i) ?_ oh).mp ?_)
   . rw[aj];have:=(dg.mp O).1;omega
   rw[dN,dN,hp,O,sU,sU,z]
 intro Z H2 pG;refine bq ?_;intro tT;obtain⟨u,kvs,rfl,k2,Y,a0,J⟩:=pG;rw[nl]at J;exact q H2 k2 ⟨x,dx,_,d,kvs,rfl,Y,by rw[cO,ai rfl],by rw[cO,ag (by decide +kernel)];rfl,a0,J⟩
inductive Sh (K:Fg) (S:Addr):Sp where
 | mk {H:Hp}{Q:VK}{E:XK}{G v:V}{m:Addr}{xs:Lv}{ps:Lp}{j:Nat}{p:cb} (_:jz S H G xs ps) (_:ps[j]?=some p) (_:xs[j]?=some v) (_:H m=some (.tup (p.ms.map V.int))) (_:∀H',aa H H'->Q v H'):Sh K S [G,.str p.nm,.ref m] H Q E
theorem aly:aN [aya,ayj,ayn] [aya,ayj,ayn] (au wc):=aV
theorem alz(G:Pg K mg base Pt):aA P w K mg base aJ 1 G.SPa.f G.SPa.fd [aya,ayj,ayn] (Sh K G.S):=by
 refine G.SPa.u.okL aly ?_;intro ar A outer s H vs Q E hr h xX dX;obtain @⟨_,_,_,sv,v,m,xs,ps,j,p,⟨a,dx,fl,d,kvs,rfl,h1,h2,h3,h4,h5⟩,hp,hv,hm,q⟩:=h;have hu:=hr.units;have U:=h5.2 j p v (dg.mp hp).1 hp hv;refine⟨_,(ah (cg (oH (Fs hu (eT (aL (pv 1) (pv 2))) (bK (pv 0) rfl)) (by rfl))
  (al M7) cZ)
  (al (aT (oV hu (bK (pv 0) rfl) (eT (aL (pv 1) (pv 2))) (λ_ _=>rfl))))),?_⟩
 refine ju ?_;intro dD sS eh;refine⟨An,λt H1 n1 J e1=>?_⟩;have g1:cn H1 d (.ref t) (bg kvs (gK p)):=cn.t (J _ _ h4) (IY e1 (J _ _ hm));refine⟨J _ _ h1,G.US.cl,G.US.nS,h2,_,g1,⟨?_⟩⟩;rw[U];refine bu (λh=>absurd h (by show ¬((!true)=true);decide)) (λh=>?_);refine⟨J _ _ h1,G.US.cl,G.US.nS,h2,An,λt2 H2 n2 s2 e2=>?_⟩;have O:=J.trans s2;have Y:cn H2 d (.ref t2) (bg kvs (gK p)):=cn.t (O _ _ h4) (IY e2 (O _ _ hm));rw[U]at Y;exact⟨Y,q H2 O⟩
abbrev Tr:=List (Str×Ls)
structure fH(done tr:Tr):Prop where
 nd:(tr.map (·.1)).Nodup
 sub:∀f∈tr,f∈done
 key:∀f∈done,f.1∈tr.map (·.1)
 len:tr.length<=done.length
theorem I8:fH [] []:=⟨kY,λ_ h=>h,(λ_ h=>nomatch h),aG _⟩
theorem fH.step{done tr:Tr}(g:fH done tr)(x:Str)(ls:Ls):fH (done++[(x,ls)]) (bw tr x ls):=by
 refine⟨jL g.nd,λf hf=>?_,λf hf=>?_,?_⟩
 . rcases mJ hf with e | hf
   . rw[e];exact eX _ (bD.mpr rfl)
   exact vf _ (g.sub f hf)
 . rcases bR.mp hf with hf | hf
   . exact GW (.inr (g.key f hf))
   rw[bD.mp hf];exact GW (.inl rfl)
 have:=jM tr x ls;have:=g.len;rw[bI,kW];omega
end
section
variable {K:Fg}{H H1:Hp}{kv:ak×V}{ps:Lp}{i:Nat}{xs vs:Lv}{x:Str}
def uB(xs:Lv)(ps:Lp)(v:V)(p:cb):Prop:=∃j:Nat,ps[j]?=some p/\xs[j]?=some v
def pK(xs:Lv)(ps:Lp)(ch:Ch):Prop:=∀e∈ch,∃v p,uB xs ps v p/\p.nm=e.1/\p.ms=e.2
inductive Sj (S:Addr):Sp where
 | mk {H:Hp}{Q:VK}{E:XK}{J:V}{c:Addr}{xs:Lv}{ps:Lp}{ch:Ch} (_:jz S H J xs ps) (_:de H c ch) (_:pK xs ps ch) (_:ch.length<64) (_:∀D H' G j,H D=none->aa H H'->H' D=some (.lst G)->Paired (uB xs ps) G j->(j.map (·.nm)).Perm (ch.map (·.1))->(∀p∈j,(p.nm,p.ms)∈ch)->Q (.ref D) H'):Sj S [J,.ref c] H Q E
theorem alA:aN [ayd,ayh] [ayd,ayh] (au Hz):=aV
theorem I9(G:Pg K mg base Pt):aA P w K mg base aJ 2 G.PsO.f G.PsO.fd [ayd,ayh] (Sj G.S):=by
 refine G.PsO.u.okL alA ?_;intro ar A outer s H vs Q E hr h xX dX;obtain @⟨_,_,_,sv,c,xs,ps,ch,hS,hC,hV,qY,q⟩:=h;have hu:=hr.units;obtain⟨kvs,e1,e2⟩:=id hC;have hk:∀kv f,dA H kv f->kv.1=Sum.inr f.1:=λkv f z=>z.1;have kl:=bA e2;refine⟨_,(al (aT (gE [ayj] [ayd,ayh] [0,1] eF rfl (cU (c8 (BE rfl) (by rfl) G.B.sorted vm (ao (pv 1)))) (λ_ _ _ _=>(bf (i:=0) (show List.Nodup ([ayj,ayd,ayh]:Ls) by decide +kernel) rfl (Or.inl rfl))) (λ_ _ _ _=>gQ) (λ_ _ _ _=>(nj (pv 1) G.US.cl G.US.mP (up (alz G)) hr G.SPa.b .nil dv (aL (pv 0) (oV hu (pv 2) (pv 0) (λ_ _=>rfl)))))))),?_⟩;refine⟨c,kvs,_,rfl,e1,pE hk e2,by omega,λys hp hs a H1 n1 Y a1=>?_⟩;refine⟨⟨_,ac.of a1⟩,?_⟩;refine yz (σ0:=[none,some sv,some (.ref c)]) (ac.of a1) (λZ=>∃v,Z=[v,some sv,some (.ref c)]) (λi zs _=>∃J,Paired (uB xs ps) zs J/\J.map (·.nm)=ys.take i/\∀p∈J,(p.nm,p.ms)∈ch) ⟨_,rfl⟩ (λ_ _=>⟨[],.nil,rfl,λ_ h=>nomatch h⟩) ?_ ?_
 . intro D i x zs Z H2 k hD hi fG hd h2 gW eE;refine bq ?_;intro tT;obtain⟨v,rfl⟩:=fG;obtain⟨J,U,pn,pc⟩:=gW;rw[dN]at hi;cases O:ys[i]? with
   | none=>rw[O]at hi;cases hi
   | some y=>
    rw[O]at hi;cases hi;have Ja:y∈ch.map (·.1):=hp.mem_iff.mp (dM O);obtain⟨u,ms,g1,g2,_,m,rfl,g3⟩:=mK hk e2 Ja;obtain⟨v2,p,ij,en,em⟩:=hV _ g2;obtain⟨j,j1,j2⟩:=id ij;have en:p.nm=y:=en;have em:p.ms=ms:=em;subst en em;obtain⟨sa,dx,fl,d,kk,rfl,b1,b2,b3,b4,b5⟩:=hS.same (Y.trans h2);have bM:=Y.trans h2;refine⟨b1,b3,(by rw[<-g1];exact cn.k (k:=.inr p.nm) (bM _ _ e1)),?_⟩;refine⟨⟨sa,dx,fl,d,kk,rfl,b1,b2,b3,b4,b5⟩,j1,j2,bM _ _ g3,λH3 s3=>?_⟩;have hl:zs.length<=64:=by
     have e:=eZ List.length pn;rw[aj,eR]at e;have:=bA U;have:=hp.length_eq;rw[aj]at this;omega
    refine eE _ _ _ ⟨_,rfl⟩ s3 (bY (by omega)) ⟨J++[p],jK ij U,?_,λp' bW=>?_⟩
    . rw[dP,pn,hZ,O];rfl
    rcases bR.mp bW with z | z
    . exact pc p' z
    rw[bD.mp z];exact g2
 intro D zs H2 hD hd h2 gX;refine bq ?_;intro tT;obtain⟨J,U,pn,pc⟩:=gX;rw[aj,ff]at pn;refine q D H2 zs J (Y.free hD) (Y.trans h2) hd U ?_ pc;rw[pn];exact hp
def dn(H H':Hp)(kv:ak×V)(f:Str×Ls):Prop:=kv.1=.inr f.1/\∃l,kv.2=.ref l/\H l=none/\H' l=some (.lst (f.2.map V.str))
theorem dn.same{H2:Hp}(s:aa H1 H2){f:Str×Ls}(h:dn H H1 kv f):dn H H2 kv f:=h.elim λa j=>j.elim λl G=>G.elim λb J=>J.elim λc d=>⟨a,l,b,c,s _ _ d⟩
theorem dn.put{ks O:List (ak×V)}(hd:H1 d=some (.dK ks)){f:Str×Ls}(h:dn H H1 kv f):dn H (upd H1 d (.dK O)) kv f:=h.elim λa j=>j.elim λl G=>G.elim λb J=>J.elim λc e=>⟨a,l,b,c,aw e (be e hd (by intro z;cases z))⟩
def bZ(ps:Lp):Tr:=ps.flatMap (·.fs)
inductive Sk (C:Addr):Sp where
 | mk {H:Hp}{Q:VK}{E:XK}{a:Addr}{xs:Lv}{ps:Lp} (_:H a=some (.lst xs)) (_:dY C H xs ps) (_:(bZ ps).length<=60) (_:∀d H' kvs tr,H d=none->aa H H'->H' d=some (.dK kvs)->Paired (dn H H') kvs tr->fH (bZ ps) tr->Q (.ref d) H'):Sk C [.ref a] H Q E
theorem zA:aN [ayg,ayT,ayf,aye,ayu] [ayg] (au HH):=aV
theorem Sl{p:cb}(h:ps[i]?=some p):bZ (ps.take (i+1))=bZ (ps.take i)++p.fs:=by
 unfold bZ;rw[hZ,h,AZ];simp
theorem Sm{p:cb}(h:ps[i]?=some p)(j:Nat):(bZ (ps.take i)++p.fs.take j).length<=(bZ ps).length:=by
 have e:bZ ps=bZ (ps.take (i+1))++bZ (ps.drop (i+1)):=by
  unfold bZ;rw[<-AZ,awJ]
 rw[e,Sl h];simp only[bI,eR];omega
theorem Sn(J:Pg K mg base Pt):aA P w K mg base aJ 1 J.Bro.f J.Bro.fd [ayg] (Sk J.C):=by
 refine J.Bro.u.okL zA ?_;intro ar A outer s H vs Q E hr h xX dX;obtain @⟨_,_,_,a,xs,ps,ha,bG,G5,q⟩:=h;have hu:=hr.units;refine⟨_,(ah (aI (i:=1) zA.nd rfl (Or.inl rfl) kC)
  (ah (eK dZ rfl (cU (pv 0)) (bf (i:=2) zA.nd rfl (Or.inl rfl))
  (al (eK dZ rfl (cU (bK (pv 2) rfl)) (m9 rfl (fM (bf (i:=3) zA.nd rfl (Or.inl rfl)) (fM (bf (i:=4) zA.nd rfl (Or.inl rfl)) mv)))
   (al (iC hu (pv 1) (pv 3) (dR jG (by rfl) J.B.list iS (ao (pv 4))) rfl)))))
  (al (aT (pv 1))))),?_⟩
 refine i9 ?_;intro dD sS gs eh;have hk:∀(H':Hp) kv f,dn H H' kv f->kv.1=Sum.inr f.1:=λ_ kv f z=>z.1;refine λd H1 n1 s1 e1=>?_;refine⟨⟨_,ac.of (s1 _ _ ha)⟩,?_⟩;refine ib (xs:=xs) (λi Z H2=>∃u v z kvs tr,Z=[some (.ref a),some (.ref d),u,v,z]/\aa H H2/\H2 d=some (.dK kvs)/\Paired (dn H H2) kvs tr/\fH (bZ (ps.take i)) tr) ⟨none,none,none,[],[],rfl,s1,e1,.nil,I8⟩ ?_ ?_ ?_
 . intro i Z H2 hi pG;refine bq ?_;intro U;obtain⟨u,v,z,kvs,tr,rfl,G,_⟩:=pG;exact ac.of (G _ _ ha)
 . intro i x Z H2 hx uv;refine bq ?_;intro U;obtain⟨u,v,z,kvs,tr,rfl,G,hd,jT,g⟩:=uv;obtain⟨p,hp,b,dy,fl,rk,m,pf,pn,jA,po,ys,rfl,h1,h2,h3,h4,h5,h6⟩:=eN bG hx;refine⟨G _ _ h1,J.TC.cl,J.TC.nF,h2.files,⟨_,ac.of (G _ _ h4)⟩,?_⟩;refine ib (xs:=ys) (λj Z H3=>∃v z kvs tr,Z=[some (.ref a),some (.ref d),some (.ref b),v,z]/\aa H H3/\H3 d=some (.dK kvs)/\Paired (dn H H3) kvs tr/\fH (bZ (ps.take i)++p.fs.take j) tr) ⟨v,z,kvs,tr,rfl,G,hd,jT,by rw[Ys,jX];exact g⟩ ?_ ?_ ?_
   . intro j Z H3 hj uw;refine bq ?_;intro U;obtain⟨v,z,kvs,tr,rfl,s3,_⟩:=uw;exact ac.of (s3 _ _ h4)
   . intro j y Z H3 hy zn;refine bq ?_;intro U;obtain⟨v,z,kvs,tr,rfl,s3,Y,pL,O⟩:=zn;obtain⟨⟨px,ls⟩,zB,t,l,rfl,t1,t2⟩:=eN h5 hy;refine⟨aX.of (s3 _ _ t1),rfl,rfl,?_⟩;refine⟨l,_,rfl,.inl (ac.of (s3 _ _ t2)),λl' H4 n4 s4 e4=>?_⟩;have a1:=Sm hp j;have a0:=O.len;have So:=bA pL;refine⟨fB.k (k:=.inr px) (s4 _ _ Y) (bY (by omega)),?_⟩;refine⟨_,_,_,bw tr px ls,rfl,eM (s3.trans s4) n1,aB,?_,?_⟩
     . refine av (je (F:=dn H H4) (hk H4) ⟨rfl,l',rfl,s3.free n4,e4⟩ (av pL λ_ _=>dn.same s4)) λkv f=>dn.put (s4 _ _ Y)
     rw[hZ,zB];have:=O.step px ls;rw[j7]at this;exact this
   intro Z H3 zq;refine bq ?_;intro U;obtain⟨v,z,kvs,tr,rfl,s3,Y,pL,O⟩:=zq;refine⟨_,_,_,kvs,tr,rfl,s3,Y,pL,?_⟩;rw[Sl hp];rw[bA h5,ff]at O;exact O
 intro Z H2 Iz;refine bq ?_;intro U;obtain⟨u,v,z,kvs,tr,rfl,G,hd,jT,g⟩:=Iz;rw[bA bG,ff]at g;exact⟨q d H2 kvs tr n1 G hd jT g⟩
theorem Jb{J:Lp}(h:dY C H xs ps)(r:Paired (uB xs ps) vs J):dY C H vs J:=av r λv p O=>O.elim λj U=>U.elim λa b=>by
 obtain⟨x,G,q⟩:=Ca h a;rw[b]at G;cases G;exact q
theorem Jc{G:Lp}(r:Paired (uB xs ps) vs G):∀p∈G,p∈ps:=by
 induction r with
 | nil=>exact λ_ h=>nomatch h
 | cons q t J=>
  intro p hp
  rcases aZ.mp hp with e | hp
  . obtain⟨j,a,b⟩:=q;rw[e];exact dM a
  exact J p hp
theorem CU{b:Nat}(h:∀p∈ps,p.fs.length<=b):(bZ ps).length<=ps.length * b:=by
 induction ps with
 | nil=>exact dC _
 | cons p ps G=>
  have e:bZ (p::ps)=p.fs++bZ ps:=xT;rw[e,bI,cT,X4];have:=G λq j=>h q (bT _ j);have:=h p bL;omega
def bB(H:Hp)(kv:ak×V)(f:Str×Ls):Prop:=kv.1=.inr f.1/\∃l,kv.2=.ref l/\H l=some (.lst (f.2.map V.str))
theorem bB.same{H':Hp}(s:aa H H'){f:Str×Ls}(h:bB H kv f):bB H' kv f:=h.elim λa j=>j.elim λl G=>G.elim λb c=>⟨a,l,b,s _ _ c⟩
def Jd(tr:Tr):Prop:=∀f∈tr,cz f.1/\(∀x∈f.2,fm x)/\f.2.length<=4
section
variable {g:TG}{tt:TT}{te:TE}{Q:Hp->Prop}
theorem rN{σ0:L2.St}(hD:H1 D=none)(hx:ac K H1 a xs)(S:L2.St->Prop)(P:Nat->Lv->Hp->Prop)(s0:S σ0)(st:P 0 [] (upd H1 D (.lst [])))
 (a0:∀i x ys Z H (k:L2.St->V->Hp->Prop) (k':L2.St->Hp->Prop),xs[i]?=some x->S Z->H D=some (.lst ys)->aa H1 H->P i ys H ->
  (∀σ3 y G,S σ3->aa H G->ys.length<sizeLine->P (i+1) (ys++[y]) (upd G D (.lst (ys++[y])))->k σ3 y G)->(∀σ3 j,S σ3->aa H j->P (i+1) ys j->k' σ3 j) ->
  g x Z H λσ3 H3=>tt σ3 H3 λok j=>if ok=true then te σ3 j (k σ3) else k' σ3 j)
 (done:∀ys H,H D=some (.lst ys)->aa H1 H->P xs.length ys H->Q H) :
 ∃W:Nat->Nat->L2.St->Hp->Prop,(∃m,W 0 m σ0 (upd H1 D (.lst [])))/\lE (ni K a) g tt te D (λH'=>Q H') W:=by
 refine⟨λi m Z H=>m=xs.length - i/\i<=xs.length/\S Z/\∃ys,H D=some (.lst ys)/\aa H1 H/\P i ys H,⟨xs.length,by simp,dC _,s0,[],aB,fD hD,st⟩,?_⟩;intro i m Z H fG;refine bq ?_;intro tT;obtain⟨rfl,hi,hS,ys,hd,hs,hp⟩:=fG;have q:ac K H a xs:=aa.seq hs hx
 by_cases Y:i<xs.length
 . refine .inr ⟨⟨xs,xs[i],q,by simp[Y]⟩,λx H2 hy=>?_⟩;obtain⟨e1,e2⟩:=hy;subst e1;exact a0 i x ys Z _ (λσ3 y G=>∃ys,G D=some (.lst ys)/\ys.length<sizeLine/\∃m',m'<xs.length - i/\(m'=xs.length - (i+1)/\i+1<=xs.length/\S σ3/\∃zs,upd G D (.lst (ys++[y])) D=some (.lst zs)/\aa H1 (upd G D (.lst (ys++[y])))/\P (i+1) zs (upd G D (.lst (ys++[y])))))
    (λσ3 j=>∃m',m'<xs.length - i/\(m'=xs.length - (i+1)/\i+1<=xs.length/\S σ3/\∃zs,j D=some (.lst zs)/\aa H1 j/\P (i+1) zs j)) (e2 xs q) hS hd hs hp
    (λσ3 y G O J U a4=>⟨ys,J _ _ hd,U,xs.length - (i+1),by omega,rfl,Y,O,ys++[y],aB,eM (hs.trans J) hD,a4⟩)
    (λσ3 j O J U=>⟨xs.length - (i+1),by omega,rfl,Y,O,ys,J _ _ hd,hs.trans J,U⟩)
 have e:i=xs.length:=by omega
 subst e;exact .inl ⟨⟨xs,q,aG _⟩,done ys H hd hs hp⟩
theorem alM{σ0:L2.St}(hD:H1 D=none)(hx:ac K H1 a xs)(S:L2.St->Prop)(P:Nat->Lv->Hp->Prop)(s0:S σ0)(st:P 0 [] (upd H1 D (.lst [])))
 (a0:∀i x ys Z H (k:L2.St->V->Hp->Prop),xs[i]?=some x->S Z->H D=some (.lst ys)->aa H1 H->P i ys H ->
  (∀σ3 y j,S σ3->aa H j->ys.length<sizeLine->P (i+1) (ys++[y]) (upd j D (.lst (ys++[y])))->k σ3 y j)->g x Z H λσ3 H3=>te σ3 H3 (k σ3))
 (done:∀ys H,H D=some (.lst ys)->aa H1 H->P xs.length ys H->Q H) :
 ∃W:Nat->Nat->L2.St->Hp->Prop,(∃m,W 0 m σ0 (upd H1 D (.lst [])))/\lE (ni K a) g qU te D (λH'=>Q H') W:=
 rN hD hx S P s0 st (λi x ys Z H k k' G J O U Y a6 _=>a0 i x ys Z H k G J O U Y a6) done
end
abbrev dI (ms:List Int):W.Dat:=.tuple (ms.map W.Dat.int)
theorem Sq{a b:List Int}:dI a=dI b↔a=b:=⟨λh=>(List.map_inj_right λx y z=>W.Dat.int.inj z).mp (W.Dat.tuple.inj h),λh=>by rw[h]⟩
theorem uC(n:Nat)(ms:List Int):W.kqdOk (n+1) (dI ms)=true:=by
 simp only[dI,W.kqdOk,iQ,cC];rintro d ⟨i,_,rfl⟩;simp[W.kqdOk]
theorem zC{ms:List Int}(h:H m=some (.tup (ms.map V.int))):DV K H (.ref m) (dI ms):=.tup (aX.of h) (Bv ms)
def pM(H:Hp)(v:V)(ms:List Int):Prop:=∃m,v=.ref m/\H m=some (.tup (ms.map V.int))
theorem pM.same{H':Hp}(s:aa H H'){v:V}{ms:List Int}(h:pM H v ms):pM H' v ms:=h.elim λm j=>j.elim λa b=>⟨m,a,s _ _ b⟩
theorem Sr{j:Ll}(h:Paired (pM H) vs j):iD K H vs (j.map dI):=by
 induction h with
 | nil=>exact .nil
 | cons r t G=>
  obtain⟨m,rfl,e⟩:=r;exact .cons (zC e) G
theorem Ss(n:Nat)(j:Ll):W.kqdOk (n+2) (.list (j.map dI))=true:=by
 rw[W.kqdOk,iQ];intro d hd;obtain⟨ms,_,rfl⟩:=cC.mp hd;exact uC n ms
theorem Su{p:cb}(h:ps[i]?=some p)(gw:cb->Bool):(ps.take (i+1)).filter gw=(ps.take i).filter gw++(if gw p=true then [p] else []):=by
 rw[hZ,h,MK]
 congr 1
 show List.filter gw [p]=_;rw[oE];rfl
def gw(ch:Ch)(p:cb):Bool:=decide ((p.nm,p.ms)∈ch)
inductive Sv (K:Fg) (C:Addr):Sp where
 | mk {H:Hp}{Q:VK}{E:XK}{a n:Addr}{j:Int}{xs:Lv}{ps:Lp}{ns:Ls} (_:H a=some (.lst xs)) (_:dY C H xs ps) (_:ps.length<=100) (_:H n=some (.lst (ns.map V.str))) (_:ns.length<=4) (_:∀c H' ch,H c=none->aa H H'->de H' c ch->pK xs ps ch->(ch.map (·.1)).Nodup->ch.length<=4->Q (.ref c) H'):Sv K C [.ref a,.ref n,.int j] H Q E
theorem zD:aN [ayp,aym,ayb,ayD,ayv,"_law_makes",ayc] [ayp,aym,ayb] (au Ik):=aV
theorem alO(J:Pg K mg base Pt):aA P w K mg base aJ 2 J.Cho.f J.Cho.fd [ayp,aym,ayb] (Sv K J.C):=by
 refine J.Cho.u.okL zD ?_;intro ar A outer s H vs Q E hr h xX dX;obtain @⟨_,_,_,a,n,a0,xs,ps,ns,ha,bG,CQ,hn,n4,q⟩:=h;have hu:=hr.units;have hk:∀(H':Hp) kv f,dA H' kv f->kv.1=Sum.inr f.1:=λ_ kv f z=>z.1;refine⟨_,(ah (aI (i:=3) zD.nd rfl (Or.inl rfl) kC)
  (ah (eK dZ rfl (oM rfl J.B.range (ao (c8 ig (by rfl) J.B.len gA (ao (pv 1))))) (bf (i:=4) zD.nd rfl (Or.inr rfl))
  (ah (qW (i:=5) [ayR] [aym,ayv] [1,4] zD.nd rfl rfl eF rfl (cU (pv 0)) (λ_ _ _ _=>(bf (i:=0) (show List.Nodup ([ayR,aym,ayv]:Ls) by decide +kernel) rfl (Or.inl rfl))) (λ_ _ _ _=>o9 (bS fO (i8 K (pv 0) rfl) (bP (FS K) (pv 1) (pv 2) (λ_ _=>rfl)) (bJ _))) (λ_ _ _ _=>(i8 K (pv 0) rfl)))
   (ah (aI (i:=6) zD.nd rfl (Or.inl rfl) (aF (gG J) hr rfl (aL (pv 2) (aE gj am (pv 4)))))
   (al (cg (PW.pt (oI (bS (Bw hu) (pv 5) (db dG) (bJ _)) (tu (bS Nx (aE cy (pv 6) am) am (bJ _)))))
   (al (iC hu (pv 3) (bP fV (pv 1) (pv 4) (λ_ _=>rfl)) (bP fV (pv 5) (aE cy (aE gO (pv 6) am) (c8 ig (by rfl) J.B.len gA (ao (pv 5)))) (λ_ _=>rfl)) rfl)) cZ)))))
  (al (aT (pv 3))))),?_⟩
 refine i9 ?_;intro dD sS gs eh;refine λc H1 n1 s1 e1=>?_;refine⟨n,_,rfl,.inl (ac.of (s1 _ _ hn)),by omega,by rw[aj];omega,?_⟩;refine vx (n:=(ns.map V.str).length) (λi Z H2=>∃(u v z:Option V) (kvs:List (ak×V)) (ch:Ch),Z=[some (.ref a),some (.ref n),some (.int a0),some (.ref c),u,v,z]/\aa H H2/\H2 c=some (.dK kvs)/\Paired (dA H2) kvs ch/\pK xs ps ch/\(ch.map (·.1)).Nodup/\ch.length<=i) ⟨none,none,none,[],[],rfl,s1,e1,.nil,(λ_ h=>nomatch h),kY,aG _⟩ ?_ ?_
 . intro i Z H2 hi gW;refine bq ?_;intro tT;obtain⟨u,v,z,kvs,ch,rfl,U,hc,jT,hV,oh,mH⟩:=gW;rw[aj]at hi;obtain⟨x,hx⟩:∃x,ns[i]?=some x:=⟨ns[i],by simp[hi]⟩;have lH:cQ (ns.map V.str) (0+(i:Int))=some (V.str x):=by
    rw[Int.zero_add];exact Fh (by rw[dN,hx];rfl)
   refine⟨⟨_,ac.of (U _ _ ha)⟩,?_⟩;intro D hD;refine rN (σ0:=[none,some (.ref n),some (.int (0+(i:Int)))]) hD (ac.of (U _ _ ha)) (λZ=>∃v,Z=[v,some (.ref n),some (.int (0+(i:Int)))]) (λj zs H3=>zs.length<=j/\∃O,Paired (pM H) zs O/\∀ms∈O,∃v p,uB xs ps v p/\p.nm=x/\p.ms=ms) ⟨_,rfl⟩ ⟨aG _,[],.nil,λ_ h=>nomatch h⟩ ?_ ?_
   . intro j y zs Z H3 k k' hy gX hd h3 pG fE jB;refine bq ?_;intro tT;obtain⟨v,rfl⟩:=gX;obtain⟨zl,O,pr,pm⟩:=pG;obtain⟨p,hp,b,dy,fl,rk,m,pf,pn,jA,po,ys,rfl,b1,b2,b3,b4,b5,b6⟩:=eN bG hy;have s3:=U.trans h3;have aO:=(dg.mp hp).1;refine⟨s3 _ _ b1,J.TC.cl,J.TC.nN,b2.name,ac.of (s3 _ _ hn),lH,rfl,⟨?_⟩⟩;refine bu (λh=>?_) (λh=>?_)
     . have en:p.nm=x:=by
        have h:=cH h;injection h
       refine⟨s3 _ _ b1,J.TC.cl,J.TC.nM,b2.make,?_⟩;refine fE _ _ _ ⟨_,rfl⟩ (aa.refl _) (bY (by omega)) ⟨by rw[bI,kW];omega,O++[p.ms],jK ⟨m,rfl,b3⟩ pr,λms hm=>?_⟩
       rcases bR.mp hm with z | z
       . exact pm ms z
       exact⟨_,p,⟨j,hp,hy⟩,en,(bD.mp z).symm⟩
     exact jB _ _ ⟨_,rfl⟩ (aa.refl _) ⟨by omega,O,pr,pm⟩
   intro zs H3 hd h3 uv;refine bq ?_;intro tT;obtain⟨zl,O,pr,pm⟩:=uv;have s3:=U.trans h3;have ll:=bA bG;have Je:=h3 _ _ hc;have rO:=av pr λ_ _=>pM.same s3;have Sw:=av jT λ_ _=>dA.same h3;refine⟨⟨⟨⟨λa3=>?_⟩⟩⟩⟩;refine⟨Ab,λe Y n4 G e4=>?_⟩;refine⟨.list (O.map dI),.list [],.lst (ac.of (G _ _ hd)) (Sr (av rO λ_ _=>pM.same G)),.lst (ac.of e4) .nil,Ss 7 _,Ss 7 [],λbb hb=>⟨?_⟩⟩;have keep:∀u v z,∃(u' v' z':Option V) (kvs:List (ak×V)) (ch:Ch),[some (V.ref a),some (V.ref n),some (V.int a0),some (V.ref c),u,v,z]=[some (V.ref a),some (.ref n),some (.int a0),some (.ref c),u',v',z']/\aa H Y/\Y c=some (.dK kvs)/\Paired (dA Y) kvs ch/\pK xs ps ch/\(ch.map (·.1)).Nodup/\ch.length<=i+1:=
    λu v z=>⟨u,v,z,kvs,ch,rfl,s3.trans G,G _ _ Je,av Sw λ_ _=>dA.same G,hV,oh,by omega⟩
   refine bu (λcY=>?_) (λcY=>?_)
   . refine⟨(by show(0:Int)<4;decide),⟨⟨?_⟩⟩⟩;refine bu (λa2=>?_) (λa2=>keep _ _ _);have pq:0<zs.length:=by
      cases zs with
      | nil=>
       cases pr;have hb:bb=true:=hb.mpr rfl;rw[hb]at cY;cases cY
      | cons y ys=>simp
     obtain⟨y,hy,Ja⟩:=FA (xs:=zs) (r:=a3 / 4 % (zs.length:Int)) (vi _ (by omega)) (xO _ (by omega));obtain⟨ms,Jf,m,rfl,em⟩:=eN rO Ja;obtain⟨v0,p0,ij,en,a1⟩:=pm ms (dM Jf);refine⟨⟨by omega,by omega⟩,D,_,rfl,.inl (ac.of (G _ _ hd)),(by show(0:Int)<(zs.length:Int);omega),ac.of (G _ _ hd),hy,?_⟩;refine⟨ac.of (G _ _ (s3 _ _ hn)),lH,?_⟩;have pl:=bA jT;refine⟨fB.k (k:=.inr x) (G _ _ Je) (bY (by omega)),?_⟩;refine⟨_,_,_,_,bw ch x ms,rfl,eM (s3.trans G) n1,aB,?_,λe he=>?_,jL oh,b8 (jM ch x ms) (by omega)⟩
     . refine av (je (F:=dA Y) (hk Y) ⟨rfl,m,rfl,G _ _ em⟩ (av Sw λ_ _=>dA.same G)) λkv f z=>?_;obtain⟨z1,m',z2,z3⟩:=z;exact⟨z1,m',z2,aw z3 (be z3 (G _ _ Je) (by intro z;cases z))⟩
     rcases mJ he with e' | he
     . rw[e'];exact⟨v0,p0,ij,en,a1⟩
     exact hV e he
   exact eL (keep _ _ _)
 intro Z H2 uw;refine bq ?_;intro tT;obtain⟨u,v,z,kvs,ch,rfl,U,hc,jT,hV,oh,mH⟩:=uw;rw[aj]at mH;exact⟨q c H2 ch n1 U ⟨kvs,hc,jT⟩ hV oh (by omega)⟩
def alR:V->Lv->Hp->VK->Prop:=λx vs H Q=>∃a kvs k y,x=.ref a/\vs=[kV k,y]/\H a=some (.dK kvs)/\kvs.length<sizeLine/\∀z j H',bg j k=some z->((j=kvs)\/(bg kvs k=none/\z=y/\j=cL kvs k y))->H' a=some (.dK j)->(∀b o,H b=some o->b≠a->H' b=some o)->Q z H'
theorem alS{X:Cx}:nv X "dict.setdefault" alR:=by
 intro ad s Z H x xs v us Q I U O h;obtain⟨a,kvs,k,y,rfl,rfl,e,G,q⟩:=h;refine aeT ad s Z H _ _ v us Q I U O ⟨a,kvs,k,y,rfl,rfl,e,G,λz hz=>q z kvs H hz (.inl rfl) e λ_ _ e _=>e,λJ=>q y _ _ ?_ (.inr ⟨J,rfl,rfl⟩) aB λb o e j=>aw e j⟩;rw[Bo,ai rfl]
theorem zE(xs:Ls):(xs.map V.str).all oQ=true:=by
 rw[iQ];intro v j;obtain⟨z,_,rfl⟩:=cC.mp j;rfl
theorem alT{z:Str}{xs:Ls}(h:z∈xs):nu (.str z) (xs.map V.str)=true:=by
 unfold nu;rw[sW];exact⟨_,cC.mpr ⟨z,h,rfl⟩,by simp[lB]⟩
theorem alU{α:Type}{xs:List α}{j:Nat}(h:j<xs.length):∃v,cQ xs (-1 - (0+(j:Int)))=some v:=by
 unfold cQ oP;rw[ag (by omega),ai (by omega),Option.bind_some];have:((-1 - (0+(j:Int))+(xs.length:Int)).toNat)<xs.length:=by omega
 exact⟨_,hX this⟩
theorem alV{L:List Addr}{H':Hp}(G:H p=none)(s:aa H H'):aa (msk L H) (msk (p::L) H'):=λb o e=>by
 unfold msk at e;split at e
 . cases e
 rename_i j;refine cw ?_ (s _ _ e);rw[aZ,mh];exact⟨λz=>(by rw[z,G]at e;cases e),j⟩
theorem alW{L:List Addr}{H':Hp}(s:∀b o,H b=some o->b∉L->H' b=some o):aa (msk L H) (msk L H'):=λb o e=>by
 unfold msk at e;split at e
 . cases e
 exact cw ‹_› (s _ _ e ‹_›)
def alX(Q:Addr->Hp->Prop):VK:=λv H=>match v with | .ref x=>Q x H | _=>False
theorem alY{C:Addr}{Q:Addr->Hp->Prop}{E:XK}{nm:Str}{j J G:Addr}{mk:List Int}{rk:Int}{os:Ls}{fs:List (Str×Ls)}(Y:H m=some (.tup (mk.map V.int)))(U:H fa=some (.lst xs))(lR:Paired (jS H) xs fs)
 (hn:H j=some (.lst [])) (hs:H J=some (.lst [])) (ho:H G=some (.lst (os.map V.str))) (O:fs.length<=1000) (q:∀x H',H x=none->aa H H'->(∀L,jd H L->jy C (msk L H') (.ref x) ⟨nm,mk,fs,os,rk⟩)->Q x H') :
 ∀x dx,H x=none->H dx=none->dx≠x->CM K C (.ref x::([.str nm,.ref m,.int rk,.ref fa,.ref j,.ref J,.ref G]++[])) (upd (upd H dx (.own x)) x (.ins C dx [])) (λv H2=>v=.non/\Q x H2) E:=
 alu (Q:=alX Q) Y U lR hn hs ho O q
theorem fm.ln(h:fm x):Ln x:=⟨tP.mpr λc j=>by have:=h.sg c j;omega,h.hi⟩
theorem cR.ln(h:cR x):Ln x:=⟨tP.mpr λc j=>by have:=h.az c j;omega,by have:=h.hi;omega⟩
theorem cz.len(h:cz x):x.length<=36:=by
 obtain⟨ps,rfl,h1,h2,j⟩:=h;have:=IJ (sep:=lN) (b:=8) (λp G=>(j p G).hi) (by decide +kernel);omega
theorem cz.ln(h:cz x):Ln x:=⟨tP.mpr λc j=>by have:=h.signs c j;omega,by have:=h.len;omega⟩
structure uD(ns:Ls)(ps:Lp)(uk:List (ak×V))(i:Nat):Prop where
 nd:(ps.map gK).Nodup
 ok:∀p∈ps,p.fs.length<=3/\Jd p.fs/\(p.fs.map (·.1)).Nodup
 used:∀p∈ps,∀x∈p.fs.map (·.1),bg uk (.inr x)=some (.str p.nm)
 txts:∀k v,bg uk k=some v->∃y,v=.str y
 len:ps.length<=i
 nms:∀p∈ps,p.nm∈ns
 offs:∀p∈ps,p.os.length<=2/\∀t∈p.os,t∈ns
 mks:∀p∈ps,fZ p.ms
structure Apart(ns:Ls)(ps:Lp):Prop where
 nd:(ps.map gK).Nodup
 ok:∀p∈ps,p.fs.length<=3/\Jd p.fs/\(p.fs.map (·.1)).Nodup
 one:∀p∈ps,∀p'∈ps,∀x,x∈p.fs.map (·.1)->x∈p'.fs.map (·.1)->p.nm=p'.nm
 len:ps.length<=6
 nms:∀p∈ps,p.nm∈ns
 offs:∀p∈ps,p.os.length<=2/\∀t∈p.os,t∈ns
 mks:∀p∈ps,fZ p.ms
theorem uD.apart{ns:Ls}{Y:List (ak×V)}(h:uD ns ps Y 6):Apart ns ps:=by
 refine⟨h.nd,h.ok,λp G U j x J O=>?_,h.len,h.nms,h.offs,h.mks⟩;have a:=h.used p G x J;have b:=h.used U j x O;rw[a]at b;injection b with b
 injection b
structure Sx(fs:Tr)(uk:List (ak×V))(nm:Str)(j:Nat):Prop where
 nd:(fs.map (·.1)).Nodup
 used:∀x∈fs.map (·.1),bg uk (.inr x)=some (.str nm)
 ok:Jd fs
 len:fs.length<=j
inductive Sy (K:Fg) (C:Addr) (vs:Lv) (H:Hp) (Q:VK) (E:XK):Prop where
 | mk (sc n:Addr) (is:List Int) (ns:Ls) (_:vs=[.ref sc,.ref n,.int 3]) (_:ac K H sc (is.map V.int)) (_:H n=some (.lst (ns.map V.str))) (_:1<=ns.length) (_:ns.length<=4) (_:∀j H' vs ps,H j=none->aa H H'->H' j=some (.lst vs)->dY C H' vs ps->Apart ns ps->Q (.ref j) H'):Sy K C vs H Q E
theorem kL:aN [ayk,aym,ay3,"_law_found","_law_used",ayv,ayb,ay6,ayE,"_law_j",ayi,"_law_offers","_law_rank","_law_parcel","_law_mine"] [ayk,aym,ay3] (au zi):=aV
theorem alZ(G:Pg K mg base Pt):aA P w K mg base aJ 3 G.PAp.f G.PAp.fd [ayk,aym,ay3] (Sy K G.C):=by
 refine G.PAp.u.ok kL (λvs H Q E h=>?_) (λar A outer s H vs Q E hr h=>?_)
 . obtain⟨sc,n,is,ns,rfl,_⟩:=h;rfl
 refine tZ ?_;intros;obtain⟨sc,n,is,ns,rfl,ax,hn,Jg,Sz,q⟩:=h;have hu:=hr.units;have aC:(A.deeper (PyProof.Rows.envOfC ayU (au zi) s.heap.objs.size G.PAp.f ar)).units+65<cLine:=by have:=hr.un;omega
 have eA:ci 1 (A.deeper (PyProof.Rows.envOfC ayU (au zi) s.heap.objs.size G.PAp.f ar)):=hr.mono (by decide);refine⟨_,(ah (aI (i:=3) kL.nd rfl (Or.inl rfl) (db dG))
  (ah (aI (i:=4) kL.nd rfl (Or.inl rfl) kC)
  (ah (eK dZ rfl (EO rfl G.B.range (aL (pv 2) (aE gj (pv 2) am))) (bf (i:=5) kL.nd rfl (Or.inl rfl))
  (ah (aI (i:=6) kL.nd rfl (Or.inl rfl) (aF (zk G) eA rfl (aL (pv 0) (pv 5))))
   (ah (aI (i:=7) kL.nd rfl (Or.inr rfl) (bP fV (pv 1) (aE cy (aE gj (pv 6) (pv 5)) (c8 ig (by rfl) G.B.len gA (ao (pv 1)))) (λ_ _=>rfl)))
   (ah (aI (i:=8) kL.nd rfl (Or.inl rfl) (db dG))
   (ah (eK dZ rfl (oM rfl G.B.range (ao (aE cy (aF (gG G) eA rfl (aL (pv 6) am)) am))) (bf (i:=9) kL.nd rfl (Or.inl rfl))
   (ah (aI (i:=10) kL.nd rfl (Or.inl rfl) (aF (ID G) eA rfl (ao (aF (gG G) eA rfl (aL (pv 6) (aE gj am (pv 9)))))))
    (al (cg (PW.pt (oI (bS fO (dH xJ awl PySem.F.type_dict_setdefault alS (pv 4) (aL (pv 10) (pv 7))) (pv 7) (bJ _)) (tu (bS abB (pv 10) (gE [ayR] [] [] eF rfl (cU (pv 8)) (λ_ _ _ _=>(bf (i:=0) (show List.Nodup ([ayR]:Ls) by decide +kernel) rfl (Or.inl rfl))) (λ_ _ _ _=>gQ) (λ_ _ _ _=>(bP (aeC K) (pv 0) am (λ_ _=>rfl)))) (by rfl)))))
    (al (cp (dH iT vn vo oU (pv 8) (ao (eT (aL (pv 10) (aF (Cw G) hr rfl (ao (aF (gG G) eA rfl (aL (pv 6) (aE gj am (pv 9)))))))))))) cZ))))
   (ah (qW (i:=11) ["_law_j"] [aym] [1] kL.nd rfl rfl eF rfl (oM rfl G.B.range (ao (c8 (aau rfl) (by rfl) G.B.min PyProof.Rows.boot_min (aL (c8 ig (by rfl) G.B.len gA (ao (pv 1))) (aE gO (aE cy (aF (gG G) eA rfl (aL (pv 6) am)) am) am))))) (λ_ _ _ _=>(bf (i:=0) (show List.Nodup (["_law_j",aym]:Ls) by decide +kernel) rfl (Or.inl rfl))) (λ_ _ _ _=>gQ) (λ_ _ _ _=>(bP (FS K) (pv 1) (aE EW (vy vA am) (pv 0)) (λ_ _=>rfl))))
   (ah (aI (i:=12) kL.nd rfl (Or.inl rfl) (bP fV (db (aL (aE cy (aF (gG G) eA rfl (aL (pv 6) am)) am) (aE cy (pv 6) (aE EX am am)))) (aE cy (aF (gG G) eA rfl (aL (pv 6) am)) am) (λ_ _=>rfl)))
   (ah (aI (i:=13) kL.nd rfl (Or.inl rfl) (tI G.MPIn (up (alk G)) hr rfl G.TC.mgC G.PIn.b .nil dv (gk (pv 7) (gk (aF (ajQ G) eA rfl (ao (aF (gG G) eA rfl (aL (pv 6) am)))) (gk (pv 12) (q5 (pv 8) (db dG) (db dG) (pv 11)))))))
   (ah (qW (i:=14) [ayR] [ay6] [7] kL.nd rfl rfl eF rfl (cU (pv 3)) (λ_ _ _ _=>(bf (i:=0) (show List.Nodup ([ayR,ay6]:Ls) by decide +kernel) rfl (Or.inl rfl))) (λ_ _ _ _=>o9 (bS fO (i8 K (pv 0) rfl) (pv 1) (bJ _))) (λ_ _ _ _=>(i8 K (pv 0) rfl)))
   (al (cg (PW.pt (oI (bS yg (c8 ig (by rfl) G.B.len gA (ao (pv 14))) am (bJ _)) (tu (bS (afb aC) (bK (pv 13) rfl) (pv 14) (by rfl)))))
   (al (cp (dH iT vn vo oU (pv 3) (ao (pv 13))))) cZ)))))))))))
  (al (aT (pv 3)))))),?_⟩
 refine lI ?_;intro dD sS nY gs eh;refine⟨Ab,λU Ha na sa ea=>?_⟩;refine λO Hb nb sb eb=>?_;have fu:U≠O:=aH ea nb;have zF:H O=none:=sa.free nb;refine⟨⟨by omega,by omega,by omega,by omega⟩,?_⟩;refine vx (lo:=3) (n:=6) (λi Z H2=>∃(t5 t6 t7 t8 t9 jI rR rS rT rV:Option V) (vs:Lv) (ps:Lp) (uk:List (ak×V)),Z=[some (.ref sc),some (.ref n),some (.int 3),some (.ref U),some (.ref O),t5,t6,t7,t8,t9,jI,rR,rS,rT,rV]/\aa H H2/\H2 U=some (.lst vs)/\H2 O=some (.dK uk)/\dY G.C (msk [U,O] H2) vs ps/\uD ns ps uk i/\uk.length<=3 * i)
  ⟨none,none,none,none,none,none,none,none,none,none,[],[],[],rfl,sa.trans sb,sb _ _ ea,eb,.nil,⟨kY,(λ_ h=>nomatch h),(λ_ h=>nomatch h),(λ_ _ h=>nomatch h),aG _,(λ_ h=>nomatch h),(λ_ h=>nomatch h),(λ_ h=>nomatch h)⟩,aG _⟩ ?_ ?_
 . intro i Z H2 hi fG;refine bq ?_;intro tT;obtain⟨t5,t6,t7,t8,t9,jI,rR,rS,rT,rV,vs,ps,uk,rfl,s2,jR,Jh,bG,a2,ul⟩:=fG;refine af6 ?_;intros;refine⟨by omega,s2.seq ax,λa1=>?_⟩;have pq:(0:Int)<((ns.map V.str).length:Int):=by rw[aj];omega
   obtain⟨nm,ab,a4⟩:=tV (xs:=ns) (r:=(a1+(3+(i:Int))) % ((ns.map V.str).length:Int)) (vi _ (by omega)) (by have:=xO (a1+(3+(i:Int))) pq;rw[aj]at *;exact this);refine⟨n,_,rfl,.inl (ac.of (s2 _ _ hn)),pq,ac.of (s2 _ _ hn),ab,?_⟩;refine⟨Ab,λla H3 n3 s3 e3=>?_⟩;have lf:la≠U:=(aH jR n3).symm;have lu:la≠O:=(aH Jh n3).symm;refine⟨⟨λm1=>?_⟩⟩;refine⟨(by show(0:Int)<4;decide),by omega,by omega,?_⟩;refine vx (n:=(m1 % 4).toNat) (λj Z H3=>∃(t9 jI:Option V) (pN:Lv) (fs:Tr) (uk:List (ak×V)),Z=[some (.ref sc),some (.ref n),some (.int 3),some (.ref U),some (.ref O),some (.int (3+(i:Int))),some (.int a1),some (.str nm),some (.ref la),t9,jI,rR,rS,rT,rV]/\aa H H3/\H3 U=some (.lst vs)/\H3 O=some (.dK uk)/\H3 la=some (.lst pN) /\
    dY G.C (msk [la,U,O] H3) vs ps/\Paired (jS (msk [la,U,O] H3)) pN fs/\uD ns ps uk i/\Sx fs uk nm j/\uk.length<=3 * i+j)
    ⟨_,_,[],[],uk,rfl,s2.trans s3,s3 _ _ jR,s3 _ _ Jh,e3,bG.same (alV n3 s3),.nil,a2,⟨kY,(λ_ h=>nomatch h),(λ_ h=>nomatch h),aG _⟩,ul⟩ ?_ ?_
   . intro j Z H4 hj gW;refine bq ?_;intro tT;obtain⟨Ji,Jj,pN,fs,wL,rfl,s4,uG,wM,Jk,wN,CV,J,jU,aR⟩:=gW;refine ju ?_;intros;have j3:j<3:=by omega
     refine⟨⟨⟨⟨λm2=>?_⟩⟩⟩⟩;refine⟨λx H5 SA s5=>?_⟩;have lx:=SA.ln;refine⟨.inr (.inr (.inl ⟨rfl,.inl ⟨_,s5 _ _ wM⟩⟩)),O,wL,.inr x,.str nm,rfl,rfl,s5 _ _ wM,bY (by omega),λz wO H6 hz Jl Jm k6=>?_⟩;have mono:∀a3 v,bg wL a3=some v->bg wO a3=some v:=by
      rcases Jl with rfl | ⟨h1,_,rfl⟩
      . exact λ_ _ h=>h
      intro a3 v hv;rw[Bo];split
      . rename_i e;rw[e,h1]at hv;cases hv
      exact hv
     have Jn:wO.length<=3 * i+(j+1):=by
      rcases Jl with rfl | ⟨_,_,rfl⟩
      . omega
      have:=yt wL (.inr x) (.str nm);omega
     have SD:∀k v,bg wO k=some v->∃y,v=.str y:=by
      rcases Jl with rfl | ⟨_,_,rfl⟩
      . exact J.txts
      intro k v hv;rw[Bo]at hv;split at hv
      . cases hv;exact⟨nm,rfl⟩
      exact J.txts k v hv
     obtain⟨z',rfl⟩:=SD _ _ hz;have SE:aa H H6:=λb o e=>k6 _ _ (s5 _ _ (s4 _ _ e)) (λz=>by rw[z,zF]at e;cases e);have Jo:=k6 _ _ (s5 _ _ uG) fu;have wP:=k6 _ _ (s5 _ _ Jk) lu;have yF:aa (msk [la,U,O] H4) (msk [la,U,O] H6):=(dw s5).trans (alW λb o e Y=>k6 _ _ e (λz=>Y (by rw[z];simp)));have CW:=av CV λ_ _=>jS.same yF;have SF:uD ns ps wO i:=⟨J.nd,J.ok,λp hp y hy=>mono _ _ (J.used p hp y hy),SD,J.len,J.nms,J.offs,J.mks⟩;have keep:∀(t9 jI:Option V) (H7:Hp),aa H6 H7->∃(Ji Jj:Option V) (pN:Lv) (fs:Tr) (uk:List (ak×V)),[some (V.ref sc),some (.ref n),some (.int 3),some (.ref U),some (.ref O),some (.int (3+(i:Int))),some (.int a1),some (.str nm),some (.ref la),t9,jI,rR,rS,rT,rV]=[some (V.ref sc),some (.ref n),some (.int 3),some (.ref U),some (.ref O),some (.int (3+(i:Int))),some (.int a1),some (.str nm),some (.ref la),Ji,Jj,rR,rS,rT,rV]/\aa H H7/\H7 U=some (.lst vs)/\H7 O=some (.dK uk)/\H7 la=some (.lst pN) /\
      dY G.C (msk [la,U,O] H7) vs ps/\Paired (jS (msk [la,U,O] H7)) pN fs/\uD ns ps uk i/\Sx fs uk nm (j+1)/\uk.length<=3 * i+(j+1):=
      λt9 jI H7 s7=>⟨t9,jI,pN,fs,wO,rfl,SE.trans s7,s7 _ _ Jo,s7 _ _ Jm,s7 _ _ wP,wN.same (yF.trans (dw s7)),av CW (λ_ _=>jS.same (dw s7)),SF,⟨jU.nd,λy hy=>mono _ _ (jU.used y hy),jU.ok,Nat.le_succ_of_le jU.len⟩,Jn⟩
     refine⟨rfl,⟨bu (λwQ=>?_) (λwQ=>eL (keep _ _ H6 (aa.refl _)))⟩⟩;have ez:z'=nm:=by
      have h:=cH wQ;injection h
     subst ez;refine⟨⟨_,ac.of wP⟩,?_⟩;refine yz (σ0:=[none]) (ac.of wP) (λZ=>∃v,Z=[v]) (λi zs _=>zs=((fs.map (·.1)).take i).map V.str) ⟨_,rfl⟩ (λ_ _=>rfl) ?_ ?_
     . rintro D i' y zs Z H7 k hD hy ⟨v,rfl⟩ hd h7 rfl hk;obtain⟨⟨px,ls⟩,zB,t,l,rfl,t1,t2⟩:=eN CW hy;have a0:cQ [V.str px,V.ref l] 0=some (V.str px):=rfl;refine⟨aX.of (h7 _ _ (bc _ _ t1)),a0,?_⟩;have gL:=jU.len;refine hk _ _ _ ⟨_,rfl⟩ (aa.refl _) (bY (by rw[aj,eR,aj];omega)) ?_;rw[hZ,dN,zB,dP];rfl
     rintro D zs H7 hD hd h7 rfl;have fl:=bA CW;rw[fl,<-aj (f:=(·.1)),ff]at hd;refine⟨.inl (ac.of hd),rfl,zE _,⟨bu (λBJ=>?_) (λBJ=>keep _ _ H7 h7)⟩⟩;have af:x∉fs.map (·.1):=λhm=>by
      have h:(!nu (.str x) ((fs.map (·.1)).map V.str))=true:=BJ;rw[alT hm]at h;cases h
     refine⟨.inl ⟨rfl,_,ac.of (h7 _ _ wP)⟩,⟨⟨⟨⟨⟨λm3=>?_⟩⟩⟩⟩⟩⟩;refine⟨λl H8 ls n8 s8 e8 l4 SG=>?_⟩;have ba:mC ls:=⟨by omega,λx hx=>(SG x hx).ln⟩;refine⟨An,λt H9 n9 s9 e9=>?_⟩;have wR:aa H6 H9:=h7.trans (s8.trans s9);have gL:=jU.len;have b0:=bA CV;refine⟨wR _ _ wP,bY (by omega),?_⟩;have busy:∀Hx,aa H6 Hx->jd Hx [la,U,O]:=λHx sx b Y=>by
      simp only[aZ,fc,fe]at Y
      rcases Y with rfl | rfl | rfl
      . exact⟨_,sx _ _ wP,by intro vs z;cases z⟩
      . exact⟨_,sx _ _ Jo,by intro vs z;cases z⟩
      exact⟨_,sx _ _ Jm,by intro vs z;cases z⟩
     have B6:H la=none:=s2.free n3;refine⟨_,_,pN++[.ref t],fs++[(x,ls)],wO,rfl,eM (SE.trans wR) B6,aw (wR _ _ Jo) lf.symm,aw (wR _ _ Jm) lu.symm,aB,?_,?_,SF,⟨?_,?_,?_,?_⟩,Jn⟩
     . rw[B9 bL];exact wN.same (yF.trans (dw wR))
     . rw[B9 bL];exact jK ⟨t,l,rfl,cw ((busy H8 (h7.trans s8)).free n9) e9,cw ((busy H7 h7).free n8) (s9 _ _ e8)⟩ (av CW λ_ _=>jS.same (dw wR))
     . rw[dP,qz];refine⟨jU.nd,by simp,λa ha b Y=>?_⟩;have Y:b=x:=bD.mp Y;rw[Y];exact λe=>af (e▸ha)
     . intro y hy;rw[dP]at hy
       rcases bR.mp hy with hy | hy
       . exact mono _ _ (jU.used y hy)
       have hy:y=x:=bD.mp hy;rw[hy];exact hz
     . intro f' CY
       rcases bR.mp CY with h' | h'
       . exact jU.ok f' h'
       rw[bD.mp h'];exact⟨SA,SG,l4⟩
     rw[bI,kW];omega
   intro Z H4 gX;refine bq ?_;intro tT;obtain⟨Ji,Jj,pN,fs,wL,rfl,s4,uG,wM,Jk,wN,CV,J,jU,aR⟩:=gX;refine yE ?_;intros;have gL:fs.length<=3:=by have:=jU.len;omega
   refine⟨n,_,rfl,.inl (ac.of (s4 _ _ hn)),⟨⟨λm4=>?_⟩⟩⟩;obtain⟨r,pC,r0,r4,r2⟩:∃r:Int,(if m4 % 6 / 2<((ns.map V.str).length:Int) then m4 % 6 / 2 else((ns.map V.str).length:Int))=r/\0<=r/\r<=ns.length/\r<=2:=by
    refine⟨_,rfl,?_⟩;rw[aj];split<;>omega
   refine⟨(by show(0:Int)<6;decide),⟨by omega,by omega⟩,_,_,rfl,by omega,by omega,?_⟩;refine vL (σ0:=[none,some (.ref n)]) (λZ=>∃v,Z=[v,some (.ref n)]) (λi ys _=>∃ts:Ls,ys=ts.map V.str/\ts.length=i/\∀t∈ts,t∈ns) ⟨_,rfl⟩ (λ_ _=>⟨[],rfl,rfl,λ_ h=>nomatch h⟩) ?_ ?_
   . rintro D i' ys Z H5 k hD vY ⟨v,rfl⟩ hd h5 hl hk;obtain⟨ts,rfl,az,a'⟩:=hl;obtain⟨y,hy⟩:=alU (xs:=ns.map V.str) (j:=i') (by rw[aj];omega);obtain⟨y',k9,rfl⟩:∃y',y'∈ns/\y=.str y':=by
      obtain⟨jj,_,hj,_⟩:=Bn hy;obtain⟨y',m',e'⟩:=cC.mp (dM hj);exact⟨y',m',e'.symm⟩
     refine⟨_,rfl,ac.of (h5 _ _ (s4 _ _ hn)),hy,?_⟩;exact hk _ _ _ ⟨_,rfl⟩ (aa.refl _) (bY (by rw[aj];omega)) ⟨ts++[y'],tW ts y',by rw[bI,az];rfl,λt ht=>(bR.mp ht).elim (a' t) λz=>by rw[bD.mp z];exact k9⟩
   intro oa bh H5 hD hd h5 pG;refine bq ?_;intro tT;obtain⟨os,rfl,BW,an⟩:=pG;refine F5 ?_;intros;refine⟨⟨λm5=>?_⟩⟩;refine⟨(by show(0:Int)<3;decide),⟨by decide,by decide,by decide⟩,(by show(0:Int)<10 ^ (9:Int).toNat;decide),An,λq0 H6 n6 s6 e6=>?_⟩;refine⟨⟨λm6=>?_⟩⟩;obtain⟨rk,ap,_⟩:=OM (ns:=[m5 % 3,a1 % 10 ^ (9:Int).toNat]) (r:=m6 % 2) (vi _ (by omega)) (by show m6 % 2<2;omega);refine⟨(by show(0:Int)<2;decide),ac.of e6,ap,?_⟩;refine⟨⟨⟨λm7=>?_⟩⟩⟩;refine⟨λm H7 ms n7 s7 e7 BS=>?_⟩;refine⟨Ab,λq1 H8 n8 s8 e8=>?_⟩;refine⟨Ab,λq2 H9 n9 s9 e9=>?_⟩;have zG:aa H4 H9:=h5.trans (s6.trans (s7.trans (s8.trans s9)));refine⟨?_⟩;dsimp only[List.set,fT];refine alY (K:=K) (C:=G.C) (rk:=rk) (nm:=nm) (mk:=ms) (fs:=fs) (s9 _ _ (s8 _ _ e7)) (zG _ _ Jk) (av CV λ_ _ z=>(z.same bc).same zG) (s9 _ _ e8) e9 (s9 _ _ (s8 _ _ (s7 _ _ (s6 _ _ hd)))) (by omega) λx Jp bd zH SH=>?_;have Jq:=zG.trans zH;have SI:=Jq _ _ uG;have Jr:dY G.C Jp vs ps:=(wN.same (dw Jq)).same bc;refine⟨⟨_,ac.of SI⟩,?_⟩;refine FI (σ0:=[none,some (.str nm)]) (ac.of SI) (λZ=>∃v,Z=[v,some (.str nm)]) (λj zs _=>zs.length<=j/\∃gu,Paired (pM Jp) zs gu/\∀p∈ps.take j,p.nm=nm->p.ms∈gu) ⟨_,rfl⟩ (λ_ _=>⟨aG _,[],.nil,λ_ h=>nomatch h⟩) ?_ ?_
   . intro D j y zs Z pO k k' hD hy uv Js uH uw fE jB;refine bq ?_;intro tT;obtain⟨v,rfl⟩:=uv;obtain⟨zl,gu,pr,pm⟩:=uw
     skip
     obtain⟨p,hp,b,dy,fl,CZ,m',pf,pn,jA,po,ys,rfl,b1,b2,b3,b4,b5,b6⟩:=eN Jr hy;have aO:=(dg.mp hp).1;have il:=J.len;refine⟨uH _ _ b1,G.TC.cl,G.TC.nN,b2.name,rfl,⟨?_⟩⟩;refine bu (λh=>?_) (λh=>?_)
     . refine⟨uH _ _ b1,G.TC.cl,G.TC.nM,b2.make,?_⟩;refine fE _ _ _ ⟨_,rfl⟩ (aa.refl _) (bY (by omega)) ⟨by rw[bI,kW];omega,gu++[p.ms],jK ⟨m',rfl,b3⟩ pr,λp' bW e=>?_⟩;rw[hZ,hp]at bW
       rcases bR.mp bW with z | z
       . exact vf _ (pm p' z e)
       have z:p'=p:=bD.mp z;rw[z];exact eX _ (bD.mpr rfl)
     refine jB _ _ ⟨_,rfl⟩ (aa.refl _) ⟨by omega,gu,pr,λp' bW e=>?_⟩;rw[hZ,hp]at bW
     rcases bR.mp bW with z | z
     . exact pm p' z e
     have z:p'=p:=bD.mp z;rw[z]at e;exact absurd (by rw[e];exact bN rfl) h
   intro D zs pO hD Js uH zn;refine bq ?_;intro tT;obtain⟨zl,gu,pr,pm⟩:=zn;refine ju ?_;intros;rw[bA Jr,ff]at pm;have pP:=Jq.trans uH;have il:=J.len;have b7:=bA Jr;have keep:∀(a5 a6 a7 a8 a9 Jt Ju Jv Jw Jx:Option V),∃(t5 t6 t7 t8 t9 jI rR rS rT rV:Option V) (vs:Lv) (ps:Lp) (uk:List (ak×V)),[some (V.ref sc),some (.ref n),some (.int 3),some (.ref U),some (.ref O),a5,a6,a7,a8,a9,Jt,Ju,Jv,Jw,Jx]=[some (V.ref sc),some (.ref n),some (.int 3),some (.ref U),some (.ref O),t5,t6,t7,t8,t9,jI,rR,rS,rT,rV]/\aa H pO/\pO U=some (.lst vs)/\pO O=some (.dK uk)/\dY G.C (msk [U,O] pO) vs ps/\uD ns ps uk (i+1)/\uk.length<=3 * (i+1):=
    λa5 a6 a7 a8 a9 Jt Ju Jv Jw Jx=>⟨a5,a6,a7,a8,a9,Jt,Ju,Jv,Jw,Jx,vs,ps,wL,rfl,s4.trans pP,pP _ _ uG,pP _ _ wM,wN.same ((dw pP).trans (GU λb Y=>bT _ Y)),⟨J.nd,J.ok,J.used,J.txts,Nat.le_succ_of_le J.len,J.nms,J.offs,J.mks⟩,by omega⟩
   refine⟨D,_,rfl,.inl (ac.of Js),⟨⟨bu (λ_=>?_) (λ_=>eL (keep _ _ _ _ _ _ _ _ _ _))⟩⟩⟩;obtain⟨x',dx,fl,CZ,m',pf,pn,jA,po,ys,ex,b1,b2,b3,b4,b5,b6⟩:=(SH [] λ_ h=>nomatch h).same (bc.trans uH);cases ex;refine⟨b1,G.TC.cl,G.TC.nM,b2.make,⟨?_⟩⟩;refine⟨D,zs,dI ms,gu.map dI,rfl,ac.of Js,zC b3,Sr (av pr λ_ _=>pM.same uH),uC 8 _,(λe he=>?_),λbb Y=>⟨bu (λwS=>?_) (λ_=>keep _ _ _ _ _ _ _ _ _ _)⟩⟩
   . obtain⟨nV,_,rfl⟩:=cC.mp he;exact uC 8 _
   have Jf:ms∉gu:=λhm=>by
    have:bb=true:=Y.mpr (ge hm);rw[this]at wS;cases wS
   refine⟨.inl ⟨rfl,_,ac.of (pP _ _ uG)⟩,pP _ _ uG,bY (by omega),?_⟩;refine⟨_,_,_,_,_,_,_,_,_,_,vs++[.ref x],ps++[⟨nm,ms,fs,os,rk⟩],wL,rfl,eM (s4.trans pP) na,aB,aw (pP _ _ wM) fu.symm,?_,⟨?_,?_,?_,J.txts,?_,?_,?_,λp hp=>(bR.mp hp).elim (J.mks p) λz=>by rw[bD.mp z];exact BS⟩,by omega⟩
   . rw[B9 bL];refine jK ((SH [U,O] λb Y=>?_).same (dw uH)) (wN.same ((dw pP).trans (GU λb Y=>bT _ Y)));simp only[aZ,fc,fe]at Y
     rcases Y with rfl | rfl
     . exact⟨_,zG _ _ uG,by intro vs z;cases z⟩
     exact⟨_,zG _ _ wM,by intro vs z;cases z⟩
   . rw[dP,qz];refine⟨J.nd,by simp,λa ha b Y=>?_⟩;have Y:b=gK ⟨nm,ms,fs,os,rk⟩:=bD.mp Y;rw[Y];intro e;obtain⟨p',bW,ep⟩:=cC.mp ha;rw[e]at ep;unfold gK at ep;injection ep with rh uI
     injection rh with rh
     injection rh with rh
     injection uI with uI _
     injection uI with uI
     have uI:p'.ms=ms:=(List.map_inj_right λx y z=>Sum.inl.inj z).mp uI;exact Jf (uI▸pm p' bW rh)
   . intro p' bW
     rcases bR.mp bW with z | z
     . exact J.ok p' z
     rw[bD.mp z];exact⟨gL,jU.ok,jU.nd⟩
   . intro p' bW
     rcases bR.mp bW with z | z
     . exact J.used p' z
     rw[bD.mp z];exact jU.used
   . rw[bI,kW];omega
   . intro p' bW
     rcases bR.mp bW with z | z
     . exact J.nms p' z
     rw[bD.mp z];exact dM a4
   intro p' bW
   rcases bR.mp bW with z | z
   . exact J.offs p' z
   rw[bD.mp z];exact⟨by show os.length<=2;omega,an⟩
 intro Z H2 zq;refine bq ?_;intro tT;obtain⟨t5,t6,t7,t8,t9,jI,rR,rS,rT,rV,vs,ps,uk,rfl,s2,jR,Jh,bG,a2,ul⟩:=zq;exact⟨q U H2 vs ps na s2 jR (bG.same bc) a2.apart⟩
open HT (At cu ik yR kin B2 uh)
def kk(p:cb):List At:=[.inl (-p.rk),.inr p.nm]
theorem C0(a b:cb):cu (kk a) (kk b)=true↔b.rk<a.rk\/(a.rk=b.rk/\a.nm.cps.toList<b.nm.cps.toList):=by
 unfold kk;rw[B2]
 by_cases h:(Sum.inl (-a.rk):At)=Sum.inl (-b.rk)
 . have h':a.rk=b.rk:=by injection h with h;omega
   rw[ai h,B2]
   by_cases n:(Sum.inr a.nm:At)=Sum.inr b.nm
   . rw[ai n];injection n with n
     constructor
     . intro z;cases z
     rintro(z | ⟨_,z⟩)
     . omega
     rw[n]at z;exact absurd z (Yt _)
   rw[ag n];show decide (a.nm.cps.toList<b.nm.cps.toList)=true↔_;rw[Yu];constructor
   . exact λz=>.inr ⟨h',z⟩
   rintro(z | ⟨_,z⟩)
   . omega
   exact z
 rw[ag h];have h':a.rk≠b.rk:=λz=>h (by rw[z]);show decide (-a.rk < -b.rk)=true↔_;rw[Yu];constructor
 . intro z;exact .inl (by omega)
 rintro(z | ⟨z,_⟩)
 . omega
 exact absurd z h'
theorem amb(a b:cb):ik (kk a) (kk b):=by
 unfold kk;rw[uh];split
 . rw[uh];split
   . exact True.intro
   exact True.intro
 exact True.intro
theorem amc(a:cb):cu (kk a) (kk a)=false:=by
 cases z:cu (kk a) (kk a) with
 | false=>rfl
 | true=>
  rcases(C0 a a).mp z with h | ⟨_,h⟩
  . omega
  exact absurd h (Yt _)
theorem amd(a b c:cb)(h1:cu (kk a) (kk b)=true)(h2:cu (kk b) (kk c)=true):cu (kk a) (kk c)=true:=by
 rw[C0]at *
 rcases h1 with h1 | ⟨e1,h1⟩
 . rcases h2 with h2 | ⟨e2,h2⟩
   . exact .inl (by omega)
   exact .inl (by omega)
 rcases h2 with h2 | ⟨e2,h2⟩
 . exact .inl (by omega)
 exact .inr ⟨e1.trans e2,List.lt_trans h1 h2⟩
theorem ame(a b:cb)(h1:cu (kk a) (kk b)=false)(h2:cu (kk b) (kk a)=false):a.nm=b.nm:=by
 have n1:¬(b.rk<a.rk\/(a.rk=b.rk/\a.nm.cps.toList<b.nm.cps.toList)):=λz=>by rw[<-C0,h1]at z;cases z
 have n2:¬(a.rk<b.rk\/(b.rk=a.rk/\b.nm.cps.toList<a.nm.cps.toList)):=λz=>by rw[<-C0,h2]at z;cases z
 have e:a.rk=b.rk:=by
  have x1:¬b.rk<a.rk:=λz=>n1 (.inl z);have J:¬a.rk<b.rk:=λz=>n2 (.inl z);omega
 have j:¬a.nm.cps.toList<b.nm.cps.toList:=λz=>n1 (.inr ⟨e,z⟩);have G:¬b.nm.cps.toList<a.nm.cps.toList:=λz=>n2 (.inr ⟨e.symm,z⟩);have eq:a.nm.cps.toList=b.nm.cps.toList:=Yq G j;have ext:∀x y:Str,x.cps.toList=y.cps.toList->x=y:=λ⟨⟨x⟩⟩ ⟨⟨y⟩⟩ h=>by
  have h:x=y:=h;rw[h]
 exact ext _ _ eq
def C1(off:Lp)(p:cb):Prop:=p∈off/\∀q∈off,cu (kk q) (kk p)=false
theorem C1.eq{off G:Lp}{p j:cb}(h:C1 off p)(h':C1 G j)(m:∀q,q∈off↔q∈G):p.nm=j.nm:=
 ame p j (h'.2 p ((m p).mp h.1)) (h.2 j ((m j).mpr h'.1))
def NB(off:Lp)(j:Option Str)(r:Str):Prop:=(j=some r/\r∈off.map cb.nm)\/((∀x,j=some x->x∉off.map cb.nm)/\∃p,C1 off p/\r=p.nm)
theorem NB.eq{off G:Lp}{zI:Option Str}{r Y:Str}(h:NB off zI r)(h':NB G zI Y)(m:∀q,q∈off↔q∈G):r=Y:=by
 have U:∀x,x∈off.map cb.nm↔x∈G.map cb.nm:=λx=>by
  rw[cC,cC];exact⟨λa0=>a0.elim λp a1=>a1.elim λa b=>⟨p,(m p).mp a,b⟩,λa2=>a2.elim λp a3=>a3.elim λa b=>⟨p,(m p).mpr a,b⟩⟩
 rcases h with⟨a,b⟩ | ⟨a,p,bp,e⟩
 . rcases h' with⟨j,b'⟩ | ⟨j,p',J,O⟩
   . rw[a]at j;exact gM j
   exact absurd ((U _).mp b) (j _ a)
 rcases h' with⟨j,b'⟩ | ⟨j,p',J,O⟩
 . exact absurd ((U _).mpr b') (a _ j)
 rw[e,O];exact bp.eq J m
theorem wG.fn{a_:Str}{st:Stmt}(F:wG K x a_ st f c fd):cq K x a_ st f fd:=by
 obtain⟨⟨O,U,kV,G,pm,j,ct,J,e,l,h⟩,k⟩:=F;subst e;exact⟨⟨O,U,kV,G,pm,j,.ref c,ct,J,rfl,l,h⟩,k⟩
theorem wG.ok{P:Program}{w:World}{mg:Mv}{base:Heap}{a_:Str}{st:Stmt}{N ps:Ls}{k:Nat}{sp:Sp}(F:wG K x a_ st f c fd)(S:aN N ps (au st))(len:∀vs H Q E,sp vs H Q E->vs.length=ps.length)
 (U:∀(A:Around) (outer:List Env) (s:Shared) (H:Hp) (vs:Lv) (Q:VK) (E:XK),ci k (A.deeper (envOfC a_ (au st) s.heap.objs.size f (.ref c)))->sp vs H Q E ->
  ∃t,cf (lq aJ P w K mg base N a_ (au st) f (.ref c) A outer s H E).nox (cM st) t/\t { nx:=λ_ H'=>Q .non H',rt:=Q } (start N vs) H):aA P w K mg base aJ (k+1) f fd ps sp:=by
 obtain⟨oc,od,kV,a0,pm,Y,ct,iX,rfl,O,G⟩:=F.ex;refine Fe O G S len λA outer s H vs Q E j J=>?_;obtain⟨t,h,q⟩:=U A outer s H vs Q E j J;exact⟨t,h.nox,q⟩
inductive SJ (C:Addr):Sp where
 | mk {H:Hp}{Q:VK}{E:XK}{a:Addr}{xs:Lv}{ps:Lp} (_:H a=some (.lst xs)) (_:dY C H xs ps) (_:ps.length<=6) (_:(∀p∈ps,p.os.length<=2)) (_:∀r H' (cs:Ls),H r=none->aa H H'->H' r=some (.lst (cs.map V.str))->cs.Nodup->(∀c,c∈cs↔∃p∈ps,c∈p.os)->cs.length<=12->Q (.ref r) H'):SJ C [.ref a] H Q E
theorem Jy:aN [ayg,"commons",ayf] [ayg] (au HJ):=aV
theorem amj(J:Pg K mg base Pt):aA P w K mg base aJ 1 J.Com.f J.Com.fd [ayg] (SJ J.C):=by
 refine J.Com.u.okL Jy ?_;intro ar A outer s H vs Q E hr h xX dX;obtain @⟨_,_,_,a,xs,ps,Y,U,h6,GC,q⟩:=h;refine⟨_,(ah (aI (i:=1) Jy.nd rfl (Or.inl rfl) (db dG))
  (ah (eK dZ rfl (cU (pv 0)) (bf (i:=2) Jy.nd rfl (Or.inl rfl))
  (al (cp (dH iT qF qG nw (pv 1) (ao (bK (pv 2) rfl))))))
  (al (aT (c8 (Qh rfl) (by rfl) J.B.sorted vm (ao (dR (ahJ rfl) (by rfl) J.B.set Yv (ao (pv 1))))))))),?_⟩
 refine i9 ?_;intro dD sS gs eh;refine⟨Ab,λc H1 n1 s1 e1=>?_⟩;refine⟨⟨_,ac.of (s1 _ _ Y)⟩,?_⟩;refine ib (xs:=xs) (λi Z H2=>∃u,Z=[some (.ref a),some (.ref c),u]/\aa H H2/\H2 c=some (.lst (((ps.take i).flatMap cb.os).map V.str))/\((ps.take i).flatMap cb.os).length<=2 * i) ⟨none,rfl,s1,e1,aG _⟩ ?_ ?_ ?_
 . intro i Z H2 hi fG;refine bq ?_;intro tT;obtain⟨u,rfl,G,_⟩:=fG;exact ac.of (G _ _ Y)
 . intro i x Z H2 hx gW;refine bq ?_;intro tT;obtain⟨u,rfl,G,O,hl⟩:=gW;obtain⟨p,j,b,dy,fl,rk,m,pf,pn,jA,po,ys,rfl,h1,h2,h3,h4,h5,Jz,_⟩:=eN U hx;have hi:=(dg.mp j).1;have ho:=GC p (dM j);refine⟨.inl ⟨rfl,_,ac.of O⟩,G _ _ h1,J.TC.cl,J.TC.nO,h2.offers,O,G _ _ Jz,ky (by rw[aj,aj];omega),?_⟩;refine⟨_,rfl,eM G n1,?_,?_⟩
   . rw[aB,hZ,j,AZ,dP];simp
   have e2:(List.flatMap cb.os (some p).toList)=p.os:=by simp
   rw[hZ,j,AZ,bI,e2];omega
 intro Z H2 gX;refine bq ?_;intro tT;obtain⟨u,rfl,G,O,hl⟩:=gX;rw[bA U,ff]at O hl;refine⟨c,_,rfl,ac.of O,by omega,λr zs H3 n3 s3 e3 nd mem=>?_⟩;have lz:=kE nd λz hz=>(mem z).mp hz;refine⟨r,zs,rfl,e3,by omega,λbU j hs=>λl H4 n4 s4 e4=>?_⟩;refine q l H4 bU (G.free (s3.free n4)) (G.trans (s3.trans s4)) e4 (j.nodup_iff.mpr nd) (λz=>?_) (by rw[j.length_eq];omega);rw[j.mem_iff,mem z,qD]
end
section
open HT (At cu ik)
variable {H:Hp}{qu:Str}
theorem zJ{z:Str}{xs:Ls}:nu (.str z) (xs.map V.str)=true↔z∈xs:=by
 unfold nu;rw[sW];constructor
 . rintro⟨v,hv,e⟩;obtain⟨y,j,rfl⟩:=cC.mp hv;have:y=z:=by simpa [lB]using e
   rw[<-this];exact j
 intro h;exact⟨.str z,ge h,by simp[lB]⟩
theorem amk{xs:Ls}:nu .non (xs.map V.str)=false:=by
 unfold nu;rw[List.any_eq_false];intro v j;obtain⟨y,G,rfl⟩:=cC.mp j;simp[lB]
def rW(j:List (ak×V))(c:Str):Option Str:=match bg j (.inr c) with | some (.str y)=>some y | _=>none
def JA(j:List (ak×V)):Prop:=∀k v,bg j k=some v->∃y,v=.str y/\Ln y
theorem aml{j:List (ak×V)}(h:JA j)(c:Str):((bg j (.inr c)).getD .non=.non/\rW j c=none)\/∃y,(bg j (.inr c)).getD .non=.str y/\rW j c=some y/\Ln y:=by
 unfold rW;cases e:bg j (.inr c) with
 | none=>exact .inl ⟨rfl,rfl⟩
 | some v=>
  obtain⟨y,rfl,G⟩:=h _ _ e;exact .inr ⟨y,rfl,rfl,G⟩
def gZ(c:Str)(ps:Lp):Lp:=ps.filter λp=>decide (c∈p.os)
theorem SK{ps:Lp}{i:Nat}{p:cb}(h:ps[i]?=some p)(c:Str):gZ c (ps.take (i+1))=gZ c (ps.take i)++(if c∈p.os then [p] else []):=by
 unfold gZ;rw[Su h]
 by_cases z:c∈p.os
 . simp[z]
 simp[z]
theorem SM:∀{vs:Lv}{ps:Lp},dY C H vs ps->∃as:List Addr,vs=as.map V.ref
 | _,_,.nil=>⟨[],rfl⟩
 | _,_,.cons r t=>by
  obtain⟨a,_,_,_,_,_,_,_,_,_,rfl,_⟩:=r;obtain⟨as,rfl⟩:=SM t;exact⟨a::as,rfl⟩
def pz:cb:=⟨Str.empty,[],[],[],0⟩
theorem TabSt.at{lp:Pos}(h:TabSt H Pt lp qu):∃φ,H Pt=some (.ext φ):=by
 rcases h with z | ⟨c',z,_⟩
 . exact⟨_,z⟩
 exact⟨_,z⟩
theorem TabSt.ne{lp:Pos}(h:TabSt H Pt lp qu){o:HO}(e:H b=some o)(n:∀φ,o≠.ext φ):b≠Pt:=λz=>by
 obtain⟨φ,w⟩:=TabSt.at h;rw[z,w]at e;cases e;exact n _ rfl
theorem TabSt.new{lp:Pos}(h:TabSt H Pt lp qu)(e:H b=none):b≠Pt:=λz=>by
 obtain⟨φ,w⟩:=TabSt.at h;rw[z,w]at e;cases e
def fJ:Pos:=match cM wp with
 | [_,_,_,.Return (some (.Attribute (.Call _ _ [⟨_,.Lambda _ _ _ p,_⟩] _) _ _)) _]=>p
 | _=>⟨0,0,0,0⟩
def fo:Str:="name_behind.<locals>.<lambda>"
inductive SN (C Pt:Addr):Sp where
 | mk {H:Hp}{Q:VK}{E:XK}{a h:Addr}{c:Str}{xs:Lv}{px:Lp}{j:List (ak×V)} (_:H a=some (.lst xs)) (_:dY C H xs px) (_:px.length<=6) (_:(∃p∈px,c∈p.os)) (_:H h=some (.dK j)) (_:JA j) (_:(∀p∈px,Ln p.nm)) (_:TabSt H Pt fJ fo) (_:∀r H',lK Pt H H'->TabSt H' Pt fJ fo->Ln r->NB (gZ c px) (rW j c) r->Q (.str r) H'):SN C Pt [.str c,.ref a,.ref h] H Q E
theorem JB:aN [ayQ,ayg,ayr,"offering","told"] [ayQ,ayg,ayr] (au wp):=aV
theorem amm(G:Pg K mg base Pt):aA P w K mg base aJ 3 G.NBe.f G.NBe.fd [ayQ,ayg,ayr] (SN G.C Pt):=by
 refine G.FN.ok JB (λvs H Q E h=>?_) (λA outer s H vs Q E hr h=>?_)
 . cases h;rfl
 refine tZ ?_;intros;obtain @⟨_,_,_,a,h,J,xs,px,hk,ha,bG,h6,hex,hh,hok,a5,a1,q⟩:=h;have hu:=hr.units;have eA:ci 1 (A.deeper (envOfC ay1 (au wp) s.heap.objs.size G.NBe.f (.ref G.cN))).in1:=hr.in1;refine⟨_,(ah (qW (i:=3) [ayf] [ayQ] [0] JB.nd rfl rfl eF rfl (cU (pv 1)) (λ_ _ _ _=>(bf (i:=0) (show List.Nodup ([ayf,ayQ]:Ls) by decide +kernel) rfl (Or.inl rfl))) (λ_ _ _ _=>o9 (bS (O7 K) (pv 1) (i8 K (pv 0) rfl) (by rfl))) (λ_ _ _ _=>(pv 0)))
  (ah (aI (i:=4) JB.nd rfl (Or.inl rfl) (Fx hu (pv 2) (pv 0) ⟨rfl,rfl,rfl,rfl⟩))
  (vT (cg (bS Oc (pv 4) (gE [ayf] [] [] eF rfl (cU (pv 3)) (λ_ _ _ _=>(bf (i:=0) (show List.Nodup ([ayf]:Ls) by decide +kernel) rfl (Or.inl rfl))) (λ_ _ _ _=>gQ) (λ_ _ _ _=>(i8 K (pv 0) rfl))) (by rfl))
  (al (aT (pv 4))) cZ)
  (al (aT (bK (aiB (c:=G.cN) (P:=Pt) (x:=ayf) (a_:=fo) (pv 3) ⟨rfl,rfl,rfl,by decide +kernel,rfl,by decide +kernel,by decide +kernel⟩ eA rfl rfl G.hN G.hB rfl G.B.min
   (λ_ _ _ _ _ _ _=>eT (aL (vy vA (i8 K (pv 0) rfl)) (i8 K (pv 0) rfl))) (λ_ _ _ _=>rfl)) rfl)))))),?_⟩
 refine i9 ?_;intro dD sS gs eh;refine⟨⟨_,ac.of ha⟩,?_⟩;intro D hD;refine rN (σ0:=[none,some (.str J)]) hD (ac.of ha) (λZ=>∃v,Z=[v,some (.str J)]) (λj zs H3=>zs.length<=j/\dY G.C H zs (gZ J (px.take j))) ⟨_,rfl⟩ ⟨aG _,.nil⟩ ?_ ?_
 . rintro j y zs Z H3 k k' hy ⟨v,rfl⟩ dJ h3 ⟨zl,Y⟩ fE jB;obtain⟨p,O,hE⟩:=eN bG hy;obtain⟨b,dy,fl,rk,m,pf,pn,jA,po,ys,rfl,U,b2,b3,b4,b5,b6,b7⟩:=id hE;have aO:=(dg.mp O).1;refine⟨h3 _ _ U,G.TC.cl,G.TC.nO,b2.offers,.inl (ac.of (h3 _ _ b6)),rfl,zE _,⟨?_⟩⟩;refine bu (λh=>?_) (λh=>?_)
   . have ij:J∈p.os:=zJ.mp h;refine⟨fE _ _ _ ⟨_,rfl⟩ (aa.refl _) (bY (by omega)) ⟨by rw[bI,kW];omega,?_⟩⟩;rw[SK O,ai ij];exact jK hE Y
   have ij:J∉p.os:=λz=>h (zJ.mpr z);refine jB _ _ ⟨_,rfl⟩ (aa.refl _) ⟨by omega,?_⟩;rw[SK O,ag ij,jX];exact Y
 rintro zs H3 dJ h3 ⟨zl,Y⟩;rw[bA bG,ff]at Y;have a9:zs.length<=6:=by have:=bA bG;omega
 have a8:0<(gZ J px).length:=by
  obtain⟨p,O,hc⟩:=hex;exact awA (jk.mpr ⟨O,bN hc⟩)
 have a2:∀p∈gZ J px,Ln p.nm:=λp O=>a5 p (jk.mp O).1;refine⟨.inl ⟨_,.inl (h3 _ _ hh)⟩,_,cn.k (k:=.inr J) (h3 _ _ hh),?_⟩;refine⟨λσ5 H5=>(∃v,σ5=[some (.str J),some (.ref a),some (.ref h),some (.ref D),some v])/\aa H3 H5/\∀x,rW hk J=some x->x∉(gZ J px).map cb.nm,?_,?_⟩
 . rcases aml hok J with⟨e,et⟩ | ⟨y,e,et,hy⟩
   . rw[e];refine⟨⟨_,ac.of dJ⟩,?_⟩;refine yz (σ0:=[none]) (ac.of dJ) (λZ=>∃v,Z=[v]) (λj kM _=>kM=(((gZ J px).take j).map cb.nm).map V.str) ⟨_,rfl⟩ (λ_ _=>rfl) ?_ ?_
     . rintro D2 j y' kM Z H4 k zK k9 ⟨v,rfl⟩ uJ h4 rfl eE;obtain⟨p,O,b,dy,fl,rk,m,pf,pn,jA,po,ys,rfl,U,b2,b3,b4,b5,b6,b7⟩:=eN Y k9;have aO:=(dg.mp k9).1;refine⟨h4 _ _ (h3 _ _ U),G.TC.cl,G.TC.nN,b2.name,eE _ _ _ ⟨_,rfl⟩ (aa.refl _) (bY (by rw[aj,aj,eR];omega)) ?_⟩;rw[hZ,O,dP,dP];rfl
     rintro D2 kM H4 zK uJ h4 rfl;rw[bA Y,ff]at uJ;refine⟨.inl (ac.of uJ),rfl,zE _,⟨?_⟩⟩;refine bu (λh=>?_) (λ_=>⟨⟨_,rfl⟩,h4,λx z=>by rw[et]at z;cases z⟩);have h:nu .non (((gZ J px).map cb.nm).map V.str)=true:=h;rw[amk]at h;cases h
   rw[e];refine⟨⟨_,ac.of dJ⟩,?_⟩;refine yz (σ0:=[none]) (ac.of dJ) (λZ=>∃v,Z=[v]) (λj kM _=>kM=(((gZ J px).take j).map cb.nm).map V.str) ⟨_,rfl⟩ (λ_ _=>rfl) ?_ ?_
   . rintro D2 j y' kM Z H4 k zK k9 ⟨v,rfl⟩ uJ h4 rfl eE;obtain⟨p,O,b,dy,fl,rk,m,pf,pn,jA,po,ys,rfl,U,b2,b3,b4,b5,b6,b7⟩:=eN Y k9;have aO:=(dg.mp k9).1;refine⟨h4 _ _ (h3 _ _ U),G.TC.cl,G.TC.nN,b2.name,eE _ _ _ ⟨_,rfl⟩ (aa.refl _) (bY (by rw[aj,aj,eR];omega)) ?_⟩;rw[hZ,O,dP,dP];rfl
   rintro D2 kM H4 zK uJ h4 rfl;rw[bA Y,ff]at uJ;refine⟨.inl (ac.of uJ),rfl,zE _,⟨?_⟩⟩;have uK:=h3.trans h4;refine bu (λh=>?_) (λh=>⟨⟨_,rfl⟩,h4,λx z=>by
    rw[et]at z;cases z;exact λm=>h (zJ.mpr m)⟩)
   exact⟨q y H4 (λx o ex _=>uK _ _ ex) (a1.same uK) hy (.inl ⟨et,zJ.mp h⟩)⟩
 intro σ5 H5 fG;refine bq ?_;intro tT;obtain⟨⟨v,rfl⟩,s5,Qw⟩:=fG;obtain⟨as,JC⟩:=SM Y;have kN:aa H H5:=h3.trans s5;have a6:=Y.same kN;have jh:TabSt H5 Pt fJ fo:=a1.same kN;have rX:H5 D=some (.lst (as.map V.ref)):=by rw[<-JC];exact s5 _ _ dJ
 have a4:=bA Y;rw[JC,aj]at a4;have a0:∀(i:Nat) (b:Addr),as[i]?=some b->∃p,(gZ J px)[i]?=some p/\jy G.C H5 (.ref b) p:=λi b hi=>by
  have:zs[i]?=some (V.ref b):=by rw[JC,dN,hi];rfl
  exact eN a6 this
 have gd:∀(i:Nat) (p:cb),(gZ J px)[i]?=some p->(gZ J px).getD i pz=p:=λi p hi=>by
  rw[MA,hi];rfl
 refine⟨D,as,λi=>kk ((gZ J px).getD i pz),rfl,TabSt.ne jh rX (by intro φ z;cases z),rX,by omega,λi j=>amb _ _,λi j l=>amd _ _ _,λi=>amc _,jh,λi b hi H2 kp=>?_,λi b H' hi a3 kp wU=>?_⟩
 . obtain⟨p,O,hE⟩:=a0 i b hi;obtain⟨b',dy,fl,rk,m,pf,pn,jA,po,ys,eb,U,b2,b3,b4,b5,b6,b7⟩:=hE;cases eb;have C2:=kp _ _ U (TabSt.ne jh U (by intro φ z;cases z));have SO:=b2.rank;rw[b7.1]at SO;refine⟨C2,G.TC.cl,G.TC.nR,SO,_,rfl,C2,G.TC.cl,G.TC.nN,b2.name,An,λkt a7 n3 s3 e3=>⟨kt,rfl,s3,?_⟩⟩;rw[e3];dsimp only;rw[gd i p O];rfl
 obtain⟨p,O,hE⟩:=a0 i b hi;obtain⟨b',dy,fl,rk,m,pf,pn,jA,po,ys,eb,U,b2,b3,b4,b5,b6,b7⟩:=hE;cases eb;have C2:=kp _ _ U (TabSt.ne jh U (by intro φ z;cases z));have pm:p∈gZ J px:=dM O;refine⟨C2,G.TC.cl,G.TC.nN,b2.name,q p.nm H' (λx o ex nx=>kp _ _ (kN _ _ ex) nx) wU (a2 p pm) (.inr ⟨Qw,p,⟨pm,λq' iA=>?_⟩,rfl⟩)⟩;obtain⟨j,hj⟩:=List.getElem?_of_mem iA;have:=a3 j (by have:=(dg.mp hj).1;omega);dsimp only at this;rw[gd j q' hj,gd i p O]at this;exact this
end
section
variable {β:Type}{kvs:List (ak×V)}{f:Str×Ls}{H:Hp}{ps:Ls}
theorem g9{Hk:Hp}{o o':HO}(h:Hk a=some o)(n:a≠p):upd Hk p o' a=some o:=by rw[aQ n];exact h
def gL(d b:Addr)(v:V):List (Str×V):=[(ayo,.ref d),("book",.ref b),("left",v)]
theorem amr(d b:Addr):ay "left" .non (ay "book" (.ref b) (ay ayo (.ref d) []))=gL d b .non:=rfl
theorem C3(d b:Addr)(v:V):(gL d b v).lookup (ayo:Str)=some (.ref d):=rfl
theorem SQ(d b:Addr)(v:V):(gL d b v).lookup ("book":Str)=some (.ref b):=rfl
theorem ams(d b:Addr)(v:V):(gL d b v).lookup ("left":Str)=some v:=rfl
inductive SR (C:Addr):Sp where
 | mk {H:Hp}{Q:VK}{E:XK}{x dx d b:Addr} (_:H x=some (.ins C dx (gL d b .non))) (_:Q .non H):SR C [.ref x] H Q E
theorem amt:aN [aya] [aya] (au wo):=aV
theorem JD(j:Pg K mg base Pt):aA P w K mg base aJ 1 j.DTk.f j.DTk.fd [aya] (SR j.D):=by
 refine j.DTk.u.okL amt ?_;intro J A outer s H vs Q E U h Y O;obtain @⟨_,_,_,x,dx,d,b,G,q⟩:=h;refine⟨_,(ah (cg (bS Bg (bK (pv 0) rfl) jq (bJ _)) (al M4) cZ) EK),?_⟩;exact⟨G,j.UD.cl,j.UD.nL,ams _ _ _,rfl,⟨gm q⟩⟩
inductive JE (C:Addr):Sp where
 | mk {H:Hp}{Q:VK}{E:XK}{x dx:Addr} (_:H x=some (.ins C dx [])) (_:∀d b H',H d=none->H b=none->H' x=some (.ins C dx (gL d b .non))->H' d=some (.dK [])->H' b=some (.lst [])->(∀p o,H p=some o->p≠x->H' p=some o)->Q .non H'):JE C [.ref x] H Q E
theorem amu:aN [aya] [aya] (au wf):=aV
theorem amv(j:Pg K mg base Pt):aA P w K mg base aJ 1 j.DIn.f j.DIn.fd [aya] (JE j.D):=by
 refine j.DIn.u.okL amu ?_;intro ar A outer s H vs Q E hr h xX dX;obtain @⟨_,_,_,x,dx,hx,q⟩:=h;refine⟨_,(ah (iW (pv 0) kC rfl)
  (ah (iW (pv 0) (db dG) rfl)
  (al (iW (pv 0) jq rfl)))),?_⟩
 refine λd H1 n1 J e1=>?_;have U:d≠x:=(aH hx n1).symm;refine⟨J _ _ hx,j.UD.cl,j.UD.nF,by show 0<1000;decide,?_⟩;refine⟨Ab,λb H2 n2 O e2=>?_⟩;have Y:=lC n2;have h2:=O _ _ (aB (H:=H1) (a:=x) (o:=.ins j.D dx (ay ayo (.ref d) [])));have d2:=O _ _ (g9 (p:=x) (o':=.ins j.D dx (ay ayo (.ref d) [])) e1 U);have bx:b≠x:=Y.1;have bd:d≠b:=be d2 e2 (by intro z;cases z);refine⟨h2,j.UD.cl,j.UD.nB,by show 1<1000;decide,?_⟩;refine⟨aB,j.UD.cl,j.UD.nL,by show 2<1000;decide,?_⟩;rw[amr];refine q d b _ n1 (J.free Y.2) aB (g9 (g9 d2 U) U) (g9 (g9 e2 bx) bx) λp o e G=>g9 (g9 (O _ _ (g9 (J _ _ e) G)) G) G
inductive SU (K:Fg) (C:Addr):Sp where
 | mk {H:Hp}{Q:VK}{E:XK}{x dx d b l:Addr}{p:Str}{j:List (ak×V)}{ys:Lv} (_:H x=some (.ins C dx (gL d b .non))) (_:H d=some (.dK j)) (_:H l=some (.lst ys)) (_:j.length<=500) (_:∀q H',H q=none->H' d=some (.dK (cL j (.inr p) (.ref q)))->H' q=some (.lst ys)->(∀p o,H p=some o->p≠d->H' p=some o)->Q .non H'):SU K C [.ref x,.str p,.ref l] H Q E
theorem amw:aN [aya,aye,ayu] [aya,aye,ayu] (au wk):=aV
theorem amx(j:Pg K mg base Pt):aA P w K mg base aJ 2 j.DPt.f j.DPt.fd [aya,aye,ayu] (SU K j.D):=by
 refine j.DPt.u.okL amw ?_;intro ar A outer s H vs Q E U h xX dX;obtain @⟨_,_,_,x,dx,d,b,l,p,kd,ys,G,hd,Y,wW,q⟩:=h;have hu:=U.units;refine⟨_,(ah (cp (iz (pv 0) j.UD.cl j.UD.mDTk (up (JD j)) U j.DTk.b .nil dv))
  (al (iC hu (bK (pv 0) rfl) (pv 1) (dR jG (by rfl) j.B.list iS (ao (pv 2))) rfl))),?_⟩
 refine⟨G,rfl,G,?_⟩;refine⟨l,_,rfl,.inl (ac.of Y),λq' H2 n2 J e2=>?_⟩;have O:=J _ _ hd;refine⟨J _ _ G,j.UD.cl,j.UD.nF,C3 _ _ _,fB.k (k:=.inr p) O (bY (by omega)),?_⟩;exact q q' _ n2 aB (g9 e2 (be e2 O (by intro z;cases z))) λp o e hp=>g9 (J _ _ e) hp
inductive SV (C:Addr):Sp where
 | mk {H:Hp}{Q:VK}{E:XK}{x dx d b:Addr}{p:Str}{j:List (ak×V)} (_:H x=some (.ins C dx (gL d b .non))) (_:H d=some (.dK j)) (_:∀H',H' d=some (.dK (if (bg j (.inr p)).isSome=true then ny j (.inr p) else j))->(∀p o,H p=some o->p≠d->H' p=some o)->Q .non H'):SV C [.ref x,.str p] H Q E
theorem amy:aN [aya,aye] [aya,aye] (au wm):=aV
theorem amz(j:Pg K mg base Pt):aA P w K mg base aJ 2 j.DEr.f j.DEr.fd [aya,aye] (SV j.D):=by
 refine j.DEr.u.okL amy ?_;intro ar A outer s H vs Q E O h xX dX;obtain @⟨_,_,_,x,dx,d,b,p,U,G,hd,q⟩:=h;have hu:=O.units;refine⟨_,(ah (cp (iz (pv 0) j.UD.cl j.UD.mDTk (up (JD j)) O j.DTk.b .nil dv))
  (al (cg (oH (tN hu (pv 1) (bK (pv 0) rfl)) (by rfl))
  (al (cp (Br (bK (pv 0) rfl) (pv 1) ⟨rfl,rfl,rfl,rfl⟩))) cZ))),?_⟩
 refine⟨G,rfl,G,?_⟩;refine⟨G,j.UD.cl,j.UD.nF,C3 _ _ _,_,cn.k (k:=.inr p) hd,⟨?_⟩⟩;cases J:bg U (.inr p) with
 | none=>exact eL (q H (by rw[J];exact hd) λp o e _=>e)
 | some v=>
  refine gm ⟨G,j.UD.cl,j.UD.nF,C3 _ _ _,.inl ⟨_,.inl hd⟩,U,.inr p,v,hd,rfl,J,?_⟩;exact q _ (by rw[J];exact aB) λp o e Y=>g9 e Y
inductive JF (C:Addr):Sp where
 | mk {H:Hp}{Q:VK}{E:XK}{x dx d b:Addr}{y z:Str}{j:Lv} (_:H x=some (.ins C dx (gL d b .non))) (_:H b=some (.lst j)) (_:j.length<=500) (_:∀t H',H' b=some (.lst (j++[.ref t]))->H' t=some (.tup [.str y,.str z])->(∀p o,H p=some o->p≠b->H' p=some o)->Q .non H'):JF C [.ref x,.str y,.str z] H Q E
theorem amA:aN [aya,ay0,ayq] [aya,ay0,ayq] (au wn):=aV
theorem JG(j:Pg K mg base Pt):aA P w K mg base aJ 2 j.DNt.f j.DNt.fd [aya,ay0,ayq] (JF j.D):=by
 refine j.DNt.u.okL amA ?_;intro ar A outer s H vs Q E hr h xX dX;obtain @⟨_,_,_,x,dx,d,b,y,z,ts,G,J,wW,q⟩:=h;refine⟨_,(ah (cp (iz (pv 0) j.UD.cl j.UD.mDTk (up (JD j)) hr j.DTk.b .nil dv))
  (al (cp (dH iT vn vo oU (bK (pv 0) rfl) (ao (eT (aL (pv 1) (pv 2)))))))),?_⟩
 refine⟨G,rfl,G,?_⟩;refine⟨G,j.UD.cl,j.UD.nB,SQ _ _ _,.inl ⟨rfl,_,ac.of J⟩,An,λt H2 n2 U e2=>?_⟩;have O:=U _ _ J;refine⟨O,bY (by omega),?_⟩;exact q t _ aB (g9 e2 (be e2 O (by intro z;cases z))) λp o e Y=>g9 (U _ _ e) Y
def eB(fs:List (Str×β))(p:Str):List (Str×β):=fs.filter λf=>decide (f.1≠p)
theorem zL{G:ak×V->Str×β->Prop}(J:∀kv f,G kv f->kv.1=Sum.inr f.1){p:Str}{fs:List (Str×β)}(h:Paired G kvs fs):Paired G (ny kvs (.inr p)) (eB fs p):=by
 unfold ny eB
 induction h with
 | nil=>exact .nil
 | @cons kv f kvs fs r t j=>
  have e:=J _ _ r;rw[oE,oE]
  by_cases h:f.1=p
  . have h2:kv.1=Sum.inr p:=by rw[e,h]
    simp only[h,h2,ne_eq,not_true_eq_false,decide_false,qp,mT];exact j
  have h2:¬kv.1=Sum.inr p:=by rw[e];exact λz=>h (md z)
  simp only[h,h2,ne_eq,not_false_eq_true,decide_true,vc];exact .cons r j
theorem zM{fs:List (Str×β)}{p:Str}(h:p∉fs.map (·.1)):eB fs p=fs:=by
 unfold eB;rw[List.filter_eq_self];intro f j;exact bN λe=>h (by rw[<-e];exact ge (f:=(·.1)) j)
theorem amB{fs:List (Str×β)}{p:Str}(h:(fs.map (·.1)).Nodup):((eB fs p).map (·.1)).Nodup:=h.sublist ((EA (l:=fs)).map _)
theorem amC(fs:List (Str×β))(p:Str):(eB fs p).length<=fs.length:=xI _ _
theorem C4{G:ak×V->Str×β->Prop}(J:∀kv f,G kv f->kv.1=Sum.inr f.1){fs:List (Str×β)}(h:Paired G kvs fs)(p:Str):(p∈fs.map (·.1)/\(bg kvs (.inr p)).isSome=true)\/(p∉fs.map (·.1)/\bg kvs (.inr p)=none):=by
 by_cases j:p∈fs.map (·.1)
 . obtain⟨v,ls,e,_⟩:=mK J h j;exact .inl ⟨j,by rw[e];rfl⟩
 exact .inr ⟨j,rA J h j⟩
theorem SW(h:∀y∈f.2,Ln y):W.kqdOk 9 (dS f.2)=true:=by
 simp only[dS,W.kqdOk,iQ,cC];rintro d ⟨y,j,rfl⟩;exact(h y j).ok
theorem amD{fs:Tr}(h:Paired (bB H) kvs fs)(nd:(fs.map (·.1)).Nodup):(kvs.map (·.1)).Nodup:=by
 have e:kvs.map (·.1)=(fs.map (·.1)).map Sum.inr:=pE (λkv f (z:bB H kv f)=>z.1) h;rw[e];exact List.Pairwise.map Sum.inr (λa b h e=>h (md e)) nd
inductive SX (C:Addr):Sp where
 | mk {H:Hp}{Q:VK}{E:XK}{x dx d b:Addr}{v:V}{j:List (ak×V)}{fs:Tr} (_:H x=some (.ins C dx (gL d b v))) (_:H d=some (.dK j)) (_:Paired (bB H) j fs) (_:(fs.map (·.1)).Nodup) (_:fs.length<=500) (_:∀r H' G,H r=none->aa H H'->H' r=some (.dK G)->Paired (dn H H') G fs->Q (.ref r) H'):SX C [.ref x] H Q E
theorem C5:aN [aya,ayo,aye,ayu] [aya] (au wg):=aV
theorem C6(O:Pg K mg base Pt):aA P w K mg base aJ 1 O.FNo.f O.FNo.fd [aya] (SX O.D):=by
 refine O.FNo.u.okL C5 ?_;intro ar A outer s H vs Q E hr h xX dX;obtain @⟨_,_,_,x,dx,o,b,v,kvs,ow,hx,ho,pr,nd,wW,q⟩:=h;have hu:=hr.units;refine⟨_,(ah (aI (i:=1) C5.nd rfl (Or.inl rfl) kC)
  (ah (F4 dZ rfl (bK (pv 0) rfl) (m9 rfl (fM (bf (i:=2) C5.nd rfl (Or.inl rfl)) (fM (bf (i:=3) C5.nd rfl (Or.inl rfl)) mv)))
  (al (iC hu (pv 1) (pv 2) (dR jG (by rfl) O.B.list iS (ao (pv 3))) rfl)))
  (al (aT (pv 1))))),?_⟩
 have hk:∀(H':Hp) kv f,dn H H' kv f->kv.1=Sum.inr f.1:=λ_ kv f z=>z.1;refine λd H1 n1 s1 e1=>?_;have od:d≠o:=(aH ho n1).symm;refine⟨s1 _ _ hx,O.UD.cl,O.UD.nF,C3 _ _ _,o,kvs,rfl,s1 _ _ ho,λob=>?_⟩;refine IF (λi Z G=>∃u v Y,Z=[some (.ref x),some (.ref d),u,v]/\(∀b z,H b=some z->b≠o->G b=some z)/\(∀b,G b=none->H b=none)/\G o=some (.frz ob (.dK kvs))/\G d=some (.dK Y)/\Paired (dn H G) Y (ow.take i))
  ⟨none,none,[],rfl,λb x e J=>g9 (s1 _ _ e) J,λb e=>s1.free (lC e).2,aB,g9 e1 od,.nil⟩ ?_ ?_ ?_
 . rintro i Z G ⟨u,v,Y,rfl,_,_,h,_⟩;exact h
 . rintro i k v p Z G hi ⟨u,v',Y,rfl,k5,f5,h5,gH,gt⟩ hp;obtain⟨⟨y,ls⟩,hf,a1,l,a2,a4⟩:=eN pr hi;have a1:k=.inr y:=a1;have a2:v=.ref l:=a2;have a4:H l=some (.lst (ls.map V.str)):=a4;subst a1 a2;have aO:=(dg.mp hf).1;have sp:aa G (upd G p (.tup [kV (.inr y),.ref l])):=fD hp;have L5:=sp _ _ (k5 _ _ a4 (be a4 ho (by intro z;cases z)));refine⟨aX.of aB,rfl,rfl,?_⟩;refine⟨l,_,rfl,.inl (ac.of L5),λq1 H6 n6 s6 e6=>?_⟩;have U:=sp.trans s6;have pl:=bA gt;rw[eR]at pl;refine⟨fB.k (k:=.inr y) (U _ _ gH) (bY (by omega)),?_⟩;have IG:y∉(ow.take i).map (·.1):=by
    rw[X2];intro hm;obtain⟨j,hj,ej⟩:=Mw.mp hm;rw[eR,aj]at hj;rw[List.getElem_take]at ej;have e1:(ow.map (·.1))[j]?=some y:=by rw[hX (by rw[aj];omega),ej]
    have e2:(ow.map (·.1))[i]?=some y:=by rw[dN,hf];rfl
    have:=(Yr (l:=ow.map (·.1)) (i:=j) (j:=i) (by rw[aj];omega) nd).mp (by rw[e1,e2]);omega
   refine⟨_,_,_,rfl,λb z e J=>?_,λb e=>f5 b (U.free (lC e).2),g9 (U _ _ h5) od.symm,aB,?_⟩
   . rw[aQ (λy=>by rw[y,n1]at e;cases e)];exact U _ _ (k5 _ _ e J)
   rw[hZ,hf];have:=je (F:=dn H H6) (hk H6) (x:=y) (ls:=ls) (v:=.ref q1) ⟨rfl,q1,rfl,f5 _ (sp.free n6),e6⟩ (av gt λ_ _=>dn.same U);rw[zc IG]at this;exact av this λ_ _=>dn.put (U _ _ gH)
 rintro Z G ⟨u,v,Y,rfl,k5,f5,h5,gH,gt⟩;rw[bA pr,ff]at gt;refine⟨q d _ Y n1 (λb z e=>?_) (g9 gH od) (av gt λkv f z=>?_)⟩
 . by_cases J:b=o
   . subst J;rw[ho]at e;cases e;exact aB
   exact g9 (k5 b z e J) J
 obtain⟨a,l,b,c,e⟩:=z;exact⟨a,l,b,c,g9 e (λy=>by rw[y,ho]at c;cases c)⟩
inductive SY (C:Addr):Sp where
 | mk {H:Hp}{Q:VK}{E:XK}{x dx d b:Addr}{v:V}{j:Lv} (_:H x=some (.ins C dx (gL d b v))) (_:H b=some (.lst j)) (_:d5 H (.lst j) Q):SY C [.ref x] H Q E
theorem amE:aN [aya] [aya] (au wj):=aV
theorem Ta(j:Pg K mg base Pt):aA P w K mg base aJ 1 j.BNo.f j.BNo.fd [aya] (SY j.D):=by
 refine j.BNo.u.okL amE ?_;intro O A outer s H vs Q E Y h xX U;obtain @⟨_,_,_,x,dx,d,b,v,ts,J,G,q⟩:=h;refine⟨_,(al (aT (dR jG (by rfl) j.B.list iS (ao (bK (pv 0) rfl))))),?_⟩;exact⟨J,j.UD.cl,j.UD.nB,SQ _ _ _,b,_,rfl,.inl (ac.of G),q⟩
def look(tr:List (Str×β))(k:Str):Option β:=(tr.find? λf=>decide (f.1=k)).map (·.2)
theorem iq(f:Str×β)(tr:List (Str×β))(k:Str):look (f::tr) k=if f.1=k then some f.2 else look tr k:=by
 unfold look;rw[sT]
 by_cases h:f.1=k
 . rw[ai h,bN h];rfl
 rw[ag h,cx h]
theorem gy{tr:List (Str×β)}{k:Str}:look tr k=none↔k∉tr.map (·.1):=by
 induction tr with
 | nil=>exact⟨(λ_ h=>nomatch h),λ_=>rfl⟩
 | cons f tr j=>
  rw[iq,bV,aZ,mh,<-j]
  by_cases h:f.1=k
  . rw[ai h];exact⟨(λz=>nomatch z),λz=>absurd h.symm z.1⟩
  rw[ag h];exact⟨λz=>⟨λe=>h e.symm,z⟩,λz=>z.2⟩
theorem jV{tr:List (Str×β)}{k:Str}{ls:β}(h:look tr k=some ls):(k,ls)∈tr:=by
 induction tr with
 | nil=>cases h
 | cons f tr j=>
  rw[iq]at h
  by_cases e:f.1=k
  . rw[ai e]at h;cases h;rw[<-e];exact bL
  rw[ag e]at h;exact bT _ (j h)
theorem lU{tr:List (Str×β)}{k:Str}{ls:β}(nd:(tr.map (·.1)).Nodup)(h:(k,ls)∈tr):look tr k=some ls:=by
 cases e:look tr k with
 | none=>exact absurd (ge (f:=(·.1)) h) (gy.mp e)
 | some j=>rw[kG nd (jV e) h]
theorem amF(tr:List (Str×β))(g:Str×β)(k:Str):look (tr++[g]) k=(look tr k).or (if g.1=k then some g.2 else none):=by
 induction tr with
 | nil=>rw[ML,iq];rfl
 | cons f tr j=>
  rw[AM,iq,iq,j];split<;>rfl
theorem uL(tr:List (Str×β))(p:Str)(ls:β)(k:Str):look (bw tr p ls) k=if p=k then some ls else look tr k:=by
 unfold bw;split
 . rename_i h;have hp:=rq.mp h;clear h
   induction tr with
   | nil=>cases hp
   | cons f tr J=>
    rw[bV,iq,iq]
    by_cases G:f.1=p
    . rw[ai G,G]
      by_cases j:p=k
      . rw[ai j,ai j]
      rw[ag j,ag j,ag j];clear J hp G
      induction tr with
      | nil=>rfl
      | cons g tr J=>
       rw[bV,iq,iq,J]
       by_cases O:g.1=p
       . rw[ai O,O,ag j,ag j]
       rw[ag O]
    rw[ag G];rw[bV,aZ]at hp
    rcases hp with hp | hp
    . exact absurd hp.symm G
    rw[J hp]
    by_cases j:f.1=k
    . rw[ai j,ai j,ag (λe=>G (j.trans e.symm))]
    rw[ag j,ag j]
 rename_i h;have hp:p∉tr.map (·.1):=λz=>h (rq.mpr z);rw[amF];show(look tr k).or (if p=k then some ls else none)=_
 by_cases j:p=k
 . rw[ai j,ai j,<-j,gy.mpr hp];rfl
 rw[ag j,ag j];cases look tr k<;>rfl
theorem amG(tr:List (Str×β))(p k:Str):look (eB tr p) k=if p=k then none else look tr k:=by
 unfold eB
 induction tr with
 | nil=>
  show none=_;split<;>rfl
 | cons f tr G=>
  rw[oE]
  by_cases h:f.1=p
  . rw[ag (by simp[h]),G,iq]
    by_cases j:p=k
    . rw[ai j,ai j]
    rw[ag j,ag j,ag (λe=>j (h.symm.trans e))]
  rw[ai (by simp[h]),iq,iq,G]
  by_cases j:p=k
  . rw[ai j,ai j,ag (λe=>h (e.trans j.symm))]
  rw[ag j,ag j]
def bQ(tr:List (Str×β))(fs:List (Str×β))(p:Str):List (Str×β):=match look tr p with
 | some ls=>bw fs p ls
 | none=>eB fs p
theorem amH(tr fs:List (Str×β))(p k:Str):look (bQ tr fs p) k=if p=k then look tr k else look fs k:=by
 unfold bQ;split
 . rename_i ls e;rw[uL]
   by_cases h:p=k
   . rw[ai h,ai h,<-h,e]
   rw[ag h,ag h]
 rename_i e;rw[amG]
 by_cases h:p=k
 . rw[ai h,ai h,<-h,e]
 rw[ag h,ag h]
theorem JH(tr:List (Str×β)):∀(ps:Ls) (fs:List (Str×β)) (k:Str),look (ps.foldl (bQ tr) fs) k=if k∈ps then look tr k else look fs k
 | [],fs,k=>by rw[ag (by simp)];rfl
 | p::ps,fs,k=>by
  rw[j6,JH tr ps,amH]
  by_cases h:k∈ps
  . rw[ai h,ai (bT _ h)]
  rw[ag h]
  by_cases e:p=k
  . rw[ai e,ai (by rw[e];exact bL)]
  rw[ag e,ag (by rw[aZ,mh];exact⟨λz=>e z.symm,h⟩)]
theorem Tb{tr fs:List (Str×β)}{p:Str}(h:(fs.map (·.1)).Nodup):((bQ tr fs p).map (·.1)).Nodup:=by
 unfold bQ;split
 . exact jL h
 exact amB h
theorem amI(tr fs:List (Str×β))(p:Str):(bQ tr fs p).length<=fs.length+1:=by
 unfold bQ;split
 . exact jM _ _ _
 have:=amC fs p;omega
theorem Tc{tr:List (Str×β)}:∀{ps:Ls}{fs:List (Str×β)},(fs.map (·.1)).Nodup->((ps.foldl (bQ tr) fs).map (·.1)).Nodup
 | [],_,h=>h
 | _::ps,_,h=>Tc (ps:=ps) (Tb h)
theorem Td{tr:List (Str×β)}:∀(ps:Ls) (fs:List (Str×β)),(ps.foldl (bQ tr) fs).length<=fs.length+ps.length
 | [],_=>aG _
 | p::ps,fs=>by
  have:=Td (tr:=tr) ps (bQ tr fs p);have:=amI tr fs p;rw[j6,cT];omega
def eI(fs:Tr):Prop:=∀f∈fs,∀y∈f.2,Ln y
theorem amJ{tr fs:Tr}{p:Str}(G:eI tr)(h:eI fs):eI (bQ tr fs p):=by
 unfold bQ;split
 . rename_i ls e;intro f j
   rcases mJ j with z | z
   . rw[z];exact G _ (jV e)
   exact h f z
 exact λf j=>h f (jk.mp j).1
theorem Te{tr:Tr}(j:eI tr):∀{ps:Ls}{fs:Tr},eI fs->eI (ps.foldl (bQ tr) fs)
 | [],_,h=>h
 | _::ps,_,h=>Te j (ps:=ps) (amJ j h)
abbrev JI (l:Ls):Prop:=l.Pairwise (λa b=>a.cps.toList<=b.cps.toList)
theorem amK{a b:Ls}(p:a.Perm b)(h1:JI a)(h2:JI b):a=b:=by
 refine awE (λx y _ _ h h'=>?_) h1 h2 p;have e:=Yq h h';obtain⟨⟨x⟩⟩:=x;obtain⟨⟨y⟩⟩:=y;have e:x=y:=e;rw[e]
structure kO(fs tr:List (Str×β))(ps:Ls):Prop where
 srt:JI ps
 nd:ps.Nodup
 mem:∀k,k∈ps↔look fs k≠look tr k
theorem amL{α:Type}[DecidableEq α]{a b:List α}(j:a.Nodup)(G:b.Nodup)(h:∀z,z∈a↔z∈b):a.Perm b:=(awK j G).mpr h
theorem kO.eq{fs tr:List (Str×β)}{j:Ls}(x:kO fs tr ps)(y:kO fs tr j):ps=j:=amK (amL x.nd y.nd λz=>by rw[x.mem,y.mem]) x.srt y.srt
theorem kO.drop{fs tr:List (Str×β)}(x:kO fs tr ps)(m:Nat):kO ((ps.take m).foldl (bQ tr) fs) tr (ps.drop m) where
 srt:=x.srt.sublist (List.drop_sublist m ps)
 nd:=x.nd.sublist (List.drop_sublist m ps)
 mem:=λk=>by
  rw[JH];have hd:ps=ps.take m++ps.drop m:=(awJ m ps).symm;have nd:=x.nd;rw[hd,qz]at nd
  by_cases h:k∈ps.take m
  . rw[ai h];exact⟨λz=>absurd rfl (nd.2.2 k h k z),λz=>absurd rfl z⟩
  rw[ag h,<-x.mem k];exact⟨λz=>AS z,λz=>by
   rw[hd]at z
   rcases bR.mp z with z | z
   . exact absurd z h
   exact z⟩
theorem kO.len{fs tr:List (Str×β)}(x:kO fs tr ps):ps.length<=fs.length+tr.length:=by
 have:=kE (ys:=fs.map (·.1)++tr.map (·.1)) x.nd λz hz=>by
  refine bR.mpr ?_
  by_cases h1:z∈fs.map (·.1)
  . exact .inl h1
  by_cases h2:z∈tr.map (·.1)
  . exact .inr h2
  exact absurd ((gy.mpr h1).trans (gy.mpr h2).symm) ((x.mem z).mp hz)
 rw[bI,aj,aj]at this;exact this
theorem kO.all{fs tr:List (Str×β)}(x:kO fs tr ps)(k:Str):look (ps.foldl (bQ tr) fs) k=look tr k:=by
 rw[JH]
 by_cases h:k∈ps
 . rw[ai h]
 rw[ag h]
 by_cases e:look fs k=look tr k
 . exact e
 exact absurd ((x.mem k).mpr e) h
theorem Tf{fs tr:List (Str×β)}(nd:(fs.map (·.1)).Nodup)(h:∀k,look fs k=look tr k):∀f∈fs,f∈tr:=λf j=>by
 obtain⟨k,ls⟩:=f;exact jV ((h k).symm.trans (lU nd j))
theorem Tg{fs tr:List (Str×β)}(nd:(fs.map (·.1)).Nodup)(G:(tr.map (·.1)).Nodup)(h:∀k,look fs k=look tr k):fs.length=tr.length:=by
 have a:=kE (xs:=fs.map (·.1)) (ys:=tr.map (·.1)) nd λz hz=>by
  obtain⟨f,j,rfl⟩:=cC.mp hz;exact ge (f:=(·.1)) (Tf nd h f j)
 have b:=kE (xs:=tr.map (·.1)) (ys:=fs.map (·.1)) G λz hz=>by
  obtain⟨f,j,rfl⟩:=cC.mp hz;exact ge (f:=(·.1)) (Tf G (λk=>(h k).symm) f j)
 rw[aj,aj]at a b;omega
theorem Th{fs:Tr}(h:Paired (bB H) kvs fs)(nd:(fs.map (·.1)).Nodup)(p:Str):(look fs p=none/\bg kvs (.inr p)=none)\/(∃ls l,look fs p=some ls/\bg kvs (.inr p)=some (.ref l)/\H l=some (.lst (ls.map V.str))/\(p,ls)∈fs):=by
 have G:∀kv f,bB H kv f->kv.1=Sum.inr f.1:=λkv f z=>z.1
 by_cases j:p∈fs.map (·.1)
 . obtain⟨v,ls,e,J,r⟩:=mK G h j;obtain⟨_,l,e2,e3⟩:=r;have e2:v=.ref l:=e2;exact .inr ⟨ls,l,lU nd J,by rw[e,e2],e3,J⟩
 exact .inl ⟨gy.mpr j,rA G h j⟩
def C8:Option (Ls)->W.Dat
 | none=>.none
 | some ls=>dS ls
theorem Ti:∀{a b:Ls},a.map W.Dat.str=b.map W.Dat.str->a=b
 | [],[],_=>rfl
 | [],_::_,h=>nomatch h
 | _::_,[],h=>nomatch h
 | x::a,y::b,h=>by
  rw[bV,bV]at h;injection h with h1 h2
  injection h1 with h1
  rw[h1,Ti h2]
theorem amM{a b:Option (Ls)}(h:C8 a=C8 b):a=b:=by
 cases a with
 | none=>
  cases b with
  | none=>rfl
  | some y=>cases h
 | some x=>
  cases b with
  | none=>cases h
  | some y=>
   have h:W.Dat.list (x.map W.Dat.str)=W.Dat.list (y.map W.Dat.str):=h;injection h with h
   rw[Ti h]
theorem amN{K:Fg}{fs:Tr}(h:Paired (bB H) kvs fs)(nd:(fs.map (·.1)).Nodup)(ok:eI fs)(p:Str):DV K H ((bg kvs (.inr p)).getD .non) (C8 (look fs p))/\W.kqdOk 9 (C8 (look fs p))=true:=by
 rcases Th h nd p with⟨e1,e2⟩ | ⟨ls,l,e1,e2,e3,j⟩
 . rw[e1,e2];exact⟨.non,rfl⟩
 rw[e1,e2];exact⟨jH (ac.of e3),SW (ok _ j)⟩
def pQ(fs tr:List (Str×β)):Prop:=∃U:Ls,U.length<=63/\∀k,(k∈fs.map (·.1)\/k∈tr.map (·.1))->k∈U
theorem C9{fs tr:List (Str×β)}(h:fs.length+tr.length<=63):pQ fs tr:=⟨fs.map (·.1)++tr.map (·.1),by rw[bI,aj,aj];exact h,λk z=>bR.mpr z⟩
theorem pQ.fst{fs tr:List (Str×β)}(h:pQ fs tr)(nd:(fs.map (·.1)).Nodup):fs.length<=63:=by
 obtain⟨U,j,m⟩:=h;have:=kE nd λz hz=>m z (.inl hz);rw[aj]at this;omega
theorem pQ.snd{fs tr:List (Str×β)}(h:pQ fs tr)(nd:(tr.map (·.1)).Nodup):tr.length<=63:=by
 obtain⟨U,j,m⟩:=h;have:=kE nd λz hz=>m z (.inr hz);rw[aj]at this;omega
inductive Db (Fv:Hp->ak×V->Str×β->Prop) (OK:List (Str×β)->Prop):Sp where
 | mk {H:Hp}{Q:VK}{E:XK}{a b:Addr}{j G:List (ak×V)}{fs tr:List (Str×β)} (_:H a=some (.dK j)) (_:H b=some (.dK G)) (_:Paired (Fv H) j fs) (_:Paired (Fv H) G tr) (_:(fs.map (·.1)).Nodup) (_:(tr.map (·.1)).Nodup) (_:OK fs) (_:OK tr) (_:pQ fs tr) (_:∀l H' ps,H l=none->aa H H'->H' l=some (.lst (ps.map V.str))->kO fs tr ps->Q (.ref l) H'):Db Fv OK [.ref a,.ref b] H Q E
theorem amO:aN [ayI,ayH] [ayI,ayH] (au Hy):=aV
theorem Tj[DecidableEq β]{Fv:Hp->ak×V->Str×β->Prop}{OK:List (Str×β)->Prop}{dat:Option β->W.Dat}(Y:∀H kv f,Fv H kv f->kv.1=Sum.inr f.1)(hs:∀{H G:Hp}{kv:ak×V}{f:Str×β},aa H G->Fv H kv f->Fv G kv f)(hi:∀{a b:Option β},dat a=dat b->a=b)(hd:∀{H:Hp}{kvs:List (ak×V)}{fs:List (Str×β)},Paired (Fv H) kvs fs->(fs.map (·.1)).Nodup->OK fs->∀p,DV K H ((bg kvs (.inr p)).getD .non) (dat (look fs p))/\W.kqdOk 9 (dat (look fs p))=true)(J:Pg K mg base Pt):aA P w K mg base aJ 1 J.KUn.f J.KUn.fd [ayI,ayH] (Db Fv OK):=by
 refine J.KUn.u.okL amO ?_;intro ar A outer s H vs Q E hr h xX dX;obtain @⟨_,_,_,a,b,ka,kb,fs,tr,ha,hb,pa,pb,wX,rE,JJ,JK,mQ,q⟩:=h;have a2:=mQ.fst wX;have a4:=mQ.snd rE;have hu:=hr.units;refine⟨_,(al (aT (gE ["key"] [ayI,ayH] [0,1] eF rfl (cU (c8 (Qh rfl) (by rfl) J.B.sorted vm (ao (aE ahM (dR Qv (by rfl) J.B.set Yv (ao (pv 0))) (dR Qv (by rfl) J.B.set Yv (ao (pv 1)))))))
  (λ_ _ _ _=>(bf (i:=0) (show List.Nodup (["key",ayI,ayH]:Ls) by decide +kernel) rfl (Or.inl rfl))) (λ_ _ _ _=>o9 (bS (agB K hu) (Fx hu (pv 1) (pv 0) ⟨rfl,rfl,rfl,rfl⟩) (Fx hu (pv 2) (pv 0) ⟨rfl,rfl,rfl,rfl⟩) (bJ _))) (λ_ _ _ _=>(pv 0))))),?_⟩
 refine⟨a,ka,fs.map (·.1),rfl,ha,pE (Y H) pa,by rw[aj];omega,λr1 Tk H1 n1 s1 e1 JL m1=>?_⟩;refine⟨b,kb,tr.map (·.1),rfl,s1 _ _ hb,pE (Y H) pb,by rw[aj];omega,λr2 Tl H2 n2 s2 e2 JM m2=>?_⟩;have l1:Tk.length<=fs.length:=by have:=kE JL λz hz=>(m1 z).mp hz;rwa [aj]at this
 have l2:Tl.length<=tr.length:=by have:=kE JM λz hz=>(m2 z).mp hz;rwa [aj]at this
 refine⟨r1,r2,Tk,Tl,rfl,rfl,aH e1 n2,s2 _ _ e1,e2,by omega,λr3 zs H3 n3 s3 e3 To m3=>?_⟩;have l3:zs.length<=63:=by
  obtain⟨U,hU,mU⟩:=mQ;have:=kE To λz hz=>mU z ((bR.mp ((m3 z).mp hz)).imp (m1 z).mp (m2 z).mp);omega
 refine⟨r3,zs,rfl,e3,by omega,λys pm srt p H4 n4 s4 e4=>?_⟩;have rJ:aa H H4:=(s1.trans s2).trans (s3.trans s4);have a3:ys.length<=63:=by rw[pm.length_eq];exact l3
 refine⟨⟨_,ac.of e4⟩,?_⟩;refine FI (K:=K) (xs:=ys.map V.str) (σ0:=[none,some (.ref a),some (.ref b)]) (ac.of e4) (λZ=>∃v,Z=[v,some (.ref a),some (.ref b)]) (λi ws _=>ws=((ys.take i).filter λk=>decide (look fs k≠look tr k)).map V.str) ⟨_,rfl⟩ (λ_ _=>rfl) ?_ ?_
 . rintro D i x ws Z H5 k k' hD O ⟨v,rfl⟩ gH s5 rfl Y eE;rw[dN]at O;cases hy:ys[i]? with
   | none=>rw[hy]at O;cases O
   | some y=>
    rw[hy]at O;cases O;have j:=rJ.trans s5;obtain⟨d1,o1⟩:=hd (av pa λ_ _=>hs j) wX JJ y;obtain⟨d2,o2⟩:=hd (av pb λ_ _=>hs j) rE JK y;refine⟨.inl ⟨_,.inl (j _ _ ha)⟩,_,cn.k (k:=.inr y) (j _ _ ha),?_⟩;refine⟨.inl ⟨_,.inl (j _ _ hb)⟩,_,cn.k (k:=.inr y) (j _ _ hb),?_⟩;refine⟨_,_,d1,d2,o1,o2,λbb iZ=>⟨?_⟩⟩;have e0:(ys.take (i+1)).filter (λk=>decide (look fs k≠look tr k))=(ys.take i).filter (λk=>decide (look fs k≠look tr k))++[y].filter (λk=>decide (look fs k≠look tr k)):=by
     rw[hZ,hy,MK];rfl
    refine bu (λh=>?_) (λh=>?_)
    . have cY:look fs y≠look tr y:=λe=>by
       have:bb=true:=iZ.mpr (by rw[e]);rw[this]at h;cases h
      refine⟨Y _ _ _ ⟨_,rfl⟩ (aa.refl _) (bY ?_) ?_⟩
      . rw[aj];have:=xI (λk=>decide (look fs k≠look tr k)) (ys.take i);rw[eR]at this;omega
      rw[e0,oE,ai (bN cY),dP];rfl
    have a0:look fs y=look tr y:=by
     cases bb with
     | true=>exact hi (iZ.mp rfl)
     | false=>exact absurd rfl h
    refine eE _ _ ⟨_,rfl⟩ (aa.refl _) ?_;rw[e0,oE,ag (by rw[cx (λz=>z a0)];exact cW),List.filter_nil,jX]
 rintro D ws H5 hD gH s5 rfl;rw[aj,ff]at gH;have sr:=GV srt;have a1:ys.Nodup:=pm.nodup_iff.mpr To;refine q D H5 _ (rJ.free hD) (rJ.trans s5) gH ⟨sr.sublist EA,a1.sublist EA,λz=>?_⟩;rw[jk,xS];refine⟨λh=>h.2,λh=>⟨?_,h⟩⟩;rw[pm.mem_iff,m3,bR,m1,m2]
 by_cases z1:z∈fs.map (·.1)
 . exact .inl z1
 by_cases z2:z∈tr.map (·.1)
 . exact .inr z2
 exact absurd ((gy.mpr z1).trans (gy.mpr z2).symm) h
abbrev amS:Sp:=Db bB eI
theorem amT(j:Pg K mg base Pt):aA P w K mg base aJ 1 j.KUn.f j.KUn.fd [ayI,ayH] amS:=Tj (Fv:=bB) (OK:=eI) (λ_ _ _ z=>z.1) (λs z=>bB.same s z) amM (λh nd ok p=>amN h nd ok p) j
def Lu(g:Addr)(H:Hp)(kv:ak×V)(f:Str×Ls):Prop:=kv.1=.inr f.1/\∃l,kv.2=.ref l/\l≠g/\H l=some (.lst (f.2.map V.str))
theorem Lu.du{kv:ak×V}(h:Lu g H kv f):bB H kv f:=h.elim λa j=>j.elim λl G=>G.elim λb J=>J.elim λ_ c=>⟨a,l,b,c⟩
theorem Lu.kp{H':Hp}{O:List (ak×V)}(hd:H d=some (.dK O))(k:∀p o,H p=some o->p≠d->H' p=some o){kv:ak×V}(h:Lu g H kv f):Lu g H' kv f:=h.elim λa j=>j.elim λl G=>G.elim λb J=>J.elim λn c=>⟨a,l,b,n,k _ _ c (be c hd (by intro z;cases z))⟩
structure Tn(g d:Addr)(fs:Tr)(H H':Hp):Prop where
 hd:∃kd,H' d=some (.dK kd)/\Paired (Lu g H') kd fs
 kp:∀p o,H p=some o->p≠d->H' p=some o
inductive JN (C:Addr):Sp where
 | mk {H:Hp}{Q:VK}{E:XK}{x dx d b t g:Addr}{j G:List (ak×V)}{fs tr:Tr} (_:H x=some (.ins C dx (gL d b .non))) (_:H d=some (.dK j)) (_:H t=some (.dK G)) (_:d≠t) (_:Paired (Lu g H) j fs) (_:Paired (bB H) G tr) (_:(fs.map (·.1)).Nodup) (_:(tr.map (·.1)).Nodup) (_:eI fs) (_:eI tr) (_:pQ fs tr) (_:(∃o,H g=some o)) (_:∀ps H',kO fs tr ps->Tn g d (ps.foldl (bQ tr) fs) H H'->Q .non H'):JN C [.ref x,.ref t] H Q E
theorem Tp:aN [ayl,ayO,aye] [ayl,ayO] (au Cn):=aV
theorem Tq(j:Pg K mg base Pt):aA P w K mg base aJ 3 j.Tur.f j.Tur.fd [ayl,ayO] (JN j.D):=by
 refine j.Tur.u.okL Tp ?_;intro ar A outer s H vs Q E hr h xX dX;obtain @⟨_,_,_,x,dx,d,b,t,g,kd,kt,fs,tr,hx,hd,ht,a7,pd,pt,wX,rE,JJ,JK,mQ,⟨og,hg⟩,q⟩:=h;have an:=mQ.fst wX;have ax:=mQ.snd rE;have hu:=hr.units;have eA:ci 1 (A.deeper (PyProof.Rows.envOfC "turn_to" (au Cn) s.heap.objs.size j.Tur.f ar)):=hr.mono (by decide);refine⟨_,(al (eK dZ rfl (cU (aF (amT j) eA rfl (aL (iz (pv 0) j.UD.cl j.UD.mFNo (up (C6 j)) eA j.FNo.b .nil dv) (pv 1)))) (bf (i:=2) Tp.nd rfl (Or.inl rfl))
  (al (cg (oH (tN hu (pv 2) (pv 1)) (by rfl))
   (al (cp (nj (pv 0) j.UD.cl j.UD.mDPt (up (amx j)) hr j.DPt.b .nil dv (aL (pv 2) (oV hu (pv 1) (pv 2) (λ_ _=>rfl)))))) (al (cp (nj (pv 0) j.UD.cl j.UD.mDEr (up (amz j)) hr j.DEr.b .nil dv (ao (pv 2))))))))),?_⟩
 have xd:x≠d:=be hx hd (by intro z;cases z);refine⟨hx,rfl,hx,hd,av pd λ_ _=>Lu.du,wX,by omega,λr H1 kr n1 s1 e1 pr=>?_⟩;refine⟨e1,s1 _ _ ht,av pr λ_ _ a0=>a0.elim λz1 a1=>a1.elim λl a2=>a2.elim λz2 a3=>a3.elim λ_ z3=>⟨z1,l,z2,z3⟩,av pt λ_ _=>bB.same s1,wX,rE,JJ,JK,mQ,λl H2 ps n2 s2 e2 U=>?_⟩;have bM:=s1.trans s2;have ld:l≠d:=(aH hd (s1.free n2)).symm;have Jn:=U.len;refine⟨⟨_,ac.of e2⟩,?_⟩;refine ib (xs:=ps.map V.str) (λi Z G=>∃v,Z=[some (.ref x),some (.ref t),v]/\G l=some (.lst (ps.map V.str))/\Tn g d ((ps.take i).foldl (bQ tr) fs) H G)
  ⟨none,rfl,e2,⟨kd,bM _ _ hd,av pd λ_ _=>Lu.kp hd λp o e _=>bM _ _ e⟩,λp o e _=>bM _ _ e⟩ ?_ ?_ ?_
 . rintro i Z G hi ⟨v,rfl,Y,_⟩;exact ac.of Y
 . intro i v0 Z G hv hQ;refine bq ?_;intro tT;obtain⟨v,rfl,Y,W⟩:=hQ;rw[dN]at hv;cases hy:ps[i]? with
   | none=>rw[hy]at hv;cases hv
   | some p=>
    rw[hy]at hv;cases hv;obtain⟨ap,J,zN⟩:=W.hd;have a9:=(dg.mp hy).1;have pR:=W.kp _ _ ht (fw a7);have Dc:=W.kp _ _ hx xd;have a8:Paired (bB G) kt tr:=av pt λ_ _ a4=>a4.elim λz1 a5=>a5.elim λl' a6=>a6.elim λz2 z3=>⟨z1,l',z2,W.kp _ _ z3 (be z3 hd (by intro z;cases z))⟩;have gR:(ps.take (i+1)).foldl (bQ tr) fs=bQ tr ((ps.take i).foldl (bQ tr) fs) p:=by
     rw[hZ,hy,qE];rfl
    have ab:=Td (tr:=tr) (ps.take i) fs;have af:(ps.take i).length<=ps.length:=by rw[eR];omega
    have So:=bA zN;have Ts:∀kv f,Lu g G kv f->kv.1=Sum.inr f.1:=λkv f z=>z.1;refine⟨_,cn.k (k:=.inr p) pR,⟨?_⟩⟩
    rcases Th a8 rE p with⟨g1,g2⟩ | ⟨ls,l',g1,g2,g3,_⟩
    . rw[g2];refine eL ?_;refine⟨Dc,rfl,Dc,J,λH6 h2 O=>?_⟩;refine⟨_,rfl,O _ _ Y ld,⟨_,h2,?_⟩,λq o z hq=>O _ _ (W.kp _ _ z hq) hq⟩;have gi:bQ tr ((ps.take i).foldl (bQ tr) fs) p=eB ((ps.take i).foldl (bQ tr) fs) p:=by unfold bQ;rw[g1]
      rw[gR,gi]
      rcases C4 Ts zN p with⟨hp,hs⟩ | ⟨hp,hs⟩
      . rw[ai hs];exact av (zL Ts zN) λ_ _=>Lu.kp J O
      rw[hs,zM hp];exact av zN λ_ _=>Lu.kp J O
    rw[g2];refine gm ?_;refine⟨Dc,rfl,(by rw[<-g2];exact cn.k (k:=.inr p) pR),?_⟩;refine⟨Dc,J,g3,by omega,λqn H6 nq h2 O h4=>?_⟩;refine⟨_,rfl,h4 _ _ Y ld,⟨_,h2,?_⟩,λq o z hq=>h4 _ _ (W.kp _ _ z hq) hq⟩;have gi:bQ tr ((ps.take i).foldl (bQ tr) fs) p=bw ((ps.take i).foldl (bQ tr) fs) p ls:=by unfold bQ;rw[g1]
    rw[gR,gi];have qg:qn≠g:=λz=>by
     by_cases e:g=d
     . rw[z,e,J]at nq;cases nq
     rw[z,W.kp _ _ hg e]at nq;cases nq
    exact je (F:=Lu g H6) (λkv f z=>z.1) ⟨rfl,qn,rfl,qg,O⟩ (av zN λ_ _=>Lu.kp J h4)
 rintro Z G ⟨v,rfl,Y,W⟩;rw[aj]at W;rw[ff]at W;exact q ps G U W
end
section
variable {l:Ls}{n:Nat}{β:Type}
open Lcp
inductive Tt (K:Fg):Sp where
 | mk {H:Hp}{Q:VK}{E:XK}{a b:Addr}{xs ys:Ls} (_:ac K H a (xs.map V.str)) (_:ac K H b (ys.map V.str)) (_:Q (.int (eU xs ys)) H):Tt K [.ref a,.ref b] H Q E
theorem JO:aN [ayu,ay4,"many"] [ayu,ay4] (au Ho):=aV
theorem Tu(j:Pg K mg base Pt):aA P w K mg base aJ 1 j.Ali.f j.Ali.fd [ayu,ay4] (Tt K):=by
 refine j.Ali.u.okL JO ?_;intro ar A outer s H vs Q E hr h xX dX;obtain @⟨_,_,_,a,b,xs,ys,U,Y,q⟩:=h;refine⟨_,(ah (aI (i:=2) JO.nd rfl (Or.inl rfl) am)
  (ah (Nc dZ (PW.pt (oI (bS yg (pv 2) (c8 ig (by rfl) j.B.len gA (ao (pv 0))) (bJ _)) (oI (bS yg (pv 2) (c8 ig (by rfl) j.B.len gA (ao (pv 1))) (bJ _)) (tu (bS fO (bP fV (pv 0) (pv 2) (λ_ _=>rfl)) (bP fV (pv 1) (pv 2) (λ_ _=>rfl)) (bJ _)))))) (al (aI (i:=2) JO.nd rfl (Or.inl rfl) (aE gj (pv 2) am))))
  (al (aT (pv 2))))),?_⟩
 refine i9 ?_;intro dD sS gs eh;refine⟨λm Z H'=>∃i:Nat,m=xs.length - i/\i<=xs.length/\Z=[some (.ref a),some (.ref b),some (.int i)]/\H'=H/\eU xs ys=i+eU (xs.drop i) (ys.drop i),⟨_,0,rfl,dC _,rfl,rfl,(Et _).symm⟩,?_⟩;intro m Z H' fG;refine bq ?_;intro tT;obtain⟨i,rfl,hi,rfl,rfl,G⟩:=fG
 first | (refine ub (g:=ki _) ?_;intro eQ sQ) | (refine ub (g:=tw _ _ _) ?_;intro eQ sQ) | skip
 have J:eU (xs.drop i) (ys.drop i)=0->qM 2 [some (V.ref a),some (V.ref b),some (V.int i)] H' Q:=λz=>by
  rw[z,Ms]at G;rw[G]at q;exact⟨q⟩
 refine⟨a,_,rfl,.inl U,⟨⟨?_⟩⟩⟩;refine bu (λh=>?_) (λh=>?_)
 . have h1:=cH h;rw[aj]at h1;refine⟨b,_,rfl,.inl Y,⟨⟨?_⟩⟩⟩;refine bu (λh=>?_) (λh=>?_)
   . have h2:=cH h;rw[aj]at h2;obtain⟨x,hx,ex⟩:=tV (xs:=xs) (r:=(i:Int)) (by omega) h1;obtain⟨y,hy,O⟩:=tV (xs:=ys) (r:=(i:Int)) (by omega) h2;rw[me]at ex O;have es:=aep ex O;refine⟨U,hx,Y,hy,rfl,⟨?_⟩⟩;refine bu (λh=>?_) (λh=>?_)
     . have e:x=y:=by have:=cH h;injection this
       rw[ai e]at es;refine⟨λσ' H2=>σ'=[some (.ref a),some (.ref b),some (.int ((i:Int)+1))]/\H2=H',?_,?_⟩
       . rintro σ' H2 ⟨rfl,rfl⟩;exact⟨_,(show xs.length - (i+1)<xs.length - i by omega),i+1,rfl,by omega,by rw[Int.natCast_add];rfl,rfl,by rw[G,es];omega⟩
       exact⟨rfl,rfl⟩
     have e:x≠y:=λe=>h (by rw[e];exact bN rfl);rw[ag e]at es;exact J es
   have h2:=MM (qx.mpr h);rw[aj]at h2;exact J (OY (.inr (by omega)))
 have h1:=MM (qx.mpr h);rw[aj]at h1;exact J (OY (.inl (by omega)))
structure Dd(H:Hp)(t l:Addr)(xs ys:Ls):Prop where
 tup:H t=some (.tup [.int (Lcp.fst xs ys),.int (gR xs ys),.ref l])
 lst:H l=some (.lst ((tU xs ys).map V.str))
inductive Tv (K:Fg):Sp where
 | mk {H:Hp}{Q:VK}{E:XK}{a b:Addr}{xs ys:Ls} (_:ac K H a (xs.map V.str)) (_:ac K H b (ys.map V.str)) (_:∀t l H',H t=none->H l=none->aa H H'->Dd H' t l xs ys->Q (.ref t) H'):Tv K [.ref a,.ref b] H Q E
theorem JP:aN [ayP,ayx,"start",ayY] [ayP,ayx] (au Hn):=aV
theorem Tw(j:Pg K mg base Pt):aA P w K mg base aJ 2 j.Blk.f j.Blk.fd [ayP,ayx] (Tv K):=by
 refine j.Blk.u.okL JP ?_;intro ar A outer s H vs Q E U h xX dX;obtain @⟨_,_,_,a,b,xs,ys,O,J,q⟩:=h;refine⟨_,(ah (aI (i:=2) JP.nd rfl (Or.inl rfl) (aF (Tu j) U rfl (aL (pv 0) (pv 1))))
  (ah (aI (i:=3) JP.nd rfl (Or.inl rfl) (aF (Tu j) U rfl (aL (OX (nn vK (pv 0) (lw (pv 2)) qQ)) (OX (nn vK (pv 1) (lw (pv 2)) qQ)))))
  (al (aT (eT (d6 (pv 2) (aE EW (c8 ig (by rfl) j.B.len gA (ao (pv 0))) (pv 3)) (nn vK (pv 1) (lw (pv 2)) (lw (aE EW (c8 ig (by rfl) j.B.len gA (ao (pv 1))) (pv 3)))))))))),?_⟩
 refine i9 ?_;intro dD sS gs eh;obtain⟨l1,l2⟩:=FL xs ys;refine⟨O,J,?_⟩;refine⟨O,λp1 H1 n1 Y e1=>?_⟩;rw[vM,FO (by omega),me]at e1;refine⟨p1,_,rfl,ac.of e1,λp2 H2 n2 s2 e2=>?_⟩;rw[O1]at e2;refine⟨aa.seq (Y.trans s2) J,λp3 H3 n3 s3 e3=>?_⟩;rw[vM,FO (by omega),me]at e3;refine⟨p3,_,rfl,ac.of e3,λp4 H4 n4 s4 e4=>?_⟩;rw[O1]at e4;have G:=((Y.trans s2).trans s3).trans s4;refine⟨ac.of (s4 _ _ (s3 _ _ e2)),ac.of e4,?_⟩;refine⟨a,_,rfl,.inl (aa.seq G O),b,_,rfl,.inl (aa.seq G J),aa.seq G J,λp5 H5 n5 s5 e5=>?_⟩;refine⟨A7,λp6 H6 n6 s6 e6=>?_⟩;have sB:=G.trans s5;refine q p6 p5 H6 (sB.free n6) (G.free n5) (sB.trans s6) ⟨?_,?_⟩
 . rw[e6];have e:((xs.map V.str).length:Int) - (eU (xs.drop (eU xs ys)).reverse (ys.drop (eU xs ys)).reverse:Int)=(gR xs ys:Int):=by
    rw[aj];unfold gR;unfold iY Lcp.fst at *;omega
   try dsimp only
   rw[e];rfl
 rw[s6 _ _ e5];have e:((ys.map V.str).length:Int) - (eU (xs.drop (eU xs ys)).reverse (ys.drop (eU xs ys)).reverse:Int)=((ys.length - iY xs ys:Nat):Int):=by
  rw[aj];unfold iY Lcp.fst at *;omega
 rw[e,vM,O0 (by omega) (by omega),me,me];rfl
inductive Tx:Sp where
 | mk {H:Hp}{Q:VK}{E:XK}{t1 t2:Addr}{J G j O:Int}{U Y:V} (_:H t1=some (.tup [.int J,.int G,U])) (_:H t2=some (.tup [.int j,.int O,Y])) (_:Q (.bl (decide (G<=j))) H):Tx [.ref t1,.ref t2] H Q E
theorem am9:aN [ayJ,ayx] [ayJ,ayx] (au Hq):=aV
theorem JQ(j:Pg K mg base Pt):aA P w K mg base aJ 1 j.IsA.f j.IsA.fd [ayJ,ayx] Tx:=by
 refine j.IsA.u.okL am9 ?_;intro O A outer s H vs Q E hr h xX dX;obtain @⟨_,_,_,t1,t2,G,U,J,Y,v1,v2,h1,h2,q⟩:=h;refine⟨_,(al (aT (oN EY (bP fh (pv 0) am (λ_ _=>rfl)) (bP fh (pv 1) am (λ_ _=>rfl)) (bJ _)))),?_⟩;exact⟨aX.of h1,rfl,aX.of h2,rfl,⟨q⟩⟩
inductive Tz:Sp where
 | mk {H:Hp}{Q:VK}{E:XK}{t1:Addr}{j G:Int}{J:V} (_:H t1=some (.tup [.int j,.int G,J])) (_:Q (.bl (decide (j=G))) H):Tz [.ref t1] H Q E
theorem ana:aN [ayJ] [ayJ] (au Hr):=aV
theorem TB(j:Pg K mg base Pt):aA P w K mg base aJ 1 j.Tak.f j.Tak.fd [ayJ] Tz:=by
 refine j.Tak.u.okL ana ?_;intro O A outer s H vs Q E Y h xX U;obtain @⟨_,_,_,t1,G,J,v1,h1,q⟩:=h;refine⟨_,(al (aT (oN fO (bP fh (pv 0) am (λ_ _=>rfl)) (bP fh (pv 0) am (λ_ _=>rfl)) (bJ _)))),?_⟩;rw[<-show decide (V.int G=V.int J)=decide (G=J) from xR.mpr ⟨λh=>by injection h,λh=>by rw[h]⟩]at q;exact⟨aX.of h1,rfl,aX.of h1,rfl,rfl,q⟩
inductive TD:Sp where
 | mk {H:Hp}{Q:VK}{E:XK}{t1 t2:Addr}{j J G O:Int}{U Y:V} (_:H t1=some (.tup [.int j,.int J,U])) (_:H t2=some (.tup [.int G,.int O,Y])) (_:Q (.bl (BB j J G O)) H):TD [.ref t1,.ref t2] H Q E
theorem anb:aN [ayJ,ayx] [ayJ,ayx] (au Hs):=aV
theorem anc(j:Pg K mg base Pt):aA P w K mg base aJ 2 j.Apa.f j.Apa.fd [ayJ,ayx] TD:=by
 refine j.Apa.u.okL anb ?_;intro ar A outer s H vs Q E G h xX dX;obtain @⟨_,_,_,t1,t2,J,b1,O,b2,v1,v2,h1,h2,q⟩:=h;refine⟨_,(Bx (λZ H'=>Z=[some (.ref t1),some (.ref t2)]/\H'=H/\¬((J=b1/\O=b2)/\J=O)) (cg (PW.pt (oI (mr (aF (TB j) G rfl (ao (pv 0)))) (oI (mr (aF (TB j) G rfl (ao (pv 1)))) (tu (bS fO (bP fh (pv 0) am (λ_ _=>rfl)) (bP fh (pv 1) am (λ_ _=>rfl)) (bJ _))))))
  (al (aT x6)) cZ)
  (al (aT (EJ (aF (JQ j) G rfl (aL (pv 0) (pv 1))) (qN (aF (JQ j) G rfl (aL (pv 1) (pv 0)))))))),?_⟩
 refine⟨?_,?_⟩
 . refine⟨h1,?_⟩;refine⟨bu (λU=>?_) (λU=>?_)⟩
   . refine⟨h2,?_⟩;refine⟨bu (λY=>?_) (λY=>?_)⟩
     . refine⟨aX.of h1,rfl,aX.of h2,rfl,rfl,⟨?_⟩⟩;refine bu (λz3=>?_) (λz3=>?_)
       . have e3:J=O:=by have:=cH z3;injection this
         unfold BB at q;rw[ai ⟨⟨cH U,cH Y⟩,e3⟩]at q;exact q
       exact⟨rfl,rfl,λe=>z3 (bN (eZ V.int e.2))⟩
     exact eL ⟨rfl,rfl,λe=>Y (bN e.1.2)⟩
   exact eL ⟨rfl,rfl,λe=>U (bN e.1.1)⟩
 rintro σ' H' ⟨rfl,rfl,hn⟩;unfold BB at q;rw[ag hn]at q;refine⟨h1,h2,?_⟩;refine⟨bu (λz=>?_) (λz=>?_)⟩
 . rw[z,XU]at q;exact q
 rw[qx.mpr z,Bool.false_or]at q;exact⟨h2,h1,q⟩
inductive TF:Sp where
 | mk {H:Hp}{Q:VK}{E:XK}{a t1 j t2 G:Addr}{b x y:Ls} (_:H a=some (.lst (b.map V.str))) (_:Dd H t1 j b x) (_:Dd H t2 G b y) (_:b.length<=20) (_:x.length<=20) (_:y.length<=20) (_:d5 H (.lst ((kz b x y).map V.str)) Q):TF [.ref a,.ref t1,.ref t2] H Q E
theorem and:aN [ayP,ayI,ayH] [ayP,ayI,ayH] (au Ht):=aV
theorem lM(h:l.length<=n):(l.map V.str).length<=n:=by rw[aj];exact h
theorem lA{a b:Ls}{m:Nat}(j:a.length<=m)(G:b.length<=n):(a++b).length<=m+n:=by rw[bI];exact Nat.add_le_add j G
theorem lT{k:Nat}(h:l.length<=n):(l.take k).length<=n:=by rw[eR];exact b8 (Nat.min_le_right _ _) h
theorem lD{k:Nat}(h:l.length<=n):(l.drop k).length<=n:=by rw[j0];exact b8 (Nat.sub_le _ _) h
theorem wY{b x:Ls}(h:x.length<=n):(tU b x).length<=n:=lT (lD h)
theorem lS{p q m k:Nat}(h1:p<=m)(h2:q<=n)(h:m+n<=k:=by decide):p+q<=k:=b8 (Nat.add_le_add h1 h2) h
theorem TH(zZ:Pg K mg base Pt):aA P w K mg base aJ 1 zZ.Bot.f zZ.Bot.fd [ayP,ayI,ayH] TF:=by
 refine zZ.Bot.u.okL and ?_;intro ar A outer s H vs Q E hr h xX dX;obtain @⟨_,_,_,a,t1,l1,t2,l2,b,x,y,Y,⟨O,a0⟩,⟨U,a1⟩,j,J,TJ,q⟩:=h;refine⟨_,(al (aT (aE vJ (aE vJ (aE vJ (aE vJ (nn vK (pv 0) qQ (lw (bP fh (pv 1) am (λ_ _=>rfl)))) (bP fh (pv 1) am (λ_ _=>rfl))) (nn vK (pv 0) (lw (bP fh (pv 1) am (λ_ _=>rfl))) (lw (bP fh (pv 2) am (λ_ _=>rfl))))) (bP fh (pv 2) am (λ_ _=>rfl))) (nn vK (pv 0) (lw (bP fh (pv 2) am (λ_ _=>rfl))) qQ)))),?_⟩;have m1:=FM b x;have m2:=FM b y;refine⟨aX.of O,rfl,ac.of Y,λp1 H1 n1 s1 e1=>?_⟩;rw[vM,aer (by omega),me]at e1;refine⟨aX.of (s1 _ _ O),rfl,e1,s1 _ _ a0,ky (lS (lM (lT j)) (lM (wY J))),λp2 H2 n2 s2 e2=>?_⟩;rw[BA]at e2;have G:=s1.trans s2;refine⟨aX.of (G _ _ O),rfl,aX.of (G _ _ U),rfl,ac.of (G _ _ Y),λp3 H3 n3 s3 e3=>?_⟩;rw[vM,O0 (by omega) (by omega),me,me]at e3;refine⟨s3 _ _ e2,e3,ky (lS (lM (lA (lT j) (wY J))) (lM (lT (lD j)))),λp4 H4 n4 s4 e4=>?_⟩;rw[BA]at e4;have sC:=(G.trans s3).trans s4;refine⟨aX.of (sC _ _ U),rfl,e4,sC _ _ a1,ky (lS (lM (lA (lA (lT j) (wY J)) (lT (lD j)))) (lM (wY TJ))),λp5 H5 n5 s5 e5=>?_⟩;rw[BA]at e5;have sD:=sC.trans s5;refine⟨aX.of (sD _ _ U),rfl,ac.of (sD _ _ Y),λp6 H6 n6 s6 e6=>?_⟩;rw[vM,FO (by omega),me]at e6;refine⟨s6 _ _ e5,e6,ky (lS (lM (lA (lA (lA (lT j) (wY J)) (lT (lD j))) (wY TJ))) (lM (lD j))),λp7 H7 n7 s7 e7=>?_⟩;rw[BA]at e7;have sE:=sD.trans s6;exact q p7 H7 (sE.free n7) (sE.trans s7) e7
inductive TK:Sp where
 | mk {H:Hp}{Q:VK}{E:XK}{a o n:Addr}{b x y:Ls} (_:H a=some (.lst (b.map V.str))) (_:H o=some (.lst (x.map V.str))) (_:H n=some (.lst (y.map V.str))) (_:mC b) (_:mC x) (_:mC y) (_:∀t l r H',H t=none->H l=none->(∀j,r=.ref j->H j=none/\j≠l)->aa H H'->aeB H' t l r (merge b x y)->Q (.ref t) H'):TK [.ref a,.ref o,.ref n] H Q E
theorem JT:aN [ayP,ayB,"new","own_block","new_block"] [ayP,ayB,"new"] (au Hu):=aV
theorem ang(j:Pg K mg base Pt):aA P w K mg base aJ 3 j.Put.f j.Put.fd [ayP,ayB,"new"] TK:=by
 refine j.Put.u.okL JT ?_;intro ar A outer s H vs Q E hr h xX dX;obtain @⟨_,_,_,a,o,n,b,x,y,Y,hO,hN,lb,lx,ly,q⟩:=h;have eA:ci 1 _:=hr.mono (by decide);have hu:=hr.units;refine⟨_,(ah (cg (bS (vI hu) (pv 1) (pv 0) (bJ _))
  (al (aT (eT (aL (dR jG (by rfl) j.B.list iS (ao (pv 2))) jq)))) cZ)
  (Bx (λZ H'=>Z=[some (.ref a),some (.ref o),some (.ref n),none,none]/\H'=H/\¬(y=b\/x=y)) (cg (PW.pt (yc (bS (vI hu) (pv 2) (pv 0) (bJ _)) (Ba (bS (vI hu) (pv 1) (pv 2) (bJ _)))))
  (al (aT (eT (aL (dR jG (by rfl) j.B.list iS (ao (pv 1))) jq)))) cZ)
  (ah (aI (i:=3) JT.nd rfl (Or.inl rfl) (aF (Tw j) hr rfl (aL (pv 0) (pv 1))))
  (ah (aI (i:=4) JT.nd rfl (Or.inl rfl) (aF (Tw j) hr rfl (aL (pv 0) (pv 2))))
  (ah (cg (yd (mr (aF (anc j) hr rfl (aL (pv 3) (pv 4)))))
  (al (aT (eT (aL (dR jG (by rfl) j.B.list iS (ao (pv 2))) (dR jG (by rfl) j.B.list iS (ao (pv 1))))))) cZ)
  (ah (cg (mr (aF (JQ j) eA rfl (aL (pv 3) (pv 4))))
  (al (aT (eT (aL (aF (TH j) eA rfl (d6 (pv 0) (pv 3) (pv 4))) jq)))) cZ)
  (al (aT (eT (aL (aF (TH j) eA rfl (d6 (pv 0) (pv 4) (pv 3))) jq)))))))))),?_⟩
 refine ju ?_;intro dD sS eh;have oB:=mD 8 lb.all;have oX:=mD 8 lx.all;have oY:=mD 8 ly.all;have one:∀(m:Ls) (G:Addr) (H0 H1:Hp),merge b x y=(m,none)->aa H H0->H0 G=none->aa H0 H1->H1 G=some (.lst (m.map V.str))->[V.ref G,V.non].length<=sizeLine/\d5 H1 (.tup [.ref G,.non]) Q:=λm G H0 H1 em s0 n1 J e1=>by
  refine⟨by show 2<=sizeLine;decide,λp2 H2 n2 s2 e2=>?_⟩;refine q p2 G .non H2 ((s0.trans J).free n2) (s0.free n1) (λl2 e=>by cases e) ((s0.trans J).trans s2) ?_;rw[em];exact⟨e2,s2 _ _ e1,rfl⟩
 refine⟨dS x,dS b,jH (ac.of hO),jH (ac.of Y),oX,oB,λb1 JU=>?_⟩;rw[FQ JU];refine⟨bu (λh=>?_) (λh=>?_)⟩
 . refine⟨n,_,rfl,.inl (ac.of hN),λG H1 n1 J e1=>?_⟩;exact one y G H H1 (O2 (cH h)) (aa.refl _) n1 J e1
 have De:x≠b:=MM (qx.mpr h);refine⟨?_,?_⟩
 . refine⟨dS y,dS b,jH (ac.of hN),jH (ac.of Y),oY,oB,λb2 jc=>?_⟩;rw[FQ jc];have a0:(y=b\/x=y)->qM 1 [some (V.ref a),some (.ref o),some (.ref n),none,none] H (λv H=>∃p ys,([v]:Lv)=[.ref p]/\(ac K H p ys\/aX K H p ys)/\d5 H (.lst ys) λv H1=>[v,V.non].length<=sizeLine/\d5 H1 (.tup [v,.non]) Q):=λhc=>
    ⟨o,_,rfl,.inl (ac.of hO),λG H1 n1 J e1=>one x G H H1 (FR De hc) (aa.refl _) n1 J e1⟩
   refine⟨bu (λh2=>?_) (λh2=>?_)⟩
   . exact gm (a0 (.inl (cH h2)))
   refine⟨dS x,dS y,jH (ac.of hO),jH (ac.of hN),oX,oY,λb3 Df=>?_⟩;rw[FQ Df];refine⟨bu (λh3=>?_) (λh3=>?_)⟩
   . exact a0 (.inr (cH h3))
   exact⟨rfl,rfl,λe=>e.elim (λe=>h2 (bN e)) (λe=>h3 (bN e))⟩
 rintro σ' H' ⟨rfl,rfl,hc⟩;refine⟨ac.of Y,ac.of hO,λt1 l1 H1 a3 a1 J U=>?_⟩;refine⟨ac.of (J _ _ Y),ac.of (J _ _ hN),λt2 l2 H2 a4 a2 s2 Dg=>?_⟩;have O:=J.trans s2;have U:Dd H2 t1 l1 b x:=⟨s2 _ _ U.tup,s2 _ _ U.lst⟩;refine⟨U.tup,Dg.tup,?_⟩;refine⟨bu (λh4=>?_) (λh4=>?_)⟩
 . have ap:apart b x y=false:=by unfold apart;simpa using h4
   refine⟨n,_,rfl,.inl (ac.of (O _ _ hN)),λp5 H5 n5 s5 e5=>?_⟩;refine⟨o,_,rfl,.inl (ac.of (s5 _ _ (O _ _ hO))),λp6 H6 n6 s6 e6=>?_⟩;refine⟨An,λp7 H7 n7 s7 e7=>?_⟩;have sB:=(O.trans s5).trans s6;refine q p7 p5 (.ref p6) H7 (sB.free n7) (O.free n5) (λl2 e=>?_) (sB.trans s7) ?_
   . cases e;exact⟨(O.trans s5).free n6,(aH e5 n6).symm⟩
   rw[aeu De hc ap];exact⟨e7,s7 _ _ (s6 _ _ e5),_,rfl,s7 _ _ e6⟩
 have ap:apart b x y=true:=by unfold apart;simpa using h4
 refine⟨U.tup,Dg.tup,?_⟩;refine⟨bu (λh5=>?_) (λh5=>?_)⟩
 . have h5:=cH h5;refine⟨O _ _ Y,U,Dg,lb.len,lx.len,ly.len,λp8 H8 n8 s8 e8=>?_⟩;exact one _ p8 H2 H8 (aev De hc ap (by omega)) O n8 s8 e8
 have h5:=MM (qx.mpr h5);refine⟨O _ _ Y,Dg,U,lb.len,ly.len,lx.len,λp8 H8 n8 s8 e8=>?_⟩;exact one _ p8 H2 H8 (aew De hc ap (by omega)) O n8 s8 e8
theorem dn.du{H H':Hp}{kv:ak×V}{f:Str×Ls}(h:dn H H' kv f):bB H' kv f:=h.elim λa j=>j.elim λl G=>G.elim λb J=>J.elim λ_ c=>⟨a,l,b,c⟩
def fK:Str:=".own"
def df(o:Option (Ls))(p:Str)(b m:Ls):Tr:=
 match o with
 | none=>[(p,m)]
 | some j=>(p,(merge b m j).1)::(match (merge b m j).2 with | none=>[] | some z=>[(p++fK,z)])
def Look(tr:Tr)(p:Str):Option (Ls)->Prop
 | none=>p∉tr.map (·.1)
 | some ls=>(p,ls)∈tr
inductive TL:Sp where
 | mk {H:Hp}{Q:VK}{E:XK}{p:Str}{t j G d:Addr}{kvs:List (ak×V)}{tr:Tr} (b m:Ls) (o:Option (Ls)) (_:H t=some (.tup [.ref j,.ref G])) (_:H j=some (.lst (b.map V.str))) (_:H G=some (.lst (m.map V.str))) (_:H d=some (.dK kvs)) (_:Paired (bB H) kvs tr) (_:(tr.map (·.1)).Nodup) (_:Look tr p o) (_:mC b) (_:mC m) (_:(∀ls,o=some ls->mC ls)) (_:p.length<=60) (_:∀e H' J,H e=none->aa H H'->H' e=some (.dK J)->Paired (dn H H') J (df o p b m)->Q (.ref e) H'):TL [.str p,.ref t,.ref d] H Q E
theorem Dh:aN [aye,ayG,ayT,"mine","together",ayo] [aye,ayG,ayT] (au HI):=aV
theorem anm(O:Pg K mg base Pt):aA P w K mg base aJ 4 O.FoC.f O.FoC.fd [aye,ayG,ayT] TL:=by
 refine O.FoC.u.okL Dh ?_;intro ar A outer s H vs Q E hr h xX dX;obtain @⟨_,_,_,p,t,l1,U,d,kvs,tr,b,m,o,ht,hb,hm,hd,pr,nd,lo,Lb,Lm,Lo,a3,q⟩:=h;have hu:=hr.units;have hk:∀kv f,bB H kv f->kv.1=Sum.inr f.1:=λkv f z=>z.1;have z0:cQ [V.ref l1,V.ref U] 0=some (V.ref l1):=rfl;have z1:cQ [V.ref l1,V.ref U] 1=some (V.ref U):=rfl;have a1:fK.length=4:=by decide +kernel
 refine⟨_,(ah (aI (i:=3) Dh.nd rfl (Or.inl rfl) (bP fh (pv 1) am (λ_ _=>rfl)))
  (ah (cg (oH (Fs hu (pv 0) (pv 2)) (by rfl))
   (al (aT (Oz (Ox (pv 0) (dR jG (by rfl) O.B.list iS (ao (pv 3))) Ov) rfl rfl (by intro z;cases z) (by decide)))) cZ)
  (ah (aI (i:=4) Dh.nd rfl (Or.inl rfl) (aF (ang O) hr rfl (d6 (bP fh (pv 1) am (λ_ _=>rfl)) (pv 3) (oV hu (pv 2) (pv 0) (λ_ _=>rfl)))))
  (ah (aI (i:=5) Dh.nd rfl (Or.inl rfl) (Oz (Ox (pv 0) (bP fh (pv 4) am (λ_ _=>rfl)) Ov) rfl rfl (by intro z;cases z) (by decide)))
  (ah (cg (bS Ny (bP fh (pv 4) am (λ_ _=>rfl)) jq (bJ _))
   (al (iC hu (pv 5) (vS (yD (pv 0)) bO) (bP fh (pv 4) am (λ_ _=>rfl)) rfl)) cZ)
  (al (aT (pv 5)))))))),?_⟩
 refine yE ?_;intro dD sS IQ CK nY gs eh;refine⟨aX.of ht,z1,?_⟩;refine⟨_,cn.k (k:=.inr p) hd,⟨?_⟩⟩;cases o with
 | none=>
  rw[rA hk pr lo];refine gm ?_;refine λe j=>⟨U,_,rfl,.inl (ac.of (fD j _ _ hm)),λq1 H2 n2 s2 e2=>?_⟩;have sH:=(fD (o:=.dK []) j).trans s2;have ee:=s2 _ _ (aB (H:=H) (a:=e) (o:=.dK []));refine⟨ee,[(.inr p,.ref q1)],rfl,(by show 1<=15;decide),?_⟩;exact q e _ [(.inr p,.ref q1)] j (eM sH j) aB (.cons ⟨rfl,q1,rfl,(lC n2).2,aw e2 (lC n2).1⟩ .nil)
 | some ls=>
  obtain⟨v,xW,g1,g2,_,lb,rfl,g3⟩:=mK hk pr (ge (f:=(·.1)) lo);have a0:=kG nd lo g2;subst a0;rw[g1];refine eL ?_;refine⟨aX.of ht,z0,(by rw[<-g1];exact cn.k (k:=.inr p) hd),?_⟩;refine⟨hb,hm,g3,Lb,Lm,Lo ls rfl,λt2 l r H3 nt nl nr s3 pa=>?_⟩;refine λe j=>⟨aX.of (fD j _ _ pa.tup),(rfl:cQ [V.ref l,r] 0=some (V.ref l)),?_⟩;refine⟨aB,[(.inr p,.ref l)],rfl,(by show 1<=15;decide),?_⟩;have J:=s3.free j;have sH:aa H (upd (upd H3 e (.dK [])) e (.dK (mz [] [(.inr p,.ref l)]))):=eM (eM s3 J) J;have rZ:∀{b:Addr}{z:HO},H3 b=some z->(upd (upd H3 e (.dK [])) e (.dK (mz [] [(.inr p,.ref l)]))) b=some z:=λ{b z} h=>aw (aw h (aH h j)) (aH h j);have pt:=rZ pa.tup;have pl:=rZ pa.lst;have pe:(upd (upd H3 e (.dK [])) e (.dK (mz [] [(.inr p,.ref l)]))) e=some (.dK [(.inr p,.ref l)]):=aB;refine⟨aX.of pt,rfl,rfl,⟨?_⟩⟩;have G:=pa.bes
  revert G
  cases TM:(merge b m ls).2 with
  | none=>
   intro G;have G:r=.non:=G;subst G;refine add rfl ?_;refine⟨q e _ _ J sH pe ?_⟩;unfold df;dsimp only;rw[TM];exact .cons ⟨rfl,l,rfl,nl,pl⟩ .nil
  | some z=>
   intro G;obtain⟨Y,rfl,hz⟩:=G;refine aet (λe=>by cases e) ?_;have pz:=rZ hz;have ro:p++Str.ofString ".own"=p++fK:=rfl;have a2:(Str.ofString ".own").length=4:=a1;refine⟨aX.of pt,(rfl:cQ [V.ref l,V.ref Y] 1=some (V.ref Y)),jF (by omega),jF (by omega),Str.ofString ".own",rfl,fit (by omega) (by omega),?_⟩;refine⟨fB.k (k:=.inr (p++fK)) pe (by show 1<sizeLine;decide),?_⟩;have cY:¬(Sum.inr p:ak)=Sum.inr (p++fK):=by
    intro z;have z:=eZ Str.length (md z);rw[ku]at z;omega
   refine⟨q e _ _ J (eM sH J) aB ?_⟩;rw[Fp _ (by rw[jt cY];rfl)];unfold df;dsimp only;rw[TM];exact .cons ⟨rfl,l,rfl,nl,aw pl (be pl pe (by intro z;cases z))⟩ (.cons ⟨rfl,Y,rfl,(nr Y rfl).1,aw pz (be pz pe (by intro z;cases z))⟩ .nil)
def jC(tr:List (Str×β))(p:Str):Option β:=(tr.find? λf=>decide (f.1=p)).map (·.2)
theorem anq{tr:List (Str×β)}{p:Str}(h:jC tr p=none):p∉tr.map (·.1):=by
 unfold jC at h;rw[awm,X5]at h;intro G;obtain⟨f,j,e⟩:=cC.mp G;exact h f j (bN e)
theorem Di{tr:List (Str×β)}{p:Str}{y:β}(h:jC tr p=some y):(p,y)∈tr:=by
 unfold jC at h;rw[awe]at h;obtain⟨f,j,e⟩:=h;have h1:=List.find?_some j;have h2:=List.mem_of_find?_eq_some j;have h1:f.1=p:=cH h1;rw[<-h1,<-e];exact h2
theorem anr(tr:Tr)(p:Str):Look tr p (jC tr p):=by
 cases h:jC tr p with
 | none=>exact anq h
 | some y=>exact Di h
def putAll(tr G:Tr):Tr:=G.foldl (λj f=>bw j f.1 f.2) tr
theorem ans{F:ak×V->Str×Ls->Prop}(G:∀kv f,F kv f->kv.1=Sum.inr f.1){j:List (ak×V)}{ms:Tr}(h:Paired F j ms):∀{kvs:List (ak×V)}{tr:Tr},Paired F kvs tr->Paired F (mz kvs j) (putAll tr ms):=by
 induction h with
 | nil=>exact λh=>h
 | @cons kv f j ms r t O=>
  intro kvs tr J;have e:=G _ _ r;have:Paired F (cL kvs kv.1 kv.2) (bw tr f.1 f.2):=by
   rw[e];exact je G (by rw[<-e];exact r) J
  exact O this
theorem ant{j:Tr}:∀{tr:Tr},(tr.map (·.1)).Nodup->((putAll tr j).map (·.1)).Nodup:=by
 induction j with
 | nil=>exact λh=>h
 | cons f j G=>exact λh=>G (jL h)
theorem anu(o:Option (Ls))(p:Str)(b m:Ls):(df o p b m).length<=2:=by
 unfold df;cases o with
 | none=>exact qv 1
 | some j=>
  dsimp only;rw[cT];split
  . exact qv 1
  exact aG 2
def ir(aK:Tr)(ow:Ow):Tr:=ow.foldl (λtr e=>putAll tr (df (jC aK e.1) e.1 e.2.1 e.2.2)) aK
theorem anv(aK:Tr)(ow:Ow)(e:Str×(Ls×Ls)):ir aK (ow++[e])=putAll (ir aK ow) (df (jC aK e.1) e.1 e.2.1 e.2.2):=by
 unfold ir;rw[qE];rfl
end
section
open HT (At cu ik)
def hJ(c:Str):Str:=Str.ofString "="++c
theorem anw{a b:Str}(h:hJ a=hJ b):a=b:=by
 have e:=eZ (λz:Str=>z.cps.toList) h;have e1:∀x:Str,(hJ x).cps.toList=(Str.ofString "=").cps.toList++x.cps.toList:=λx=>by
  show((Str.ofString "=").cps++x.cps).toList=_;simp
 simp only[e1]at e;have e2:=List.append_cancel_left e;have ext:∀x y:Str,x.cps.toList=y.cps.toList->x=y:=λ⟨⟨x⟩⟩ ⟨⟨y⟩⟩ h=>by
  have h:x=y:=h;rw[h]
 exact ext _ _ e2
theorem jy.off{H:Hp}{v:V}{p:cb}{L:List Addr}(G:∀b∈L,∀o,H b=some o->(∀c d f,o≠.ins c d f)/\(∀vs,o≠.tup vs)/\∀vs,o≠.lst vs)(h:jy C H v p):jy C (msk L H) v p:=by
 obtain⟨a,dx,fl,rk,m,pf,pn,ps,po,xs,e,h1,h2,h3,h4,h5,h6,j⟩:=h;have t:∀{b:Addr}{vs:Lv},H b=some (.tup vs)->msk L H b=some (.tup vs):=λe=>cw (λz=>(G _ z _ e).2.1 _ rfl) e;have l:∀{b:Addr}{vs:Lv},H b=some (.lst vs)->msk L H b=some (.lst vs):=λe=>cw (λz=>(G _ z _ e).2.2 _ rfl) e;exact⟨a,dx,fl,rk,m,pf,pn,ps,po,xs,e,cw (λz=>(G _ z _ h1).1 _ _ _ rfl) h1,h2,t h3,l h4,av h5 λ_ _ U=>U.elim λt' Y=>Y.elim λl' J=>J.elim λx1 O=>O.elim λx2 x3=>⟨t',l',x1,t x2,l x3⟩,l h6,j.1,l j.2.1,l j.2.2⟩
theorem TabSt.put{H:Hp}{lp:Pos}{qu:Str}{ks:List (ak×V)}{o:HO}(hd:H d=some (.dK ks))(h:TabSt H Pt lp qu):TabSt (upd H d o) Pt lp qu:=by
 have k:∀{b:Addr}{φ:Heap->Prop},H b=some (.ext φ)->upd H d o b=some (.ext φ):=λe=>aw e (be e hd (by intro z;cases z))
 rcases h with z | ⟨c',j,G⟩
 . exact .inl (k z)
 exact .inr ⟨c',k j,k G⟩
def JV(ow:Ow):Prop:=∀e∈ow,e.1.length<=60/\mC e.2.1/\mC e.2.2
end
section
variable {x p:Str}{b m ns:Ls}{o:Option (Ls)}{aK ji:Tr}{ow:Ow}{ps px:Lp}{ch:Ch}{cs:Cs}
theorem r9{α:Type}{l:List α}{i:Nat}{x:α}(h:l[i]?=some x):l.take (i+1)=l.take i++[x]:=by rw[hZ,h];rfl
theorem anC(h:cz x):∀c∈x.cps.toList,c≠46:=λc j=>by
 obtain⟨ps,rfl,_,_,G⟩:=h
 rcases Cq j with z | ⟨p,J,z⟩
 . intro e;rw[e]at z;exact absurd z (by decide +kernel)
 have:=(G p J).az c z;omega
theorem pU{y:Str}(h:cz x):x≠y++fK:=λe=>by
 refine anC h 46 ?_ rfl;rw[e,jN];exact eX _ (by decide +kernel)
theorem TN{a b:Str}(h:a++fK=b++fK):a=b:=by
 have e:=eZ (λz:Str=>z.cps.toList) h;simp only[jN]at e;have e2:=List.append_cancel_right e;have ext:∀x y:Str,x.cps.toList=y.cps.toList->x=y:=λ⟨⟨x⟩⟩ ⟨⟨y⟩⟩ h=>by
  have h:x=y:=h;rw[h]
 exact ext _ _ e2
theorem TQ:∀(j tr:Tr) (k:Str),(j.map (·.1)).Nodup->look (putAll tr j) k=(look j k).or (look tr k)
 | [],tr,k,_=>rfl
 | f::j,tr,k,nd=>by
  rw[bV,qw]at nd;have G:=TQ j (bw tr f.1 f.2) k nd.2;show look (putAll (bw tr f.1 f.2) j) k=_;rw[G,uL,iq]
  by_cases e:f.1=k
  . rw[ai e,ai e,gy.mpr (by rw[<-e];exact nd.1)];rfl
  rw[ag e,ag e]
theorem JW{k:Str}(h:k∈(df o p b m).map (·.1)):k=p\/k=p++fK:=by
 unfold df at h;cases o with
 | none=>exact .inl (bD.mp h)
 | some j=>
  dsimp only at h;rw[bV]at h
  rcases aZ.mp h with z | z
  . exact .inl z
  split at z
  . cases z
  exact .inr (bD.mp z)
theorem JX(j:cz p):((df o p b m).map (·.1)).Nodup:=by
 unfold df;cases o with
 | none=>simp
 | some G=>
  dsimp only;rw[bV,qw];split
  . simp
  refine⟨λz=>pU j (bD.mp z),by simp⟩
theorem Dj(g:Str×(Ls×Ls)->Tr):∀(ow:Ow) (c:Tr),(∀e∈ow,((g e).map (·.1)).Nodup)->look (ow.foldl (λtr e=>putAll tr (g e)) c)=ow.foldl (fun(φ:Str->Option (Ls)) e k=>(look (g e) k).or (φ k)) (look c)
 | [],c,_=>rfl
 | e::ow,c,h=>by
  rw[j6,j6,Dj g ow _ λx j=>h x (bT _ j)]
  congr 1
  funext k
  exact TQ _ _ _ (h e bL)
theorem anD{β:Type}{l j:List (Str×β)}(p:l.Perm j)(nd:(l.map (·.1)).Nodup)(k:Str):look l k=look j k:=by
 have G:(j.map (·.1)).Nodup:=(p.map _).nodup_iff.mp nd;cases e:look l k with
 | none=>exact(gy.mpr λz=>gy.mp e ((p.map _).mem_iff.mpr z)).symm
 | some v=>exact(lU G (p.mem_iff.mp (jV e))).symm
theorem TR(h:look aK=look ji){aD:Ow}(p:ow.Perm aD)(nd:(ow.map (·.1)).Nodup)(pt:∀e∈ow,cz e.1):look (ir aK ow)=look (ir ji aD):=by
 have e1:∀(t:Tr) (o:Ow),ir t o=o.foldl (λtr e=>putAll tr (df (look t e.1) e.1 e.2.1 e.2.2)) t:=λ_ _=>rfl;rw[e1,e1,Dj _ _ _ λe j=>JX (pt e j),Dj _ _ _ λe j=>JX (pt e (p.mem_iff.mpr j)),<-h];refine List.Perm.foldl_eq' p (λx G y J φ=>?_) _
 funext k
 by_cases e:x=y
 . rw[e]
 have n1:x.1≠y.1:=λz=>e (by
  have:=kG nd (x:=x.1) (a:=x.2) (b:=y.2) G (by rw[z];exact J);exact Prod.ext z this)
 cases a:look (df (look aK x.1) x.1 x.2.1 x.2.2) k with
 | none=>simp only[a,Option.none_or]
 | some u=>
  cases b:look (df (look aK y.1) y.1 y.2.1 y.2.2) k with
  | none=>simp only[a,b,Option.none_or]
  | some v=>
   have ka:=JW (ge (f:=(·.1)) (jV a));have kb:=JW (ge (f:=(·.1)) (jV b))
   rcases ka with ka | ka<;>rcases kb with kb | kb
   . exact absurd (ka.symm.trans kb) n1
   . exact absurd (ka.symm.trans kb) (pU (pt x G))
   . exact absurd (kb.symm.trans ka) (pU (pt y J))
   exact absurd (TN (ka.symm.trans kb)) n1
theorem TU(h:(ps.map gK).Nodup){p q:cb}(hp:p∈ps)(hq:q∈ps)(e:gK p=gK q):p=q:=by
 induction ps with
 | nil=>cases hp
 | cons r ps j=>
  rw[bV,qw]at h
  rcases aZ.mp hp with ep | hp
  . rcases aZ.mp hq with eq | hq
    . rw[ep,eq]
    exact absurd (ge (f:=gK) hq) (by rw[<-e,ep];exact h.1)
  rcases aZ.mp hq with eq | hq
  . exact absurd (ge (f:=gK) hp) (by rw[e,eq];exact h.1)
  exact j h.2 hp hq
structure uM(ps:Lp)(ch:Ch)(px:Lp):Prop where
 nm:(px.map (·.nm)).Perm (ch.map (·.1))
 mm:∀p∈px,p∈ps/\(p.nm,p.ms)∈ch
theorem uM.iff(h:uM ps ch px)(nk:(ps.map gK).Nodup)(nd:(ch.map (·.1)).Nodup)(p:cb):p∈px↔p∈ps/\(p.nm,p.ms)∈ch:=by
 refine⟨h.mm p,λO=>O.elim λh1 h2=>?_⟩;have:p.nm∈px.map (·.nm):=h.nm.mem_iff.mpr (ge (f:=(·.1)) h2);obtain⟨r,J,j⟩:=cC.mp this;obtain⟨Y,G⟩:=h.mm r J;rw[j]at G;have U:=kG nd G h2;have:r=p:=TU nk Y h1 (by unfold gK;rw[j,U]);rw[<-this];exact J
theorem TV{kQ:Lp}(O:Apart ns ps)(nd:(ch.map (·.1)).Nodup)(j:∀p∈px,p∈ps/\(p.nm,p.ms)∈ch)(m:∀p,p∈px↔p∈kQ)(g:fH (bZ px) aK)(g':fH (bZ kQ) ji){k:Str}{l:Ls}(h:look aK k=some l):look ji k=some l:=by
 obtain⟨p,G,U⟩:=qD.mp (g.sub _ (jV h));have hk:k∈ji.map (·.1):=g'.key (k,l) (qD.mpr ⟨p,(m p).mp G,U⟩);obtain⟨f,Y,e⟩:=cC.mp hk;have e:f.1=k:=e;obtain⟨q,J,hg⟩:=qD.mp (g'.sub f Y);have J:=(m q).mpr J;have en:=O.one p (j p G).1 q (j q J).1 k (ge (f:=(·.1)) U) (by rw[<-e];exact ge (f:=(·.1)) hg);have em:p.ms=q.ms:=kG nd (j p G).2 (by rw[en];exact(j q J).2);have ep:p=q:=TU O.nd (j p G).1 (j q J).1 (by unfold gK;rw[en,em]);subst ep;have el:l=f.2:=kG (O.ok p (j p G).1).2.2 U (by rw[<-e];exact hg);rw[el,<-e];exact lU g'.nd Y
theorem JY{J:Lp}(j:Apart ns ps)(nd:(ch.map (·.1)).Nodup)(G:∀p∈px,p∈ps/\(p.nm,p.ms)∈ch)(m:∀p,p∈px↔p∈J)(g:fH (bZ px) aK)(g':fH (bZ J) ji):look aK=look ji:=by
 funext k
 cases e:look aK k with
 | some l=>exact(TV j nd G m g g' e).symm
 | none=>
  cases O:look ji k with
  | none=>rfl
  | some l=>rw[TV j nd (λp U=>G p ((m p).mpr U)) (λp=>(m p).symm) g' g O]at e;cases e
def zQ(ps:Lp)(ch:Ch)(cs:Cs)(ow:Ow)(tr:Tr):Prop:=∃(px:Lp) (aK:Tr),uM ps ch px/\fH (bZ px) aK /\
 (∀k,(∀c,(∃p∈px,c∈p.os)->k≠hJ c)->look tr k=look (ir aK ow) k)/\∀c,(∃p∈px,c∈p.os)->∃r,look tr (hJ c)=some [r]/\NB (gZ c px) (look cs c) r
theorem anF{aY:Ch}{bi:Cs}{aD:Ow}{tr O:Tr}(G:Apart ns ps)(p1:ch.Perm aY)(p2:cs.Perm bi)(p3:ow.Perm aD)(d1:(ch.map (·.1)).Nodup)(d2:(cs.map (·.1)).Nodup)(d3:(ow.map (·.1)).Nodup)(pt:∀e∈ow,cz e.1)
 (h:zQ ps ch cs ow tr) (h':zQ ps aY bi aD O):look tr=look O:=by
 obtain⟨px,aK,x,g,a,b⟩:=h;obtain⟨U,ji,x',g',a',b'⟩:=h';have a4:(aY.map (·.1)).Nodup:=(p1.map _).nodup_iff.mp d1;have m:∀p,p∈px↔p∈U:=λp=>by rw[x.iff G.nd d1,x'.iff G.nd a4,p1.mem_iff]
 have t0:=JY G d1 x.mm m g g';have Y:∀c,(∃p∈px,c∈p.os)↔∃p∈U,c∈p.os:=λc=>⟨λa0=>a0.elim λp a1=>a1.elim λh1 h2=>⟨p,(m p).mp h1,h2⟩,λa2=>a2.elim λp a3=>a3.elim λh1 h2=>⟨p,(m p).mpr h1,h2⟩⟩
 funext k
 by_cases J:∃c,(∃p∈px,c∈p.os)/\k=hJ c
 . obtain⟨c,j,rfl⟩:=J;obtain⟨r,e,n⟩:=b c j;obtain⟨r',e',n'⟩:=b' c ((Y c).mp j);rw[<-anD p2 d2]at n';rw[e,e',n.eq n' λq=>by unfold gZ;rw[jk,jk,m q]]
 rw[a k λc j e=>J ⟨c,j,e⟩,a' k λc j e=>J ⟨c,(Y c).mpr j,e⟩,TR t0 p3 d3 pt]
theorem anL{kvs:List (ak×V)}(h:Paired pH kvs cs)(c:Str):rW kvs c=look cs c:=by
 induction h with
 | nil=>rfl
 | @cons kv e kvs cs r t j=>
  rw[iq];unfold rW bg at j ⊢;rw[sT]
  by_cases z:e.1=c
  . rw[ai z,bN (show kv.1=Sum.inr c by rw[r.1,z])];show(match Option.map (λx=>x.snd) (some kv) with | some (V.str y)=>some y | _=>none)=some e.2;rw[sU,r.2]
  rw[ag z,cx (show kv.1≠Sum.inr c by rw[r.1];intro y;exact z (md y))];exact j
open HT (At cu ik)
open Lcp
seal PE PS cf PA PT PW PG gf PI fW
structure TW(ns:Ls)(p:cb):Prop where
 n3:p.fs.length<=3
 ls:∀f∈p.fs,mC f.2
 o2:p.os.length<=2
 nm:Ln p.nm
 os:∀t∈p.os,(Ln t/\t.length<=20)/\t∈ns
theorem anM{kvs:List (ak×V)}(h:Paired pH kvs cs)(ok:∀e∈cs,Ln e.2):JA kvs:=λk v j=>by
 obtain⟨e,G,e1,e2⟩:∃e∈cs,k=.inr e.1/\v=.str e.2:=by
  induction h with
  | nil=>cases j
  | @cons kv e kvs cs r t O=>
   unfold bg at j;rw[sT]at j;split at j
   . rename_i z;have z:=cH z;cases j;exact⟨e,bL,z▸r.1,r.2⟩
   obtain⟨J,h1,h2⟩:=O (λe G=>ok e (bT _ G)) j;exact⟨J,bT _ h1,h2⟩
 exact⟨_,e2,ok e G⟩
theorem Dl{tr:Tr}{ls:Ls}(h:eI tr)(j:∀y∈ls,Ln y):eI (bw tr x ls):=λf hf=>by
 rcases mJ hf with e | hf
 . rw[e];exact j
 exact h f hf
theorem anN{G:Tr}(h:eI G)(U:∀x∈b,Ln x)(J:∀x∈m,Ln x)(Y:∀ls,o=some ls->∀x∈ls,Ln x):eI (putAll G (df o p b m)):=by
 unfold df;cases o with
 | none=>exact Dl (tr:=G) h J
 | some j=>
  dsimp only;have h1:=Dl (x:=p) (ls:=(merge b m j).1) h (aez U J (Y j rfl));cases e:(merge b m j).2 with
  | none=>exact h1
  | some z=>
   have O:z=m:=by
    rcases aey b m j with q | q
    . rw[q]at e;cases e
    rw[q]at e;exact(gM e).symm
   subst O;exact Dl h1 J
theorem anO(h:eI aK)(j:JV ow):eI (ir aK ow):=by
 have a0:∀(ow:Ow) (c:Tr),eI c->(∀e∈ow,(∀x∈e.2.1,Ln x)/\∀x∈e.2.2,Ln x)->eI (ow.foldl (λtr e=>putAll tr (df (jC aK e.1) e.1 e.2.1 e.2.2)) c):=by
  intro ow
  induction ow with
  | nil=>exact λc G _=>G
  | cons e ow Y=>
   intro c G j;rw[j6];have h1:=j e bL;exact Y _ (anN G h1.1 h1.2 λls U=>h _ (Di U)) λO kB=>j O (bT _ kB)
 exact a0 ow aK h λe J=>⟨(j e J).2.1.all,(j e J).2.2.all⟩
theorem anP{tr:Tr}{k:Str}{ls:Ls}(h:k∈tr.map (·.1)):(bw tr k ls).length=tr.length:=by
 obtain⟨f,j,e⟩:=cC.mp h;unfold bw;rw[ai (sW.mpr ⟨f,j,bN e⟩),aj]
theorem TX(aK:Tr)(ow:Ow):(ir aK ow).length<=aK.length+ow.length:=by
 have U:∀(ow:Ow) (c:Tr),(∀k∈aK.map (·.1),k∈c.map (·.1))->(ow.foldl (λtr e=>putAll tr (df (jC aK e.1) e.1 e.2.1 e.2.2)) c).length<=c.length+ow.length:=by
  intro ow
  induction ow with
  | nil=>exact λc _=>aG _
  | cons e ow O=>
   intro c j;have keep:∀{c:Tr}{x:Str}{l:Ls},(∀k∈aK.map (·.1),k∈c.map (·.1))->∀k∈aK.map (·.1),k∈(bw c x l).map (·.1):=λ{c x l} j k J=>by
    have:=j k J;cases z:look c k with
    | none=>exact absurd this (gy.mp z)
    | some v=>
     refine Yw λn=>?_;have:=gy.mpr n;rw[uL]at this;split at this
     . cases this
     rw[z]at this;cases this
   rw[j6,cT];have Y:∃c',putAll c (df (jC aK e.1) e.1 e.2.1 e.2.2)=c'/\c'.length<=c.length+1/\∀k∈aK.map (·.1),k∈c'.map (·.1):=by
    unfold df;cases z:jC aK e.1 with
    | none=>exact⟨_,rfl,jM c _ _,keep j⟩
    | some G=>
     dsimp only;have h1:e.1∈c.map (·.1):=j _ (ge (f:=(·.1)) (Di z));have h2:=anP (ls:=(merge e.2.1 e.2.2 G).1) h1;cases (merge e.2.1 e.2.2 G).2 with
     | none=>exact⟨_,rfl,b8 (xG h2) (qv _),keep j⟩
     | some o=>exact⟨_,rfl,b8 (jM (bw c e.1 (merge e.2.1 e.2.2 G).1) (e.1++fK) o) (by rw[h2];exact aG _),keep (keep j)⟩
   obtain⟨c',e1,l1,k1⟩:=Y;rw[e1];have:=O c' k1;omega
 exact U ow aK λk h=>h
theorem anQ(h:(aK.map (·.1)).Nodup)(ow:Ow):((ir aK ow).map (·.1)).Nodup:=by
 have J:∀(ow:Ow) (c:Tr),(c.map (·.1)).Nodup->((ow.foldl (λtr e=>putAll tr (df (jC aK e.1) e.1 e.2.1 e.2.2)) c).map (·.1)).Nodup:=by
  intro ow
  induction ow with
  | nil=>exact λc j=>j
  | cons e ow G=>
   intro c j;rw[j6];exact G _ (ant j)
 exact J ow aK h
inductive TY (C S T Pt:Addr):Sp where
 | mk {H:Hp}{Q:VK}{E:XK}{j tv:V}{xs:Lv}{ps:Lp}{ch:Ch}{cs:Cs}{ow:Ow}{ns:Ls} (_:jz S H j xs ps) (_:dY C H xs ps) (_:(∀p∈ps,TW ns p)) (_:ns.length<=4) (_:ip T H tv ch cs ow) (_:pK xs ps ch) (_:ch.length<=4) (_:ow.length<=8) (_:JV ow) (_:(∀e∈cs,Ln e.2)) (_:TabSt H Pt fJ fo) (_:∀d H' kvs (tr:Tr),H d=none->lK Pt H H'->TabSt H' Pt fJ fo->H' d=some (.dK kvs)->Paired (dn H H') kvs tr->(tr.map (·.1)).Nodup->tr.length<=24->eI tr->zQ ps ch cs ow tr->Q (.ref d) H'):TY C S T Pt [j,tv] H Q E
theorem uN:aN [ayd,ayA,ayg,ayT,ayO,aye,ayG,ayQ] [ayd,ayA] (au zf):=aV
theorem J2(j:Pg K mg base Pt):aA P w K mg base aJ 5 j.Tre.f j.Tre.fd [ayd,ayA] (TY j.C j.S j.T Pt):=by
 refine j.Tre.u.okL uN ?_;intro ar A outer s H vs Q E hr h xX dX;obtain @⟨_,_,_,sv,tv,xs,ps,ch,cs,ow,ns,hS,hP,h3,az,hT,hV,h4,o2,okO,a7,a0,q⟩:=h;have hu:=hr.units;have ap:ci 2 (A.deeper (PyProof.Rows.envOfC "tree_of" (au zf) s.heap.objs.size j.Tre.f ar)):=hr.mono (by decide);have eA:ci 1 (A.deeper (PyProof.Rows.envOfC "tree_of" (au zf) s.heap.objs.size j.Tre.f ar)):=hr.mono (by decide);refine⟨_,(ah (aI (i:=2) uN.nd rfl (Or.inl rfl) (aF (I9 j) ap rfl (aL (pv 0) (bK (pv 1) rfl))))
  (ah (aI (i:=3) uN.nd rfl (Or.inl rfl) (aF (Sn j) eA rfl (ao (pv 2))))
  (ah (aI (i:=4) uN.nd rfl (Or.inl rfl) (dR vO (by rfl) j.B.dict AY (ao (pv 3))))
  (ah (F4 dZ rfl (bK (pv 1) rfl) (m9 rfl (fM (bf (i:=5) uN.nd rfl (Or.inl rfl)) (fM (bf (i:=6) uN.nd rfl (Or.inl rfl)) mv)))
  (al (cp (dH xJ awr PySem.F.type_dict_update afS (pv 4) (ao (aF (anm j) hr rfl (d6 (pv 5) (pv 6) (pv 3))))))))
  (ah (eK dZ rfl (cU (aF (amj j) eA rfl (ao (pv 2)))) (bf (i:=7) uN.nd rfl (Or.inl rfl))
  (al (iC hu (pv 4) (vS bO (yD (pv 7))) (db (ao (aF (amm j) hr rfl (d6 (pv 7) (pv 2) (bK (pv 1) rfl))))) rfl)))
  (al (aT (pv 4)))))))),?_⟩
 refine yE ?_;intro dD sS IQ CK nY gs eh;obtain⟨a,dx,fl,c,h,o,rfl,t1,t2,t3,t4,t5,⟨hk,t6,TZ⟩,ko,t7,t8⟩:=hT;have hok:=anM TZ a7;refine⟨t1,j.UT.cl,j.UT.nC,t2,?_⟩;refine⟨hS,t5,hV,by omega,λD H1 kD px n1 s1 e1 pr pn pc=>?_⟩;have wZ:=Jb (hP.same s1) pr;have pm:=Jc pr;have dQ:px.length<=4:=by
  have e:=pn.length_eq;rw[aj,aj]at e;omega
 have hl:(bZ px).length<=12:=by
  have:=CU (b:=3) (ps:=px) λp G=>(h3 p (pm p G)).n3;omega
 refine⟨e1,wZ,by omega,λd H2 kvs aK n2 s2 e2 T0 g2=>?_⟩;refine⟨d,_,rfl,e2,λd3 H3 n3 s3 e3=>?_⟩;have gY:=s1.trans (s2.trans s3);have se:H d3=none:=s1.free (s2.free n3);have dJ:=s3 _ _ e2;have o3:=gY _ _ t7;have od:d≠o:=(aH (s1 _ _ t7) n2).symm;have uO:d3≠o:=(aH t7 se).symm;have ab:d3≠d:=(aH e2 n3).symm;have b2:=g2.len;have T1:∀f∈aK,mC f.2:=λf hf=>by
  obtain⟨p,G,hf⟩:=qD.mp (g2.sub f hf);exact(h3 p (pm p G)).ls f hf
 have aC:Paired (bB H3) kvs aK:=av T0 λ_ _ z=>(z.du).same s3;have rO:Paired (dn H H3) kvs aK:=av T0 λkv f z=>by
  obtain⟨z1,l,z2,J,z4⟩:=z;exact⟨z1,l,z2,s1.free J,s3 _ _ z4⟩
 have tk:∀(H':Hp) kv f,dn H H' kv f->kv.1=Sum.inr f.1:=λ_ kv f z=>z.1;refine⟨gY _ _ t1,j.UT.cl,j.UT.nO,t4,o,ko,rfl,o3,λob=>?_⟩;refine IF (λi Z O=>∃u v kt,Z=[some sv,some (.ref a),some (.ref D),some (.ref d),some (.ref d3),u,v,none]/\(∀b z,H3 b=some z->b≠o->b≠d3->O b=some z)/\(∀b,O b=none->H3 b=none)/\O o=some (.frz ob (.dK ko))/\O d3=some (.dK kt)/\Paired (dn H O) kt (ir aK (ow.take i)))
  ⟨none,none,kvs,rfl,λb z e hb _=>aw e hb,λb e=>(lC e).2,aB,aw e3 uO,av rO λkv f z=>?_⟩ ?_ ?_ ?_
 . obtain⟨z1,l,z2,J,z4⟩:=z;exact⟨z1,l,z2,J,aw z4 (be z4 o3 (by intro z;cases z))⟩
 . intro i Z O fG;refine bq ?_;intro tT;obtain⟨u,v,kt,rfl,_,_,h,_⟩:=fG;exact h
 . intro i k v p Z O hi gW G;refine bq ?_;intro tT;obtain⟨u,v',kt,rfl,k5,f5,h5,pR,gt⟩:=gW;obtain⟨⟨x,b1,m1⟩,hf,a1,t,l1,l2,a2,a3,a4,a5⟩:=eN t8 hi;have a1:k=.inr x:=a1;have a2:v=.ref t:=a2;subst a1 a2;have hm:=dM hf;have sp:aa O (upd O p (.tup [kV (.inr x),.ref t])):=fD G;have K5:∀{b:Addr}{z:HO},H b=some z->(∀ks,z≠.dK ks)->(upd O p (.tup [kV (.inr x),.ref t])) b=some z:=λ{b z} e hz=>sp _ _ (k5 _ _ (gY _ _ e) (be e t7 (hz _)) (λy=>by rw[y,se]at e;cases e));have D5:=sp _ _ (k5 _ _ dJ od ab.symm);refine⟨aX.of aB,rfl,rfl,?_⟩;refine⟨.inr (.inr (.inl ⟨rfl,.inl ⟨_,sp _ _ pR⟩⟩)),⟨⟨⟨?_⟩⟩⟩⟩;refine⟨b1,m1,jC aK x,K5 a3 (by intro ks z;cases z),K5 a4 (by intro ks z;cases z),K5 a5 (by intro ks z;cases z),D5,?_,g2.nd,anr aK x,(okO _ hm).2.1,(okO _ hm).2.2,?_,(okO _ hm).1,λe U ax n6 s6 e6 T2=>?_⟩
   . exact av aC λkv f z=>by
      obtain⟨z1,l,z2,J⟩:=z;exact⟨z1,l,z2,sp _ _ (k5 _ _ J (be J o3 (by intro z;cases z)) (be J e3 (by intro z;cases z)))⟩
   . intro ls e;exact T1 _ (Di e)
   have kR:=sp.trans s6;have af:d3≠e:=aH (sp _ _ pR) n6;have pl:=bA gt;have ml:=bA T2;have h1:=TX aK (ow.take i);have h2:=anu (jC aK x) x b1 m1;have b3:(ow.take i).length<=8:=by rw[eR];omega
   refine⟨d3,e,kt,ax,rfl,rfl,af,kR _ _ pR,e6,ky (by omega),?_⟩;refine⟨_,_,_,rfl,λb z e hb Df=>aw (kR _ _ (k5 _ _ e hb Df)) Df,λb e=>f5 b (kR.free (lC e).2),aw (kR _ _ h5) uO.symm,aB,?_⟩;rw[hZ,hf];show Paired _ _ (ir aK (ow.take i++[(x,b1,m1)]));rw[anv];refine av (ans (F:=dn H U) (tk U) (av T2 λkv f z=>?_) (av gt λ_ _=>dn.same kR)) λkv f=>dn.put (kR _ _ pR);obtain⟨z1,l,z2,J,z4⟩:=z;exact⟨z1,l,z2,gY.free (f5 _ (sp.free J)),z4⟩
 intro Z O gX;refine bq ?_;intro tT;obtain⟨u,v,kt,rfl,k5,f5,h5,pR,gt⟩:=gX;rw[bA t8,ff]at gt;have sF:∀b z,H3 b=some z->b≠d3->(upd O o (.dK ko)) b=some z:=λb z e hb=>by
  by_cases ho:b=o
  . subst ho;rw[o3]at e;cases e;exact aB
  exact aw (k5 b z e ho hb) ho
 have sH:aa H (upd O o (.dK ko)):=λb z e=>sF b z (gY _ _ e) (λy=>by rw[y,se]at e;cases e);have Dm:aa H1 (upd O o (.dK ko)):=λb z e=>sF b z (s3 _ _ (s2 _ _ e)) (λy=>by rw[y,s2.free n3]at e;cases e);refine⟨Dm _ _ e1,wZ.same Dm,by omega,λp G=>(h3 p (pm p G)).o2,λr U cm n6 s6 e6 a9 zR cl=>?_⟩;refine⟨⟨_,ac.of e6⟩,?_⟩;have sf:=sH.trans s6;have T3:d3≠Pt:=TabSt.new a0 se;have si:TabSt U Pt fJ fo:=a0.same sf;have rP:r≠Pt:=TabSt.ne si e6 (by intro φ z;cases z);have a8:∀x∈cm,Ln x/\x.length<=20:=λx Y=>by
  obtain⟨p,G,Y⟩:=(zR x).mp Y;exact((h3 p (pm p G)).os x Y).1
 have dd:∀{b:Addr}{o:HO},U b=some o->b≠Pt->b≠d3->msk [Pt,d3] U b=some o:=λe n1 n2=>cw (by simp[n1,n2]) e;have J3:=s6 _ _ (aw (p:=o) (o':=.dK ko) pR uO);have an:dY j.C (msk [Pt,d3] U) kD px:=av (wZ.same (Dm.trans s6)) λ_ _ z=>z.off λb hb o eo=>by
  rcases aZ.mp hb with e | e
  . obtain⟨φ,w⟩:=TabSt.at si;rw[e,w]at eo;cases eo;exact⟨(by intro _ _ _ z;cases z),(by intro _ z;cases z),(by intro _ z;cases z)⟩
  rw[bD.mp e,J3]at eo;cases eo;exact⟨(by intro _ _ _ z;cases z),(by intro _ z;cases z),(by intro _ z;cases z)⟩
 have T4:∀{b:Addr}{o:HO},H b=some o->(∀φ,o≠.ext φ)->msk [Pt,d3] U b=some o:=λe n=>dd (sf _ _ e) (TabSt.ne a0 e n) (aH e se);have a6:=T4 t1 (by intro φ z;cases z);have Jz:=T4 t6 (by intro φ z;cases z);have D6:msk [Pt,d3] U D=some (.lst kD):=dd (s6 _ _ (Dm _ _ e1)) (TabSt.new a0 n1) (aH (s2 _ _ e1) n3);have r6:msk [Pt,d3] U r=some (.lst (cm.map V.str)):=dd e6 rP (be e6 J3 (by intro z;cases z));have tl:=TX aK ow;have J4:Paired (dn H U) kt (ir aK ow):=av gt λkv f z=>by
  obtain⟨z1,l,z2,J,z4⟩:=z;exact⟨z1,l,z2,J,s6 _ _ (aw z4 (be z4 h5 (by intro z;cases z)))⟩
 have a':eI (ir aK ow):=anO (λf hf=>(T1 f hf).all) okO;have b0:cm.length<=4:=b8 (kE a9 λx Y=>by
  obtain⟨p,G,Y⟩:=(zR x).mp Y;exact((h3 p (pm p G)).os x Y).2) az
 refine ib (xs:=cm.map V.str) (λi Z H7=>∃u' kvs tr,Z=[some sv,some (.ref a),some (.ref D),some (.ref d),some (.ref d3),u,v,u']/\aa (msk [Pt,d3] U) H7/\TabSt H7 Pt fJ fo/\H7 d3=some (.dK kvs)/\Paired (dn H H7) kvs tr/\(tr.map (·.1)).Nodup/\tr.length<=20+i/\eI tr/\(∀k,(∀c∈cm.take i,k≠hJ c)->look tr k=look (ir aK ow) k)/\∀c∈cm.take i,∃r,look tr (hJ c)=some [r]/\NB (gZ c px) (rW hk c) r)
  ⟨none,kt,ir aK ow,rfl,bc,si,J3,J4,anQ g2.nd ow,by omega,a',λ_ _=>rfl,λc hc=>nomatch hc⟩ ?_ ?_ ?_
 . intro i Z H7 hi fG;obtain⟨u',kvs,tr,rfl,sm,_⟩:=fG;exact ac.of (sm _ _ r6)
 . intro i v0 Z H7 hv gW;refine bq ?_;intro tT;obtain⟨u',kvs,tr,rfl,sm,Dn,lV,xa,Ka,l7,Kb,zT,zU⟩:=gW;obtain⟨x,Y,rfl⟩:∃x,cm[i]?=some x/\v0=.str x:=by
    rw[dN]at hv;cases e:cm[i]? with
    | none=>rw[e]at hv;cases hv
    | some x=>rw[e]at hv;cases hv;exact⟨x,rfl,rfl⟩
   have xm:=dM Y;obtain⟨xl,zO⟩:=a8 x xm;have b4:=bA xa;have aR:i<cm.length:=(dg.mp Y).1;refine⟨sm _ _ a6,j.UT.cl,j.UT.nH,t3,?_⟩;refine⟨sm _ _ D6,an.same sm,by omega,(zR x).mp xm,sm _ _ Jz,hok,λp G=>(h3 p (pm p G)).nm,Dn,λr' H8 kp T6 lr nb=>?_⟩;refine⟨Ac,λl H9 n9 s9 e9=>?_⟩;have T7:=s9 _ _ (kp _ _ lV T3);have aO:TabSt H9 Pt fJ fo:=T6.same s9;have Kc:(Str.ofString "=").length<=sizeLine:=jF (by decide +kernel);refine⟨Kc,jF (by omega),x,rfl,fit (by decide +kernel) (by omega),?_⟩;refine⟨fB.k (k:=.inr (hJ x)) T7 (bY (by omega)),?_⟩;have l9:l≠d3:=(aH (kp _ _ lV T3) n9).symm;refine⟨_,cL kvs (.inr (hJ x)) (.ref l),bw tr (hJ x) [r'],rfl,λb o eb=>?_,TabSt.put T7 aO,aB,?_,jL Ka,b8 (jM tr _ _) (by omega),Dl Kb (λy hy=>by rw[bD.mp hy];exact lr),λk hk=>?_,λc hc=>?_⟩
   . have zF:b∉[Pt,d3]:=λz=>by
      unfold msk at eb;rw[ai z]at eb;cases eb
     simp only[aZ,fc,fe,mh]at zF;exact aw (s9 _ _ (kp _ _ (sm _ _ eb) zF.1)) zF.2
   . have l0:H l=none:=by
      cases hz:H l with
      | none=>rfl
      | some o=>
       have lP:l≠Pt:=λz=>by
        obtain⟨φ,w⟩:=TabSt.at T6;rw[z,w]at n9;cases n9
       rw[kp _ _ (sm _ _ (dd (sf _ _ hz) lP (aH hz se))) lP]at n9;cases n9
     refine je (tk _) ⟨rfl,l,rfl,l0,aw e9 l9⟩ (av xa λkv f z=>?_);obtain⟨z1,l',z2,z0,J⟩:=z;exact⟨z1,l',z2,z0,aw (s9 _ _ (kp _ _ J (TabSt.ne Dn J (by intro φ z;cases z)))) (be J lV (by intro z;cases z))⟩
   . rw[r9 Y]at hk;rw[uL,ag λz=>hk x (eX _ (bD.mpr rfl)) z.symm];exact zT k λc hc=>hk c (vf _ hc)
   rw[uL]
   by_cases z:hJ x=hJ c
   . rw[ai z,<-anw z];exact⟨r',rfl,nb⟩
   rw[ag z];rw[r9 Y]at hc
   rcases bR.mp hc with hc | hc
   . exact zU c hc
   exact absurd (by rw[bD.mp hc]) z
 intro Z H7 gX;obtain⟨u',kvs,tr,rfl,sm,Dn,lV,xa,Ka,l7,Kb,zT,zU⟩:=gX;rw[aj]at l7 zT zU;rw[ff]at zT zU;exact⟨q d3 H7 kvs tr se (λb o eb nb=>sm _ _ (dd (sf _ _ eb) nb (aH eb se))) Dn lV xa Ka (by omega) Kb ⟨px,aK,⟨pn,λp G=>⟨pm p G,pc p G⟩⟩,g2,λk hk=>zT k λc hc=>hk c ((zR c).mp hc),λc hc=>by rw[<-anL TZ];exact zU c ((zR c).mpr hc)⟩⟩
end
section
seal PE PS cf PA PT PW PG gf PI fW
theorem T8{K:Fg}{g:TG}{tb:TS}{D:Ends}{Z:L2.St}{H:Hp}(J:ac K H a [])(hd:D.nx Z H) :
 ∃W:Nat->Nat->L2.St->Hp->Prop,(∃m,W 0 m Z H)/\∀i m Z H,W i m Z H ->
  ((yQ K a).stop i H/\D.nx Z H)\/((yQ K a).go i H/\∃N:L2.St->Hp->Prop,(∀σ' H',N σ' H'->∃m',m'<m/\W (i+1) m' σ' H')/\∀x H',(yQ K a).yld i H x H'->g x Z H' λσ2 H2=>tb { D with nx:=N,ct:=N,bk:=D.nx } σ2 H2):=
 ⟨λi m σ' H'=>i=0/\σ'=Z/\H'=H,⟨0,rfl,rfl,rfl⟩,λi m σ' H' j=>j.elim λe1 G=>G.elim λe2 e3=>by subst e1 e2 e3;exact .inl ⟨⟨[],J,aG _⟩,hd⟩⟩
theorem T9{X:Cx}(K:Fg){es:List Expr}{k:Nat}{pos:Pos}{t:mZ}{n:Nat}(J:X.calm=true)(h:gf X es t)(G:X.K=K:=by rfl)
 (O:(assignEach es X.env).length=n:=by rfl) (j:(assignEach es X.env).findIdx? (·.1)=none:=by rfl):PG X (.Tuple es k pos) (tw K n t):=G▸m9 J h O j
theorem sj{H H2:Hp}{o:HO}(n:H p=none)(s:aa H H2):aa H (upd H2 p o):=λb u e=>aw (s _ _ e) (aH e n)
abbrev sk (p:cb):Ls:=p.fs.map (·.1)
inductive Ua (C:Addr):Sp where
 | mk {H:Hp}{Q:VK}{E:XK}{v:V}{p:cb} (_:jy C H v p) (_:p.fs.length<=100) (_:d5 H (.lst ((sk p).map V.str)) Q):Ua C [v] H Q E
theorem aoc:aN [ayf] [ayf] (au HF):=aV
theorem Ub(G:Pg K mg base Pt):aA P w K mg base aJ 1 G.PaO.f G.PaO.fd [ayf] (Ua G.C):=by
 refine G.PaO.u.okL aoc ?_;intro ar A outer s H vs Q E hr h xX dX;obtain @⟨_,_,_,v,p,⟨a,dx,fl,rk,m,pf,pn,ps,po,xs,rfl,hA,hF,hM,jR,lR,_⟩,CQ,q⟩:=h;have hl:=bA lR;refine⟨_,(al (aT (gE [aye,ayu] [] [] eF rfl (cU (bK (pv 0) rfl)) (λ_ _ _ _=>(T9 (n:=2) K rfl (fM (bf (i:=0) (show List.Nodup ([aye,ayu]:Ls) by decide +kernel) rfl (Or.inl rfl)) (fM (bf (i:=1) (show List.Nodup ([aye,ayu]:Ls) by decide +kernel) rfl (Or.inl rfl)) mv)))) (λ_ _ _ _=>gQ) (λ_ _ _ _=>(pv 0))))),?_⟩;refine⟨hA,G.TC.cl,G.TC.nF,hF.files,⟨_,ac.of jR⟩,?_⟩;intro D U;refine alM (σ0:=[none,none]) U (ac.of jR) (λZ=>∃u v,Z=[u,v]) (λj zs _=>zs=((sk p).take j).map V.str) ⟨_,_,rfl⟩ rfl ?_ ?_
 . rintro j y zs Z H3 k hy ⟨u,v,rfl⟩ J O rfl fE;obtain⟨f,Y,t,l,rfl,f1,f2⟩:=eN lR hy;have aO:=(dg.mp Y).1;have Go:(sk p)[j]?=some f.1:=by rw[dN,Y];rfl
   refine⟨aX.of (O _ _ f1),rfl,rfl,?_⟩;refine⟨fE _ _ _ ⟨_,_,rfl⟩ (aa.refl _) (bY (by rw[aj,eR];omega)) ?_⟩;rw[r9 Go,dP];rfl
 rintro zs H3 J O rfl;have e:(sk p).take xs.length=sk p:=X3 (by rw[aj];omega);rw[e]at J;exact q D H3 U O J
inductive zV (C:Addr):Sp where
 | mk {H:Hp}{Q:VK}{E:XK}{v:V}{a:Addr}{xs:Lv}{p:cb}{ps:Lp} (_:jy C H v p) (_:H a=some (.lst xs)) (_:dY C H xs ps) (_:ps.length<=9) (_:p.fs.length<=9) (_:(∀o∈ps,o.fs.length<=9)) (_:(∀o∈ps,o.nm≠p.nm->∀x∈sk p,x∉sk o)) (_:d5 H (.lst []) Q):zV C [v,.ref a] H Q E
theorem Do:aN [ayf,ayg,"faults","number","claim"] [ayf,ayg] (au HC):=aV
theorem aod(j:Pg K mg base Pt):aA P w K mg base aJ 1 j.NFa.f j.NFa.fd [ayf,ayg] (zV j.C):=by
 refine j.NFa.u.okL Do ?_;intro ar A outer s H vs Q E hr h xX dX;obtain @⟨_,_,_,v,a,xs,p,ps,⟨b,dx,fl,rk,m,pf,pn,jA,po,fx,rfl,O,U,hM,jR,lR,hO,hR,J,_⟩,ha,bG,l1,l2,l3,l4,q⟩:=h;refine⟨_,(ah (aI (i:=2) Do.nd rfl (Or.inl rfl) (db dG))
  (ah (eK dZ rfl (QH (by rfl) j.B.enumerate (ao (bK (pv 0) rfl))) (m9 rfl (fM (bf (i:=3) Do.nd rfl (Or.inl rfl)) (fM (bf (i:=4) Do.nd rfl (Or.inl rfl)) mv)))
  EK)
  (al (aT (pv 2))))),?_⟩
 refine i9 ?_
 intros
 refine⟨Ab,λY H1 n1 G e1=>?_⟩;refine⟨G _ _ O,j.TC.cl,j.TC.nE,U.needs,pn,rfl,⟨_,ac.of (G _ _ J)⟩,?_⟩;exact T8 (ac.of (G _ _ J)) ⟨q Y H1 n1 G e1⟩
theorem zX:aN [ayf,ayg,ay4,"faults","number","claim"] [ayf,ayg] (au HD):=aV
theorem aoe(G:Pg K mg base Pt):aA P w K mg base aJ 1 G.SFa.f G.SFa.fd [ayf,ayg] (zV G.C):=by
 refine G.SFa.u.okL zX ?_;intro ar A outer s H vs Q E hr h xX dX;obtain @⟨_,_,_,v,a,xs,p,ps,⟨b,dx,fl,rk,m,pf,pn,jA,po,fx,rfl,Y,hF,hM,jR,lR,hO,hR,_,zW⟩,ha,U,l1,l2,l3,l4,q⟩:=h;have a0:=bA U;refine⟨_,(ah (qW (i:=2) [ayx] [ayf] [0] zX.nd rfl rfl eF rfl (cU (pv 1)) (λ_ _ _ _=>(bf (i:=0) (show List.Nodup ([ayx,ayf]:Ls) by decide +kernel) rfl (Or.inl rfl))) (λ_ _ _ _=>o9 (bS Nw (i8 K (pv 0) rfl) (i8 K (pv 1) rfl) (bJ _))) (λ_ _ _ _=>(pv 0)))
  (ah (aI (i:=3) zX.nd rfl (Or.inl rfl) (db dG))
  (ah (eK dZ rfl (QH (by rfl) G.B.enumerate (ao (bK (pv 0) rfl))) (m9 rfl (fM (bf (i:=4) zX.nd rfl (Or.inr rfl)) (fM (bf (i:=5) zX.nd rfl (Or.inl rfl)) mv)))
  EK)
  (al (aT (pv 3)))))),?_⟩
 refine lI ?_
 intros
 refine⟨⟨_,ac.of ha⟩,?_⟩;intro D hD;refine rN (σ0:=[none,some (.ref b)]) hD (ac.of ha) (λZ=>∃v,Z=[v,some (.ref b)]) (λj zs _=>zs.length<=j) ⟨_,rfl⟩ (aG _) ?_ ?_
 . rintro j y zs Z H3 k k' hy ⟨v,rfl⟩ dJ J zl fE jB;obtain⟨o,ho,hE⟩:=eN U hy;have aO:=(dg.mp ho).1;obtain⟨b',wV,rp,CZ,m',Uc,Ud,Ue,Uf,Ug,rfl,Dp,Dq,_⟩:=id hE;refine⟨J _ _ Dp,G.TC.cl,G.TC.nN,Dq.name,J _ _ Y,G.TC.cl,G.TC.nN,hF.name,rfl,⟨?_⟩⟩;refine bu (λh=>?_) (λh=>?_)
   . exact⟨fE _ _ _ ⟨_,rfl⟩ (aa.refl _) (bY (by omega)) (by rw[bI,kW];omega)⟩
   exact jB _ _ ⟨_,rfl⟩ (aa.refl _) (by omega)
 rintro zs H3 dJ J zl;refine bq ?_;intro tT;refine⟨Ab,λp1 H1 n1 s1 e1=>?_⟩;have O:=J.trans s1;refine⟨O _ _ Y,G.TC.cl,G.TC.nS,hF.shuts,jA,rfl,⟨_,ac.of (O _ _ zW)⟩,?_⟩;exact T8 (ac.of (O _ _ zW)) ⟨q p1 H1 (J.free n1) O e1⟩
theorem Aa:aN [ayf,ayg,ay4,"faults",ayx,"paths"] [ayf,ayg] (au HE):=aV
theorem aof(G:Pg K mg base Pt):aA P w K mg base aJ 2 G.CFa.f G.CFa.fd [ayf,ayg] (zV G.C):=by
 refine G.CFa.u.okL Aa ?_;intro ar A outer s H vs Q E hr h xX dX;obtain @⟨_,_,_,v,a,xs,p,ps,hP,ha,bG,l1,l2,l3,l4,q⟩:=h;obtain⟨b,dx,fl,rk,m,pf,pn,jA,po,fx,rfl,hA,hF,_⟩:=id hP;have a2:=bA bG;refine⟨_,(ah (qW (i:=2) [ayx] [ayf] [0] Aa.nd rfl rfl eF rfl (cU (pv 1)) (λ_ _ _ _=>(bf (i:=0) (show List.Nodup ([ayx,ayf]:Ls) by decide +kernel) rfl (Or.inl rfl))) (λ_ _ _ _=>o9 (bS QI (i8 K (pv 0) rfl) (i8 K (pv 1) rfl) (bJ _))) (λ_ _ _ _=>(pv 0)))
  (ah (aI (i:=3) Aa.nd rfl (Or.inl rfl) (db dG))
  (ah (eK dZ rfl (cU (pv 2)) (bf (i:=4) Aa.nd rfl (Or.inr rfl))
  (ah (aI (i:=5) Aa.nd rfl (Or.inr rfl) (aF (Ub G) hr rfl (ao (pv 4))))
   (al (cp (dH iT qF qG nw (pv 3) (ao (gE [aye] [ayf,ayx,"paths"] [0,4,5] eF rfl (cU (aF (Ub G) hr rfl (ao (pv 0)))) (λ_ _ _ _=>(bf (i:=0) (show List.Nodup ([aye,ayf,ayx,"paths"]:Ls) by decide +kernel) rfl (Or.inl rfl))) (λ_ _ _ _=>o9 (bS (O7 K) (pv 0) (pv 3) (by rfl))) (λ_ _ _ _=>(eT (q5 bO (i8 K (pv 1) rfl) (i8 K (pv 2) rfl) (pv 0)))))))))))
  (al (aT (pv 3)))))),?_⟩
 refine lI ?_
 intros
 refine⟨⟨_,ac.of ha⟩,?_⟩;intro D hD;refine rN (σ0:=[none,some (.ref b)]) hD (ac.of ha) (λZ=>∃v,Z=[v,some (.ref b)]) (λj zs _=>zs.length<=j/\∃os,dY G.C H zs os/\∀o∈os,o∈ps/\o.nm≠p.nm) ⟨_,rfl⟩ ⟨aG _,[],.nil,λ_ h=>nomatch h⟩ ?_ ?_
 . rintro j y zs Z H3 k k' J ⟨v,rfl⟩ dJ h3 ⟨zl,os,zp,zo⟩ fE jB;obtain⟨o,Y,U⟩:=eN bG J;have aO:=(dg.mp Y).1;obtain⟨b',wV,rp,CZ,m',Uc,Ud,Ue,Uf,Ug,rfl,Dp,Dq,_⟩:=id U;refine⟨h3 _ _ Dp,G.TC.cl,G.TC.nN,Dq.name,h3 _ _ hA,G.TC.cl,G.TC.nN,hF.name,_,_,rfl,rfl,⟨?_⟩⟩;refine bu (λh=>?_) (λh=>?_)
   . refine⟨fE _ _ _ ⟨_,rfl⟩ (aa.refl _) (bY (by omega)) ⟨by rw[bI,kW];omega,os++[o],jK U zp,λo' iy=>?_⟩⟩
     rcases bR.mp iy with z | z
     . exact zo o' z
     rw[bD.mp z];refine⟨dM Y,λe=>?_⟩;have h:=cH h;rw[e]at h;exact Yt _ h
   exact jB _ _ ⟨_,rfl⟩ (aa.refl _) ⟨by omega,os,zp,zo⟩
 rintro oz H0 d0 s0 ⟨zl,os,a1,zo⟩;refine bq ?_;intro tT;refine⟨Ab,λp1 H1 n1 s1 e1=>?_⟩;refine⟨⟨_,ac.of (s1 _ _ d0)⟩,?_⟩;have zY:=s0.trans s1;refine ib (xs:=oz) (λi Z H2=>∃u v,Z=[some (.ref b),some (.ref a),some (.ref D),some (.ref p1),u,v]/\aa H0 H2/\H2 p1=some (.lst [])) ⟨none,none,rfl,s1,e1⟩ ?_ ?_ ?_
 . rintro i Z H2 hi ⟨u,v,rfl,O,e2⟩;exact ac.of (O _ _ d0)
 . intro i z Z H2 hz hQ;refine bq ?_;intro tT;obtain⟨u,v,rfl,O,e2⟩:=hQ;obtain⟨o,Y,U⟩:=eN a1 hz;obtain⟨om,on⟩:=zo o (dM Y);have lo:=l3 o om;obtain⟨b',wV,rp,CZ,m',Uc,Ud,Ue,Uf,Ug,rfl,Dp,Dq,_⟩:=id U;have Uh:=s0.trans O;refine⟨U.same Uh,by omega,λl5 H5 n5 s5 e5=>?_⟩;have sq:=Uh.trans s5;refine⟨.inl ⟨rfl,_,ac.of (s5 _ _ e2)⟩,hP.same sq,by omega,λl6 H6 n6 s6 e6=>⟨⟨_,ac.of e6⟩,?_⟩⟩;intro D7 su;refine rN (σ0:=[none,some (.ref b),some (.ref b'),some (.ref l5)]) su (ac.of e6) (λZ=>∃v,Z=[v,some (.ref b),some (.ref b'),some (.ref l5)]) (λj kM H7=>kM=[]) ⟨_,rfl⟩ rfl ?_ ?_
   . rintro j y kM Z H7 k k' J ⟨v,rfl⟩ lV h7 rfl fE jB;rw[dN]at J;cases hx:(sk p)[j]? with
     | none=>rw[hx]at J;cases J
     | some x=>
      rw[hx]at J;cases J;refine⟨.inl (ac.of (h7 _ _ (s6 _ _ e5))),rfl,zE _,⟨?_⟩⟩;refine bu (λh=>?_) (λh=>?_)
      . exact absurd (zJ.mp h) (l4 o om on x (dM hx))
      exact jB _ _ ⟨_,rfl⟩ (aa.refl _) rfl
   rintro kM H7 lV h7 rfl;have uP:=s5.trans (s6.trans h7);have a0:=uP _ _ e2;refine⟨a0,lV,by decide,?_⟩;exact⟨_,_,rfl,sj n1 (O.trans uP),aB⟩
 rintro Z H2 ⟨u,v,rfl,O,e2⟩;exact⟨q p1 H2 (s0.free n1) (s0.trans O) e2⟩
inductive Ui (C S:Addr):Sp where
 | mk {H:Hp}{Q:VK}{E:XK}{j:V}{c:Addr}{xs:Lv}{ps:Lp}{ch:Ch}{ns:Ls} (_:jz S H j xs ps) (_:dY C H xs ps) (_:Apart ns ps) (_:de H c ch) (_:pK xs ps ch) (_:ch.length<=4) (_:d5 H (.lst []) Q):Ui C S [j,.ref c] H Q E
theorem Dr:aN [ayd,ayh,ayg,"faults",ayf] [ayd,ayh] (au HA):=aV
theorem aoi(j:Pg K mg base Pt):aA P w K mg base aJ 3 j.FaO.f j.FaO.fd [ayd,ayh] (Ui j.C j.S):=by
 refine j.FaO.u.okL Dr ?_;intro ar A outer s H vs Q E O h xX dX;obtain @⟨_,_,_,sv,c,xs,ps,ch,ns,hS,hP,Y,hc,hV,h4,q⟩:=h;refine⟨_,(ah (aI (i:=2) Dr.nd rfl (Or.inl rfl) (aF (I9 j) O rfl (aL (pv 0) (pv 1))))
  (ah (aI (i:=3) Dr.nd rfl (Or.inl rfl) (db dG))
  (ah (eK dZ rfl (cU (pv 2)) (bf (i:=4) Dr.nd rfl (Or.inl rfl))
  (ah (cp (dH iT qF qG nw (pv 3) (ao (aF (aod j) O rfl (aL (pv 4) (pv 2))))))
   (ah (cp (dH iT qF qG nw (pv 3) (ao (aF (aoe j) O rfl (aL (pv 4) (pv 2))))))
   (al (cp (dH iT qF qG nw (pv 3) (ao (aF (aof j) O rfl (aL (pv 4) (pv 2))))))))))
  (al (aT (c8 ae4 (by rfl) j.B.sorted vm (ao (pv 3)))))))),?_⟩
 refine lI ?_
 intros
 refine⟨hS,hc,hV,by omega,λD H1 kD px n1 s1 e1 pr pn pc=>?_⟩;have wZ:=Jb (hP.same s1) pr;have pm:=Jc pr;have dQ:px.length<=4:=by
  have e:=pn.length_eq;rw[aj,aj]at e;omega
 refine⟨Ab,λG H2 n2 s2 e2=>?_⟩;refine⟨⟨_,ac.of (s2 _ _ e1)⟩,?_⟩;refine ib (xs:=kD) (λi Z H3=>∃u,Z=[some sv,some (.ref c),some (.ref D),some (.ref G),u]/\aa H1 H3/\H3 G=some (.lst [])) ⟨none,rfl,s2,e2⟩ ?_ ?_ ?_
 . rintro i Z H3 hi ⟨u,rfl,s3,e3⟩;exact ac.of (s3 _ _ e1)
 . intro i z Z H3 hz hQ;refine bq ?_;intro tT;obtain⟨u,rfl,s3,e3⟩:=hQ;obtain⟨p,hp,hE⟩:=eN wZ hz;have pp:=pm p (dM hp);have go:∀{J:Hp}{Q:VK},aa H1 J->d5 J (.lst []) Q->zV j.C [z,.ref D] J Q E0:=λ{J Q} sx q=>⟨hE.same sx,sx _ _ e1,wZ.same sx,by omega,by have:=(Y.ok p pp).1;omega,λo ho=>by have:=(Y.ok o (pm o ho)).1;omega,λo ho ne x hx jo=>ne (Y.one o (pm o ho) p pp x jo hx),q⟩;refine⟨.inl ⟨rfl,_,ac.of e3⟩,⟨⟨go s3 λD4 H4 n4 U e4=>?_⟩⟩⟩;have m4:aa H1 (upd H4 G (.lst ([]++[]))):=sj n2 (s3.trans U);refine⟨U _ _ e3,e4,by decide,?_⟩;refine⟨.inl ⟨rfl,_,ac.of aB⟩,⟨⟨go m4 λD5 H5 n5 s5 e5=>?_⟩⟩⟩;have m5:aa H1 (upd H5 G (.lst (([]++[])++[]))):=sj n2 (m4.trans s5);refine⟨s5 _ _ aB,e5,by decide,?_⟩;refine⟨.inl ⟨rfl,_,ac.of aB⟩,⟨⟨go m5 λD6 H6 n6 s6 e6=>?_⟩⟩⟩;refine⟨s6 _ _ aB,e6,by decide,?_⟩;exact⟨_,rfl,sj n2 (m5.trans s6),aB⟩
 rintro Z H3 ⟨u,rfl,s3,e3⟩;refine⟨G,[],rfl,ac.of e3,by decide,λbU a0 srt p4 H4 n4 U e4=>?_⟩;have ey:bU=[]:=a0.eq_nil;subst ey;exact q p4 H4 (s1.free (s3.free n4)) (s1.trans (s3.trans U)) e4
inductive Uj (C S:Addr):Sp where
 | mk {H:Hp}{Q:VK}{E:XK}{j:V}{c:Addr}{xs:Lv}{ps:Lp}{ch:Ch}{ns:Ls} (_:jz S H j xs ps) (_:dY C H xs ps) (_:Apart ns ps) (_:de H c ch) (_:pK xs ps ch) (_:ch.length<=4) (_:∀H',aa H H'->Q (.bl true) H'):Uj C S [j,.ref c] H Q E
theorem aok:aN [ayd,ayh] [ayd,ayh] (au HB):=aV
theorem aol(j:Pg K mg base Pt):aA P w K mg base aJ 4 j.Sou.f j.Sou.fd [ayd,ayh] (Uj j.C j.S):=by
 refine j.Sou.u.okL aok ?_;intro ar A outer s H vs Q E hr h xX dX;obtain @⟨_,_,_,sv,c,xs,ps,ch,ns,U,O,G,hc,Y,J,q⟩:=h;refine⟨_,(al (aT (oN fO (c8 ig (by rfl) j.B.len gA (ao (aF (aoi j) hr rfl (aL (pv 0) (pv 1))))) am (bJ _)))),?_⟩;exact⟨U,O,G,hc,Y,J,λr H1 n1 s1 e1=>⟨r,_,rfl,.inl (ac.of e1),rfl,q H1 s1⟩⟩
variable {H:Hp}{xs:Lv}{ps:Lp}{ns:Ls}{v:V}{A:List Addr}{n:Str}
structure lW(C S:Addr)(H:Hp)(sv:V)(xs:Lv)(ps:Lp)(ns:Ls):Prop where
 sh:jz S H sv xs ps
 pc:dY C H xs ps
 ap:Apart ns ps
 n4:ns.length<=4
 nm:∀n∈ns,cR n
theorem lW.same{H':Hp}{j:V}(h:lW C S H j xs ps ns)(s:aa H H'):lW C S H' j xs ps ns:=⟨h.sh.same s,h.pc.same s,h.ap,h.n4,h.nm⟩
theorem lW.pcok{U:V}(h:lW C S H U xs ps ns):∀p∈ps,TW ns p:=λp j=>by
 obtain⟨a,b,c⟩:=h.ap.ok p j;obtain⟨d,e⟩:=h.ap.offs p j;exact⟨a,λf J=>⟨by have:=(b f J).2.2;omega,λx O=>((b f J).2.1 x O).ln⟩,d,(h.nm _ (h.ap.nms p j)).ln,λt G=>⟨⟨(h.nm t (e t G)).ln,by have:=(h.nm t (e t G)).hi;omega⟩,e t G⟩⟩
structure eY(xs:Lv)(ps:Lp)(ch:Ch):Prop where
 nd:(ch.map (·.1)).Nodup
 va:pK xs ps ch
theorem Kd{p:cb}(h:uB xs ps v p):p∈ps:=h.elim λ_ j=>j.elim λa _=>dM a
theorem eY.len{ch:Ch}(h:eY xs ps ch)(a:Apart ns ps)(J:ns.length<=4):ch.length<=4:=by
 have:=kE h.nd λx G=>by
  obtain⟨e,j,rfl⟩:=cC.mp G;obtain⟨v,p,hi,e1,_⟩:=h.va e j;exact e1▸a.nms p (Kd hi)
 rw[aj]at this;omega
theorem aon{β:Type}{j now:List (Str×β)}{x:Str}{e:Str×β}(h:e∈bQ j now x):e∈now\/e∈j:=by
 unfold bQ at h;split at h
 . rename_i m G
   rcases mJ h with z | z
   . right;rw[z];exact jV G
   exact .inl z
 exact .inl (jk.mp h).1
theorem eY.step{now j:Ch}(h:eY xs ps now)(g:eY xs ps j)(x:Str):eY xs ps (bQ j now x):=⟨Tb h.nd,λe G=>(aon G).elim (h.va e) (g.va e)⟩
theorem eY.steps{j:Ch}(g:eY xs ps j):∀{us:Ls}{now:Ch},eY xs ps now->eY xs ps (us.foldl (bQ j) now)
 | [],_,h=>h
 | x::us,_,h=>eY.steps g (us:=us) (h.step g x)
theorem de.mut{zs U:Lv}{ch:Ch}(j:H D=some (.lst zs))(h:de H c ch):de (upd H D (.lst U)) c ch:=by
 obtain⟨kvs,h1,h2⟩:=h;exact⟨kvs,aw h1 (be h1 j (by intro z;cases z)),av h2 λkv e G=>G.elim λa J=>J.elim λm O=>O.elim λb c=>⟨a,m,b,aw c (be c j (by intro z;cases z))⟩⟩
theorem Ke{kvs:List (ak×V)}{fs:Ch}(h:Paired (dA H) kvs fs)(nd:(fs.map (·.1)).Nodup)(p:Str):(look fs p=none/\bg kvs (.inr p)=none)\/(∃m t,look fs p=some m/\bg kvs (.inr p)=some (.ref t)/\H t=some (.tup (m.map V.int))):=by
 have G:∀kv f,dA H kv f->kv.1=Sum.inr f.1:=λkv f z=>z.1
 by_cases j:p∈fs.map (·.1)
 . obtain⟨v,m,e,J,r⟩:=mK G h j;obtain⟨_,t,e2,e3⟩:=r;have e2:v=.ref t:=e2;exact .inr ⟨m,t,lU nd J,by rw[e,e2],e3⟩
 exact .inl ⟨gy.mpr j,rA G h j⟩
def Kf:Oi->W.Dat
 | none=>.none
 | some m=>dI m
theorem aor{a b:Oi}(h:Kf a=Kf b):a=b:=by
 cases a with
 | none=>
  cases b with
  | none=>rfl
  | some y=>cases h
 | some x=>
  cases b with
  | none=>cases h
  | some y=>rw[Sq.mp h]
def iM(A:List Addr)(H:Hp)(v:V)(n:Str):Prop:=∃l,v=.ref l/\l∉A/\H l=some (.lst [.str n])
theorem iM.same{H':Hp}(s:aa H H')(h:iM A H v n):iM A H' v n:=h.elim λl j=>j.elim λa G=>G.elim λb c=>⟨l,a,b,s _ _ c⟩
theorem iM.mut(j:D∈A){o:HO}(h:iM A H v n):iM A (upd H D o) v n:=by
 obtain⟨l,a,b,c⟩:=h;exact⟨l,a,b,by rw[aQ (show l≠D from λz=>b (by rw[z];exact j))];exact c⟩
theorem iM.sub{B:List Addr}(hs:∀x∈B,x∈A)(h:iM A H v n):iM B H v n:=h.elim λl j=>j.elim λa G=>G.elim λb c=>⟨l,a,λz=>b (hs l z),c⟩
abbrev aow:Sp:=Db dA λ_=>True
theorem Uk(j:Pg K mg base Pt):aA P w K mg base aJ 1 j.KUn.f j.KUn.fd [ayI,ayH] aow:=
 Tj (Fv:=dA) (OK:=λ_=>True) (dat:=Kf) (λ_ _ _ z=>z.1) (λs z=>dA.same s z) aor (λh nd _ p=>by
  rcases Ke h nd p with⟨e1,e2⟩ | ⟨m,t,e1,e2,e3⟩
  . rw[e1,e2];exact⟨.non,rfl⟩
  rw[e1,e2];exact⟨zC e3,uC 8 m⟩) j
inductive Ul:Sp where
 | mk {H:Hp}{Q:VK}{E:XK}{a b c:Addr}{now j:Ch}{x:Str} (_:de H a now) (_:de H b j) (_:(now.map (·.1)).Nodup) (_:(j.map (·.1)).Nodup) (_:H c=some (.lst [.str x])) (_:now.length<=50) (_:∀r H',H r=none->aa H H'->de H' r (bQ j now x)->Q (.ref r) H'):Ul [.ref a,.ref b,.ref c] H Q E
theorem Kg:aN [ayL,ayz,ayN,ayY,ayj] [ayL,ayz,ayN] (au HQ):=aV
theorem Kh(O:Pg K mg base Pt):aA P w K mg base aJ 1 O.Beh.f O.Beh.fd [ayL,ayz,ayN] Ul:=by
 refine O.Beh.u.okL Kg ?_;intro ar A outer s H vs Q E hr h xX dX;obtain @⟨_,_,_,a,b,c,now,Y,x,⟨kn,hn,pn⟩,⟨kg,hg,pg⟩,JL,JM,hc,hl,q⟩:=h;have J:=hr.units;refine⟨_,(ah (aI (i:=3) Kg.nd rfl (Or.inl rfl) (dR vO (by rfl) O.B.dict AY (ao (pv 0))))
  (ah (eK dZ rfl (cU (pv 2)) (bf (i:=4) Kg.nd rfl (Or.inl rfl))
  (al (cg (oH (tN J (pv 4) (pv 1)) (by rfl))
   (al (iC J (pv 3) (pv 4) (oV J (pv 1) (pv 4) (λ_ _=>rfl)) rfl)) (al (cg (oH (tN J (pv 4) (pv 3)) (by rfl))
    (al (cp (Br (pv 3) (pv 4) ⟨rfl,rfl,rfl,rfl⟩))) cZ)))))
  (al (aT (pv 3))))),?_⟩
 refine i9 ?_;intro dD sS gs eh;have pl:=bA pn;have hk:∀kv f,dA H kv f->kv.1=Sum.inr f.1:=λkv f z=>z.1;refine⟨a,_,rfl,hn,λp1 H1 n1 s1 e1=>?_⟩;refine⟨⟨_,ac.of (s1 _ _ hc)⟩,?_⟩;refine ib (xs:=[.str x]) (λi Z H2=>∃u kvs,Z=[some (.ref a),some (.ref b),some (.ref c),some (.ref p1),u]/\aa H H2/\H2 p1=some (.dK kvs)/\Paired (dA H) kvs (if i=0 then now else bQ Y now x)) ⟨none,kn,rfl,s1,e1,pn⟩ ?_ ?_ ?_
 . rintro i Z H2 hi ⟨u,kvs,rfl,j,_⟩;exact ac.of (j _ _ hc)
 . intro i x' Z H2 hx hQ;refine bq ?_;intro tT;obtain⟨u,kvs,rfl,j,e2,p2⟩:=hQ;have i0:i=0:=by have:=(dg.mp hx).1;simpa using this
   subst i0;cases hx;rw[ai rfl]at p2;have kl:=bA p2;have Dt:=j _ _ hg;refine⟨_,cn.k (k:=.inr x) Dt,⟨?_⟩⟩
   rcases Ke pg JM x with⟨U,G⟩ | ⟨m,t,U,G,g3⟩
   . rw[G];refine eL ?_;have es:bQ Y now x=eB now x:=by unfold bQ;rw[U]
     refine⟨_,cn.k (k:=.inr x) e2,⟨?_⟩⟩
     rcases Ke p2 JL x with⟨k1,k2⟩ | ⟨m,t,k1,k2,k3⟩
     . rw[k2];refine eL ⟨_,kvs,rfl,j,e2,?_⟩;rw[ag (by decide),es,zM (gy.mp k1)];exact p2
     rw[k2];refine gm ⟨.inl ⟨_,.inl e2⟩,kvs,.inr x,.ref t,e2,rfl,k2,?_⟩;refine⟨_,_,rfl,sj n1 j,aB,?_⟩;rw[ag (by decide),es];exact zL hk p2
   rw[G];refine gm ⟨by rw[<-G];exact cn.k (k:=.inr x) Dt,fB.k (k:=.inr x) e2 (bY (by omega)),?_⟩;refine⟨_,_,rfl,sj n1 j,aB,?_⟩;have es:bQ Y now x=bw now x m:=by unfold bQ;rw[U]
   rw[ag (by decide),es];exact je hk ⟨rfl,t,rfl,g3⟩ p2
 rintro Z H2 ⟨u,kvs,rfl,j,e2,p2⟩;rw[ag (by simp)]at p2;exact⟨q p1 H2 n1 j ⟨kvs,e2,av p2 λ_ _=>dA.same j⟩⟩
inductive Um:Sp where
 | mk {H:Hp}{Q:VK}{E:XK}{a b z:Addr}{names:Ls} (_:H a=some (.lst [.ref z])) (_:H z=some (.lst [])) (_:H b=some (.lst (names.map V.str))) (_:names.length<=50) (_:∀l ys H',H l=none->aa H H'->H' l=some (.lst ys)->Paired (iM [] H') ys names->Q (.ref l) H'):Um [.ref a,.ref b] H Q E
theorem Ki:aN [ay5,ayX,"larger",ayN] [ay5,ayX] (au HS):=aV
theorem aox(zZ:Pg K mg base Pt):aA P w K mg base aJ 1 zZ.Wom.f zZ.Wom.fd [ay5,ayX] Um:=by
 refine zZ.Wom.u.okL Ki ?_;intro ar A outer s H vs Q E hr h xX dX;obtain @⟨_,_,_,a,b,z,names,ha,hz,hb,n1,q⟩:=h;refine⟨_,(ah (aI (i:=2) Ki.nd rfl (Or.inl rfl) (db dG))
  (ah (eK dZ rfl (cU (pv 0)) (bf (i:=3) Ki.nd rfl (Or.inr rfl))
  (al (cp (dH iT qF qG nw (pv 2) (ao (gE [ayj] [ayN] [3] eF rfl (cU (pv 1)) (λ_ _ _ _=>(bf (i:=0) (show List.Nodup ([ayj,ayN]:Ls) by decide +kernel) rfl (Or.inl rfl))) (λ_ _ _ _=>o9 (PW.pt (yc (bS fO (c8 (aeE K) (by rfl) zZ.B.len gA (ao (pv 1))) am (bJ _)) (Ba (bS QI (pv 0) (bP (FS K) (pv 1) (vy vA am) (λ_ _=>rfl)) (bJ _)))))) (λ_ _ _ _=>(aE vJ (pv 1) (db (ao (pv 0)))))))))))
  (al (aT (pv 2))))),?_⟩
 refine i9 ?_;intro dD sS gs eh;refine⟨Ab,λJ H1 Jg s1 e1=>?_⟩;refine⟨⟨_,ac.of (s1 _ _ ha)⟩,?_⟩;refine ib (xs:=[.ref z]) (λi Z H2=>∃u ys,Z=[some (.ref a),some (.ref b),some (.ref J),u]/\aa H H2/\H2 J=some (.lst ys)/\Paired (iM [J] H2) ys (if i=0 then [] else names)) ⟨none,[],rfl,s1,e1,.nil⟩ ?_ ?_ ?_
 . rintro i Z H2 hi ⟨u,ys,rfl,G,_⟩;exact ac.of (G _ _ ha)
 . intro i x Z H2 hx hQ;refine bq ?_;intro tT;obtain⟨u,ys,rfl,G,e2,p2⟩:=hQ;have i0:i=0:=by have:=(dg.mp hx).1;simpa using this
   subst i0;cases hx;cases p2;refine⟨.inl ⟨rfl,_,ac.of e2⟩,⟨_,ac.of (G _ _ hb)⟩,?_⟩;intro D hD;have nD:J≠D:=λz=>by rw[<-z,e2]at hD;cases hD
   refine rN (σ0:=[none,some (.ref z)]) hD (ac.of (G _ _ hb)) (λZ=>∃v,Z=[v,some (.ref z)]) (λj ws H3=>Paired (iM [D,J] H3) ws (names.take j)) ⟨_,rfl⟩ .nil ?_ ?_
   . rintro j y ws Z H3 k k' hy ⟨v,rfl⟩ dJ Y O fE jB;rw[dN]at hy;cases hn:names[j]? with
     | none=>rw[hn]at hy;cases hy
     | some n=>
      rw[hn]at hy;cases hy;have Uo:=Y _ _ (G _ _ hz);have wl:=bA O;rw[eR]at wl;refine⟨z,_,rfl,.inl (ac.of Uo),rfl,⟨gm (gm ⟨Ac,λp5 H5 n5 s5 e5=>?_⟩)⟩⟩;refine⟨s5 _ _ Uo,e5,(show 0+1<=sizeLine by decide),λp6 H6 n6 s6 e6=>?_⟩;have Up:=s5.trans s6;refine fE _ _ _ ⟨_,rfl⟩ Up (bY (by omega)) ?_;rw[r9 hn];refine jK (iM.mut (by simp) ⟨p6,rfl,?_,e6⟩) (av O λ_ _ z=>(z.same Up).mut (by simp));intro z;have U:H3 p6=none:=s5.free n6
      rcases aZ.mp z with e | e
      . rw[e,dJ]at U;cases U
      rw[bD.mp e]at U;have:=Y _ _ e2;rw[this]at U;cases U
   rintro ws H3 dJ Y O;rw[aj,ff]at O;have wl:=bA O;have a0:=Y _ _ e2;refine⟨a0,dJ,ky (by simp;omega),?_⟩;refine⟨_,_,rfl,sj Jg (G.trans Y),aB,?_⟩;rw[ag (by decide)];exact av O λ_ _ z=>(z.mut (D:=J) (by simp)).sub (by simp)
 rintro Z H2 ⟨u,ys,rfl,G,e2,p2⟩;rw[ag (by simp)]at p2;exact⟨q J ys H2 Jg G e2 (av p2 λ_ _ z=>z.sub (by simp))⟩
inductive Uq (C S:Addr):Sp where
 | mk {H:Hp}{Q:VK}{E:XK}{G:V}{a b c:Addr}{xs:Lv}{ps:Lp}{ns:Ls}{now j:Ch}{x:Str}{names:Ls} (_:lW C S H G xs ps ns) (_:de H a now) (_:de H b j) (_:eY xs ps now) (_:eY xs ps j) (_:H c=some (.lst ((x::names).map V.str))) (_:names.length<=40) (_:∀l H',aa H H'->H' l=some (.lst [.str x])->Q (.ref l) H'):Uq C S [G,.ref a,.ref b,.ref c] H Q E
theorem Ad:aN [ayd,ayL,ayz,ayX,ay5,"many",ayN] [ayd,ayL,ayz,ayX] (au HR):=aV
theorem aoz(G:Pg K mg base Pt):aA P w K mg base aJ 5 G.Fst.f G.Fst.fd [ayd,ayL,ayz,ayX] (Uq G.C G.S):=by
 refine G.Fst.u.okL Ad ?_;intro ar A outer s H vs Q E hr h xX dX;obtain @⟨_,_,_,sv,a,b,c,xs,ps,ns,now,a0,x,names,O,hA,hB,k1,k2,Y,a1,q⟩:=h;refine⟨_,(ah (aI (i:=4) Ad.nd rfl (Or.inl rfl) (db (ao (db dG))))
  (ah (eK dZ rfl (EO rfl G.B.range (aL am (c8 ig (by rfl) G.B.len gA (ao (pv 3))))) (bf (i:=5) Ad.nd rfl (Or.inl rfl))
  (ah (aI (i:=4) Ad.nd rfl (Or.inl rfl) (aF (aox G) hr rfl (aL (pv 4) (pv 3))))
   (al (eK dZ rfl (cU (pv 4)) (bf (i:=6) Ad.nd rfl (Or.inl rfl))
   (al (cg (mr (aF (aol G) hr rfl (aL (pv 0) (aF (Kh G) hr rfl (d6 (pv 1) (pv 2) (pv 6))))))
    (al (aT (pv 6))) cZ))))))
  (al (aT (pv 3))))),?_⟩
 refine i9 ?_;intro dD sS gs eh;refine⟨Ab,λp1 H1 n1 s1 e1=>?_⟩;refine⟨Ac,λp2 H2 n2 s2 e2=>?_⟩;have J:=s1.trans s2;have el:(((x::names).map V.str).length:Int)=1+(names.length:Int):=by rw[aj,cT];omega
 refine⟨c,_,rfl,.inl (ac.of (J _ _ Y)),⟨by omega,by omega,by omega,by omega⟩,?_⟩;refine vx (λi Z H3=>i=0/\Z=[some sv,some (.ref a),some (.ref b),some (.ref c),some (.ref p2),none,none]/\H3=H2) ⟨rfl,rfl,rfl⟩ ?_ ?_
 . rintro i Z H3 hi ⟨rfl,rfl,rfl⟩;refine bq ?_;intro tT;refine⟨e2,s2 _ _ e1,J _ _ Y,by rw[cT];omega,λl ys H4 n4 s4 e4 pr=>?_⟩;refine⟨⟨_,ac.of e4⟩,?_⟩;cases pr with
   | @cons y _ bU _ hy a2=>
   obtain⟨yl,rfl,_,Ur⟩:=hy;refine ib (xs:=.ref yl::bU) (λj Z U=>j=0/\Z=[some sv,some (.ref a),some (.ref b),some (.ref c),some (.ref l),some (.int (1+(0:Nat))),none]/\U=H4) ⟨rfl,rfl,rfl⟩ ?_ ?_ ?_
   . rintro j Z U hj ⟨rfl,rfl,rfl⟩;exact ac.of e4
   . rintro j z Z U hz ⟨rfl,rfl,rfl⟩;cases hz;have uK:=J.trans s4;have l4:=k1.len O.ap O.n4;refine⟨hA.same uK,hB.same uK,k1.nd,k2.nd,Ur,by omega,λr H6 n6 s6 c6=>?_⟩;have k3:=k1.step k2 x;have W6:=O.same (uK.trans s6);refine⟨W6.sh,W6.pc,W6.ap,c6,k3.va,k3.len O.ap O.n4,λH7 s7=>⟨gm ?_⟩⟩;exact⟨q yl H7 ((uK.trans s6).trans s7) ((s6.trans s7) _ _ Ur)⟩
   rintro Z U ⟨h,_⟩;exact absurd h (by simp)
 rintro Z H3 ⟨h,rfl,rfl⟩;have n0:names=[]:=xM.mp (by omega);rw[n0]at Y;exact⟨q c _ J (J _ _ Y)⟩
inductive Us (C S:Addr):Sp where
 | mk {H:Hp}{Q:VK}{E:XK}{G:V}{a b:Addr}{xs:Lv}{ps:Lp}{ns:Ls}{now j:Ch} (_:lW C S H G xs ps ns) (_:de H a now) (_:de H b j) (_:eY xs ps now) (_:eY xs ps j) (_:∀l zs us H',H l=none->aa H H'->H' l=some (.lst zs)->kO now j us->Paired (iM [l] H') zs us->Q (.ref l) H'):Us C S [G,.ref a,.ref b] H Q E
theorem uQ:aN [ayd,ayL,ayz,ay5,"reached","left",ayN] [ayd,ayL,ayz] (au HP):=aV
theorem aoA(J:Pg K mg base Pt):aA P w K mg base aJ 6 J.Gro.f J.Gro.fd [ayd,ayL,ayz] (Us J.C J.S):=by
 refine J.Gro.u.okL uQ ?_;intro ar A outer s H vs Q E hr h xX dX;obtain @⟨_,_,_,sv,a,b,xs,ps,ns,now,a0,O,hA,hB,cA,cB,q⟩:=h;have eA:=hr.mono (j:=1) (by decide);have nl:=cA.len O.ap O.n4;have gl:=cB.len O.ap O.n4;refine⟨_,(ah (aI (i:=3) uQ.nd rfl (Or.inl rfl) (db dG))
  (ah (aI (i:=4) uQ.nd rfl (Or.inl rfl) (pv 1))
  (ah (aI (i:=5) uQ.nd rfl (Or.inl rfl) (aF (Uk J) eA rfl (aL (pv 4) (pv 2))))
  (ah (Nc dZ (bS Nx (c8 ig (by rfl) J.B.len gA (ao (pv 5))) am (bJ _)) (ah (aI (i:=6) uQ.nd rfl (Or.inl rfl) (aF (aoz J) hr rfl (q5 (pv 0) (pv 4) (pv 2) (pv 5))))
   (ah (cp (dH iT vn vo oU (pv 3) (ao (pv 6))))
   (ah (aI (i:=4) uQ.nd rfl (Or.inl rfl) (aF (Kh J) eA rfl (d6 (pv 4) (pv 2) (pv 6))))
   (al (aI (i:=5) uQ.nd rfl (Or.inl rfl) (aF (Uk J) eA rfl (aL (pv 4) (pv 2)))))))))
  (al (aT (pv 3))))))),?_⟩
 refine F5 ?_;intro dD sS CK nY gs eh;refine⟨Ab,λG H1 n1 s1 e1=>?_⟩;refine⟨?_⟩;obtain⟨ka,a4,a5⟩:=hA.same s1;obtain⟨kb,JU,jc⟩:=hB.same s1;refine⟨a4,JU,a5,jc,cA.nd,cB.nd,trivial,trivial,C9 (by omega),λl2 H2 us n2 s2 e2 U=>?_⟩;have bM:=s1.trans s2;have ul:=U.len;refine⟨λm Z H3=>∃i re Y u zs,m=us.length - i/\i<=us.length/\Z=[some sv,some (.ref a),some (.ref b),some (.ref G),some (.ref re),some (.ref Y),u]/\aa H H3/\H3 G=some (.lst zs)/\Paired (iM [G] H3) zs (us.take i)/\de H3 re ((us.take i).foldl (bQ a0) now)/\Y≠G/\H3 Y=some (.lst ((us.drop i).map V.str)),
  ⟨_,0,a,l2,none,[],rfl,dC _,rfl,bM,s2 _ _ e1,.nil,hA.same bM,(aH e1 n2).symm,e2⟩,?_⟩
 intro m Z H3 hQ;refine bq ?_;intro tT;obtain⟨i,re,Y,u,zs,rfl,hi,rfl,s3,e3,p3,c3,a9,el⟩:=hQ;have zl:=bA p3;rw[eR]at zl;have k3:eY xs ps ((us.take i).foldl (bQ a0) now):=cB.steps cA;refine⟨Y,_,rfl,.inl (ac.of el),⟨⟨?_⟩⟩⟩;refine bu (λh=>?_) (λh=>?_)
 . have pq:(0:Int)<(((us.drop i).map V.str).length:Int):=cH h;rw[aj,j0]at pq;have aO:i<us.length:=by omega
   have hx:us[i]?=some us[i]:=hX aO;have ed:us.drop i=us[i]::us.drop (i+1):=Mn aO;rw[ed]at el;refine⟨λσ' H'=>∃m',m'<us.length - i/\∃i re Y u zs,m'=us.length - i/\i<=us.length/\σ'=[some sv,some (.ref a),some (.ref b),some (.ref G),some (.ref re),some (.ref Y),u]/\aa H H'/\H' G=some (.lst zs)/\Paired (iM [G] H') zs (us.take i)/\de H' re ((us.take i).foldl (bQ a0) now)/\Y≠G/\H' Y=some (.lst ((us.drop i).map V.str)),λσ' H' h=>h,?_⟩;refine lI ?_
   intros
   refine⟨O.same s3,c3,hB.same s3,k3,cB,el,by rw[j0];omega,λl4 H4 s4 e4=>?_⟩;have Du:=s4 _ _ e3;have n4:l4≠G:=λz=>by
    rw[z,Du]at e4;injection e4 with e4
    injection e4 with e4
    rw[e4]at p3;obtain⟨_,_,l,hl,_⟩:=eN (i:=0) p3 rfl;cases hl
   refine⟨.inl ⟨rfl,_,ac.of Du⟩,Du,bY (by omega),?_⟩;have m5:aa H (upd H4 G (.lst (zs++[.ref l4]))):=sj n1 (s3.trans s4);have cc:de (upd H4 G (.lst (zs++[.ref l4]))) re ((us.take i).foldl (bQ a0) now):=de.mut Du (c3.same s4);have e5:upd H4 G (.lst (zs++[.ref l4])) l4=some (.lst [.str us[i]]):=by rw[aQ n4];exact e4
   have cl:=k3.len O.ap O.n4;refine⟨cc,hB.same m5,k3.nd,cB.nd,e5,by omega,λr6 H6 n6 s6 c6=>?_⟩;have st:bQ a0 ((us.take i).foldl (bQ a0) now) us[i]=(us.take (i+1)).foldl (bQ a0) now:=by rw[r9 hx,qE];rfl
   rw[st]at c6;have k6:eY xs ps ((us.take (i+1)).foldl (bQ a0) now):=cB.steps cA;have a8:=k6.len O.ap O.n4;obtain⟨kr,a1,a2⟩:=id c6;obtain⟨kg,a6,Dt⟩:=hB.same (m5.trans s6);refine⟨a1,a6,a2,Dt,k6.nd,cB.nd,trivial,trivial,C9 (by omega),λl7 H7 a7 n7 s7 e7 U7=>?_⟩;have eu:a7=us.drop (i+1):=U7.eq (U.drop (i+1));subst eu;have uP:=s6.trans s7;have a3:=uP _ _ (aB (H:=H4) (a:=G) (o:=.lst (zs++[.ref l4])));refine⟨_,(show us.length - (i+1)<us.length - i by omega),i+1,r6,l7,_,_,rfl,aO,rfl,m5.trans uP,a3,?_,c6.same s7,(aH (s6 _ _ aB) n7).symm,e7⟩;rw[r9 hx];exact jK ⟨l4,rfl,by simpa using n4,uP _ _ e5⟩ (av p3 λ_ _ z=>((z.same s4).mut (by simp)).same uP)
 have l0:i=us.length:=Yw λz=>h (bN (by
  show(0:Int)<(((us.drop i).map V.str).length:Int);rw[aj,j0];omega))
 subst l0;rw[ff]at p3;exact⟨q G zs us H3 n1 s3 e3 U p3⟩
end
section
variable {H:Hp}{ch aY:Ch}{cs bi:Cs}{ow aD:Ow}{c b a:Nat}{xs:Lv}{ps:Lp}{T:Addr}{Q:VK}
variable {H H2 H3:Hp}{dc dh dO:Addr}{ch:Ch}{cs:Cs}{ow:Ow}
theorem dA.put{H1:Hp}{ks J:List (ak×V)}(hd:H1 d=some (.dK ks)){kv:ak×V}{e:Str×List Int}(h:dA H1 kv e):dA (upd H1 d (.dK J)) kv e:=h.elim λa j=>j.elim λm G=>G.elim λb c=>⟨a,m,b,aw c (be c hd (by intro z;cases z))⟩
theorem cD.put{H1:Hp}{ks mV:List (ak×V)}(hd:H1 d=some (.dK ks)){kv:ak×V}{e:Str×(Ls×Ls)}(h:cD H1 kv e):cD (upd H1 d (.dK mV)) kv e:=
 h.elim λa j=>j.elim λt G=>G.elim λl1 J=>J.elim λl2 O=>O.elim λb U=>U.elim λc Y=>Y.elim λd' f=>⟨a,t,l1,l2,b,aw c (be c hd (by intro z;cases z)),aw d' (be d' hd (by intro z;cases z)),aw f (be f hd (by intro z;cases z))⟩
structure mR(ch:Ch)(cs:Cs)(ow:Ow):Prop where
 ok:wa ch cs ow
 d1:(ch.map (·.1)).Nodup
 d2:(cs.map (·.1)).Nodup
 d3:(ow.map (·.1)).Nodup
 n1:ch.length<=4
 n2:cs.length<=4
 n3:ow.length<=8
 ln:∀e∈ow,e.2.1.length<=20/\e.2.2.length<=20
structure lX(H H2:Hp)(dc dh dO:Addr)(ch:Ch)(cs:Cs)(ow:Ow):Prop where
 old:aa H H2
 nc:H dc=none
 nh:H dh=none
 no:H dO=none
 d1:dc≠dh
 d2:dc≠dO
 d3:dh≠dO
 ch:de H2 dc ch
 cs:pJ H2 dh cs
 ow:kI H2 dO ow
theorem lX.same(N:lX H H2 dc dh dO ch cs ow)(s:aa H2 H3):lX H H3 dc dh dO ch cs ow:=⟨N.old.trans s,N.nc,N.nh,N.no,N.d1,N.d2,N.d3,N.ch.same s,N.cs.same s,N.ow.same s⟩
theorem lX.putH(N:lX H H2 dc dh dO ch cs ow){J:List (ak×V)}(j:H2 dh=some (.dK J)){c n:Str}:lX H (upd H2 dh (.dK (cL J (.inr c) (.str n)))) dc dh dO ch (bw cs c n) ow:=by
 obtain⟨kc,O,U⟩:=N.ch;obtain⟨a0,G,Y⟩:=N.cs;rw[j]at G;cases G;obtain⟨ko,o1,o2⟩:=N.ow;exact⟨λb z e=>aw (N.old b z e) (aH e N.nh),N.nc,N.nh,N.no,N.d1,N.d2,N.d3,⟨kc,aw O N.d1,av U λ_ _=>dA.put j⟩,⟨_,aB,je (F:=pH) (λkv f z=>z.1) (x:=c) (ls:=n) (v:=.str n) ⟨rfl,rfl⟩ Y⟩,⟨ko,aw o1 N.d3.symm,av o2 λ_ _=>cD.put j⟩⟩
theorem lX.putO(N:lX H H2 dc dh dO ch cs ow){O:List (ak×V)}(j:H2 dO=some (.dK O)){p:Str}{b m:Ls}{t G J:Addr}(ht:H2 t=some (.tup [.ref G,.ref J]))(h1:H2 G=some (.lst (b.map V.str)))(h2:H2 J=some (.lst (m.map V.str))):lX H (upd H2 dO (.dK (cL O (.inr p) (.ref t)))) dc dh dO ch cs (bw ow p (b,m)):=by
 obtain⟨kc,Y,a2⟩:=N.ch;obtain⟨kh,b1,b2⟩:=N.cs;obtain⟨lQ,U,o2⟩:=N.ow;rw[j]at U;cases U;exact⟨λb z e=>aw (N.old b z e) (aH e N.no),N.nc,N.nh,N.no,N.d1,N.d2,N.d3,⟨kc,aw Y N.d2,av a2 λ_ _=>dA.put j⟩,⟨kh,aw b1 N.d3,b2⟩,⟨_,aB,av (je (F:=cD H2) (λkv f z=>z.1) (x:=p) (ls:=(b,m)) (v:=.ref t) ⟨rfl,t,G,J,rfl,ht,h1,h2⟩ o2) λ_ _=>cD.put j⟩⟩
structure lY(ch:Ch)(cs:Cs)(ow:Ow)(a b c:Nat):Prop where
 ok:wa ch cs ow
 d1:(ch.map (·.1)).Nodup
 d2:(cs.map (·.1)).Nodup
 d3:(ow.map (·.1)).Nodup
 n1:ch.length<=a
 n2:cs.length<=b
 n3:ow.length<=c
 ln:∀e∈ow,e.2.1.length<=4/\e.2.2.length<=4
theorem lY.putH(o:lY ch cs ow a b c){n m:Str}(h1:cR n)(h2:cR m):lY ch (bw cs n m) ow a (b+1) c:=
 ⟨⟨o.ok.ch,λe j=>(mJ j).elim (λz=>by rw[z];exact⟨h1,h2⟩) (o.ok.cs e),o.ok.ow⟩,o.d1,jL o.d2,o.d3,o.n1,b8 (jM _ _ _) (MJ o.n2),o.n3,o.ln⟩
theorem lY.putO(o:lY ch cs ow a b c){p:Str}{x y:Ls}(h1:cz p)(h2:∀z∈x,fm z)(G:∀z∈y,fm z)(J:x.length<=4)(O:y.length<=4):lY ch cs (bw ow p (x,y)) a b (c+1):=
 ⟨⟨o.ok.ch,o.ok.cs,λe j=>(mJ j).elim (λz=>by rw[z];exact⟨h1,h2,G⟩) (o.ok.ow e)⟩,o.d1,o.d2,jL o.d3,o.n1,o.n2,b8 (jM _ _ _) (MJ o.n3),λe j=>(mJ j).elim (λz=>by rw[z];exact⟨J,O⟩) (o.ln e)⟩
theorem lY.mono{j b' c':Nat}(o:lY ch cs ow a b c)(h1:a<=j)(h2:b<=b')(G:c<=c'):lY ch cs ow j b' c':=⟨o.ok,o.d1,o.d2,o.d3,b8 o.n1 h1,b8 o.n2 h2,b8 o.n3 G,o.ln⟩
theorem mR.bnd(h:mR ch cs ow):CG ch cs ow where
 nch:=by have:=h.n1;omega
 ncs:=by have:=h.n2;omega
 now:=by have:=h.n3;omega
 dch:=h.d1
 dcs:=h.d2
 dow:=h.d3
 ch:=λe j=>⟨by have:=(h.ok.ch e j).1.hi;omega,(h.ok.ch e j).2.ok⟩
 cs:=λe j=>⟨by have:=(h.ok.cs e j).1.hi;omega,by have:=(h.ok.cs e j).2.hi;omega⟩
 ow:=λe j=>by
  obtain⟨⟨ps,e1,p1,p2,Y⟩,O,U⟩:=h.ok.ow e j;obtain⟨k1,k2⟩:=h.ln e j;refine⟨?_,by omega,by omega,λx G=>(O x G).hi,λx G=>(U x G).hi⟩;rw[e1];have:=IJ (sep:=lN) (b:=8) (λp J=>(Y p J).hi) (by rw[Ce];decide);omega
theorem cR.ok{x:Str}(h:cR x):eD x:=tP.mpr λc j=>by have:=h.az c j;omega
theorem mR.perm(h:mR ch cs ow)(J:aY.Perm ch)(p2:bi.Perm cs)(G:aD.Perm ow):mR aY bi aD where
 ok:=⟨λe j=>h.ok.ch e (J.mem_iff.mp j),λe j=>h.ok.cs e (p2.mem_iff.mp j),λe j=>h.ok.ow e (G.mem_iff.mp j)⟩
 d1:=(J.map _).nodup_iff.mpr h.d1
 d2:=(p2.map _).nodup_iff.mpr h.d2
 d3:=(G.map _).nodup_iff.mpr h.d3
 n1:=by have:=J.length_eq;have:=h.n1;omega
 n2:=by have:=p2.length_eq;have:=h.n2;omega
 n3:=by have:=G.length_eq;have:=h.n3;omega
 ln:=λe j=>h.ln e (G.mem_iff.mp j)
theorem mR.rows(h:mR ch cs ow):(fY ch cs ow).length<=336:=by
 have:∀(l:Ow),(∀e∈l,e∈ow)->(l.flatMap eG).length<=l.length * 41:=by
  intro l
  induction l with
  | nil=>intro _;exact dC _
  | cons e l U=>
   intro j;have h1:=U λx O=>j x (bT _ O);obtain⟨h2,G⟩:=h.ln e (j e bL);rw[xT,bI,cT];have:(eG e).length<=41:=by
    unfold eG;simp only[bI,aj,cT,kX];omega
   omega
 have G:=this ow λe J=>J;have:=h.n1;have:=h.n2;have:=h.n3;have Y:ow.length * 41<=8 * 41:=MI _ (by omega);unfold fY;rw[bI,bI,aj,aj];omega
theorem aoQ:mR [] [] []:=⟨⟨(λ_ h=>nomatch h),(λ_ h=>nomatch h),(λ_ h=>nomatch h)⟩,kY,kY,kY,by decide,by decide,by decide,(λ_ h=>nomatch h)⟩
theorem xb{β:Type}:cS ([]:List (Str×β)) []:=⟨.nil,rfl⟩
seal PE PS cf PA PT PW PG gf PI fW
abbrev Bk:=List (Str×Str)
def xf(H:Hp)(v:V)(e:Str×Str):Prop:=∃t,v=.ref t/\H t=some (.tup [.str e.1,.str e.2])
def Ut(bk:Bk):Prop:=∀e∈bk,eD e.1/\eD e.2
def pV:Str×Str:=("end","")
def iu:Str:="begin"
def uR(bk:Bk):Bool:=match bk.getLast? with
 | none=>true
 | some e=>decide (e=pV)
theorem aoR{tb:Lv}{bk:Bk}(h:Paired (xf H) tb bk):(tb=[]/\bk=[])\/∃G t j e,tb=G++[.ref t]/\bk=j++[e]/\H t=some (.tup [.str e.1,.str e.2]):=by
 induction h with
 | nil=>exact .inl ⟨rfl,rfl⟩
 | @cons v e tb bk r t U=>
  rcases U with⟨e1,e2⟩ | ⟨G,t',j,J,e1,e2,e3⟩
  . subst e1 e2;obtain⟨t,rfl,O⟩:=r;exact .inr ⟨[],t,[],e,rfl,rfl,O⟩
  subst e1 e2;exact .inr ⟨v::G,t',e::j,J,rfl,rfl,e3⟩
theorem Uu(r:Lv)(v:V):cQ (r++[v]) (-1)=some v:=by
 unfold cQ;have e:oP (r++[v]).length (-1)=some r.length:=by
  unfold oP;rw[bI,kW,ag (by omega),ai (by omega)]
  congr 1
  omega
 rw[e];show(r++[v])[r.length]?=_;rw[Em (aG _),Nat.sub_self];rfl
inductive Uv (D:Addr):Sp where
 | mk {H:Hp}{Q:VK}{E:XK}{x dx d b:Addr}{v:V}{tb:Lv}{bk:Bk} (_:H x=some (.ins D dx (gL d b v))) (_:H b=some (.lst tb)) (_:Paired (xf H) tb bk) (_:Ut bk) (_:∀H',aa H H'->Q (.bl (uR bk)) H'):Uv D [.ref x] H Q E
theorem Uw:aN [ayl,"book"] [ayl] (au HU):=aV
theorem aoS(j:Pg K mg base Pt):aA P w K mg base aJ 2 j.IUp.f j.IUp.fd [ayl] (Uv j.D):=by
 refine j.IUp.u.okL Uw ?_;intro ar A outer s H vs Q E O h xX dX;obtain @⟨_,_,_,x,dx,d,b,v,tb,bk,U,hb,pb,ok,q⟩:=h;have hu:=O.units;refine⟨_,(ah (aI (i:=1) Uw.nd rfl (Or.inl rfl) (iz (pv 0) j.UD.cl j.UD.mBNo (up (Ta j)) O j.BNo.b .nil dv))
  (al (aT (EJ (oN fO (c8 ig (by rfl) j.B.len gA (ao (pv 1))) am (bJ _)) (qN (oN (vI hu) (bP fV (pv 1) (vy vA am) (λ_ _=>rfl)) (eT (aL bO bO)) (bJ _))))))),?_⟩
 refine⟨U,rfl,U,hb,λr H1 n1 G e1=>?_⟩;refine⟨r,_,rfl,.inl (ac.of e1),rfl,⟨?_⟩⟩
 rcases aoR pb with⟨rfl,rfl⟩ | ⟨wU,t,dB,e,rfl,rfl,ht⟩
 . exact gm (q H1 G)
 refine bu (λh=>?_) (λh=>?_)
 . have h:=cH h;injection h with h
   rw[bI,kW]at h;omega
 refine⟨_,rfl,ac.of e1,Uu _ _,An,λp2 H2 n2 Y e2=>?_⟩;obtain⟨o1,o2⟩:=ok e (eX _ (bD.mpr rfl));refine⟨.tuple [.str e.1,.str e.2],.tuple [.str pV.1,.str pV.2],.tup (aX.of ((G.trans Y) _ _ ht)) (.cons (.str _) (.cons (.str _) .nil)),.tup (aX.of e2) (.cons (.str _) (.cons (.str _) .nil)),?_,?_,λJ iZ=>?_⟩
 . simp only[W.kqdOk,En,Yx,Yy,iP];exact⟨o1,o2⟩
 . simp only[W.kqdOk,En,Yx,Yy,iP];exact⟨by decide +kernel,by decide +kernel⟩
 have eb:J=uR (dB++[e]):=by
  unfold uR;rw[Yz,awL,Option.some_or];show J=decide (e=pV);rw[xF,iZ,Yu];refine⟨λh=>?_,λh=>by rw[h]⟩;injection h with h
  injection h with h1 h2
  injection h1 with h1
  injection h2 with h2
  injection h2 with h2
  exact Prod.ext h1 h2
 rw[eb];exact q H2 (G.trans Y)
def fL(bk:Bk):Ls:=(bk.filter λe=>decide (e.1=iu)).map (·.2)
theorem Kj(bk:Bk)(e:Str×Str):fL (bk++[e])=if e.1=iu then fL bk++[e.2] else fL bk:=by
 unfold fL;rw[MK,dP]
 by_cases h:e.1=iu
 . rw[ai h,oE,ai (bN h)];rfl
 rw[ag h,oE,ag (by rw[cx h];decide)];exact jX _
inductive Ux (D:Addr):Sp where
 | mk {H:Hp}{Q:VK}{E:XK}{x dx d b:Addr}{v:V}{tb:Lv}{bk:Bk} (_:H x=some (.ins D dx (gL d b v))) (_:H b=some (.lst tb)) (_:Paired (xf H) tb bk) (_:bk.length<=500) (_:d5 H (.lst ((Str.empty::fL bk).map V.str)) Q):Ux D [.ref x] H Q E
theorem aoT:aN [ayl] [ayl] (au HV):=aV
theorem aoU(G:Pg K mg base Pt):aA P w K mg base aJ 2 G.TxB.f G.TxB.fd [ayl] (Ux G.D):=by
 refine G.TxB.u.okL aoT ?_;intro ar A outer s H vs Q E hr h xX dX;obtain @⟨_,_,_,x,dx,d,b,v,tb,bk,hx,hb,pb,wW,q⟩:=h;refine⟨_,(al (aT (aE vJ (db (ao bO)) (gE [ay0,ayq] [] [] eF rfl (cU (iz (pv 0) G.UD.cl G.UD.mBNo (up (Ta G)) hr G.BNo.b .nil dv)) (λ_ _ _ _=>(T9 (n:=2) K rfl (fM (bf (i:=0) (show List.Nodup ([ay0,ayq]:Ls) by decide +kernel) rfl (Or.inl rfl)) (fM (bf (i:=1) (show List.Nodup ([ay0,ayq]:Ls) by decide +kernel) rfl (Or.inl rfl)) mv)))) (λ_ _ _ _=>o9 (bS fO (pv 0) bO (bJ _))) (λ_ _ _ _=>(pv 1)))))),?_⟩;refine⟨Ac,λp1 H1 n1 O e1=>?_⟩;have pl:=bA pb;refine⟨O _ _ hx,rfl,O _ _ hx,O _ _ hb,λr H2 n2 s2 e2=>⟨⟨_,ac.of e2⟩,?_⟩⟩;have U:=O.trans s2;intro D' uS;refine rN (σ0:=[none,none]) uS (ac.of e2) (λZ=>∃u v,Z=[u,v]) (λj zs _=>zs=(fL (bk.take j)).map V.str) ⟨_,_,rfl⟩ rfl ?_ ?_
 . rintro j y zs Z H3 k k' hy ⟨u,v,rfl⟩ Y J rfl fE jB;obtain⟨e,he,t,rfl,ht⟩:=eN pb hy;have aO:=(dg.mp he).1;refine⟨aX.of ((U.trans J) _ _ ht),rfl,rfl,?_⟩;have bs:=Kj (bk.take j) e;rw[<-r9 he]at bs;have bl:(fL (bk.take j)).length<=500:=by
    unfold fL;rw[aj];exact b8 (xI _ _) (by rw[eR];omega)
   refine⟨rfl,⟨?_⟩⟩;refine bu (λh=>?_) (λh=>?_)
   . have h:=cH h;injection h with h
     rw[ai (show e.1=iu from h)]at bs;refine⟨fE _ _ _ ⟨_,_,rfl⟩ (aa.refl _) (bY (by rw[aj];omega)) ?_⟩;rw[bs,dP];rfl
   rw[ag (λz=>h (by rw[z];exact bN rfl))]at bs;refine jB _ _ ⟨_,_,rfl⟩ (aa.refl _) ?_;rw[bs]
 rintro zs H3 Y J rfl;rw[pl,ff]at Y;have bl:(fL bk).length<=500:=by
  unfold fL;rw[aj];exact b8 (xI _ _) wW
 refine⟨(s2.trans J) _ _ e1,Y,ky (by rw[aj,kW];omega),λp4 H4 n4 s4 e4=>?_⟩;exact q p4 H4 ((U.trans J).free n4) ((U.trans J).trans s4) e4
structure fq(xs:Lv)(ps:Lp)(ch:Ch)(cs:Cs)(ow:Ow):Prop where
 ok:mR ch cs ow
 va:pK xs ps ch
 o2:ow.length<=8
structure f9(xs:Lv)(ps:Lp)(t:Str)(ch:Ch)(cs:Cs)(ow:Ow):Prop where
 so:fq xs ps ch cs ow
 s1:cS ch ch
 s2:cS cs cs
 s3:cS ow ow
 tx:t=Str.join lL (fY ch cs ow)
theorem fq.perm(h:fq xs ps ch cs ow)(j:aY.Perm ch)(p2:bi.Perm cs)(G:aD.Perm ow):fq xs ps aY bi aD:=⟨h.ok.perm j p2 G,λe J=>h.va e (j.mem_iff.mp J),by have:=G.length_eq;have:=h.o2;omega⟩
theorem fq.tx(h:fq xs ps ch cs ow)(j:cS ch aY)(p2:cS cs bi)(G:cS ow aD):f9 xs ps (Str.join lL (fY aY bi aD)) aY bi aD:=⟨h.perm j.pm p2.pm G.pm,j.self,p2.self,G.self,rfl⟩
theorem Dv:f9 xs ps Str.empty [] [] []:=⟨⟨aoQ,(λ_ h=>nomatch h),by decide⟩,xb,xb,xb,rfl⟩
theorem f9.uniq{t:Str}(h:f9 xs ps t ch cs ow)(k:f9 xs ps t aY bi aD):ch=aY/\cs=bi/\ow=aD:=by
 have e1:rowsOf t=fY ch cs ow:=by rw[h.tx];exact Hf (He h.so.ok.ok)
 have e2:rowsOf t=fY aY bi aD:=by rw[k.tx];exact Hf (He k.so.ok.ok)
 obtain⟨a,b,c,n1⟩:=Hg h.so.ok.ok h.so.ok.d1 h.so.ok.d2 h.so.ok.d3;obtain⟨j,b',c',n2⟩:=Hg k.so.ok.ok k.so.ok.d1 k.so.ok.d2 k.so.ok.d3;rw[<-e1,e2,n2]at n1;injection n1 with n1 n2 n3
 exact⟨n1.symm,n2.symm,n3.symm⟩
theorem f9.not{t:Str}(h:f9 xs ps t ch cs ow)(q:∀v H',aa H H'->(∀L,jd H L->ip T (msk L H') v ch cs ow)->Q v H'):IP T [.str t] H Q E0:=by
 have ok:=h.so.ok;have j:rowsOf t=fY ch cs ow:=by rw[h.tx];exact Hf (He ok.ok)
 have O:=ok.rows;obtain⟨_,G⟩:=RO ok.bnd (.refl _) (.refl _) (.refl _);have Y:=IJ (sep:=lL) G (by rw[GX];decide);obtain⟨ck,b,m,J⟩:=Hg ok.ok ok.d1 ok.d2 ok.d3;refine⟨?_,?_,?_,?_⟩
 . have U:(fY ch cs ow).length * (140+1)<=336 * 141:=MI _ O;rw[h.tx];omega
 . rw[j];omega
 . rw[j];exact ajv ok.ok
 rw[j,J];exact q
theorem f9.sho{t:Str}(h:f9 xs ps t ch cs ow){v:V}(hs:ip T H v ch cs ow)(q:∀H',aa H H'->Q (.str t) H'):CH T [v] H Q E0:=by
 refine⟨hs,h.so.ok.bnd,λaY bi aD H' j G J s'=>?_⟩;rw[cS.eq h.so.ok.d1 j h.s1,cS.eq h.so.ok.d2 G h.s2,cS.eq h.so.ok.d3 J h.s3,<-h.tx];exact q H' s'
theorem fq.sho(h:fq xs ps ch cs ow){v:V}(hs:ip T H v ch cs ow)(q:∀t aY bi aD H',cS ch aY->cS cs bi->cS ow aD->f9 xs ps t aY bi aD->aa H H'->Q (.str t) H'):CH T [v] H Q E0:=
 ⟨hs,h.ok.bnd,λaY bi aD H' j G J s'=>q _ aY bi aD H' j G J (h.tx j G J) s'⟩
def uT(xs:Lv)(ps:Lp)(j:Ls):Prop:=∀t∈j,∃ch cs ow,f9 xs ps t ch cs ow
theorem aoW(j:Ls)(t:Str):cQ ((j++[t]).map V.str) (-1)=some (.str t):=by
 rw[dP];exact Uu _ _
inductive Uy (D T:Addr):Sp where
 | mk {H:Hp}{Q:VK}{E:XK}{x dx d b:Addr}{v:V}{tb:Lv}{bk:Bk}{xs:Lv}{ps:Lp}{t:Str}{ch:Ch}{cs:Cs}{ow:Ow} (_:H x=some (.ins D dx (gL d b v))) (_:H b=some (.lst tb)) (_:Paired (xf H) tb bk) (_:bk.length<=500) (_:(Str.empty::fL bk).getLast?=some t) (_:f9 xs ps t ch cs ow) (_:∀v H',aa H H'->(∀L,jd H L->ip T (msk L H') v ch cs ow)->Q v H'):Uy D T [.ref x] H Q E
theorem aoX:aN [ayl] [ayl] (au HX):=aV
theorem Uz(j:Pg K mg base Pt):aA P w K mg base aJ 5 j.StO.f j.StO.fd [ayl] (Uy j.D j.T):=by
 refine j.StO.u.okL aoX ?_;intro ar A outer s H vs Q E J h xX dX;obtain @⟨_,_,_,x,dx,d,b,v,tb,bk,xs,ps,t,ch,cs,ow,hx,G,pb,wW,hl,ht,q⟩:=h;refine⟨_,(al (aT (aF (ala j) J rfl (ao (bP fV (aF (aoU j) J rfl (ao (pv 0))) (vy vA am) (λ_ _=>rfl)))))),?_⟩;refine⟨hx,G,pb,wW,λr H1 n1 O e1=>?_⟩;obtain⟨ts,Y⟩:=List.getLast?_eq_some_iff.mp hl;rw[Y]at e1;refine⟨_,rfl,ac.of e1,aoW ts t,?_⟩;exact ht.not λv H' s' hv=>q v H' (O.trans s') λL hL=>hv L λb G=>(hL b G).elim λo U=>U.elim λe n=>⟨o,O _ _ e,n⟩
end
section
variable {H H':Hp}
seal PE PS cf PA PT PW PG gf PI fW
structure Dk(D x dx d b g:Addr)(fs:Tr)(bk:Bk)(H:Hp):Prop where
 ob:H x=some (.ins D dx (gL d b .non))
 fi:∃kd,H d=some (.dK kd)/\Paired (Lu g H) kd fs
 bo:∃tb,H b=some (.lst tb)/\Paired (xf H) tb bk
 nd:(fs.map (·.1)).Nodup
 ok:eI fs
 bz:bk=[]->fs=[]
 bt:Ut bk
 go:∃o,H g=some o
theorem Dk.keep{fs:Tr}{bk:Bk}(h:Dk D x dx d b g fs bk H)(k:∀q o,H q=some o->(∀φ,o≠.ext φ)->H' q=some o)(kg:∃o,H' g=some o):Dk D x dx d b g fs bk H':=by
 obtain⟨kd,d1,d2⟩:=h.fi;obtain⟨tb,b1,b2⟩:=h.bo;exact⟨k _ _ h.ob (by intro φ z;cases z),⟨kd,k _ _ d1 (by intro φ z;cases z),av d2 λ_ _ J=>J.elim λj O=>O.elim λl U=>U.elim λG Y=>Y.elim λn z3=>⟨j,l,G,n,k _ _ z3 (by intro φ z;cases z)⟩⟩,⟨tb,k _ _ b1 (by intro φ z;cases z),av b2 λ_ _ a0=>a0.elim λt a1=>a1.elim λj G=>⟨t,j,k _ _ G (by intro φ z;cases z)⟩⟩,h.nd,h.ok,h.bz,h.bt,kg⟩
theorem Dk.same{fs:Tr}{bk:Bk}(h:Dk D x dx d b g fs bk H)(s:aa H H'):Dk D x dx d b g fs bk H':=h.keep (λq o e _=>s q o e) (h.go.elim λo e=>⟨o,s _ _ e⟩)
def cG(x d b Pt:Addr)(H H':Hp):Prop:=∀q o,H q=some o->q≠x->q≠d->q≠b->q≠Pt->H' q=some o
theorem cG.trans{H1 H2:Hp}(a:cG x d b Pt H H1)(c:cG x d b Pt H1 H2):cG x d b Pt H H2:=λq o e n1 n2 n3 j=>c q o (a q o e n1 n2 n3 j) n1 n2 n3 j
theorem cG.of(s:aa H H'):cG x d b Pt H H':=λq o e _ _ _ _=>s q o e
theorem cG.ofT(s:lK Pt H H'):cG x d b Pt H H':=λq o e _ _ _ n=>s q o e n
theorem cG.msk(k:cG x d b Pt H H'):aa (msk [x,d,b,Pt] H) (msk [x,d,b,Pt] H'):=λq o e=>by
 have n:q∉[x,d,b,Pt]:=λz=>by unfold K71.msk at e;rw[ai z]at e;cases e
 have j:=bc q o e;simp only[aZ,fc,fe,mh]at n;exact cw (by simp[n]) (k q o j n.1 n.2.1 n.2.2.1 n.2.2.2)
theorem Dk.keepT{fs:Tr}{bk:Bk}{lp:Pos}{qu:Str}(h:Dk D x dx d b g fs bk H)(t:TabSt H Pt lp qu)(t':TabSt H' Pt lp qu)(k:lK Pt H H'):Dk D x dx d b g fs bk H':=by
 refine h.keep (λq o e n=>k _ _ e (TabSt.ne t e n)) ?_;obtain⟨o,e⟩:=h.go
 by_cases z:g=Pt
 . obtain⟨φ,w⟩:=TabSt.at t';exact⟨_,z▸w⟩
 exact⟨o,k _ _ e z⟩
theorem UA{tb:Lv}{bk:Bk}{ls:Ls}(J:H b=some (.lst tb))(G:Paired (xf H) tb bk)(n:bk≠[]\/ls≠[])(j:H l=some (.lst (ls.map V.str))):l≠b:=λe=>by
 rw[e,J]at j;injection j with j
 injection j with j
 subst j;cases ls with
 | nil=>
  cases G
  rcases n with z | z<;>exact z rfl
 | cons y ls=>
  cases G with
  | cons r t=>
   obtain⟨t,z,_⟩:=r;cases z
theorem TabSt.kp{lp:Pos}{qu:Str}(h:TabSt H Pt lp qu)(k:∀q φ,H q=some (.ext φ)->H' q=some (.ext φ)):TabSt H' Pt lp qu:=by
 rcases h with z | ⟨c',j,G⟩
 . exact .inl (k _ _ z)
 exact .inr ⟨c',k _ _ j,k _ _ G⟩
theorem UB{d:Addr}{o':HO}(h:∃o,H g=some o)(hd:H' d=some o')(k:∀p o,H p=some o->p≠d->H' p=some o):∃o,H' g=some o:=by
 obtain⟨o,e⟩:=h
 by_cases z:g=d
 . exact⟨o',z▸hd⟩
 exact⟨o,k _ _ e z⟩
inductive UC (D:Addr):Sp where
 | mk {H:Hp}{Q:VK}{E:XK}{x dx d b g t:Addr}{fs:Tr}{bk:Bk}{j:List (ak×V)}{tr:Tr} (_:Dk D x dx d b g fs bk H) (_:bk≠[]) (_:H t=some (.dK j)) (_:d≠t) (_:Paired (bB H) j tr) (_:(tr.map (·.1)).Nodup) (_:eI tr) (_:pQ fs tr) (_:∀cI H',Dk D x dx d b g cI bk H'->look cI=look tr->cI.length=tr.length->(∀p o,H p=some o->p≠d->H' p=some o)->Q .non H'):UC D [.ref x,.ref t] H Q E
theorem UE{k:Nat}(G:aA P w K mg base aJ k f fd [ayl,ayO] (JN D)):aA P w K mg base aJ k f fd [ayl,ayO] (UC D):=by
 refine G.imp λvs H Q E h=>?_;obtain @⟨_,_,_,x,dx,d,b,g,t,fs,bk,kt,tr,j,bn,ht,dt,pt,J,O,Y,q⟩:=h;obtain⟨kd,d1,d2⟩:=id j.fi;obtain⟨tb,b1,b2⟩:=id j.bo;refine⟨j.ob,d1,ht,dt,d2,pt,j.nd,J,j.ok,O,Y,j.go,λus H' U T=>?_⟩;have nd:=Tc (tr:=tr) (ps:=us) j.nd;obtain⟨a2,e1,e2⟩:=id T.hd;have k:∀{q:Addr}{o:HO},H q=some o->(∀k,o≠.dK k)->H' q=some o:=λe n=>T.kp _ _ e (be e d1 (n _));exact q _ H' ⟨k j.ob (by intro _ z;cases z),T.hd,⟨tb,k b1 (by intro _ z;cases z),av b2 λ_ _ a0=>a0.elim λt' a1=>a1.elim λz1 z2=>⟨t',z1,k z2 (by intro _ z;cases z)⟩⟩,nd,Te O j.ok,λz=>absurd z bn,j.bt,UB j.go e1 T.kp⟩ (funext λk=>U.all k) (Tg nd J λk=>U.all k) T.kp
inductive UG (D:Addr):Sp where
 | mk {H:Hp}{Q:VK}{E:XK}{x dx d b g:Addr}{fs:Tr}{bk:Bk}{y z:Str} (_:Dk D x dx d b g fs bk H) (_:bk.length<=400) (_:eD y) (_:eD z) (_:∀H',Dk D x dx d b g fs (bk++[(y,z)]) H'->(∀p o,H p=some o->p≠b->H' p=some o)->Q .non H'):UG D [.ref x,.str y,.str z] H Q E
theorem Kl{k:Nat}(G:aA P w K mg base aJ k f fd [aya,ay0,ayq] (JF D)):aA P w K mg base aJ k f fd [aya,ay0,ayq] (UG D):=by
 refine G.imp λvs H Q E h=>?_;obtain @⟨_,_,_,x,dx,d,b,g,fs,bk,y,z,j,l4,oy,oz,q⟩:=h;obtain⟨kd,d1,d2⟩:=id j.fi;obtain⟨tb,J,O⟩:=id j.bo;have pl:=bA O;refine⟨j.ob,J,by omega,λt H' kF IV kp=>?_⟩;have k:∀{q:Addr}{o:HO},H q=some o->(∀k,o≠.lst k)->H' q=some o:=λe n=>kp _ _ e (be e J (n _));refine q H' ⟨k j.ob (by intro _ z;cases z),⟨kd,k d1 (by intro _ z;cases z),?_⟩,⟨_,kF,jK ⟨t,rfl,IV⟩ (av O λ_ _ a0=>a0.elim λt' a1=>a1.elim λU Y=>⟨t',U,k Y (by intro _ z;cases z)⟩)⟩,j.nd,j.ok,λz=>by simp at z,?_,UB j.go kF kp⟩ kp
 . by_cases bn:bk=[]
   . have f0:=j.bz bn;subst f0;cases d2;exact .nil
   exact av d2 λkv f a2=>a2.elim λU a3=>a3.elim λl a4=>a4.elim λY a5=>a5.elim λn z3=>⟨U,l,Y,n,kp _ _ z3 (UA J O (.inl bn) z3)⟩
 intro e he
 rcases bR.mp he with z | z
 . exact j.bt e z
 rw[bD.mp z];exact⟨oy,oz⟩
inductive UI (D:Addr):Sp where
 | mk {H:Hp}{Q:VK}{E:XK}{x dx d b g t:Addr}{fs:Tr}{bk:Bk}{j:List (ak×V)}{tr:Tr} (_:Dk D x dx d b g fs bk H) (_:bk≠[]) (_:bk.length<=400) (_:H t=some (.dK j)) (_:d≠t) (_:Paired (bB H) j tr) (_:(tr.map (·.1)).Nodup) (_:eI tr) (_:pQ fs tr) (_:∀cI H',Dk D x dx d b g cI (bk++[pV]) H'->look cI=look tr->cI.length=tr.length->(∀p o,H p=some o->p≠d->p≠b->H' p=some o)->Q .non H'):UI D [.ref x,.ref t] H Q E
theorem ape:aN [ayl,ayO] [ayl,ayO] (au HY):=aV
theorem apf(j:Pg K mg base Pt):aA P w K mg base aJ 4 j.Fin.f j.Fin.fd [ayl,ayO] (UI j.D):=by
 refine j.Fin.u.okL ape ?_;intro ar A outer s H vs Q E J h xX dX;obtain @⟨_,_,_,x,dx,d,b,g,t,fs,bk,kt,tr,hD,bn,l4,ht,dt,pt,nt,ot,O,q⟩:=h;refine⟨_,(ah (cp (aF (UE (Tq j)) J rfl (aL (pv 0) (pv 1))))
  (al (cp (nj (pv 0) j.UD.cl j.UD.mDNt (up (Kl (JG j))) J j.DNt.b .nil dv (aL bO bO))))),?_⟩
 refine⟨hD,bn,ht,dt,pt,nt,ot,O,λcI H1 G lk el kp=>?_⟩;exact⟨G.ob,rfl,G,l4,(by decide +kernel),(by decide +kernel),λH2 zK a0=>q cI H2 zK lk el λp o e U Y=>a0 p o (kp p o e U) Y⟩
end
section
variable {H:Hp}{qu:Str}
seal PE PS cf PA PT PW PG gf PI fW
theorem lK.msk{H':Hp}(k:lK Pt H H'):aa (msk [Pt] H) (msk [Pt] H'):=λq o e=>by
 have n:q∉[Pt]:=λz=>by unfold K71.msk at e;rw[ai z]at e;cases e
 exact cw n (k q o (bc q o e) (by simpa using n))
theorem off{o:HO}{lp:Pos}(t:TabSt H Pt lp qu)(e:H q=some o)(n:∀φ,o≠.ext φ):msk [Pt] H q=some o:=cw (by simpa using TabSt.ne t e n) e
theorem de.off{ch:Ch}{lp:Pos}(t:TabSt H Pt lp qu)(h:de H c ch):de (msk [Pt] H) c ch:=by
 obtain⟨kvs,h1,h2⟩:=h;exact⟨kvs,K71.off t h1 (by intro φ z;cases z),av h2 λ_ _ j=>j.elim λa G=>G.elim λm J=>J.elim λb c=>⟨a,m,b,K71.off t c (by intro φ z;cases z)⟩⟩
theorem Km{Pt:Addr}{H':Hp}{lp:Pos}(s:aa (msk [Pt] H) (msk [Pt] H'))(t:TabSt H' Pt lp qu)(n:H' q=none):H q=none:=by
 cases e:H q with
 | none=>rfl
 | some o=>
  have j:q≠Pt:=λz=>by
   obtain⟨φ,w⟩:=TabSt.at t;rw[z,w]at n;cases n
  have:=bc _ _ (s q o (cw (by simpa using j) e));rw[n]at this;cases this
theorem mR.okO{ch:Ch}{cs:Cs}{ow:Ow}(h:mR ch cs ow):JV ow:=λe G=>by
 obtain⟨a,b,c⟩:=h.ok.ow e G;obtain⟨d,f⟩:=h.ln e G;exact⟨by have:=a.len;omega,⟨by omega,λx j=>(b x j).ln⟩,⟨by omega,λx j=>(c x j).ln⟩⟩
def Ae(H R:Hp)(v:V)(e:Str×Tr):Prop:=∃j g t kvs,v=.ref j/\H j=none/\R j=some (.tup [.ref g,.ref t])/\R g=some (.lst [.str e.1])/\cR e.1/\H t=none/\R t=some (.dK kvs)/\Paired (dn H R) kvs e.2/\(e.2.map (·.1)).Nodup/\e.2.length<=24/\eI e.2
theorem Ae.kp{R j:Hp}(k:∀b o,R b=some o->(∀φ,o≠.ext φ)->j b=some o){v:V}{e:Str×Tr}(h:Ae H R v e):Ae H j v e:=by
 obtain⟨tp,g,t,kvs,h1,h2,Y,h4,h5,h6,h7,h8,h9⟩:=h;exact⟨tp,g,t,kvs,h1,h2,k _ _ Y (by intro φ z;cases z),k _ _ h4 (by intro φ z;cases z),h5,h6,k _ _ h7 (by intro φ z;cases z),av h8 λ_ _ G=>G.elim λz1 J=>J.elim λl O=>O.elim λz2 U=>U.elim λz3 z4=>⟨z1,l,z2,z3,k _ _ z4 (by intro φ z;cases z)⟩,h9⟩
inductive UK (C S T Pt:Addr):Sp where
 | mk {H:Hp}{Q:VK}{E:XK}{G j:V}{a:Addr}{xs:Lv}{ps:Lp}{ns:Ls}{now ch:Ch}{cs:Cs}{ow:Ow} (_:lW C S (msk [Pt] H) G xs ps ns) (_:de (msk [Pt] H) a now) (_:eY xs ps now) (_:ip T (msk [Pt] H) j ch cs ow) (_:fq xs ps ch cs ow) (_:TabSt H Pt fJ fo) (_:∀l zs es H',H l=none->lK Pt H H'->TabSt H' Pt fJ fo->H' l=some (.lst zs)->Paired (Ae H (msk [l] H')) zs es->es.length<=8->Q (.ref l) H'):UK C S T Pt [G,.ref a,j] H Q E
theorem Af:aN [ayd,ayL,ayz,"steps","reached",ayN] [ayd,ayL,ayz] (au Ia):=aV
theorem apo(j:Pg K mg base Pt):aA P w K mg base aJ 7 j.StT.f j.StT.fd [ayd,ayL,ayz] (UK j.C j.S j.T Pt):=by
 refine j.StT.u.okL Af ?_;intro ar A outer s H vs Q E hr h xX dX;obtain @⟨_,_,_,sv,gv,a,xs,ps,ns,now,ch,cs,ow,J,hA,cA,hG,iN,ab,q⟩:=h;refine⟨_,(ah (aI (i:=3) Af.nd rfl (Or.inl rfl) (db dG))
  (ah (aI (i:=4) Af.nd rfl (Or.inl rfl) (pv 1))
  (ah (eK dZ rfl (cU (aF (aoA j) hr rfl (d6 (pv 0) (pv 1) (bK (pv 2) rfl)))) (bf (i:=5) Af.nd rfl (Or.inl rfl))
  (ah (aI (i:=4) Af.nd rfl (Or.inl rfl) (aF (Kh j) hr rfl (d6 (pv 4) (bK (pv 2) rfl) (pv 5))))
   (al (cp (dH iT vn vo oU (pv 3) (ao (eT (aL (pv 5) (aF (J2 j) hr rfl (aL (pv 0) (tI j.MTIn (up (CB j)) hr rfl j.UT.mgC j.TIn.b .nil dv (d6 (pv 4) (bK (pv 2) rfl) (bK (pv 2) rfl)))))))))))))
  (al (aT (pv 3)))))),?_⟩
 refine lI ?_;intro dD sS u4 u3 u2;obtain⟨ga,az,a',c,h,o,rfl,t1,t2,t3,t4,t5,t6,t7⟩:=id hG;have cB:eY xs ps ch:=⟨iN.ok.d1,iN.va⟩;refine⟨Ab,λG H1 n1 s1 e1=>?_⟩;refine⟨?_⟩;have m1:=dw (L:=[Pt]) s1;refine⟨s1 _ _ (bc _ _ t1),j.UT.cl,j.UT.nC,t2,?_⟩;refine⟨J.same (bc.trans s1),hA.same (bc.trans s1),t5.same (bc.trans s1),cA,cB,λl zg us H2 n2 s2 e2 U pr=>⟨⟨_,ac.of e2⟩,?_⟩⟩;have m2:=m1.trans (dw (L:=[Pt]) s2);have a1:=(ab.same s1).same s2;have nl:=cA.len J.ap J.n4;have gl:=cB.len J.ap J.n4;have ul:=U.len;have UL:H G=none:=n1;have an:∀z∈us,cR z:=λz hz=>by
  have cY:=(U.mem z).mp hz;have a0:∀{c:Ch},eY xs ps c->z∈c.map (·.1)->cR z:=λk hz=>by
   obtain⟨e,he,rfl⟩:=cC.mp hz;obtain⟨v,p,hi,e1,_⟩:=k.va e he;exact e1▸J.nm _ (J.ap.nms p (Kd hi))
  by_cases z1:z∈now.map (·.1)
  . exact a0 cA z1
  by_cases z2:z∈ch.map (·.1)
  . exact a0 cB z2
  exact absurd ((gy.mpr z1).trans (gy.mpr z2).symm) cY
 have aR:=bA pr;refine ib (xs:=zg) (λi Z H3=>∃u re zs es,Z=[some sv,some (.ref a),some (.ref ga),some (.ref G),some (.ref re),u]/\aa (msk [Pt] H) (msk [Pt] H3)/\TabSt H3 Pt fJ fo/\H3 l=some (.lst zg)/\Paired (iM [l] H3) zg us/\H3 G=some (.lst zs)/\Paired (Ae H (msk [G] H3)) zs es/\es.length=i/\de (msk [Pt] H3) re ((us.take i).foldl (bQ ch) now))
  ⟨none,a,[],[],rfl,m2,a1,e2,pr,s2 _ _ e1,.nil,rfl,hA.same m2⟩ ?_ ?_ ?_
 . rintro i Z H3 hi ⟨u,re,zs,es,rfl,_,_,e3,_⟩;exact ac.of e3
 . intro i z Z H3 hz hQ;refine bq ?_;intro tT;obtain⟨u,re,zs,es,rfl,m3,kS,UM,rO,xg,xh,il,c3⟩:=hQ;obtain⟨n,hn,g,rfl,aC,hg⟩:=eN rO hz;have aO:=(dg.mp hn).1;have k3:eY xs ps ((us.take i).foldl (bQ ch) now):=cB.steps cA;have ax:=k3.len J.ap J.n4;have G3:=hG.same m3;have zl:=bA xh;have gp:g≠G:=λz=>by
    rw[z,xg]at hg;injection hg with hg
    injection hg with hg
    subst hg;cases xh with
    | cons r t=>obtain⟨_,_,_,_,z,_⟩:=r;cases z
   refine⟨bc _ _ (m3 _ _ t1),j.UT.cl,j.UT.nC,t2,⟨?_⟩⟩;refine⟨c3.same bc,(t5.same m3).same bc,k3.nd,cB.nd,hg,by omega,λr H4 n4 s4 c4=>?_⟩;have m4:=m3.trans (dw (L:=[Pt]) s4);have oj:=kS.same s4;have st:bQ ch ((us.take i).foldl (bQ ch) now) n=(us.take (i+1)).foldl (bQ ch) now:=by rw[r9 hn,qE];rfl
   rw[st]at c4;have k4:eY xs ps ((us.take (i+1)).foldl (bQ ch) now):=cB.steps cA;have UN:=s4 _ _ xg;refine⟨.inl ⟨rfl,_,ac.of UN⟩,bc _ _ (m4 _ _ t1),j.UT.cl,j.UT.nH,t3,bc _ _ (m4 _ _ t1),j.UT.cl,j.UT.nO,t4,?_⟩;refine CF (T:=j.T) c4 ((t6.same m4).same bc) ((t7.same m4).same bc) iN.ok.d3 (by have:=iN.o2;omega) λx H5 n5 s5 fg=>?_;have m5:=m4.trans (dw (L:=[Pt]) s5);have jh:=oj.same s5;have W5:=(J.same m5).same bc;have UO:=fg [] (λb hb=>nomatch hb);rw[CJ]at UO;refine⟨W5.sh,W5.pc,W5.pcok,J.n4,UO,k4.va,k4.len J.ap J.n4,iN.o2,iN.ok.okO,λe he=>(iN.ok.ok.cs e he).2.ln,jh,λt H6 kvs tr n6 kT si e6 Ag xi mQ uo _=>?_⟩;refine⟨An,λtp H7 n7 s7 e7=>?_⟩;have m6:=m5.trans (lK.msk kT);have m7:=m6.trans (dw (L:=[Pt]) s7);have xj:=si.same s7;have go:∀{b:Addr}{o:HO},H3 b=some o->(∀φ,o≠.ext φ)->H7 b=some o:=λe ne=>s7 _ _ (kT _ _ (s5 _ _ (s4 _ _ e)) (TabSt.ne jh (s5 _ _ (s4 _ _ e)) ne));have UP:∀{b:Addr}{o:HO},H5 b=some o->(∀φ,o≠.ext φ)->H7 b=some o:=λe ne=>s7 _ _ (kT _ _ e (TabSt.ne jh e ne));have Dw:=go xg (by intro φ z;cases z);have Dx:=s5 _ _ UN;have lp:l≠G:=(aH e1 n2).symm;refine⟨Dw,bY (by omega),?_⟩;have hu:∀{b:Addr}{o o':HO},H7 b=some o->b≠G->upd H7 G o' b=some o:=λe ne=>aw e ne;have af:tp≠G:=λz=>by rw[z,kT _ _ Dx (TabSt.ne jh Dx (by intro φ z;cases z))]at n7;cases n7
   have a9:t≠G:=λz=>by rw[z,Dx]at n6;cases n6
   refine⟨_,r,zs++[.ref tp],es++[(n,tr)],rfl,?_,?_,hu (go UM (by intro φ z;cases z)) lp,av rO λ_ _ yy=>?_,aB,?_,by rw[bI,il];rfl,?_⟩
   . refine λb ob Y=>?_;have:=m7 b ob Y;have nb:b∉[Pt]:=λz=>by unfold K71.msk at this;rw[ai z]at this;cases this
     exact cw nb (hu (bc _ _ this) λz=>by have:=bc _ _ Y;rw[z,UL]at this;cases this)
   . exact K71.TabSt.kp xj λb φ e=>hu e (be e Dw (by intro z;cases z))
   . obtain⟨l',y1,y2,O⟩:=yy;refine⟨l',y1,y2,hu (go O (by intro φ z;cases z)) λz=>?_⟩;rw[z,xg]at O;injection O with O
     injection O with O
     subst O;cases xh with
     | cons r t=>obtain⟨_,_,_,_,z,_⟩:=r;cases z
   . rw[B9 bL];refine jK ?_ (av xh λ_ _ z=>z.kp λb ob Y ne=>?_)
     . have q1:∀{b:Addr}{o:HO},H7 b=some o->b≠G->msk [G] H7 b=some o:=λe ne=>cw (by simpa using ne) e;refine⟨tp,g,t,kvs,rfl,Km m6 si n7,q1 e7 af,q1 (go hg (by intro φ z;cases z)) gp,an n (dM hn),Km m5 jh n6,q1 (s7 _ _ e6) a9,av Ag λ_ _ a2=>a2.elim λy1 a3=>a3.elim λl' a4=>a4.elim λy2 a5=>a5.elim λO y4=>⟨y1,l',y2,Km m5 jh O,q1 (s7 _ _ y4) λz=>by rw[z,Dx]at O;cases O⟩,xi,mQ,uo⟩
     have nb:b∉[G]:=λz=>by unfold K71.msk at Y;rw[ai z]at Y;cases Y
     exact cw nb (go (bc _ _ Y) ne)
   have c7:de H7 r ((us.take (i+1)).foldl (bQ ch) now):=by
    obtain⟨kr,r1,r2⟩:=c4.same s5;exact⟨kr,UP r1 (by intro φ z;cases z),av r2 λ_ _ a6=>a6.elim λa a7=>a7.elim λm a8=>a8.elim λb c=>⟨a,m,b,UP c (by intro φ z;cases z)⟩⟩
   refine de.off (K71.TabSt.kp xj λb φ e=>hu e (be e Dw (by intro z;cases z))) (de.mut Dw c7)
 rintro Z H3 ⟨u,re,zs,es,rfl,m3,kS,UM,rO,xg,xh,il,c3⟩;refine⟨q G zs es H3 UL (λb ob Y nb=>bc _ _ (m3 b ob (cw (by simpa using nb) Y))) kS xg xh (by omega)⟩
end
section
variable {xs:Lv}{ps:Lp}{ch:Ch}{cs:Cs}{ow:Ow}
seal PE PS cf PA PT PW PG gf PI fW
def Dy:Str:="step"
def iO(st:Ls):Bk:=st.map λz=>(Dy,z)
theorem f9.txt{t:Str}(h:f9 xs ps t ch cs ow):eD t:=by
 rw[h.tx,<-uy];refine FT (by decide +kernel) λr J=>?_;have l:∀{ys:Ls},(∀y∈ys,eD y)->eD (Str.join spS ys):=λh=>by rw[<-uy];exact FT (by decide +kernel) h
 rcases Hd h.so.ok.ok J with⟨e,a,b,rfl⟩ | ⟨e,a,b,rfl⟩ | ⟨p,a,rfl⟩ | ⟨x,a,rfl⟩ | ⟨x,a,rfl⟩
 . refine l λy j=>?_;simp only[aZ,fc,fe]at j
   rcases j with rfl | rfl | rfl
   . decide +kernel
   . exact a.ok
   exact tP.mpr λc G=>by have:=b.signs c G;omega
 . refine l λy j=>?_;simp only[aZ,fc,fe]at j
   rcases j with rfl | rfl | rfl
   . decide +kernel
   . exact a.ok
   exact b.ok
 . refine l λy j=>?_;simp only[aZ,fc,fe]at j
   rcases j with rfl | rfl
   . decide +kernel
   exact a.ln.ok
 . exact Bt (by decide +kernel) a.ln.ok
 exact Bt (by decide +kernel) a.ln.ok
def xk(xs:Lv)(ps:Lp)(ch:Ch)(cs:Cs)(ow:Ow)(t:Str):Prop:=∃aY bi aD,cS ch aY/\cS cs bi/\cS ow aD/\f9 xs ps t aY bi aD
theorem xk.ok{t:Str}(h:xk xs ps ch cs ow t):∃ch cs ow,f9 xs ps t ch cs ow:=h.elim λa j=>j.elim λb G=>G.elim λc J=>J.elim λ_ O=>O.elim λ_ U=>U.elim λ_ h=>⟨a,b,c,h⟩
def sw(xs:Lv)(ps:Lp)(t:Str)(fs:Tr):Prop:=∃ch cs ow tr,xk xs ps ch cs ow t/\fq xs ps ch cs ow/\zQ ps ch cs ow tr/\look fs=look tr
theorem fq.pt(h:fq xs ps ch cs ow):∀e∈ow,cz e.1:=λe j=>(h.ok.ok.ow e j).1
theorem sw.look{ns:Ls}{t:Str}{fs tr:Tr}(h:sw xs ps t fs)(G:Apart ns ps)(k:f9 xs ps t ch cs ow)(g:zQ ps ch cs ow tr):K71.look fs=K71.look tr:=by
 obtain⟨a,b,c,JZ,⟨a',b',c',U,Y,r3,J⟩,j,O,e⟩:=h;obtain⟨rfl,rfl,rfl⟩:=J.uniq k;rw[e];exact anF G U.pm.symm Y.pm.symm r3.pm.symm j.ok.d1 j.ok.d2 j.ok.d3 j.pt O g
def Dz(R:Hp)(v:V)(e:Str×Tr):Prop:=∃j g t kvs,v=.ref j/\R j=some (.tup [.ref g,.ref t])/\R g=some (.lst [.str e.1])/\cR e.1/\R t=some (.dK kvs)/\Paired (bB R) kvs e.2/\(e.2.map (·.1)).Nodup/\e.2.length<=24/\eI e.2
theorem Dz.same{R j:Hp}(s:aa R j){v:V}{e:Str×Tr}(h:Dz R v e):Dz j v e:=by
 obtain⟨tp,g,t,kvs,h1,h2,G,J,O,U,Y⟩:=h;exact⟨tp,g,t,kvs,h1,s _ _ h2,s _ _ G,J,s _ _ O,av U λ_ _=>bB.same s,Y⟩
theorem Dk.busy{fs:Tr}{bk:Bk}{H:Hp}{lp:Pos}{qu:Str}(h:Dk D x dx d b g fs bk H)(t:TabSt H Pt lp qu):jd H [x,d,b,Pt]:=λq j=>by
 obtain⟨J,d1,_⟩:=h.fi;obtain⟨tb,G,_⟩:=h.bo;obtain⟨φ,w⟩:=TabSt.at t;simp only[aZ,fc,fe]at j
 rcases j with rfl | rfl | rfl | rfl
 . exact⟨_,h.ob,by intro vs z;cases z⟩
 . exact⟨_,d1,by intro vs z;cases z⟩
 . exact⟨_,G,by intro vs z;cases z⟩
 exact⟨_,w,by intro vs z;cases z⟩
theorem TabSt.kx{fs:Tr}{bk:Bk}{H H':Hp}{lp:Pos}{qu:Str}(h:Dk D x dx d b g fs bk H)(t:TabSt H Pt lp qu)(k:∀p o,H p=some o->p≠x->p≠d->p≠b->H' p=some o):TabSt H' Pt lp qu:=by
 obtain⟨G,d1,_⟩:=h.fi;obtain⟨tb,j,_⟩:=h.bo;exact K71.TabSt.kp t λq φ e=>k _ _ e (be e h.ob (by intro z;cases z)) (be e d1 (by intro z;cases z)) (be e j (by intro z;cases z))
inductive Kn (C S T D Pt:Addr):Sp where
 | mk {H:Hp}{Q:VK}{E:XK}{G j:V}{x dx d b g:Addr}{fs:Tr}{bk:Bk}{xs:Lv}{ps:Lp}{ns:Ls}{ch:Ch}{cs:Cs}{ow:Ow} (_:lW C S (msk [x,d,b,Pt] H) G xs ps ns) (_:ip T (msk [x,d,b,Pt] H) j ch cs ow) (_:fq xs ps ch cs ow) (_:Dk D x dx d b g fs bk H) (_:fs.length<=24) (_:bk.length<=300) (_:uT xs ps (Str.empty::fL bk)) (_:TabSt H Pt fJ fo) (_:(∀t H',xk xs ps ch cs ow t->(Str.empty::fL bk).getLast?=some t->Dk D x dx d b g fs bk H'->cG x d b Pt H H'->TabSt H' Pt fJ fo->Q .non H')) (_:∀t cI st H',xk xs ps ch cs ow t->Dk D x dx d b g cI (bk++(iu,t)::iO st++[pV]) H'->cI.length<=24->sw xs ps t cI->st.length<=8->cG x d b Pt H H'->TabSt H' Pt fJ fo->Q .non H'):Kn C S T D Pt [G,.ref x,j] H Q E
theorem uU:aN [ayd,ayl,ayz,ayA,ayq,"steps",ayO,ayN,"between"] [ayd,ayl,ayz] (au HZ):=aV
theorem UQ(j:Pg K mg base Pt):aA P w K mg base aJ 8 j.DoD.f j.DoD.fd [ayd,ayl,ayz] (Kn j.C j.S j.T j.D Pt):=by
 refine j.DoD.u.okL uU ?_;intro ar A outer s H vs Q E G h xX dX;obtain @⟨_,_,_,sv,gv,x,dx,d,b,g0,fs,bk,xs,ps,ns,ch,cs,ow,hW,hG,J,hD,mQ,bb,tok,a0,q1,q2⟩:=h;refine⟨_,(ah (aI (i:=3) uU.nd rfl (Or.inl rfl) (aF (Uz j) G rfl (ao (pv 1))))
  (ah (aI (i:=4) uU.nd rfl (Or.inl rfl) (aF (RP j) G rfl (ao (pv 2))))
  (ah (cg (bS fO (aF (RP j) G rfl (ao (pv 3))) (pv 4) (bJ _))
  (al M4) cZ)
  (ah (aI (i:=5) uU.nd rfl (Or.inl rfl) (aF (apo j) G rfl (d6 (pv 0) (bK (pv 3) rfl) (pv 2))))
  (ah (aI (i:=6) uU.nd rfl (Or.inl rfl) (aF (J2 j) G rfl (aL (pv 0) (pv 2))))
  (ah (cp (nj (pv 1) j.UD.cl j.UD.mDNt (up (Kl (JG j))) G j.DNt.b .nil dv (aL bO (pv 4))))
  (ah (eK dZ rfl (cU (pv 5)) (m9 rfl (fM (bf (i:=7) uU.nd rfl (Or.inl rfl)) (fM (bf (i:=8) uU.nd rfl (Or.inl rfl)) mv)))
  (ah (cp (aF (UE (Tq j)) G rfl (aL (pv 1) (pv 8))))
   (al (cp (nj (pv 1) j.UD.cl j.UD.mDNt (up (Kl (JG j))) G j.DNt.b .nil dv (aL bO (dH mj xU xV vN bO (ao (pv 7)))))))))
  (al (cp (aF (apf j) G rfl (aL (pv 1) (pv 6)))))))))))),?_⟩
 refine af5 ?_;intro dD sS u8 u7 u6 u5 u4 u3 u2;obtain⟨tb,b1,b2⟩:=id hD.bo;obtain⟨t0,Ko⟩:∃t0,(Str.empty::fL bk).getLast?=some t0:=⟨_,List.getLast?_eq_getLast (Ez _ _)⟩;obtain⟨xn,xp,pW,DA⟩:=tok t0 (List.mem_of_getLast? Ko);have af:jd H [Pt]:=λq hq=>(hD.busy a0) q (by rw[bD.mp hq];simp);refine⟨hD.ob,b1,b2,by omega,Ko,DA,λv0 H1 s1 jv=>?_⟩;refine⟨?_⟩;dsimp only[fT,AM,ML];refine J.sho ((hG.same bc).same s1) λt aY bi aD H2 r1 r2 r3 hT s2=>?_;have hg:xk xs ps ch cs ow t:=⟨aY,bi,aD,r1,r2,r3,hT⟩;have UR:=jv [Pt] af;obtain⟨va,DB,DC,c0,h0,o0,rfl,w1,w2,w3,w4,w5,w6,w7⟩:=id UR;refine⟨?_⟩;dsimp only[fT,AM,ML];refine DA.sho ((UR.same bc).same s2) λH3 s3=>⟨rfl,⟨?_⟩⟩;have gY:=s2.trans s3;have mS:=s1.trans gY;refine bu (λh=>?_) (λh=>?_)
 . have e:=cH h;injection e with e
   exact q1 t H3 hg (e▸Ko) (hD.same mS) (.of mS) (a0.same mS)
 have m3:=dw (L:=[Pt]) mS;have less:∀{Hx:Hp},aa (msk [x,d,b,Pt] Hx) (msk [Pt] Hx):=GU (by simp);have kS:=a0.same mS;have UU:=hD.same mS;refine⟨gY _ _ (bc _ _ w1),j.UT.cl,j.UT.nC,w2,⟨?_⟩⟩;refine⟨(hW.same less).same m3,w5.same (dw gY),⟨DA.so.ok.d1,DA.so.va⟩,(hG.same less).same m3,J,kS,λl zs es U nl kT oj el ba e8=>?_⟩;have b5:cG x d b Pt H3 U:=.ofT kT;have Kp:cG x d b Pt H U:=(cG.of mS).trans b5;have sy:=UU.keepT kS oj kT;have W4:=(hW.same Kp.msk).same bc;have G4:=(hG.same Kp.msk).same bc;have cB:eY xs ps ch:=⟨J.ok.d1,J.va⟩;refine⟨W4.sh,W4.pc,W4.pcok,W4.n4,G4,J.va,cB.len W4.ap W4.n4,J.o2,J.ok.okO,λe he=>(J.ok.ok.cs e he).2.ln,oj,λt5 H5 kvs tr n5 UV jh e5 Ag xi lT uo Kq=>?_⟩;have UW:cG x d b Pt U H5:=.ofT UV;have b4:=Kp.trans UW;have rX:=sy.keepT oj jh UV;have an:=UU.busy kS;have a1:=sy.busy oj;have nb:∀{q:Addr},H3 q=none->q∉[x,d,b,Pt]:=λe=>an.free e;have R4:∀{q:Addr}{o:HO},U q=some o->H3 q=none->msk [x,d,b,Pt] U q=some o:=λe n=>cw (nb n) e;obtain⟨bh,c1,c2⟩:=id sy.bo;obtain⟨bd,c3,_⟩:=id sy.fi;have rH:Paired (Dz (msk [x,d,b,Pt] U)) zs es:=av ba λv e z=>by
  obtain⟨tp,g,tt,kk,z1,z2,z3,z4,z5,z6,z7,z8,z9⟩:=z;have O:=bc _ _ z4;obtain⟨φ,wφ⟩:=TabSt.at oj;have gn:g∉[x,d,b,Pt]:=λm=>by
   simp only[aZ,fc,fe]at m
   rcases m with m | m | m | m
   . rw[m,sy.ob]at O;cases O
   . rw[m,c3]at O;cases O
   . exact UA (ls:=[e.1]) c1 c2 (.inr (by simp)) O m
   rw[m,wφ]at O;cases O
  exact⟨tp,g,tt,kk,z1,R4 (bc _ _ z3) z2,cw gn O,z5,R4 (bc _ _ z7) z6,av z8 λ_ _ a3=>a3.elim λy1 a4=>a4.elim λl' a5=>a5.elim λy2 a6=>a6.elim λy3 y4=>⟨y1,l',y2,R4 (bc _ _ y4) y3⟩,z9⟩
 have l4:msk [x,d,b,Pt] U l=some (.lst zs):=R4 el nl;have UX:t5∉[x,d,b,Pt]:=a1.free n5;have gt:Paired (bB (msk [x,d,b,Pt] H5)) kvs tr:=av Ag λ_ _ a7=>a7.elim λy1 a8=>a8.elim λl' a9=>a9.elim λy2 ab=>ab.elim λy3 y4=>⟨y1,l',y2,cw (a1.free y3) y4⟩;have a':msk [x,d,b,Pt] H5 t5=some (.dK kvs):=cw UX e5;have ax:d≠t5:=λz=>UX (by rw[<-z];simp);refine⟨rX.ob,rfl,rX,by omega,(by decide +kernel),hT.txt,λH6 b0 UY=>?_⟩;have Kr:cG x d b Pt H5 H6:=λq o e _ _ n3 _=>UY q o e n3;have si:TabSt H6 Pt fJ fo:=K71.TabSt.kx rX jh λp o e _ _ n3=>UY p o e n3;have Ks:=(UW.trans Kr).msk;have b7:=Kr.msk;have zl:=bA rH;refine⟨⟨_,ac.of (bc _ _ (Ks _ _ l4))⟩,?_⟩;refine ib (xs:=zs) (λi Z H7=>∃u v Ah st,Z=[some sv,some (.ref x),some gv,some (.ref va),some (.str t),some (.ref l),some (.ref t5),u,v]/\cG x d b Pt H6 H7/\TabSt H7 Pt fJ fo/\Dk j.D x dx d b g0 Ah (bk++(iu,t)::iO st) H7/\st.length=i/\Ah.length<=24)
  ⟨none,none,fs,[],rfl,.of (aa.refl _),si,b0,rfl,mQ⟩ ?_ ?_ ?_
 . rintro i Z H7 hi ⟨u,v,Ah,st,rfl,Y,_⟩;exact ac.of (bc _ _ ((Ks.trans Y.msk) _ _ l4))
 . intro i z Z H7 hz hQ;refine bq ?_;intro tT;obtain⟨u,v,Ah,st,rfl,Y,xj,su,il,aR⟩:=hQ;obtain⟨e,he,hE⟩:=eN rH hz;have aO:=(dg.mp hz).1;obtain⟨tp,g,tt,kk,rfl,z2,z3,z4,z5,z6,z7,z8,z9⟩:=hE.same (Ks.trans Y.msk);have bn:bk++(iu,t)::iO st≠[]:=by simp
   have lb:(bk++(iu,t)::iO st).length<=309:=by
    rw[bI,cT];unfold iO;rw[aj];omega
   have az:d≠tt:=λz=>by
    obtain⟨kd,d1,_⟩:=id su.fi;have:=z5;unfold msk at this;rw[ai (by rw[<-z];simp)]at this;cases this
   refine⟨aX.of (bc _ _ z2),rfl,rfl,?_⟩;refine ju ?_
   intros
   refine⟨su,bn,bc _ _ z5,az,av z6 λ_ _=>bB.same bc,z7,z9,C9 (by omega),λKt H8 tR UZ aC Ai=>?_⟩;have DD:cG x d b Pt H7 H8:=λq o e _ n2 _ _=>Ai q o e n2;have g8:=bc _ _ (DD.msk _ _ z3);have a2:TabSt H8 Pt fJ fo:=K71.TabSt.kx su xj λp o e _ n2 _=>Ai p o e n2;refine⟨tR.ob,rfl,rfl,[e.1],ac.of g8,?_,?_⟩
   . have:=z4.hi;show e.1.length+0+1 * (Str.ofString " ").length<=16777216;have:(Str.ofString " ").length=1:=by decide +kernel
     omega
   refine⟨tR,by omega,(by decide +kernel),FT (by decide +kernel) (λy hy=>by rw[bD.mp hy];exact z4.ok),λH9 b3 U0=>?_⟩;have b6:cG x d b Pt H8 H9:=λq o e _ _ n3 _=>U0 q o e n3;refine⟨_,_,Kt,st++[Txt.join " " [e.1]],rfl,Y.trans (DD.trans b6),K71.TabSt.kx tR a2 λp o e _ _ n3=>U0 p o e n3,?_,by rw[bI,il];rfl,by omega⟩;have eb:bk++(iu,t)::iO st++[(Dy,Txt.join " " [e.1])]=bk++(iu,t)::iO (st++[Txt.join " " [e.1]]):=by unfold iO;rw[dP,j7];rfl
   rw[<-eb];exact b3
 rintro Z H7 ⟨u,v,Ah,st,rfl,Y,xj,su,il,aR⟩;have bn:bk++(iu,t)::iO st≠[]:=by simp
 have lb:(bk++(iu,t)::iO st).length<=309:=by
  rw[bI,cT];unfold iO;rw[aj];omega
 have U1:=b7.trans Y.msk;refine⟨su,bn,by omega,bc _ _ (U1 _ _ a'),ax,av gt λ_ _ z=>(bB.same U1 z).same bc,xi,uo,C9 (by omega),λKt H8 tR UZ aC Ai=>?_⟩;have DD:cG x d b Pt H7 H8:=λq o e _ n2 n3 _=>Ai q o e n2 n3;exact q2 t Kt st H8 hg tR (by omega) ⟨ch,cs,ow,tr,hg,J,Kq,UZ⟩ (by omega) (b4.trans (Kr.trans (Y.trans DD))) (K71.TabSt.kx su xj λp o e _ n2 n3=>Ai p o e n2 n3)
end
section
seal PE PS cf PA PT PW PG gf PI fW
inductive U2 (C T:Addr):Sp where
 | mk {H:Hp}{Q:VK}{E:XK}{a n:Addr}{j:Int}{xs:Lv}{ps:Lp}{ns:Ls} (_:H a=some (.lst xs)) (_:dY C H xs ps) (_:ps.length<=100) (_:(∀p∈ps,cR p.nm/\fZ p.ms)) (_:H n=some (.lst (ns.map V.str))) (_:1<=ns.length) (_:ns.length<=4) (_:(∀n∈ns,cR n)) (_:∀v ch cs ow H',aa H H'->(∀L,jd H L->ip T (msk L H') v ch cs ow)->fq xs ps ch cs ow->(∀e∈ow,e.2.1.length<=4/\e.2.2.length<=4)->ow.length<=2->Q v H'):U2 C T [.ref a,.ref n,.int j] H Q E
theorem pX:aN [ayp,aym,ayb,ayD,"_law_choices",ayV,ayv,"_law_common",ayc,"_law_base"] [ayp,aym,ayb] (au Il):=aV
theorem ap3(j:Pg K mg base Pt):aA P w K mg base aJ 4 j.LSt.f j.LSt.fd [ayp,aym,ayb] (U2 j.C j.T):=by
 refine j.LSt.u.okL pX ?_;intro ar A outer s H vs Q E G h xX dX;obtain @⟨_,_,_,a,n,a0,xs,ps,ns,ha,bG,wJ,Ku,hn,n1,n4,a4,q⟩:=h;have hu:=G.units;refine⟨_,(ah (aI (i:=3) pX.nd rfl (Or.inl rfl) (aF (alO j) G rfl (d6 (pv 0) (pv 1) (aF (gG j) G rfl (aL (pv 2) am)))))
  (ah (aI (i:=4) pX.nd rfl (Or.inl rfl) kC)
  (ah (aI (i:=5) pX.nd rfl (Or.inl rfl) kC)
  (ah (eK dZ rfl (oM rfl j.B.range (ao (aE cy (aF (gG j) G rfl (aL (pv 2) am)) am))) (bf (i:=6) pX.nd rfl (Or.inl rfl))
  (ah (aI (i:=7) pX.nd rfl (Or.inl rfl) (bP fV (pv 1) (aE cy (aF (gG j) G rfl (aL (pv 2) (aE gj am (pv 6)))) (c8 ig (by rfl) j.B.len gA (ao (pv 1)))) (λ_ _=>rfl)))
   (al (iC hu (pv 4) (pv 7) (bP fV (pv 1) (aE cy (aF (gG j) G rfl (aL (pv 2) (aE gj am (pv 6)))) (c8 ig (by rfl) j.B.len gA (ao (pv 1)))) (λ_ _=>rfl)) rfl))))
  (ah (eK dZ rfl (oM rfl j.B.range (ao (aE cy (aF (gG j) G rfl (aL (pv 2) am)) am))) (bf (i:=6) pX.nd rfl (Or.inl rfl))
  (ah (aI (i:=8) pX.nd rfl (Or.inl rfl) (aF (gG j) G rfl (aL (pv 2) (aE gj am (pv 6)))))
   (ah (aI (i:=9) pX.nd rfl (Or.inl rfl) (aF (Cw j) G rfl (ao (aF (gG j) G rfl (aL (pv 2) (aE gj am (pv 6)))))))
   (al (iC hu (pv 5) (aF (ID j) G rfl (ao (pv 8))) (eT (aL (pv 9) (aF (Cw j) G rfl (ao (aF (gG j) G rfl (aL (pv 2) (aE gj am (pv 6)))))))) rfl)))))
  (al (aT (tI j.MTIn (up (CB j)) G rfl j.UT.mgC j.TIn.b .nil dv (d6 (pv 3) (pv 4) (pv 5)))))))))),?_⟩
 refine yE ?_;intro dD sS u6 u5 u4 u3 u2;have name:∀r:Int,∃z,cQ (ns.map V.str) (r % ((ns.map V.str).length:Int))=some (V.str z)/\cR z:=λr=>by
  have hl:((ns.map V.str).length:Int)=ns.length:=by rw[aj]
  rw[hl];have h0:=vi r (show(ns.length:Int)≠0 by omega);have h1:=xO r (show(0:Int)<ns.length by omega);obtain⟨z,hz,zm⟩:=tV (xs:=ns) (r:=r % (ns.length:Int)) h0 h1;exact⟨z,hz,a4 z (dM zm)⟩
 have U3:(0:Int)<((ns.map V.str).length:Int):=by rw[aj];omega
 refine⟨⟨⟨⟨λm0=>?_⟩⟩⟩⟩;refine⟨ha,bG,wJ,hn,n4,λdc H1 ch nc s1 hc hv nd c4=>?_⟩;refine λdh H2 nh U e2=>?_;refine λdO H3 no s3 e3=>?_;have gY:=s1.trans (U.trans s3);obtain⟨kc,fE,jB⟩:=id hc;have P0:lX H H3 dc dh dO ch [] []:=⟨gY,nc,s1.free nh,(s1.trans U).free no,aH fE nh,aH (U _ _ fE) no,aH e2 no,hc.same (U.trans s3),⟨[],s3 _ _ e2,.nil⟩,⟨[],e3,.nil⟩⟩;have o0:lY ch [] [] 4 0 0:=⟨⟨λe he=>?_,(λ_ h=>nomatch h),(λ_ h=>nomatch h)⟩,nd,kY,kY,c4,aG _,aG _,(λ_ h=>nomatch h)⟩
 rotate_left
 . obtain⟨v,p,hi,e1,e2⟩:=hv e he;obtain⟨a1,a2⟩:=Ku p (Kd hi);exact⟨e1▸a1,e2▸a2⟩
 refine⟨⟨λm1=>?_⟩⟩;refine⟨(by show(0:Int)<3;decide),by omega,by omega,?_⟩;refine vx (λi Z H4=>∃u v cs,Z=[some (.ref a),some (.ref n),some (.int a0),some (.ref dc),some (.ref dh),some (.ref dO),u,v,none,none]/\lX H H4 dc dh dO ch cs []/\lY ch cs [] 4 i 0) ⟨none,none,[],rfl,P0,o0⟩ ?_ ?_
 . intro i Z H4 hi J;refine bq ?_;intro tT;obtain⟨u,v,cs,rfl,N,ok⟩:=J;have O:=N.old _ _ hn;refine⟨⟨⟨⟨⟨λm2=>?_⟩⟩⟩⟩⟩;obtain⟨z1,wQ,a5⟩:=name m2;refine⟨n,_,rfl,.inl (ac.of O),U3,ac.of O,wQ,?_⟩;refine⟨⟨⟨⟨⟨λm3=>?_⟩⟩⟩⟩⟩;obtain⟨z2,Kv,a6⟩:=name m3;obtain⟨kh,c1,c2⟩:=id N.cs;have lc:=bA c2;have:=ok.n2;refine⟨n,_,rfl,.inl (ac.of O),U3,ac.of O,Kv,fB.k (k:=.inr z1) c1 (bY (by omega)),?_⟩;exact⟨_,_,_,rfl,N.putH c1,ok.putH a5 a6⟩
 intro Z H4 J;refine bq ?_;intro tT;obtain⟨u,v,cs,rfl,N4,a7⟩:=J;refine⟨⟨λm5=>?_⟩⟩;refine⟨(by show(0:Int)<3;decide),by omega,by omega,?_⟩;refine vx (λi Z H5=>∃u x8 x9 ow,Z=[some (.ref a),some (.ref n),some (.int a0),some (.ref dc),some (.ref dh),some (.ref dO),u,v,x8,x9]/\lX H H5 dc dh dO ch cs ow/\lY ch cs ow 4 4 i) ⟨u,none,none,[],rfl,N4,a7.mono (aG _) (by omega) (aG _)⟩ ?_ ?_
 . intro i Z H5 hi J;refine bq ?_;intro tT;obtain⟨u,x8,x9,ow,rfl,N,ok⟩:=J;refine⟨⟨⟨⟨λm6=>?_⟩⟩⟩⟩;refine⟨⟨⟨⟨λm7=>⟨λl1 H6 a8 ab s6 e6 k6 o6=>?_⟩⟩⟩⟩⟩;refine⟨⟨⟨⟨⟨λm8=>⟨λl2 H7 a9 af s7 e7 k7 o7=>?_⟩⟩⟩⟩⟩⟩;refine⟨An,λt H8 nt s8 e8=>?_⟩;refine⟨⟨⟨λpt H9 sG Y=>?_⟩⟩⟩;have N9:=N.same (s6.trans (s7.trans (s8.trans Y)));obtain⟨ko,c1,c2⟩:=id N9.ow;have lc:=bA c2;have:=ok.n3;refine⟨fB.k (k:=.inr pt) c1 (bY (by omega)),?_⟩;exact⟨_,_,_,_,rfl,N9.putO c1 (Y _ _ e8) ((s7.trans (s8.trans Y)) _ _ e6) ((s8.trans Y) _ _ e7),ok.putO sG o6 o7 k6 k7⟩
 intro Z H5 J;refine bq ?_;intro tT;obtain⟨u,x8,x9,ow,rfl,N,ok⟩:=J;have o2:ow.length<=2:=b8 ok.n3 (by omega);refine⟨⟨⟨?_⟩⟩⟩;refine CF (T:=j.T) N.ch N.cs N.ow ok.d3 (by omega) λx H6 nx s6 fg=>?_;refine q (.ref x) ch cs ow H6 (N.old.trans s6) (λL hL=>fg L λb hb=>(hL b hb).elim λo a3=>a3.elim λe n=>⟨o,N.old b o e,n⟩) ⟨⟨ok.ok,ok.d1,ok.d2,ok.d3,ok.n1,ok.n2,by omega,λe he=>by have:=ok.ln e he;omega⟩,hv,by omega⟩ ok.ln o2
inductive U4:Sp where
 | mk {H:Hp}{Q:VK}{E:XK}{x:Str} (_:x.length<=90000) (_:∀H',aa H H'->Q (.bl (nX x)) H'):U4 [.str x] H Q E
theorem ap9:aN [ayq] [ayq] (au Im):=aV
theorem aqa(j:Pg K mg base Pt):aA P w K mg base aJ 1 j.IsN.f j.IsN.fd [ayq] U4:=by
 obtain⟨t8,O⟩:=j.K0.let8;refine j.IsN.u.okL ap9 ?_;intro ar A outer s H vs Q E hr h xX dX;obtain @⟨_,_,_,x,hx,q⟩:=h;refine⟨_,(al (aT (ye (NC yg EY am (c8 Fk (by rfl) j.B.len gA (ao (pv 0))) (vw (v:=.int 8) (by rfl) O ⟨_,rfl⟩))
  (qN (c8 (QE K) (by rfl) j.B.all awM (ao (gE ["sign"] [] [] eF rfl (ah3 (pv 0)) (λ_ _ _ _=>(bf (i:=0) (show List.Nodup (["sign"]:Ls) by decide +kernel) rfl (Or.inl rfl))) (λ_ _ _ _=>gQ) (λ_ _ _ _=>(NC QA QA bO (pv 0) bO))))))))),?_⟩
 refine⟨_,rfl,dW (by omega),⟨⟨?_⟩⟩⟩;refine bu (λh1=>?_) (λh1=>?_)
 . refine⟨⟨?_⟩⟩;refine bu (λh2=>?_) (λh2=>?_)
   . refine⟨x,rfl,?_⟩;refine aig (σ0:=[none]) (λZ=>∃v,Z=[v]) (λc=>.bl (rB aS zS c)) (dW (by show x.length<=_;omega)) ⟨_,rfl⟩ ?_ ?_
     . intro c Z H2 k hc U hs Y;obtain⟨v,rfl⟩:=U;refine⟨_,_,rfl,rfl,⟨?_⟩⟩;have G:=Y [some (.str (ri c))] H2 ⟨_,rfl⟩ (aa.refl _);refine bu (λJ=>?_) (λJ=>?_)
       . refine⟨_,_,rfl,rfl,?_⟩;rw[show rB aS zS c=yY (ri c) zS from ai J]at G;exact G
       rw[show rB aS zS c=false from ag J]at G;exact G
     intro D H2 hD hd hs;refine⟨D,_,rfl,ac.of (by rw[hd,ajR]),?_⟩;have:=q H2 hs;unfold nX at this;rw[Ry];rw[bN ⟨by have:=cH h1;omega,by have:=cH h2;omega⟩,xK]at this;exact this
   have:=q H (aa.refl _);unfold nX at this;rw[cx (λz=>h2 (bN (by have:=z.2;omega))),Ei]at this;exact this
 refine⟨?_⟩;have:=q H (aa.refl _);unfold nX at this;rw[cx (λz=>h1 (bN (by have:=z.1;omega))),Ei]at this;exact this
inductive U5:Sp where
 | mk {H:Hp}{Q:VK}{E:XK}{x:Str} (_:x.length<=80000) (_:∀H',aa H H'->Q (.bl (kH x)) H'):U5 [.str x] H Q E
theorem U6:aN [ayq,"parts"] [ayq] (au Io):=aV
theorem aqb(j:Pg K mg base Pt):aA P w K mg base aJ 2 j.IsP.f j.IsP.fd [ayq] U5:=by
 obtain⟨t4,Y⟩:=j.K0.pw4;refine j.IsP.u.okL U6 ?_;intro ar A outer s H vs Q E hr h xX dX;obtain @⟨_,_,_,x,hx,q⟩:=h;refine⟨_,(ah (aI (i:=1) U6.nd rfl (Or.inl rfl) (dH mj MF MG B0 (pv 0) (ao bO)))
  (al (aT (ye (oN EY (c8 ig (by rfl) j.B.len gA (ao (pv 1))) (vw (v:=.int 4) (by rfl) Y ⟨_,rfl⟩) (bJ _))
  (qN (c8 (QE K) (by rfl) j.B.all awM (ao (gE ["part"] [] [] eF rfl (cU (pv 1)) (λ_ _ _ _=>(bf (i:=0) (show List.Nodup (["part"]:Ls) by decide +kernel) rfl (Or.inl rfl))) (λ_ _ _ _=>gQ) (λ_ _ _ _=>(aF (aqa j) hr rfl (ao (pv 0)))))))))))),?_⟩
 refine ju ?_;intro dD sS eh;refine⟨rfl,x,lN,rfl,rfl,by decide +kernel,dW (by omega),λl H1 n1 U e1=>?_⟩;refine⟨l,_,rfl,.inl (ac.of e1),⟨⟨?_⟩⟩⟩;refine bu (λh1=>?_) (λh1=>?_)
 . refine⟨⟨_,ac.of e1⟩,?_⟩;refine vZ (σ0:=[none]) (ac.of e1) (λZ=>∃v,Z=[v]) (((Txt.split x lN).map nX).map V.bl) (by rw[aj,aj,aj]) (dW (by rw[aj];have:=split_le x lN;omega)) ⟨_,rfl⟩ ?_ ?_
   . intro i z y Z H2 k hz O hQ hs hk;obtain⟨v,rfl⟩:=hQ;obtain⟨p,J,rfl⟩:=jg hz;rw[mi]at O;obtain⟨p',G,rfl⟩:=jg O;rw[J]at G;cases G;refine⟨?_,λH' s'=>hk _ _ ⟨_,rfl⟩ s'⟩;have:=IE (dM J);omega
   intro D H2 hD hd hs;refine⟨D,_,rfl,ac.of hd,?_⟩;have:=q H2 (U.trans hs);unfold kH at this;rw[Ry];rw[bN (by have:=cH h1;rw[aj]at this;omega),xK]at this;exact this
 have:=q H1 U;unfold kH at this;rw[cx (λz=>h1 (bN (by rw[aj];omega))),Ei]at this;exact this
inductive U8 (j:Addr):Sp where
 | mk {H:Hp}{Q:VK}{E:XK}{x:Str} (_:eD x) (_:x.length<=1000) (_:(kH x=true->∀H',aa H H'->Q .non H')) (_:(kH x=false->∀H',aa H H'->E (.ref j) none H')):U8 j [.str x] H Q E
theorem aqc:aN [aye] [aye] (au Iq):=aV
theorem U9(j:Pg K mg base Pt):aA P w K mg base (pj P w) 3 j.AsP.f j.AsP.fd [aye] (U8 j.NP):=by
 refine j.AsP.u.okR aqc (λvs H Q E h=>?_) (λY A outer s H vs Q E J h=>?_)
 . cases h;rfl
 obtain @⟨_,_,_,x,ok,l,O,U⟩:=h;refine⟨_,(al (cg (PW.pt (yc (yd (mr (c8 adj (by rfl) j.B.isinstance YA (aL (pv 0) (Zb (v:=.ty "str") rfl j.B.str awG rfl))))) (Ba (yd (mr (aF (aqb j) J rfl (ao (pv 0))))))))
  (al (agi j.R.xc j.R.mP (vS bO (aiq (pv 0))))) cZ)),?_⟩
 refine⟨_,_,_,_,rfl,.str _,rfl,⟨?_⟩⟩;refine eL ?_;refine⟨by omega,λH1 G=>⟨?_⟩⟩;cases e:kH x with
 | true=>exact eL (O e H1 G)
 | false=>
  refine gm ?_;have e1:(Str.ofString "no path: ").length=9:=by decide +kernel
  refine⟨jF (by omega),x,rfl,ok,by omega,λz hz=>⟨z,rfl,?_,aG 1,U e H1 G⟩⟩;exact dW (by omega)
inductive Va:Sp where
 | mk {H:Hp}{Q:VK}{E:XK}{d:Addr}{k:Str}{e:V}{kvs:List (ak×V)} (_:H d=some (.dK kvs)) (_:kvs.length<=500) (_:(e=.non->∀d' H',H d'=none->aa H H'->H' d'=some (.dK (if (bg kvs (.inr k)).isSome=true then ny kvs (.inr k) else kvs))->Q (.ref d') H')) (_:(e≠.non->∀d' H',H d'=none->aa H H'->H' d'=some (.dK (cL kvs (.inr k) e))->Q (.ref d') H')):Va [.ref d,.str k,e] H Q E
theorem Vb:aN ["entries","key","entry","changed"] ["entries","key","entry"] (au Ir):=aV
theorem Vc(G:Pg K mg base Pt):aA P w K mg base aJ 1 G.WEn.f G.WEn.fd ["entries","key","entry"] Va:=by
 refine G.WEn.u.okL Vb ?_;intro ar A outer s H vs Q E hr h xX dX;obtain @⟨_,_,_,d,k,e,kvs,hd,l,j,q2⟩:=h;have Y:=hr.units;refine⟨_,(ah (aI (i:=3) Vb.nd rfl (Or.inl rfl) (dR vO (by rfl) G.B.dict AY (ao (pv 0))))
  (ah (cg (bS Ny (pv 2) jq (bJ _))
  (al (iC Y (pv 3) (pv 1) (pv 2) rfl)) (al (cg (oH (tN Y (pv 1) (pv 3)) (by rfl))
   (al (cp (Br (pv 3) (pv 1) ⟨rfl,rfl,rfl,rfl⟩))) cZ)))
  (al (aT (pv 3))))),?_⟩
 refine⟨d,_,rfl,hd,λO H1 n1 U e1=>?_⟩;refine⟨rfl,⟨?_⟩⟩;refine bu (λh=>?_) (λh=>?_)
 . have ne:e≠.non:=λz=>by rw[z]at h;cases h
   refine⟨fB.k (k:=.inr k) e1 (bY (by omega)),?_⟩;exact⟨q2 ne O _ n1 (eM U n1) aB⟩
 have en:e=.non:=Yw λz=>h (by rw[cx z];rfl);have j:=j en;refine⟨_,cn.k (k:=.inr k) e1,⟨?_⟩⟩;cases J:bg kvs (.inr k) with
 | none=>
  refine eL ⟨j O H1 n1 U (by rw[J];exact e1)⟩
 | some v=>
  refine gm ?_;refine⟨.inl ⟨_,.inl e1⟩,kvs,.inr k,v,e1,rfl,J,?_⟩;exact⟨j O _ n1 (eM U n1) (by rw[J];exact aB)⟩
variable {xs:Lv}{ps:Lp}
theorem aqd(bk:Bk):∀st:Ls,fL (bk++iO st)=fL bk:=λst=>by
 unfold fL iO;rw[MK,dP];have e:(st.map λz=>(Dy,z)).filter (λe=>decide (e.1=iu))=[]:=by
  rw[List.filter_eq_nil_iff];intro e j;obtain⟨z,_,rfl⟩:=cC.mp j;exact λh=>absurd (cH h) (show Dy≠iu by decide +kernel)
 rw[e];exact jX _
theorem Vd(bk:Bk)(t:Str)(st:Ls):fL (bk++(iu,t)::iO st++[pV])=fL bk++[t]:=by
 have e:bk++(iu,t)::iO st=(bk++[(iu,t)])++iO st:=by rw[j7];rfl
 rw[Kj,ag (show pV.1≠iu by decide +kernel),e,aqd,Kj,ai rfl]
theorem aqe(bk:Bk):uR (bk++[pV])=true:=by
 unfold uR;rw[Yz,awL,Option.some_or];exact bN rfl
theorem uT.snoc{bk:Bk}{t:Str}(h:uT xs ps (Str.empty::fL bk))(k:∃ch cs ow,f9 xs ps t ch cs ow):uT xs ps (Str.empty::(fL bk++[t])):=λy j=>by
 rcases aZ.mp j with z | z
 . exact h y (by rw[z];exact bL)
 rcases bR.mp z with z | z
 . exact h y (bT _ z)
 rw[bD.mp z];exact k
theorem aqf(a:Str)(l:Ls)(t:Str):(a::(l++[t])).getLast?=some t:=by
 rw[<-AM,Yz];rfl
structure DU(D x dx d b gg Pt:Addr)(xs:Lv)(ps:Lp)(t:Str)(ch:Ch)(cs:Cs)(ow:Ow)(fs:Tr)(bk:Bk)(H:Hp):Prop where
 dk:Dk D x dx d b gg fs bk H
 la:(Str.empty::fL bk).getLast?=some t
 tx:f9 xs ps t ch cs ow
 tk:uT xs ps (Str.empty::fL bk)
 up:uR bk=true
 fu:sw xs ps t fs
 ln:fs.length<=24
 tb:TabSt H Pt fJ fo
theorem DU.same{t:Str}{ch:Ch}{cs:Cs}{ow:Ow}{fs:Tr}{bk:Bk}{H H':Hp}(h:DU D x dx d b gg Pt xs ps t ch cs ow fs bk H)(s:aa H H'):DU D x dx d b gg Pt xs ps t ch cs ow fs bk H':=⟨h.dk.same s,h.la,h.tx,h.tk,h.up,h.fu,h.ln,h.tb.same s⟩
theorem DU.busy{t:Str}{ch:Ch}{cs:Cs}{ow:Ow}{fs:Tr}{bk:Bk}{H:Hp}(h:DU D x dx d b gg Pt xs ps t ch cs ow fs bk H):jd H [x,d,b,Pt]:=h.dk.busy h.tb
def xq(j:V)(x:Addr):List (Str×V):=[(ayd,j),(ayl,.ref x)]
structure HW(Hc C S h bC x:Addr)(sv:V)(xs:Lv)(ps:Lp)(ns:Ls)(R:Hp):Prop where
 ob:R h=some (.ins Hc bC (xq sv x))
 wl:lW C S R sv xs ps ns
theorem HW.same{G:V}{ns:Ls}{R j:Hp}(z:HW Hc C S h bC x G xs ps ns R)(s:aa R j):HW Hc C S h bC x G xs ps ns j:=⟨s _ _ z.ob,z.wl.same s⟩
inductive Ve (C S T D Pt:Addr):Sp where
 | mk {H:Hp}{Q:VK}{E:XK}{J G:V}{x dx d b gg:Addr}{fs:Tr}{bk:Bk}{xs:Lv}{ps:Lp}{ns:Ls}{t:Str}{U ch:Ch}{Y cs:Cs}{O ow:Ow} (_:lW C S (msk [x,d,b,Pt] H) J xs ps ns) (_:ip T (msk [x,d,b,Pt] H) G ch cs ow) (_:fq xs ps ch cs ow) (_:DU D x dx d b gg Pt xs ps t U Y O fs bk H) (_:bk.length<=300) (_:∀t' aY bi aD cI j H',cS ch aY->cS cs bi->cS ow aD->DU D x dx d b gg Pt xs ps t' aY bi aD cI j H'->j.length<=bk.length+10->cG x d b Pt H H'->Q .non H'):Ve C S T D Pt [J,.ref x,G] H Q E
theorem Vf{k:Nat}(G:aA P w K mg base aJ k f fd [ayd,ayl,ayz] (Kn C S T D Pt)):aA P w K mg base aJ k f fd [ayd,ayl,ayz] (Ve C S T D Pt):=by
 refine G.imp λvs H Q E h=>?_;obtain @⟨_,_,_,sv,gv,x,dx,d,b,gg,fs,bk,xs,ps,ns,t,xn,ch,xp,cs,pW,ow,hW,hG,so,h,l3,q⟩:=h;refine⟨hW,hG,so,h.dk,h.ln,l3,h.tk,h.tb,λt' H' j hl J k tb=>?_,λt' cI st H' j J a0 fu l8 k tb=>?_⟩
 . obtain⟨aY,bi,aD,U,Y,r3,O⟩:=j;rw[h.la]at hl;cases hl;exact q t aY bi aD fs bk H' U Y r3 ⟨J,h.la,O,h.tk,h.up,h.fu,h.ln,tb⟩ (Nat.le_add_right _ _) k
 obtain⟨aY,bi,aD,U,Y,r3,O⟩:=id j;refine q t' aY bi aD cI _ H' U Y r3 ⟨J,by rw[Vd];exact aqf _ _ _,O,by rw[Vd];exact uT.snoc h.tk j.ok,aqe _,fu,a0,tb⟩ ?_ k;rw[bI,bI,cT,kW];unfold iO;rw[aj];omega
inductive Kw (Hc:Addr):Sp where
 | mk {H:Hp}{Q:VK}{E:XK}{h j x:Addr}{G:V} (_:H h=some (.ins Hc j [])) (_:∀H',H' h=some (.ins Hc j (xq G x))->(∀p o,H p=some o->p≠h->H' p=some o)->Q .non H'):Kw Hc [.ref h,G,.ref x] H Q E
theorem aqh:aN [aya,ayd,ayl] [aya,ayd,ayl] (au wq):=aV
theorem aqi(j:Pg K mg base Pt):aA P w K mg base aJ 1 j.HIn.f j.HIn.fd [aya,ayd,ayl] (Kw j.Hc):=by
 refine j.HIn.u.okL aqh ?_;intro O J outer s H vs Q E hr h xX Y;obtain @⟨_,_,_,h,U,x,sv,G,q⟩:=h;refine⟨_,(ah (iW (pv 0) (pv 1) rfl)
  (al (iW (pv 0) (pv 2) rfl))),?_⟩
 refine⟨G,j.UH.cl,j.UH.nS,by decide,?_⟩;refine⟨aB,j.UH.cl,j.UH.nD,by show 1<1000;decide,?_⟩;exact q _ aB λp o e n=>aw (aw e n) n
inductive Vg (Hc D:Addr):Sp where
 | mk {H:Hp}{Q:VK}{E:XK}{h j x dx d b gg:Addr}{G:V}{fs:Tr}{bk:Bk} (_:H h=some (.ins Hc j (xq G x))) (_:Dk D x dx d b gg fs bk H) (_:∀H',aa H H'->Q (.bl (uR bk)) H'):Vg Hc D [.ref h] H Q E
theorem aqj:aN [aya] [aya] (au wt):=aV
theorem aqk(j:Pg K mg base Pt):aA P w K mg base aJ 6 j.HUp.f j.HUp.fd [aya] (Vg j.Hc j.D):=by
 refine j.HUp.u.okL aqj ?_;intro ar Ar outer s H vs Q E Y h xX dX;obtain @⟨_,_,_,h,bC,x,dx,d,b,gg,sv,fs,bk,U,G,q⟩:=h;obtain⟨tb,J,O⟩:=id G.bo;exact⟨_,(al (aT (aF (aoS j) Y rfl (ao (bK (pv 0) rfl))))),U,j.UH.cl,j.UH.nD,rfl,G.ob,J,O,G.bt,q⟩
inductive Kx (Hc T D Pt:Addr):Sp where
 | mk {H:Hp}{Q:VK}{E:XK}{h j x dx d b gg:Addr}{G:V}{fs:Tr}{bk:Bk}{xs:Lv}{ps:Lp}{t:Str}{ch:Ch}{cs:Cs}{ow:Ow} (_:H h=some (.ins Hc j (xq G x))) (_:DU D x dx d b gg Pt xs ps t ch cs ow fs bk H) (_:bk.length<=500) (_:∀v H',aa H H'->(∀L,jd H L->ip T (msk L H') v ch cs ow)->Q v H'):Kx Hc T D Pt [.ref h] H Q E
theorem aql:aN [aya] [aya] (au wu):=aV
theorem Aj(j:Pg K mg base Pt):aA P w K mg base aJ 6 j.HSt.f j.HSt.fd [aya] (Kx j.Hc j.T j.D Pt):=by
 refine j.HSt.u.okL aql ?_;intro ar Ar outer s H vs Q E Y h xX dX;obtain @⟨_,_,_,h,bC,x,dx,d,b,gg,sv,fs,bk,xs,ps,t,ch,cs,ow,U,G,l5,q⟩:=h;obtain⟨tb,J,O⟩:=id G.dk.bo;exact⟨_,(al (aT (aF (Uz j) Y rfl (ao (bK (pv 0) rfl))))),U,j.UH.cl,j.UH.nD,rfl,G.dk.ob,J,O,l5,G.la,G.tx,q⟩
theorem aqm:aN [aya] [aya] (au wv):=aV
theorem Vh(j:Pg K mg base Pt):aA P w K mg base aJ 7 j.HSK.f j.HSK.fd [aya] (Kx j.Hc j.T j.D Pt):=by
 refine j.HSK.u.okL aqm ?_;intro ar Ar outer s H vs Q E U h xX dX;obtain @⟨_,_,_,h,bC,x,dx,d,b,gg,sv,fs,bk,xs,ps,t,ch,cs,ow,J,O,l5,q⟩:=h;refine⟨_,(ah (cg (yd (mr (iz (pv 0) j.UH.cl j.UH.mUp (up (aqk j)) U j.HUp.b .nil dv)))
  (al M7) cZ)
  (al (aT (iz (pv 0) j.UH.cl j.UH.mSt (up (Aj j)) U j.HSt.b .nil dv)))),?_⟩
 refine⟨J,rfl,J,O.dk,λH1 G=>⟨?_⟩⟩;rw[O.up];refine eL ?_;exact⟨G _ _ J,rfl,G _ _ J,O.same G,l5,λv H' s' hv=>q v H' (G.trans s') λL hL=>hv L λb hb=>(hL b hb).elim λo Y=>Y.elim λe n=>⟨o,G _ _ e,n⟩⟩
inductive Ky (Hc C S T D Pt:Addr):Sp where
 | mk {H:Hp}{Q:VK}{E:XK}{h G x dx d b gg c g o:Addr}{O:V}{fs:Tr}{bk:Bk}{xs:Lv}{ps:Lp}{ns:Ls}{t:Str}{U ch:Ch}{Y cs:Cs}{J ow:Ow} (_:HW Hc C S h G x O xs ps ns (msk [x,d,b,Pt] H)) (_:DU D x dx d b gg Pt xs ps t U Y J fs bk H) (_:bk.length<=300) (_:de H c ch) (_:pJ H g cs) (_:kI H o ow) (_:fq xs ps ch cs ow) (_:∀t' aY bi aD cI j H',cS ch aY->cS cs bi->cS ow aD->DU D x dx d b gg Pt xs ps t' aY bi aD cI j H'->j.length<=bk.length+10->cG x d b Pt H H'->Q .non H'):Ky Hc C S T D Pt [.ref h,.ref c,.ref g,.ref o] H Q E
theorem aqo:aN [aya,ayh,ayr,ayB] [aya,ayh,ayr,ayB] (au ww):=aV
theorem Vi(j:Pg K mg base Pt):aA P w K mg base aJ 9 j.HGo.f j.HGo.fd [aya,ayh,ayr,ayB] (Ky j.Hc j.C j.S j.T j.D Pt):=by
 refine j.HGo.u.okL aqo ?_;intro ar Ar outer s H vs Q E hr h xX dX;obtain @⟨_,_,_,h,bC,x,dx,d,b,gg,c,g,o,sv,fs,bk,xs,ps,ns,t,xn,ch,xp,cs,pW,ow,U,O,l3,hc,hg,ho,J,q⟩:=h;refine⟨_,(al (cp (aF (Vf (UQ j)) hr rfl (d6 (bK (pv 0) rfl) (bK (pv 0) rfl) (tI j.MTIn (up (CB j)) hr rfl j.UT.mgC j.TIn.b .nil dv (d6 (pv 1) (pv 2) (pv 3))))))),?_⟩;have Y:=bc _ _ U.ob;refine⟨Y,j.UH.cl,j.UH.nS,rfl,Y,j.UH.cl,j.UH.nD,rfl,⟨⟨⟨?_⟩⟩⟩⟩;refine CF (T:=j.T) hc hg ho J.ok.d3 (by have:=J.o2;omega) λgx H1 ng G fg=>?_;refine⟨U.wl.same (dw G),fg _ O.busy,J,O.same G,l3,λt' aY bi aD cI dB H' r1 r2 r3 uS ll k=>?_⟩;exact q t' aY bi aD cI dB H' r1 r2 r3 uS ll ((cG.of G).trans k)
end
section
open Lcp
variable {ow:Ow}{p:Str}{ps:Lp}{ch:Ch}
seal PE PS cf PA PT PW PG gf PI fW
def pY(ps:Lp)(ch:Ch)(p:Str)(j:Ls):Prop:=∃px aK,uM ps ch px/\fH (bZ px) aK/\j=(look aK p).getD []
def iw(ow:Ow)(p:Str)(j ls:Ls):Ow:=if ls=j then eB ow p else bw ow p (j,ls)
theorem Ak{e:Str×(Ls×Ls)}(h:e∈eB ow p):e∈ow:=(jk.mp h).1
theorem fq.drop{xs:Lv}{cs:Cs}(h:fq xs ps ch cs ow)(p:Str):fq xs ps ch cs (eB ow p):=
 have l:(eB ow p).length<=ow.length:=xI _ _
 ⟨⟨⟨h.ok.ok.ch,h.ok.ok.cs,λe j=>h.ok.ok.ow e (Ak j)⟩,h.ok.d1,h.ok.d2,h.ok.d3.sublist (EA.map _),h.ok.n1,h.ok.n2,b8 l h.ok.n3,λe j=>h.ok.ln e (Ak j)⟩,h.va,b8 l h.o2⟩
theorem fq.put{xs:Lv}{cs:Cs}(h:fq xs ps ch cs ow){j ls:Ls}(J:cz p)(h1:∀x∈j,fm x)(h2:∀x∈ls,fm x)(O:j.length<=20)(U:ls.length<=20)(Y:ow.length<=7):fq xs ps ch cs (bw ow p (j,ls)):=
 have l:(bw ow p (j,ls)).length<=8:=b8 (jM _ _ _) (MJ Y)
 ⟨⟨⟨h.ok.ok.ch,h.ok.ok.cs,λe G=>(mJ G).elim (λz=>by rw[z];exact⟨J,h1,h2⟩) (h.ok.ok.ow e)⟩,h.ok.d1,h.ok.d2,jL h.ok.d3,h.ok.n1,h.ok.n2,l,λe G=>(mJ G).elim (λz=>by rw[z];exact⟨O,U⟩) (h.ok.ln e)⟩,h.va,l⟩
theorem pY.ok{ns:Ls}{j:Ls}(G:Apart ns ps)(h:pY ps ch p j):(∀x∈j,fm x)/\j.length<=4:=by
 obtain⟨px,aK,x,g,rfl⟩:=h;cases e:look aK p with
 | none=>exact⟨(λ_ h=>nomatch h),dC _⟩
 | some ls=>
  obtain⟨q,O,J⟩:=qD.mp (g.sub _ (jV e));obtain⟨_,a,b⟩:=(G.ok q (x.mm q O).1).2.1 _ J;exact⟨a,b⟩
theorem xr{K:Fg}{H:Hp}{ls:Ls}(h:H l=some (.lst (ls.map V.str))):DV K H (.ref l) (dS ls):=jH (ac.of h)
def Vj(D x dx d b gg Pt:Addr)(xs:Lv)(ps:Lp)(ch:Ch)(cs:Cs)(ow:Ow)(bk:Bk)(H H':Hp):Prop:=∃t aD fs j,cS ow aD/\DU D x dx d b gg Pt xs ps t ch cs aD fs j H'/\j.length<=bk.length+10/\cG x d b Pt H H'
inductive Vk (Hc C S D Pt j:Addr):Sp where
 | mk {H:Hp}{Q:VK}{E:XK}{h G x dx d b gg:Addr}{J:V}{fs:Tr}{bk:Bk}{xs:Lv}{ps:Lp}{ns:Ls}{t:Str}{ch:Ch}{cs:Cs}{ow:Ow}{p:Str} (_:HW Hc C S h G x J xs ps ns (msk [x,d,b,Pt] H)) (_:DU D x dx d b gg Pt xs ps t ch cs ow fs bk H) (_:bk.length<=300) (_:eD p) (_:p.length<=1000) (_:((cz p/\∀H',Vj D x dx d b gg Pt xs ps ch cs (eB ow p) bk H H'->Q .non H')\/(kH p=false/\∀H',aa H H'->E (.ref j) none H'))):Vk Hc C S D Pt j [.ref h,.str p] H Q E
theorem Vl:aN [aya,aye,ayA] [aya,aye] (au wy):=aV
theorem Vm(j:Pg K mg base Pt):aA P w K mg base (pj P w) 10 j.HFg.f j.HFg.fd [aya,aye] (Vk j.Hc j.C j.S j.D Pt j.NP):=by
 refine j.HFg.u.okR Vl (λvs H Q E h=>?_) (λar Ar outer s H vs Q E U h=>?_)
 . cases h;rfl
 refine tZ ?_;intros;obtain @⟨_,_,_,h,bC,x,dx,d,b,gg,sv,fs,bk,xs,ps,ns,t,ch,cs,ow,p,hW,G,l3,pZ,lp,q⟩:=h;refine⟨_,(ah (aI (i:=2) Vl.nd rfl (Or.inl rfl) (iz (pv 0) j.UH.cl j.UH.mSK (up (Vh j)) U j.HSK.b .nil dv))
  (ah (cp (Rc (U9 j) U rfl Pw (ao (pv 1))))
  (al (cp (nj (pv 0) j.UH.cl j.UH.mGo (up (Vi j)) U j.HGo.b .nil dv (d6 (bK (pv 2) rfl) (bK (pv 2) rfl) (aF (Vc j) U rfl (d6 (bK (pv 2) rfl) (pv 1) jq)))))))),?_⟩
 refine i9 ?_;intro dD sS u3 u2;have hh:=bc _ _ hW.ob;refine⟨hh,rfl,hh,G,by omega,λv H1 s1 hv=>?_⟩;refine⟨pZ,lp,λJ H2 s2=>?_,λJ H2 s2=>?_⟩
 . rcases q with⟨sG,q⟩ | ⟨z,_⟩
   . have hv:=hv [x,d,b,Pt] G.busy;obtain⟨va,DB,DC,c0,h0,o0,rfl,w1,w2,w3,w4,w5,w6,w7⟩:=hv.same (dw s2);have uV:=bc _ _ w1;have O:=s1.trans s2;have Al:=O _ _ hh;obtain⟨ko,o1,Y⟩:=id w7;have lo:=bA Y;have o8:=G.tx.so.o2;refine⟨Al,rfl,uV,j.UT.cl,j.UT.nC,w2,uV,j.UT.cl,j.UT.nH,w3,?_⟩;refine⟨uV,j.UT.cl,j.UT.nO,w4,bc _ _ o1,by omega,λ_ o' H3 no s3 e3=>?_,λz=>absurd rfl z⟩;have hk:∀kv e,cD (msk [x,d,b,Pt] H2) kv e->kv.1=Sum.inr e.1:=λkv e z=>z.1;have pr:Paired (cD H3) (if (bg ko (.inr p)).isSome=true then ny ko (.inr p) else ko) (eB ow p):=by
      refine av (F:=cD (msk [x,d,b,Pt] H2)) ?_ λ_ _ z=>(cD.same bc z).same s3
      rcases C4 hk Y p with⟨_,hs⟩ | ⟨hn,hs⟩
      . rw[ai hs];exact zL hk Y
      rw[hs,zM hn];exact Y
     refine⟨hW.same (dw (O.trans s3)),G.same (O.trans s3),l3,(w5.same bc).same s3,(w6.same bc).same s3,⟨_,e3,pr⟩,G.tx.so.drop p,λt' aY bi aD cI dB H' r1 r2 r3 uS ll k=>?_⟩;have e1:=cS.eq G.tx.so.ok.d1 r1 G.tx.s1;have e2:=cS.eq G.tx.so.ok.d2 r2 G.tx.s2;subst e1 e2;exact q H' ⟨t',aD,cI,dB,r3,uS,ll,(cG.of (O.trans s3)).trans k⟩
   rw[z]at J;cases J
 rcases q with⟨sG,_⟩ | ⟨_,q⟩
 . rw[sG.path]at J;cases J
 exact q H2 (s1.trans s2)
theorem aqp{H H':Hp}{kvs:List (ak×V)}{tr:Tr}(h:Paired (dn H H') kvs tr)(nd:(tr.map (·.1)).Nodup)(J:H l=none)(G:H' l=some (.lst [])):∃q,(bg kvs (.inr p)).getD (.ref l)=.ref q/\H q=none/\H' q=some (.lst (((look tr p).getD []).map V.str)):=by
 by_cases j:p∈tr.map (·.1)
 . obtain⟨v,ls,e,m,_,q,e2,n,z⟩:=mK (F:=dn H H') (λkv f z=>z.1) h j;rw[e,lU nd m];exact⟨q,e2,n,z⟩
 rw[rA (F:=dn H H') (λkv f z=>z.1) h j,gy.mpr j];exact⟨l,rfl,J,G⟩
inductive Vn (Hc C S D Pt j:Addr):Sp where
 | mk {H:Hp}{Q:VK}{E:XK}{h J x dx d b gg l:Addr}{O:V}{fs:Tr}{bk:Bk}{xs:Lv}{ps:Lp}{ns:Ls}{t:Str}{ch:Ch}{cs:Cs}{ow:Ow}{p:Str}{ls:Ls} (_:HW Hc C S h J x O xs ps ns (msk [x,d,b,Pt] H)) (_:DU D x dx d b gg Pt xs ps t ch cs ow fs bk H) (_:bk.length<=300) (_:eD p) (_:p.length<=1000) (_:H l=some (.lst (ls.map V.str))) (_:((cz p/\(∀y∈ls,fm y)/\ls.length<=20/\ow.length<=7/\∀G H',pY ps ch p G->Vj D x dx d b gg Pt xs ps ch cs (iw ow p G ls) bk H H'->Q .non H')\/(kH p=false/\∀H',aa H H'->E (.ref j) none H'))):Vn Hc C S D Pt j [.ref h,.str p,.ref l] H Q E
theorem DF:aN [aya,aye,ayu,ayA,ayT,ayG] [aya,aye,ayu] (au wx):=aV
theorem Vo(j:Pg K mg base Pt):aA P w K mg base (pj P w) 10 j.HEd.f j.HEd.fd [aya,aye,ayu] (Vn j.Hc j.C j.S j.D Pt j.NP):=by
 refine j.HEd.u.okR DF (λvs H Q E h=>?_) (λar Ar outer s H vs Q E Y h=>?_)
 . cases h;rfl
 refine tZ ?_;intros;obtain @⟨_,_,_,h,bC,x,dx,d,b,gg,l,sv,fs,bk,xs,ps,ns,t,ch,cs,ow,p,ls,hW,G,l3,pZ,lp,hl,q⟩:=h;have hu:=Y.units;refine⟨_,(ah (aI (i:=3) DF.nd rfl (Or.inl rfl) (iz (pv 0) j.UH.cl j.UH.mSK (up (Vh j)) Y j.HSK.b .nil dv))
  (ah (cp (Rc (U9 j) Y rfl Pw (ao (pv 1))))
  (ah (aI (i:=4) DF.nd rfl (Or.inl rfl) (vH hu (aF (Sn j) Y rfl (ao (aF (I9 j) Y rfl (aL (bK (pv 0) rfl) (bK (pv 3) rfl))))) (pv 1) (db dG) ⟨rfl,rfl,rfl,rfl⟩))
  (ah (aI (i:=5) DF.nd rfl (Or.inl rfl) (M3 (bS (Bw hu) (pv 2) (pv 4) (bJ _)) (eT (aL (pv 4) (pv 2))) jq))
  (al (cp (nj (pv 0) j.UH.cl j.UH.mGo (up (Vi j)) Y j.HGo.b .nil dv (d6 (bK (pv 3) rfl) (bK (pv 3) rfl) (aF (Vc j) Y rfl (d6 (bK (pv 3) rfl) (pv 1) (pv 5))))))))))),?_⟩
 refine F5 ?_;intro dD sS u5 u4 u3 u2;have hh:=bc _ _ hW.ob;refine⟨hh,rfl,hh,G,by omega,λv H1 s1 hv=>?_⟩;refine⟨pZ,lp,λU H2 s2=>?_,λU H2 s2=>?_⟩
 . rcases q with⟨sG,a0,a6,l7,q⟩ | ⟨z,_⟩
   . have hv:=hv [x,d,b,Pt] G.busy;obtain⟨va,DB,DC,c0,h0,o0,rfl,w1,w2,w3,w4,w5,w6,w7⟩:=(hv.same (dw s2)).same bc;have bM:=s1.trans s2;have Al:=bM _ _ hh;have W2:=(hW.wl.same (dw bM)).same bc;have cB:eY xs ps ch:=⟨G.tx.so.ok.d1,G.tx.so.va⟩;have c4:=cB.len W2.ap W2.n4;refine⟨Al,j.UH.cl,j.UH.nS,rfl,w1,j.UT.cl,j.UT.nC,w2,?_⟩;refine⟨W2.sh,w5,G.tx.so.va,by omega,λD1 H3 kD px n3 s3 e3 pr pn pc=>?_⟩;have pm:=Jc pr;have dQ:px.length<=4:=by
      have e:=pn.length_eq;rw[aj,aj]at e;omega
     have a9:(bZ px).length<=12:=by
      have:=CU (b:=3) (ps:=px) λp U=>(W2.pcok p (pm p U)).n3;omega
     refine⟨e3,Jb (W2.pc.same s3) pr,by omega,λd4 H4 kvs aK n4 s4 e4 rH g4=>?_⟩;refine⟨.inl ⟨_,.inl e4⟩,Ab,λl5 H5 n5 s5 e5=>?_⟩;refine⟨_,cn.k (k:=.inr p) (s5 _ _ e4),?_⟩;obtain⟨lb,eb,nb,hb⟩:=aqp (p:=p) (av rH λkv f a1=>a1.elim λz1 a2=>a2.elim λl a3=>a3.elim λz2 a4=>a4.elim λz3 z4=>⟨z1,l,z2,z3,s5 _ _ z4⟩) g4.nd (s4.free n5) e5;rw[eb];have hB:pY ps ch p ((look aK p).getD []):=⟨px,aK,⟨pn,λq hq=>⟨pm q hq,pc q hq⟩⟩,g4,rfl⟩;obtain⟨bl,b4⟩:=hB.ok W2.ap;generalize (look aK p).getD []=br at hb hB bl b4;have sq:=s3.trans (s4.trans s5);have kN:=bM.trans sq;have DG:=kN _ _ hl;have a7:∀y∈ls,Ln y:=λy hy=>(a0 y hy).ln;have a5:∀y∈br,Ln y:=λy hy=>(bl y hy).ln;refine⟨dS ls,dS br,xr DG,xr hb,mD 8 a7,mD 8 a5,λbb iZ=>⟨?_⟩⟩;rw[FP]at iZ;obtain⟨ko,o1,o2⟩:=id (w7.same sq);have lo:=bA o2;have uV:=sq _ _ w1;have hk:∀{R:Hp} kv e,cD R kv e->kv.1=Sum.inr e.1:=λkv e z=>z.1;have go:∀{O:Hp}{o':Addr}{kk:List (ak×V)},aa H5 O->O o'=some (.dK kk)->Paired (cD O) kk (iw ow p br ls)->fq xs ps ch cs (iw ow p br ls)->Ky j.Hc j.C j.S j.T j.D Pt [.ref h,.ref c0,.ref h0,.ref o'] O (λ_ H'=>Q .non H') E0:=λ{O o' kk} J e6 J4 a8=>by
      have sf:=kN.trans J;have uW:=sq.trans J;refine⟨hW.same (dw sf),G.same sf,l3,w5.same uW,w6.same uW,⟨_,e6,J4⟩,a8,λt' aY bi aD cI dB H' r1 r2 r3 uS ll k=>?_⟩;have e1:=cS.eq G.tx.so.ok.d1 r1 G.tx.s1;have e2:=cS.eq G.tx.so.ok.d2 r2 G.tx.s2;subst e1 e2;exact q br H' hB ⟨t',aD,cI,dB,r3,uS,ll,(cG.of sf).trans k⟩
     cases bb with
     | true=>
      have el:=iZ.mp rfl;refine eL ?_;refine⟨sq _ _ Al,rfl,uV,j.UT.cl,j.UT.nC,w2,uV,j.UT.cl,j.UT.nH,w3,?_⟩;refine⟨uV,j.UT.cl,j.UT.nO,w4,o1,by omega,λ_ o' O no J e6=>?_,λz=>absurd rfl z⟩;refine go J e6 ?_ ?_
      . unfold iw;rw[ai el];refine av (F:=cD H5) ?_ λ_ _=>cD.same J
        rcases C4 hk o2 p with⟨_,hs⟩ | ⟨hn,hs⟩
        . rw[ai hs];exact zL hk o2
        rw[hs,zM hn];exact o2
      unfold iw;rw[ai el];exact G.tx.so.drop p
     | false=>
      have el:ls≠br:=λz=>by have:=iZ.mpr z;cases this
      refine gm ?_;refine⟨An,λtt O n6 J e6=>?_⟩;have uW:=sq.trans J;refine⟨uW _ _ Al,rfl,uW _ _ w1,j.UT.cl,j.UT.nC,w2,uW _ _ w1,j.UT.cl,j.UT.nH,w3,?_⟩;refine⟨uW _ _ w1,j.UT.cl,j.UT.nO,w4,J _ _ o1,by omega,(λz=>nomatch z),λ_ o' H7 no s7 e7=>?_⟩;refine go (J.trans s7) e7 ?_ ?_
      . unfold iw;rw[ag el];exact je (F:=cD H7) hk ⟨rfl,tt,lb,l,rfl,s7 _ _ e6,(J.trans s7) _ _ hb,(J.trans s7) _ _ DG⟩ (av o2 λ_ _=>cD.same (J.trans s7))
      unfold iw;rw[ag el];exact G.tx.so.put sG bl a0 (by omega) a6 l7
   rw[z]at U;cases U
 rcases q with⟨sG,_⟩ | ⟨_,q⟩
 . rw[sG.path]at U;cases U
 exact q H2 (s1.trans s2)
end
section
open Lcp
variable {p:Str}{b ns:Ls}{xs:Lv}{ps:Lp}{ch:Ch}{cs:Cs}{ow aD:Ow}
theorem Vp(h:cz p):∀c,p≠hJ c:=λc e=>by
 have:(61:Nat)∈(hJ c).cps.toList:=by
  unfold hJ;rw[jN];exact vf _ (by decide +kernel)
 rw[<-e]at this;have:=h.signs 61 this;omega
theorem aqx(h:cz p):p.cps.toList≠[]:=by
 obtain⟨ps,rfl,h1,_,G⟩:=h;have j:∀a∈ps,a.cps.toList≠[]:=λa J z=>by
  have:=(G a J).lo;have:a.length=0:=by unfold Str.length;rw[<-eJ,z];rfl
  omega
 match ps,h1,j with
 | [a],_,j=>exact j a bL
 | a::b::ps,_,j=>
  rw[Ce,mL];intro z;exact j a bL (List.append_eq_nil_iff.mp z).1
theorem aqy(h:cz p):∀c,p++fK≠hJ c:=λc e=>by
 have e1:=eZ (λz:Str=>z.cps.toList) e;simp only[jN]at e1;cases j:p.cps.toList with
 | nil=>exact aqx h j
 | cons a r=>
  unfold hJ at e1;rw[j,jN,show(Str.ofString "=").cps.toList=[61] by decide +kernel]at e1;injection e1 with e1 _
  have:=h.signs a (by rw[j];exact bL);omega
theorem xu{g:Str×(Ls×Ls)->Tr}{k:Str}:∀{ow:Ow}{φ:Str->Option (Ls)},(∀e∈ow,look (g e) k=none)->ow.foldl (fun(φ:Str->Option (Ls)) e k=>(look (g e) k).or (φ k)) φ k=φ k
 | [],φ,_=>rfl
 | e::ow,φ,h=>by
  rw[j6,xu λx j=>h x (bT _ j),h e bL];rfl
theorem DH{g:Str×(Ls×Ls)->Tr}{k:Str}{v:Ls}{e0:Str×(Ls×Ls)}(h0:look (g e0) k=some v):∀{ow:Ow}{φ:Str->Option (Ls)},e0∈ow->(∀e∈ow,e≠e0->look (g e) k=none)->ow.foldl (fun(φ:Str->Option (Ls)) e k=>(look (g e) k).or (φ k)) φ k=some v
 | [],φ,hm,_=>nomatch hm
 | e::ow,φ,hm,h=>by
  rw[j6]
  by_cases m:e0∈ow
  . exact DH h0 m λx j=>h x (bT _ j)
  have e1:e0=e:=(aZ.mp hm).resolve_right m;subst e1;rw[xu λx j=>h x (bT _ j) λz=>m (z▸j),h0];rfl
theorem DI{o:Option (Ls)}{q k:Str}{m:Ls}(h1:k≠q)(h2:k≠q++fK):look (df o q b m) k=none:=gy.mpr λz=>(JW z).elim h1 h2
theorem Vq{t:Str}{fs:Tr}(h:sw xs ps t fs)(k:f9 xs ps t ch cs ow):∃px aK,uM ps ch px/\fH (bZ px) aK/\∀z,(∀c,z≠hJ c)->look fs z=look (ir aK ow) z:=by
 obtain⟨a,b,c,tr,⟨Y,b',c',G,r2,U,O⟩,J,⟨px,aK,x,g,l,_⟩,e⟩:=h;obtain⟨rfl,rfl,rfl⟩:=O.uniq k;refine⟨px,aK,⟨x.nm.trans (G.pm.symm.map _),λp j=>⟨(x.mm p j).1,G.pm.mem_iff.mpr (x.mm p j).2⟩⟩,g,λz hz=>?_⟩;rw[e,l z λc _=>hz c,TR rfl U.pm.symm J.ok.d3 J.pt]
theorem Vr{aK:Tr}(pt:∀e∈ow,cz e.1):look (ir aK ow)=ow.foldl (fun(φ:Str->Option (Ls)) e k=>(look (df (look aK e.1) e.1 e.2.1 e.2.2) k).or (φ k)) (look aK):=Dj (λe=>df (look aK e.1) e.1 e.2.1 e.2.2) ow aK λe j=>JX (pt e j)
theorem Vs{px G:Lp}{aK ji:Tr}(j:Apart ns ps)(nd:(ch.map (·.1)).Nodup)(x:uM ps ch px)(J:uM ps ch G)(g:fH (bZ px) aK)(g':fH (bZ G) ji):look aK=look ji:=
 JY j nd x.mm (λp=>by rw[x.iff j.nd nd,J.iff j.nd nd]) g g'
theorem aqz{t:Str}{fs:Tr}{G ls:Ls}(ap:Apart ns ps)(h:sw xs ps t fs)(k:f9 xs ps t ch cs aD)(s:cS (iw ow p G ls) aD)(U:cz p)(nd:(ow.map (·.1)).Nodup)(hb:pY ps ch p G):(look fs p).getD []=ls/\look fs (p++fK)=none:=by
 obtain⟨px,aK,x,g,l⟩:=Vq h k;obtain⟨kQ,ji,x',g',J⟩:=hb;have d1:=k.so.ok.d1;rw[Vs ap d1 x' x g' g]at J;have pt:∀e∈aD,cz e.1:=λe j=>(k.so.ok.ok.ow e j).1;have t0:look aK (p++fK)=none:=gy.mpr λz=>by
  obtain⟨f,hf,e⟩:=cC.mp z;obtain⟨q,hq,hf⟩:=qD.mp (g.sub f hf);exact pU ((ap.ok q (x.mm q hq).1).2.1 f hf).1 e
 rw[l p (Vp U),l (p++fK) (aqy U),Vr pt];have Y:∀e∈aD,e.1≠p->look (df (look aK e.1) e.1 e.2.1 e.2.2) p=none/\look (df (look aK e.1) e.1 e.2.1 e.2.2) (p++fK)=none:=λe j n=>⟨DI n.symm (pU U),DI (λz=>pU (pt e j) z.symm) λz=>n (TN z).symm⟩;have mem:∀e,e∈aD↔e∈iw ow p G ls:=λe=>s.pm.mem_iff;unfold iw at mem
 by_cases O:ls=G
 . rw[ai O]at mem;have no:∀e∈aD,e.1≠p:=λe j=>cH (jk.mp ((mem e).mp j)).2;rw[xu λe j=>(Y e j (no e j)).1,xu λe j=>(Y e j (no e j)).2,O];exact⟨J.symm,t0⟩
 rw[ag O]at mem;have m0:(p,G,ls)∈bw ow p (G,ls):=jV (by rw[uL,ai rfl]);have a0:((bw ow p (G,ls)).map (·.1)).Nodup:=jL nd;have no:∀e∈aD,e≠(p,G,ls)->e.1≠p:=λe j n z=>n (by
  obtain⟨e1,e2⟩:=e;have z:e1=p:=z;subst z;rw[kG a0 ((mem _).mp j) m0])
 have h0:look (df (look aK p) p G ls) p=some ls/\look (df (look aK p) p G ls) (p++fK)=none:=by
  have n1:(p++fK)≠p:=λz=>pU U z.symm;cases z:look aK p with
  | none=>exact⟨lU (by simp[df]) (by simp[df]),by unfold df;rw[iq,ag n1.symm];rfl⟩
  | some b0=>
   rw[z]at J;have J:G=b0:=J;subst J;unfold df;dsimp only;rw[FR O (.inl rfl)];exact⟨by rw[iq,ai rfl],by rw[iq,ag n1.symm];rfl⟩
 refine⟨by rw[DH (e0:=(p,G,ls)) h0.1 ((mem _).mpr m0) λe j n=>(Y e j (no e j n)).1];rfl,?_⟩;rw[xu λe j=>?_]
 . exact t0
 by_cases n:e=(p,G,ls)
 . rw[n];exact h0.2
 exact(Y e j (no e j n)).2
def lZ(ps:Lp)(ch:Ch)(ow:Ow):Prop:=∀e∈ow,(e.2.1.length<=4/\e.2.2.length<=4)\/(pY ps ch e.1 e.2.1/\e.2.2.length<=20)
theorem Vt{x y:Ls}:(kz b x y).length<=3 * b.length+x.length+y.length:=by
 unfold kz;simp only[bI,eR,j0,FM];omega
theorem aqB{x y:Ls}(h1:b.length<=4)(h2:x.length<=4)(j:y.length<=4):(merge b x y).1.length<=20:=by
 have:=Vt (b:=b) (x:=x) (y:=y);have:=Vt (b:=b) (x:=y) (y:=x);unfold merge;split
 . show y.length<=20;omega
 split
 . show x.length<=20;omega
 split
 . show y.length<=20;omega
 split
 . show(kz b x y).length<=20;omega
 show(kz b y x).length<=20;omega
theorem aqC{t:Str}{fs:Tr}(U:Apart ns ps)(h:sw xs ps t fs)(k:f9 xs ps t ch cs ow)(oi:lZ ps ch ow)(J:cz p):(∀y∈(look fs p).getD [],fm y)/\((look fs p).getD []).length<=20:=by
 obtain⟨px,aK,x,g,l⟩:=Vq h k;have pt:∀e∈ow,cz e.1:=λe j=>(k.so.ok.ok.ow e j).1;have O:∀{q:Str},(∀y∈(look aK q).getD [],fm y)/\((look aK q).getD []).length<=4:=λ{q}=>pY.ok U ⟨px,aK,x,g,rfl⟩;rw[l p (Vp J),Vr pt]
 by_cases m:∃e∈ow,e.1=p
 . obtain⟨⟨e1,b,m⟩,j,ep⟩:=m;have ep:e1=p:=ep;subst ep;have no:∀e∈ow,e≠(e1,b,m)->look (df (look aK e.1) e.1 e.2.1 e.2.2) e1=none:=λe kB n=>DI (λz=>n (by
    obtain⟨e2,e3⟩:=e;have z:e1=e2:=z;subst z;rw[kG k.so.ok.d3 kB j])) (pU J)
   obtain⟨_,lb,lm⟩:=k.so.ok.ok.ow _ j;have ll:=(k.so.ok.ln _ j).2;have t1:=O (q:=e1);cases z:look aK e1 with
   | none=>
    rw[DH (e0:=(e1,b,m)) (v:=m) (by rw[z];exact lU (by simp[df]) (by simp[df])) j no];exact⟨lm,ll⟩
   | some Y=>
    rw[z]at t1;rw[DH (e0:=(e1,b,m)) (v:=(merge b m Y).1) (by rw[z];unfold df;rw[iq,ai rfl]) j no];refine⟨λy hy=>(aeG hy).elim (lm y) (t1.1 y),?_⟩
    rcases oi _ j with⟨h1,h2⟩ | ⟨⟨kQ,ji,x',g',G⟩,h2⟩
    . exact aqB h1 h2 t1.2
    rw[Vs U k.so.ok.d1 x' x g' g,z]at G;have G:b=Y:=G;subst G
    by_cases em:m=b
    . rw[O2 em];have:=t1.2;show b.length<=20;exact b8 this (by decide)
    rw[FR em (.inl rfl)];exact h2
 rw[xu λe j=>DI (λz=>m ⟨e,j,z.symm⟩) (pU J)];exact⟨O.1,b8 O.2 (by decide)⟩
theorem lZ.ed{G ls:Ls}(h:lZ ps ch ow)(s:cS (iw ow p G ls) aD)(J:pY ps ch p G)(l:ls.length<=20):lZ ps ch aD:=λe j=>by
 have j:=s.pm.mem_iff.mp j;unfold iw at j;split at j
 . exact h e (Ak j)
 rcases mJ j with z | z
 . rw[z];exact .inr ⟨J,l⟩
 exact h e z
theorem lZ.dr(h:lZ ps ch ow)(s:cS (eB ow p) aD):lZ ps ch aD:=λe j=>h e (Ak (s.pm.mem_iff.mp j))
end
section
seal PE PS cf PA PT PW PG gf PI fW
inductive Vu (C:Addr):Sp where
 | mk {H:Hp}{Q:VK}{E:XK}{a c:Addr}{xs:Lv}{ps:Lp}{ch:Ch}{L:List Addr} (_:H a=some (.lst xs)) (_:dY C (msk L H) xs ps) (_:de H c ch) (_:(ch.map (·.1)).Nodup) (_:(bZ ps).length<=60) (_:∀d H' kvs tr,H d=none->aa H H'->H' d=some (.dK kvs)->Paired (bB (msk L H')) kvs tr->fH (bZ (ps.filter (gw ch))) tr->Q (.ref d) H'):Vu C [.ref a,.ref c] H Q E
theorem Am:aN [ayp,ayD,"_law_found",ayR,ayi,ayt] [ayp,ayD] (au Iu):=aV
theorem Vv(ps:Lp)(s:cb->Bool):(bZ (ps.filter s)).length<=(bZ ps).length:=by
 induction ps with
 | nil=>exact aG _
 | cons p ps j=>
  have e:bZ (p::ps)=p.fs++bZ ps:=xT;rw[oE,e,bI];split
  . have e2:bZ (p::ps.filter s)=p.fs++bZ (ps.filter s):=xT;rw[e2,bI];omega
  omega
theorem aqD(a b:Lp):bZ (a++b)=bZ a++bZ b:=AZ
theorem aqE(p:cb):bZ [p]=p.fs:=by simp[bZ]
theorem aqF(J:Pg K mg base Pt):aA P w K mg base aJ 1 J.LBr.f J.LBr.fd [ayp,ayD] (Vu J.C):=by
 refine J.LBr.u.okL Am ?_;intro ar A outer s H vs Q E hr h xX dX;obtain @⟨_,_,_,a,c,xs,ps,ch,L,ha,bG,hC,oh,G5,q⟩:=h;have hu:=hr.units;obtain⟨ks,c1,c2⟩:=id hC;have Vw:∀kv f,dA H kv f->kv.1=Sum.inr f.1:=λkv f z=>z.1;have hk:∀(H':Hp) kv f,bB H' kv f->kv.1=Sum.inr f.1:=λ_ kv f z=>z.1;refine⟨_,(ah (aI (i:=2) Am.nd rfl (Or.inl rfl) kC)
  (ah (eK dZ rfl (cU (pv 0)) (bf (i:=3) Am.nd rfl (Or.inl rfl))
  (al (cg (PW.pt (oI (oH (tN hu (bK (pv 3) rfl) (pv 1)) (by rfl)) (tu (bS (vI hu) (oV hu (pv 1) (bK (pv 3) rfl) (λ_ _=>rfl)) (bK (pv 3) rfl) (bJ _)))))
   (al (eK dZ rfl (cU (bK (pv 3) rfl)) (m9 rfl (fM (bf (i:=4) Am.nd rfl (Or.inl rfl)) (fM (bf (i:=5) Am.nd rfl (Or.inl rfl)) mv)))
    (al (iC hu (pv 2) (pv 4) (pv 5) rfl)))) cZ)))
  (al (aT (pv 2))))),?_⟩
 refine i9 ?_;intro dD sS u3 u2;refine λd H1 n1 s1 e1=>?_;refine⟨⟨_,ac.of (s1 _ _ ha)⟩,?_⟩;refine ib (xs:=xs) (λi Z H2=>∃u v z kvs tr,Z=[some (.ref a),some (.ref c),some (.ref d),u,v,z]/\aa H H2/\H2 d=some (.dK kvs)/\Paired (bB (msk L H)) kvs tr/\fH (bZ ((ps.take i).filter (gw ch))) tr) ⟨none,none,none,[],[],rfl,s1,e1,.nil,I8⟩ ?_ ?_ ?_
 . rintro i Z H2 hi ⟨u,v,z,kvs,tr,rfl,G,_⟩;exact ac.of (G _ _ ha)
 . rintro i x Z H2 hx ⟨u,v,z,kvs,tr,rfl,G,hd,U,g⟩;obtain⟨p,hp,b,dy,fl,rk,m,pf,pn,jA,po,ys,rfl,h1,h2,h3,Y,h5,h6⟩:=eN bG hx;have h1:=bc _ _ h1;have h3:=bc _ _ h3;have Y:=bc _ _ Y;have ft:=Su hp (gw ch);have skip:gw ch p=false->fH (bZ ((ps.take (i+1)).filter (gw ch))) tr:=λe=>by
    rw[ft,e,ag cW,jX];exact g
   refine⟨G _ _ h1,J.TC.cl,J.TC.nN,h2.name,_,cn.k (k:=.inr p.nm) (G _ _ c1),⟨?_⟩⟩
   by_cases ij:p.nm∈ch.map (·.1)
   . obtain⟨v2,Vx,g1,g2,_,m2,rfl,g3⟩:=mK Vw c2 ij;rw[g1];refine bu (λ_=>?_) (λh=>absurd rfl h);refine⟨G _ _ h1,J.TC.cl,J.TC.nN,h2.name,(by rw[<-g1];exact cn.k (k:=.inr p.nm) (G _ _ c1)),G _ _ h1,J.TC.cl,J.TC.nM,h2.make,?_⟩;refine⟨dI Vx,dI p.ms,zC (G _ _ g3),zC (G _ _ h3),uC 8 _,uC 8 _,λbb hb=>⟨?_⟩⟩;rw[Sq]at hb;refine bu (λwS=>?_) (λwS=>?_)
     . have em:Vx=p.ms:=hb.mp wS;have a0:gw ch p=true:=bN (by rw[<-em];exact g2);refine⟨G _ _ h1,J.TC.cl,J.TC.nF,h2.files,⟨_,ac.of (G _ _ Y)⟩,?_⟩;refine ib (xs:=ys) (λj Z H3=>∃v z kvs tr,Z=[some (.ref a),some (.ref c),some (.ref d),some (.ref b),v,z]/\aa H H3/\H3 d=some (.dK kvs)/\Paired (bB (msk L H)) kvs tr/\fH (bZ ((ps.take i).filter (gw ch))++p.fs.take j) tr) ⟨v,z,kvs,tr,rfl,G,hd,U,by rw[Ys,jX];exact g⟩ ?_ ?_ ?_
       . rintro j Z H3 hj ⟨v,z,kvs,tr,rfl,s3,_⟩;exact ac.of (s3 _ _ Y)
       . rintro j y Z H3 hy ⟨v,z,kvs,tr,rfl,s3,dJ,pL,O⟩;obtain⟨⟨px,ls⟩,zB,t,l,rfl,t1,t2⟩:=eN h5 hy;refine⟨aX.of (s3 _ _ (bc _ _ t1)),rfl,rfl,?_⟩;have a2:(bZ ((ps.take i).filter (gw ch))++p.fs.take j).length<=60:=by
          have:=Sm hp j;have:=Vv (ps.take i) (gw ch);simp only[bI]at *;omega
         have a1:=O.len;have So:=bA pL;refine⟨fB.k (k:=.inr px) dJ (bY (by omega)),?_⟩;refine⟨_,_,_,bw tr px ls,rfl,eM s3 n1,aB,?_,?_⟩
         . exact je (F:=bB (msk L H)) (hk _) ⟨rfl,l,rfl,t2⟩ pL
         rw[hZ,zB];have:=O.step px ls;rw[j7]at this;exact this
       rintro Z H3 ⟨v,z,kvs,tr,rfl,s3,dJ,pL,O⟩;refine⟨_,_,_,kvs,tr,rfl,s3,dJ,pL,?_⟩;rw[ft,a0,ai rfl,aqD,aqE];rw[bA h5,ff]at O;exact O
     refine⟨_,_,_,kvs,tr,rfl,G,hd,U,skip (cx λhm=>wS (hb.mpr (kG oh g2 hm)))⟩
   rw[rA Vw c2 ij];refine eL ?_;exact eL ⟨_,_,_,kvs,tr,rfl,G,hd,U,skip (cx λhm=>ij (ge (f:=(·.1)) hm))⟩
 rintro Z H2 ⟨u,v,z,kvs,tr,rfl,G,hd,U,g⟩;rw[bA bG,ff]at g;exact⟨q d H2 kvs tr n1 G hd (av U λ_ _=>bB.same (dw G)) g⟩
theorem Ao{H:Hp}{kvs:List (ak×V)}{tr:Tr}{p:Str}(h:Paired (bB H) kvs tr)(nd:(tr.map (·.1)).Nodup)(G:H l=some (.lst [])):∃q,(bg kvs (.inr p)).getD (.ref l)=.ref q/\H q=some (.lst (((look tr p).getD []).map V.str)):=by
 by_cases j:p∈tr.map (·.1)
 . obtain⟨v,ls,e,m,_,q,e2,z⟩:=mK (F:=bB H) (λkv f z=>z.1) h j;rw[e,lU nd m];exact⟨q,e2,z⟩
 rw[rA (F:=bB H) (λkv f z=>z.1) h j,gy.mpr j];exact⟨l,rfl,G⟩
def uX(ls:Ls):Prop:=(∀y∈ls,fm y)/\ls.length<=20
theorem uX.ln{ls:Ls}(h:uX ls):∀y∈ls,Ln y:=λy j=>(h.1 y j).ln
inductive Vy:Sp where
 | mk {H:Hp}{Q:VK}{E:XK}{O:Int}{f b:Addr}{p:Str}{J G:List (ak×V)}{fs j:Tr} (_:H f=some (.dK J)) (_:Paired (bB H) J fs) (_:(fs.map (·.1)).Nodup) (_:H b=some (.dK G)) (_:Paired (bB H) G j) (_:(j.map (·.1)).Nodup) (_:uX ((look fs p).getD [])) (_:uX ((look j p).getD [])) (_:∀l H' ls,H l=none->aa H H'->H' l=some (.lst (ls.map V.str))->uX ls->Q (.ref l) H'):Vy [.int O,.ref f,.ref b,.str p] H Q E
theorem aqH:aN [ayb,ayE,ays,ayi] [ayb,ayE,ays,ayi] (au Ix):=aV
theorem aqI(G:Pg K mg base Pt):aA P w K mg base aJ 3 G.LBy.f G.LBy.fd [ayb,ayE,ays,ayi] Vy:=by
 refine G.LBy.u.okL aqH ?_;intro ar A outer s H vs Q E O h xX dX;obtain @⟨_,_,_,a0,a,b,p,kf,kb,fs,br,ha,pa,na,hb,pb,nb,oa,ob,q⟩:=h;have hu:=O.units;refine⟨_,(ah (cg (bS fO (aE cy (aE gO (pv 0) am) am) am (bJ _))
  (al (aT (dR jG (by rfl) G.B.list iS (ao (vH hu (pv 2) (pv 3) (db dG) ⟨rfl,rfl,rfl,rfl⟩))))) cZ)
  (ah (cg (bS fO (aE cy (aE gO (pv 0) am) am) am (bJ _))
  (al (aT (dR jG (by rfl) G.B.list iS (ao (vH hu (pv 1) (pv 3) (db dG) ⟨rfl,rfl,rfl,rfl⟩))))) cZ)
  (al (aT (aF (Cw G) O rfl (ao (aF (gG G) O rfl (aL (pv 0) am)))))))),?_⟩
 refine i9 ?_;intro dD sS u3 u2;refine⟨⟨by omega,by omega⟩,(by show(0:Int)<4;decide),rfl,⟨?_⟩⟩;refine bu (λh=>?_) (λh=>?_)
 . refine⟨.inl ⟨_,.inl hb⟩,Ab,λl H1 n1 j e1=>⟨_,cn.k (k:=.inr p) (j _ _ hb),?_⟩⟩;obtain⟨z,J,hz⟩:=Ao (p:=p) (av pb λ_ _=>bB.same j) nb e1;rw[J];exact⟨z,_,rfl,.inl (ac.of hz),λU H2 n2 Y e2=>q U H2 _ (j.free n2) (j.trans Y) e2 ob⟩
 refine⟨⟨by omega,by omega⟩,(by show(0:Int)<4;decide),rfl,⟨?_⟩⟩;refine bu (λh=>?_) (λh=>?_)
 . refine⟨.inl ⟨_,.inl ha⟩,Ab,λl H1 n1 j e1=>⟨_,cn.k (k:=.inr p) (j _ _ ha),?_⟩⟩;obtain⟨z,J,hz⟩:=Ao (p:=p) (av pa λ_ _=>bB.same j) na e1;rw[J];exact⟨z,_,rfl,.inl (ac.of hz),λU H2 n2 Y e2=>q U H2 _ (j.free n2) (j.trans Y) e2 oa⟩
 exact⟨⟨λm=>⟨λl H1 ls n1 j e1 k1 o1=>q l H1 ls n1 j e1 ⟨o1,by omega⟩⟩⟩⟩
inductive Vz (Hc C S D Pt:Addr):Sp where
 | mk {H:Hp}{Q:VK}{E:XK}{h G x dx d b gg:Addr}{J j:V}{fs:Tr}{bk:Bk}{xs:Lv}{ps:Lp}{ns:Ls}{t:Str}{ch:Ch}{cs:Cs}{ow:Ow}{p:Str} (_:HW Hc C S h G x J xs ps ns (msk [x,d,b,Pt] H)) (_:DU D x dx d b gg Pt xs ps t ch cs ow fs bk H) (_:bk.length<=300) (_:eD p) (_:p.length<=1000) (_:kH p=false) (_:(j=.non\/∃(l:Addr) (ls:Ls),j=.ref l/\H l=some (.lst (ls.map V.str)))) (_:∀H',aa H H'->Q (.bl true) H'):Vz Hc C S D Pt [.ref h,.str p,j] H Q E
theorem DJ:aN [ayw,ayi,ayt,"_law_error","e"] [ayw,ayi,ayt] (au Iw):=aV
theorem aqJ(j:Pg K mg base Pt):aA P w K mg base aJ 11 j.LRe.f j.LRe.fd [ayw,ayi,ayt] (Vz j.Hc j.C j.S j.D Pt):=by
 refine j.LRe.u.okL DJ ?_;intro ar Ar outer s H vs Q E hr h xX dX;obtain @⟨_,_,_,h,bC,x,dx,d,b,gg,sv,lv,fs,bk,xs,ps,ns,t,ch,cs,ow,p,J,hD,l3,pZ,lp,Y,O,q⟩:=h;refine⟨_,(ah (aI (i:=3) DJ.nd rfl (Or.inl rfl) jq)
  (vT (ago (i:=4) DJ.nd rfl rfl rfl rfl j.R.mM rfl (λXE pn E hp=>al (cg (bS Bg (pv 2) jq (bJ _)) (al (cp (Py (pv 0) j.UH.cl j.UH.mFg (up (Vm j)) hr j.HFg.b .nil hp (ao (pv 1))))) (al (cp (Py (pv 0) j.UH.cl j.UH.mEd (up (Vo j)) hr j.HEd.b .nil hp (aL (pv 1) (pv 2)))))))
   (λa=>al (aI (i:=3) DJ.nd rfl (Or.inl rfl) (pv 4))))
  (al (aT (ye (c8 agx (by rfl) j.B.isinstance YA (aL (pv 3) (vw (v:=.ref j.NP) rfl j.R.mP rfl))) (qN (Zr (c8 agy (by rfl) j.B.isinstance YA (aL (pv 3) (eT (d6 (vw (v:=.ref j.Fa) rfl j.R.mF rfl) (vw (v:=.ref j.NN) rfl j.R.mN rfl) (vw (v:=.ref j.NU) rfl j.R.mU rfl)))))))))))),?_⟩
 refine ju ?_;intro dD sS u2;have hh:=bc _ _ J.ob;refine⟨λσ' H'=>∃x,σ'=[some (.ref h),some (.str p),some lv,some (.ref x),none]/\aa H H'/\H' x=some (pi x (.ref j.NP)),?_,?_⟩
 . refine⟨rfl,⟨?_⟩⟩
   rcases O with rfl | ⟨l,ls,rfl,O⟩
   . refine bu (λ_=>?_) (λz=>absurd (bN rfl) z);refine⟨hh,rfl,J,hD,l3,pZ,lp,.inr ⟨Y,λH1 G=>⟨j.R.ex,λy U=>?_⟩⟩⟩;exact⟨y,rfl,eM G (G.free U),aB⟩
   refine bu (λz=>by cases (cH z)) (λ_=>?_);refine⟨hh,rfl,J,hD,l3,pZ,lp,O,.inr ⟨Y,λH1 G=>⟨j.R.ex,λy U=>?_⟩⟩⟩;exact⟨y,rfl,eM G (G.free U),aB⟩
 rintro σ' H' ⟨y,rfl,G,e1⟩;refine⟨y,j.NP,j.NP,true,rfl,e1,j.R.xc,j.R.kP,⟨gm ?_⟩⟩;refine⟨A7,λtp H2 n2 s2 e2=>?_⟩;exact⟨y,j.NP,tp,[j.Fa,j.NN,j.NU],false,rfl,s2 _ _ e1,e2,j.R.xc,j.R.kA,⟨q H2 (G.trans s2)⟩⟩
end
end K71
namespace L2
open PySem.W (KeqHits)
section
variable {X:Cx}
def rQ(K:Fg)(r:Bool)(x y:V)(H:Hp)(Q:VK):Prop:=∃a b kvs j fA,x=.ref a/\y=.ref b/\H a=some (.dK kvs)/\H b=some (.dK fA)/\Paired (rf K H) kvs j/\(∀p∈j,p∈fA)/\kvs.length=fA.length/\(fA.map (·.1)).Nodup/\Q (.bl r) H
theorem aqK(hu:X.A.units+65<cLine):cK X (compareOp .Eq) (rQ X.K true):=by
 intro ad s Z H x y v u Q I rx ry h;obtain⟨a,b,kvs,kb,fA,rfl,rfl,J,O,pr,hm,Y,nd,q⟩:=h;cases rx;cases ry;obtain⟨_,hd,vs,G,dd⟩:=iB I.hok J;obtain⟨_,jD,ws,j,U⟩:=iB I.hok O;refine W.keq_eq (knd:=ce X.prog X.w) (r:=true) hd jD dd U (by omega) (λ_=>Gd I hu nd j pr G hm) ⟨.bl true,H,I,?_,q⟩;have e:vs.length=ws.length:=by rw[<-G.length,<-j.length,Y]
 rw[e];simp[RelV]
theorem DK(hu:X.A.units+65<cLine):cK X (compareOp .NotEq) (rQ X.K false):=by
 intro ad s Z H x y v u Q I rx ry h;obtain⟨a,b,kvs,kb,fA,rfl,rfl,J,O,pr,hm,Y,nd,q⟩:=h;cases rx;cases ry;obtain⟨_,hd,vs,G,dd⟩:=iB I.hok J;obtain⟨_,jD,ws,j,U⟩:=iB I.hok O;refine W.keq_ne (knd:=ce X.prog X.w) (r:=true) hd jD dd U (by omega) (λ_=>Gd I hu nd j pr G hm) ⟨.bl false,H,I,?_,q⟩;have e:vs.length=ws.length:=by rw[<-G.length,<-j.length,Y]
 rw[e];simp[RelV]
end
end L2
namespace K71
section
variable {K:Fg}{β:Type}{H:Hp}{ps:Lp}{ch:Ch}{cs:Cs}{ow:Ow}
seal PE PS cf PA PT PW PG gf PI fW
theorem aqL(n:Nat){xs ys:Ls}(j:∀x∈xs,Ln x)(G:∀x∈ys,Ln x):W.kqdOk (n+2) (.tuple [dS xs,dS ys])=true:=by
 rw[W.kqdOk];simp only[En,Yx,mD n j,mD n G,Yy]
theorem aqM{α:Type}{F:α->β->Prop}{zs j:List β}(p:j.Perm zs):∀{ys:List α},Paired F ys zs->∃xs,xs.Perm ys/\Paired F xs j:=by
 induction p with
 | nil=>intro ys h;cases h;exact⟨[],.nil,.nil⟩
 | cons a p Y=>
  intro ys h;cases h with
  | cons r t=>
   obtain⟨xs,h1,h2⟩:=Y t;exact⟨_,h1.cons _,.cons r h2⟩
 | swap a b l=>
  intro ys h;cases h with
  | cons r t=>
   cases t with
   | cons r' t'=>exact⟨_,.swap _ _ _,.cons r' (.cons r t')⟩
 | trans p q G J=>
  intro ys h;obtain⟨w1,h1,h2⟩:=J h;obtain⟨w2,O,U⟩:=G h2;exact⟨w2,O.trans h1,U⟩
theorem Kz{F:ak×V->Str×β->Prop}(G:∀kv f,F kv f->kv.1=Sum.inr f.1){kvs:List (ak×V)}{tr:List (Str×β)}(h:Paired F kvs tr)(nd:(tr.map (·.1)).Nodup):(kvs.map (·.1)).Nodup:=by
 rw[show kvs.map (·.1)=(tr.map (·.1)).map Sum.inr from pE G h];exact nd.map Sum.inr λx y j z=>j (md z)
theorem KA{F:ak×V->Str×β->Prop}(hk:∀kv f,F kv f->kv.1=Sum.inr f.1){G:Str×β->Prop}(Y:∀a b e,G e->F a e->F b e->rf K H a b){kvs fA:List (ak×V)}{c c':List (Str×β)}(pm:c'.Perm c)(ok:∀e∈c,G e)(h1:Paired F kvs c')(h2:Paired F fA c):∃j,Paired (rf K H) kvs j/\(∀p∈j,p∈fA)/\kvs.length=fA.length:=by
 obtain⟨j,O,p2⟩:=aqM pm h2;refine⟨j,?_,λp hp=>O.mem_iff.mp hp,?_⟩
 . have U:∀e∈c',G e:=λe J=>ok e (pm.mem_iff.mp J);clear pm ok O
   induction h1 generalizing j with
   | nil=>cases p2;exact .nil
   | cons r t ih=>
    cases p2 with
    | cons r' t'=>exact .cons (Y _ _ _ (U _ bL) r r') (ih _ t' λe J=>U e (bT _ J))
 have:=bA h1;have:=bA h2;have:=pm.length_eq;omega
theorem aqN(a b:ak×V)(e:Str×List Int)(_:True)(h1:dA H a e)(h2:dA H b e):rf K H a b:=by
 obtain⟨x1,Y,G,O⟩:=h1;obtain⟨j,m2,J,U⟩:=h2;refine⟨x1.trans j.symm,dI e.2,?_,?_,uC 8 _⟩
 . rw[G];exact .tup (aX.of O) (Bv _)
 rw[J];exact .tup (aX.of U) (Bv _)
theorem aqO(a b:ak×V)(e:Str×Str)(h:eD e.2)(h1:pH a e)(h2:pH b e):rf K H a b:=by
 refine⟨h1.1.trans h2.1.symm,.str e.2,?_,?_,?_⟩
 . rw[h1.2];exact .str _
 . rw[h2.2];exact .str _
 simpa [W.kqdOk]using h
theorem aqP(a b:ak×V)(e:Str×(Ls×Ls))(h:(∀x∈e.2.1,Ln x)/\∀x∈e.2.2,Ln x)(h1:cD H a e)(h2:cD H b e):rf K H a b:=by
 obtain⟨x1,t1,p1,q1,Y,z1,j,J⟩:=h1;obtain⟨U,t2,p2,q2,y2,z2,G,O⟩:=h2;refine⟨x1.trans U.symm,.tuple [dS e.2.1,dS e.2.2],?_,?_,aqL 7 h.1 h.2⟩
 . rw[Y];exact .tup (aX.of z1) (.cons (jH (ac.of j)) (.cons (jH (ac.of J)) .nil))
 rw[y2];exact .tup (aX.of z2) (.cons (jH (ac.of G)) (.cons (jH (ac.of O)) .nil))
theorem VA{xs:Lv}(h:fq xs ps ch cs ow):∀e∈ow,(∀x∈e.2.1,Ln x)/\∀x∈e.2.2,Ln x:=λe G=>⟨λx j=>((h.ok.ok.ow e G).2.1 x j).ln,λx j=>((h.ok.ok.ow e G).2.2 x j).ln⟩
section
variable {a b:Addr}{Q:VK}{r:Bool}
theorem chQ(h1:de H a ch)(h2:de H b ch)(nd:(ch.map (·.1)).Nodup)(q:Q (.bl r) H):rQ K r (.ref a) (.ref b) H Q:=by
 obtain⟨k1,j,U⟩:=h1;obtain⟨k2,J,p2⟩:=h2;obtain⟨O,e1,e2,e3⟩:=KA (K:=K) (λkv f z=>z.1) (G:=λ_=>True) aqN (.refl ch) (λ_ _=>trivial) U p2;exact⟨a,b,k1,O,k2,rfl,rfl,j,J,e1,e2,e3,Kz (λkv f z=>z.1) p2 nd,q⟩
theorem csQ(h1:pJ H a cs)(h2:pJ H b cs)(ok:∀e∈cs,eD e.2)(nd:(cs.map (·.1)).Nodup)(q:Q (.bl r) H):rQ K r (.ref a) (.ref b) H Q:=by
 obtain⟨k1,j,O⟩:=h1;obtain⟨k2,G,p2⟩:=h2;obtain⟨J,e1,e2,e3⟩:=KA (K:=K) (λkv f z=>z.1) aqO (.refl cs) ok O p2;exact⟨a,b,k1,J,k2,rfl,rfl,j,G,e1,e2,e3,Kz (λkv f z=>z.1) p2 nd,q⟩
theorem VB{aD:Ow}(h1:kI H a ow)(h2:kI H b aD)(pm:ow.Perm aD)(ok:∀e∈ow,(∀x∈e.2.1,Ln x)/\∀x∈e.2.2,Ln x)(nd:(ow.map (·.1)).Nodup)(q:Q (.bl r) H):rQ K r (.ref a) (.ref b) H Q:=by
 obtain⟨k1,j,U⟩:=h1;obtain⟨k2,G,p2⟩:=h2;obtain⟨O,e1,e2,e3⟩:=KA (K:=K) (λkv f z=>z.1) aqP pm (λe J=>ok e (pm.mem_iff.mpr J)) U p2;exact⟨a,b,k1,O,k2,rfl,rfl,j,G,e1,e2,e3,Kz (λkv f z=>z.1) p2 ((pm.map _).nodup_iff.mp nd),q⟩
end
inductive VC (Hc T D Pt:Addr):Sp where
 | mk {H:Hp}{Q:VK}{E:XK}{h U x dx d b gg o f:Addr}{sv G j:V}{fs:Tr}{bk:Bk}{xs:Lv}{ps:Lp}{t:Str}{ch:Ch}{cs:Cs}{ow Y O:Ow}{p:Str}{J:List (ak×V)} (_:H h=some (.ins Hc U (xq sv x))) (_:DU D x dx d b gg Pt xs ps t ch cs ow fs bk H) (_:bk.length<=500) (_:ip T H G ch cs Y) (_:kI H o O) (_:ow.Perm O) (_:H f=some (.dK J)) (_:Paired (bB H) J fs) (_:p.length<=60) (_:(j=.non\/∃(l:Addr) (ls:Ls),j=.ref l/\H l=some (.lst (ls.map V.str))/\(∀y∈ls,Ln y)/\(look fs p).getD []=ls/\look fs (p++fK)=none)) (_:∀H',aa H H'->Q (.bl true) H'):VC Hc T D Pt [.ref h,G,.ref o,.str p,j,.ref f] H Q E
theorem VD:aN [ayw,ayS,ayV,ayi,ayt,ayE,"_law_stand_here"] [ayw,ayS,ayV,ayi,ayt,ayE] (au Co):=aV
theorem aqS(j:Pg K mg base Pt):aA P w K mg base aJ 7 j.LAf.f j.LAf.fd [ayw,ayS,ayV,ayi,ayt,ayE] (VC j.Hc j.T j.D Pt):=by
 refine j.LAf.u.ok VD (λvs H Q E h=>?_) (λar Ar outer s H vs Q E hr h=>?_)
 . cases h;rfl
 have hu:=hr.units;have uY:(Ar.deeper (PyProof.Rows.envOfC "_law_after" (au Co) s.heap.objs.size j.LAf.f ar)).units+65<cLine:=by have:=hr.un;omega
 refine tZ ?_;intros;obtain @⟨_,_,_,h,bC,x,dx,d,b,gg,o,f,sv,bv,lv,fs,bk,xs,ps,t,ch,cs,ow,pW,p9,p,kf,hh,hD,l5,hB,hO,pm,hf,pf,lp,hl,q⟩:=h;refine⟨_,(ah (aI (i:=6) VD.nd rfl (Or.inl rfl) (iz (pv 0) j.UH.cl j.UH.mSt (up (Aj j)) hr j.HSt.b .nil dv))
  (ah (cg (PW.pt (yc (bS (DK uY) (bK (pv 6) rfl) (bK (pv 1) rfl) (bJ _)) (yc (bS (DK uY) (bK (pv 6) rfl) (bK (pv 1) rfl) (bJ _)) (Ba (bS (DK uY) (bK (pv 6) rfl) (pv 2) (bJ _))))))
  (al (aT x6)) cZ)
  (al (aT (EJ (oN Bg (pv 4) jq (bJ _)) (qN (ye (Zc (Fs hu (aE vB (pv 3) bO) (pv 5)) (by rfl)) (qN (oN (vI hu) (vH hu (pv 5) (pv 3) (db dG) ⟨rfl,rfl,rfl,rfl⟩) (pv 4) (bJ _)))))))))),?_⟩
 refine i9 ?_;intro dD sS u3 u2;refine⟨hh,rfl,hh,hD,l5,λv H1 G O=>?_⟩;have O:=O [] λb z=>nomatch z
 rw[CJ]at O;obtain⟨va,DB,DC,c0,h0,o0,rfl,w1,w2,w3,w4,w5,w6,w7⟩:=O;obtain⟨ba,a0,a1,c1,h1,o1,rfl,y1,y2,y3,y4,y5,y6,y7⟩:=hB.same G;have J:=hD.tx.so;refine⟨w1,j.UT.cl,j.UT.nC,w2,y1,j.UT.cl,j.UT.nC,y2,chQ w5 y5 J.ok.d1 ⟨eL ?_⟩⟩;refine⟨w1,j.UT.cl,j.UT.nH,w3,y1,j.UT.cl,j.UT.nH,y3,csQ w6 y6 (λe he=>(J.ok.ok.cs e he).2.ok) J.ok.d2 ⟨eL ?_⟩⟩;refine⟨w1,j.UT.cl,j.UT.nO,w4,⟨VB w7 (hO.same G) pm (VA J) J.ok.d3 ⟨eL ?_⟩⟩⟩;refine⟨rfl,⟨?_⟩⟩
 rcases hl with rfl | ⟨l,ls,rfl,hl,ln,e1,e2⟩
 . exact gm (q H1 G)
 refine eL ?_;have VE:=av pf λ_ _=>bB.same G;have Y:=G _ _ hf;have lo:fK.length<=10:=by decide +kernel
 refine⟨_,_,rfl,rfl,dW (by show p.length+fK.length<=_;omega),_,cn.k (k:=.inr (p++fK)) Y,⟨?_⟩⟩;rw[rA (F:=bB H1) (λkv f z=>z.1) VE (gy.mp e2)];refine gm ?_;refine⟨.inl ⟨_,.inl Y⟩,Ab,λl1 H2 n2 U e3=>⟨_,cn.k (k:=.inr p) (U _ _ Y),?_⟩⟩;obtain⟨z,ez,hz⟩:=Ao (p:=p) (av VE λ_ _=>bB.same U) hD.dk.nd e3;rw[ez];rw[e1]at hz;refine⟨dS ls,dS ls,xr hz,xr ((G.trans U) _ _ hl),mD 8 ln,mD 8 ln,λbb hb=>?_⟩;rw[hb.mpr rfl];exact q H2 (G.trans U)
theorem KD{t:Addr}:msk [t] H t=none:=by
 unfold msk;rw[ai bL]
theorem aqT{R:Hp}{L:List Addr}(s:aa R H)(v:∀q∈L,R q=none):aa R (msk L H):=λq o e=>cw (λj=>by rw[v q j]at e;cases e) (s q o e)
section
variable {D x dx d b gg Pt:Addr}{xs:Lv}{t:Str}{fs:Tr}{bk:Bk}{H':Hp}
theorem DU.new(h:DU D x dx d b gg Pt xs ps t ch cs ow fs bk H)(s:aa H H'){l:Addr}{o:HO}(n:H l=none)(e:H' l=some o):DU D x dx d b l Pt xs ps t ch cs ow fs bk H':=by
 obtain⟨Y,d1,d2⟩:=h.dk.fi;have k:=h.dk.same s;exact⟨⟨k.ob,⟨Y,s _ _ d1,av d2 λ_ _ G=>G.elim λz1 J=>J.elim λl' O=>O.elim λz2 U=>U.elim λ_ j=>⟨z1,l',z2,aH j n,s _ _ j⟩⟩,k.bo,k.nd,k.ok,k.bz,k.bt,⟨o,e⟩⟩,h.la,h.tx,h.tk,h.up,h.fu,h.ln,h.tb.same s⟩
theorem DU.own(h:DU D x dx d b gg Pt xs ps t ch cs ow fs bk H):DU D x dx d b x Pt xs ps t ch cs ow fs bk H:=by
 obtain⟨Y,d1,d2⟩:=h.dk.fi;have k:=h.dk;exact⟨⟨k.ob,⟨Y,d1,av d2 λ_ _ O=>O.elim λz1 U=>U.elim λl' G=>G.elim λz2 J=>J.elim λ_ j=>⟨z1,l',z2,be j k.ob (by intro z;cases z),j⟩⟩,k.bo,k.nd,k.ok,k.bz,k.bt,⟨_,k.ob⟩⟩,h.la,h.tx,h.tk,h.up,h.fu,h.ln,h.tb⟩
theorem DU.upd(h:DU D x dx d b gg Pt xs ps t ch cs ow fs bk H){q:Addr}{o o':HO}(hq:H q=some o)(n:q∉[x,d,b,Pt])(Y:(∃k,o=.dK k)\/((∃v,o=.lst v)/\q=gg)):DU D x dx d b gg Pt xs ps t ch cs ow fs bk (L2.upd H q o'):=by
 obtain⟨kd,d1,d2⟩:=h.dk.fi;obtain⟨tb,b1,b2⟩:=h.dk.bo;simp only[aZ,fc,fe,mh]at n;have nt:∀{a:Addr}{z:HO},H a=some z->(∀k,z≠.dK k)->(∀v,z≠.lst v)->L2.upd H q o' a=some z:=λ{a z} e n1 n2=>aw e λy=>by
  rw[y,hq]at e;cases e
  rcases Y with⟨k,w⟩ | ⟨⟨v,w⟩,_⟩
  . exact n1 k w
  exact n2 v w
 have fl:∀{j:Addr}{v:Lv},j≠gg->H j=some (.lst v)->L2.upd H q o' j=some (.lst v):=λ{j v} J G=>aw G λy=>by
  rcases Y with⟨k,w⟩ | ⟨_,w⟩
  . rw[y,hq,w]at G;cases G
  exact J (y.trans w)
 refine⟨⟨aw h.dk.ob (fw n.1),⟨kd,aw d1 (fw n.2.1),av d2 λ_ _ a0=>a0.elim λO a1=>a1.elim λj a2=>a2.elim λU a3=>a3.elim λJ G=>⟨O,j,U,J,fl J G⟩⟩,⟨tb,aw b1 (fw n.2.2.1),av b2 λ_ _ a4=>a4.elim λt' a5=>a5.elim λO U=>⟨t',O,nt U (by intro k z;cases z) (by intro v z;cases z)⟩⟩,h.dk.nd,h.dk.ok,h.dk.bz,h.dk.bt,?_⟩,h.la,h.tx,h.tk,h.up,h.fu,h.ln,K71.TabSt.kp h.tb λa φ e=>nt e (by intro k z;cases z) (by intro v z;cases z)⟩;obtain⟨og,eg⟩:=h.dk.go
 by_cases z:gg=q
 . exact⟨o',by rw[z];exact aB⟩
 exact⟨og,aw eg z⟩
end
theorem aq8{p:Str}{e:Ls×Ls}(nd:(ow.map (·.1)).Nodup):(bw ow p e).Perm (eB ow p++[(p,e)]):=by
 have n1:((bw ow p e).map (·.1)).Nodup:=jL nd;have n2:((eB ow p++[(p,e)]).map (·.1)).Nodup:=by
  rw[dP,qz];refine⟨nd.sublist (EA.map _),by simp,λa G c j=>?_⟩;have j:c=p:=bD.mp j;obtain⟨y,J,rfl⟩:=cC.mp G;rw[j];exact cH (jk.mp J).2
 have f:∀{l:Ow},(l.map (·.1)).Nodup->l.Nodup:=λ{l} h=>List.Pairwise.of_map _ (λa b z y=>z (by rw[y])) h;refine(awK (f n1) (f n2)).mpr λy=>?_;have k1:y∈bw ow p e↔look (bw ow p e) y.1=some y.2:=⟨λh=>lU n1 h,λh=>jV h⟩;have k2:y∈ow↔look ow y.1=some y.2:=⟨λh=>lU nd h,λh=>jV h⟩;rw[k1,uL,bR,bD]
 by_cases z:p=y.1
 . rw[ai z];constructor
   . intro w;exact .inr (Prod.ext z.symm (gM w).symm)
   rintro(w | w)
   . exact absurd z.symm (cH (jk.mp w).2)
   rw[w]
 rw[ag z,<-k2];constructor
 . intro w;exact .inl (jk.mpr ⟨w,bN λv=>z v.symm⟩)
 rintro(w | w)
 . exact Ak w
 exact absurd (by rw[w]) z
theorem aq9{ns:Ls}{p:Str}{G:Tr}{x:Ls}(j:Apart ns ps)(nd:(ch.map (·.1)).Nodup)(g:fH (bZ (ps.filter (gw ch))) G)(h:pY ps ch p x):x=(look G p).getD []:=by
 obtain⟨px,aK,h1,h2,rfl⟩:=h;rw[JY j nd h1.mm (λq=>by rw[h1.iff j.nd nd,jk];unfold gw;rw[xS]) h2 g]
end
section
variable {H H':Hp}{z:HO}
seal PE PS cf PA PT PW PG gf PI fW
def VF:Ls:=["","A","a//b","=a","a.own","/a","a/","a/b/c/d/e"]
theorem ara:∀z∈VF,eD z/\z.length<=1000/\kH z=false:=by decide +kernel
theorem arb{L:List Addr}(h:H q=none):msk L H q=none:=by
 unfold msk;split
 . rfl
 exact h
def Nm(o x d b Pt:Addr)(H:Hp):Hp:=msk [o] (msk [x,d,b,Pt] H)
theorem Nm.sub:aa (Nm o x d b Pt H) (msk [x,d,b,Pt] H):=bc
theorem Nm.up:aa (Nm o x d b Pt H) H:=bc.trans bc
theorem Nm.mono(s:aa H H'):aa (Nm o x d b Pt H) (Nm o x d b Pt H'):=dw (dw s)
theorem Nm.kp(k:cG x d b Pt H H'):aa (Nm o x d b Pt H) (Nm o x d b Pt H'):=dw k.msk
theorem Nm.upd:Nm o x d b Pt (L2.upd H o z)=Nm o x d b Pt H:=by
 unfold Nm
 funext q
 by_cases e:q=o
 . rw[e,KD,KD]
 unfold msk;rw[aQ e]
theorem Nm.upd'(s:aa (Nm o x d b Pt H) (Nm o x d b Pt H'))(n:H q=none):aa (Nm o x d b Pt H) (Nm o x d b Pt (L2.upd H' q z)):=λa y e=>by
 have j:=s a y e;have ne:a≠q:=λw=>by have:=Nm.up a y e;rw[w,n]at this;cases this
 unfold Nm msk at j ⊢;rw[aQ ne];exact j
theorem cG.upd(k:cG x d b Pt H H')(n:H q=none):cG x d b Pt H (L2.upd H' q z):=λa y e n1 n2 n3 j=>aw (k a y e n1 n2 n3 j) (aH e n)
theorem arc{ns:Ls}{ps:Lp}{s:cb->Bool}{j:Tr}(J:Apart ns ps)(g:fH (bZ (ps.filter s)) j):(∀f∈j,cz f.1)/\∀p,uX ((look j p).getD []):=by
 have k:∀f∈j,cz f.1/\(∀x∈f.2,fm x)/\f.2.length<=4:=λf G=>by
  obtain⟨q,O,G⟩:=qD.mp (g.sub f G);exact(J.ok q (jk.mp O).1).2.1 f G
 refine⟨λf G=>(k f G).1,λp=>?_⟩;cases e:look j p with
 | none=>exact⟨(λ_ h=>nomatch h),dC _⟩
 | some ls=>
  have:=k _ (jV e);exact⟨this.2.1,b8 this.2.2 (by decide)⟩
structure Wd(Hc C S T h bC x va bh:Addr)(sv:V)(xs:Lv)(ps:Lp)(ns:Ls)(ch:Ch)(cs:Cs)(ow:Ow)(kb:List (ak×V))(br:Tr)(N:Hp):Prop where
 hw:HW Hc C S h bC x sv xs ps ns N
 st:ip T N (.ref va) ch cs ow
 hb:N bh=some (.dK kb)
 pb:Paired (bB N) kb br
theorem Wd.same{O:V}{xs:Lv}{ps:Lp}{ns:Ls}{ch:Ch}{cs:Cs}{ow:Ow}{J:List (ak×V)}{G:Tr}{N j:Hp}(z:Wd Hc C S T h bC x va bh O xs ps ns ch cs ow J G N)(s:aa N j):Wd Hc C S T h bC x va bh O xs ps ns ch cs ow J G j:=⟨z.hw.same s,z.st.same s,s _ _ z.hb,av z.pb λ_ _=>bB.same s⟩
theorem ard{ow:Ow}{p:Str}{e:Ls×Ls}:bw (eB ow p) p e=eB ow p++[(p,e)]:=by
 unfold bw;rw[ag];intro z;obtain⟨f,j,w⟩:=sW.mp z;exact cH (jk.mp j).2 (cH w)
inductive VG (Hc C S D Pt:Addr):Sp where
 | mk {H:Hp}{Q:VK}{E:XK}{h U x dx d b j:Addr}{sv:V}{fs:Tr}{bk:Bk}{xs:Lv}{ps:Lp}{ns:Ls}{t:Str}{ch:Ch}{cs:Cs}{ow:Ow}{Y:Int}{O:List (ak×V)}{G:Tr} (_:HW Hc C S h U x sv xs ps ns (msk [x,d,b,Pt] H)) (_:DU D x dx d b x Pt xs ps t ch cs ow fs bk H) (_:bk.length<=290) (_:ow.length<=7) (_:lZ ps ch ow) (_:msk [x,d,b,Pt] H j=some (.dK O)) (_:Paired (bB (msk [x,d,b,Pt] H)) O G) (_:fH (bZ (ps.filter (gw ch))) G) (_:∀t' aD cI J H',DU D x dx d b x Pt xs ps t' ch cs aD cI J H'->J.length<=bk.length+10->aD.length<=ow.length+1->lZ ps ch aD->cG x d b Pt H H'->Q (.bl true) H'):VG Hc C S D Pt [.ref h,.ref x,.ref j,.int Y] H Q E
theorem qa:aN [ayw,ayZ,ays,ayb,ayS,ayV,ayi,ayt,"_law_handed"] [ayw,ayZ,ays,ayb] (au Cp):=aV
theorem are(j:Pg K mg base Pt):aA P w K mg base aJ 12 j.LDe.f j.LDe.fd [ayw,ayZ,ays,ayb] (VG j.Hc j.C j.S j.D Pt):=by
 refine j.LDe.u.ok qa (λvs H Q E h=>?_) (λar Ar outer s H vs Q E J h=>?_)
 . cases h;rfl
 have hu:=J.units;have ED:=J.units0;have uY:(Ar.deeper (PyProof.Rows.envOfC "_law_deed" (au Cp) s.heap.objs.size j.LDe.f ar)).units+65<cLine:=by have:=J.un;omega
 refine tZ ?_;intros;obtain @⟨_,_,_,h,bC,x,dx,d,b,bh,sv,fs,bk,xs,ps,ns,t,ch,cs,ow,a0,kb,br,hW,hD,l3,l7,oi,hb,pb,gb,q⟩:=h;refine⟨_,(ah (aI (i:=4) qa.nd rfl (Or.inl rfl) (iz (pv 0) j.UH.cl j.UH.mSt (up (Aj j)) J j.HSt.b .nil dv))
  (ah (aI (i:=5) qa.nd rfl (Or.inl rfl) (dR vO (by rfl) j.B.dict AY (ao (bK (pv 4) rfl))))
  (ah (aI (i:=6) qa.nd rfl (Or.inl rfl) (aF (ID j) J rfl (ao (aF (gG j) J rfl (aL (pv 3) am)))))
  (vT (cg (PW.pt (oI (bS fO (aE cy (pv 3) am) am (bJ _)) (tu (bS (afW ED) (pv 2) kC (bJ _)))))
  (al (aI (i:=6) qa.nd rfl (Or.inl rfl) (bP fV (c8 (ae7 rfl) (by rfl) j.B.sorted vm (ao (abE xJ awo PySem.F.type_dict_keys ae6 (pv 2)))) (aE cy (aF (gG j) J rfl (aL (pv 3) am)) (c8 adc (by rfl) j.B.len gA (ao (pv 2)))) (λ_ _=>rfl)))) cZ)
  (ah (aI (i:=7) qa.nd rfl (Or.inl rfl) jq)
  (vT (cg (bS fO (aE cy (aE gO (pv 3) am) am) am (bJ _))
  (al (aI (i:=7) qa.nd rfl (Or.inl rfl) (aF (aqI j) J rfl (q5 (pv 3) (iz (pv 1) j.UD.cl j.UD.mFNo (up (C6 j)) J j.FNo.b .nil dv) (pv 2) (pv 6))))) cZ)
  (ah (cg (bS fO (aE cy (aE gO (pv 3) am) am) am (bJ _))
  (ah (aI (i:=6) qa.nd rfl (Or.inl rfl) (bP fV (db (gk bO (gk bO (gk bO (gk bO (q5 bO bO bO bO)))))) (aE cy (aE gO (pv 3) am) am) (λ_ _=>rfl)))
   (al (aT (ye (aF (aqJ j) J rfl (d6 (pv 0) (pv 6) (pv 7))) (qN (oN (aqK uY) (bK (iz (pv 0) j.UH.cl j.UH.mSt (up (Aj j)) J j.HSt.b .nil dv) rfl) (pv 5) (bJ _))))))) cZ)
  (vT (cg (oH (tN hu (pv 6) (pv 5)) (by rfl))
  (al (cp (Br (pv 5) (pv 6) ⟨rfl,rfl,rfl,rfl⟩))) cZ)
  (vT (cg (bS Bg (pv 7) jq (bJ _))
  (al (cp (nj (pv 0) j.UH.cl j.UH.mFg (up (Vm j)) J j.HFg.b .nil PH (ao (pv 6))))) (ah (aI (i:=8) qa.nd rfl (Or.inl rfl) (dR jG (by rfl) j.B.list iS (ao (pv 7))))
   (ah (cp (nj (pv 0) j.UH.cl j.UH.mEd (up (Vo j)) J j.HEd.b .nil PH (aL (pv 6) (pv 8))))
   (ah (cp (dH iT vn vo oU (pv 8) (ao bO)))
   (al (cg (bS (Bw hu) (pv 7) (vH hu (pv 2) (pv 6) (db dG) ⟨rfl,rfl,rfl,rfl⟩) (bJ _))
   (al (iC hu (pv 5) (pv 6) (eT (aL (vH hu (pv 2) (pv 6) (db dG) ⟨rfl,rfl,rfl,rfl⟩) (pv 7))) rfl)) cZ))))))
  (al (aT (aF (aqS j) J rfl (gk (pv 0) (gk (pv 4) (q5 (pv 5) (pv 6) (pv 7) (iz (pv 1) j.UD.cl j.UD.mFNo (up (C6 j)) J j.FNo.b .nil dv)))))))))))))))),?_⟩
 refine lI ?_;intro dD sS u4 u3 u2;have hh:=bc _ _ hW.ob;refine⟨hh,rfl,hh,hD,by omega,λv0 H1 s1 jv=>?_⟩;have R1:=jv [x,d,b,Pt] hD.busy;obtain⟨va,DB,DC,c0,h0,o0,rfl,w1,w2,w3,w4,w5,w6,ko,w7,w8⟩:=id R1;refine⟨bc _ _ w1,j.UT.cl,j.UT.nO,w4,o0,_,rfl,bc _ _ w7,λG H2 n2 s2 e2=>?_⟩;have bM:=s1.trans s2;have D2:=hD.same bM;have so:=hD.tx.so;have ma:G∉[x,d,b,Pt]:=(hD.same s1).busy.free n2;have n0:H G=none:=s1.free n2;have sN:aa (msk [x,d,b,Pt] H1) (Nm G x d b Pt H2):=aqT (dw s2) λq hq=>by rw[bD.mp hq];exact arb n2
 have W2:Wd j.Hc j.C j.S j.T h bC x va bh sv xs ps ns ch cs ow kb br (Nm G x d b Pt H2):=⟨(hW.same (dw s1)).same sN,R1.same sN,sN _ _ (dw s1 _ _ hb),av pb λ_ _ z=>(bB.same (dw s1) z).same sN⟩;have a':Paired (cD (Nm G x d b Pt H2)) ko ow:=av w8 λ_ _=>cD.same sN;have ap:=hW.wl.ap;obtain⟨bp,bo⟩:=arc ap gb;have a9:∀{R:Hp} kv f,bB R kv f->kv.1=Sum.inr f.1:=λkv f z=>z.1;have KG:∀{R:Hp} kv e,cD R kv e->kv.1=Sum.inr e.1:=λkv f z=>z.1;have lk:=bA pb;have aR:br.length<=18:=by
  have:=gb.len;have:=Vv ps (gw ch);have:=CU (b:=3) (ps:=ps) λp hp=>(ap.ok p hp).1;have:=ap.len;omega
 refine⟨⟨λm1=>⟨λp0 H3 VH s3=>?_⟩⟩⟩;refine⟨λσ' H'=>∃p,σ'=[some (.ref h),some (.ref x),some (.ref bh),some (.int a0),some (.ref va),some (.ref G),some (.str p),none,none]/\cz p/\aa H2 H',?_,?_⟩
 . refine⟨(by show(0:Int)<2;decide),rfl,⟨bu (λ_=>?_) (λ_=>eL ⟨p0,rfl,VH,s3⟩)⟩⟩;refine⟨λz H5 n5 s5 e5=>?_⟩;have KH:=s3.trans s5;have dh:=KH _ _ (Nm.up _ _ W2.hb);refine⟨bh,z,kb,rfl,rfl,dh,e5,⟨bu (λcY=>?_) (λ_=>⟨p0,rfl,VH,KH⟩)⟩⟩;refine⟨.inr (.inr (.inl ⟨rfl,.inl ⟨_,dh⟩⟩)),bh,_,rfl,rfl,dh,λv6 H6 n6 s6 e6=>?_⟩;refine⟨v6,bh,kb,_,rfl,e6,s6 _ _ dh,pE a9 pb,by omega,λzs zp _ l7 H7 n7 O e7=>?_⟩;refine⟨⟨λm2=>?_⟩⟩;have pq:0<kb.length:=by
    cases kb with
    | nil=>cases cY
    | cons a b=>simp
   have zl:zs.length=kb.length:=by rw[zp.length_eq,aj,lk]
   obtain⟨y,an,ax⟩:=tV (xs:=zs) (r:=m2 % (kb.length:Int)) (vi _ (by omega)) (by rw[zl];exact xO _ (by omega));refine⟨bh,kb,rfl,O _ _ (s6 _ _ dh),(by show(0:Int)<(kb.length:Int);omega),ac.of e7,an,?_⟩;refine⟨y,rfl,?_,KH.trans (s6.trans O)⟩;obtain⟨g,hg,rfl⟩:=cC.mp (zp.mem_iff.mp (dM ax));exact bp g hg
 rintro σ' H3 ⟨p,rfl,hp,s3⟩;refine ju ?_;intro dE sE uE;refine⟨λσ' H'=>∃lv,σ'=[some (.ref h),some (.ref x),some (.ref bh),some (.int a0),some (.ref va),some (.ref G),some (.str p),some lv,none]/\aa H2 H'/\(lv=.non\/∃(l:Addr) (ls:Ls),lv=.ref l/\H2 l=none/\H' l=some (.lst (ls.map V.str))/\uX ls),?_,?_⟩
 . refine⟨⟨by omega,by omega⟩,(by show(0:Int)<2;decide),rfl,⟨bu (λ_=>?_) (λ_=>⟨.non,rfl,s3,.inl rfl⟩)⟩⟩;have D3:=D2.same s3;obtain⟨kd,d1,d2⟩:=id D3.dk.fi;refine⟨D3.dk.ob,rfl,D3.dk.ob,d1,av d2 λ_ _=>Lu.du,D3.dk.nd,by have:=D3.ln;omega,λr H4 kr nr s4 e4 rH=>?_⟩;have rZ:=s3.trans s4;refine⟨e4,av rH λ_ _ z=>z.du,D3.dk.nd,rZ _ _ (Nm.up _ _ W2.hb),av W2.pb λ_ _ z=>(bB.same Nm.up z).same rZ,gb.nd,aqC ap D3.fu D3.tx oi hp,bo p,λl H5 ls n5 s5 e5 ok=>?_⟩;exact⟨.ref l,rfl,rZ.trans s5,.inr ⟨l,ls,rfl,rZ.free n5,e5,ok⟩⟩
 rintro σ' H4 ⟨lv,rfl,s4,hl⟩;have D4:=D2.same s4;have W4:=W2.same (Nm.mono s4);have VI:=Nm.up _ _ W4.hw.ob;have o4:=s4 _ _ e2;have DL:Paired (cD (Nm G x d b Pt H4)) ko ow:=av a' λ_ _=>cD.same (Nm.mono s4);refine ju ?_;intro dF sF uF;refine⟨⟨by omega,by omega⟩,(by show(0:Int)<8;decide),rfl,⟨bu (λ_=>?_) (λ_=>?_)⟩⟩
 . refine⟨(by show 8<=sizeLine;decide),λp5 H5 n5 s5 e5=>?_⟩;obtain⟨z,wQ,Kv⟩:=tV (xs:=VF) (r:=a0 / 128 % 8) (by omega) (by show _<(8:Int);omega);obtain⟨zo,zl,zb⟩:=ara z (dM Kv);refine⟨⟨by omega,by omega⟩,(by show(0:Int)<8;decide),ac.of e5,wQ,?_⟩;have W5:=W4.same (Nm.mono s5);refine⟨W5.hw.same Nm.sub,D4.same s5,by omega,zo,zl,zb,?_,λH6 s6=>⟨gm ?_⟩⟩
   . rcases hl with z | ⟨l,ls,z1,_,z2,_⟩
     . exact .inl z
     exact .inr ⟨l,ls,z1,s5 _ _ z2⟩
   have kR:=s5.trans s6;have Y:=D4.same kR;refine⟨kR _ _ VI,rfl,kR _ _ VI,Y,by omega,λv7 H7 O DM=>?_⟩;have DM:=DM [] λb z=>nomatch z
   rw[CJ]at DM;obtain⟨ya,b4,b5,c1,h1,o2,rfl,y1,y2,y3,y4,y5,y6,y7⟩:=DM;have KI:=kR.trans O;refine⟨y1,j.UT.cl,j.UT.nO,y4,⟨VB y7 ⟨ko,KI _ _ o4,av DL λ_ _ z=>(cD.same Nm.up z).same KI⟩ (.refl _) (VA so) so.ok.d3 ?_⟩⟩;exact q t ow fs bk H7 (Y.same O) (by omega) (by omega) oi (.of (bM.trans (s4.trans KI)))
 refine⟨λσ' H'=>σ'=[some (.ref h),some (.ref x),some (.ref bh),some (.int a0),some (.ref va),some (.ref G),some (.str p),some lv,none]/\∃lQ,H' G=some (.dK lQ)/\Paired (cD (Nm G x d b Pt H')) lQ (eB ow p)/\aa (Nm G x d b Pt H4) (Nm G x d b Pt H')/\DU j.D x dx d b x Pt xs ps t ch cs ow fs bk H'/\cG x d b Pt H H',?_,?_⟩
 . refine⟨_,cn.k (k:=.inr p) o4,⟨?_⟩⟩;have k4:cG x d b Pt H H4:=.of (bM.trans s4)
   rcases C4 KG DL p with⟨_,hs⟩ | ⟨hn,hs⟩
   . rw[hs];refine gm ?_;obtain⟨v,hv⟩:=El.mp hs;refine⟨.inl ⟨_,.inl o4⟩,ko,.inr p,v,o4,rfl,hv,?_⟩;refine⟨rfl,_,aB,?_,?_,D4.upd o4 ma (.inl ⟨_,rfl⟩),k4.upd n0⟩
     . rw[Nm.upd];exact zL KG DL
     rw[Nm.upd];exact aa.refl _
   rw[hs];refine eL ⟨rfl,ko,o4,?_,aa.refl _,D4,k4⟩;rw[zM hn];exact DL
 rintro σ' H5 ⟨rfl,lQ,o5,KJ,VJ,D5,k5⟩;have W5:=W4.same VJ;have VL:=Nm.up _ _ W5.hw.ob;have dl:(eB ow p).length<=ow.length:=xI _ _;have b1:=bA KJ;refine⟨λσ' H'=>∃u8 gg t' aD p9 cI dB,σ'=[some (.ref h),some (.ref x),some (.ref bh),some (.int a0),some (.ref va),some (.ref G),some (.str p),some lv,u8]/\DU j.D x dx d b gg Pt xs ps t' ch cs aD cI dB H'/\dB.length<=bk.length+10/\aD.length<=ow.length+1/\lZ ps ch aD/\cG x d b Pt H H'/\aa (Nm G x d b Pt H5) (Nm G x d b Pt H')/\kI H' G p9/\aD.Perm p9 /\
  (lv=.non\/∃(l:Addr) (ls:Ls),lv=.ref l/\H' l=some (.lst (ls.map V.str))/\(∀y∈ls,Ln y)/\(look cI p).getD []=ls/\look cI (p++fK)=none),?_,?_⟩
 . refine⟨rfl,⟨?_⟩⟩;have pZ:eD p:=hp.ln.ok;have lp:p.length<=1000:=by have:=hp.len;omega
   rcases hl with rfl | ⟨l,ls,rfl,nl,ab,uZ⟩
   . refine bu (λ_=>?_) (λz=>absurd (bN rfl) z);refine⟨VL,rfl,W5.hw.same Nm.sub,D5,by omega,pZ,lp,.inl ⟨hp,λH6 af=>?_⟩⟩;obtain⟨t',aD,cI,dB,r3,Y,ll,k6⟩:=af;simp only[aZ,fc,fe,mh]at ma;have ol:=r3.pm.length_eq;exact⟨none,x,t',aD,_,cI,dB,rfl,Y,ll,by omega,oi.dr r3,k5.trans k6,Nm.kp k6,⟨lQ,k6 _ _ o5 ma.1 ma.2.1 ma.2.2.1 ma.2.2.2,av KJ λ_ _ z=>(cD.same (Nm.kp k6) z).same Nm.up⟩,r3.pm,.inl rfl⟩
   refine bu (λz=>by cases (cH z)) (λ_=>?_);have lo1:l≠G:=(aH e2 nl).symm;have az:Nm G x d b Pt H4 l=some (.lst (ls.map V.str)):=cw (by simpa using lo1) (cw (D2.busy.free nl) ab);have VM:=VJ _ _ az;have DG:=Nm.up _ _ VM;refine⟨l,_,rfl,.inl (ac.of DG),λhd H6 n6 s6 e6=>?_⟩;have xv:=D5.busy.free n6;have W6:=W5.same (Nm.mono s6);refine⟨s6 _ _ VL,rfl,W6.hw.same Nm.sub,D5.new s6 n6 e6,by omega,pZ,lp,e6,.inl ⟨hp,uZ.1,uZ.2,l7,λsI H7 hB af=>?_⟩⟩;obtain⟨t',aD,cI,dB,r3,D7,ll,k7⟩:=af;have VN:=aq9 ap so.ok.d1 gb hB;have a1:=ma;simp only[aZ,fc,fe,mh]at ma xv;have lV:=k7 _ _ e6 xv.1 xv.2.1 xv.2.2.1 xv.2.2.2;have o7:=k7 _ _ (s6 _ _ o5) ma.1 ma.2.1 ma.2.2.1 ma.2.2.2;have a8:G≠hd:=aH o5 n6;have aC:=uZ.2;refine⟨.inl ⟨rfl,_,ac.of lV⟩,lV,bY (by rw[aj];omega),?_⟩;have D8:=D7.upd (o':=.lst (ls.map V.str++[.str ayY])) lV (by simp[xv]) (.inr ⟨⟨_,rfl⟩,rfl⟩);have gJ:aa (Nm G x d b Pt H5) (Nm G x d b Pt (L2.upd H7 hd (.lst (ls.map V.str++[.str ayY])))):=Nm.upd' ((Nm.mono s6).trans (Nm.kp k7)) n6;have k8:cG x d b Pt H (L2.upd H7 hd (.lst (ls.map V.str++[.str ayY]))):=λa y e n1 n2 n3 n4=>aw (k7 _ _ (s6 _ _ (k5 a y e n1 n2 n3 n4)) n1 n2 n3 n4) (aH (k5 a y e n1 n2 n3 n4) n6);have o8:L2.upd H7 hd (.lst (ls.map V.str++[.str ayY])) G=some (.dK lQ):=aw o7 a8;generalize L2.upd H7 hd (.lst (ls.map V.str++[.str ayY]))=H8 at D8 gJ k8 o8 ⊢;have W8:=W5.same gJ;have xw:=Nm.up _ _ W8.hb;have VO:Paired (bB H8) kb br:=av W8.pb λ_ _=>bB.same Nm.up;have DO:=Nm.up _ _ (gJ _ _ VM);have VQ:Paired (cD H8) lQ (eB ow p):=av KJ λ_ _ z=>(cD.same gJ z).same Nm.up;have DP:=oi.ed r3 hB uZ.2;have VR:=aqz ap D8.fu D8.tx r3 hp so.ok.d3 hB;have ol:=r3.pm.length_eq;have b0:(iw ow p sI ls).length<=ow.length+1:=by
    unfold iw;split
    . omega
    exact jM _ _ _
   refine⟨.inl ⟨_,.inl xw⟩,Ab,λl9 H9 n9 U e9=>⟨_,cn.k (k:=.inr p) (U _ _ xw),?_⟩⟩;obtain⟨z9,a7,VS⟩:=Ao (p:=p) (av VO λ_ _=>bB.same U) gb.nd e9;rw[a7];rw[<-VN]at VS;have a4:=hB.ok ap;refine⟨dS ls,dS sI,xr (U _ _ DO),xr VS,mD 8 uZ.ln,mD 8 (λy hy=>(a4.1 y hy).ln),λbb iZ=>⟨?_⟩⟩;rw[FP]at iZ;cases bb with
   | true=>
    have el:=iZ.mp rfl;refine eL ?_;have ep:iw ow p sI ls=eB ow p:=by unfold iw;rw[ai el]
    exact⟨_,hd,t',aD,eB ow p,cI,dB,rfl,D8.same U,ll,by omega,DP,k8.trans (.of U),gJ.trans (Nm.mono U),⟨lQ,U _ _ o8,av VQ λ_ _=>cD.same U⟩,ep▸r3.pm,.inr ⟨l,ls,rfl,U _ _ DO,uZ.ln,VR⟩⟩
   | false=>
    have el:ls≠sI:=λz=>by have:=iZ.mpr z;cases this
    refine gm ?_;refine⟨.inl ⟨_,.inl (U _ _ xw)⟩,Ab,λaO Jp b2 zH a5=>⟨_,cn.k (k:=.inr p) (zH _ _ (U _ _ xw)),?_⟩⟩;obtain⟨KL,a2,VT⟩:=Ao (p:=p) (av VO λ_ _=>bB.same (U.trans zH)) gb.nd a5;rw[a2];rw[<-VN]at VT;refine⟨An,λtt pO b3 VU a6=>?_⟩;have vb:=U.trans (zH.trans VU);have KN:=vb _ _ o8;refine⟨fB.k (k:=.inr p) KN (bY (by omega)),?_⟩;have ep:iw ow p sI ls=bw ow p (sI,ls):=by unfold iw;rw[ag el]
    have a3:Paired (cD pO) (cL lQ (.inr p) (.ref tt)) (bw (eB ow p) p (sI,ls)):=je (F:=cD pO) KG ⟨rfl,tt,KL,l,rfl,a6,VU _ _ VT,vb _ _ DO⟩ (av VQ λ_ _=>cD.same vb);refine⟨_,hd,t',aD,eB ow p++[(p,sI,ls)],cI,dB,rfl,(D8.same vb).upd KN a1 (.inl ⟨_,rfl⟩),ll,by omega,DP,(k8.trans (.of vb)).upd n0,?_,⟨_,aB,?_⟩,(ep▸r3.pm).trans (aq8 so.ok.d3),.inr ⟨l,ls,rfl,aw (vb _ _ DO) lo1,uZ.ln,VR⟩⟩
    . rw[Nm.upd];exact gJ.trans (Nm.mono vb)
    rw[<-ard];exact av a3 λ_ _=>cD.put KN
 rintro σ' H6 ⟨u8,gg,t',aD,p9,cI,dB,rfl,Y,ll,ol,DP,k6,kR,hO,pm,mW⟩;have W6:=W5.same kR;obtain⟨kd,d1,d2⟩:=id Y.dk.fi;refine⟨Y.dk.ob,rfl,Y.dk.ob,d1,av d2 λ_ _=>Lu.du,Y.dk.nd,by have:=Y.ln;omega,λr H7 kr nr O e7 xa=>?_⟩;refine⟨O _ _ (Nm.up _ _ W6.hw.ob),Y.same O,by omega,(W6.st.same Nm.up).same O,hO.same O,pm,e7,av xa λ_ _ z=>z.du,by have:=hp.len;omega,?_,λH8 s8=>q t' aD cI dB H8 ((Y.same O).own.same s8) ll ol DP (k6.trans (.of (O.trans s8)))⟩
 rcases mW with z | ⟨l,ls,z1,z2,z3⟩
 . exact .inl z
 exact .inr ⟨l,ls,z1,O _ _ z2,z3⟩
end
section
variable {K:Fg}{H:Hp}{xs:Lv}{ps:Lp}{Q:Addr->Hp->Prop}{E:XK}
seal PE PS cf PA PT PW PG gf PI fW
theorem Ap{t:Addr}(n:q≠t):msk [t] H q=H q:=by
 unfold msk;rw[ag (by simpa using n)]
theorem arv(n:∃φ,H Pt=some (.ext φ))(h:ac K H a xs):ac K (msk [Pt] H) a xs:=by
 obtain⟨φ,n⟩:=n
 rcases h with(h | ⟨o,h⟩) | h
 . exact .inl (.inl (by rw[Ap (be h n (by intro z;cases z))];exact h))
 . exact .inl (.inr ⟨o,by rw[Ap (be h n (by intro z;cases z))];exact h⟩)
 exact .inr h
theorem arw:sw xs ps Str.empty []:=⟨[],[],[],[],⟨[],[],[],xb,xb,xb,Dv⟩,Dv.so,⟨[],[],⟨.refl _,λp j=>nomatch j⟩,I8,λ_ _=>rfl,λc G=>G.elim λp J=>J.elim λj _=>nomatch j⟩,rfl⟩
theorem arz{fA:List (ak×V)}{tr:Tr}(hw:Paired (bB H) fA tr){kvs:List (ak×V)}{fs:Tr}(ok:eI fs)(hs:∀f∈fs,f∈tr)(h:Paired (bB H) kvs fs):∃j,Paired (rf K H) kvs j/\∀p∈j,p∈fA:=by
 induction h with
 | nil=>exact⟨[],.nil,λ_ h=>nomatch h⟩
 | @cons kv f kvs fs r t ih=>
  obtain⟨j,h1,h2⟩:=ih (λg G=>ok g (bT _ G)) (λg G=>hs g (bT _ G));obtain⟨i,hi⟩:=List.mem_iff_getElem?.mp (hs f bL);obtain⟨kw,a0,O,l2,Y,c2⟩:=Ca hw hi;obtain⟨J,l1,U,c1⟩:=r;refine⟨kw::j,.cons ⟨J.trans O.symm,dS f.2,?_,?_,SW (ok f bL)⟩ h1,λp hp=>?_⟩
  . rw[U];exact jH (ac.of c1)
  . rw[Y];exact jH (ac.of c2)
  rcases aZ.mp hp with e | hp
  . rw[e];exact dM a0
  exact h2 p hp
theorem arB{ch aY:Ch}(p:ch.Perm aY):gw ch=gw aY:=funext λq=>by unfold gw;exact xR.mpr p.mem_iff
theorem DU.keepT{t:Str}{ch:Ch}{cs:Cs}{ow:Ow}{fs:Tr}{bk:Bk}{H':Hp}(h:DU D x dx d b gg Pt xs ps t ch cs ow fs bk H)(k:lK Pt H H')(tb:TabSt H' Pt fJ fo):DU D x dx d b gg Pt xs ps t ch cs ow fs bk H':=⟨h.dk.keepT h.tb tb k,h.la,h.tx,h.tk,h.up,h.fu,h.ln,tb⟩
theorem arC(ha:H a=some (.lst xs))(U:dY C H xs ps)(J:ps.length<=100)(oh:(ps.map gK).Nodup)(q:∀x H',H x=none->aa H H'->jz S H' (.ref x) xs ps->Q x H') :
 ∀x dx,H x=none->H dx=none->dx≠x->IZ K C S (.ref x::([.ref a]++[])) (upd (upd H dx (.own x)) x (.ins S dx [])) (λv H2=>v=.non/\Q x H2) E:=by
 intro x dx j O nx;have G:aa H (upd (upd H dx (.own x)) x (.ins S dx [])):=eM (fD O) j;refine⟨aB,G _ _ ha,U.same G,J,oh,λH' keep Y=>⟨rfl,q x H' j (λb o e=>keep b o (G _ _ e) (aH e j)) Y⟩⟩
theorem arD(q:∀x dx d b H',H x=none->H d=none->H b=none->aa H H'->Dk C x dx d b x [] [] H'->Q x H') :
 ∀x dx,H x=none->H dx=none->dx≠x->JE C [.ref x] (upd (upd H dx (.own x)) x (.ins C dx [])) (λv H2=>v=.non/\Q x H2) E:=by
 intro x dx j J nx;have G:aa H (upd (upd H dx (.own x)) x (.ins C dx [])):=eM (fD J) j;exact⟨aB,λd b H' nd U h1 h2 O k=>⟨rfl,q x dx d b H' j (G.free nd) (G.free U) (λp o e=>k p o (G _ _ e) (aH e j)) ⟨h1,⟨[],h2,.nil⟩,⟨[],O,.nil⟩,kY,(λf z=>nomatch z),λ_=>rfl,(λe z=>nomatch z),⟨_,h1⟩⟩⟩⟩
theorem jz.off{v:V}(n:∃φ,H Pt=some (.ext φ))(h:jz S H v xs ps):jz S (msk [Pt] H) v xs ps:=by
 obtain⟨φ,n⟩:=n;obtain⟨a,dx,fl,d,kvs,e,h1,h2,G,j,J⟩:=h;exact⟨a,dx,fl,d,kvs,e,by rw[Ap (be h1 n (by intro z;cases z))];exact h1,h2,G,by rw[Ap (be j n (by intro z;cases z))];exact j,J⟩
theorem arE{J:V}(q:∀h j H',H h=none->aa H H'->H' h=some (.ins Hc j (xq J x))->Q h H') :
 ∀h j,H h=none->H j=none->j≠h->Kw Hc (.ref h::([J,.ref x]++[])) (upd (upd H j (.own h)) h (.ins Hc j [])) (λv H2=>v=.non/\Q h H2) E:=by
 intro h j G hd nx;have O:aa H (upd (upd H j (.own h)) h (.ins Hc j [])):=eM (fD hd) G;exact⟨aB,λH' e k=>⟨rfl,q h j H' G (λp o z=>k p o (O _ _ z) (aH z G)) e⟩⟩
inductive Aq (K:Fg) (Pt:Addr):Sp where
 | mk {H:Hp}{Q:VK}{E:XK}{a:Addr}{ns:List Int} (_:ac K H a (ns.map V.int)) (_:ns.length<=63) (_:TabSt H Pt fJ fo) (_:∀H',TabSt H' Pt fJ fo->Q (.bl true) H'):Aq K Pt [.ref a] H Q E
theorem qb:aN [ayk,aym,ayp,"_law_shelf",ayZ,"_law_stand_here",ayw,ays,ayb] [ayk] (au uu):=aV
theorem arF(j:Pg K mg base Pt):aA P w K mg base aJ 13 j.Law.f j.Law.fd [ayk] (Aq K Pt):=by
 refine j.Law.u.ok qb (λvs H Q E h=>?_) (λar Ar outer s H vs Q E G h=>?_)
 . cases h;rfl
 have uY:(Ar.deeper (PyProof.Rows.envOfC "law" (au uu) s.heap.objs.size j.Law.f ar)).units+65<cLine:=by have:=G.un;omega
 refine tZ ?_;intros;obtain @⟨_,_,_,a,is,hS,bd,b6,q⟩:=h;refine⟨_,(ah (qW (i:=1) [ay2] [ayk] [0] qb.nd rfl rfl eF rfl (oM rfl j.B.range (ao (aE gj am (aE cy (aF (zk j) G rfl (aL (pv 0) am)) am)))) (λ_ _ _ _=>(bf (i:=0) (show List.Nodup ([ay2,ayk]:Ls) by decide +kernel) rfl (Or.inl rfl))) (λ_ _ _ _=>gQ) (λ_ _ _ _=>(aF (ajH j) G rfl (aL (aF (zk j) G rfl (aL (pv 1) am)) (pv 0)))))
  (ah (aI (i:=2) qb.nd rfl (Or.inl rfl) (aF (alZ j) G rfl (d6 (pv 0) (pv 1) am)))
  (ah (aI (i:=3) qb.nd rfl (Or.inl rfl) (tI j.MSIn (up (alw j)) G rfl j.US.mgC j.SIn.b .nil dv (ao (pv 2))))
  (ah (aI (i:=4) qb.nd rfl (Or.inl rfl) (abb j.MDIn (up (amv j)) G rfl j.UD.mgC j.DIn.b .nil dv))
  (ah (aI (i:=5) qb.nd rfl (Or.inl rfl) (aF (ap3 j) G rfl (d6 (pv 2) (pv 1) (aF (zk j) G rfl (aL (pv 0) am)))))
  (ah (cp (aF (Vf (UQ j)) G rfl (d6 (pv 3) (pv 4) (pv 5))))
  (ah (aI (i:=6) qb.nd rfl (Or.inl rfl) (tI j.MHIn (up (aqi j)) G rfl j.UH.mgC j.HIn.b .nil dv (aL (pv 3) (pv 4))))
  (ah (aI (i:=7) qb.nd rfl (Or.inl rfl) (aF (aqF j) G rfl (aL (pv 2) (bK (pv 5) rfl))))
  (ah (eK dZ rfl (cU (gE [ayv] [ayk] [0] eF rfl (EO rfl j.B.range (aL am am)) (λ_ _ _ _=>(bf (i:=0) (show List.Nodup ([ayv,ayk]:Ls) by decide +kernel) rfl (Or.inl rfl))) (λ_ _ _ _=>gQ) (λ_ _ _ _=>(aF (zk j) G rfl (aL (pv 1) (pv 0)))))) (bf (i:=8) qb.nd rfl (Or.inl rfl))
  (ah (cg (yd (mr (aF (are j) G rfl (q5 (pv 6) (pv 4) (pv 7) (pv 8)))))
   (al (aT x6)) cZ)
   (al (cg (bS (DK uY) (iz (pv 4) j.UD.cl j.UD.mFNo (up (C6 j)) G j.FNo.b .nil dv) (aF (J2 j) G rfl (aL (pv 3) (iz (pv 6) j.UH.cl j.UH.mSt (up (Aj j)) G j.HSt.b .nil dv))) (bJ _))
   (al (aT x6)) cZ))))
  (al (aT x6))))))))))),?_⟩
 refine af7 ?_;intro dD sS Pl u9 u8 u7 u6 u5 u4 u3 u2;refine⟨by omega,hS,λc0=>?_⟩;refine⟨(by show(0:Int)<4;decide),by omega,by omega,?_⟩;refine vL (σ0:=[none,some (.ref a)]) (λZ=>∃v,Z=[v,some (.ref a)]) (λi ys _=>∃xs:Ls,ys=xs.map V.str/\xs.length=i/\∀x∈xs,cR x) ⟨_,rfl⟩ (λ_ _=>⟨[],rfl,rfl,λx hx=>nomatch hx⟩) ?_ ?_
 . intro D0 i ys Z H2 k hD hi fG hd hs gW hk;refine bq ?_;intro tT;obtain⟨v,rfl⟩:=fG;obtain⟨xs,rfl,hx,aO⟩:=gW;refine⟨by omega,hs.seq hS,λc1=>⟨⟨λx H3 lx s3=>?_⟩⟩⟩;refine hk _ _ _ ⟨_,rfl⟩ s3 (bY (by rw[aj];omega)) ⟨xs++[x],tW xs x,by rw[bI,hx];rfl,λy hy=>?_⟩
   rcases bR.mp hy with z | z
   . exact aO y z
   rw[bD.mp z];exact lx
 intro nA ys H1 nD hn s1 gX;refine bq ?_;intro tT;obtain⟨ns,rfl,nl,lG⟩:=gX;have n1:1<=ns.length:=by omega
 have n4:ns.length<=4:=by omega
 refine⟨a,nA,is,ns,rfl,s1.seq hS,hn,n1,n4,λfa H2 xs ps _ s2 e2 bG O=>?_⟩;have p6:=O.len;refine⟨?_⟩;dsimp only[List.set,fT];refine arC (K:=K) (C:=j.C) (S:=j.S) e2 bG (by omega) O.nd λsh H3 n3 s3 a'=>?_;have VW:=bG.same s3
 try dsimp only[List.set,fT]
 refine arD (Q:=λx H1=>_) λx dx d b H4 nx nd nb U sy=>?_;have mS:aa H H3:=s1.trans (s2.trans s3);have kS:TabSt H3 Pt fJ fo:=b6.same mS;have Ku:∀p∈ps,cR p.nm/\fZ p.ms:=λp hp=>⟨lG _ (O.nms p hp),O.mks p hp⟩;have f4:=U _ _ (s3 _ _ e2);have Sz:=U _ _ (s3 _ _ (s2 _ _ hn));have oj:=kS.same U;refine⟨by omega,(mS.trans U).seq hS,λc9=>?_⟩;refine⟨f4,VW.same U,by omega,Ku,Sz,n1,n4,lG,λhv ch cs ow H5 s5 aC so b4 o2=>?_⟩;have h5:=aC [x,d,b,Pt] (sy.busy oj);have rX:=sy.same s5;have jh:=oj.same s5;have sR:aa (msk [Pt] H3) (msk [x,d,b,Pt] H5):=λq o e=>by
  have e3:=bc q o e;have np:q≠Pt:=λz=>by rw[z,KD]at e;cases e
  refine cw (λz=>?_) (s5 _ _ (U q o e3));simp only[aZ,fc,fe]at z
  rcases z with z | z | z | z
  . rw[z,nx]at e3;cases e3
  . rw[z,nd]at e3;cases e3
  . rw[z,nb]at e3;cases e3
  exact np z
 have a5:∀{v:V}{p:cb},jy j.C H3 v p->jy j.C (msk [Pt] H3) v p:=λz=>z.off λb' hb o eo=>by
  obtain⟨φ,w⟩:=TabSt.at kS;rw[bD.mp hb,w]at eo;cases eo;exact⟨(by intro _ _ _ z;cases z),(by intro _ z;cases z),(by intro _ z;cases z)⟩
 have W5:lW j.C j.S (msk [x,d,b,Pt] H5) (.ref sh) xs ps ns:=⟨(jz.off (TabSt.at kS) a').same sR,dY.same sR (av VW λ_ _=>a5),O,n4,lG⟩;have aR:ac K (msk [x,d,b,Pt] H5) a (is.map V.int):=sR.seq (arv (TabSt.at kS) (mS.seq hS));have fR:msk [x,d,b,Pt] H5 fa=some (.lst xs):=sR _ _ (by obtain⟨φ,w⟩:=TabSt.at kS;rw[Ap (be (s3 _ _ e2) w (by intro z;cases z))];exact s3 _ _ e2);have b7:uT xs ps [Str.empty]:=λt ht=>⟨[],[],[],by rw[bD.mp ht];exact Dv⟩;refine⟨W5,h5,so,⟨rX,rfl,Dv,b7,rfl,arw,by decide,jh⟩,by decide,λt0 aY bi aD az VX H6 r1 r2 r3 D6 l0 k6=>?_⟩;refine⟨⟨?_⟩⟩;dsimp only[List.set,fT,AM,ML];refine arE (Hc:=j.Hc) λh bC H7 nh s7 e7=>?_;have k7:cG x d b Pt H5 H7:=k6.trans (.of s7);have D7:=D6.same s7;have W7:HW j.Hc j.C j.S h bC x (.ref sh) xs ps ns (msk [x,d,b,Pt] H7):=⟨cw (D6.busy.free nh) e7,W5.same k7.msk⟩;obtain⟨sa,bt,bv,ba,h0,o0,rfl,y1,y2,y3,y4,y5,y6,y7⟩:=(h5.same k7.msk).same bc;have P7:dY j.C (msk [x,d,b,Pt] H7) xs ps:=W7.wl.pc;refine⟨y1,j.UT.cl,j.UT.nC,y2,?_⟩;have fb:(bZ ps).length<=60:=by
  have:=CU (b:=3) (ps:=ps) λp hp=>(O.ok p hp).1;omega
 refine⟨bc _ _ (k7.msk _ _ fR),P7,y5,so.ok.d1,fb,λbh H8 kb br b1 s8 e8 pb gb=>?_⟩;rw[arB r1.pm.symm]at gb;have k8:=k7.trans (cG.of (x:=x) (d:=d) (b:=b) (Pt:=Pt) s8);have D8:=D7.same s8;have W8:=W7.same (dw s8);have xw:msk [x,d,b,Pt] H8 bh=some (.dK kb):=cw (D7.busy.free b1) e8;refine⟨⟨by omega,by omega,by omega,by omega⟩,?_⟩;refine vL (σ0:=[none,some (.ref a)]) (λZ=>∃v,Z=[v,some (.ref a)]) (λi ys _=>ys.length=i/\∀y∈ys,∃n:Int,y=.int n) ⟨_,rfl⟩ (λ_ _=>⟨rfl,λ_ h=>nomatch h⟩) ?_ ?_
 . rintro D0 i ys Z H2 k hD hi ⟨v,rfl⟩ bl hs ⟨hx,hy⟩ eE;refine⟨by omega,hs.seq (bc.seq (k8.msk.seq aR)),λn=>?_⟩;refine eE _ _ _ ⟨_,rfl⟩ (aa.refl _) (bY (by omega)) ⟨by rw[bI,hx];rfl,λy hm=>?_⟩
   rcases bR.mp hm with hm | hm
   . exact hy y hm
   exact⟨n,bD.mp hm⟩
 rintro cl ys H9 nc mH s9 ⟨hl,hy⟩;have bn:ys.length=6:=hl;have D9:=D8.same s9;have W9:=W8.same (dw s9);have a9:=dw s9 _ _ xw;have b5:Paired (bB (msk [x,d,b,Pt] H9)) kb br:=av pb λ_ _=>bB.same (dw s9);have ab:msk [x,d,b,Pt] H9 cl=some (.lst ys):=cw (D8.busy.free nc) mH;have b2:lZ ps aY aD:=λe he=>.inl (b4 e (r3.pm.mem_iff.mp he));have bp:=r3.pm.length_eq;refine⟨⟨_,ac.of mH⟩,?_⟩;refine ib (xs:=ys) (λi Z H'=>∃u t xx fs bk,Z=[some (.ref a),some (.ref nA),some (.ref fa),some (.ref sh),some (.ref x),some (.ref sa),some (.ref h),some (.ref bh),u]/\DU j.D x dx d b x Pt xs ps t aY bi xx fs bk H'/\bk.length<=10+10 * i/\xx.length<=2+i/\lZ ps aY xx/\cG x d b Pt H9 H')
  ⟨none,t0,aD,az,VX,rfl,D9,by have:VX.length<=0+10:=l0;omega,by omega,b2,.of (aa.refl _)⟩ ?_ ?_ ?_
 . rintro i Z H' hi ⟨u,t,xx,fs,bk,rfl,_,_,_,_,k⟩;exact ac.of (bc _ _ (k.msk _ _ ab))
 . intro i y Z H' VY hQ;refine bq ?_;intro tT;obtain⟨u,t,xx,fs,bk,rfl,KO,lb,lo,oi,DQ⟩:=hQ;obtain⟨bb,rfl⟩:=hy y (dM VY);have bm:=(dg.mp VY).1;refine ub (g:=ki _) ?_;intro eQ sQ;dsimp only[ki];refine ju ?_;intro dE sE uE;refine⟨W9.same DQ.msk,KO,by omega,by omega,oi,DQ.msk _ _ a9,av b5 λ_ _=>bB.same DQ.msk,gb,λt1 p9 VZ pT pO xy l1 lo1 b3 b0=>⟨eL ?_⟩⟩;have a6:=DQ.trans b0;obtain⟨kd,d1,d2⟩:=id xy.dk.fi;refine⟨xy.dk.ob,rfl,xy.dk.ob,d1,av d2 λ_ _=>Lu.du,xy.dk.nd,by have:=xy.ln;omega,λr a0 kr nr bM af a7=>?_⟩;have V0:=xy.same bM;have V1:cG x d b Pt H9 a0:=a6.trans (.of bM);have V2:=bc _ _ ((W9.same V1.msk).ob);refine⟨V2,rfl,V2,V0,by omega,λv1 V3 gY DR=>?_⟩;have DR:=DR [] λb z=>nomatch z
   rw[CJ]at DR;have J:=V0.same gY;have V4:cG x d b Pt H9 V3:=V1.trans (.of gY);have xz:=((W9.wl).same V4.msk).same bc;have Y:=J.tx.so;have cB:eY xs ps aY:=⟨Y.ok.d1,Y.va⟩;refine⟨xz.sh,xz.pc,xz.pcok,xz.n4,DR,Y.va,cB.len xz.ap xz.n4,Y.o2,Y.ok.okO,λe he=>(Y.ok.ok.cs e he).2.ln,J.tb,λt5 KP kvs tr bo kT a8 an Ag xi lT uo Kq=>?_⟩;have lk:=J.fu.look O J.tx Kq;have keep:∀{q:Addr}{o:HO},V3 q=some o->(∀φ,o≠.ext φ)->KP q=some o:=λe n=>kT _ _ e (TabSt.ne J.tb e n);have pk:Paired (bB KP) kr VZ:=av a7 λkv f a1=>a1.elim λz1 a2=>a2.elim λl a3=>a3.elim λz2 a4=>a4.elim λ_ z3=>⟨z1,l,z2,keep (gY _ _ z3) (by intro φ z;cases z)⟩;have pw:Paired (bB KP) kvs tr:=av Ag λ_ _ z=>z.du;obtain⟨ke,Kc,ax⟩:=arz (K:=K) pw J.dk.ok (λf hf=>jV (by rw[<-lk];exact lU J.dk.nd hf)) pk;refine⟨r,t5,kr,ke,kvs,rfl,rfl,keep (gY _ _ af) (by intro φ z;cases z),an,Kc,ax,?_,amD pw xi,⟨eL ?_⟩⟩
   . rw[bA pk,bA pw];exact Tg J.dk.nd xi λk=>congrFun lk k
   exact⟨_,t1,p9,VZ,pT,rfl,J.keepT kT a8,by omega,by omega,b3,V4.trans (.ofT kT)⟩
 rintro Z H' ⟨u,t,xx,fs,bk,rfl,KO,_⟩;exact q H' KO.tb
end
end K71
set_option maxHeartbeats 8000000
namespace K71
variable {K:Fg}{h:Heap}{mg:Mv}{f0 f1:Addr}{qf qh As Au:Oa}{qi Aw:Array (Option Value)}{qj qk ql qm jW qo Ax Ay Az jw sJ AA:Value}
def V5(K:Fg)(mg:Mv):Prop:=∃C j G,Txt K mg C/\Mk K C j/\cq K "__init__" "Parcel.__init__" ut j G
theorem clsC_mk{C:Addr}(X:K.In h)(G:h.Ns mainGlobals mg)
 (J:W.nsIn K mainGlobals "Parcel"=some (some (.ref C))) (j:W.findIn K (.ref C) "__init__"=some (some (.ref f0))) (O:W.isFn K (.ref f0)=true)
 (Y:K.lookup f0=some ⟨qj,qf,.func (W.fnOf "__init__" "Parcel.__init__" (dq ut) (cM ut) (au ut) .none qk ql qm qh jW qo),qi⟩) (c0:W.codeIn K jW "Parcel.__init__"=true) (k0:W.keepIn K (.ref f0)=true)
 (pg:W.plainGet K C Str.empty=true) (hd:W.hasDictIn K C=true) (po:W.plainOver K C=true) (sa:W.findIn K (.ref C) "__setattr__"=some (some (.builtin "object.__setattr__"))) (mk:W.makesIn K C=true) (U:W.keepIn K (.ref C)=true) (n0:W.findIn K (.ref C) "name"=some none) (n1:W.findIn K (.ref C) "make"=some none) (n2:W.findIn K (.ref C) "rank"=some none) (n3:W.findIn K (.ref C) "files"=some none) (n4:W.findIn K (.ref C) "needs"=some none) (n5:W.findIn K (.ref C) "shuts"=some none) (n6:W.findIn K (.ref C) "offers"=some none):V5 K mg:=
 ⟨C,f0,_,⟨⟨pg,hd,po,sa⟩,n0,n1,n2,n3,n4,n5,n6,kZ X G J⟩,⟨mk,j,O,U⟩,gD Y c0 k0⟩
def V6(K:Fg)(mg:Mv):Prop:=∃S j J G O,Rf K mg S G/\Mk K S j/\cq K "__init__" "Shelf.__init__" wb j J/\cq K "parcel" "Shelf.parcel" wc G O
theorem clsS_mk{S:Addr}(X:K.In h)(G:h.Ns mainGlobals mg)
 (O:W.nsIn K mainGlobals "Shelf"=some (some (.ref S))) (j:W.findIn K (.ref S) "__init__"=some (some (.ref f0))) (U:W.isFn K (.ref f0)=true)
 (l0:K.lookup f0=some ⟨qj,qf,.func (W.fnOf "__init__" "Shelf.__init__" (dq wb) (cM wb) (au wb) .none qk ql qm qh jW qo),qi⟩) (c0:W.codeIn K jW "Shelf.__init__"=true) (k0:W.keepIn K (.ref f0)=true) (J:W.findIn K (.ref S) "parcel"=some (some (.ref f1))) (Y:W.isFn K (.ref f1)=true)
 (l1:K.lookup f1=some ⟨Ax,As,.func (W.fnOf "parcel" "Shelf.parcel" (dq wc) (cM wc) (au wc) .none Ay Az jw Au sJ AA),Aw⟩) (c1:W.codeIn K sJ "Shelf.parcel"=true) (k1:W.keepIn K (.ref f1)=true)
 (pg:W.plainGet K S Str.empty=true) (hd:W.hasDictIn K S=true) (po:W.plainOver K S=true) (sa:W.findIn K (.ref S) "__setattr__"=some (some (.builtin "object.__setattr__"))) (mk:W.makesIn K S=true) (kc:W.keepIn K (.ref S)=true) (n0:W.findIn K (.ref S) "shelved"=some none):V6 K mg:=
 ⟨S,f0,_,f1,_,⟨⟨pg,hd,po,sa⟩,n0,⟨J,Y,k1⟩,kZ X G O⟩,⟨mk,j,U,kc⟩,gD l0 c0 k0,gD l1 c1 k1⟩
def V7(K:Fg)(mg:Mv):Prop:=∃T j G,Rg K mg T/\Mk K T j/\cq K "__init__" "Stand.__init__" we j G
theorem clsT_mk{T:Addr}(X:K.In h)(G:h.Ns mainGlobals mg)
 (J:W.nsIn K mainGlobals "Stand"=some (some (.ref T))) (j:W.findIn K (.ref T) "__init__"=some (some (.ref f0))) (O:W.isFn K (.ref f0)=true)
 (Y:K.lookup f0=some ⟨qj,qf,.func (W.fnOf "__init__" "Stand.__init__" (dq we) (cM we) (au we) .none qk ql qm qh jW qo),qi⟩) (c0:W.codeIn K jW "Stand.__init__"=true) (k0:W.keepIn K (.ref f0)=true)
 (pg:W.plainGet K T Str.empty=true) (hd:W.hasDictIn K T=true) (po:W.plainOver K T=true) (sa:W.findIn K (.ref T) "__setattr__"=some (some (.builtin "object.__setattr__"))) (mk:W.makesIn K T=true) (U:W.keepIn K (.ref T)=true) (n0:W.findIn K (.ref T) "chosen"=some none) (n1:W.findIn K (.ref T) "choices"=some none) (n2:W.findIn K (.ref T) "own"=some none):V7 K mg:=
 ⟨T,f0,_,⟨⟨pg,hd,po,sa⟩,n0,n1,n2,kZ X G J⟩,⟨mk,j,O,U⟩,gD Y c0 k0⟩
def V8(K:Fg)(mg:Mv):Prop:=∃D j KW wz KY G KZ J K1 O K2 U K3 Y K4 wF K6,Rh K mg D wz G J O U Y wF/\Mk K D j/\cq K "__init__" "Disk.__init__" wf j KW/\cq K "files_now" "Disk.files_now" wg wz KY/\cq K "book_now" "Disk.book_now" wj G KZ/\cq K "put" "Disk.put" wk J K1/\cq K "erase" "Disk.erase" wm O K2/\cq K "note" "Disk.note" wn U K3/\cq K "allow" "Disk.allow" zd Y K4/\cq K "take_write" "Disk.take_write" wo wF K6
theorem clsD_mk{D j J O U Y f7:Addr}{K7 K8:Oa}{ui:Array (Option Value)}{K9 La Lc kK AB Ld:Value}{uO Le:Oa}{Lf:Array (Option Value)}{Lg Lh Li jx AC Lj:Value}{Lk Lq:Oa}{Lr:Array (Option Value)}{Lx Ly Lz LA AD LB:Value}{LC LD:Oa}{LI:Array (Option Value)}{LJ LK LL LN AE LO:Value}{LP LQ:Oa}{LR:Array (Option Value)}{LS LU LV LW AF LX:Value}{ap a8:Oa}{ax:Array (Option Value)}{an af ab ar V9 a9:Value}(X:K.In h)(G:h.Ns mainGlobals mg)
 (aC:W.nsIn K mainGlobals "Disk"=some (some (.ref D))) (a0:W.findIn K (.ref D) "__init__"=some (some (.ref f0))) (i0:W.isFn K (.ref f0)=true)
 (l0:K.lookup f0=some ⟨qj,qf,.func (W.fnOf "__init__" "Disk.__init__" (dq wf) (cM wf) (au wf) .none qk ql qm qh jW qo),qi⟩) (c0:W.codeIn K jW "Disk.__init__"=true) (k0:W.keepIn K (.ref f0)=true) (a1:W.findIn K (.ref D) "files_now"=some (some (.ref f1))) (i1:W.isFn K (.ref f1)=true)
 (l1:K.lookup f1=some ⟨Ax,As,.func (W.fnOf "files_now" "Disk.files_now" (dq wg) (cM wg) (au wg) .none Ay Az jw Au sJ AA),Aw⟩) (c1:W.codeIn K sJ "Disk.files_now"=true) (k1:W.keepIn K (.ref f1)=true) (a2:W.findIn K (.ref D) "book_now"=some (some (.ref j))) (i2:W.isFn K (.ref j)=true)
 (l2:K.lookup j=some ⟨K9,K7,.func (W.fnOf "book_now" "Disk.book_now" (dq wj) (cM wj) (au wj) .none La Lc kK K8 AB Ld),ui⟩) (c2:W.codeIn K AB "Disk.book_now"=true) (k2:W.keepIn K (.ref j)=true) (a3:W.findIn K (.ref D) "put"=some (some (.ref J))) (i3:W.isFn K (.ref J)=true)
 (l3:K.lookup J=some ⟨Lg,uO,.func (W.fnOf "put" "Disk.put" (dq wk) (cM wk) (au wk) .none Lh Li jx Le AC Lj),Lf⟩) (c3:W.codeIn K AC "Disk.put"=true) (k3:W.keepIn K (.ref J)=true) (a4:W.findIn K (.ref D) "erase"=some (some (.ref O))) (i4:W.isFn K (.ref O)=true)
 (l4:K.lookup O=some ⟨Lx,Lk,.func (W.fnOf "erase" "Disk.erase" (dq wm) (cM wm) (au wm) .none Ly Lz LA Lq AD LB),Lr⟩) (c4:W.codeIn K AD "Disk.erase"=true) (k4:W.keepIn K (.ref O)=true) (a5:W.findIn K (.ref D) "note"=some (some (.ref U))) (i5:W.isFn K (.ref U)=true)
 (l5:K.lookup U=some ⟨LJ,LC,.func (W.fnOf "note" "Disk.note" (dq wn) (cM wn) (au wn) .none LK LL LN LD AE LO),LI⟩) (c5:W.codeIn K AE "Disk.note"=true) (k5:W.keepIn K (.ref U)=true) (a6:W.findIn K (.ref D) "allow"=some (some (.ref Y))) (i6:W.isFn K (.ref Y)=true)
 (l6:K.lookup Y=some ⟨LS,LP,.func (W.fnOf "allow" "Disk.allow" (dq zd) (cM zd) (au zd) .none LU LV LW LQ AF LX),LR⟩) (c6:W.codeIn K AF "Disk.allow"=true) (k6:W.keepIn K (.ref Y)=true) (a7:W.findIn K (.ref D) "take_write"=some (some (.ref f7))) (i7:W.isFn K (.ref f7)=true)
 (l7:K.lookup f7=some ⟨an,ap,.func (W.fnOf "take_write" "Disk.take_write" (dq wo) (cM wo) (au wo) .none af ab ar a8 V9 a9),ax⟩) (c7:W.codeIn K V9 "Disk.take_write"=true) (k7:W.keepIn K (.ref f7)=true)
 (pg:W.plainGet K D Str.empty=true) (hd:W.hasDictIn K D=true) (po:W.plainOver K D=true) (sa:W.findIn K (.ref D) "__setattr__"=some (some (.builtin "object.__setattr__"))) (mk:W.makesIn K D=true) (kc:W.keepIn K (.ref D)=true) (n0:W.findIn K (.ref D) "files"=some none) (n1:W.findIn K (.ref D) "book"=some none) (n2:W.findIn K (.ref D) "left"=some none):V8 K mg:=
 ⟨D,f0,_,f1,_,j,_,J,_,O,_,U,_,Y,_,f7,_,⟨⟨pg,hd,po,sa⟩,n0,n1,n2,⟨a1,i1,k1⟩,⟨a2,i2,k2⟩,⟨a3,i3,k3⟩,⟨a4,i4,k4⟩,⟨a5,i5,k5⟩,⟨a6,i6,k6⟩,⟨a7,i7,k7⟩,kZ X G aC⟩,⟨mk,a0,i0,kc⟩,gD l0 c0 k0,gD l1 c1 k1,gD l2 c2 k2,gD l3 c3 k3,gD l4 c4 k4,gD l5 c5 k5,gD l6 c6 k6,gD l7 c7 k7⟩
def Wa(K:Fg)(mg:Mv):Prop:=∃A j LY G LZ J L0 O L1 U L3 Y L4 Ef L6,Ri K mg A G J O U Y Ef/\Mk K A j/\cq K "__init__" "House.__init__" wq j LY/\cq K "up" "House.up" wt G LZ/\cq K "stand" "House.stand" wu J L0/\cq K "stand_kept" "House.stand_kept" wv O L1/\cq K "go_to" "House.go_to" ww U L3/\cq K "edit" "House.edit" wx Y L4/\cq K "forget" "House.forget" wy Ef L6
theorem clsA_mk{A j J O U Y:Addr}{K7 K8:Oa}{ui:Array (Option Value)}{K9 La Lc kK AB Ld:Value}{uO Le:Oa}{Lf:Array (Option Value)}{Lg Lh Li jx AC Lj:Value}{Lk Lq:Oa}{Lr:Array (Option Value)}{Lx Ly Lz LA AD LB:Value}{LC LD:Oa}{LI:Array (Option Value)}{LJ LK LL LN AE LO:Value}{LP LQ:Oa}{LR:Array (Option Value)}{LS LU LV LW AF LX:Value}(X:K.In h)(G:h.Ns mainGlobals mg)
 (aC:W.nsIn K mainGlobals "House"=some (some (.ref A))) (a0:W.findIn K (.ref A) "__init__"=some (some (.ref f0))) (i0:W.isFn K (.ref f0)=true)
 (l0:K.lookup f0=some ⟨qj,qf,.func (W.fnOf "__init__" "House.__init__" (dq wq) (cM wq) (au wq) .none qk ql qm qh jW qo),qi⟩) (c0:W.codeIn K jW "House.__init__"=true) (k0:W.keepIn K (.ref f0)=true) (a1:W.findIn K (.ref A) "up"=some (some (.ref f1))) (i1:W.isFn K (.ref f1)=true)
 (l1:K.lookup f1=some ⟨Ax,As,.func (W.fnOf "up" "House.up" (dq wt) (cM wt) (au wt) .none Ay Az jw Au sJ AA),Aw⟩) (c1:W.codeIn K sJ "House.up"=true) (k1:W.keepIn K (.ref f1)=true) (a2:W.findIn K (.ref A) "stand"=some (some (.ref j))) (i2:W.isFn K (.ref j)=true)
 (l2:K.lookup j=some ⟨K9,K7,.func (W.fnOf "stand" "House.stand" (dq wu) (cM wu) (au wu) .none La Lc kK K8 AB Ld),ui⟩) (c2:W.codeIn K AB "House.stand"=true) (k2:W.keepIn K (.ref j)=true) (a3:W.findIn K (.ref A) "stand_kept"=some (some (.ref J))) (i3:W.isFn K (.ref J)=true)
 (l3:K.lookup J=some ⟨Lg,uO,.func (W.fnOf "stand_kept" "House.stand_kept" (dq wv) (cM wv) (au wv) .none Lh Li jx Le AC Lj),Lf⟩) (c3:W.codeIn K AC "House.stand_kept"=true) (k3:W.keepIn K (.ref J)=true) (a4:W.findIn K (.ref A) "go_to"=some (some (.ref O))) (i4:W.isFn K (.ref O)=true)
 (l4:K.lookup O=some ⟨Lx,Lk,.func (W.fnOf "go_to" "House.go_to" (dq ww) (cM ww) (au ww) .none Ly Lz LA Lq AD LB),Lr⟩) (c4:W.codeIn K AD "House.go_to"=true) (k4:W.keepIn K (.ref O)=true) (a5:W.findIn K (.ref A) "edit"=some (some (.ref U))) (i5:W.isFn K (.ref U)=true)
 (l5:K.lookup U=some ⟨LJ,LC,.func (W.fnOf "edit" "House.edit" (dq wx) (cM wx) (au wx) .none LK LL LN LD AE LO),LI⟩) (c5:W.codeIn K AE "House.edit"=true) (k5:W.keepIn K (.ref U)=true) (a6:W.findIn K (.ref A) "forget"=some (some (.ref Y))) (i6:W.isFn K (.ref Y)=true)
 (l6:K.lookup Y=some ⟨LS,LP,.func (W.fnOf "forget" "House.forget" (dq wy) (cM wy) (au wy) .none LU LV LW LQ AF LX),LR⟩) (c6:W.codeIn K AF "House.forget"=true) (k6:W.keepIn K (.ref Y)=true)
 (pg:W.plainGet K A Str.empty=true) (hd:W.hasDictIn K A=true) (po:W.plainOver K A=true) (sa:W.findIn K (.ref A) "__setattr__"=some (some (.builtin "object.__setattr__"))) (mk:W.makesIn K A=true) (kc:W.keepIn K (.ref A)=true) (n0:W.findIn K (.ref A) "shelf"=some none) (n1:W.findIn K (.ref A) "disk"=some none):Wa K mg:=
 ⟨A,f0,_,f1,_,j,_,J,_,O,_,U,_,Y,_,⟨⟨pg,hd,po,sa⟩,n0,n1,⟨a1,i1,k1⟩,⟨a2,i2,k2⟩,⟨a3,i3,k3⟩,⟨a4,i4,k4⟩,⟨a5,i5,k5⟩,⟨a6,i6,k6⟩,kZ X G aC⟩,⟨mk,a0,i0,kc⟩,gD l0 c0 k0,gD l1 c1 k1,gD l2 c2 k2,gD l3 c3 k3,gD l4 c4 k4,gD l5 c5 k5,gD l6 c6 k6⟩
def Wb(K:Fg)(mg:Mv):Prop:=∃M j J G O,Rj K mg M j J G O
theorem err_mk(X:K.In h)(G:h.Ns mainGlobals mg)(nM:W.nsIn K mainGlobals "MendError"=some (some (.ref M)))(a1:W.nsIn K mainGlobals "Fallen"=some (some (.ref Fa)))(a3:W.nsIn K mainGlobals "NoPath"=some (some (.ref NP)))(a2:W.nsIn K mainGlobals "NoName"=some (some (.ref NN)))(a4:W.nsIn K mainGlobals "NotUp"=some (some (.ref NU)))(j:W.excIn K NP [.type "ValueError",.type "Exception",.type "BaseException",.type "object"] "ValueError.__new__"=true)(J:W.findIn K (.ref NP) "__getattribute__"=some (some (.builtin "BaseException.__getattribute__")))(O:W.findIn K (.ref NP) "__getattr__"=some none)(cls:W.findIn K (.ref NP) "__class__"=some (some (.builtin "object.__class__")))(a5:W.specialIn K (.builtin "object.__class__") "__get__"=some (some (.builtin "getset_descriptor.__get__")))(a6:W.takesIn K (.builtin "object.__class__")=some true)(a0:W.mroIn K NP (.type "object")=some true)(Y:W.mroIn K NP (.type "BaseException")=some true)(U:W.kitOne K (.ref NP) (.ref NP)=some true)(kA:W.kitAny K (.ref NP) [.ref Fa,.ref NN,.ref NU]=some false)(ex:W.exmOne K (.ref NP) (.ref M)=some true):Wb K mg:=
 ⟨M,Fa,NP,NN,NU,⟨j,J,O,cls,a5,a6,a0,Y⟩,kZ X G nM,kZ X G a1,kZ X G a3,kZ X G a2,kZ X G a4,U,kA,ex⟩
theorem cst_mk{j t1:Tok}(X:K.In h)(G:h.Ns mainGlobals mg)(J:W.nsIn K mainGlobals "MOST_LETTERS"=some (some (.int 8 j)))(O:W.nsIn K mainGlobals "MOST_PATH_WORDS"=some (some (.int 4 t1))):Hm mg:=
 ⟨⟨j,kZ X G J⟩,⟨t1,kZ X G O⟩⟩
def Wc(K:Fg)(mg:Mv)(x:Str)(st:Stmt)(Pt:Addr):Prop:=∃f c fd,mg x=some (.ref f)/\wG K x x st f c fd/\W.codeHdIn K c Pt=true/\K.lookup Pt=none
theorem defC_mk{x:Str}{st:Stmt}{f c Pt:Addr}{Y j:Oa}{sl:Array (Option Value)}{U kV dc pm ct:Value}(X:K.In h)(G:h.Ns mainGlobals mg)
 (a:W.nsIn K mainGlobals x=some (some (.ref f))) (l:K.lookup f=some ⟨U,Y,.func (W.fnOf x x (dq st) (cM st) (au st) .none kV dc pm j (.ref c) ct),sl⟩) (J:W.codeIn K (.ref c) x=true) (k:W.keepIn K (.ref f)=true) (hd:W.codeHdIn K c Pt=true) (O:K.lookup Pt=none) :
 Wc K mg x st Pt:=⟨f,c,_,kZ X G a,⟨⟨_,_,_,_,_,_,_,_,rfl,l,J⟩,k⟩,hd,O⟩
theorem bltAt_mk(X:K.In h)(G:h.Ns mainGlobals mg)(J:W.nsIn K mainGlobals "range"=some none)(O:W.nsIn K mainGlobals "len"=some none)(z2:W.nsIn K mainGlobals "min"=some none)(z3:W.nsIn K mainGlobals "list"=some none)(z4:W.nsIn K mainGlobals "dict"=some none)(z5:W.nsIn K mainGlobals "set"=some none)(z6:W.nsIn K mainGlobals "sorted"=some none)(z7:W.nsIn K mainGlobals "isinstance"=some none)(z8:W.nsIn K mainGlobals "str"=some none)(z9:W.nsIn K mainGlobals "tuple"=some none)(j:W.nsIn K mainGlobals "all"=some none)(U:W.nsIn K mainGlobals "enumerate"=some none)(Y:W.nsIn K mainGlobals "int"=some none):Iy mg:=
 ⟨mn X G J,mn X G O,mn X G z2,mn X G z3,mn X G z4,mn X G z5,mn X G z6,mn X G z7,mn X G z8,mn X G z9,mn X G j,mn X G U,mn X G Y⟩
theorem all_mk{P:Program}{w:World}(jR:mg "law"=some (.ref fa))(B:Iy mg)(CC:V5 K mg)(CS:V6 K mg)(CT:V7 K mg)(CD:V8 K mg)(CA:Wa K mg)(CR:Wb K mg)(a0:Hm mg)(DN:Wc K mg "name_behind" wp Pt)(bt:bE K mg "_law_after" Co)(bv:bE K mg "_law_brought" Iu)(bx:bE K mg "_law_cell_at" Ib)(bz:bE K mg "_law_chosen" Ik)(b':bE K mg "_law_deed" Cp)(bC:bE K mg "_law_line" Ig)(bG:bE K mg "_law_lines" Ih)(bM:bE K mg "_law_lines_by" Ix)(bU:bE K mg "_law_make" Ij)(bW:bE K mg "_law_mixed" Ic)(b_:bE K mg "_law_name" Ie)(c1:bE K mg "_law_parcels_apart" zi)(c2:bE K mg "_law_path" Ii)(c3:bE K mg "_law_refused" Iw)(c4:bE K mg "_law_stand" Il)(af:bE K mg "alike_ahead" Ho)(ap:bE K mg "are_apart" Hs)(ax:bE K mg "ask_path" Iq)(az:bE K mg "block_of" Hn)(a':bE K mg "brought_by" HH)(aC:bE K mg "change_rows" HL)(aO:bE K mg "changes_copied" HG)(aR:bE K mg "clash_faults" HE)(b0:bE K mg "commons_of" HJ)(b1:bE K mg "do_deed" HZ)(b2:bE K mg "faults_of" HA)(b3:bE K mg "files_of_change" HI)(b4:bE K mg "finish" HY)(b5:bE K mg "first_group" HR)(b6:bE K mg "groups_to" HP)(b7:bE K mg "is_ahead" Hq)(ba:bE K mg "is_name" Im)(bb:bE K mg "is_path" Io)(bd:bE K mg "is_sound" HB)(bh:bE K mg "is_up" HU)(bl:bE K mg "keys_unlike" Hy)(bm:bE K mg "law" uu)(bn:bE K mg "make_noted" HN)(bo:bE K mg "make_shown" Hw)(bp:bE K mg "need_faults" HC)(br:bE K mg "parcels_of" Hz)(a1:bE K mg "paths_of" HF)(a2:bE K mg "put_together" Hu)(a3:bE K mg "rows_of" Hv)(a4:bE K mg "set_behind" HQ)(a5:bE K mg "shut_faults" HD)(a6:bE K mg "stand_noted" HM)(a7:bE K mg "stand_on" HX)(a8:bE K mg "stand_shown" HK)(a9:bE K mg "steps_to" Ia)(ab:bE K mg "takes_none" Hr)(d':bE K mg "texts_begun" HV)(dB:bE K mg "tree_of" zf)(dD:bE K mg "turn_to" Cn)(dE:bE K mg "with_both" Ht)(dF:bE K mg "with_entry" Ir)(dJ:bE K mg "with_one_more" HS) :
 ∃(fd:Fy) (c:Addr),(∀(s:Shared) (v:Value),BindsTo s fd ⟨[v],[]⟩ [("_law_script",v)])/\W.codeHdIn K c Pt=true/\K.lookup Pt=none/\∀base:Heap,K.In base->base.Ns mainGlobals mg->base.BuiltinsAt mg Pt->aA P w K mg base aJ 13 fa fd ["_law_script"] (Aq K Pt):=by
 obtain⟨C,DS,KQ,TC,MC,We⟩:=CC;obtain⟨S,DT,KR,DW,KS,US,MS,Wf,Wg⟩:=CS;obtain⟨T,DX,KU,UT,MT,Wh⟩:=CT;obtain⟨D,DY,KW,wz,KY,wA,KZ,wB,K1,wC,K2,wD,K3,wE,K4,wF,K6,UD,MD,Wi,Wj,Wk,Wl,Wm,Wn,Wo,Wp⟩:=CD;obtain⟨A,DZ,LY,Ea,LZ,Eb,L0,Ec,L1,Ed,L3,Ee,L4,Ef,L6,UH,MH,Wq,Wr,Ws,Wt,Wu,Wv,Ww⟩:=CA;obtain⟨M,Fa,NP,NN,NU,R⟩:=CR;obtain⟨dK,cN,dQ,dT,j,Wx,hM⟩:=DN;obtain⟨dV,dX,d_,Wy,_⟩:=bt;obtain⟨e0,e5,e6,Wz,_⟩:=bv;obtain⟨e7,e8,e9,Y,_⟩:=bx;obtain⟨ea,eb,ec,WB,_⟩:=bz;obtain⟨ee,ef,eg,WC,_⟩:=b';obtain⟨eh,co,cv,WD,_⟩:=bC;obtain⟨cA,cB,cP,WE,_⟩:=bG;obtain⟨cY,c_,d0,WF,_⟩:=bM;obtain⟨d1,d2,d3,WG,_⟩:=bU;obtain⟨d4,d7,d9,WH,_⟩:=bW;obtain⟨da,dd,dk,WI,_⟩:=b_;obtain⟨dm,dp,dt,WJ,_⟩:=c1;obtain⟨dy,dz,c5,WK,_⟩:=c2;obtain⟨c6,c7,c9,WL,_⟩:=c3;obtain⟨ca,cc,ck,WM,_⟩:=c4;obtain⟨cl,cm,fy,WN,_⟩:=af;obtain⟨f',fC,fE,WO,_⟩:=ap;obtain⟨fG,fN,fP,WP,_⟩:=ax;obtain⟨fR,fS,f_,WQ,_⟩:=az;obtain⟨g0,g1,g2,WR,_⟩:=a';obtain⟨g3,g4,g5,WS,_⟩:=aC;obtain⟨g6,g7,g8,WT,_⟩:=aO;obtain⟨ga,gb,gd,WU,_⟩:=aR;obtain⟨gh,gi,gl,WV,_⟩:=b0;obtain⟨gn,ev,ew,WW,_⟩:=b1;obtain⟨ey,ez,e',WX,_⟩:=b2;obtain⟨eA,eC,eE,WY,_⟩:=b3;obtain⟨eH,eO,eQ,WZ,_⟩:=b4;obtain⟨e_,f2,f3,J,_⟩:=b5;obtain⟨f4,f5,f6,O,_⟩:=b6;obtain⟨f7,fb,fg,U,_⟩:=b7;obtain⟨fi,fr,ft,Xa,_⟩:=ba;obtain⟨fu,fv,fx,Xb,_⟩:=bb;obtain⟨ei,ej,ek,Xc,_⟩:=bd;obtain⟨el,em,en,Xd,_⟩:=bh;obtain⟨eo,er,et,Xe,_⟩:=bl;obtain⟨hN,hO,Xf,G,_⟩:=bm;obtain⟨eu,hj,hk,Xg,_⟩:=bn;obtain⟨hl,hm,hn,Xh,_⟩:=bo;obtain⟨ho,hp,hq,Xi,_⟩:=bp;obtain⟨hr,hs,ht,Xj,_⟩:=br;obtain⟨hu,hv,hw,Xk,_⟩:=a1;obtain⟨hx,hy,hz,Xl,_⟩:=a2;obtain⟨hA,hC,hD,Xm,_⟩:=a3;obtain⟨hE,hF,hG,Xn,_⟩:=a4;obtain⟨hH,hI,hK,Xo,_⟩:=a5;obtain⟨gx,g',gC,Xp,_⟩:=a6;obtain⟨gH,gI,gJ,Xq,_⟩:=a7;obtain⟨gS,gW,gX,Xr,_⟩:=a8;obtain⟨gY,g_,h3,Xs,_⟩:=a9;obtain⟨h4,h5,h6,Xt,_⟩:=ab;obtain⟨h7,h8,h9,Xu,_⟩:=d';obtain⟨ha,hb,hc,Xv,_⟩:=dB;obtain⟨hd,he,hf,Xw,_⟩:=dD;obtain⟨hg,hh,go,Xx,_⟩:=dE;obtain⟨gp,gq,gs,Xy,_⟩:=dF;obtain⟨gt,gu,gv,Xz,_⟩:=dJ;have e:=jR.symm.trans Xf;cases e;obtain⟨oc,od,kV,hL,pm,an,ar,ct,iX,rfl,lk,iU⟩:=id G.ex;refine⟨W.fnOf "law" "law" (dq uu) (cM uu) (au uu) .none kV hL pm an ar ct,cN,λs v=>.of_eq rfl,Wx,hM,λbase _ _ hB=>?_⟩;exact arF (⟨B,
  a0,
  C,
  S,
  T,
  D,
  A,
  ⟨DX,KU,Wh,Wh.binds4 (λ_ _ _ _ _ _ _ _ _ _=>rfl)⟩,
  ⟨DS,KQ,We,We.binds8 (λ_ _ _ _ _ _ _ _ _ _ _ _ _ _=>rfl)⟩,
  ⟨DT,KR,Wf,Wf.binds2 (λ_ _ _ _ _ _ _ _=>rfl)⟩,
  ⟨DW,KS,Wg,Wg.binds3 (λ_ _ _ _ _ _ _ _ _=>rfl)⟩,
  ⟨wF,K6,Wp,Wp.binds1 (λ_ _ _ _ _ _ _=>rfl)⟩,
  ⟨DY,KW,Wi,Wi.binds1 (λ_ _ _ _ _ _ _=>rfl)⟩,
  ⟨wB,K1,Wl,Wl.binds3 (λ_ _ _ _ _ _ _ _ _=>rfl)⟩,
  ⟨wC,K2,Wm,Wm.binds2 (λ_ _ _ _ _ _ _ _=>rfl)⟩,
  ⟨wD,K3,Wn,Wn.binds3 (λ_ _ _ _ _ _ _ _ _=>rfl)⟩,
  ⟨wz,KY,Wj,Wj.binds1 (λ_ _ _ _ _ _ _=>rfl)⟩,
  ⟨wA,KZ,Wk,Wk.binds1 (λ_ _ _ _ _ _ _=>rfl)⟩,
  ⟨DZ,LY,Wq,Wq.binds3 (λ_ _ _ _ _ _ _ _ _=>rfl)⟩,
  ⟨Ea,LZ,Wr,Wr.binds1 (λ_ _ _ _ _ _ _=>rfl)⟩,
  ⟨Eb,L0,Ws,Ws.binds1 (λ_ _ _ _ _ _ _=>rfl)⟩,
  ⟨Ec,L1,Wt,Wt.binds1 (λ_ _ _ _ _ _ _=>rfl)⟩,
  ⟨Ed,L3,Wu,Wu.binds4 (λ_ _ _ _ _ _ _ _ _ _=>rfl)⟩,
  ⟨Ef,L6,Ww,Ww.binds2 (λ_ _ _ _ _ _ _ _=>rfl)⟩,
  ⟨Ee,L4,Wv,Wv.binds3 (λ_ _ _ _ _ _ _ _ _=>rfl)⟩,
  ⟨wE,K4,Wo,Wo.binds2 (λ_ _ _ _ _ _ _ _=>rfl)⟩,
  TC,
  US,
  UT,
  UD,
  UH,
  MC,
  MS,
  MT,
  MD,
  MH,
  ⟨d4,d7,WH,d9,WH.binds2 (λ_ _ _ _ _ _ _ _=>rfl)⟩,
  ⟨e7,e8,Y,e9,Y.binds2 (λ_ _ _ _ _ _ _ _=>rfl)⟩,
  ⟨da,dd,WI,dk,WI.binds2 (λ_ _ _ _ _ _ _ _=>rfl)⟩,
  ⟨eh,co,WD,cv,WD.binds1 (λ_ _ _ _ _ _ _=>rfl)⟩,
  ⟨cA,cB,WE,cP,WE.binds1 (λ_ _ _ _ _ _ _=>rfl)⟩,
  ⟨dy,dz,WK,c5,WK.binds1 (λ_ _ _ _ _ _ _=>rfl)⟩,
  ⟨d1,d2,WG,d3,WG.binds1 (λ_ _ _ _ _ _ _=>rfl)⟩,
  ⟨hA,hC,Xm,hD,Xm.binds1 (λ_ _ _ _ _ _ _=>rfl)⟩,
  ⟨hl,hm,Xh,hn,Xh.binds1 (λ_ _ _ _ _ _ _=>rfl)⟩,
  ⟨g6,g7,WT,g8,WT.binds1 (λ_ _ _ _ _ _ _=>rfl)⟩,
  ⟨g3,g4,WS,g5,WS.binds2 (λ_ _ _ _ _ _ _ _=>rfl)⟩,
  ⟨gS,gW,Xr,gX,Xr.binds1 (λ_ _ _ _ _ _ _=>rfl)⟩,
  ⟨eu,hj,Xg,hk,Xg.binds1 (λ_ _ _ _ _ _ _=>rfl)⟩,
  ⟨gx,g',Xp,gC,Xp.binds1 (λ_ _ _ _ _ _ _=>rfl)⟩,
  ⟨hr,hs,Xj,ht,Xj.binds2 (λ_ _ _ _ _ _ _ _=>rfl)⟩,
  ⟨g0,g1,WR,g2,WR.binds1 (λ_ _ _ _ _ _ _=>rfl)⟩,
  ⟨ea,eb,WB,ec,WB.binds3 (λ_ _ _ _ _ _ _ _ _=>rfl)⟩,
  ⟨dm,dp,WJ,dt,WJ.binds3 (λ_ _ _ _ _ _ _ _ _=>rfl)⟩,
  ⟨gh,gi,WV,gl,WV.binds1 (λ_ _ _ _ _ _ _=>rfl)⟩,
  ⟨eo,er,Xe,et,Xe.binds2 (λ_ _ _ _ _ _ _ _=>rfl)⟩,
  ⟨hd,he,Xw,hf,Xw.binds2 (λ_ _ _ _ _ _ _ _=>rfl)⟩,
  ⟨cl,cm,WN,fy,WN.binds2 (λ_ _ _ _ _ _ _ _=>rfl)⟩,
  ⟨fR,fS,WQ,f_,WQ.binds2 (λ_ _ _ _ _ _ _ _=>rfl)⟩,
  ⟨f7,fb,U,fg,U.binds2 (λ_ _ _ _ _ _ _ _=>rfl)⟩,
  ⟨h4,h5,Xt,h6,Xt.binds1 (λ_ _ _ _ _ _ _=>rfl)⟩,
  ⟨f',fC,WO,fE,WO.binds2 (λ_ _ _ _ _ _ _ _=>rfl)⟩,
  ⟨hg,hh,Xx,go,Xx.binds3 (λ_ _ _ _ _ _ _ _ _=>rfl)⟩,
  ⟨hx,hy,Xl,hz,Xl.binds3 (λ_ _ _ _ _ _ _ _ _=>rfl)⟩,
  ⟨eA,eC,WY,eE,WY.binds3 (λ_ _ _ _ _ _ _ _ _=>rfl)⟩,
  ⟨ha,hb,Xv,hc,Xv.binds2 (λ_ _ _ _ _ _ _ _=>rfl)⟩,
  ⟨dK,dQ,j.fn,dT,j.fn.binds3 (λ_ _ _ _ _ _ _ _ _=>rfl)⟩,
  ⟨hu,hv,Xk,hw,Xk.binds1 (λ_ _ _ _ _ _ _=>rfl)⟩,
  ⟨ho,hp,Xi,hq,Xi.binds2 (λ_ _ _ _ _ _ _ _=>rfl)⟩,
  ⟨hH,hI,Xo,hK,Xo.binds2 (λ_ _ _ _ _ _ _ _=>rfl)⟩,
  ⟨ga,gb,WU,gd,WU.binds2 (λ_ _ _ _ _ _ _ _=>rfl)⟩,
  ⟨ey,ez,WX,e',WX.binds2 (λ_ _ _ _ _ _ _ _=>rfl)⟩,
  ⟨ei,ej,Xc,ek,Xc.binds2 (λ_ _ _ _ _ _ _ _=>rfl)⟩,
  ⟨hE,hF,Xn,hG,Xn.binds3 (λ_ _ _ _ _ _ _ _ _=>rfl)⟩,
  ⟨gt,gu,Xz,gv,Xz.binds2 (λ_ _ _ _ _ _ _ _=>rfl)⟩,
  ⟨e_,f2,J,f3,J.binds4 (λ_ _ _ _ _ _ _ _ _ _=>rfl)⟩,
  ⟨f4,f5,O,f6,O.binds3 (λ_ _ _ _ _ _ _ _ _=>rfl)⟩,
  ⟨el,em,Xd,en,Xd.binds1 (λ_ _ _ _ _ _ _=>rfl)⟩,
  ⟨h7,h8,Xu,h9,Xu.binds1 (λ_ _ _ _ _ _ _=>rfl)⟩,
  ⟨gH,gI,Xq,gJ,Xq.binds1 (λ_ _ _ _ _ _ _=>rfl)⟩,
  ⟨eH,eO,WZ,eQ,WZ.binds2 (λ_ _ _ _ _ _ _ _=>rfl)⟩,
  ⟨gY,g_,Xs,h3,Xs.binds3 (λ_ _ _ _ _ _ _ _ _=>rfl)⟩,
  ⟨gn,ev,WW,ew,WW.binds3 (λ_ _ _ _ _ _ _ _ _=>rfl)⟩,
  ⟨ca,cc,WM,ck,WM.binds3 (λ_ _ _ _ _ _ _ _ _=>rfl)⟩,
  ⟨fi,fr,Xa,ft,Xa.binds1 (λ_ _ _ _ _ _ _=>rfl)⟩,
  ⟨fu,fv,Xb,fx,Xb.binds1 (λ_ _ _ _ _ _ _=>rfl)⟩,
  ⟨fG,fN,WP,fP,WP.binds1 (λ_ _ _ _ _ _ _=>rfl)⟩,
  ⟨gp,gq,Xy,gs,Xy.binds3 (λ_ _ _ _ _ _ _ _ _=>rfl)⟩,
  ⟨e0,e5,Wz,e6,Wz.binds2 (λ_ _ _ _ _ _ _ _=>rfl)⟩,
  ⟨cY,c_,WF,d0,WF.binds4 (λ_ _ _ _ _ _ _ _ _ _=>rfl)⟩,
  ⟨c6,c7,WL,c9,WL.binds3 (λ_ _ _ _ _ _ _ _ _=>rfl)⟩,
  ⟨dV,dX,Wy,d_,Wy.binds6 (λ_ _ _ _ _ _ _ _ _ _ _ _=>rfl)⟩,
  ⟨ee,ef,WC,eg,WC.binds4 (λ_ _ _ _ _ _ _ _ _ _=>rfl)⟩,
  ⟨_,_,G,Xf,G.binds1 (λ_ _ _ _ _ _ _=>rfl)⟩,
  M,
  Fa,
  NP,
  NN,
  NU,
  R,
  cN,
  j,
  Wx,
  hB⟩:Pg K mg base Pt)
theorem walk{l:W.OpenLaw}{q:Program}{a0:Ls}{J:(Mv)->Heap->Prop}{j:World->Heap->Prop}{d:DefRec}{K:Params->Fg}{Pt:Addr}(hn:l.most=some 63)(yu:d.params.defaults=[])
 (Y:∀(w:World) (h:Heap),j w h->(K w.params).In h/\h.get? Pt=some (W.tabObj #[]))
 (F:∀(w:World) (mg:Mv) (G:Addr) (h:Heap),(K w.params).In h->h.Ns mainGlobals mg->mg d.name=some (.ref G) ->
  ∃(fd:Fy) (c:Addr),(∀(s:Shared) (u:Value),BindsTo s fd ⟨[u],[]⟩ [("_law_script",u)])/\W.codeHdIn (K w.params) c Pt=true/\(K w.params).lookup Pt=none/\∀base:Heap,(K w.params).In base->base.Ns mainGlobals mg->base.BuiltinsAt mg Pt->aA l.prog w (K w.params) mg base aJ 13 G fd ["_law_script"] (Aq (K w.params) Pt)) :
 W.WalkO q a0 J j l.row.toRowW d [] (λf vs=>PySem.call f vs):=
 L2.ai7 (n:=63) (k:=13) (x:="_law_script") (a_:=fo) (lpos:=fJ) (Pt:=Pt) (CX:=λ_=>aJ) (sp:=λw=>Aq (K w.params) Pt) hn (by decide) yu ⟨rfl,by decide,by decide,rfl⟩ Y F (λ_ _ a ns hl U O=>⟨O,hl,.inl U,λ_ t=>⟨rfl,t⟩⟩) λ_ _ _ _ _ z=>z
end K71
end
open PySem PySem.W PyProof.Rows
structure PySem.W.Fast where (tw12071593507883317288 tw11045281309239841275 tw4290090313258118207 tw11277109997003115890 tw14618105458988159353 tw3875228274449341118 tw3620805531513768072 tw537473334532264885 tw12641219433036902827 tw15138457900690893495 tw9128383074998149594 tw16883394199764653612 tw15039793589516471816 tw10495395800176879946 tw2788602787349443366 tw12992545002169896594 tw454726699450375835 tw15003116696580030654 tw16427574018612732826 tw5266609549272835201 tw14978725577424782808 tw13140528561400520565 tw1536574665419505488 tw3630457097413925248 tw6070247123221195684 tw16088567597698341341 tw17887952084471269302 tw6427468603729088319 tw11357765865767140911 tw16822506315282528883 tw17700727138589297369 tw11285849561910140592 tw3341746405918438080 tw10969040134908745302 tw16414919631032555375 tw5024810521372564984 tw2968869481664782162 tw9535105701984652243 tw17269949610819711239 tw14023965165492106095 tw5967079211678829008 tw7383623564147844779 tw2854526393636700733 tw6853936183400516699 tw2896687340440207221 tw4716377412741806753 tw4538053211845334550 tw4790606965431824502 tw7498105600563732190 tw1473515140481320344 tw13887715794003855803 tw18105223030860781894 tw8018371551177094015 tw7505264631951177375 tw16987774636913357689 tw3305575378691178064 tw5354811509018896409 tw355160589312131527 tw11731261056039735872 tw10773981023598138887 tw6014453143503748376 tw4559177424972303824 tw5826248561731480803 tw14645099720091238615 tw15638883736953416976 tw11967531876632433658 tw3927571713505148463 tw15243677991523032475 tw10877369383605360039 tw1758924400651754304 tw14174183279334226547 tw10149057292664563633 tw16523241713817755110 tw8530115485309393573 tw6284999447618916648 tw3816605723023183191 tw2420668481968506074 tw15993017766985409342 tw6474540751139311287 tw12081044292668279730 tw638666196091563999 tw2986370613959486775 tw10480203045005444713 tw787043223700449346 tw12693619138837950944 tw16987853639470941935 tw4319757704706618330 tw7145917559624518023 tw6435051594678730318 tw8749819591075027990 tw2609343840403718480 tw899923805991512440 tw3332357129482133650 tw14239572434793087904 tw1184085763807051025 tw5850678374013753090 tw5921113902859575964 tw2292592331733010091 tw3174216157951130537 tw7833768834333307968 tw11438543552756851719 tw14363002603721007887 tw6686808354012118678 tw3996151121822046339 tw17746649549002424374 tw8197036033269773902 tw11861752477672792277 tw1345020764953086109 tw4708189788231650642 tw6928253688787386623 tw450582574298754716 tw14800751950418486922 tw6774402472867521477 tw2957451055188181811 tw9187590526575575831 tw11042037117394186470 tw10681906286470962319 tw15863398525679830604 tw15365723485219297298 tw11670422302858629493 tw7110447914213247786 tw15727904736254437586 tw14804106388389961966 tw3947376336395552258 tw1170477426470523325 tw865070143068631100 tw14262848388868026853 tw8196296657344247500 tw6993793590558674283 tw2653934883084615554 tw13029555500243080084 tw16328476925942529122 tw778283734591845869 tw2953537515582023233 tw3187198883442963755 tw10847785175427864691 tw14353337846834287997 tw15112830006337135408 tw5353625234989739974 tw17742803888854840169 tw11861868812472915269 tw3666637498306184048 tw13632968647938903889 tw14166337496285907932 tw18028321342005784880 tw15927904706401363392 tw203203870410963591 tw3838351426782847040 tw12967992109787688004 tw2364848711646032590 tw1386873225584671260 tw10367498164330433572 tw13489067016935688930 tw13878270342501706775 tw18176248823539047762 tw8200249147835125541 tw8947973880812800242 tw15534084727017748885 tw6805449239340215549 tw4816377344962841979 tw2906545216966734563 tw8763499646031586180 tw593635544933345176 tw9940219344184579318 tw5126715417868708464 tw12431066731734661103 tw16087618158044748590 tw4665216695023808966 tw13347661754110141789 tw7673305423182430640 tw11033989576806000198 tw12898447121312802744 tw5808269638506132693 tw1509151001417684423 tw1208108414540943652 tw6842786104361077759 tw574432427233169203 tw17025975409520445151 tw11385482126686021759 tw18312829158415393544 tw9030793914394720218 tw4259421725919709214 tw565629496733352466 tw1201495820073881095 tw7127183824142829038 tw2634177166229230494 tw14941026602373239129 tw8768146239430033084 tw4213866677029695030 tw9505978129606353090 tw5670282808663663712 tw8774667481466466544 tw9318148545719138348 tw17340828632238791044 tw4397828563593789842 tw2347577446155006535 tw8799956690468158358 tw8206050822580158249 tw11368515422917418748 tw11827882579742985394 tw17995103804629048740 tw10522860016787670135 tw10879514402211025016 tw5328903745929106807 tw15517307874403174535 tw12003360867644331792 tw13817708387833487684 tw15968032273464463524 tw12760840822058273961 tw6474899530721188800 tw6540090675727511279 tw13662144732304093485 tw8492731023052341767 tw12149263965912160837 tw7457976845827966370 tw4291655583908185153 tw9257972686261492710 tw8910244046998046840 tw17339915324205225089 tw11370273509393386912 tw10603467887882674274 tw9034937499565288645 tw4726959196080857 tw16342898286153744126 tw10720654750873420785 tw16813632116988829880 tw7355886015523193841 tw429101854703932626 tw13699042968747922405 tw9602692739192329236 tw888406119344114070 tw1910200872387194753 tw16341904999573172647 tw15103551189061094335 tw4329760888583165961 tw4164272277868179782 tw3722024522887136893 tw5439691810004186592 tw13852532323236746723 tw11590534082037477176 tw15878607657105429739 tw8566926073159619285 tw327291826210058794 tw2693518895707579870 tw14965415496665916636 tw4315456654401125698 tw9930859035952767299 tw13266077405865083561 tw10016204524715495096 tw14628914604687457778 tw509748082211192392 tw376755389523364228 tw13069156534795292502 tw6822926199876414059 tw11191828997590111414 tw7743051373081043008 tw411224222205778346 tw3729608294156281307 tw3257775922220193967 tw7151687142969205395 tw16040157178489008202 tw17226331878742924549 tw10771246098224738272 tw10301845338763040380 tw997596101989874002 tw16547337177807640330 tw13170046407779193511 tw15920530695996771380 tw7511100829627896171 tw164142766616671650 tw1821974832372165415 tw14016214176757026987 tw9102376769882328759 tw5922365126133666640 tw832514222754635549 tw17093138484918227883 tw7926652042337786530 tw18285509400683983089 tw9904924045352327585 tw469561106360200157 tw14474577582064036522 tw12762325651209836583 tw10515669549243848539 tw8588662039615119679 tw8222335587436434310 tw15555433493873159020 tw18350011077937507500 tw1342131616467003319 tw10859395328932335766 tw10173197925309241234 tw9767306911312467335 tw6868984502699242855 tw6831368689395702897 tw668277055024160402 tw497085744696376332 tw2471167490517069433 tw13191491115613367134 tw17378182264280220697 tw8482547722012645973 tw3705751330488684954 tw7121090476228953742 tw18274329518249482252 tw18093099725953350925 tw823926093080886101 tw7759191456570809319 tw13415582546681739575 tw254355710848293210 tw2480134841086871466 tw2015944478382683610 tw11575898140146290112 tw6074985872919649135 tw3983497485488246915 tw16358432536276694771 tw3083281619602296325 tw4816424188438899790 tw551141253299634658 tw8496876020001520437 tw1855382424275509534 tw17643750335106283836 tw14704105199803023594 tw1518781355613321270 tw7061153974244068891 tw10896715351474602428 tw8697113890791948620 tw15850643933701594489 tw11390799400909689371 tw9768523554434895569 tw3120268210074787292 tw15952517009960658942 tw13609508743932113793 tw8251166275492551078 tw6852441328285709822 tw6502906968979158863 tw2498793445985401033 tw2302405891354422502 tw21259519410007105 tw2009618505635869180 tw17921924089815215120 tw17887423602541851244 tw16629978243641215293 tw16452521670984485398 tw15746109018788890432 tw13925912008602068144 tw13177635685424780302 tw11794869033446991912 tw11783233295867116526 tw10835256675444110901 tw6661570163295738015 tw16065224237934975082 tw15379396111117851916 tw14420726147866061943 tw14356919279206718363 tw10079253284436848537 tw10718856619201104305 tw2270072503293734559 tw18229458396999033779 tw12239507598619675917 tw847031379578127141 tw7361629829179331847 tw3591391228927513753 tw3362243267501690919 tw15899032667200703018 tw14007368781472811913 tw12077919803905657830 tw10344128238210643984 tw10221134868419463684 tw10802183885267945484 tw13585196349667402484 tw4269664043959256182 tw1504019540410911845 tw6048674447005303719 tw14311049881885477130 tw7901941419762455357 tw17257272507358320484 tw11178838958085004819 tw15895508099515249988 tw6677839162122124811 tw8796166922873110986 tw8521312832918395762 tw5829526720022223941 tw5420262523491155244 tw315509126181078238 tw16334274093522653917 tw13219037279887211926 tw12421423680046307428 tw11452934977392055790 tw11245385771538471757 tw11088922264122708941 tw10920460927294163458 tw984747919238795830 tw96958691736118913 tw929013688367704133 tw9257128235151842609 tw9010878176088279141 tw8867655074981207861 tw8681441962990714401 tw8581710594879239984 tw7771031210490229696 tw6404726005463549688 tw6306218254630206770 tw5411854375264935109 tw4975154578147629638 tw4831428712827377572 tw4507279310692929136 tw4358815484971815818 tw4220171098287364804 tw3863364582965739907 tw3511325287314711398 tw3280457971521244445 tw3111206667994731816 tw2428726260130021111 tw213270419874311623 tw18364529633971811540 tw17481655721164407553 tw16703863701806871782 tw15379980663514862936 tw15186636256411208860 tw14208197561998843607 tw13474296479055010969 tw13302915473647403814 tw13299713226616334017 tw12718374004880152073 tw11509897860431684002 tw11251117614556764280 tw10511035191431054322 tw10368085587296329903 tw10105353197835810688 tw14889980521830865231 tw11488049177169942439 tw2003155528761265292 tw8056126193026366687 tw16702189264855413149 tw3853222378148959080 tw11424491029358021476 tw9680851631913023817 tw9499499264444357409 tw5395071659806918328 tw3543119492909739335 tw18091061394581166157 tw16704385281283038006 tw14860537915257144881 tw6419460536023270819 tw14625064386070896989 tw1447003748898244287 tw11473008195301294684 tw10862812819325572705 tw9273280612700099238 tw13873966615157693440 tw3898842251626711454 tw5641407725008398404 tw17913216231569301905 tw808721553380457063 tw5176145786467447710 tw17055418476687260824 tw16034077610593716082 tw13810945643631122641 tw8259421221043556419 tw7178983612110271302 tw5235945065686956440 tw467378844534409882 tw4401122160512748787 tw4144712813522490819 tw3799995222426220460 tw3328849217365014157 tw2477794066951113833 tw2300972852057587844 tw18112130421206910680 tw16272582032286453181 tw14581991645820013873 tw1211616653373053657 tw9681571637300700725 tw4130904050816845001 tw16398517538847218392:True)
def PySem.W.Fast.tw5593238354614979803:PySem.Program:=PySem.Challenge.pw_parcelmend_k71_edits
set_option maxRecDepth 100000 in
set_option maxHeartbeats 0 in
theorem PySem.Challenge.cw_parcelmend_k71_edits_holds : PySem.Challenge.rw_parcelmend_k71_edits.Holds := by
 w_on;o_law;k_head;(case hw=>w_witness2)
 k_fill
 refine K71.walk (l:=PySem.Challenge.rw_parcelmend_k71_edits) rfl rfl (λw h Y=>⟨PySem.W.km_in_of Y,PySem.W.km_tabs_of Y _ bL⟩) ?F
 case F=>
  intro w mg fa h KX G yw
  refine' K71.all_mk yw (K71.bltAt_mk KX G ..) (K71.clsC_mk KX G ..) (K71.clsS_mk KX G ..) (K71.clsT_mk KX G ..) (K71.clsD_mk KX G ..) (K71.clsA_mk KX G ..) (K71.err_mk KX G ..) (K71.cst_mk KX G ..) (K71.defC_mk KX G ..) (L2.bF KX G ..) (L2.bF KX G ..) (L2.bF KX G ..) (L2.bF KX G ..) (L2.bF KX G ..) (L2.bF KX G ..) (L2.bF KX G ..) (L2.bF KX G ..) (L2.bF KX G ..) (L2.bF KX G ..) (L2.bF KX G ..) (L2.bF KX G ..) (L2.bF KX G ..) (L2.bF KX G ..) (L2.bF KX G ..) (L2.bF KX G ..) (L2.bF KX G ..) (L2.bF KX G ..) (L2.bF KX G ..) (L2.bF KX G ..) (L2.bF KX G ..) (L2.bF KX G ..) (L2.bF KX G ..) (L2.bF KX G ..) (L2.bF KX G ..) (L2.bF KX G ..) (L2.bF KX G ..) (L2.bF KX G ..) (L2.bF KX G ..) (L2.bF KX G ..) (L2.bF KX G ..) (L2.bF KX G ..) (L2.bF KX G ..) (L2.bF KX G ..) (L2.bF KX G ..) (L2.bF KX G ..) (L2.bF KX G ..) (L2.bF KX G ..) (L2.bF KX G ..) (L2.bF KX G ..) (L2.bF KX G ..) (L2.bF KX G ..) (L2.bF KX G ..) (L2.bF KX G ..) (L2.bF KX G ..) (L2.bF KX G ..) (L2.bF KX G ..) (L2.bF KX G ..) (L2.bF KX G ..) (L2.bF KX G ..) (L2.bF KX G ..) (L2.bF KX G ..) (L2.bF KX G ..) (L2.bF KX G ..) (L2.bF KX G ..) (L2.bF KX G ..) (L2.bF KX G ..)
  all_goals try first | k_is | k_exc | kts_exm | kit_is | kernel_rfl
