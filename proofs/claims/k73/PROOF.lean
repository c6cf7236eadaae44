import PyProof.Rows.All
import Wide.All
import OpenK.AllK
import Wide.FinOn
import Lean
import PyProof.EqAt
import PyProof.EqKinds
import PyProof.TupleCall
import KE.KRevSl
import KE.KDictSum
import KE.KEqDict
import PyProof.P3Eq
import KE.KTryMore
import KE.KSortTup
import PyProof.NeKinds
import KE.KLam
import PyProof.SetRoads
import KE.KIntText
import PyProof.DictValues
import PyProof.DictWalks
import KE.KItemsList
import PyProof.Toks
import PyProof.StrReplace2
import PyProof.StrLawsFirst
import KE.KMinKey
import PyProof.StrLawsTight
import PyProof.StrLawsIdx
import PyProof.Rows.StrSplitJoin
import PySem.Challenge.RW_parcelmend_k73_looked_through_and_mended
import KE.RegKIsAll
import KE.RegKTryMore
noncomputable section
set_option Elab.async false
set_option linter.all false
set_option genInjectivity false
set_option genSizeOf false
set_option genSizeOfSpec false
set_option maxRecDepth 100000
section
open PyProof PyProof.Rows PySem PySem.AutoSeq1 PySem.Builtin PySem.Builtin.Getset_descriptor PySem.Builtin.ObjectAttr PySem.Builtin.Str PySem.Calls PySem.MeetsSeq PySem.MeetsSeq2 PySem.MeetsSeq3 PySem.SeqAt PySem.Spec PySem.W
def af:=@wpAny_bind
def ah:=@if_neg
def ak:=@List.length_map
def am:=@if_pos
def au:=@wpAny_pure
def aK:=@Nat.le_refl
def bf:=@List.mem_cons
def bE:=@decide_eq_true
def bF:=@List.mem_singleton
def bH:=@List.mem_cons_self
def bI:=@List.length_append
def bK:=@Heap.lt_size
def bR:=@List.mem_cons_of_mem
def bV:=@List.map_cons
def bY:=@List.mem_append
def b9:=@Heap.get?_push_of_some
def ca:=@List.mem_map
def cn:=@Nat.le_trans
def cq:=@List.length_cons
def cu:=@decide_eq_false
def cM:=@List.getElem?_eq_some_iff
def cS:=@Bool.false_ne_true
def cT:=@of_decide_eq_true
def cX:=@Nat.ne_of_lt
def c8:=@List.getElem?_map
def da:=@List.mem_of_getElem?
def dq:=@List.map_append
def dA:=@Heap.get?_push_size
def dF:=@Nat.zero_le
def dQ:=@PassesOwn.never
def dW:=@Array.length_toList
def eI:=@List.take_length
def eV:=@wpAny_mono
def eW:=@List.length_take
def eX:=@PySem.boot_len
def ff:=@List.mem_append_right
def fo:=@congrArg
def fq:=@List.mem_map_of_mem
def ft:=@List.not_mem_nil
def fw:=@or_false
def gf:=@List.size_toArray
def gw:=@Option.some.inj
def gy:=@Ne.symm
def gL:=@Nat.lt_of_lt_of_le
def gX:=@List.getElem?_eq_getElem
def gY:=@List.take_add_one
def gZ:=@PySem.F.plainAttrs_list
def io:=@Bool.and_eq_true
def ip:=@List.all_eq_true
def iN:=@wpAny_setState_of
def iO:=@PyProof.Rows.boot_list
def jT:=@wpAny_holding
def jU:=@List.length_singleton
def kM:=@List.append_nil
def kN:=@Nat.ne_of_gt
def kO:=@beq_iff_eq
def kP:=@List.length_drop
def kQ:=@List.length_nil
def kR:=@List.nodup_nil
def kS:=@List.append_assoc
def lX:=@List.mem_filter
def lY:=@Int.toNat_natCast
def lZ:=@Heap.SameBut.update
def ma:=@List.foldl_cons
def md:=@List.map_map
def me:=@PySem.F.plainAttrs_str
def nu:=@Sum.inr.inj
def nv:=@if_false
def nw:=@List.filter_cons
def ny:=@not_or
def oR:=@wpAny_rule
def oS:=@wpAny_isInstance
def oU:=@Nat.lt_irrefl
def oV:=@PySem.W.kia_one
def oW:=@Array.getElem?_toList
def oZ:=@List.foldl_append
def qm:=@Bool.false_eq_true
def qo:=@wpAny_truthy_bool
def qp:=@codeAny_mono
def qr:=@Nat.le_succ
def qt:=@List.nodup_cons
def qv:=@Array.getElem?_eq_getElem
def qw:=@List.nodup_append
def qx:=@wpAny_askSetting
def qy:=@PySem.F.slot_list_extend
def qz:=@PySem.F.type_list_extend
def qA:=@PySem.F.slot_list_append
def qB:=@PySem.F.type_list_append
def rX:=@wpAny_call_entry
def rY:=@Nat.le_of_lt
def rZ:=@Heap.size_push
def r9:=@Bool.or_false
def se:=@List.any_cons
def sf:=@List.find?_cons
def si:=@Option.map_some
def sj:=@Bool.eq_false_iff
def sk:=@List.any_eq_true
def sq:=@Int.emod_nonneg
def su:=@plainId_quiet
def sw:=@codeAny_builtin
def sy:=@List.cons.inj
def sG:=@PyProof.Rows.boot_sorted
def uL:=@if_true
def uM:=@List.mem_range
def uN:=@sizeLine_eq
def uO:=@Bool.and_false
def uP:=@List.cons_append
def uQ:=@Int.emod_lt_of_pos
def uR:=@Around.under_plainId
def uS:=@PySem.F.called_set
def uT:=@List.mem_flatMap
def wD:=@beq_eq_false_iff_ne
def wE:=@wpAny_forIn_list
def wF:=@wpAny_seqItems
def wG:=@List.mem_append_left
def wH:=@wpAny_passesOwn
def wI:=@Bool.eq_iff_iff
def wJ:=@Nat.le_of_eq
def wK:=@Nat.lt_succ_self
def wL:=@Nat.lt_trans
def wM:=@call_meetsIn
def wN:=@Bool.true_and
def wO:=@PySem.W.kqd_eqv
def wP:=@List.length_eq_zero_iff
def wQ:=@Bool.and_eq_true_iff
def wR:=@fits_of_scanBound
def wS:=@PySem.F.plain_min_loop
def wT:=@decide_eq_decide
def wU:=@decide_eq_true_eq
def wV:=@PySem.F.slot_str_join
def wW:=@PySem.F.type_str_join
def zF:=@wpAny_specialOf
def zG:=@Bool.not_true
def zH:=@wpAny_Call_Name_kw
def zI:=@PySem.mem_of_lookup
def zJ:=@typeIs_str
def zK:=@List.length_filter_le
def zL:=@List.map_nil
def zM:=@PySem.F.plainAttrs_dict
def zN:=@wpAny_newObj_type
def zO:=@List.drop_eq_nil_iff
def zP:=@List.mem_of_mem_drop
def zQ:=@StrLaws.glued_eq_join
def zR:=@Heap.get?_update_self
def zT:=@wpAny_storeSet_of
def zU:=@wpAny_tryCatch
def zV:=@List.map_congr_left
def zW:=@PySem.W.mg_of
def zX:=@List.filter_append
def zY:=@List.filter_sublist
def Aa:=@List.nil_append
def Db:=@List.filterMap_cons
def Dc:=@wpAny_execs_nil
def Dd:=@Bool.false_and
def De:=@wpAny_call
def Df:=@List.getElem?_append_right
def Dg:=@List.all_cons
def Dh:=@Calls.callWith_builtin
def Di:=@Heap.get?_update_other
def Dj:=@call_meets
def Dl:=@StrsAre.length
def Dm:=@Nat.zero_add
def Dn:=@Nat.mod_lt
def Do:=@List.getElem_mem
def Dp:=@Heap.SameBut.refl
def Dq:=@wpAny_updateSeq
def Dr:=@Walks.list
def Dt:=@List.cons_ne_nil
def Du:=@List.flatMap_cons
def Dv:=@PyProof.Rows.boot_dict
def Dw:=@List.flatMap_append
def Dx:=@List.eq_nil_of_length_eq_zero
def Je:=@F.slot_tuple_hash
def Jf:=@Nat.add_assoc
def Jg:=@F.slot_tuple_eq
def Jh:=@wpAny_pyIter_list
def Ji:=@PyProof.Rows.callWith_type1
def Jj:=@List.mem_filterMap
def Jk:=@List.of_mem_zip
def Jl:=@Option.isSome_iff_exists
def Jm:=@Subscript_
def Jn:=@Calls.evalArgs_plain
def Jo:=@Option.getD_some
def Jp:=@List.drop_eq_getElem_cons
def Jq:=@List.mem_of_mem_take
def Jr:=@List.take_of_length_le
def Js:=@wpAny_dictEntries
def Jt:=@Array.toArray_toList
def Ju:=@entryFor_alias
def Jv:=@wpAny_typeOf
def Jw:=@Nat.add_zero
def Jx:=@Nat.not_lt_zero
def Jy:=@List.length_range
def Jz:=@List.mem_iff_getElem
def JA:=@Array.getD_eq_getD_getElem?
def JB:=@Obj.data_mapFields
def JC:=@Nat.not_lt
def JD:=@List.getD_eq_getElem?_getD
def JE:=@wpAny_letGo
def JF:=@PySem.F.slot_str_split
def JG:=@PySem.F.type_str_split
def JH:=@Nat.mul_le_mul_right
def JI:=@PyProof.Rows.boot_set
def JJ:=@of_decide_eq_false
def JK:=@PyProof.Rows.boot_isinstance
def Vc:=@wpAny_tupleItemsOf
def Vd:=@Array.forIn_toList
def Ve:=@isSubtype_tuple_tuple
def Vf:=@List.zip_cons_cons
def Vg:=@Paired.length
def Vh:=@wpAny_execs_cons
def Vi:=@PySem.W.plainGet_of
def Vj:=@Calls.spliced_nil
def Vk:=@Calls.spliced_cons
def Vl:=@PySem.W.callWith_K
def Vm:=@PySem.W.methodCall_KW
def Vn:=@PySem.W.callWith_K0
def Vo:=@wpAny_standAt
def Vp:=@PySem.W.cellsFrom_some
def Vq:=@List.getElem?_append_left
def Vr:=@List.length_replicate
def Vs:=@evalPart_none
def Vt:=@slot_list_getitem
def Vu:=@Bool.true_or
def Vv:=@Option.isSome_map
def Vw:=@PySem.F.slot_dict_get
def Vx:=@Nat.lt_of_le_of_lt
def Vy:=@List.lookup_cons
def Vz:=@List.length_reverse
def VA:=@List.map_take
def VB:=@Nat.min_eq_left
def VC:=@Nat.succ_mul
def VD:=@List.find?_eq_none
def VE:=@wpAny_newList
def VF:=@Nat.lt_succ_of_lt
def VG:=@wpAny_pyIter_slot
def VH:=@typeLookup_type
def VI:=@builtinLookup_eq_fast
def VJ:=@isSubtype_type
def VL:=@wpAny_ite_split
def VM:=@Array.getElem?_eq_none
def VN:=@wpAny_setField
def VO:=@Bool.and_self
def VQ:=@sub_set_self
def VR:=@PyProof.Rows.F.plain_set_update_loop
def VS:=@Nat.le_antisymm
def VT:=@F.slot_str_split
def VU:=@F.entry_str_split
def VW:=@F.args_str_split_2
def VX:=@ne_true_of_eq_false
def VY:=@PySem.F.entry_min_loop
def VZ:=@List.le_antisymm
def V0:=@PyProof.Rows.boot_str
def V1:=@List.getElem?_inj
def V2:=@List.take_zero
def V3:=@Nat.succ_le_succ
def V4:=@List.take_append_drop
def V5:=@List.lt_irrefl
def V6:=@decide_eq_true_iff
def V7:=@List.filter_nil
def V8:=@Classical.byContradiction
def V9:=@List.all_nil
def Wa:=@Bool.and_true
def Wb:=@List.getLast?_append
def aqi:=@List.getElem?_set_self
def aqj:=@Calls.Name_function_global
def aqk:=@wpAny_isTrue_Compare1
def aql:=@List.getElem?_replicate
def aqm:=@wpAny_newFunctionEnv_cells
def aqn:=@subscriptTail_builtinR
def aqo:=@wpAny_getItem_list_slice
def aqp:=@wpAny_Call_method0_late
def aqq:=@Option.map_eq_some_iff
def aqr:=@PySem.F.slot_dict_pop
def aqs:=@PySem.F.entry_dict_get
def aqt:=@PySem.F.args_dict_get_2
def aqu:=@wpAny_comprehension_free
def aqv:=@List.take_eq_take_iff
def aqw:=@PySem.F.slot_dict_setdefault
def aqx:=@Option.map_eq_none_iff
def aqy:=@Calls.call_function_entry
def aqz:=@PySem.F.slot_dict_keys
def aqA:=@PySem.F.slot_dict_itemiterator_iter
def aqB:=@PySem.F.slot_dict_items
def aqC:=@PySem.F.slot_dict_update
def aqD:=@PySem.F.excBase_ValueError
def aqE:=@List.getElem?_eq_none
def aqF:=@List.length_eraseIdx_of_lt
def aqG:=@Obj.isFreed_of_fields
def aqH:=@PySem.F.slot_set_iter
def aqI:=@filterMap_getElem?_range
def aqJ:=@PySem.F.plain_extend_loop
def aqK:=@PySem.F.plain_list_iadd
def aqL:=@List.length_pos_of_mem
def aqM:=@PySem.F.plain_set_new
def aqN:=@PyProof.Rows.F.entry_set_update_loop
def aqO:=@Array.mem_of_getElem?
def aqP:=@List.Perm.eq_of_pairwise
def aqQ:=@PySem.toDigits_len_ge
def aqR:=@Int.eq_ofNat_of_zero_le
def aqS:=@PyProof.Rows.boot_int
def aqT:=@PySem.F.slot_str_startswith
def aqU:=@PySem.F.type_str_startswith
def aqV:=@List.getLast?_singleton
def aqW:=@PyProof.Rows.boot_all
end
abbrev Fg:=PySem.W.Frag
abbrev VP:=PySem.Value->PySem.Shared->Prop
abbrev Po:=List (PySem.Addr×PySem.Obj)
abbrev Mv:=PySem.Str->Option PySem.Value
abbrev Oi:=Option (List Int)
abbrev Ll:=List (List Int)
abbrev Ls:=List PySem.Str
abbrev Lw:=List PySem.Value
abbrev Av:=Array PySem.Value
abbrev Oa:=Option PySem.Addr
abbrev Fy:=PySem.FuncData
open PySem PySem.Spec PyProof.Rows
namespace L2
variable {α β:Type}{p:Pos}{C a f dx:Addr}{P:Program}{w:World}{vs us:Lw}{s s':Shared}{h' base:Heap}{es:List Expr}{A:Around}{E:VP}{u:Value}{M:Model}{n t':Nat}{e c tg:Expr}{ad:Po}{ch fp:List Addr}{N ps:Ls}{K:Fg}{body:List Stmt}{pl:Sem Bool}{mA mg:Mv}{kw:List (Str×Value)}{fd:Fy}{kindOf:Str->Option NameKind}
theorem ba{p q r:α->β->Prop}{C:Prop}(h:∃a b,p a b/\q a b/\r a b)(k:∀a b,p a b->q a b->r a b->C):C:=h.elim λa h=>h.elim λb h=>h.elim λx h=>h.elim λy z=>k a b x y z
abbrev ao:=Sum Int Str
def o4:ao->Value->Bool
 | .inl k,v=>Value.isInt k v
 | .inr x,v=>Value.isStrOf x v
def mh(w:World):ao->Int
 | .inl k=>hashInt k
 | .inr x=>hashStr w x
theorem i9:∀{k:ao}{v:Value},o4 k v=true->(∃i t,k=Sum.inl i/\v=Value.int i t)\/(∃x t,k=Sum.inr x/\v=Value.str x t)
 | .inl i,v,h=>by
  obtain⟨t,e⟩:=Value.isInt_shape (k:=i) (v:=v) h;exact .inl ⟨i,t,rfl,e⟩
 | .inr x,v,h=>by
  obtain⟨t,e⟩:=Value.isStrOf_shape (x:=x) (v:=v) h;exact .inr ⟨x,t,rfl,e⟩
theorem Wc(i:Int)(t:Tok):o4 (.inl i) (.int i t)=true:=by simp[o4,Value.isInt]
theorem Wd(x:Str)(t:Tok):o4 (.inr x) (.str x t)=true:=by simp[o4,Value.isStrOf]
theorem We(a b:Int):decide ((Sum.inl a:ao)=Sum.inl b)=(a == b):=by
 by_cases e:a=b
 . subst e;simp
 have h:¬(Sum.inl a:ao)=Sum.inl b:=λq=>e (Sum.inl.inj q);rw[cu h];exact(wD.mpr e).symm
theorem Wf(a b:Str):decide ((Sum.inr a:ao)=Sum.inr b)=decide (a=b):=by
 by_cases e:a=b
 . subst e;simp
 have h:¬(Sum.inr a:ao)=Sum.inr b:=λq=>e (nu q);rw[cu h,cu e]
theorem Wg(a:Int)(b:Str):decide ((Sum.inl a:ao)=Sum.inr b)=false:=cu (λq=>nomatch q)
theorem Wh(a:Str)(b:Int):decide ((Sum.inr a:ao)=Sum.inl b)=false:=cu (λq=>nomatch q)
def cf(prog:Program)(w:World):PySem.KeyKind prog w ao where
 is:=o4
 hash:=mh w
 inj:=λv a b J G=>by
  rcases i9 J with⟨i,t,rfl,rfl⟩ | ⟨x,t,rfl,rfl⟩
  . rcases i9 G with⟨j,u,rfl,e⟩ | ⟨y,u,rfl,e⟩
    . injection e with e1 _;rw[e1]
    exact nomatch e
  rcases i9 G with⟨j,u,rfl,e⟩ | ⟨y,u,rfl,e⟩
  . exact nomatch e
  injection e with e1 _;rw[e1]
 byValue:=λk v h=>by
  rcases i9 h with⟨i,t,rfl,rfl⟩ | ⟨x,t,rfl,rfl⟩<;>rfl
 pyHash:=λz h=>by
  rcases i9 z with⟨i,t,rfl,rfl⟩ | ⟨x,t,rfl,rfl⟩
  . exact wpAny_pyHash_int h
  exact wpAny_pyHash_str h
 eqBool:=λO z h=>by
  rcases i9 O with⟨i,t,rfl,rfl⟩ | ⟨x,t,rfl,rfl⟩
  . rcases i9 z with⟨j,u,rfl,rfl⟩ | ⟨y,u,rfl,rfl⟩
    . rw[We]at h;exact wpAny_eqBool_int h
    rw[Wg]at h;exact SeqAt.EqAt.int_str i t y u _ _ _ _ h
  rcases i9 z with⟨j,u,rfl,rfl⟩ | ⟨y,u,rfl,rfl⟩
  . rw[Wh]at h;exact SeqAt.EqAt.str_int x t j u _ _ _ _ h
  rw[Wf]at h;exact wpAny_eqBool_str h
 «strs»:=λk x t v h=>by
  rcases i9 h with⟨i,u,rfl,e⟩ | ⟨y,u,rfl,e⟩
  . exact nomatch e
  injection e with e1 _
  subst e1;cases v<;>rfl
theorem Wi(prog:Program)(w:World)(i:Int)(t:Tok):(cf prog w).is (.inl i) (.int i t)=true:=Wc i t
theorem sJ(prog:Program)(w:World)(x:Str)(t:Tok):(cf prog w).is (.inr x) (.str x t)=true:=Wd x t
abbrev NI:=Sum ao (List ao)
def mi(P:Program)(w:World)(h:Heap):NI->Value->Prop
 | .inl k,v=>o4 k v=true
 | .inr ls,v=>∃b,v=.ref b/\IsTupleKey (cf P w) h ls b
inductive ja (P:Program) (w:World) (h:Heap):List NI->Lw->Prop
 | nil:ja P w h [] []
 | cons {i:NI}{v:Value}{ks:List NI}{vs:Lw}:mi P w h i v->ja P w h ks vs->ja P w h (i::ks) (v::vs)
def jb(P:Program)(w:World)(h:Heap)(ks:List NI)(a:Addr):Prop:=∃o j n,h.get? a=some o/\o.cls=.type "tuple"/\o.data=.seq j n/\ja P w h ks j.toList
def Ab(P:Program)(w:World):NI->Int
 | .inl k=>mh w k
 | .inr ls=>tupleKeyHash (cf P w) ls
def Dy:NI->Nat
 | .inl _=>1
 | .inr ls=>ls.length+1
def Dz(P:Program)(w:World)(ks:List NI):Int:=reduceHash (Builtin.Tuple.tupleHashOf (ks.map (Ab P w)))
def Ac(ks:List NI):Nat:=(ks.map Dy).sum+1
theorem mi.inj{h:Heap}{i j:NI}{v:Value}(a:mi P w h i v)(b:mi P w h j v):i=j:=by
 cases i with
 | inl k=>
  cases j with
  | inl l=>rw[(cf P w).inj v k l a b]
  | inr l=>
   obtain⟨c,rfl,_⟩:=b
   rcases i9 a with⟨_,_,_,e⟩ | ⟨_,_,_,e⟩<;>cases e
 | inr k=>
  obtain⟨c,rfl,z⟩:=a;cases j with
  | inl l=>rcases i9 b with⟨_,_,_,e⟩ | ⟨_,_,_,e⟩<;>cases e
  | inr l=>
   obtain⟨d,e,hd⟩:=b;cases e;rw[z.inj hd]
theorem ja.inj{h:Heap}{x y:List NI}(a:ja P w h x vs)(b:ja P w h y vs):x=y:=by
 induction a generalizing y with
 | nil=>cases b;rfl
 | cons p _ j=>
  cases b with
  | cons q r=>rw[p.inj q,j r]
theorem jb.typeIs{ks:List NI}(x:jb P w s.heap ks a):s.TypeIs (.ref a) "tuple":=x.elim λo j=>j.elim λ_ z=>z.elim λ_ G=>G.elim λU J=>J.elim λO _=>⟨o,U,O⟩
theorem jb.inj{h:Heap}{x y:List NI}(p:jb P w h x a)(q:jb P w h y a):x=y:=by
 obtain⟨o,b_,n,e,_,d,i⟩:=p;obtain⟨o',its',G,j,_,d',z⟩:=q;rw[e]at j;cases j;rw[d]at d';injection d' with d1 _
 subst d1;exact i.inj z
theorem ja.keeps{h:Heap}{ks:List NI}(k:∀ls b,IsTupleKey (cf P w) h ls b->IsTupleKey (cf P w) h' ls b)(x:ja P w h ks vs):ja P w h' ks vs:=by
 induction x with
 | nil=>exact .nil
 | @cons i v ks vs p _ z=>
  refine .cons ?_ z;cases i with
  | inl l=>exact p
  | inr l=>
   obtain⟨b,e,j⟩:=p;exact⟨b,e,k _ _ j⟩
theorem jb.keeps{h:Heap}{ks:List NI}{d:Addr}{o:Obj}{es:Array DictEntry}{ep:Nat}(x:jb P w h ks a)(j:h.get? d=some o)(hd:o.data=.dict es ep)(hs:Heap.SameBut d h h'):jb P w h' ks a:=by
 obtain⟨J,b_,n,e,c,e2,i⟩:=x;have ne:a≠d:=by
  intro z;rw[z,j]at e;cases e;rw[hd]at e2;cases e2
 exact⟨J,b_,n,(hs.2 a ne).trans e,c,e2,i.keeps λls b G=>G.keeps j hd hs⟩
theorem mi.hash{i:NI}{v:Value}{Q:Int->Shared->Prop}(z:A.units<cLine)(x:mi P w s.heap i v)(h:Q (Ab P w i) { s with toks:=s.toks+Dy i }):wpAny (model P w) A (pyHash v) Q E s:=by
 cases i with
 | inl k=>exact(cf P w).pyHash (k:=k) x h
 | inr ls=>
  obtain⟨b,rfl,j⟩:=x;exact wpAny_pyHash_tuple z j h
theorem mi.eq{i j:NI}{v:Value}{Q:Bool->Shared->Prop}(G:A.units<cLine)(x:mi P w s.heap i u)(y:mi P w s.heap j v)(h:Q (decide (i=j)) s):wpAny (model P w) A (eqBool u v) Q E s:=by
 cases i with
 | inl k=>
  cases j with
  | inl l=>
   have e:decide ((Sum.inl k:NI)=Sum.inl l)=decide (k=l):=by
    by_cases q:k=l
    . rw[q];simp
    rw[cu q,cu (λz=>q (Sum.inl.inj z))]
   rw[e]at h;exact(cf P w).eqBool (a:=k) (b:=l) x y h
  | inr l=>
   rw[cu (λz=>nomatch z)]at h;obtain⟨b,rfl,o,b_,n,e,c,d,_⟩:=y
   rcases i9 x with⟨a,t,_,rfl⟩ | ⟨a,t,_,rfl⟩
   . exact SeqAt.EqAt.int_tuple a t ⟨o,e,c,n,d⟩ G _ _ _ _ h
   exact SeqAt.EqAt.str_tuple a t ⟨o,e,c,n,d⟩ G _ _ _ _ h
 | inr k=>
  obtain⟨a,rfl,J⟩:=x;cases j with
  | inl l=>
   rw[cu (λz=>nomatch z)]at h;obtain⟨o,b_,n,e,c,d,_⟩:=J
   rcases i9 y with⟨b,t,_,rfl⟩ | ⟨b,t,_,rfl⟩
   . exact SeqAt.EqAt.tuple_int b t ⟨o,e,c,n,d⟩ G _ _ _ _ h
   exact SeqAt.EqAt.tuple_str b t ⟨o,e,c,n,d⟩ G _ _ _ _ h
  | inr l=>
   obtain⟨b,rfl,O⟩:=y;have e:decide ((Sum.inr k:NI)=Sum.inr l)=decide (k=l):=by
    by_cases q:k=l
    . rw[q];simp
    rw[cu q,cu (λz=>q (nu z))]
   rw[e]at h;exact wpAny_eqBool_tuple G J O h
theorem Wn{ks:List NI}{Q:Int->Shared->Prop}(hu:A.units+8<cLine)(U:jb P w s.heap ks a)(h:Q (Dz P w ks) { s with toks:=s.toks+Ac ks }):wpAny (model P w) A (pyHash (.ref a)) Q E s:=by
 have j:=U.typeIs;obtain⟨o,b_,n,ho,_,hd,hi⟩:=U;have DB:A.units<cLine:=by omega
 unfold pyHash
 first | unfold pyHashByItsType | skip
 first | refine af (wpAny_cRoomFor_or (.inr DB) ?_) | skip
 refine af (zF j Je.lookup ?_);show wpAny _ _ (if (some (Value.builtin "tuple.__hash__") == some Value.none)=true then _ else _) Q E s;rw[ah (by rw[beq_builtin_none];exact cS)];refine af (zF j Je.lookup ?_);show wpAny _ _ (callSpecialIfBoundUnlessNone? (.ref a) "__hash__" _ >>= _) Q E s;refine af (wpAny_callSpecialIfBoundUnlessNone?_slot j Je (rX Je j F.entry_tuple_hash ?_ (F.args_tuple_hash_1 _)));show wpAny _ _ (Builtin.Tuple.tupleItemsOf (.ref a) >>= _) _ _ s;refine af (Vc ho hd ?_);refine af ?_;rw[<-Vd];refine wE _
  (λrest (b:Array Int) s'=>∃done left,ks=done++left/\ja P w s.heap left rest/\b.toList=done.map (Ab P w)/\s'={ s with toks:=s.toks+(done.map Dy).sum })
  _ ?_ ?_ _ _ ⟨[],ks,rfl,hi,rfl,rfl⟩
 . rintro x rest b s' ⟨done,left,rfl,O,G,rfl⟩;cases O with
   | @cons k _ Y _ h1 qC=>
    refine af (mi.hash (i:=k) (show A.units+1<cLine by omega) h1 ?_)
    first
     | exact au ⟨done++[k],Y,by simp,qC,by simp[G],by simp[Jf]⟩
     | exact af (au (au ⟨done++[k],Y,by simp,qC,by simp[G],by simp[Jf]⟩))
 rintro b s' ⟨done,left,rfl,O,G,rfl⟩;cases O;rw[kM]at h;show wpAny _ _ (retInt (Builtin.Tuple.tupleHashOf b.toList)) _ _ _;rw[G];refine wpAny_ret_mkInt ?_;generalize hz:Builtin.Tuple.tupleHashOf (done.map (Ab P w))=z at h ⊢;show wpAny _ _ (if (decide (-(2:Int) ^ 63<=z) && decide (z<2 ^ 63))=true then _ else _) Q E _;unfold Dz reduceHash at h;rw[hz]at h
 by_cases J:(decide (-(2:Int) ^ 63<=z) && decide (z<2 ^ 63))=true
 . rw[am J];rw[am J]at h;exact au (by simpa [Jf,Ac]using h)
 rw[ah J];rw[ah J]at h;exact af (oR (au (by simpa [Jf,Ac]using h)))
theorem Wo{x y:List NI}{b:Addr}{R:PySem.Fin->Shared->Prop}(hu:A.units<cLine)(hx:jb P w s.heap x a)(hy:jb P w s.heap y b)(h:R (.done (.ret (.bool (decide (x=y))))) s) :
 wpAny (model P w) A (Builtin.«tuple.__eq__» ⟨[.ref a,.ref b],[]⟩) R E s:=by
 have Wp:=hy.typeIs;obtain⟨oa,xs,na,DC,_,Wq,Wr⟩:=hx;obtain⟨ob,ys,nb,qD,_,iq,Ws⟩:=hy;show wpAny _ _ (isInstance (.ref b) (.type "tuple") >>= _) _ _ s;refine af (oS Wp Ve ?_);simp only[zG,qm,nv];refine af (Vc DC Wq ?_);refine af (Vc qD iq ?_);refine af ?_;refine wE _
  (λrest r s'=>r.1=none/\s'=s/\∃J O G z,rest=List.zip G z/\ja P w s.heap J G/\ja P w s.heap O z/\decide (J=O)=decide (x=y)/\(G.length == z.length)=(xs.size == ys.size))
  _ ?_ ?_ _ _ ⟨rfl,rfl,x,y,xs.toList,ys.toList,rfl,Wr,Ws,rfl,by simp⟩
 . rintro⟨u,v⟩ rest r s' ⟨hr,rfl,J,O,G,z,hz,jc,kU,Ad,hlen⟩;cases jc with
   | nil=>simp at hz
   | @cons k1 u' Y Wt h1 Wu=>
    cases kU with
    | nil=>simp at hz
    | @cons k2 v' JM Wv h2 Ww=>
     simp only[Vf,List.cons.injEq,Prod.mk.injEq]at hz;obtain⟨⟨rfl,rfl⟩,rfl⟩:=hz;refine af (mi.eq (i:=k1) (j:=k2) hu h1 h2 ?_)
     by_cases U:k1=k2
     . subst U;rw[bE rfl];simp only[zG,qm,nv];refine au ⟨rfl,rfl,Y,JM,Wt,Wv,rfl,Wu,Ww,?_,by simpa using hlen⟩;rw[<-Ad]
       by_cases JN:Y=JM
       . simp[JN]
       simp[JN]
     rw[cu U];simp only[Bool.not_false,uL];have hf:decide (x=y)=false:=by rw[<-Ad];simp[U]
     rw[hf]at h;exact af (au (au (au h)))
 rintro⟨r1,r2⟩ s' ⟨hr,rfl,J,O,G,z,hz,jc,kU,Ad,hlen⟩;simp only at hr;subst hr;refine au ?_;have Wx:(xs.size == ys.size)=decide (x=y):=by
  rw[<-Ad,<-hlen];cases jc with
  | nil=>
   cases kU with
   | nil=>simp
   | cons _ _=>simp
  | cons _ _=>
   cases kU with
   | nil=>simp
   | cons _ _=>simp at hz
 show R (.done (.ret (.bool (xs.size == ys.size)))) s';rw[Wx];exact h
theorem Wy{x y:List NI}{b:Addr}{Q:Bool->Shared->Prop}(J:A.units+8<cLine)(j:jb P w s.heap x a)(z:jb P w s.heap y b)(h:Q (decide (x=y)) s) :
 wpAny (model P w) A (eqBool (.ref a) (.ref b)) Q E s:=by
 unfold eqBool
 try with_reducible refine jT ?_
 show wpAny _ _ (if (Value.ref a == Value.ref b)=true then _ else _) Q E s
 by_cases G:(Value.ref a == Value.ref b)=true
 . rw[am G];have e:a=b:=by have:=eq_of_beq G;injection this
   subst e;obtain rfl:=j.inj z;exact af (oR (au (by simpa using h)))
 rw[ah G];exact af (wpAny_richCompare_same_room (op:=.Eq) j.typeIs z.typeIs Jg
  (rX Jg j.typeIs F.entry_tuple_eq (Wo (show A.units+1<cLine by omega) j z ⟨_,rfl,(λe=>nomatch e),qo h⟩) (F.args_tuple_eq_2 _ _)) (by omega))
theorem Wz{ls:List ao}{Q:Bool->Shared->Prop}(G:IsTupleKey (cf P w) s.heap ls a)(h:Q true s):wpAny M A (eqIsQuiet (n+1) (.ref a)) Q E s:=by
 have z:=G.typeIs;obtain⟨o,b_,m,U,_,hd,hi⟩:=G;unfold eqIsQuiet;refine af (zF z Jg.lookup ?_);show wpAny _ _ (isInstance (.ref a) (.type "tuple") >>= _) _ _ s;refine af (oS z Ve ?_);simp only[zG,qm,nv];refine af (wF U hd ?_);refine af ?_;show wpAny _ _ (forIn b_ _ _) _ _ s;rw[<-Vd];refine wE _ (λrest r s'=>r.1=none/\s'=s/\∀v∈rest,carriedByValue v=true) _ ?_ ?_ _ _ ⟨rfl,rfl,hi.byValue⟩
 . rintro v rest r s' ⟨j,rfl,J⟩;rw[eqIsQuiet_byValue _ (J v bH)];refine af (au ?_);simp only[zG,qm,nv];exact au ⟨rfl,rfl,λu O=>J u (bR _ O)⟩
 rintro⟨r1,r2⟩ s' ⟨j,rfl,_⟩;simp only at j;subst j;exact au h
theorem WB{ks:List NI}{Q:Bool->Shared->Prop}(G:jb P w s.heap ks a)(h:Q true s):wpAny M A (eqIsQuiet 8 (.ref a)) Q E s:=by
 have z:=G.typeIs;obtain⟨o,b_,m,Y,_,hd,hi⟩:=G;unfold eqIsQuiet;refine af (zF z Jg.lookup ?_);show wpAny _ _ (isInstance (.ref a) (.type "tuple") >>= _) _ _ s;refine af (oS z Ve ?_);simp only[zG,qm,nv];refine af (wF Y hd ?_);refine af ?_;show wpAny _ _ (forIn b_ _ _) _ _ s;rw[<-Vd];refine wE _ (λrest r s'=>r.1=none/\s'=s/\∃ls,ja P w s.heap ls rest) _ ?_ ?_ _ _ ⟨rfl,rfl,ks,hi⟩
 . rintro v rest r s' ⟨j,rfl,ls,J⟩;cases J with
   | @cons i _ wX _ h1 h2=>
    have O:∀{R:Bool->Shared->Prop},R true s'->wpAny M A (eqIsQuiet 7 v) R E s':=λ{R} q=>by
     cases i with
     | inl k=>
      rw[eqIsQuiet_byValue _ ((cf P w).byValue k v h1)];exact au q
     | inr l=>
      obtain⟨b,rfl,U⟩:=h1;exact Wz U q
    refine af (O ?_);simp only[zG,qm,nv];exact au ⟨rfl,rfl,wX,h2⟩
 rintro⟨r1,r2⟩ s' ⟨j,rfl,_⟩;simp only at j;subst j;exact au h
def sK(P:Program)(w:World):HeapKind P w (List NI) where
 is:=jb P w
 hash:=Dz P w
 draws:=Ac
 room:=λA=>A.units+8<cLine
 inj:=λa b=>a.inj b
 keeps:=λx G hd hs=>x.keeps G hd hs
 pyHash:=λz j h=>Wn z j h
 eqBool:=λz J O h=>Wy z J O h
 quiet:=λj h=>WB j h
theorem wY(j:A.units+64<cLine):(sK P w).room A.in1:=show A.units+1+8<cLine by omega
set_option genInjectivity true in
inductive V where
 | non | bl (b:Bool) | int (i:Int) | str (x:Str) | byt (b:Array UInt8) | flt (b:UInt64) | ref (a:Addr) | ty (n:String)
 deriving DecidableEq
abbrev ae:=List V
def RelV:V->Value->Prop
 | .non,u=>u=Value.none
 | .bl b,u=>u=Value.bool b
 | .int i,u=>∃t,u=Value.int i t
 | .str x,u=>∃t,u=Value.str x t
 | .byt b,u=>∃t,u=Value.bytes b t
 | .flt b,u=>∃t,u=Value.float b t
 | .ref a,u=>u=Value.ref a
 | .ty n,u=>u=Value.type n
abbrev bc:ae->Lw->Prop:=Paired RelV
theorem bc.length{xs:ae}(r:bc xs us):xs.length=us.length:=Vg r
theorem bc.get:∀{xs:ae}{us:Lw}{i:Nat}{x:V},bc xs us->xs[i]?=some x->∃u,us[i]?=some u/\RelV x u
 | _,_,_,_,.nil,e=>by simp at e
 | _,_,0,_,.cons r _,e=>by simp at e;subst e;exact⟨_,rfl,r⟩
 | _,_,i+1,x,.cons _ t,e=>by
  obtain⟨u,h1,h2⟩:=bc.get (i:=i) (x:=x) t (by simpa using e);exact⟨u,by simpa using h1,h2⟩
theorem bc.append:∀{xs ys:ae}{us j:Lw},bc xs us->bc ys j->bc (xs++ys) (us++j)
 | _,_,_,_,.nil,s=>s
 | _,_,_,_,.cons r t,s=>.cons r (bc.append t s)
theorem bc.take:∀{xs:ae}{us:Lw} (n:Nat),bc xs us->bc (xs.take n) (us.take n)
 | _,_,0,_=>.nil
 | _,_,_+1,.nil=>.nil
 | _,_,n+1,.cons r t=>.cons r (bc.take n t)
theorem bc.drop:∀{xs:ae}{us:Lw} (n:Nat),bc xs us->bc (xs.drop n) (us.drop n)
 | _,_,0,r=>r
 | _,_,_+1,.nil=>.nil
 | _,_,n+1,.cons _ t=>bc.drop n t
def gM:Option V->Option Value->Prop
 | some v,some u=>RelV v u
 | none,none=>True
 | _,_=>False
def KV{κ:Type}:List (κ×V)->List (κ×Value)->Prop:=Paired fun(p:κ×V) (q:κ×Value)=>p.1=q.1/\RelV p.2 q.2
def kV:ao->V
 | .inl i=>.int i
 | .inr x=>.str x
inductive HO where
 | lst (xs:ae)
 | tup (xs:ae)
 | dK (kvs:List (ao×V)) | dT (kvs:List (List NI×V))
 | set (S:Int->Bool) (n:Nat)
 | ins (C dx:Addr) (fs:List (Str×V))
 | own (x:Addr)
 | xd (fs:List (Str×V))
 | met (f x:Addr)
 | rng (lo hi:Int)
 | frz (o:Obj) (u:HO)
 | tbl (ps:Av)
 | ext (φ:Heap->Prop)
abbrev Hp:=Addr->Option HO
def ag(H:Hp)(a:Addr)(o:HO):Hp:=λb=>if b=a then some o else H b
theorem aD{H:Hp}{o:HO}:ag H a o a=some o:=by unfold ag;rw[am rfl]
theorem bg{H:Hp}{b:Addr}{o:HO}(h:b≠a):ag H a o b=H b:=by unfold ag;rw[ah h]
theorem aU{H:Hp}{b:Addr}{o u:HO}(h:H a=some o)(h':H b=some u)(d:o≠u):a≠b:=by
 intro e;subst e;rw[h]at h';exact d (gw h')
theorem aO{H:Hp}{b:Addr}{o:HO}(h:H a=some o)(h':H b=none):a≠b:=by
 intro e;subst e;rw[h]at h';cases h'
def NV(H:Hp):NI->V->Prop
 | .inl k,v=>v=kV k
 | .inr ls,v=>∃b,v=.ref b/\H b=some (.tup (ls.map kV))
abbrev JO (H:Hp):List NI->ae->Prop:=Paired (NV H)
def kW(H:Hp)(ks:List NI)(a:Addr):Prop:=∃vs,H a=some (.tup vs)/\JO H ks vs
theorem aq{F G:α->β->Prop}:∀{j:List α}{z:List β},Paired F j z->(∀a b,F a b->G a b)->Paired G j z
 | _,_,.nil,_=>.nil
 | _,_,.cons r t,f=>.cons (f _ _ r) (aq t f)
theorem kW.keeps{H H':Hp}{ks:List NI}(x:kW H ks a)(j:∀b xs,H b=some (.tup xs)->H' b=some (.tup xs)):kW H' ks a:=by
 obtain⟨vs,e,r⟩:=x;refine⟨vs,j _ _ e,aq r λi v z=>?_⟩;cases i with
 | inl k=>exact z
 | inr l=>
  obtain⟨b,e1,e2⟩:=z;exact⟨b,e1,j _ _ e2⟩
section
variable (P:Program)(w:World)
def cb(H:Hp)(h:Heap)(a:Addr):HO->Prop
 | .lst xs=>xs.length<=sizeLine/\∃(b_:Lw) (n:Nat),bc xs b_/\h.get? a=some { cls:=.type "list",data:=.seq b_.toArray n }
 | .tup xs=>xs.length<=sizeLine/\∃b_:Lw,bc xs b_/\IsTup h a b_.toArray
 | .dK kvs=>kvs.length<=sizeLine/\(a == sysModules)=false/\∃vs,KV kvs vs/\h.DictOf (cf P w) a vs
 | .dT kvs=>kvs.length<=sizeLine/\(a == sysModules)=false/\∃xs:List (List NI×Addr×Value),
  Paired (fun(p:List NI×V) (q:List NI×Addr×Value)=>p.1=q.1/\kW H p.1 q.2.1/\RelV p.2 q.2.2) kvs xs /\
  ∃o es ep,h.get? a=some o/\o.ExactDict/\o.data=.dict es ep/\es.toList=xs.map (entryOfKey (sK P w))/\(xs.map (·.1)).Nodup
 | .set S n=>h.SetOf (intKind P w) a S n
 | .ins C dx fs=>H dx=some (.own a)/\fs.length<=1000/\dx≠a/\h.get? a=some (W.instObj C dx) /\
  ∃mA,h.Ns1 dx mA/\(∀f,gM (fs.lookup f) (mA f))/\PySem.Within mA (fs.map (·.1))
 | .own _=>∃o,h.get? a=some o
 | .xd fs=>∃mA,h.Ns1 a mA/\∀f,gM (fs.lookup f) (mA f)
 | .rng lo hi=>∃t u v,h.get? a=some { cls:=.type "range",data:=.fields #[.int lo t,.int hi u,.int 1 v] }
 | .frz o u=>h.get? a=some o/\cb H h a u
 | .tbl ps=>h.get? a=some { cls:=.none,data:=.fields ps }
 | .met f x=>h.get? a=some (W.methodObj (.ref f) (.ref x))
 | .ext φ=>φ h/\(∃o,h.get? a=some o)/\∀h1 h2:Heap,φ h1->(∀o,h1.get? a=some o->h2.get? a=some o)->φ h2
def cC(H:Hp)(h:Heap):Prop:=∀a o,H a=some o->cb P w H h a o
end
section
variable {H H':Hp}{h:Heap}{o:HO}
theorem cb.lt(x:cb P w H h a o):a<h.objs.size:=by
 cases o with
 | lst xs=>obtain⟨_,_,_,_,e⟩:=x;exact bK e
 | tup xs=>obtain⟨_,_,_,p⟩:=x;exact p.lt
 | dK kvs=>obtain⟨_,_,_,_,o,_,_,e,_⟩:=x;exact bK e
 | dT kvs=>obtain⟨_,_,_,_,o,_,_,e,_⟩:=x;exact bK e
 | set S n=>obtain⟨o,_,_,_,e,_⟩:=x;exact bK e
 | ins C dx fs=>obtain⟨_,_,_,e,_⟩:=x;exact bK e
 | own y=>obtain⟨_,e⟩:=x;exact bK e
 | xd fs=>obtain⟨_,⟨_,_,_,e,_⟩,_⟩:=x;exact bK e
 | rng lo hi=>obtain⟨_,_,_,e⟩:=x;exact bK e
 | frz ob u=>obtain⟨e,_⟩:=x;exact bK e
 | tbl ps=>exact bK (show h.get? a=some _ from x)
 | met f y=>exact bK (show h.get? a=some _ from x)
 | ext φ=>obtain⟨_,⟨_,e⟩,_⟩:=x;exact bK e
theorem Paired.mapP{F G:α->β->Prop}:∀{j:List α}{z:List β},Paired F j z->(∀a b,F a b->G a b)->Paired G j z
 | _,_,.nil,_=>.nil
 | _,_,.cons r t,f=>.cons (f _ _ r) (Paired.mapP t f)
theorem cb.stay(x:cb P w H h a o)(k:∀b u,(b=a\/H b=some (.own a))->h.get? b=some u->h'.get? b=some u)
 (j:∀b,H b=some (.own a)->H' b=some (.own a)) (G:∀b xs,H b=some (.tup xs)->H' b=some (.tup xs)):cb P w H' h' a o:=by
 induction o with
 | lst xs=>obtain⟨z,b_,n,r,e⟩:=x;exact⟨z,b_,n,r,k _ _ (.inl rfl) e⟩
 | tup xs=>obtain⟨z,b_,r,ob,e,c⟩:=x;exact⟨z,b_,r,ob,k _ _ (.inl rfl) e,c⟩
 | dK kvs=>obtain⟨z,y,vs,r,ob,es,ep,e,c⟩:=x;exact⟨z,y,vs,r,ob,es,ep,k _ _ (.inl rfl) e,c⟩
 | dT kvs=>
  obtain⟨z,y,xs,r,ob,es,ep,e,c⟩:=x;exact⟨z,y,xs,Paired.mapP r λp q z=>⟨z.1,z.2.1.keeps G,z.2.2⟩,ob,es,ep,k _ _ (.inl rfl) e,c⟩
 | set S n=>obtain⟨ob,es,ep,t,e,c⟩:=x;exact⟨ob,es,ep,t,k _ _ (.inl rfl) e,c⟩
 | ins C dx fs=>
  obtain⟨d,z,ne,e,mA,⟨od,es,ep,e2,c⟩,r⟩:=x;exact⟨j _ d,z,ne,k _ _ (.inl rfl) e,mA,⟨od,es,ep,k _ _ (.inr d) e2,c⟩,r⟩
 | own y=>obtain⟨ob,e⟩:=x;exact⟨ob,k _ _ (.inl rfl) e⟩
 | xd fs=>obtain⟨mA,⟨od,es,ep,e,c⟩,r⟩:=x;exact⟨mA,⟨od,es,ep,k _ _ (.inl rfl) e,c⟩,r⟩
 | rng lo hi=>obtain⟨t,u,v,e⟩:=x;exact⟨t,u,v,k _ _ (.inl rfl) e⟩
 | frz ob u J=>obtain⟨e,q⟩:=x;exact⟨k _ _ (.inl rfl) e,J q⟩
 | tbl ps=>
  have e:h.get? a=some { cls:=.none,data:=.fields ps }:=x;show h'.get? a=some { cls:=.none,data:=.fields ps };exact k a _ (.inl rfl) e
 | met f y=>
  have e:h.get? a=some (W.methodObj (.ref f) (.ref y)):=x;show h'.get? a=some (W.methodObj (.ref f) (.ref y));exact k a _ (.inl rfl) e
 | ext φ=>obtain⟨p,⟨o,e⟩,st⟩:=x;exact⟨st _ _ p λo q=>k _ _ (.inl rfl) q,⟨o,k _ _ (.inl rfl) e⟩,st⟩
theorem cC.lt(x:cC P w H h)(e:H a=some o):a<h.objs.size:=(x a o e).lt
theorem cC.fresh(x:cC P w H h)(e:h.objs.size<=a):H a=none:=by
 cases q:H a with
 | none=>rfl
 | some u=>exact absurd (gL (x.lt q) e) (oU _)
theorem cC.kept(x:cC P w H h)(k:∀b u,h.get? b=some u->h'.get? b=some u):cC P w H h':=λa o e=>
 (x a o e).stay (λb u _ q=>k b u q) (λ_ q=>q) λ_ _ q=>q
theorem cC.laid(x:cC P w H h)(k:∀b u,h.get? b=some u->h'.get? b=some u)(G:h.objs.size<=a)(new:cb P w (ag H a o) h' a o):cC P w (ag H a o) h':=λb u e=>by
 have z:=x.fresh G
 by_cases j:b=a
 . subst j;rw[aD]at e;cases e;exact new
 rw[bg j]at e;exact(x b u e).stay (λc v _ q=>k c v q) (λc q=>by rw[bg (aO q z)];exact q) λc xs q=>by rw[bg (aO q z)];exact q
end
def Rd(H:Hp)(a:Addr)(u:HO):Prop:=H a=some u\/∃o,H a=some (.frz o u)
theorem Rd.ok{H:Hp}{h:Heap}{u:HO}(r:Rd H a u)(x:cC P w H h):cb P w H h a u:=by
 rcases r with r | ⟨o,r⟩
 . exact x a u r
 obtain⟨_,q⟩:=x a _ r;exact q
def wZ:Option HO->Prop
 | some (.lst _)=>True
 | some (.dK _)=>True
 | some (.dT _)=>True
 | some (.set _ _)=>True
 | some (.ins _ _ _)=>True
 | some (.ext _)=>True
 | _=>False
section
variable {H:Hp}{h:Heap}{x e:Addr}{o':HO}
theorem cC.write(ok:cC P w H h)(G:wZ (H x))(U:e=x\/H e=some (.own x))(k:∀b u,b≠e->h.get? b=some u->h'.get? b=some u)(uU:∃u,h'.get? e=some u)
 (new:cb P w (ag H x o') h' x o'):cC P w (ag H x o') h':=λb u q=>by
 have O:∀c y,H c=some (.own y)->c≠x:=λc y r z=>by subst z;rw[r]at G;exact G
 have WC:∀c xs,H c=some (.tup xs)->c≠x:=λc xs r z=>by subst z;rw[r]at G;exact G
 by_cases j:b=x
 . subst j;rw[aD]at q;cases q;exact new
 rw[bg j]at q
 by_cases J:b=e
 . have Y:H b=some (.own x):=by
    rcases U with z | z
    . exact absurd (J.trans z) j
    rw[J];exact z
   rw[q]at Y;cases Y;obtain⟨v,hv⟩:=uU;exact⟨v,by rw[J];exact hv⟩
 refine(ok b u q).stay (λc v hc r=>k c v ?_ r) (λc r=>by rw[bg (O c b r)];exact r) λc xs r=>by rw[bg (WC c xs r)];exact r
 rcases hc with rfl | hc
 . exact J
 rintro rfl
 rcases U with z | z
 . exact O c b hc z
 rw[hc]at z;cases z;exact j rfl
end
structure Un(fs ex:List Addr)(H H':Hp)(h h':Heap):Prop where
 keep:∀b o,h.get? b=some o->H b=none->b∉fs->b∉ex->h'.get? b=some o
 slot:∀b o,h.get? b=some o->H b=none->b∈fs->b∉ex->∃sl,h'.get? b=some { o with slots:=sl }
 free:∀b o,h.get? b=some o->H b=none->b∉ex->H' b=none
 there:∀b o,h.get? b=some o->b∉ex->∃o',h'.get? b=some o'
 tups:∀b xs,H b=some (.tup xs)->H' b=some (.tup xs)
 frzs:∀b o u,H b=some (.frz o u)->H' b=some (.frz o u)
 tbls:∀b ps,H b=some (.tbl ps)->∃more,H' b=some (.tbl (ps++more))
section
variable {fs eL ex ex':List Addr}{H H1 H2:Hp}{h h1 h2:Heap}{x e:Addr}{o:HO}
theorem Un.any(u:Un fs ex H H1 h h1){b:Addr}{ob:Obj}(q:h.get? b=some ob)(n:H b=none)(z:b∉ex):∃sl,h1.get? b=some { ob with slots:=sl }:=by
 by_cases j:b∈fs
 . exact u.slot b ob q n j z
 exact⟨ob.slots,u.keep b ob q n j z⟩
theorem Un.trans(a:Un fs ex H H1 h h1)(b:Un fs ex H1 H2 h1 h2):Un fs ex H H2 h h2 where
 keep:=λc ob q n z j=>b.keep c ob (a.keep c ob q n z j) (a.free c ob q n j) z j
 slot:=λc ob q n z j=>by
  obtain⟨sl,e1⟩:=a.slot c ob q n z j;obtain⟨O,e2⟩:=b.slot c _ e1 (a.free c ob q n j) z j;exact⟨O,e2⟩
 free:=λc ob q n j=>by
  obtain⟨o',e1⟩:=a.there c ob q j;exact b.free c o' e1 (a.free c ob q n j) j
 there:=λc ob q j=>by
  obtain⟨o',e1⟩:=a.there c ob q j;exact b.there c o' e1 j
 tups:=λc xs q=>b.tups c xs (a.tups c xs q)
 frzs:=λc ob xs q=>b.frzs c ob xs (a.frzs c ob xs q)
 tbls:=λc ps q=>by
  obtain⟨G,e1⟩:=a.tbls c ps q;obtain⟨J,e2⟩:=b.tbls c _ e1;exact⟨G++J,by rw[e2,Array.append_assoc]⟩
theorem Un.kept(k:∀b u,h.get? b=some u->h'.get? b=some u):Un fs ex H H h h':=
 ⟨λb ob q _ _ _=>k b ob q,λb ob q _ _ _=>⟨ob.slots,k b ob q⟩,λ_ _ _ n _=>n,λb ob q _=>⟨ob,k b ob q⟩,λ_ _ q=>q,λ_ _ _ q=>q,λ_ ps q=>⟨#[],by rw[q];simp⟩⟩
theorem Un.refl:Un fs ex H H h h:=Un.kept λ_ _ q=>q
theorem Un.laid(k:∀b u,h.get? b=some u->h'.get? b=some u)(z:h.objs.size<=a)(j:H a=none):Un fs ex H (ag H a o) h h' where
 keep:=λb u q _ _ _=>k b u q
 slot:=λb u q _ _ _=>⟨u.slots,k b u q⟩
 free:=λb u q n _=>by rw[bg (cX (gL (bK q) z))];exact n
 there:=λb u q _=>⟨u,k b u q⟩
 tups:=λb xs q=>by rw[bg (aO q j)];exact q
 frzs:=λb u xs q=>by rw[bg (aO q j)];exact q
 tbls:=λb ps q=>⟨#[],by rw[bg (aO q j),q];simp⟩
theorem Un.write(j:wZ (H x))(Y:e=x\/H e=some (.own x))(k:∀b u,b≠e->h.get? b=some u->h'.get? b=some u)(uU:∃u,h'.get? e=some u):Un fs ex H (ag H x o) h h':=by
 have O:∀b,H b=none->b≠x:=λb n z=>by subst z;rw[n]at j;exact j
 have J:∀b,H b=none->b≠e:=λb n z=>by
  subst z
  rcases Y with r | r
  . exact O b n r
  rw[n]at r;cases r
 have G:∀b u,H b=some u->¬wZ (some u)->b≠x:=λb u q nm z=>by subst z;rw[q]at j;exact nm j
 refine⟨λb u q n _ _=>k b u (J b n) q,λb u q n _ _=>⟨u.slots,k b u (J b n) q⟩,λb u q n _=>by rw[bg (O b n)];exact n,λb u q _=>?_,
  λb xs q=>by rw[bg (G b _ q λz=>z)];exact q,λb u xs q=>by rw[bg (G b _ q λz=>z)];exact q,λb ps q=>⟨#[],by rw[bg (G b _ q λz=>z),q];simp⟩⟩
 by_cases U:b=e
 . subst U;exact uU
 exact⟨u,k b u U q⟩
end
def Af(h:Heap)(H:Hp):List Addr:=(List.range h.objs.size).filter λa=>(H a).isSome
def nG(h:Heap)(H:Hp):Heap:=W.hideAll h (Af h H)
theorem WD(h:Heap)(H:Hp):(nG h H).objs.size=h.objs.size:=W.hideAll_size _ _
theorem WE{h:Heap}{H:Hp}{b:Addr}{o:Obj}(e:h.get? b=some o)(n:H b=none):(nG h H).get? b=some o:=
 W.hideAll_get _ e λj=>by
  have q:(H b).isSome=true:=(lX.mp j).2;rw[n]at q;simp at q
theorem WF{h:Heap}{H:Hp}{b:Addr}{o:Obj}(e:(nG h H).get? b=some o):h.get? b=some o/\H b=none:=by
 have j:h.get? b=some o:=W.of_hideAll (Af h H) e;refine⟨j,?_⟩;cases q:H b with
 | none=>rfl
 | some x=>
  have G:b∈Af h H:=lX.mpr ⟨uM.mpr (bK j),by simp[q]⟩;have z:(nG h H).get? b=none:=W.hideAll_none (Af h H) G;rw[z]at e;cases e
structure Mod(K:Fg)(mg:Mv)(base:Heap):Prop where
 kin:K.In base
 glob:base.Ns mainGlobals mg
 blt:∃mb,base.Ns builtinsNs mb/\∀x:Str,x≠"__name__"->mb x=bootBuiltins x
 nolimit:base.NoLimit
structure Cx where
 prog:Program
 w:World
 K:Fg
 mg:Mv
 base:Heap
 A:Around
 N:Ls
 s₀:Shared
 H₀:Hp
 env:Env
 outer:List Env
 stack:List Env
 ex:List Addr
 fn:Str->Bool
 calm:Bool
 pn:Po
 xe:VP
variable {X:Cx}
def cN(l:List Env):List Addr:=l.filterMap (·.frame)
abbrev Cx.fs (X:Cx):List Addr:=cN X.outer
def Ag(sc:Scope)(x:Str):Prop:=sc.names.lookup x=some .local\/sc.names.lookup x=some .cell\/sc.names.lookup x=some .free
def Loc(sc:Scope)(x:Str):Prop:=sc.names.lookup x=some .local\/sc.names.lookup x=some .cell
def AQ:0<=sizeLine:=by decide
def AU:1<=sizeLine:=by decide
def Ah:2<=sizeLine:=by decide
def Al:3<=sizeLine:=by decide
def Look(env:Env)(h:Heap)(m:Mv)(x:Str)(u:Value):Prop:=
 (env.kindOf x=some .local/\m x=some u)\/((env.kindOf x=some .cell\/env.kindOf x=some .free)/\∃c,env.cells.lookup x=some c/\h.IsCell c (some u))
structure Cx.Ok(X:Cx):Prop where
 mod:Mod X.K X.mg X.base
 kind:X.env.scope.kind=.function
 glob:X.env.globals=mainGlobals
 blt:X.env.builtins=builtinsNs
 above:X.s₀.heap.objs.size<=X.env.locals
 inj:∀x y c,X.env.cells.lookup x=some c->X.env.cells.lookup y=some c->x=y
 has:∀x,(X.env.kindOf x=some .cell\/X.env.kindOf x=some .free)->∃c,X.env.cells.lookup x=some c
 cab:∀x c,X.fn x=true->X.env.cells.lookup x=some c->X.s₀.heap.objs.size<=c
 hd:X.calm=true->X.A.handled=none
 frames:X.A.frames=some X.stack
 stk:X.stack=X.outer\/(X.stack=X.env::X.outer/\X.env.frame=some X.env.locals)
 exf:∀b∈X.ex,b≠X.env.locals/\∀x c,X.env.cells.lookup x=some c->c≠b
 bs:∀b o,X.base.get? b=some o->X.s₀.heap.get? b=some o/\X.H₀ b=none
 bsz:X.base.objs.size<=X.s₀.heap.objs.size
 noex:∀b o,X.base.get? b=some o->b∉X.ex
 exfs:∀b∈X.ex,b∉X.fs
 funs:X.s₀.heap.FunFrames X.base X.outer
 frf:∀b∈X.fs,X.H₀ b=none
structure Inv(X:Cx)(ad:Po)(Z:List (Option V))(H:Hp)(s:Shared):Prop where
 ok:X.Ok
 os:s.os=X.s₀.os
 bare:AllBare s.gens
 base:Un X.fs X.ex X.H₀ H X.s₀.heap s.heap
 loc:∃m,s.heap.Ns X.env.locals m/\∀(i:Nat) (x:Str) (v:V),X.N[i]?=some x->Z[i]?=some (some v)->Ag X.env.scope x->∃u,RelV v u/\Look X.env s.heap m x u
 cell:∀x c,X.env.cells.lookup x=some c->∃v,s.heap.IsCell c v
 free:H X.env.locals=none
 freeC:∀x c,X.env.cells.lookup x=some c->H c=none
 pin:∀p∈X.pn++ad,s.heap.get? p.1=some p.2/\H p.1=none/\p.1≠X.env.locals/\p.1∉X.fs/\∀v,p.2.data≠.cell v
 hok:cC X.prog X.w H s.heap
 len:Z.length=X.N.length
section
variable {Z:List (Option V)} {H H':Hp}
theorem Cx.Ok.nofr(ok:X.Ok){b:Addr}{o:Obj}(e:X.base.get? b=some o):b∉X.fs:=λj=>by
 have:=(ok.funs.mem j).1;rw[e]at this;cases this
theorem Inv.bs(I:Inv X ad Z H s):∀b o,X.base.get? b=some o->s.heap.get? b=some o/\H b=none:=λb o e=>
 ⟨I.base.keep b o (I.ok.bs b o e).1 (I.ok.bs b o e).2 (I.ok.nofr e) (I.ok.noex b o e),I.base.free b o (I.ok.bs b o e).1 (I.ok.bs b o e).2 (I.ok.noex b o e)⟩
theorem Inv.bk(I:Inv X ad Z H s):∀b o,X.base.get? b=some o->s.heap.get? b=some o:=λb o e=>(I.bs b o e).1
theorem Inv.mod(I:Inv X ad Z H s):Mod X.K X.mg X.base:=I.ok.mod
theorem Inv.kIn(I:Inv X ad Z H s):X.K.In s.heap:=I.ok.mod.kin.keeps I.bk
theorem Inv.lt(I:Inv X ad Z H s):X.env.locals<s.heap.objs.size:=I.loc.elim λ_ j=>j.elim λz _=>z.lt
theorem Inv.sz(I:Inv X ad Z H s):X.s₀.heap.objs.size<=s.heap.objs.size:=cn I.ok.above (rY I.lt)
theorem Inv.nofs(I:Inv X ad Z H s)(h:s.heap.objs.size<=a):a∉X.fs:=λj=>by
 obtain⟨_,o,z,_⟩:=I.ok.funs.mem j;exact absurd (gL (bK z) (cn I.sz h)) (oU _)
theorem Inv.cne(I:Inv X ad Z H s):∀x c,X.env.cells.lookup x=some c->c≠X.env.locals:=λx c e z=>by
 obtain⟨v,o,j,hd⟩:=I.cell x c e;obtain⟨m,⟨o',es,ep,G,J,_⟩,_⟩:=I.loc;rw[z,G]at j;cases j;rw[J]at hd;cases hd
theorem Inv.funs(I:Inv X ad Z H s):s.heap.FunFrames X.base X.outer:=by
 have all:∀(l:List Env),(∀b∈cN l,b∈X.fs)->X.s₀.heap.FunFrames X.base l->s.heap.FunFrames X.base l:=by
  intro l
  induction l with
  | nil=>intro _ _;trivial
  | cons env r ih=>
   intro hs U;obtain⟨O,⟨L,o,J,Y,ho,hd⟩,hr⟩:=U;have j:L∈X.fs:=hs L (by unfold cN;rw[Db,J];exact bH);obtain⟨sl,e⟩:=I.base.slot L o ho (I.ok.frf L j) j λz=>I.ok.exfs L z j;exact⟨O,⟨L,_,J,Y,e,hd⟩,ih (λb G=>hs b (by unfold cN;rw[Db,J];exact bR _ G)) hr⟩
 exact all X.outer (λ_ G=>G) I.ok.funs
theorem Inv.stack(I:Inv X ad Z H s):s.heap.FunFrames X.base X.stack:=by
 rcases I.ok.stk with e | ⟨e,j⟩
 . rw[e];exact I.funs
 rw[e];obtain⟨m,z,_⟩:=I.loc;refine .cons (by rw[I.ok.kind];decide) j z ?_ I.funs;exact Heap.get?_none_of_le (cn I.ok.bsz I.ok.above)
theorem Inv.stkSub(I:Inv X ad Z H s):∀b∈cN X.stack,b∈X.env.locals::X.fs:=λb j=>by
 rcases I.ok.stk with e | ⟨e,z⟩
 . rw[e]at j;exact bR _ j
 rw[e]at j;unfold cN at j;rw[Db,z]at j;exact j
theorem Inv.stkFree(I:Inv X ad Z H s):∀b∈cN X.stack,H b=none:=λb hb=>by
 rcases bf.mp (I.stkSub b hb) with e | hb
 . rw[e];exact I.free
 obtain⟨_,o,j,_⟩:=I.ok.funs.mem hb;exact I.base.free b o j (I.ok.frf b hb) λz=>I.ok.exfs b z hb
theorem Inv.step{g':Array GenState}{d':Drawn}(I:Inv X ad Z H s)
 (O:∀b∈ch,(b∈X.ex\/X.s₀.heap.objs.size<=b)/\b≠X.env.locals/\(∀x c,X.env.cells.lookup x=some c->c≠b)/\∀p∈X.pn++ad,p.1≠b)
 (keep:∀b o,b≠X.env.locals->b∉X.fs->b∉ch->s.heap.get? b=some o->H b=none->h'.get? b=some o)
 (slot:∀b o,b≠X.env.locals->b∈X.fs->b∉ch->s.heap.get? b=some o->H b=none->∃sl,h'.get? b=some { o with slots:=sl }) (free:∀b o,b∉ch->s.heap.get? b=some o->H b=none->H' b=none)
 (there:∀b o,b∉ch->s.heap.get? b=some o->∃o',h'.get? b=some o')
 (tups:∀b xs,H b=some (.tup xs)->H' b=some (.tup xs)) (frzs:∀b o u,H b=some (.frz o u)->H' b=some (.frz o u)) (tbls:∀b ps,H b=some (.tbl ps)->∃a1,H' b=some (.tbl (ps++a1)))
 (ns:∀m,s.heap.Ns X.env.locals m->h'.Ns X.env.locals m) (hok:cC X.prog X.w H' h') (hg:AllBare g') :
 Inv X ad Z H' { s with heap:=h',gens:=g',drawn:=d',toks:=t' }:=by
 have Y:∀b o,X.s₀.heap.get? b=some o->b≠X.env.locals:=λb o e=>cX (gL (bK e) I.ok.above);have U:∀b o,X.s₀.heap.get? b=some o->b∉X.ex->b∉ch:=λb o e j G=>by
  rcases(O b G).1 with z | z
  . exact j z
  exact absurd (gL (bK e) z) (oU _)
 have a0:∀x c,X.env.cells.lookup x=some c->∀v,s.heap.IsCell c v->h'.IsCell c v:=λx c e v WH=>WH.elim λo WI=>WI.elim λJ hd=>by
  have nch:c∉ch:=λz=>(O c z).2.2.1 x c e rfl
  by_cases hc:c∈X.fs
  . obtain⟨sl,q⟩:=slot c o (I.cne x c e) hc nch J (I.freeC x c e);exact⟨_,q,hd⟩
  exact⟨o,keep c o (I.cne x c e) hc nch J (I.freeC x c e),hd⟩
 refine⟨I.ok,I.os,hg,⟨λb o e n G j=>?_,λb o e n G j=>?_,λb o e n j=>?_,λb o e j=>?_,λb xs e=>tups b xs (I.base.tups b xs e),λb o xs e=>frzs b o xs (I.base.frzs b o xs e),λb ps e=>?_⟩,?_,λx c e=>?_,?_,λx c e=>?_,λp hp=>?_,hok,I.len⟩
 . exact keep b o (Y b o e) G (U b o e j) (I.base.keep b o e n G j) (I.base.free b o e n j)
 . obtain⟨sl,e1⟩:=I.base.slot b o e n G j;obtain⟨sM,e2⟩:=slot b _ (Y b o e) G (U b o e j) e1 (I.base.free b o e n j);exact⟨sM,e2⟩
 . obtain⟨o',e1⟩:=I.base.there b o e j;exact free b o' (U b o e j) e1 (I.base.free b o e n j)
 . obtain⟨o',e1⟩:=I.base.there b o e j;exact there b o' (U b o e j) e1
 . obtain⟨m1,e1⟩:=I.base.tbls b ps e;obtain⟨m2,e2⟩:=tbls b _ e1;exact⟨m1++m2,by rw[e2,Array.append_assoc]⟩
 . obtain⟨m,hn,hl⟩:=I.loc;refine⟨m,ns m hn,λi x v e1 e2 e3=>?_⟩;obtain⟨u,r,l⟩:=hl i x v e1 e2 e3;refine⟨u,r,?_⟩
   rcases l with l | ⟨k,c,e,z⟩
   . exact .inl l
   exact .inr ⟨k,c,e,a0 x c e _ z⟩
 . obtain⟨v,z⟩:=I.cell x c e;exact⟨v,a0 x c e v z⟩
 . obtain⟨m,⟨o,_,_,J,_⟩,_⟩:=I.loc;exact free _ o (λz=>(O _ z).2.1 rfl) J I.free
 . obtain⟨v,o,J,hd⟩:=I.cell x c e;exact free c o (λz=>(O c z).2.2.1 x c e rfl) J (I.freeC x c e)
 obtain⟨e,n,ne,nf,d⟩:=I.pin p hp;have nch:p.1∉ch:=λz=>(O p.1 z).2.2.2 p hp rfl;exact⟨keep p.1 p.2 ne nf nch e n,free p.1 p.2 nch e n,ne,nf,d⟩
theorem Inv.un(I:Inv X ad Z H s)(u:Un X.fs [] H H' s.heap h')(hok:cC X.prog X.w H' h'):Inv X ad Z H' { s with heap:=h',toks:=t' }:=by
 obtain⟨m,⟨o,es,ep,G,r⟩,_⟩:=id I.loc;obtain⟨sl,O⟩:=u.any G I.free (by simp);exact I.step (g':=s.gens) (d':=s.drawn) (ch:=[]) (λ_ z=>nomatch z) (λb o _ j _ e n=>u.keep b o e n j (by simp)) (λb o _ j _ e n=>u.slot b o e n j (by simp)) (λb o _ e n=>u.free b o e n (by simp)) (λb o _ e=>u.there b o e (by simp)) u.tups u.frzs u.tbls (λm' U=>by
  obtain⟨o',es',Y,J,r'⟩:=U;rw[G]at J;cases J;exact⟨_,es',Y,O,r'⟩) hok I.bare
theorem Inv.call{g':Array GenState}{d':Drawn}(I:Inv X ad Z H s)(u:Un (cN X.stack) ch H H' s.heap h')(hok:cC X.prog X.w H' h')(hg:AllBare g')
 (U:∀b∈ch,(b∈X.ex\/X.s₀.heap.objs.size<=b)/\b≠X.env.locals/\(∀x c,X.env.cells.lookup x=some c->c≠b)/\∀p∈X.pn++ad,p.1≠b) :
 Inv X ad Z H' { s with heap:=h',gens:=g',drawn:=d',toks:=t' }:=by
 obtain⟨m,⟨o,es,ep,J,r⟩,_⟩:=id I.loc;obtain⟨sl,G⟩:=u.any J I.free λz=>(U _ z).2.1 rfl;exact I.step (ch:=ch) U (λb o G Y j e n=>u.keep b o e n (λz=>(bf.mp (I.stkSub b z)).elim G Y) j) (λb o _ _ j e n=>u.any e n j) (λb o j e n=>u.free b o e n j) (λb o j e=>u.there b o e j) u.tups u.frzs u.tbls (λm' hm=>by
  obtain⟨o',es',qF,O,r'⟩:=hm;rw[J]at O;cases O;exact⟨_,es',qF,G,r'⟩) hok hg
theorem Inv.turned{it:Addr}(I:Inv X ad Z H s)(k:∀b o,b≠it->s.heap.get? b=some o->h'.get? b=some o)(hn:H it=none)(G:it≠X.env.locals)
 (h1:it∈X.ex\/X.s₀.heap.objs.size<=it) (h2:∀x c,X.env.cells.lookup x=some c->c≠it) (O:∀p∈X.pn++ad,p.1≠it):Inv X ad Z H { s with heap:=h',toks:=t' }:=by
 have J:∀b u,H b=some u->b≠it:=λb u e z=>by rw[z,hn]at e;cases e
 refine I.step (g':=s.gens) (d':=s.drawn) (ch:=[it]) (λb U=>?_) (λb o _ _ j e _=>k b o (λz=>j (by simp[z])) e) (λb o _ _ j e _=>⟨o.slots,k b o (λz=>j (by simp[z])) e⟩) (λ_ _ _ _ n=>n)
  (λb o j e=>⟨o,k b o (λz=>j (by simp[z])) e⟩) (λ_ _ e=>e) (λ_ _ _ e=>e) (λb ps e=>⟨#[],by rw[e];simp⟩) (λm Y=>?_) (λb u e=>?_) I.bare
 . have e:b=it:=by simpa using U
   subst e;exact⟨h1,G,h2,O⟩
 . obtain⟨o,es,ep,ho,r⟩:=Y;exact⟨o,es,ep,k _ o (gy G) ho,r⟩
 refine(I.hok b u e).stay (λc v j q=>k c v ?_ q) (λ_ q=>q) λ_ _ q=>q
 rcases j with z | z
 . rw[z];exact J b u e
 exact J c _ z
theorem Inv.tok(I:Inv X ad Z H s)(t:Nat):Inv X ad Z H { s with toks:=t }:=I.un (h':=s.heap) (t':=t) Un.refl I.hok
theorem Inv.kept(I:Inv X ad Z H s)(k:∀b u,s.heap.get? b=some u->h'.get? b=some u):Inv X ad Z H { s with heap:=h',toks:=t' }:=I.un (Un.kept k) (I.hok.kept k)
theorem Inv.laid{o:HO}(I:Inv X ad Z H s)(k:∀b u,s.heap.get? b=some u->h'.get? b=some u)(j:s.heap.objs.size<=a)(new:cb X.prog X.w (ag H a o) h' a o) :
 Inv X ad Z (ag H a o) { s with heap:=h',toks:=t' }:=I.un (Un.laid k j (I.hok.fresh j)) (I.hok.laid k j new)
theorem Inv.write{x e:Addr}{o:HO}(I:Inv X ad Z H s)(z:wZ (H x))(j:e=x\/H e=some (.own x))(k:∀b u,b≠e->s.heap.get? b=some u->h'.get? b=some u)(G:∃u,h'.get? e=some u)
 (new:cb X.prog X.w (ag H x o) h' x o):Inv X ad Z (ag H x o) { s with heap:=h',toks:=t' }:=I.un (Un.write z j k G) (I.hok.write z j k G new)
theorem Inv.pins_of{j:Po}(I:Inv X ad Z H s)(h:∀p∈j,s.heap.get? p.1=some p.2/\H p.1=none/\p.1≠X.env.locals/\p.1∉X.fs/\∀v,p.2.data≠.cell v):Inv X j Z H s:=
 ⟨I.ok,I.os,I.bare,I.base,I.loc,I.cell,I.free,I.freeC,λp G=>(bY.mp G).elim (λz=>I.pin p (wG _ z)) (h p),I.hok,I.len⟩
theorem JR(z:N.Nodup){i j:Nat}{x:Str}(a:N[i]?=some x)(b:N[j]?=some x):i=j:=by
 obtain⟨h1,e1⟩:=cM.mp a;obtain⟨h2,e2⟩:=cM.mp b;exact(List.getElem_inj z).mp (e1.trans e2.symm)
theorem JS{i:Nat}{x:Str}{v:V}{Q:Unit->Shared->Prop}(I:Inv X ad Z H s)(hN:X.N.Nodup)(hi:X.N[i]?=some x)(G:Loc X.env.scope x)(r:RelV v u)
 (h:∀s',Inv X ad (Z.set i (some v)) H s'->(∃a,Heap.SameBut a s.heap s'.heap/\(a=X.env.locals\/X.env.cells.lookup x=some a))->Q () s') (hf:X.fn x=true\/X.env.scope.names.lookup x=some .local:=by first | exact .inl rfl | exact .inr rfl | assumption):wpAny M A (storeName X.env x u) Q E s:=by
 obtain⟨m,Y,hl⟩:=id I.loc;have WJ:(X.env.scope.kind == .class || (X.env.scope.kind == .module && X.env.locals != X.env.globals))=false:=by rw[I.ok.kind];rfl
 have JT:i<Z.length:=by rw[I.len];exact(cM.mp hi).1
 have cne:=I.cne;have a0:∀{a:Addr}{h':Heap},(∃o,s.heap.get? a=some o/\H a=none)->Heap.SameBut a s.heap h'->cC X.prog X.w H h':=λ{a h'} ha hs b ob e=>by
  obtain⟨_,_,JU⟩:=ha;refine(I.hok b ob e).stay (λc U hc q=>(hs.2 c ?_).trans q) (λ_ q=>q) λ_ _ q=>q;rintro rfl
  rcases hc with rfl | hc
  . rw[JU]at e;cases e
  rw[JU]at hc;cases hc
 rcases G with hk | hk
 . refine wpAny_storeName_local hk Y (λh' jX hs=>?_) WJ;obtain⟨oL,_,_,o5,_⟩:=id Y;refine h _ ⟨I.ok,I.os,I.bare,⟨λb o e n J G=>?_,λb o e n J G=>?_,I.base.free,λb o e G=>?_,I.base.tups,I.base.frzs,I.base.tbls⟩,⟨_,jX,λj y v' e1 e2 e3=>?_⟩,λy c e=>?_,I.free,I.freeC,λp hp=>?_,a0 ⟨oL,o5,I.free⟩ hs,by simpa using I.len⟩ ⟨_,hs,.inl rfl⟩
   . exact(hs.2 b (cX (gL (bK e) I.ok.above))).trans (I.base.keep b o e n J G)
   . obtain⟨sl,e1⟩:=I.base.slot b o e n J G;exact⟨sl,(hs.2 b (cX (gL (bK e) I.ok.above))).trans e1⟩
   . obtain⟨o',e1⟩:=I.base.there b o e G;exact⟨o',(hs.2 b (cX (gL (bK e) I.ok.above))).trans e1⟩
   . by_cases O:j=i
     . subst O;rw[hi]at e1;cases e1;rw[aqi JT]at e2;cases e2;exact⟨u,r,.inl ⟨hk,by simp⟩⟩
     rw[List.getElem?_set_ne (gy O)]at e2;obtain⟨u',r',q⟩:=hl j y v' e1 e2 e3;refine⟨u',r',?_⟩
     rcases q with⟨k,e⟩ | ⟨k,c,e,z⟩
     . refine .inl ⟨k,?_⟩;have:y≠x:=λe=>O (JR hN e1 (e▸hi));simp[this,e]
     exact .inr ⟨k,c,e,z.sameBut hs (cne y c e)⟩
   . obtain⟨U,z⟩:=I.cell y c e;exact⟨U,z.sameBut hs (cne y c e)⟩
   obtain⟨e,n,ne,nf,d⟩:=I.pin p hp;exact⟨(hs.2 p.1 ne).trans e,n,ne,nf,d⟩
 have uV:X.fn x=true:=by
  rcases hf with z | z
  . exact z
  rw[z]at hk;cases hk
 obtain⟨c,hc⟩:=I.ok.has x (.inl hk);obtain⟨U,z⟩:=I.cell x c hc;refine wpAny_storeName_cell I.ok.kind hk hc z (λh' g9 hs=>?_);obtain⟨oc,o9,WK⟩:=id z;refine h { s with heap:=h' } ⟨I.ok,I.os,I.bare,⟨λb o e n J G=>?_,λb o e n J G=>?_,I.base.free,λb o e G=>?_,I.base.tups,I.base.frzs,I.base.tbls⟩,⟨m,Y.sameBut hs (gy (cne x c hc)),λj y v' e1 e2 e3=>?_⟩,λy c' e=>?_,I.free,I.freeC,λp hp=>?_,a0 ⟨oc,o9,I.freeC x c hc⟩ hs,by simpa using I.len⟩ ⟨c,hs,.inr hc⟩
 . exact(hs.2 b (cX (gL (bK e) (I.ok.cab x c uV hc)))).trans (I.base.keep b o e n J G)
 . obtain⟨sl,e1⟩:=I.base.slot b o e n J G;exact⟨sl,(hs.2 b (cX (gL (bK e) (I.ok.cab x c uV hc)))).trans e1⟩
 . obtain⟨o',e1⟩:=I.base.there b o e G;exact⟨o',(hs.2 b (cX (gL (bK e) (I.ok.cab x c uV hc)))).trans e1⟩
 . by_cases O:j=i
   . subst O;rw[hi]at e1;cases e1;rw[aqi JT]at e2;cases e2;exact⟨u,r,.inr ⟨.inl hk,c,hc,g9⟩⟩
   rw[List.getElem?_set_ne (gy O)]at e2;obtain⟨u',r',q⟩:=hl j y v' e1 e2 e3;refine⟨u',r',?_⟩
   rcases q with q | ⟨k,c',e,z'⟩
   . exact .inl q
   refine .inr ⟨k,c',e,z'.sameBut hs ?_⟩;rintro rfl;exact O (JR hN e1 (I.ok.inj _ _ _ e hc▸hi))
 . by_cases JV:c'=c
   . subst JV;exact⟨_,g9⟩
   obtain⟨w2,z2⟩:=I.cell y c' e;exact⟨w2,z2.sameBut hs JV⟩
 obtain⟨e,n,ne,nf,d⟩:=I.pin p hp;refine⟨(hs.2 p.1 ?_).trans e,n,ne,nf,d⟩;intro q;rw[q,o9]at e;have q':oc=p.2:=gw e;exact d U (by rw[<-q'];exact WK)
theorem JW{i:Nat}{x:Str}{v:V}{Q:Unit->Shared->Prop}(I:Inv X ad Z H s)(z:X.N.Nodup)(hi:X.N[i]?=some x)(J:Loc X.env.scope x)(r:RelV v u)
 (h:∀s',Inv X ad (Z.set i (some v)) H s'->Q () s') (G:X.fn x=true\/X.env.scope.names.lookup x=some .local:=by first | exact .inl rfl | exact .inr rfl | assumption):wpAny M A (storeName X.env x u) Q E s:=
 JS I z hi J r (λs' j _=>h s' j) G
theorem Inv.call'(I:Inv X ad Z H s)(z:s'.os=s.os)(u:Un (cN X.stack) ch H H' s.heap s'.heap)(hok:cC X.prog X.w H' s'.heap)(j:AllBare s'.gens)
 (G:∀b∈ch,(b∈X.ex\/X.s₀.heap.objs.size<=b)/\b≠X.env.locals/\(∀x c,X.env.cells.lookup x=some c->c≠b)/\∀p∈X.pn++ad,p.1≠b):Inv X ad Z H' s':=by
 obtain⟨h',g',d',t',o'⟩:=s';have e:o'=s.os:=z;subst e;exact I.call (g':=g') (t':=t') (d':=d') u hok j G
end
abbrev XK:=Value->Oa->Hp->Prop
abbrev St:=List (Option V)
variable {Z:St}
abbrev VK:=V->Hp->Prop
abbrev TE:=St->Hp->VK->Prop
abbrev TT:=St->Hp->(Bool->Hp->Prop)->Prop
abbrev TA:=St->Hp->(ae->Hp->Prop)->Prop
structure Ends where
 nx:St->Hp->Prop
 rt:VK
 bk:St->Hp->Prop:=λ_ _=>False
 ct:St->Hp->Prop:=λ_ _=>False
variable {D:Ends}
abbrev TS:=Ends->St->Hp->Prop
variable {tb:TS}
def EP(X:Cx)(ad:Po)(Z:St)(Q:VK)(u:Value)(s':Shared):Prop:=∃v H',Inv X ad Z H' s'/\RelV v u/\Q v H'
def TP(X:Cx)(ad:Po)(Z:St)(Q:Bool->Hp->Prop)(b:Bool)(s':Shared):Prop:=∃H',Inv X ad Z H' s'/\Q b H'
def AP(X:Cx)(ad:Po)(Z:St)(Q:ae->Hp->Prop)(us:Lw)(s':Shared):Prop:=∃vs H',Inv X ad Z H' s'/\bc vs us/\Q vs H'
def SP(X:Cx)(ad:Po)(D:Ends)(f:Flow)(s':Shared):Prop:=
 match f with
 | .next=>∃σ' H',Inv X ad σ' H' s'/\D.nx σ' H'
 | .brk=>∃σ' H',Inv X ad σ' H' s'/\D.bk σ' H'
 | .cont=>∃σ' H',Inv X ad σ' H' s'/\D.ct σ' H'
 | .ret u=>∃v σ' H',Inv X ad σ' H' s'/\RelV v u/\D.rt v H'
def PE(X:Cx)(e:Expr)(t:TE):Prop:=
 ∀(ad:Po) (s:Shared) (Z:St) (H:Hp) (Q:VK),Inv X ad Z H s->t Z H Q->wpAny (model X.prog X.w) X.A (eval e X.env) (EP X ad Z Q) X.xe s
def PT(X:Cx)(e:Expr)(t:TT):Prop:=
 ∀(ad:Po) (s:Shared) (Z:St) (H:Hp) (Q:Bool->Hp->Prop),Inv X ad Z H s->t Z H Q->wpAny (model X.prog X.w) X.A (isTrue e X.env (eval e X.env)) (TP X ad Z Q) X.xe s
def PW(X:Cx)(e:Expr)(t:TT):Prop:=
 ∀(j:Sem Value) (ad:Po) (s:Shared) (Z:St) (H:Hp) (Q:Bool->Hp->Prop),Inv X ad Z H s->t Z H Q->wpAny (model X.prog X.w) X.A (isTrue e X.env j) (TP X ad Z Q) X.xe s
theorem PW.pt{t:TT}(h:PW X e t):PT X e t:=h _
def PA(X:Cx)(es:List Expr)(t:TA):Prop:=
 ∀(pos:Pos) (ad:Po) (s:Shared) (Z:St) (H:Hp) (Q:ae->Hp->Prop),Inv X ad Z H s->t Z H Q->wpAny (model X.prog X.w) X.A (spliced (backTo pos (starEach es X.env))) (AP X ad Z Q) X.xe s
def PS(X:Cx)(st:Stmt)(t:TS):Prop:=
 ∀(ad:Po) (s:Shared) (Z:St) (H:Hp) (D:Ends),Inv X ad Z H s->t D Z H->wpAny (model X.prog X.w) X.A (exec st X.env) (SP X ad D) X.xe s
def bW(X:Cx)(st:List Stmt)(t:TS):Prop:=
 ∀(ad:Po) (s:Shared) (Z:St) (H:Hp) (D:Ends),Inv X ad Z H s->t D Z H->wpAny (model X.prog X.w) X.A (execs st X.env) (SP X ad D) X.xe s
theorem thn{t:Sem α}{Q j:α->Shared->Prop}(h:wpAny M A t Q E s)(z:∀a s,Q a s->j a s):wpAny M A t j E s:=eV h z λ_ _ x=>x
section
inductive xb (H:Hp) (Q:VK):Option (Option V)->Prop where
 | mk {v:V} (_:Q v H):xb H Q (some (some v))
theorem xb.ex{H:Hp}{Q:VK}{o:Option (Option V)}(z:xb H Q o):∃(v:V),o=some (some v)/\Q v H:=by
 cases z with
 | @mk v j=>exact⟨v,rfl,j⟩
def mj(i:Nat):TE:=λZ H Q=>xb H Q (Z[i]?)
def tC(v:V):TE:=λ_ H Q=>Q v H
theorem WL{i:Nat}{x:Str}{pos:Pos}(J:X.N[i]?=some x)(hv:Ag X.env.scope x)(hd:(x == ("__debug__":Str))=false:=by decide)(je:(x == ("__classdict__":Str))=false:=by decide):PE X (.Name x pos) (mj i):=by
 intro ad s Z H Q I h;obtain⟨v,e,h⟩:=xb.ex h;obtain⟨m,Y,O⟩:=I.loc;obtain⟨u,r,l⟩:=O i x v J e hv;have j:EP X ad Z Q u s:=⟨v,H,I,r,h⟩
 rcases l with⟨hk,U⟩ | ⟨hk,c,z,G⟩
 . exact wpAny_Name (wpAny_loadName_local I.ok.kind hk Y U j) hd
 rcases hk with hk | hk
 . exact wpAny_Name (wpAny_loadName_cell I.ok.kind hk z G j) hd
 exact wpAny_Name (wpAny_loadName_free I.ok.kind hk z G j je) hd
theorem ar{i j pos}:PE X (.Constant (.int i) j pos) (tC (.int i)):=λ_ _ _ H _ I h=>wpAny_Constant_int ⟨.int i,H,I.tok _,⟨_,rfl⟩,h⟩
theorem qG{b j pos}:PE X (.Constant (.bool b) j pos) (tC (.bl b)):=λ_ _ _ H _ I h=>Constant_bool ⟨.bl b,H,I,rfl,h⟩
theorem iP{j pos}:PE X (.Constant .none j pos) (tC .non):=λ_ _ _ H _ I h=>Constant_none ⟨.non,H,I,rfl,h⟩
theorem bT{x j pos}:PE X (.Constant (.str x) j pos) (tC (.str x)):=λ_ _ _ H _ I h=>Calls.Constant_str ⟨.str x,H,I.tok _,⟨_,rfl⟩,h⟩
def Gl(X:Cx)(x:Str):Prop:=X.env.kindOf x=some .globalImplicit
theorem uW{H:Hp}{x:Str}{pos:Pos}{Q:VP}(I:Inv X ad Z H s)(j:Gl X x)(z:X.mg x=some u)(h:Q u s)
 (hd:(x == ("__debug__":Str))=false:=by decide):wpAny (model X.prog X.w) X.A (eval (.Name x pos) X.env) Q E s:=
 aqj I.ok.kind j (Calls.loadGlobal_global (by rw[I.ok.glob];exact I.mod.glob.keeps I.bk) z h) hd
theorem sN{H:Hp}{x:Str}{pos:Pos}{Q:VP}(I:Inv X ad Z H s)(j:Gl X x)(z:X.mg x=none)(J:bootBuiltins x=some u)(h:Q u s)
 (G:x≠"__name__":=by decide) (hd:(x == ("__debug__":Str))=false:=by decide):wpAny (model X.prog X.w) X.A (eval (.Name x pos) X.env) Q E s:=by
 obtain⟨O,h1,h2⟩:=I.mod.blt;exact aqj I.ok.kind j (Calls.loadGlobal_builtin (by rw[I.ok.glob];exact I.mod.glob.keeps I.bk) z (by rw[I.ok.blt];exact h1.keeps I.bk) ((h2 x G).trans J) h) hd
theorem JX{x:Str}{v:V}{pos:Pos}(j:Gl X x)(z:X.mg x=some u)(r:RelV v u)(hd:(x == ("__debug__":Str))=false:=by decide):PE X (.Name x pos) (tC v):=
 λ_ _ _ H _ I h=>uW I j z ⟨v,H,I,r,h⟩ hd
theorem Ai{x:Str}{v:V}{pos:Pos}(j:Gl X x)(z:X.mg x=none)(J:bootBuiltins x=some u)(r:RelV v u)(G:x≠"__name__":=by decide)(hd:(x == ("__debug__":Str))=false:=by decide):PE X (.Name x pos) (tC v):=
 λ_ _ _ H _ I h=>sN I j z J ⟨v,H,I,r,h⟩ G hd
variable {a b:Expr}{ta tb:TE}{pos:Pos}
def PC(X:Cx)(op:CmpOp)(a b:Expr)(t:TE):Prop:=
 ∀(ad:Po) (s:Shared) (Z:St) (H:Hp) (Q:VK),Inv X ad Z H s->t Z H Q ->
  wpAny (model X.prog X.w) X.A (eval a X.env) (λv j=>wpAny (model X.prog X.w) X.A (eval b X.env) (λu z=>wpAny (model X.prog X.w) X.A (compareOp op v u) (EP X ad Z Q) X.xe z) X.xe j) X.xe s
inductive JY (Q:Bool->Hp->Prop) (H1:Hp):V->Prop where
 | mk {c:Bool} (_:Q c H1):JY Q H1 (.bl c)
def tB(t:TE):TT:=λZ H Q=>t Z H λx H1=>JY Q H1 x
theorem jy{op:CmpOp}{t:TE}(h:PC X op a b t)(h1:behindInMarks op b=false:=by first | exact nobehind _ (by decide) (by decide) | rfl):PT X (.Compare a [op] [b] pos) (tB t):=by
 intro ad s Z H Q I G;refine aqk (thn (h ad s Z H _ I G) λv U h1=>thn h1 λu Y h2=>thn h2 λc s3 z=>ba z λx H1 j O J=>?_) h1;obtain @⟨d,q⟩:=J;cases O;exact qo ⟨H1,j,q⟩
theorem jf{t:TE}(h:PE X e t)(J:∀j,isTrue e X.env j=(do let v <-j;standAt e.pos;holding [v] (truthy v)):=by intro _;rfl):PT X e (tB t):=by
 intro ad s Z H Q I O;refine isTrue_plain (thn (h ad s Z H _ I O) λv s1 G=>ba G λx H1 z Y U=>?_) (J _);obtain @⟨d,q⟩:=U;cases Y;exact qo ⟨H1,z,q⟩
variable {tA Aj:TT}{rest:List Expr}
def WO(t u:TT):TT:=λZ H Q=>t Z H λc H1=>if c=true then u Z H1 Q else Q false H1
def WP(t u:TT):TT:=λZ H Q=>t Z H λc H1=>if c=true then Q true H1 else u Z H1 Q
def WQ(t:TT):TT:=λZ H Q=>t Z H λc H1=>Q (!c) H1
theorem ph(j:PT X a tA):PW X (.BoolOp .And [a] pos) tA:=by
 intro G ad s Z H Q I h;refine isTrue_and (thn (j ad s Z H Q I h) λc z e=>?_);cases c with
 | true=>exact isTrue_and_nil e
 | false=>exact e
theorem sO(j:PT X a tA):PW X (.BoolOp .Or [a] pos) tA:=by
 intro G ad s Z H Q I h;refine isTrue_or (thn (j ad s Z H Q I h) λc z e=>?_);cases c with
 | false=>exact isTrue_or_nil e
 | true=>exact e
theorem mn(O:PT X a tA)(U:PW X (.BoolOp .And (b::rest) pos) Aj):PW X (.BoolOp .And (a::b::rest) pos) (WO tA Aj):=by
 intro wh ad s Z H Q I h;refine isTrue_and (thn (O ad s Z H _ I h) λc Y G=>G.elim λH1 J=>J.elim λj z=>?_);cases c with
 | true=>exact U wh ad Y Z H1 Q j z
 | false=>exact⟨H1,j,z⟩
theorem sP(O:PT X a tA)(U:PW X (.BoolOp .Or (b::rest) pos) Aj):PW X (.BoolOp .Or (a::b::rest) pos) (WP tA Aj):=by
 intro wh ad s Z H Q I h;refine isTrue_or (thn (O ad s Z H _ I h) λc Y G=>G.elim λH1 J=>J.elim λj z=>?_);cases c with
 | true=>exact⟨H1,j,z⟩
 | false=>exact U wh ad Y Z H1 Q j z
theorem qH(j:PT X a tA):PT X (.UnaryOp .Not a pos) (WQ tA):=by
 intro ad s Z H Q I h;exact isTrue_not (j ad s Z H (λc H1=>Q (!c) H1) I h)
inductive JZ (tb:TE) (Z:St) (Q:VK) (H1:Hp):V->Prop where
 | mk {c:Bool} (_:if c=true then tb Z H1 Q else Q (.bl false) H1):JZ tb Z Q H1 (.bl c)
def WV(ta tb:TE):TE:=λZ H Q=>ta Z H λx H1=>JZ tb Z Q H1 x
inductive J2 (tb:TE) (Z:St) (Q:VK) (H1:Hp):V->Prop where
 | mk {c:Bool} (_:if c=true then Q (.bl true) H1 else tb Z H1 Q):J2 tb Z Q H1 (.bl c)
def WW(ta tb:TE):TE:=λZ H Q=>ta Z H λx H1=>J2 tb Z Q H1 x
inductive J3 (Q:VK) (H1:Hp):V->Prop where
 | mk {c:Bool} (_:Q (.bl (!c)) H1):J3 Q H1 (.bl c)
def WX(ta:TE):TE:=λZ H Q=>ta Z H λx H1=>J3 Q H1 x
theorem sU{op}{t:TE}(h:PE X a t):PE X (.BoolOp op [a] pos) t:=λad s Z H Q I j=>BoolOp_one (h ad s Z H Q I j)
theorem sV(J:PE X a ta)(O:PE X (.BoolOp .And (b::rest) pos) tb):PE X (.BoolOp .And (a::b::rest) pos) (WV ta tb):=by
 intro ad s Z H Q I h;refine BoolOp_and (thn (J ad s Z H _ I h) λv Y G=>ba G λx H1 z U j=>?_);obtain @⟨c,j⟩:=j;cases U;refine qo ?_;cases c with
 | true=>exact O ad Y Z H1 Q z j
 | false=>exact⟨.bl false,H1,z,rfl,j⟩
theorem J4(J:PE X a ta)(O:PE X (.BoolOp .Or (b::rest) pos) tb):PE X (.BoolOp .Or (a::b::rest) pos) (WW ta tb):=by
 intro ad s Z H Q I h;refine BoolOp_or (thn (J ad s Z H _ I h) λv Y G=>ba G λx H1 z U j=>?_);obtain @⟨c,j⟩:=j;cases U;refine qo ?_;cases c with
 | false=>exact O ad Y Z H1 Q z j
 | true=>exact⟨.bl true,H1,z,rfl,j⟩
theorem W0(J:PE X a ta):PE X (.UnaryOp .Not a pos) (WX ta):=by
 intro ad s Z H Q I h;refine UnaryOp_ (thn (J ad s Z H _ I h) λv U G=>ba G λx H1 z O j=>?_);obtain @⟨c,j⟩:=j;cases O;exact not_of (qo ⟨.bl (!c),H1,z,rfl,j⟩)
def W7(t:TT)(ta tb:TE):TE:=λZ H Q=>t Z H λc H1=>if c=true then ta Z H1 Q else tb Z H1 Q
theorem Ka(hc:PT X c tA)(U:PE X a ta)(Y:PE X b tb):PE X (.IfExp c a b pos) (W7 tA ta tb):=by
 intro ad s Z H Q I h;refine wpAny_IfExp (thn (hc ad s Z H _ I h) λd G J=>J.elim λH1 O=>O.elim λj z=>?_);cases d with
 | true=>exact U ad G Z H1 Q j z
 | false=>exact Y ad G Z H1 Q j z
end
def aa(K:Fg)(H:Hp)(a:Addr)(xs:ae):Prop:=
 Rd H a (.lst xs) \/
  ∃(o:Obj) (b_:Av) (n:Nat),K.lookup a=some o/\o.cls=.type "list"/\o.dict=none/\o.data=.seq b_ n/\b_.size<=sizeLine/\bc xs b_.toList
def bh(K:Fg)(H:Hp)(a:Addr)(xs:ae):Prop:=
 Rd H a (.tup xs) \/
  ∃(o:Obj) (b_:Av) (n:Nat),K.lookup a=some o/\o.cls=.type "tuple"/\o.data=.seq b_ n/\b_.size<=sizeLine/\bc xs b_.toList
def Xb:Value->Option V
 | .none=>some .non
 | .bool b=>some (.bl b)
 | .int i _=>some (.int i)
 | .str x _=>some (.str x)
 | .bytes b _=>some (.byt b)
 | .float b _=>some (.flt b)
 | .ref a=>some (.ref a)
 | .type n=>some (.ty n)
 | _=>none
theorem RelV.abs{x:V}(r:RelV x u):Xb u=some x:=by
 cases x with
 | non=>cases r;rfl
 | bl _=>cases r;rfl
 | int _=>obtain⟨t,rfl⟩:=r;rfl
 | str _=>obtain⟨t,rfl⟩:=r;rfl
 | byt _=>obtain⟨t,rfl⟩:=r;rfl
 | flt _=>obtain⟨t,rfl⟩:=r;rfl
 | ref _=>cases r;rfl
 | ty _=>cases r;rfl
theorem RelV.inj{x y:V}(r:RelV x u)(q:RelV y u):x=y:=gw (r.abs.symm.trans q.abs)
theorem bc.inj:∀{xs ys:ae}{us:Lw},bc xs us->bc ys us->xs=ys
 | _,_,_,.nil,.nil=>rfl
 | _,_,_,.cons r t,.cons r' t'=>by rw[r.inj r',bc.inj t t']
section
variable {H:Hp}{xs ys:ae}
theorem aa.of(h:H a=some (.lst xs)):aa K H a xs:=.inl (.inl h)
theorem bh.of(h:H a=some (.tup xs)):bh K H a xs:=.inl (.inl h)
theorem Inv.list(I:Inv X ad Z H s)(h:aa X.K H a xs):∃b_:Lw,bc xs b_/\PlainL s.heap a b_.toArray/\xs.length<=sizeLine:=by
 rcases h with h | ⟨o,b_,n,G,j,hd,hs,hz,r⟩
 . obtain⟨z,b_,n,r,e⟩:=h.ok I.hok;exact⟨b_,r,⟨_,n,e,rfl,rfl,rfl⟩,z⟩
 refine⟨b_.toList,r,⟨o,n,I.kIn a o G,j,hd,by simpa using hs⟩,?_⟩;have e:=r.length;simp only[dW]at e;omega
theorem Inv.tuple(I:Inv X ad Z H s)(h:bh X.K H a xs):∃b_:Lw,bc xs b_/\IsTup s.heap a b_.toArray/\xs.length<=sizeLine:=by
 rcases h with h | ⟨o,b_,n,G,j,hs,hz,r⟩
 . obtain⟨z,b_,r,p⟩:=h.ok I.hok;exact⟨b_,r,p,z⟩
 refine⟨b_.toList,r,⟨o,I.kIn a o G,j,n,by simpa using hs⟩,?_⟩;have e:=r.length;simp only[dW]at e;omega
theorem Inv.list_inj(I:Inv X ad Z H s)(h:aa X.K H a xs)(h':aa X.K H a ys):xs=ys:=by
 obtain⟨b_,r,⟨o,n,e,_,_,d⟩,_⟩:=I.list h;obtain⟨its',z,⟨o',G,j,_,_,d'⟩,_⟩:=I.list h';rw[e]at j;cases j;rw[d]at d';injection d' with d1 _
 have:b_=its':=by simpa using fo Array.toList d1
 subst this;exact r.inj z
theorem Inv.tuple_inj(I:Inv X ad Z H s)(h:bh X.K H a xs)(h':bh X.K H a ys):xs=ys:=by
 obtain⟨b_,r,⟨o,e,_,n,d⟩,_⟩:=I.tuple h;obtain⟨its',z,⟨o',j,_,G,d'⟩,_⟩:=I.tuple h';rw[e]at j;cases j;rw[d]at d';injection d' with d1 _
 have:b_=its':=by simpa using fo Array.toList d1
 subst this;exact r.inj z
end
abbrev Cx.wish (X:Cx) (E:VP):Cx:={ X with xe:=E }
abbrev Cx.nox (X:Cx):Cx:=X.wish λ_ _=>False
theorem Cx.Ok.wish(ok:X.Ok)(E:VP):(X.wish E).Ok:=
 ⟨ok.mod,ok.kind,ok.glob,ok.blt,ok.above,ok.inj,ok.has,ok.cab,ok.hd,ok.frames,ok.stk,ok.exf,ok.bs,ok.bsz,ok.noex,ok.exfs,ok.funs,ok.frf⟩
theorem Cx.Ok.unwish(ok:(X.wish E).Ok):X.Ok:=
 ⟨ok.mod,ok.kind,ok.glob,ok.blt,ok.above,ok.inj,ok.has,ok.cab,ok.hd,ok.frames,ok.stk,ok.exf,ok.bs,ok.bsz,ok.noex,ok.exfs,ok.funs,ok.frf⟩
section
variable {H:Hp}
theorem Inv.wish(I:Inv X ad Z H s)(E:VP):Inv (X.wish E) ad Z H s:=⟨I.ok.wish E,I.os,I.bare,I.base,I.loc,I.cell,I.free,I.freeC,I.pin,I.hok,I.len⟩
theorem Inv.unwish(I:Inv (X.wish E) ad Z H s):Inv X ad Z H s:=⟨I.ok.unwish,I.os,I.bare,I.base,I.loc,I.cell,I.free,I.freeC,I.pin,I.hok,I.len⟩
theorem SP.unwish{f:Flow}(h:SP (X.wish E) ad D f s'):SP X ad D f s':=by
 cases f with
 | next=>obtain⟨σ',H',I,q⟩:=h;exact⟨σ',H',I.unwish,q⟩
 | brk=>obtain⟨σ',H',I,q⟩:=h;exact⟨σ',H',I.unwish,q⟩
 | cont=>obtain⟨σ',H',I,q⟩:=h;exact⟨σ',H',I.unwish,q⟩
 | ret u=>obtain⟨v,σ',H',I,r,q⟩:=h;exact⟨v,σ',H',I.unwish,r,q⟩
theorem bW.nox{st:List Stmt}{t:TS}(h:bW X.nox st t):bW X st t:=λad s Z H D I j=>
 eV (h ad s Z H D (I.wish _) j) (λ_ _ q=>q.unwish) λ_ _ z=>False.elim z
end
section
variable {st:Stmt}{rest:List Stmt}{t u:TS}{te:TE}{pos:Pos}
def Xc:TS:=λD Z H=>D.nx Z H
def aN(t u:TS):TS:=λD Z H=>t { D with nx:=u D } Z H
theorem cD:bW X [] Xc:=λ_ _ Z H _ I h=>Dc ⟨Z,H,I,h⟩
theorem ai(h1:PS X st t)(h2:bW X rest u):bW X (st::rest) (aN t u):=by
 intro ad s Z H D I h;refine Vh (thn (h1 ad s Z H { D with nx:=u D } I h) λf z q=>?_);cases f with
 | next=>
  obtain⟨σ',H',j,q⟩:=q;exact h2 ad z σ' H' D j q
 | ret v=>exact q
 | brk=>exact q
 | cont=>exact q
theorem aj(h1:PS X st t):bW X [st] t:=by
 intro ad s Z H D I h;refine Vh (thn (h1 ad s Z H D I h) λf j q=>?_);cases f with
 | next=>exact Dc q
 | ret v=>exact q
 | brk=>exact q
 | cont=>exact q
theorem Inv.quiet{H:Hp}(I:Inv X ad Z H s):interactive X.env=false:=by simp[interactive,I.ok.kind]
def Kb(te:TE):TS:=λD Z H=>te Z H λ_ H1=>D.nx Z H1
theorem bB(G:PE X e te)(hs:swapsWith e none pos.line X.env=pure false:=by rfl):PS X (.Expr e pos) (Kb te):=by
 intro ad s Z H D I h;exact wpAny_Expr_any (thn (G ad s Z H _ I h) λv U z=>ba z λx H1 j O J=>⟨Z,H1,j,J⟩) I.quiet hs
def Xe(te:TE):TS:=λD Z H=>te Z H D.rt
theorem aX(G:PE X e te):PS X (.Return (some e) pos) (Xe te):=by
 intro ad s Z H D I h;exact wpAny_Return_some (thn (G ad s Z H _ I h) λv U z=>ba z λx H1 j O J=>⟨x,Z,H1,j,O,J⟩)
def Xg:TS:=λD _ H=>D.rt .non H
theorem Ak:PS X (.Return none pos) Xg:=λ_ _ Z H _ I h=>wpAny_Return_none ⟨.non,Z,H,I,rfl,h⟩
def Xh(c:TT)(t u:TS):TS:=λD Z H=>c Z H λb H1=>if b=true then t D Z H1 else u D Z H1
theorem bN{a b:List Stmt}{tc:TT}(hc:PT X c tc)(U:bW X a t)(Y:bW X b u):PS X (.If c a b pos) (Xh tc t u):=by
 intro ad s Z H D I h;refine wpAny_If (thn (hc ad s Z H _ I h) λd G J=>J.elim λH1 O=>O.elim λj z=>?_);cases d with
 | true=>exact U ad G Z H1 D j z
 | false=>exact Y ad G Z H1 D j z
def Kc:TS:=λ_ _ _=>False
theorem xf:PS X st Kc:=λ_ _ _ _ _ _ h=>h.elim
theorem xg{j:List Stmt}:bW X j Kc:=λ_ _ _ _ _ _ h=>h.elim
end
abbrev TG:=V->St->Hp->(St->Hp->Prop)->Prop
variable {g:TG}
abbrev nI:=ae->St->Hp->(St->Hp->Prop)->Prop
def PG(X:Cx)(j:Expr)(t:TG):Prop:=
 ∀(ad:Po) (s:Shared) (Z:St) (H:Hp) (v:V) (u:Value) (Q:St->Hp->Prop),Inv X ad Z H s->RelV v u->t v Z H Q ->
  wpAny (model X.prog X.w) X.A (assign j X.env u) (λ_ s'=>∃σ' H',Inv X ad σ' H' s'/\Q σ' H') X.xe s
def eY(X:Cx)(j:List Expr)(t:nI):Prop:=
 ∀(ad:Po) (s:Shared) (Z:St) (H:Hp) (vs:ae) (us:Lw) (Q:St->Hp->Prop),Inv X ad Z H s->bc vs us->t vs Z H Q ->
  wpAny (model X.prog X.w) X.A (assignInOrder ((assignEach j X.env).map (·.2)) us) (λ_ s'=>∃σ' H',Inv X ad σ' H' s'/\Q σ' H') X.xe s
section
variable {pos:Pos}
def mo(i:Nat):TG:=λv Z H Q=>Q (Z.set i (some v)) H
theorem be{i:Nat}{x:Str}(z:X.N.Nodup)(hi:X.N[i]?=some x)(J:Loc X.env.scope x)(G:X.fn x=true\/X.env.scope.names.lookup x=some .local:=by first | exact .inl rfl | exact .inr rfl | assumption):PG X (.Name x pos) (mo i):=by
 intro ad s Z H v u Q I r h;exact wpAny_assign_Name (JW I z hi J r (λs' j=>⟨_,H,j,h⟩) G)
def DE:nI:=λvs Z H Q=>vs=[]/\Q Z H
inductive Kd (t:TG) (u:nI) (Z:St) (H:Hp) (Q:St->Hp->Prop):ae->Prop where
 | mk {v:V}{r:ae} (_:t v Z H λσ' H'=>u r σ' H' Q):Kd t u Z H Q (v::r)
def xh(t:TG)(u:nI):nI:=λvs Z H Q=>Kd t u Z H Q vs
theorem mq:eY X [] DE:=by
 intro ad s Z H vs us Q I r h;obtain⟨e,h⟩:=h;subst e;cases r;exact assignInOrder_nil ⟨Z,H,I,h⟩
theorem fR{t:TG}{u:nI}(h1:PG X e t)(h2:eY X es u)
 (hs:(assignEach (e::es) X.env).map (·.2)=assign e X.env::(assignEach es X.env).map (·.2):=by rfl):eY X (e::es) (xh t u):=by
 intro ad s Z H vs us Q I r h;obtain @⟨v,vr,h⟩:=h;cases r with
 | cons r U=>
  rw[hs];refine assignInOrder_cons (thn (h1 ad s Z H _ _ _ I r h) λ_ Y z=>z.elim λσ1 G=>G.elim λH1 J=>J.elim λj O=>?_);exact h2 ad Y σ1 H1 _ _ Q j U O
inductive Ke (K:Fg) (n:Nat) (t:nI) (Z:St) (H:Hp) (Q:St->Hp->Prop):V->Prop where
 | mk {a:Addr}{xs:ae} (_:bh K H a xs) (_:xs.length=n) (_:t xs Z H Q):Ke K n t Z H Q (.ref a)
def sW(K:Fg)(n:Nat)(t:nI):TG:=λv Z H Q=>Ke K n t Z H Q v
theorem nJ{k:Nat}{t:nI}(O:X.calm=true)(h:eY X es t)
 (Y:(assignEach es X.env).length=n:=by rfl) (J:(assignEach es X.env).findIdx? (·.1)=none:=by rfl):PG X (.Tuple es k pos) (sW X.K n t):=by
 intro ad s Z H v u Q I r j;obtain @⟨a,xs,hq,U,j⟩:=j;cases r;obtain⟨b_,z,ht,hz⟩:=I.tuple hq;refine assign_Tuple_tuple (I.ok.hd O) ht (by simp[Y,<-U,z.length]) J λh' hx=>?_;have G:Inv X ad Z H { s with heap:=h' }:=I.kept (t':=s.toks) λb o e=>hx b o (cX (bK e)) e;exact h ad _ Z H xs _ Q G (by simpa using z) j
def Kf(te:TE)(g:TG):TS:=λD Z H=>te Z H λx H1=>g x Z H1 D.nx
theorem aM{i:Nat}{x:Str}{te:TE}{pos':Pos}(J:X.N.Nodup)(hi:X.N[i]?=some x)(Y:Loc X.env.scope x)(O:PE X e te)(hs:swapsWith e (some (.Name x pos')) pos.line X.env=pure false:=by rfl)(U:X.fn x=true\/X.env.scope.names.lookup x=some .local:=by first | exact .inl rfl | exact .inr rfl | assumption) :
 PS X (.Assign [.Name x pos'] e pos) (Kf te (mo i)):=by
 intro ad s Z H D I h;refine wpAny_Assign_Name (thn (O ad s Z H _ I h) λv s1 G=>ba G λy H1 j r1 q1=>?_) hs;exact JW j J hi Y r1 (λs2 z=>⟨_,H1,z,q1⟩) U
def Xo(c:TT)(tb:TS):TS:=λD Z H=>∃W:Nat->St->Hp->Prop,(∃m,W m Z H)/\∀m Z H,W m Z H ->
 c Z H λb H1=>if b=true then∃N:St->Hp->Prop,(∀σ' H',N σ' H'->∃m',m'<m/\W m' σ' H')/\tb { D with nx:=N,ct:=N,bk:=D.nx } Z H1 else D.nx Z H1
theorem Kg{tc:TT}(hp:PassesOwn (model X.prog X.w) X.A X.env X.xe)(hc:PT X c tc)(hb:bW X body tb):PS X (.While c body [] pos) (Xo tc tb):=by
 intro ad s Z H D I h;obtain⟨W,⟨m0,w0⟩,a0⟩:=h;refine wpAny_While (codeAny_whileLoop (λn s'=>∃σ' H',Inv X ad σ' H' s'/\W n σ' H') ?_ m0 ⟨Z,H,I,w0⟩);rintro n s1 ⟨σ1,H1,I1,w1⟩;refine wH hp (thn (hc ad s1 σ1 H1 _ I1 (a0 n σ1 H1 w1)) λb s2 Xp=>Xp.elim λH2 Xq=>Xq.elim λU j=>?_);cases b with
 | true=>
  obtain⟨N,Y,j⟩:=j;rw[am rfl];refine wH hp (thn (hb ad s2 σ1 H2 _ U j) λf s3 z=>?_);cases f with
  | next=>
   obtain⟨σ3,H3,G,n3⟩:=z;obtain⟨m',J,O⟩:=Y σ3 H3 n3;exact⟨m',J,σ3,H3,G,O⟩
  | cont=>
   obtain⟨σ3,H3,G,n3⟩:=z;obtain⟨m',J,O⟩:=Y σ3 H3 n3;exact⟨m',J,σ3,H3,G,O⟩
  | brk=>exact z
  | ret v=>exact z
 | false=>
  rw[ah cS];exact Dc ⟨σ1,H2,U,j⟩
end
structure It where
 go:Nat->Hp->Prop
 yld:Nat->Hp->V->Hp->Prop
 stop:Nat->Hp->Prop
def fG(X:Cx)(ad:Po)(H:Hp)(b:Addr):Prop:=
 H b=none/\b≠X.env.locals/\b∉X.fs/\(b∈X.ex\/X.s₀.heap.objs.size<=b)/\(∀x c,X.env.cells.lookup x=some c->c≠b)/\∀p∈X.pn++ad,p.1≠b
theorem Inv.fpOk{H H':Hp}{b:Addr}(I:Inv X ad Z H s)(j:s.heap.objs.size<=b)(G:H' b=none):fG X ad H' b:=by
 refine⟨G,kN (gL I.lt j),I.nofs j,.inr (cn I.sz j),λx c e z=>?_,λp J z=>?_⟩
 . obtain⟨v,q⟩:=I.cell x c e;exact absurd (gL q.lt (by rw[z];exact j)) (oU _)
 exact absurd (gL (bK (I.pin p J).1) (by rw[z];exact j)) (oU _)
structure pi(P:Program)(w:World)(K:Fg)(tg:Expr)(J:It)(fp:List Addr)(it:Addr)(tn:Nat->Heap->Prop):Prop where
 mem:it∈fp
 obj:∀i h,tn i h->∀b∈fp,∃o,h.get? b=some o/\∀v,o.data≠.cell v
 keep:∀i h h',tn i h->(∀b∈fp,∀o,h.get? b=some o->h'.get? b=some o)->tn i h'
 item:∀(X:Cx),X.prog=P->X.w=w->X.K=K->X.calm=true->∀(i:Nat) (ad:Po) (s:Shared) (Z:St) (H:Hp) (E:VP),Inv X ad Z H s->(∀b∈fp,fG X ad H b)->tn i s.heap->J.go i H ->
  wpAny (model P w) X.A (pyNext (.ref it)) (λr s1=>∃u,r=some u /\
   wpAny (model P w) X.A (letOwnedTupleGo tg (.ref it) u) (λ_ s2=>∃x H',Inv X ad Z H' s2/\RelV x u/\J.yld i H x H'/\tn (i+1) s2.heap/\∀b∈fp,H' b=none) E s1) E s
 done:∀(X:Cx),X.prog=P->X.w=w->X.K=K->X.calm=true->∀(i:Nat) (ad:Po) (s:Shared) (Z:St) (H:Hp) (E:VP),Inv X ad Z H s->(∀b∈fp,fG X ad H b)->tn i s.heap->J.stop i H ->
  wpAny (model P w) X.A (pyNext (.ref it)) (λr s1=>r=none/\Inv X ad Z H s1) E s
 self:∀(A:Around) (i:Nat) (s:Shared) (Q:VP) (E:VP),tn i s.heap->Q (.ref it) s->wpAny (model P w) A (pyIter (.ref it)) Q E s
abbrev TI:=St->Hp->(It->Hp->Prop)->Prop
def DF(X:Cx)(ad:Po)(Z:St)(tg:Expr)(R:It->Hp->Prop)(G:Value)(j:Shared):Prop:=
 ∃(it:Addr) (fp:List Addr) (z:Nat->Heap->Prop) (J:It) (H':Hp),G=.ref it/\Inv X ad Z H' j/\pi X.prog X.w X.K tg J fp it z/\z 0 j.heap/\(∀b∈fp,fG X ad H' b)/\R J H'
def PI(X:Cx)(tg iter:Expr)(z:TI):Prop:=
 ∀(ad:Po) (s:Shared) (Z:St) (H:Hp) (R:It->Hp->Prop),Inv X ad Z H s->z Z H R ->
  wpAny (model X.prog X.w) X.A (eval iter X.env) (λv j=>wpAny (model X.prog X.w) X.A (pyIter v) (DF X ad Z tg R) X.xe j) X.xe s
theorem An{it:Addr}{o:Obj}{n:String}{vs:Av}{Q:Unit->Shared->Prop}(J:s.heap.get? it=some o)(z:o.cls=.type n)(hd:o.data=.fields vs)
 (G:["enumerate","zip","dict_itemiterator","dict_reverseitemiterator","odict_iterator","itertools.zip_longest","itertools.pairwise"].contains n=false) (j:Q () s):wpAny M A (letOwnedTupleGo tg (.ref it) u) Q E s:=by
 unfold letOwnedTupleGo;cases tg<;>first
  | exact au j
  | (cases u<;>first
   | exact au j
   | (refine af (wpAny_load J ?_)
      rw[z,hd];show wpAny M A (if (["enumerate","zip","dict_itemiterator","dict_reverseitemiterator","odict_iterator","itertools.zip_longest","itertools.pairwise"].contains n && vs[0]? == some (rawInt _))=true then _ else _) Q E s;rw[ah (by intro h;rw[G,Dd]at h;cases h)];exact au j))
def nK(K:Fg)(a:Addr):It:=
 ⟨λi H=>∃xs x,aa K H a xs/\xs[i]?=some x,λi H x H'=>H'=H/\∀xs,aa K H a xs->xs[i]?=some x,λi H=>∃xs,aa K H a xs/\xs.length<=i⟩
def DG(K:Fg)(a:Addr):It:=
 ⟨λi H=>∃xs x,bh K H a xs/\xs[i]?=some x,λi H x H'=>H'=H/\∀xs,bh K H a xs->xs[i]?=some x,λi H=>∃xs,bh K H a xs/\xs.length<=i⟩
def pj(lo:Int)(n:Nat):It:=⟨λi _=>i<n,λi H x H'=>H'=H/\x=.int (lo+i),λi _=>n<=i⟩
theorem Xr(a it:Addr):pi P w K tg (nK K a) [it] it (λi h=>h.IsListIter it a i) where
 mem:=by simp
 obj:=λi h st b j=>by
  have e:b=it:=by simpa using j
  subst e;obtain⟨o,e,c,d⟩:=st;exact⟨o,e,λv z=>by rw[d]at z;cases z⟩
 keep:=λi h h' st k=>st.at λo e=>k it (by simp) o e
 item:=by
  intro X hP hw hK hc i ad s Z H E I G st hg;subst hP hw hK;obtain⟨xs,x,J,hx⟩:=hg;obtain⟨b_,rv,p,hz⟩:=I.list J;obtain⟨u,hu,ru⟩:=rv.get hx;obtain⟨O,U,f2,Y,f4,f5⟩:=G it (by simp);refine wpAny_pyNext_list_item st p.isList (x:=u) (by simpa using hu) λh' fT sb=>?_;have I1:Inv X ad Z H { s with heap:=h' }:=I.turned (t':=s.toks) (λb o j e=>(sb.2 b j).trans e) O U Y f4 f5;obtain⟨o,e,c,d⟩:=id fT;exact⟨u,rfl,An (s:={ s with heap:=h' }) e c d (by decide) ⟨x,H,I1,ru,⟨rfl,λys hy=>by rw[I.list_inj hy J];exact hx⟩,fT,λb j=>(G b j).1⟩⟩
 done:=by
  intro X hP hw hK hc i ad s Z H E I G st hg;subst hP hw hK;obtain⟨xs,J,hx⟩:=hg;obtain⟨b_,rv,p,hz⟩:=I.list J;obtain⟨O,U,f2,Y,f4,f5⟩:=G it (by simp);have hl:=rv.length;exact wpAny_pyNext_list_end (I.ok.hd hc) st p.isList (by simp;omega) λh' eb=>⟨rfl,I.turned (t':=s.toks) (λb o j e=>eb b o j e) O U Y f4 f5⟩
 self:=λ_ _ _ _ _ st h=>wpAny_pyIter_listiter st h
theorem Xs(a it:Addr):pi P w K tg (DG K a) [it] it (λi h=>h.IsTupleIter it a i) where
 mem:=by simp
 obj:=λi h st b j=>by
  have e:b=it:=by simpa using j
  subst e;obtain⟨o,e,c,d⟩:=st;exact⟨o,e,λv z=>by rw[d]at z;cases z⟩
 keep:=λi h h' st k=>st.at λo e=>k it (by simp) o e
 item:=by
  intro X hP hw hK hc i ad s Z H E I G st hg;subst hP hw hK;obtain⟨xs,x,J,hx⟩:=hg;obtain⟨b_,rv,p,hz⟩:=I.tuple J;obtain⟨u,hu,ru⟩:=rv.get hx;obtain⟨O,U,f2,Y,f4,f5⟩:=G it (by simp);refine wpAny_pyNext_tuple_item st (show s.heap.IsTuple a b_.toArray from p) (x:=u) (by simpa using hu) λh' fT sb=>?_;have I1:Inv X ad Z H { s with heap:=h' }:=I.turned (t':=s.toks) (λb o j e=>(sb.2 b j).trans e) O U Y f4 f5;obtain⟨o,e,c,d⟩:=id fT;exact⟨u,rfl,An (s:={ s with heap:=h' }) e c d (by decide) ⟨x,H,I1,ru,⟨rfl,λys hy=>by rw[I.tuple_inj hy J];exact hx⟩,fT,λb j=>(G b j).1⟩⟩
 done:=by
  intro X hP hw hK hc i ad s Z H E I G st hg;subst hP hw hK;obtain⟨xs,J,hx⟩:=hg;obtain⟨b_,rv,p,hz⟩:=I.tuple J;obtain⟨O,U,f2,Y,f4,f5⟩:=G it (by simp);have hl:=rv.length;exact wpAny_pyNext_tuple_end (I.ok.hd hc) st (show s.heap.IsTuple a b_.toArray from p) (by simp;omega) λh' eb=>⟨rfl,I.turned (t':=s.toks) (λb o j e=>eb b o j e) O U Y f4 f5⟩
 self:=λ_ _ _ _ _ st h=>wpAny_pyIter_tupleiter st h
theorem Xt(it:Addr)(lo:Int)(n:Nat):pi P w K tg (pj lo n) [it] it (λi h=>IsRangeIter h it (lo+(i:Nat) * 1) ((n:Int) - (i:Nat)) 1) where
 mem:=by simp
 obj:=λi h st b j=>by
  have e:b=it:=by simpa using j
  subst e;exact⟨_,st,λv z=>by
   have z':Data.fields _=Data.cell v:=z;cases z'⟩
 keep:=λi h h' st k=>k it (by simp) _ st
 item:=by
  intro X hP hw hK hc i ad s Z H E I G st hg;subst hP hw hK;obtain⟨J,O,f2,U,Y,f5⟩:=G it (by simp);have W:=Walks.range (prog:=X.prog) (w:=X.w) (I.ok.hd hc) it lo 1 n;refine W.item i s _ _ hg st λv h' tk hv fT kk=>?_;obtain⟨t,rfl⟩:=hv;have I1:Inv X ad Z H { s with heap:=h',toks:=tk }:=I.turned (λb o j e=>kk b o (by simpa using j) e) J O U Y f5;refine⟨_,rfl,An (s:={ s with heap:=h',toks:=tk }) (n:="range_iterator") fT rfl rfl (by decide) ⟨.int (lo+i),H,I1,⟨t,?_⟩,⟨rfl,rfl⟩,fT,λb j=>(G b j).1⟩⟩;rw[Int.mul_one]
 done:=by
  intro X hP hw hK hc i ad s Z H E I G st hg;subst hP hw hK;obtain⟨J,O,f2,U,Y,f5⟩:=G it (by simp);exact wpAny_pyNext_range_end (I.ok.hd hc) st (by have:n<=i:=hg;omega) λh' eb=>⟨rfl,I.turned (t':=s.toks) (λb o j e=>eb b o j e) J O U Y f5⟩
 self:=λ_ _ _ _ _ st h=>wpAny_pyIter_rangeiter st h
inductive Kh (K:Fg) (R:It->Hp->Prop) (H1:Hp):V->Prop where
 | mk {a:Addr} (_:(∃xs,aa K H1 a xs)) (_:R (nK K a) H1):Kh K R H1 (.ref a)
def Xu(K:Fg)(tl:TE):TI:=λZ H R=>tl Z H λx H1=>Kh K R H1 x
inductive Ki (K:Fg) (R:It->Hp->Prop) (H1:Hp):V->Prop where
 | mk {a:Addr} (_:(∃xs,bh K H1 a xs)) (_:R (DG K a) H1):Ki K R H1 (.ref a)
def Xv(K:Fg)(tl:TE):TI:=λZ H R=>tl Z H λx H1=>Ki K R H1 x
theorem cG{l:Expr}{tl:TE}(O:PE X l tl):PI X tg l (Xu X.K tl):=by
 intro ad s Z H R I h;refine thn (O ad s Z H _ I h) λv z G=>ba G λx H1 j r1 Y=>?_;obtain @⟨a,⟨xs,U⟩,q⟩:=Y;cases r1;obtain⟨b_,rv,p,hz⟩:=j.list U;refine Jh p.isList ?_;refine⟨z.heap.objs.size,[z.heap.objs.size],_,_,H1,rfl,j.kept (t':=z.toks) λb o e=>b9 _ e,Xr a _,⟨_,dA _ rfl,rfl,rfl⟩,λb J=>?_,q⟩;have e:b=z.heap.objs.size:=by simpa using J
 subst e;exact j.fpOk (aK _) (j.hok.fresh (aK _))
theorem Xx{l:Expr}{tl:TE}(O:PE X l tl):PI X tg l (Xv X.K tl):=by
 intro ad s Z H R I h;refine thn (O ad s Z H _ I h) λv j G=>ba G λx H1 z r1 Y=>?_;obtain @⟨a,⟨xs,U⟩,q⟩:=Y;cases r1;obtain⟨b_,rv,p,hz⟩:=z.tuple U;refine wpAny_pyIter_tuple (show j.heap.IsTuple a b_.toArray from p) ?_;refine⟨j.heap.objs.size,[j.heap.objs.size],_,_,H1,rfl,z.kept (t':=j.toks) λb o e=>b9 _ e,Xs a _,⟨_,dA _ rfl,rfl,rfl⟩,λb J=>?_,q⟩;have e:b=j.heap.objs.size:=by simpa using J
 subst e;exact z.fpOk (aK _) (z.hok.fresh (aK _))
theorem Kj{H:Hp}{R:It->Hp->Prop}{lo hi:Int}{t u v:Tok}{tk:Nat}(I:Inv X ad Z H s)(h1:-(2 ^ 62)<=lo)(h2:lo<2 ^ 62)(z:-(2 ^ 62)<=hi)(G:hi<2 ^ 62)
 (q:R (pj lo (hi - lo).toNat) H):wpAny (model X.prog X.w) X.A (pyIter (.ref s.heap.objs.size)) (DF X ad Z tg R) E { s with heap:=s.heap.push { cls:=.type "range",data:=.fields #[.int lo t,.int hi u,.int 1 v] },toks:=tk }:=by
 refine wpAny_pyIter_range (IsRange.new ..) (small_one h1 h2 z G) ?_;have j:Inv X ad Z H { s with heap:=s.heap.push { cls:=.type "range",data:=.fields #[.int lo t,.int hi u,.int 1 v] },toks:=tk }:=I.kept λb o e=>b9 _ e;refine⟨(s.heap.push { cls:=.type "range",data:=.fields #[.int lo t,.int hi u,.int 1 v] }).objs.size,[(s.heap.push { cls:=.type "range",data:=.fields #[.int lo t,.int hi u,.int 1 v] }).objs.size],_,_,H,rfl,
  j.kept (t':=tk) λb o e=>b9 _ e,Xt _ lo (hi - lo).toNat,?_,λb J=>?_,q⟩
 . have e1:lo+((0:Nat):Int) * 1=lo:=by simp
   have e2:(((hi - lo).toNat:Nat):Int) - ((0:Nat):Int)=Builtin.Range.rangeSize lo hi 1:=by rw[rangeSize_one];split<;>omega
   show IsRangeIter _ _ (lo+((0:Nat):Int) * 1) ((((hi - lo).toNat:Nat):Int) - ((0:Nat):Int)) 1;rw[e1,e2];exact dA _ rfl
 have e:b=(s.heap.push { cls:=.type "range",data:=.fields #[.int lo t,.int hi u,.int 1 v] }).objs.size:=by simpa using J
 subst e;exact j.fpOk (aK _) (j.hok.fresh (aK _))
inductive Kk (R:It->Hp->Prop) (H1:Hp):ae->Prop where
 | mk {j:Int} (_:-(2 ^ 62)<=j) (_:j<2 ^ 62) (_:R (pj 0 j.toNat) H1):Kk R H1 [.int j]
def Xz(ta:TA):TI:=λZ H R=>ta Z H λvs H1=>Kk R H1 vs
inductive Kl (R:It->Hp->Prop) (H1:Hp):ae->Prop where
 | mk {i:Int}{j:Int} (_:(-(2 ^ 62)<=i/\i<2 ^ 62/\-(2 ^ 62)<=j/\j<2 ^ 62)) (_:R (pj i (j - i).toNat) H1):Kl R H1 [.int i,.int j]
def XA(ta:TA):TI:=λZ H R=>ta Z H λvs H1=>Kl R H1 vs
theorem pq{a:Expr}{ta:TA}{pos:Pos}(U:Gl X "range")(Y:X.mg "range"=none)(O:PA X [a] ta)(hs:starEach [a] X.env=[(false,eval a X.env)]:=by rfl):PI X tg (.Call (.Name "range" p) [a] [] pos) (Xz ta):=by
 intro ad s Z H R I h;refine Call_ (sN I U Y boot_range (Ji (thn (O pos ad s Z H _ I h) λus s1 J=>ba J λvs H1 G r1 z=>?_) hs rfl));obtain @⟨j,z,q2,q⟩:=z;cases r1 with
 | cons r rr=>
  cases rr;obtain⟨t,rfl⟩:=r;exact call_range_1 (Kj G (by omega) (by omega) z q2 (by simpa using q))
theorem DH{a b:Expr}{ta:TA}{pos:Pos}(hg:Gl X "range")(hm:X.mg "range"=none)(Y:PA X [a,b] ta)(hs:starEach [a,b] X.env=[(false,eval a X.env),(false,eval b X.env)]:=by rfl)(J:starEach [b] X.env=[(false,eval b X.env)]:=by rfl) :
 PI X tg (.Call (.Name "range" p) [a,b] [] pos) (XA ta):=by
 intro ad s Z H R I h;refine Call_ (sN I hg hm boot_range (Ji (thn (Y pos ad s Z H _ I h) λus s1 U=>ba U λvs H1 O r1 z=>?_) (by rw[hs,J]) (by rw[J];rfl)));obtain @⟨i,j,⟨z,q2,q3,q4⟩,q⟩:=z;cases r1 with
 | cons r G=>
  cases G with
  | cons r' G=>
   cases G;obtain⟨t,rfl⟩:=r;obtain⟨t',rfl⟩:=r';exact call_range_2 (Kj O z q2 q3 q4 q)
def XD(j:TI)(g:TG)(tb:TS):TS:=λD Z H=>j Z H λJ H1=>∃W:Nat->Nat->St->Hp->Prop,(∃m,W 0 m Z H1)/\∀i m Z H,W i m Z H ->
 (J.stop i H/\D.nx Z H)\/(J.go i H/\∃N:St->Hp->Prop,(∀σ' H',N σ' H'->∃m',m'<m/\W (i+1) m' σ' H')/\∀x H',J.yld i H x H'->g x Z H' λσ2 H2=>tb { D with nx:=N,ct:=N,bk:=D.nx } σ2 H2)
def sY(fp:List Addr)(h:Heap):Po:=fp.filterMap λb=>(h.get? b).map λo=>(b,o)
theorem qI{h:Heap}{b:Addr}{o:Obj}(j:b∈fp)(e:h.get? b=some o):(b,o)∈sY fp h:=Jj.mpr ⟨b,j,by rw[e];rfl⟩
theorem XF{h:Heap}{p:Addr×Obj}(G:p∈sY fp h):p.1∈fp/\h.get? p.1=some p.2:=by
 obtain⟨b,z,e⟩:=Jj.mp G;cases q:h.get? b with
 | none=>rw[q]at e;cases e
 | some o=>
  rw[q]at e;have j:(b,o)=p:=gw e;subst j;exact⟨z,q⟩
theorem Inv.pinned{H:Hp}(I:Inv X ad Z H s)(Y:∀b∈fp,fG X ad H b)(ho:∀b∈fp,∃o,s.heap.get? b=some o/\∀v,o.data≠.cell v):Inv X (ad++sY fp s.heap) Z H s:=
 I.pins_of λp hp=>(bY.mp hp).elim (λz=>I.pin p (ff _ z)) λz=>by
  obtain⟨G,e⟩:=XF z;obtain⟨J,O,U,_⟩:=Y p.1 G;obtain⟨o,j,d⟩:=ho p.1 G;rw[e]at j;cases j;exact⟨e,J,O,U,d⟩
theorem Inv.unpinned{pl:Po}{H:Hp}(I:Inv X (ad++pl) Z H s):Inv X ad Z H s:=I.pins_of λp j=>I.pin p (ff _ (wG _ j))
theorem eO{iter:Expr}{wi:TI}{pos:Pos}(O:PassesOwn (model X.prog X.w) X.A X.env X.xe)(hc:X.calm=true)(hi:PI X tg iter wi)(hg:PG X tg g)(z:bW X body tb)
 (hs:∀x,foldedSetIterable iter X.env x=pure x:=by intro _;rfl):PS X (.For tg iter body [] pos) (XD wi g tb):=by
 intro ad s Z H D I h;refine wpAny_For (thn (hi ad s Z H _ I h) λv s1 h1=>thn h1 λAm s2 h2=>?_) hs;obtain⟨it,fp,tn,J,H2,e,I2,T,fg,f2,W,⟨m0,w0⟩,a0⟩:=h2;subst e;have Y:∀{H':Hp},(∀b∈fp,H' b=none)->∀b∈fp,fG X ad H' b:=λhn b z=>⟨hn b z,(f2 b z).2⟩;refine codeAny_forLoop_any (λn s'=>∃i σ' H',Inv X ad σ' H' s'/\tn i s'.heap/\(∀b∈fp,H' b=none)/\W i n σ' H') ?_ m0 ⟨0,Z,H2,I2,fg,λb z=>(f2 b z).1,w0⟩;rintro n s3 ⟨i,σ3,H3,I3,py,Km,w3⟩
 rcases a0 i n σ3 H3 w3 with⟨stop,qn⟩ | ⟨go,N,hN,step⟩
 . refine wH O (thn (T.done X rfl rfl rfl hc i ad s3 σ3 H3 X.xe I3 (Y Km) py stop) λr s4 XG=>XG.elim λhr I4=>?_);subst hr;exact Dc ⟨σ3,H3,I4,qn⟩
 refine wH O (thn (T.item X rfl rfl rfl hc i ad s3 σ3 H3 X.xe I3 (Y Km) py go) λr s4 XH=>XH.elim λu XI=>XI.elim λhr h4=>?_);subst hr;refine wH O (thn h4 λ_ s5 XJ=>ba XJ λx H5 I5 r5 XM=>XM.elim λy5 XN=>XN.elim λsZ DJ=>?_);have XO:=I5.pinned (Y DJ) (T.obj _ _ sZ);refine wH O (thn (hg _ s5 σ3 H5 x u _ XO r5 (step x H5 y5)) λ_ s6 XQ=>XQ.elim λσ6 XR=>XR.elim λH6 XS=>XS.elim λI6 q6=>?_);refine wH O (thn (z _ s6 σ6 H6 _ I6 q6) λf s7 G=>?_);have again:∀{σ7:St}{H7:Hp},Inv X (ad++sY fp s5.heap) σ7 H7 s7->N σ7 H7->∃m,m<n/\∃i σ' H',Inv X ad σ' H' s7/\tn i s7.heap/\(∀b∈fp,H' b=none)/\W i m σ' H':=λ{σ7 H7} j U=>by
  obtain⟨m',hm,w7⟩:=hN σ7 H7 U;refine⟨m',hm,i+1,σ7,H7,j.unpinned,T.keep _ _ _ sZ λb z o e=>(j.pin (b,o) (ff _ (ff _ (qI z e)))).1,λb z=>?_,w7⟩;obtain⟨o,e,d⟩:=T.obj _ _ sZ b z;exact(j.pin (b,o) (ff _ (ff _ (qI z e)))).2.1
 cases f with
 | next=>obtain⟨σ7,H7,j,U⟩:=G;exact again j U
 | cont=>obtain⟨σ7,H7,j,U⟩:=G;exact again j U
 | brk=>obtain⟨σ7,H7,j,G⟩:=G;exact⟨σ7,H7,j.unpinned,G⟩
 | ret v=>obtain⟨x7,σ7,H7,j,r7,G⟩:=G;exact⟨x7,σ7,H7,j.unpinned,r7,G⟩
theorem hJ{xs:ae}{H:Hp}(Pv:Nat->St->Hp->Prop)(h0:Pv 0 Z H)(z:∀i Z H,i<=xs.length->Pv i Z H->aa K H a xs)
 (hs:∀i x Z H,xs[i]?=some x->Pv i Z H->g x Z H λσ2 H2=>tb { D with nx:=Pv (i+1),ct:=Pv (i+1),bk:=D.nx } σ2 H2) (hd:∀Z H,Pv xs.length Z H->D.nx Z H) :
 ∃W:Nat->Nat->St->Hp->Prop,(∃m,W 0 m Z H)/\∀i m Z H,W i m Z H ->
  ((nK K a).stop i H/\D.nx Z H)\/((nK K a).go i H/\∃N:St->Hp->Prop,(∀σ' H',N σ' H'->∃m',m'<m/\W (i+1) m' σ' H')/\∀x H',(nK K a).yld i H x H'->g x Z H' λσ2 H2=>tb { D with nx:=N,ct:=N,bk:=D.nx } σ2 H2):=by
 refine⟨λi m Z H=>m=xs.length - i/\i<=xs.length/\Pv i Z H,⟨xs.length,by simp,dF _,h0⟩,?_⟩;rintro i m Z H ⟨rfl,hi,p⟩;have q:=z i Z H hi p
 by_cases j:i<xs.length
 . refine .inr ⟨⟨xs,xs[i],q,by simp[j]⟩,Pv (i+1),λσ' H' G=>⟨xs.length - (i+1),by omega,rfl,j,G⟩,λx H' y=>?_⟩;obtain⟨e,y⟩:=y;subst e;exact hs i x Z _ (y xs q) p
 have e:i=xs.length:=by omega
 subst e;exact .inl ⟨⟨xs,q,aK _⟩,hd Z H p⟩
theorem uX{lo:Int}{H:Hp}(Pv:Nat->St->Hp->Prop)(h0:Pv 0 Z H)
 (hs:∀i Z H,i<n->Pv i Z H->g (.int (lo+i)) Z H λσ2 H2=>tb { D with nx:=Pv (i+1),ct:=Pv (i+1),bk:=D.nx } σ2 H2) (hd:∀Z H,Pv n Z H->D.nx Z H) :
 ∃W:Nat->Nat->St->Hp->Prop,(∃m,W 0 m Z H)/\∀i m Z H,W i m Z H ->
  ((pj lo n).stop i H/\D.nx Z H)\/((pj lo n).go i H/\∃N:St->Hp->Prop,(∀σ' H',N σ' H'->∃m',m'<m/\W (i+1) m' σ' H')/\∀x H',(pj lo n).yld i H x H'->g x Z H' λσ2 H2=>tb { D with nx:=N,ct:=N,bk:=D.nx } σ2 H2):=by
 refine⟨λi m Z H=>m=n - i/\i<=n/\Pv i Z H,⟨n,by simp,dF _,h0⟩,?_⟩;rintro i m Z H ⟨rfl,hi,p⟩
 by_cases j:i<n
 . refine .inr ⟨j,Pv (i+1),λσ' H' z=>⟨n - (i+1),by omega,rfl,j,z⟩,λx H' y=>?_⟩;obtain⟨e,y⟩:=y;subst e y;exact hs i Z _ j p
 have e:i=n:=by omega
 subst e;exact .inl ⟨aK _,hd Z H p⟩
abbrev R2:=V->V->Hp->VK->Prop
variable {r:R2}
def cw(X:Cx)(f:Value->Value->Sem Value)(r:R2):Prop:=
 ∀(ad:Po) (s:Shared) (Z:St) (H:Hp) (x y:V) (v u:Value) (Q:VK),Inv X ad Z H s->RelV x v->RelV y u->r x y H Q ->
  wpAny (model X.prog X.w) X.A (f v u) (EP X ad Z Q) X.xe s
def DK(X:Cx)(f:Value->Sem Value)(r:V->Hp->VK->Prop):Prop:=
 ∀(ad:Po) (s:Shared) (Z:St) (H:Hp) (x:V) (v:Value) (Q:VK),Inv X ad Z H s->RelV x v->r x H Q ->
  wpAny (model X.prog X.w) X.A (f v) (EP X ad Z Q) X.xe s
def fh(X:Cx)(f:Value)(r:ae->Hp->VK->Prop):Prop:=
 ∀(ad:Po) (s:Shared) (Z:St) (H:Hp) (xs:ae) (us:Lw) (Q:VK),Inv X ad Z H s->bc xs us->r xs H Q ->
  wpAny (model X.prog X.w) X.A (call f us) (EP X ad Z Q) X.xe s
def Ao(r:R2)(ta tb:TE):TE:=λZ H Q=>ta Z H λx H1=>tb Z H1 λy H2=>r x y H2 Q
def XT(r:V->Hp->VK->Prop)(ta:TE):TE:=λZ H Q=>ta Z H λx H1=>r x H1 Q
inductive Kn (C:Int->Int->Prop) (g:Int->Int->V) (H:Hp) (Q:VK):V->V->Prop where
 | mk {i:Int}{j:Int} (_:C i j) (_:Q (g i j) H):Kn C g H Q (.int i) (.int j)
def rI(C:Int->Int->Prop)(g:Int->Int->V):R2:=λx y H Q=>Kn C g H Q x y
inductive Ko (g:Int->Int->V) (H:Hp) (Q:VK):V->V->Prop where
 | mk {i:Int}{j:Int} (_:Q (g i j) H):Ko g H Q (.int i) (.int j)
def tm(g:Int->Int->V):R2:=λx y H Q=>Ko g H Q x y
def rU(g:Int->V):V->Hp->VK->Prop:=λx H Q=>∃i,x=.int i/\Q (g i) H
section
variable {a b:Expr}{ta tb tc:TE}{pos:Pos}
theorem DM(U:PE X a ta)(Y:PE X b tb){H:Hp}{R:V->V->Hp->Prop}(I:Inv X ad Z H s)
 (h:ta Z H λx H1=>tb Z H1 λy H2=>R x y H2) {Q:VP}{f:Value->Value->Sem Value}
 (hf:∀v u j x y H2,Inv X ad Z H2 j->RelV x v->RelV y u->R x y H2->wpAny (model X.prog X.w) X.A (f v u) Q X.xe j) :
 wpAny (model X.prog X.w) X.A (eval a X.env) (λv s₁=>wpAny (model X.prog X.w) X.A (eval b X.env) (λu s₂=>wpAny (model X.prog X.w) X.A (f v u) Q X.xe s₂) X.xe s₁) X.xe s:=by
 refine thn (U ad s Z H _ I h) λv s1 J=>ba J λx H1 z r1 q1=>?_;refine thn (Y ad s1 Z H1 _ z q1) λu j O=>ba O λy H2 G r2 q2=>?_;exact hf v u j x y H2 G r1 r2 q2
theorem aJ{op:Operator}(J:cw X (binaryOp op) r)(z:PE X a ta)(G:PE X b tb):PE X (.BinOp a op b pos) (Ao r ta tb):=by
 intro ad s Z H Q I h;exact wpAny_BinOp (DM z G I h λv u Y x y H2 j O U q=>J ad Y Z H2 x y v u Q j O U q)
theorem uY{op:UnaryOp}{r:V->Hp->VK->Prop}(J:DK X (unaryOp op) r)(G:PE X a ta):PE X (.UnaryOp op a pos) (XT r ta):=by
 intro ad s Z H Q I h;exact UnaryOp_ (thn (G ad s Z H _ I h) λv Y z=>ba z λx H1 j U O=>J ad Y Z H1 x v Q j U O)
theorem Ap{f:Value->Value->Sem Value}{C:Int->Int->Prop}{g:Int->Int->Int}
 (rule:∀(i j:Int) (t u:Tok) (s:Shared) (Q:VP) (E:VP),C i j->Q (.int (g i j) s.toks) { s with toks:=s.toks+1 }->wpAny (model X.prog X.w) X.A (f (.int i t) (.int j u)) Q E s) :
 cw X f (rI C λi j=>.int (g i j)):=by
 intro ad s Z H x y v u Q I G J h;obtain @⟨i,j,z,q⟩:=h;obtain⟨t,rfl⟩:=G;obtain⟨t',rfl⟩:=J;exact rule i j t t' s _ _ z ⟨.int (g i j),H,I.tok _,⟨_,rfl⟩,q⟩
theorem Kq{f:Value->Value->Sem Value}{g:Int->Int->Int}
 (rule:∀(i j:Int) (t u:Tok) (s:Shared) (Q:VP) (E:VP),Q (.int (g i j) s.toks) { s with toks:=s.toks+1 }->wpAny (model X.prog X.w) X.A (f (.int i t) (.int j u)) Q E s) :
 cw X f (tm λi j=>.int (g i j)):=by
 intro ad s Z H x y v u Q I z G h;obtain @⟨i,j,q⟩:=h;obtain⟨t,rfl⟩:=z;obtain⟨t',rfl⟩:=G;exact rule i j t t' s _ _ ⟨.int (g i j),H,I.tok _,⟨_,rfl⟩,q⟩
theorem DN{f:Value->Value->Sem Value}{g:Int->Int->Bool}
 (rule:∀(i j:Int) (t u:Tok) (s:Shared) (Q:VP) (E:VP),Q (.bool (g i j)) s->wpAny (model X.prog X.w) X.A (f (.int i t) (.int j u)) Q E s) :
 cw X f (tm λi j=>.bl (g i j)):=by
 intro ad s Z H x y v u Q I z G h;obtain @⟨i,j,q⟩:=h;obtain⟨t,rfl⟩:=z;obtain⟨t',rfl⟩:=G;exact rule i j t t' s _ _ ⟨.bl (g i j),H,I,rfl,q⟩
def XX(i j:Int):Prop:=0<j/\j<1073741824
def XY(i j:Int):Prop:=0<=j/\j<=1000000/\i.natAbs<2 ^ 64
def DO(i j:Int):Prop:=(-(2 ^ 64)<i/\i<2 ^ 64)\/(-(2 ^ 64)<j/\j<2 ^ 64)
theorem DO.ok{i j:Int}(h:DO i j):IntMulOk i j:=by
 rcases h with⟨h1,h2⟩ | ⟨h1,h2⟩
 . exact .of_left (intBits_le_64 h1 h2)
 exact .of_right (intBits_le_64 h1 h2)
theorem fU:cw X (binaryOp .Add) (tm λi j=>.int (i+j)):=Kq λ_ _ _ _ _ _ _ q=>add_int q
theorem uZ:cw X (binaryOp .Sub) (tm λi j=>.int (i - j)):=Kq λ_ _ _ _ _ _ _ q=>sub_int q
theorem vb:cw X (binaryOp .Mult) (rI DO λi j=>.int (i * j)):=Ap λ_ _ _ _ _ _ _ z q=>mul_int q z.ok
theorem iQ:cw X (binaryOp .FloorDiv) (rI XX λi j=>.int (i / j)):=Ap λi j _ _ _ _ _ z q=>by
 have h1:(0:Int)<j:=z.1;have h2:j<1073741824:=z.2;exact floordiv_int (by omega) (by rw[Int.fdiv_eq_ediv_of_nonneg i (by omega)];exact q) (.inl (PyProof.noPylong_small (by omega)))
theorem cH:cw X (binaryOp .Mod) (rI (λ_ j=>0<j) λi j=>.int (i % j)):=Ap λi j _ _ _ _ _ z q=>by
 have h1:(0:Int)<j:=z;exact mod_int' (by omega) (by rw[Int.fmod_eq_emod_of_nonneg i (by omega)];exact q)
theorem DP:cw X (binaryOp .Pow) (rI XY λi j=>.int (i ^ j.toNat)):=Ap λ_ _ _ _ _ _ _ z q=>pow_int_small z.1 z.2.1 z.2.2 q
theorem XZ{f:Value->Sem Value}{g:Int->Int}
 (rule:∀(i:Int) (t:Tok) (s:Shared) (Q:VP) (E:VP),Q (.int (g i) s.toks) { s with toks:=s.toks+1 }->wpAny (model X.prog X.w) X.A (f (.int i t)) Q E s) :
 DK X f (rU λi=>.int (g i)):=by
 intro ad s Z H x v Q I j h;obtain⟨i,rfl,q⟩:=h;obtain⟨t,rfl⟩:=j;exact rule i t s _ _ ⟨.int (g i),H,I.tok _,⟨_,rfl⟩,q⟩
theorem vc:DK X (unaryOp .USub) (rU λi=>.int (-i)):=XZ λ_ _ _ _ _ q=>neg_int q
end
def Kr:V->V->Bool
 | .non,.non=>true | .non,.int _=>true | .int _,.non=>true | .non,.bl _=>true | .bl _,.non=>true | .non,.str _=>true | .str _,.non=>true
 | .int _,.int _=>true | .bl _,.bl _=>true | .str _,.str _=>true | .byt _,.byt _=>true
 | .int _,.str _=>true | .str _,.int _=>true | .bl _,.str _=>true | .str _,.bl _=>true
 | _,_=>false
def X2:R2:=λx y H Q=>Kr x y=true/\Q (.bl (decide (x=y))) H
def X3:R2:=λx y H Q=>Kr x y=true/\Q (.bl (!decide (x=y))) H
theorem Ks{i j:Int}:decide (V.int i=V.int j)=(i == j):=by
 rw[wI];simp
theorem Kt{i j:Bool}:decide (V.bl i=V.bl j)=(i == j):=by
 rw[wI];simp
theorem Ku{i j:Str}:decide (V.str i=V.str j)=(i == j):=by
 rw[wI];simp
theorem Kv{i j:Array UInt8}:decide (V.byt i=V.byt j)=(i.toList == j.toList):=by
 rw[wI];cases i;cases j;simp
section
variable {a b:Expr}{ta tb tc:TE}{pos:Pos}
theorem c5{H:Hp}{Q:VK}{k k':Bool}(I:Inv X ad Z H s)(q:Q (.bl k) H)(e:k=k'):EP X ad Z Q (.bool k') s:=by
 subst e;exact⟨.bl k,H,I,rfl,q⟩
theorem fV:cw X (compareOp .Eq) X2:=by
 intro ad s Z H x y v u Q I G z h;obtain⟨hs,q⟩:=h;cases x with
 | non=>
  cases G;cases y with
  | non=>cases z;exact PySem.EqNone.eq_none_none (c5 I q (by simp))
  | bl j=>cases z;exact PySem.EqNone.eq_none_bool (c5 I q (by simp))
  | int j=>obtain⟨t',rfl⟩:=z;exact PySem.EqNone.eq_none_int (c5 I q (by simp))
  | str j=>obtain⟨t',rfl⟩:=z;exact PySem.EqNone.eq_none_str (c5 I q (by simp))
  | _=>exact absurd (show false=true from hs) cS
 | bl i=>
  cases G;cases y with
  | non=>cases z;exact PySem.EqNone.eq_bool_none (c5 I q (by simp))
  | bl j=>cases z;exact eq_bool (c5 I q Kt)
  | str j=>obtain⟨t',rfl⟩:=z;exact PySem.EqMixed.eq_bool_str (c5 I q (by simp))
  | _=>exact absurd (show false=true from hs) cS
 | int i=>
  obtain⟨t,rfl⟩:=G;cases y with
  | non=>cases z;exact PySem.EqNone.eq_int_none (c5 I q (by simp))
  | int j=>obtain⟨t',rfl⟩:=z;exact eq_int (c5 I q Ks)
  | str j=>obtain⟨t',rfl⟩:=z;exact PySem.EqMixed.eq_int_str (c5 I q (by simp))
  | _=>exact absurd (show false=true from hs) cS
 | str i=>
  obtain⟨t,rfl⟩:=G;cases y with
  | non=>cases z;exact PySem.EqNone.eq_str_none (c5 I q (by simp))
  | bl j=>cases z;exact PySem.EqMixed.eq_str_bool (c5 I q (by simp))
  | int j=>obtain⟨t',rfl⟩:=z;exact PySem.EqMixed.eq_str_int (c5 I q (by simp))
  | str j=>obtain⟨t',rfl⟩:=z;exact eq_str (c5 I q Ku)
  | _=>exact absurd (show false=true from hs) cS
 | byt i=>
  obtain⟨t,rfl⟩:=G;cases y with
  | byt j=>obtain⟨t',rfl⟩:=z;exact W.eq_bytes (c5 I q Kv)
  | _=>exact absurd (show false=true from hs) cS
 | _=>cases y<;>exact absurd (show false=true from hs) cS
theorem Kw:cw X (compareOp .NotEq) X3:=by
 intro ad s Z H x y v u Q I G z h;obtain⟨hs,q⟩:=h;cases x with
 | non=>
  cases G;cases y with
  | non=>cases z;exact PySem.EqNone.ne_none_none (c5 I q (by simp))
  | bl j=>cases z;exact PySem.EqNone.ne_none_bool (c5 I q (by simp))
  | int j=>obtain⟨t',rfl⟩:=z;exact PySem.EqNone.ne_none_int (c5 I q (by simp))
  | str j=>obtain⟨t',rfl⟩:=z;exact PySem.EqNone.ne_none_str (c5 I q (by simp))
  | _=>exact absurd (show false=true from hs) cS
 | bl i=>
  cases G;cases y with
  | non=>cases z;exact PySem.EqNone.ne_bool_none (c5 I q (by simp))
  | bl j=>cases z;exact ne_bool (c5 I q (fo not Kt))
  | str j=>obtain⟨t',rfl⟩:=z;exact PySem.EqMixed.ne_bool_str (c5 I q (by simp))
  | _=>exact absurd (show false=true from hs) cS
 | int i=>
  obtain⟨t,rfl⟩:=G;cases y with
  | non=>cases z;exact PySem.EqNone.ne_int_none (c5 I q (by simp))
  | int j=>obtain⟨t',rfl⟩:=z;exact ne_int (c5 I q (fo not Ks))
  | str j=>obtain⟨t',rfl⟩:=z;exact PySem.EqMixed.ne_int_str (c5 I q (by simp))
  | _=>exact absurd (show false=true from hs) cS
 | str i=>
  obtain⟨t,rfl⟩:=G;cases y with
  | non=>cases z;exact PySem.EqNone.ne_str_none (c5 I q (by simp))
  | bl j=>cases z;exact PySem.EqMixed.ne_str_bool (c5 I q (by simp))
  | int j=>obtain⟨t',rfl⟩:=z;exact PySem.EqMixed.ne_str_int (c5 I q (by simp))
  | str j=>obtain⟨t',rfl⟩:=z;exact ne_str (c5 I q (fo not Ku))
  | _=>exact absurd (show false=true from hs) cS
 | byt i=>
  obtain⟨t,rfl⟩:=G;cases y with
  | byt j=>obtain⟨t',rfl⟩:=z;exact W.ne_bytes (c5 I q (fo not Kv))
  | _=>exact absurd (show false=true from hs) cS
 | _=>cases y<;>exact absurd (show false=true from hs) cS
theorem qJ:cw X (compareOp .Lt) (tm λi j=>.bl (decide (i<j))):=DN λ_ _ _ _ _ _ _ q=>lt_int q
theorem Aq:cw X (compareOp .LtE) (tm λi j=>.bl (decide (i<=j))):=DN λ_ _ _ _ _ _ _ q=>le_int q
theorem Kx:cw X (compareOp .Gt) (tm λi j=>.bl (decide (j<i))):=DN λ_ _ _ _ _ _ _ q=>gt_int q
theorem Ky:cw X (compareOp .Is) (λx y H Q=>y=.non/\Q (.bl (decide (x=.non))) H):=by
 intro ad s Z H x y v u Q I j z h;obtain⟨rfl,q⟩:=h;cases z;refine is_none_gen (c5 I q ?_);cases x<;>first
  | (cases j;rfl)
  | (obtain⟨t,rfl⟩:=j;rfl)
theorem As:cw X (compareOp .IsNot) (λx y H Q=>y=.non/\Q (.bl (!decide (x=.non))) H):=by
 intro ad s Z H x y v u Q I j z h;obtain⟨rfl,q⟩:=h;cases z;refine isnot_none_gen (c5 I q ?_);cases x<;>first
  | (cases j;rfl)
  | (obtain⟨t,rfl⟩:=j;rfl)
theorem bC(b:Expr){op:CmpOp}(h:op≠.In:=by decide)(h2:op≠.NotIn:=by decide):behindInMarks op b=false:=by
 have e1:(op == CmpOp.In)=false:=by cases op<;>first | rfl | exact absurd rfl h
 have e2:(op == CmpOp.NotIn)=false:=by cases op<;>first | rfl | exact absurd rfl h2
 cases b<;>simp[behindInMarks,e1,e2]
theorem mr{op:CmpOp}(O:cw X (compareOp op) r)(z:PE X a ta)(G:PE X b tb)(J:behindInMarks op b=false):PE X (.Compare a [op] [b] pos) (Ao r ta tb):=by
 intro ad s Z H Q I h;exact wpAny_Compare1 (DM z G I h λv u s2 x y H2 j U Y q=>O ad s2 Z H2 x y v u Q j U Y q) J
inductive Kz (Q:Bool->Hp->Prop) (H':Hp):V->Prop where
 | mk {k:Bool} (_:Q k H'):Kz Q H' (.bl k)
def X4(t:TE):TT:=λZ H Q=>t Z H λx H'=>Kz Q H' x
theorem bL{op:CmpOp}(ho:cw X (compareOp op) r)(ha:PE X a ta)(hb:PE X b tb)(hm:behindInMarks op b=false):PT X (.Compare a [op] [b] pos) (X4 (Ao r ta tb)):=by
 intro ad s Z H Q I h;refine aqk (thn (ha ad s Z H _ I h) λv s1 U=>ba U λx H1 G r1 q1=>thn (hb ad s1 Z H1 _ G q1) λu s2 Y=>ba Y λy H2 J r2 q2=>
  thn (ho ad s2 Z H2 x y v u _ J r1 r2 q2) λc s3 X7=>ba X7 λz H3 O r3 j=>?_) hm
 obtain @⟨k,q3⟩:=j;cases r3;exact qo ⟨H3,O,q3⟩
inductive KA (j:R2) (tc:TE) (Z:St) (Q:VK) (y:V) (H3:Hp):V->Prop where
 | mk {k:Bool} (_:(if k=true then tc Z H3 λG z=>j y G z Q else Q (.bl false) H3)):KA j tc Z Q y H3 (.bl k)
def X8(r j:R2)(ta tb tc:TE):TE:=λZ H Q=>ta Z H λx H1=>tb Z H1 λy H2=>r x y H2 λz H3=>KA j tc Z Q y H3 z
theorem DR{op j:CmpOp}{O:R2}(ho:cw X (compareOp op) r)(ir:cw X (compareOp j) O)(ha:PE X a ta)(hb:PE X b tb)(hc:PE X c tc)
 (hm:lastMarks [op,j] [b,c]=false:=by with_unfolding_all rfl):PE X (.Compare a [op,j] [b,c] pos) (X8 r O ta tb tc):=by
 intro ad s Z H Q I h;refine Compare_chain (thn (ha ad s Z H _ I h) λv s1 X9=>ba X9 λx H1 I1 r1 q1=>chain_link (thn (hb ad s1 Z H1 _ I1 q1) λu s2 Ya=>ba Ya λy H2 I2 U q2=>
  thn (ho ad s2 Z H2 x y v u _ I2 r1 U q2) λd s3 Yb=>ba Yb λz H3 G r3 Y=>?_)) hm
 obtain @⟨k,J⟩:=Y;cases r3;refine qo ?_;cases k with
 | false=>exact ite_ff ⟨.bl false,H3,G,rfl,J⟩
 | true=>exact ite_tt (chain_last (thn (hc ad s3 Z H3 _ G J) λw' s4 Yc=>ba Yc λz' H4 I4 r4 q4=>ir ad s4 Z H4 y z' u w' Q I4 U r4 q4))
theorem xi:(sizeLine:Nat)<2 ^ 63:=by rw[uN];decide
theorem xj:cw X (binaryOp .Add) (λx y H Q=>∃i j,x=.str i/\y=.str j/\i.length+j.length<=sizeLine/\Q (.str (i++j)) H):=by
 intro ad s Z H x y v u Q I z G h;obtain⟨i,j,rfl,rfl,hz,q⟩:=h;obtain⟨t,rfl⟩:=z;obtain⟨t',rfl⟩:=G;exact add_str (λt' tk=>⟨.str (i++j),H,I.tok _,⟨_,rfl⟩,q⟩) hz
theorem vals1{x:V}(r:bc [x] us):∃u,us=[u]/\RelV x u:=by
 cases r with
 | cons j z=>cases z;exact⟨_,rfl,j⟩
theorem vals2{x y:V}(r:bc [x,y] us):∃u j,us=[u,j]/\RelV x u/\RelV y j:=by
 cases r with
 | cons z G=>
  cases G with
  | cons J O=>cases O;exact⟨_,_,rfl,z,J⟩
theorem Yd(G:X.calm=true):fh X (.builtin "min") (λxs H Q=>∃i j,xs=[.int i,.int j]/\Q (.int (if j<i then j else i)) H):=by
 intro ad s Z H xs us Q I r h;obtain⟨i,j,rfl,q⟩:=h;obtain⟨u,J,rfl,⟨t,rfl⟩,⟨t',rfl⟩⟩:=vals2 r;refine min_two_ints (I.ok.hd G) λh' tk k=>⟨_,H,I.kept k,?_,q⟩
 by_cases z:j<i
 . rw[am z,am z];exact⟨_,rfl⟩
 rw[ah z,ah z];exact⟨_,rfl⟩
theorem Ye:fh X (.type "str") (λxs H Q=>∃i,xs=[.int i]/\i.natAbs.log2<1920/\Q (.str (toString i)) H):=by
 intro ad s Z H xs us Q I r h;obtain⟨i,rfl,hz,q⟩:=h;obtain⟨u,rfl,t,rfl⟩:=vals1 r;exact PySem.P.str_of_int hz ⟨.str _,H,I.tok _,⟨_,rfl⟩,q⟩
end
structure tq(h:Heap)(x dx C:Addr)(mA:Mv):Prop where
 obj:h.get? x=some (W.instObj C dx)
 ns:h.Ns1 dx mA
 ne:dx≠x
theorem Yf{h:Heap}(n:h.Ns1 dx mA):∃od,h.get? dx=some od/\∀name,W.lookIn name od=some (mA name):=by
 obtain⟨o,es,ep,O,hd,G,_,J⟩:=n;refine⟨o,O,λname=>?_⟩;have e:=J name;unfold nsFind findBy at e;rw[<-Array.find?_toList]at e;unfold W.lookIn;rw[hd];dsimp only;split
 . rename_i y q;rw[q]at e;exact fo some e
 rename_i q;rw[q]at e;have a:es.toList.any (·.refKey)=false:=by
  rw[List.any_eq_false];intro y U;obtain⟨z,t,Y⟩:=G y (Array.mem_toList_iff.mp U);simp[DictEntry.refKey,Y]
 have j:¬es.toList.any (·.refKey)=true:=by rw[a];exact cS
 rw[ah j];exact fo some e
theorem tq.look{h:Heap}{x:Addr}(I:tq h x dx C mA):∃od,W.InstAt h x (W.instObj C dx) C (some od)/\∀name,W.lookIn name od=some (mA name):=
 (Yf I.ns).elim λod j=>j.elim λG z=>⟨od,⟨I.obj,rfl,rfl,G⟩,z⟩
section
variable {prog:Program}{x:Addr}{name:Str}{v:Value}
theorem Yh{j:Bool}{Q:VP}(X:K.In s.heap)(I:tq s.heap x dx C mA)(G:W.plainGet K C name=true)(hh:W.hasDictIn K C=true)
 (z:W.findIn K (.ref C) name=some none) (U:mA name=some v) (Y:W.handedIn v=true) (h:Q v { s with toks:=s.toks+1 }) :
 wpAny (model prog w) A (getAttr (.ref x) name j) Q E s:=by
 obtain⟨od,J,O⟩:=I.look;exact W.get_value X J (Vi G).1 (W.findObj_own hh z rfl (by rw[O,U])) Y h
theorem Yi{Q:Value×Lw->Shared->Prop}(X:K.In s.heap)(I:tq s.heap x dx C mA)(j:W.plainGet K C name=true)
 (z:W.findIn K (.ref C) name=some (some (.ref f))) (O:W.isFn K (.ref f)=true) (U:mA name=none) (h:Q (.ref f,[.ref x]) s) :
 wpAny (model prog w) A (getMethod (.ref x) name pl) Q E s:=by
 obtain⟨od,J,G⟩:=I.look;exact W.method_fn X J (Vi j).1 (Vi j).2 z (kO.mp O) (by show(W.lookIn name od).map (·.isSome)=some false;rw[G,U];rfl) h
theorem Yj{ns:Ls}{Q:Unit->Shared->Prop}(X:K.In s.heap)(I:tq s.heap x dx C mA)
 (hs:W.findIn K (.ref C) "__setattr__"=some (some (.builtin "object.__setattr__"))) (hp:W.plainOver K C=true) (ht:W.takerIn K C name=some none) (hh:W.hasDictIn K C=true)
 (hw:PySem.Within mA ns) (hsz:ns.length<=sizeLine)
 (h:∀h',tq h' x dx C (λy=>if y=name then some v else mA y)->Heap.SameBut dx s.heap h'->Q () { s with heap:=h',toks:=s.toks+2 }) :
 wpAny (model prog w) A (setAttr (.ref x) name v) Q E s:=by
 obtain⟨od,J,hl⟩:=I.look;refine W.set_plain X J hs (W.osa_open (s:={ s with toks:=s.toks+1 }) (r:=none) X J hp ht λb=>?_);obtain⟨cd,Y,jd⟩:=W.any_some hh;have hx:s.heap.get? x=some ⟨.ref C,some dx,.plain,#[]⟩:=I.obj;refine af (au (af (af (wpAny_loadPart hx (af (W.Looks.here (s:={ s with toks:=s.toks+1 }) (W.looks_clsIn X Y) ?_))))));rw[jd];refine au (a:=some dx) (af (au (af ?_)));refine wpAny_nsSet1 (s:={ s with toks:=s.toks+1 }) I.ns λh' z j=>?_;obtain⟨oD,a1,a0,G,O,U⟩:=z.count (PySem.Within.cons name v hw);refine af (wpAny_lookBehind G (by rw[O];exact pastItsLine_dict (cn U (by rw[cq];omega))) ?_);exact au (h _ ⟨(j.2 _ (gy I.ne)).trans I.obj,z,I.ne⟩ j)
theorem Yn{R:Result->Shared->Prop}(X:K.In s.heap)(z:W.makesIn K C=true)
 (hi:W.findIn K (.ref C) "__init__"=some (some (.ref f))) (j:W.typeIn K (.ref f)=some (.type "function"))
 (h:codeAny (model prog w) (A.under (.builtin "type.__call__" ⟨.ref C::vs,kw⟩)) (.call (.ref f) ⟨.ref (s.heap.objs.size+1)::vs,kw⟩) (W.InitBack (s.heap.objs.size+1) R)
  { s with heap:=(s.heap.push W.emptyDict).push (W.instObj C s.heap.objs.size) }) :
 codeAny (model prog w) A (.call (.ref C) ⟨vs,kw⟩) R s:=by
 obtain⟨hh,g,d,t,os⟩:=s;exact W.make_core (W.makes_of X z) (W.looks_findIn X hi) (λself=>W.bind_fn X self j) (.inl rfl) h
end
def aB(f:Str)(v:V):List (Str×V)->List (Str×V)
 | []=>[(f,v)]
 | (g,x)::r=>if g=f then(g,v)::r else(g,x)::aB f v r
theorem cK(f g:Str)(v:V):∀fs:List (Str×V),(aB f v fs).lookup g=if g=f then some v else fs.lookup g
 | []=>by
  show List.lookup g [(f,v)]=_
  by_cases h:g=f
  . have j:(g == f)=true:=kO.mpr h;simp only[List.lookup,j,am h]
  have j:(g == f)=false:=wD.mpr h;simp only[List.lookup,j,ah h]
 | (k,x)::r=>by
  have G:=cK f g v r;rw[show aB f v ((k,x)::r)=(if k=f then(k,v)::r else(k,x)::aB f v r) from rfl]
  by_cases z:k=f
  . rw[am z]
    by_cases h:g=k
    . have j:(g == k)=true:=kO.mpr h;simp only[List.lookup,j,am (h.trans z)]
    have j:(g == k)=false:=wD.mpr h;simp only[List.lookup,j,ah (λe:g=f=>h (e.trans z.symm))]
  rw[ah z]
  by_cases h:g=k
  . have j:(g == k)=true:=kO.mpr h;simp only[List.lookup,j,ah (λe:g=f=>z (h.symm.trans e))]
  have j:(g == k)=false:=wD.mpr h;simp only[List.lookup,j];exact G
theorem DW(f:Str)(v:V):∀fs:List (Str×V),f∈(aB f v fs).map (·.1)/\∀g,g∈fs.map (·.1)->g∈(aB f v fs).map (·.1)
 | []=>⟨by simp[aB],λg h=>by simp at h⟩
 | (k,x)::r=>by
  obtain⟨z,G⟩:=DW f v r;rw[show aB f v ((k,x)::r)=(if k=f then(k,v)::r else(k,x)::aB f v r) from rfl]
  by_cases j:k=f
  . rw[am j];subst j;exact⟨by simp,λg h=>by simpa using h⟩
  rw[ah j];refine⟨?_,λg h=>?_⟩
  . rw[bV];exact bR _ z
  rw[bV]at h ⊢
  rcases bf.mp h with e | e
  . exact bf.mpr (.inl e)
  exact bR _ (G g e)
theorem DX(f:Str)(v:V):∀fs:List (Str×V),(aB f v fs).length<=fs.length+1
 | []=>by simp[aB]
 | (k,x)::r=>by
  have z:=DX f v r;rw[show aB f v ((k,x)::r)=(if k=f then(k,v)::r else(k,x)::aB f v r) from rfl]
  by_cases j:k=f
  . rw[am j,cq,cq];omega
  rw[ah j,cq,cq];omega
theorem gM.some_of{v:V}{o:Option Value}(r:gM (some v) o):∃u,o=some u/\RelV v u:=by
 cases o with
 | none=>exact(show False from r).elim
 | some u=>exact⟨u,rfl,r⟩
theorem gM.none_of{o:Option Value}(r:gM none o):o=none:=by
 cases o with
 | none=>rfl
 | some u=>exact(show False from r).elim
theorem Yo{v:V}(r:RelV v u):W.handedIn u=true:=by
 cases v with
 | non=>cases (show u=Value.none from r);rfl
 | bl b=>cases (show u=Value.bool b from r);rfl
 | int i=>obtain⟨t,e⟩:=(show∃t,u=Value.int i t from r);cases e;rfl
 | str x=>obtain⟨t,e⟩:=(show∃t,u=Value.str x t from r);cases e;rfl
 | byt b=>obtain⟨t,e⟩:=(show∃t,u=Value.bytes b t from r);cases e;rfl
 | flt b=>obtain⟨t,e⟩:=(show∃t,u=Value.float b t from r);cases e;rfl
 | ref a=>cases (show u=Value.ref a from r);rfl
 | ty n=>cases (show u=Value.type n from r);rfl
section
variable {H H':Hp}{h:Heap}{fs eL:List (Str×V)}
theorem Au(hok:cC P w H h)(e:H a=some (.ins C dx fs)):∃mA,tq h a dx C mA/\(∀f,gM (fs.lookup f) (mA f))/\PySem.Within mA (fs.map (·.1))/\fs.length<=1000/\H dx=some (.own a):=by
 obtain⟨d,z,ne,ob,mA,n,r,q⟩:=(show cb P w H h a (.ins C dx fs) from hok a _ e);exact⟨mA,⟨ob,n,ne⟩,r,q,z,d⟩
end
structure iR(K:Fg)(C:Addr):Prop where
 pg:W.plainGet K C Str.empty=true
 hd:W.hasDictIn K C=true
 po:W.plainOver K C=true
 sa:W.findIn K (.ref C) "__setattr__"=some (some (.builtin "object.__setattr__"))
theorem iR.get(c:iR K C)(f:Str):W.plainGet K C f=true:=c.pg
def fH(K:Fg)(C:Addr)(f:Str):Prop:=W.findIn K (.ref C) f=some none
theorem fH.taker{f:Str}(n:fH K C f):W.takerIn K C f=some none:=by
 unfold W.takerIn;rw[show W.findIn K (.ref C) f=some none from n];rfl
structure xp(K:Fg)(C:Addr)(m:Str)(f:Addr):Prop where
 at_:W.findIn K (.ref C) m=some (some (.ref f))
 fn:W.isFn K (.ref f)=true
 kp:W.keepIn K (.ref f)=true
section
variable {H:Hp}{fs:List (Str×V)} {f:Str}{v:V}
theorem Yp{b:Bool}{Q:VP}(I:Inv X ad Z H s)(e:H a=some (.ins C dx fs))(c:iR X.K C)(n:fH X.K C f)(l:fs.lookup f=some v)
 (h:∀u s',Inv X ad Z H s'->RelV v u->Q u s'):wpAny (model X.prog X.w) A (getAttr (.ref a) f b) Q E s:=by
 obtain⟨mA,O,r,_,_,_⟩:=Au I.hok e;obtain⟨u,z,j⟩:=gM.some_of (v:=v) (o:=mA f) (by rw[<-l];exact r f);exact Yh I.kIn O (c.get f) c.hd n z (Yo j) (h u _ (I.tok _) j)
theorem DY{m:Str}{g:Addr}{Q:Value×Lw->Shared->Prop}(I:Inv X ad Z H s)(e:H a=some (.ins C dx fs))(c:iR X.K C)(k:xp X.K C m g)(l:fs.lookup m=none)
 (h:Q (.ref g,[.ref a]) s):wpAny (model X.prog X.w) A (getMethod (.ref a) m pl) Q E s:=by
 obtain⟨mA,O,r,_,_,_⟩:=Au I.hok e;have j:mA m=none:=gM.none_of (by rw[<-l];exact r m);exact Yi I.kIn O (c.get m) k.at_ k.fn j h
theorem Yq{y:V}{Q:Unit->Shared->Prop}(I:Inv X ad Z H s)(e:H a=some (.ins C dx fs))(c:iR X.K C)(n:fH X.K C f)(hl:fs.length<1000)(ry:RelV y u)
 (h:∀s',Inv X ad Z (ag H a (.ins C dx (aB f y fs))) s'->Q () s'):wpAny (model X.prog X.w) A (setAttr (.ref a) f u) Q E s:=by
 obtain⟨mA,O,r,J,_,G⟩:=Au I.hok e;have hz:(fs.map (·.1)).length<=sizeLine:=by rw[ak,uN];omega
 refine Yj I.kIn O c.sa c.po n.taker c.hd J hz λh' j sb=>h _ ?_;have hd:∃o,h'.get? dx=some o:=j.ns.elim λo U=>U.elim λ_ Y=>Y.elim λ_ Yt=>Yt.elim λe' _=>⟨o,e'⟩;refine I.write (x:=a) (e:=dx) (by rw[e];exact True.intro) (.inr G) (λb q hb z=>(sb.2 b hb).trans z) hd ?_;refine⟨by rw[bg O.ne];exact G,?_,O.ne,j.obj,_,j.ns,λg=>?_,λg hg=>?_⟩
 . have:=DX f y fs;omega
 . show gM ((aB f y fs).lookup g) (if g=f then some u else mA g);rw[cK]
   by_cases q:g=f
   . rw[am q,am q];exact ry
   rw[ah q,ah q];exact r g
 by_cases q:g=f
 . rw[q];exact(DW f y fs).1
 refine(DW f y fs).2 g (J g λz=>hg ?_);show(if g=f then some u else mA g)=none;rw[ah q];exact z
theorem Inv.made(I:Inv X ad Z H s):Inv X ad Z (ag (ag H s.heap.objs.size (.own (s.heap.objs.size+1))) (s.heap.objs.size+1) (.ins C s.heap.objs.size []))
 { s with heap:=(s.heap.push W.emptyDict).push (W.instObj C s.heap.objs.size) }:=by
 have e1:(s.heap.push W.emptyDict).get? s.heap.objs.size=some W.emptyDict:=dA s.heap rfl;have e2:((s.heap.push W.emptyDict).push (W.instObj C s.heap.objs.size)).get? (s.heap.objs.size+1)=some (W.instObj C s.heap.objs.size):=by
  have:=dA (s.heap.push W.emptyDict) (o:=W.instObj C s.heap.objs.size) rfl
  rwa [rZ]at this
 have e3:(s.heap.push W.emptyDict).Ns s.heap.objs.size (λ_=>none):=⟨W.emptyDict,#[],_,e1,rfl,(λe z=>absurd z (by simp)),λ_=>rfl⟩;have j:=I.laid (a:=s.heap.objs.size) (o:=.own (s.heap.objs.size+1)) (h':=s.heap.push W.emptyDict) (t':=s.toks) (λb u q=>b9 _ q) (aK _) ⟨_,e1⟩;refine j.laid (a:=s.heap.objs.size+1) (o:=.ins C s.heap.objs.size []) (t':=s.toks) (λb u q=>b9 _ q) (wJ (rZ _ _)) ?_;have ne:s.heap.objs.size≠s.heap.objs.size+1:=cX (wK _);refine⟨by rw[bg ne,aD],dF _,ne,e2,λ_=>none,(Heap.Ns1.of_empty e3).at λo q=>b9 _ q,λ_=>True.intro,λy G=>absurd rfl G⟩
theorem Yu{prog:Program}{env:Env}{f:Str}{pos:Pos}{Q:VP}(j:attributeBase e f env (eval e env)=eval e env)
 (h:wpAny (model prog w) A (eval e env) (λo z=>wpAny (model prog w) A (getAttr o f true) Q E z) E s):wpAny (model prog w) A (eval (.Attribute e f pos) env) Q E s:=
 Attribute_any_ h (by rw[arm_eval_Attribute,j])
end
inductive KC (K:Fg) (f:Str) (Q:VK) (H1:Hp):V->Prop where
 | mk {a:Addr}{C:Addr}{dx:Addr}{fs:List (Str×V)}{v:V} (_:H1 a=some (.ins C dx fs)) (_:iR K C) (_:fH K C f) (_:fs.lookup f=some v) (_:Q v H1):KC K f Q H1 (.ref a)
def KD(K:Fg)(ta:TE)(f:Str):TE:=λZ H Q=>ta Z H λx H1=>KC K f Q H1 x
inductive KG (K:Fg) (f:Str) (D:Ends) (Z:St) (y:V) (H2:Hp):V->Prop where
 | mk {a:Addr}{C:Addr}{dx:Addr}{fs:List (Str×V)} (_:H2 a=some (.ins C dx fs)) (_:iR K C) (_:fH K C f) (_:fs.length<1000) (_:D.nx Z (ag H2 a (.ins C dx (aB f y fs)))):KG K f D Z y H2 (.ref a)
def Yv(K:Fg)(ta tv:TE)(f:Str):TS:=λD Z H=>tv Z H λy H1=>ta Z H1 λx H2=>KG K f D Z y H2 x
section
variable {o value:Expr}{f:Str}{pos pos' vd:Pos}{ta tv:TE}
theorem bG(Y:PE X e ta)(U:attributeBase e f X.env (eval e X.env)=eval e X.env):PE X (.Attribute e f pos) (KD X.K ta f):=by
 intro ad s Z H Q I h;refine Yu U (thn (Y ad s Z H _ I h) λu s1 G=>ba G λx H1 j rx J=>?_);obtain @⟨a,C,dx,fs,v,O,c,n,l,q⟩:=J;obtain rfl:u=Value.ref a:=rx;exact Yp j O c n l λu' s2 z ru=>⟨v,H1,z,ru,q⟩
theorem hX(ha:PE X o ta)(hv:PE X value tv)(hs:swapsWith value (some (.Attribute o f pos')) pos.line X.env=pure false):PS X (.Assign [.Attribute o f pos'] value pos) (Yv X.K ta tv f):=by
 intro ad s Z H D I h;refine plainObj_wpAny_Assign_Attribute (thn (hv ad s Z H _ I h) λu s1 O=>ba O λy H1 j ry q=>thn (ha ad s1 Z H1 _ j q) λov s2 U=>ba U λx H2 z rx J=>?_) hs;obtain @⟨a,C,dx,fs,Y,c,n,l,q2⟩:=J;obtain rfl:ov=Value.ref a:=rx;exact Yq z Y c n l ry λs3 G=>⟨Z,_,G,q2⟩
end
section
variable {H:Hp}{Q:VP}{c:Value}{b:Bool}
inductive jY (K:Fg) (H:Hp):V->Value->Prop where
 | non:jY K H .non (.type "NoneType")
 | bl (x:Bool):jY K H (.bl x) (.type "bool")
 | int (i:Int):jY K H (.int i) (.type "int")
 | str (x:Str):jY K H (.str x) (.type "str")
 | flt (x:UInt64):jY K H (.flt x) (.type "float")
 | lst {a:Addr}{xs:ae} (e:H a=some (.lst xs)):jY K H (.ref a) (.type "list")
 | frz {a:Addr}{o:Obj}{xs:ae} (e:H a=some (.frz o (.lst xs))):jY K H (.ref a) (.type "list")
 | tup {a:Addr}{xs:ae} (e:H a=some (.tup xs)):jY K H (.ref a) (.type "tuple")
 | dK {a:Addr}{kvs:List (ao×V)} (e:H a=some (.dK kvs)):jY K H (.ref a) (.type "dict")
 | dT {a:Addr}{kvs:List (List NI×V)} (e:H a=some (.dT kvs)):jY K H (.ref a) (.type "dict")
 | ins {a C dx:Addr}{fs:List (Str×V)} (e:H a=some (.ins C dx fs)) (z:iR K C) (G:W.findIn K (.ref C) "__class__"=some (some (.builtin "object.__class__")))
  (O:W.specialIn K (.builtin "object.__class__") "__get__"=some (some (.builtin "getset_descriptor.__get__"))) (j:W.takesIn K (.builtin "object.__class__")=some true)
  (J:W.mroIn K C (.type "object")=some true):jY K H (.ref a) (.ref C)
theorem YB{x:V}{t:Value}(I:Inv X ad Z H s)(G:RelV x u)(ty:jY X.K H x t)(e:W.kitOne X.K t c=some b)(h:∀tk,Q (.bool b) { s with toks:=tk }) :
 wpAny (model X.prog X.w) A (call (.builtin "isinstance") [u,c]) Q E s:=by
 cases ty with
 | non=>cases (show u=Value.none from G);exact oV W.kitx_none I.kIn True.intro e (λz=>nomatch z) h
 | bl y=>cases (show u=Value.bool y from G);exact oV W.kitx_bool I.kIn True.intro e (λz=>nomatch z) h
 | int i=>obtain⟨t,q⟩:=(show∃t,u=Value.int i t from G);cases q;exact oV W.kitx_int I.kIn True.intro e (λz=>nomatch z) h
 | str y=>obtain⟨t,q⟩:=(show∃t,u=Value.str y t from G);cases q;exact oV W.kitx_str I.kIn True.intro e (λz=>nomatch z) h
 | flt y=>obtain⟨t,q⟩:=(show∃t,u=Value.float y t from G);cases q;exact oV W.kitx_float I.kIn True.intro e (λz=>nomatch z) h
 | @lst a xs j=>
  cases (show u=Value.ref a from G);obtain⟨_,_,n,_,h1⟩:=(show cb X.prog X.w H s.heap a (.lst xs) from I.hok a _ j);exact oV W.kitx_list I.kIn ⟨_,h1,rfl⟩ e (λz=>nomatch z) h
 | @frz a ob xs j=>
  cases (show u=Value.ref a from G);obtain⟨_,_,_,n,_,h1⟩:=(show cb X.prog X.w H s.heap a (.frz ob (.lst xs)) from I.hok a _ j);exact oV W.kitx_list I.kIn ⟨_,h1,rfl⟩ e (λz=>nomatch z) h
 | @tup a xs j=>
  cases (show u=Value.ref a from G);obtain⟨_,_,_,p⟩:=(show cb X.prog X.w H s.heap a (.tup xs) from I.hok a _ j);obtain⟨o,h1,h2,_⟩:=p;exact oV W.kitx_tuple I.kIn ⟨o,h1,h2⟩ e (λz=>nomatch z) h
 | @dK a kvs j=>
  cases (show u=Value.ref a from G);obtain⟨_,_,vs,_,p⟩:=(show cb X.prog X.w H s.heap a (.dK kvs) from I.hok a _ j);obtain⟨o,es,ep,h1,h2,_⟩:=p;exact oV W.kitx_dict I.kIn ⟨o,h1,h2.1⟩ e (λz=>nomatch z) h
 | @dT a kvs j=>
  cases (show u=Value.ref a from G);obtain⟨_,_,xs,_,o,es,ep,h1,h2,_⟩:=(show cb X.prog X.w H s.heap a (.dT kvs) from I.hok a _ j);exact oV W.kitx_dict I.kIn ⟨o,h1,h2.1⟩ e (λz=>nomatch z) h
 | @ins a C dx fs j U ha hn Y hm=>
  cases (show u=Value.ref a from G);obtain⟨mA,O,_⟩:=Au I.hok j;obtain⟨od,J,_⟩:=O.look;exact oV (W.kitx_own (U.get _) U.hd ha hn Y hm) I.kIn J e (λz=>nomatch z) h
end
structure ce(k:Nat)(A:Around):Prop where
 hd:A.handled=none
 dp:A.depth+3 * k+5<recursionLimit
 un:A.units+16 * k+200<cLine
 gd:A.guards=some []
theorem ce.mono{j k:Nat}(r:ce k A)(h:j<=k):ce j A:=⟨r.hd,by have:=r.dp;omega,by have:=r.un;omega,r.gd⟩
theorem ce.deeper{k:Nat}(r:ce (k+1) A)(env:Env):ce k (A.deeper env):=
 ⟨r.hd,by have:=r.dp;show A.depth+1+3 * k+5<_;omega,by have:=r.un;show A.units+3+16 * k+200<_;omega,r.gd⟩
theorem ce.in1{k:Nat}(r:ce (k+1) A):ce k A.in1:=
 ⟨r.hd,by have:=r.dp;show A.depth+3 * k+5<_;omega,by have:=r.un;show A.units+1+16 * k+200<_;omega,r.gd⟩
theorem YC:(A.under (.builtin "type.__call__" ⟨.ref C::us,kw⟩)).depth=A.depth+1:=by
 first | rfl | simp[Around.under,Code.weight,Code.isCreation,Code.isGuard,Code.isCaller,Code.frames,Code.isFrame,guardIds]
theorem YD:(A.under (.builtin "type.__call__" ⟨.ref C::us,kw⟩)).units=A.units+1:=by
 first | rfl | simp[Around.under,Code.cUnits,Code.frames,Code.isFrame]
theorem YE:(A.under (.builtin "type.__call__" ⟨.ref C::us,kw⟩)).guards=A.guards:=by
 first | rfl | simp[Around.under,pushGuards,Code.guards,Code.isGuard,guardIds]
theorem ce.make{k:Nat}(r:ce (k+1) A)(C:Addr)(us:Lw)(kw:List (Str×Value)):ce k (A.under (.builtin "type.__call__" ⟨.ref C::us,kw⟩)):=
 ⟨r.hd,by have:=r.dp;rw[YC];omega,by have:=r.un;rw[YD];omega,YE.trans r.gd⟩
theorem ce.depth{k:Nat}(r:ce k A):A.depth<recursionLimit:=by have:=r.dp;omega
theorem ce.units{k:Nat}(r:ce k A):A.units+64<cLine:=by have:=r.un;omega
theorem ce.units0{k:Nat}(r:ce k A):A.units<cLine:=by have:=r.un;omega
def dY:TA:=λ_ H Q=>Q [] H
def eP(ta:TE)(tr:TA):TA:=λZ H Q=>ta Z H λx H1=>tr Z H1 λxs H2=>Q (x::xs) H2
section
variable {te:TE}{t:TA}{pos:Pos}
theorem dG:PA X [] dY:=λ_ _ _ _ H Q I h=>Vj ⟨[],H,I,.nil,h⟩
theorem jg(O:PE X e te)(U:PA X es t)(hs:starEach (e::es) X.env=(false,eval e X.env)::starEach es X.env:=by rfl):PA X (e::es) (eP te t):=by
 intro pos ad s Z H Q I h;rw[hs];show wpAny _ _ (spliced ((false,eval e X.env)::backTo pos (starEach es X.env))) _ _ s;refine Vk (thn (O ad s Z H _ I h) λu s1 G=>ba G λx H1 j r1 Y=>?_);exact thn (U pos ad s1 Z H1 _ j Y) λus s2 J=>ba J λxs H2 z r2 q2=>⟨x::xs,H2,z,.cons r1 r2,q2⟩
def DZ(t:TA):TE:=λZ H Q=>t Z H λxs H1=>xs.length<=sizeLine/\∀p,H1 p=none->Q (.ref p) (ag H1 p (.tup xs))
def YH(t:TA):TE:=λZ H Q=>t Z H λxs H1=>xs.length<=sizeLine/\∀p,H1 p=none->Q (.ref p) (ag H1 p (.lst xs))
theorem KI{x1}(h:PA X es t):PE X (.Tuple es x1 pos) (DZ t):=by
 intro ad s Z H Q I Y;refine wpAny_Tuple_spliced (thn (h pos ad s Z H _ I Y) λus j J=>ba J λxs H1 G r O=>O.elim λz q=>⟨by rw[<-r.length];exact z,?_⟩);have U:H1 j.heap.objs.size=none:=G.hok.fresh (aK _);refine⟨.ref j.heap.objs.size,ag H1 j.heap.objs.size (.tup xs),G.laid (t':=j.toks) (λb u e=>b9 _ e) (aK _) ?_,rfl,q _ U⟩;exact⟨z,us,r,⟨_,dA _ rfl,rfl,_,rfl⟩⟩
theorem YK(h:PA X es t):PE X (.List es pos) (YH t):=by
 intro ad s Z H Q I Y;refine wpAny_List_spliced (thn (h pos ad s Z H _ I Y) λus j J=>ba J λxs H1 G r O=>O.elim λz q=>⟨by rw[<-r.length];exact z,?_⟩);have U:H1 j.heap.objs.size=none:=G.hok.fresh (aK _);refine⟨.ref j.heap.objs.size,ag H1 j.heap.objs.size (.lst xs),G.laid (t':=j.toks) (λb u e=>b9 _ e) (aK _) ?_,rfl,q _ U⟩;exact⟨z,us,0,r,dA _ rfl⟩
end
abbrev Sp:=ae->Hp->VK->XK->Prop
variable {sp:Sp}
abbrev gN:=List Env->Hp->Shared->XK->Value->Shared->Prop
variable {CX:gN}
structure mv(P:Program)(w:World)(K:Fg)(mg:Mv)(base:Heap)(A:Around)(outer:List Env)(s:Shared)(H:Hp):Prop where
 frames:A.frames=some outer
 mod:Mod K mg base
 bs:∀b o,base.get? b=some o->s.heap.get? b=some o/\H b=none
 bsz:base.objs.size<=s.heap.objs.size
 funs:s.heap.FunFrames base outer
 frf:∀b∈cN outer,H b=none
 hok:cC P w H s.heap
 bare:AllBare s.gens
def CE(outer:List Env)(P:Program)(w:World)(H:Hp)(s:Shared)(Q:VK)(u:Value)(s':Shared):Prop:=
 ∃v H',s'.os=s.os/\AllBare s'.gens/\Un (cN outer) [] H H' s.heap s'.heap/\cC P w H' s'.heap/\RelV v u/\Q v H'
def CR(CX:gN)(outer:List Env)(P:Program)(w:World)(H:Hp)(s:Shared)(Q:VK)(E:XK)(r:Result)(s':Shared):Prop:=
 match r with
 | .ok (.ret u)=>CE outer P w H s Q u s'
 | .ok _=>False
 | .error e=>CX outer H s E e s'
structure aw(P:Program)(w:World)(K:Fg)(mg:Mv)(base:Heap)(CX:gN)(k:Nat)(f:Addr)(fd:Fy)(ps:Ls)(sp:Sp):Prop where
 len:∀vs H Q E,sp vs H Q E->vs.length=ps.length
 run:∀(A:Around) (outer:List Env) (s:Shared) (H:Hp) (args:Args) (us:Lw) (vs:ae) (Q:VK) (E:XK),ce k A->mv P w K mg base A outer s H->BindsTo s fd args (ps.zip us)->bc vs us->sp vs H Q E ->
  codeAny (model P w) A (.call (.ref f) args) (CR CX outer P w H s Q E) s
theorem aw.mono{j k:Nat}(F:aw P w K mg base CX j f fd ps sp)(h:j<=k) :
 aw P w K mg base CX k f fd ps sp:=⟨F.len,λA outer s H args us vs Q E z=>F.run A outer s H args us vs Q E (z.mono h)⟩
theorem aw.imp{k:Nat}{j:Sp}(F:aw P w K mg base CX k f fd ps sp)
 (h:∀vs H Q E,j vs H Q E->sp vs H Q E):aw P w K mg base CX k f fd ps j:=
 ⟨λvs H Q E q=>F.len vs H Q E (h _ _ _ _ q),λA outer s H args us vs Q E J G z O hs=>F.run A outer s H args us vs Q E J G z O (h _ _ _ _ hs)⟩
theorem mv.make{outer:List Env}{H:Hp}(e:mv P w K mg base A outer s H)(C:Addr)(us:Lw)(kw:List (Str×Value)) :
 mv P w K mg base (A.under (.builtin "type.__call__" ⟨.ref C::us,kw⟩)) outer s H:=⟨by first | exact e.frames | (simpa [Around.under,Code.envs,Code.isFrame,pushEnvs]using e.frames),e.mod,e.bs,e.bsz,e.funs,e.frf,e.hok,e.bare⟩
theorem mv.in1{outer:List Env}{H:Hp}(e:mv P w K mg base A outer s H) :
 mv P w K mg base A.in1 outer s H:=⟨e.frames,e.mod,e.bs,e.bsz,e.funs,e.frf,e.hok,e.bare⟩
section
variable {H:Hp}
theorem Inv.env0(I:Inv X ad Z H s):mv X.prog X.w X.K X.mg X.base X.A X.stack s H:=
 ⟨I.ok.frames,I.ok.mod,I.bs,cn I.ok.bsz I.sz,I.stack,I.stkFree,I.hok,I.bare⟩
theorem Inv.after{Q:VK}(I:Inv X ad Z H s)(h:CE X.stack X.prog X.w H s Q u s'):EP X ad Z Q u s':=by
 obtain⟨v,H',os,G,un,hok,r,q⟩:=h;obtain⟨hh,g,d,t,j⟩:=s';obtain rfl:j=s.os:=os;exact⟨v,H',I.call (h':=hh) (g':=g) (d':=d) (t':=t) (ch:=[]) un hok G (λb z=>absurd z (by simp)),r,q⟩
end
def xq(sp:Sp)(cY:ae)(E:XK)(t:TA):TE:=λZ H Q=>t Z H λvs H1=>sp (vs++cY) H1 Q E
inductive KL (C:Addr) (m:Str) (sp:Sp) (cY:ae) (E:XK) (t:TA) (Z:St) (Q:VK) (H1:Hp):V->Prop where
 | mk {a:Addr}{dx:Addr}{fs:List (Str×V)} (_:H1 a=some (.ins C dx fs)) (_:fs.lookup m=none) (_:t Z H1 λvs H2=>sp ((.ref a)::(vs++cY)) H2 Q E):KL C m sp cY E t Z Q H1 (.ref a)
def Ax(C:Addr)(m:Str)(sp:Sp)(cY:ae)(E:XK)(ta:TE)(t:TA):TE:=λZ H Q=>ta Z H λx H1=>KL C m sp cY E t Z Q H1 x
def KN(C:Addr)(sp:Sp)(cY:ae)(E:XK)(t:TA):TE:=λZ H Q=>t Z H λvs H1=>∀x dx,H1 x=none->H1 dx=none->dx≠x ->
 sp (.ref x::(vs++cY)) (ag (ag H1 dx (.own x)) x (.ins C dx [])) (λv H2=>v=.non/\Q (.ref x) H2) E
def Binds(K:Fg)(fd:Fy)(ps:Ls)(ds:Lw):Prop:=
 ∀(s:Shared) (us:Lw),K.In s.heap->(us++ds).length=ps.length->BindsTo s fd ⟨us,[]⟩ (ps.zip (us++ds))
theorem Binds.all(h:∀us:Lw,us.length=ps.length->bindArgs fd ⟨us,[]⟩=pure (ps.zip us)):Binds K fd ps []:=λs us _ j=>by
 rw[kM]at j ⊢;exact .of_eq (h us j)
def mw(CX:gN)(X:Cx)(E:XK):Prop:=∀(ad:Po) (Z:St) (H:Hp) (s:Shared) (e:Value) (s':Shared),Inv X ad Z H s->CX X.stack H s E e s'->X.xe e s'
section
variable {k:Nat}{cY:ae}{ds:Lw}{E:XK}{x m:Str}{pos apos:Pos}{o:Expr}{ta:TE}{t:TA}
theorem D3{H:Hp}{Q:VK}{vs:ae}(F:aw X.prog X.w X.K X.mg X.base CX k f fd ps sp)(O:ce k X.A)(G:Binds X.K fd ps ds)(hd:bc cY ds)(U:mw CX X E)
 (I:Inv X ad Z H s) (r:bc vs us) (h:sp (vs++cY) H Q E):wpAny (model X.prog X.w) X.A (call (.ref f) us) (EP X ad Z Q) X.xe s:=by
 have z:bc (vs++cY) (us++ds):=r.append hd;have J:(us++ds).length=ps.length:=by rw[<-z.length];exact F.len _ _ _ _ h
 refine De (qp (F.run X.A X.stack s H ⟨us,[]⟩ (us++ds) (vs++cY) Q E O I.env0 (G s us I.kIn J) z h) λr s' j=>?_);cases r with
 | error e=>exact U ad Z H s e s' I j
 | ok fl=>
  cases fl with
  | ret u=>exact I.after j
  | next=>exact False.elim j
  | brk=>exact False.elim j
  | cont=>exact False.elim j
theorem D8(F:aw X.prog X.w X.K X.mg X.base CX k f fd ps sp)(hr:ce k X.A)(Y:Gl X x)(hm:X.mg x=some (.ref f))(hk:W.keepIn X.K (.ref f)=true)(O:Binds X.K fd ps ds)(hd:bc cY ds)(hx:mw CX X E)
 (J:PA X (e::es) t) (iq:(x == ("__debug__":Str))=false:=by decide) (U:starEach (e::es) X.env=(false,eval e X.env)::starEach es X.env:=by rfl) (G:(backTo pos (starEach es X.env)).any (·.1)=false:=by rfl) :
 PE X (.Call (.Name x p) (e::es) [] pos) (xq sp cY E t):=by
 intro ad s Z H Q I h;refine zH (uW I Y hm ?_ iq);refine Vl (h₀:=X.base) I.ok.mod.kin hk (thn (J pos ad s Z H _ I h) λus s1 z=>ba z λvs H1 j r q=>⟨j.kIn,?_⟩) U G;exact D3 F hr O hd hx j r q
theorem gz(he:PE X o ta)(c:iR X.K C)(G:xp X.K C m f)(F:aw X.prog X.w X.K X.mg X.base CX k f fd ps sp)(hr:ce k X.A)(hb:Binds X.K fd ps ds)(hd:bc cY ds)(hx:mw CX X E)(ha:PA X (e::es) t)
 (eM:starEach (e::es) X.env=(false,eval e X.env)::starEach es X.env:=by rfl) (eR:(backTo pos (starEach es X.env)).any (·.1)=false:=by rfl)
 (ht:eval (.Call (.Attribute o m apos) (e::es) [] pos) X.env=(do
  let J <-eval o X.env
  standAt apos.atName
  let (f,first) <-holding [J] (getMethod J m pl)
  callWith pos f first (backTo pos (starEach (e::es) X.env)) (backToKw pos (keywordEach [] X.env))):=by rfl) :
 PE X (.Call (.Attribute o m apos) (e::es) [] pos) (Ax C m sp cY E ta t):=by
 intro ad s Z H Q I h;refine Vm (pl:=pl) (thn (he ad s Z H _ I h) λu s1 O=>ba O λx H1 j rx U=>?_) ht;obtain @⟨a,dx,fs,ea,l,q⟩:=U;obtain rfl:u=Value.ref a:=rx;refine DY j ea c G l ?_;refine Vl (first:=[.ref a]) (h₀:=X.base) I.ok.mod.kin G.kp (thn (ha pos ad s1 Z H1 _ j q) λus s2 Y=>ba Y λvs H2 z r q2=>⟨z.kIn,?_⟩) eM eR;exact D3 (us:=.ref a::us) (vs:=.ref a::vs) F hr hb hd hx z (.cons rfl r) q2
theorem dr(he:PE X o ta)(c:iR X.K C)(z:xp X.K C m f)(F:aw X.prog X.w X.K X.mg X.base CX k f fd ps sp)(hr:ce k X.A)(Y:Binds X.K fd ps ds)(hd:bc cY ds)(hx:mw CX X E)
 (ht:eval (.Call (.Attribute o m apos) [] [] pos) X.env=(do
  let G <-eval o X.env
  standAt apos.atName
  let (f,first) <-holding [G] (getMethod G m pl)
  callWith pos f first (backTo pos (starEach [] X.env)) (backToKw pos (keywordEach [] X.env))):=by rfl) :
 PE X (.Call (.Attribute o m apos) [] [] pos) (Ax C m sp cY E ta dY):=by
 intro ad s Z H Q I h;refine Vm (pl:=pl) (thn (he ad s Z H _ I h) λu s1 J=>ba J λx H1 j rx O=>?_) ht;obtain @⟨a,dx,fs,U,l,q⟩:=O;obtain rfl:u=Value.ref a:=rx;refine DY j U c z l ?_;exact Vn (first:=[.ref a]) j.kIn z.kp (D3 (us:=[.ref a]) (vs:=[.ref a]) F hr Y hd hx j (.cons rfl .nil) q)
structure Mk(K:Fg)(C f:Addr):Prop where
 makes:W.makesIn K C=true
 init:W.findIn K (.ref C) "__init__"=some (some (.ref f))
 fn:W.isFn K (.ref f)=true
 kp:W.keepIn K (.ref C)=true
theorem KO{H:Hp}{Q:VK}{vs:ae}(M:Mk X.K C f)(F:aw X.prog X.w X.K X.mg X.base CX k f fd ps sp)(hr:ce (k+1) X.A)(Y:Binds X.K fd ps ds)(hd:bc cY ds)
 (hx:mw CX X E) (I:Inv X ad Z H s) (r:bc vs us)
 (h:∀x dx,H x=none->H dx=none->dx≠x->sp (.ref x::(vs++cY)) (ag (ag H dx (.own x)) x (.ins C dx [])) (λv H2=>v=.non/\Q (.ref x) H2) E) :
 wpAny (model X.prog X.w) X.A (call (.ref C) us) (EP X ad Z Q) X.xe s:=by
 have G:=h (s.heap.objs.size+1) s.heap.objs.size (I.hok.fresh (qr _)) (I.hok.fresh (aK _)) (cX (wK _));have z:=Inv.made (C:=C) I;have J:bc (V.ref (s.heap.objs.size+1)::(vs++cY)) (Value.ref (s.heap.objs.size+1)::(us++ds)):=.cons rfl (r.append hd);have hl:(Value.ref (s.heap.objs.size+1)::us++ds).length=ps.length:=by
  have e:=J.length;rw[F.len _ _ _ _ G]at e;exact e.symm
 refine De (Yn (f:=f) I.kIn M.makes M.init (kO.mp M.fn) (qp (F.run _ X.stack _ _ ⟨Value.ref (s.heap.objs.size+1)::us,[]⟩ (Value.ref (s.heap.objs.size+1)::(us++ds)) _ _ E (hr.make C us [])
  (z.env0.make C us []) (Y _ (Value.ref (s.heap.objs.size+1)::us) z.kIn hl) J G) λr s' j=>?_))
 cases r with
 | error e=>exact hx ad Z _ _ e s' z j
 | ok fl=>
  cases fl with
  | ret u=>
   obtain⟨v,H',O,rv,U,q3⟩:=z.after j;subst U;exact⟨rv,⟨V.ref (s.heap.objs.size+1),H',O,rfl,q3⟩⟩
  | next=>exact False.elim j
  | brk=>exact False.elim j
  | cont=>exact False.elim j
theorem tu(M:Mk X.K C f)(F:aw X.prog X.w X.K X.mg X.base CX k f fd ps sp)(hr:ce (k+1) X.A)(Y:Gl X x)(hm:X.mg x=some (.ref C))(O:Binds X.K fd ps ds)(hd:bc cY ds)(hx:mw CX X E)
 (J:PA X (e::es) t) (iq:(x == ("__debug__":Str))=false:=by decide) (U:starEach (e::es) X.env=(false,eval e X.env)::starEach es X.env:=by rfl) (G:(backTo pos (starEach es X.env)).any (·.1)=false:=by rfl) :
 PE X (.Call (.Name x p) (e::es) [] pos) (KN C sp cY E t):=by
 intro ad s Z H Q I h;refine zH (uW I Y hm ?_ iq);refine Vl (h₀:=X.base) I.ok.mod.kin M.kp (thn (J pos ad s Z H _ I h) λus s1 z=>ba z λvs H1 j r q=>⟨j.kIn,?_⟩) U G;exact KO M F hr O hd hx j r q
theorem YV(M:Mk X.K C f)(F:aw X.prog X.w X.K X.mg X.base CX k f fd ps sp)(J:ce (k+1) X.A)(z:Gl X x)(G:X.mg x=some (.ref C))(j:Binds X.K fd ps ds)(hd:bc cY ds)(O:mw CX X E)
 (U:(x == ("__debug__":Str))=false:=by decide):PE X (.Call (.Name x p) [] [] pos) (KN C sp cY E dY):=by
 intro ad s Z H Q I h;refine zH (uW I z G ?_ U);exact Vn I.kIn M.kp (KO (us:=[]) M F J j hd O I .nil h)
end
def PK(X:Cx)(hZ:List Keyword)(t:TA):Prop:=
 ∀(pos:Pos) (ad:Po) (s:Shared) (Z:St) (H:Hp) (Q:ae->Hp->Prop),Inv X ad Z H s->t Z H Q->wpAny (model X.prog X.w) X.A (evalAll ((backToKw pos (keywordEach hZ X.env)).map (·.2))) (AP X ad Z Q) X.xe s
section
variable {k:Nat}{ks:Ls}{E:XK}{x m:Str}{pos apos xr:Pos}{o:Expr}{hZ:List Keyword}{te ta:TE}{t tk:TA}{nm:Option Str}
theorem YW:PK X [] dY:=λ_ _ _ _ H Q I h=>wpAny_evalAll_nil ⟨[],H,I,.nil,h⟩
theorem YX(O:PE X e te)(U:PK X hZ t):PK X (⟨nm,e,xr⟩::hZ) (eP te t):=by
 intro pos ad s Z H Q I h;show wpAny _ _ (evalAll ((do let v <-eval e X.env;standAt pos;pure v)::(backToKw pos (keywordEach hZ X.env)).map (·.2))) _ _ s;refine wpAny_evalAll_cons (af (thn (O ad s Z H _ I h) λu s1 G=>ba G λx H1 j r1 Y=>af (Vo (au ?_))));exact thn (U pos ad s1 Z H1 _ j Y) λus s2 J=>ba J λxs H2 z r2 q2=>⟨x::xs,H2,z,.cons r1 r2,q2⟩
variable {g:Lw->Lw->Lw}{gV:ae->ae->ae}
end
structure aP(N P:Ls)(sc:Scope):Prop where
 kind:sc.kind=.function
 co:sc.isCoroutine=false
 gen:sc.isGenerator=false
 nd:N.Nodup
 pre:N.take P.length=P
 par:∀x∈P,sc.names.lookup x=some .local\/sc.names.lookup x=some .cell
 nofree:∀y∈sc.names,y.2≠.free
theorem KP{x:Str}:∀{binds:List (Str×Value)}{m:Mv},(∀v,(x,v)∉binds)->bindL kindOf binds m x=m x
 | [],_,_=>rfl
 | (n,v)::r,m,h=>by
  unfold bindL;rw[KP λw j=>h w (bR _ j)];split
  . have:x≠n:=by rintro rfl;exact h v bH
    simp[this]
  rfl
theorem KQ{x:Str}:∀{binds:List (Str×Value)}{m:Mv},(∀v,(x,v)∉binds)->bindC kindOf binds m x=m x
 | [],_,_=>rfl
 | (n,v)::r,m,h=>by
  unfold bindC;rw[KQ λw j=>h w (bR _ j)];split
  . rfl
  have:x≠n:=by rintro rfl;exact h v bH
  simp[this]
theorem KR{x:Str}{v:Value}:∀{P:Ls}{vs:Lw}{i:Nat}{m:Mv},P.Nodup->P[i]?=some x->vs[i]?=some v->kindOf x=some .local ->
 bindL kindOf (P.zip vs) m x=some v
 | [],_,_,_,_,h,_,_=>by simp at h
 | _::_,[],_,_,_,_,h,_=>by simp at h
 | p::P,w::vs,0,m,nd,h1,h2,hk=>by
  simp at h1 h2;subst h1;subst h2;show bindL kindOf ((p,w)::P.zip vs) m p=_;unfold bindL;rw[KP λv j=>(qt.mp nd).1 (Jk j).1,am hk];simp
 | p::P,w::vs,i+1,m,nd,h1,h2,hk=>by
  show bindL kindOf ((p,w)::P.zip vs) m x=_;unfold bindL;exact KR (i:=i) (qt.mp nd).2 (by simpa using h1) (by simpa using h2) hk
theorem KS{x:Str}{v:Value}:∀{P:Ls}{vs:Lw}{i:Nat}{m:Mv},P.Nodup->P[i]?=some x->vs[i]?=some v->kindOf x≠some .local ->
 bindC kindOf (P.zip vs) m x=some v
 | [],_,_,_,_,h,_,_=>by simp at h
 | _::_,[],_,_,_,_,h,_=>by simp at h
 | p::P,w::vs,0,m,nd,h1,h2,hk=>by
  simp at h1 h2;subst h1;subst h2;show bindC kindOf ((p,w)::P.zip vs) m p=_;unfold bindC;rw[KQ λv j=>(qt.mp nd).1 (Jk j).1,ah hk];simp
 | p::P,w::vs,i+1,m,nd,h1,h2,hk=>by
  show bindC kindOf ((p,w)::P.zip vs) m x=_;unfold bindC;exact KS (i:=i) (qt.mp nd).2 (by simpa using h1) (by simpa using h2) hk
def start(N:Ls)(vs:ae):St:=vs.map some++List.replicate (N.length - vs.length) none
def kZ(CX:gN)(P:Program)(w:World)(K:Fg)(mg:Mv)(base:Heap)(N:Ls)(a_:Str)(scope:Scope)(f:Addr)(cd:Value)(A:Around)(outer:List Env)(s:Shared)(H:Hp)(E:XK):Cx where
 prog:=P
 w:=w
 K:=K
 mg:=mg
 base:=base
 A:=A.deeper (envOfC a_ scope s.heap.objs.size f cd)
 N:=N
 s₀:=s
 H₀:=H
 env:=envOfC a_ scope s.heap.objs.size f cd
 outer:=outer
 stack:=envOfC a_ scope s.heap.objs.size f cd::outer
 ex:=[]
 calm:=true
 fn:=λ_=>true
 pn:=[]
 xe:=λe s'=>wpAny (model P w) (A.deeper (envOfC a_ scope s.heap.objs.size f cd)) (leaving (envOfC a_ scope s.heap.objs.size f cd) e) (λ_ j=>CX outer H s E e j) (λz j=>CX outer H s E z j) s'
theorem KU{sc:Scope}{x:Str}(h:sc.names.lookup x=some .cell):∃c,(cellsFrom n sc.names []).lookup x=some c:=by
 have q:=Vp sc.names n [] (.inl h);exact Jl.mp q
theorem KW{a_:Str}{scope:Scope}{cd:Value}{outer:List Env}{s1:Shared}{H:Hp}{E:XK}{vs:ae}
 (S:aP N ps scope) (hd:A.handled=none) (j:mv P w K mg base A outer s H) (hl:vs.length=ps.length) (r:bc vs us)
 (x:InCallC s s.heap.objs.size (bindL (envOfC a_ scope s.heap.objs.size f cd).kindOf (ps.zip us) λ_=>none) (cellsFrom (s.heap.objs.size+1) scope.names []) (bindC (envOfC a_ scope s.heap.objs.size f cd).kindOf (ps.zip us) λ_=>none) s1) :
 Inv (kZ CX P w K mg base N a_ scope f cd A outer s H E) [] (start N vs) H s1:=by
 have eR:ps.length<=N.length:=by have:=fo List.length S.pre;rw[eW]at this;omega
 obtain⟨h1,tk,rfl,U⟩:=x.done;have J:∀b:Addr,b∉(kZ CX P w K mg base N a_ scope f cd A outer s H E).ex:=λb z=>absurd (show b∈([]:List Addr) from z) (by simp);refine⟨⟨j.mod,S.kind,rfl,rfl,aK _,λy z c h1 h2=>?_,λy hy=>?_,λy c _ h=>?_,λ_=>hd,Around.frames_deeper j.frames,.inr ⟨rfl,rfl⟩,λb z=>absurd z (J b),j.bs,j.bsz,λb _ _=>J b,λb z=>absurd z (J b),j.funs,j.frf⟩,
  rfl,j.bare,Un.kept U,⟨_,x.toInCall.ns,λi y v h1 h2 h3=>?_⟩,λy c h=>⟨_,x.cell y c h⟩,j.hok.fresh (aK _),λy c h=>?_,λp G=>absurd (show p∈([]:Po) from G) (by simp),j.hok.kept U,?_⟩
 . exact name_of_addr x.apart (zI h1) (zI h2)
 . have hy:scope.names.lookup y=some .cell\/scope.names.lookup y=some .free:=hy
   rcases hy with hy | hy
   . exact KU hy
   exact absurd rfl (S.nofree _ (zI hy))
 . exact rY (x.above y c (zI h))
 . have hi:i<vs.length:=by
    unfold start at h2
    by_cases hi:i<vs.length
    . exact hi
    rw[Df (by simpa using hi)]at h2;rw[aql]at h2;split at h2<;>cases h2
   have ha:vs[i]?=some v:=by
    unfold start at h2;rw[Vq (by simpa using hi),c8]at h2;cases e:vs[i]? with
    | none=>rw[e]at h2;cases h2
    | some a=>rw[e]at h2;cases h2;rfl
   obtain⟨u,Y,rv⟩:=r.get ha;have G:ps[i]?=some y:=by
    rw[<-S.pre,List.getElem?_take_of_lt (by omega)];exact h1
   have O:ps.Nodup:=by rw[<-S.pre];exact S.nd.sublist (List.take_sublist _ _)
   refine⟨u,rv,?_⟩
   rcases S.par y (da G) with k | k
   . exact .inl ⟨k,KR O G Y k⟩
   obtain⟨c,e⟩:=KU (n:=s.heap.objs.size+1) k;refine .inr ⟨.inl k,c,e,?_⟩;have q:=x.cell y c e;rw[KS O G Y (by show scope.names.lookup y≠_;rw[k];decide)]at q;exact q
 . exact j.hok.fresh (rY (x.above y c (zI h)))
 unfold start;show _=N.length;rw[bI,ak,Vr];omega
theorem Eb{k:Nat}{name a_:Str}{params:Arguments}{scope:Scope}{Y kV a0 pm j ct oc:Value}{an od:Oa}
 {jZ:Array (Option Value)} (lk:K.lookup f=some ⟨oc,od,.func (W.fnOf name a_ params body scope Y kV a0 pm an j ct),jZ⟩) (je:W.codeIn K j a_=true) (S:aP N ps scope)
 (len:∀vs H Q E,sp vs H Q E->vs.length=ps.length)
 (pA:∀(A:Around) (outer:List Env) (s:Shared) (H:Hp) (vs:ae) (Q:VK) (E:XK),ce k (A.deeper (envOfC a_ scope s.heap.objs.size f j))->sp vs H Q E ->
  ∃t,bW (kZ CX P w K mg base N a_ scope f j A outer s H E) body t/\t { nx:=λ_ H'=>Q .non H',rt:=Q } (start N vs) H) :
 aw P w K mg base CX (k+1) f (W.fnOf name a_ params body scope Y kV a0 pm an j ct) ps sp:=by
 refine⟨len,λA outer s H args us vs Q E G z hb r lg=>?_⟩;have hl:=len _ _ _ _ lg;have U:K.In s.heap:=z.mod.kin.keeps λb o e=>(z.bs b o e).1;have a2:s.heap.NoLimit:=z.mod.nolimit.keeps λb o e=>(z.bs b o e).1;have Ec:∀y∈ps.zip us,scope.names.lookup y.1=some .local\/(scope.names.lookup y.1=some .cell/\((cellsFrom (s.heap.objs.size+1) scope.names []).lookup y.1).isSome=true):=λ⟨n,v⟩ hy=>by
  rcases S.par n (Jk hy).1 with q | q
  . exact .inl q
  exact .inr ⟨q,Vp _ _ _ (.inl q)⟩
 refine codeAny_call_function G.depth (U _ _ lk) rfl S.co S.gen rfl (W.codeRec_of U je) (hb _ _ _ _ ?_);refine aqm S.kind Ec λenv he s1 x=>?_;subst he;refine⟨a2.keeps x.toInCall.keep,codeAny_func ?_⟩;obtain⟨t,ht,hq⟩:=pA A outer s H vs Q E (G.deeper _) lg;have I:Inv (kZ CX P w K mg base N a_ scope f j A outer s H E) [] (start N vs) H s1:=KW S G.hd z hl r x;refine eV (ht [] s1 (start N vs) H _ I hq) (λfl s' hs=>?_) λe s' hs=>hs;have a1:∀{σ':St}{H':Hp}{v:V}{u:Value},Inv (kZ CX P w K mg base N a_ scope f j A outer s H E) [] σ' H' s'->RelV v u->Q v H'->CE outer P w H s Q u s':=
  λ{σ' H' v u} J O q=>⟨v,H',J.os,J.bare,J.base,J.hok,O,q⟩
 cases fl with
 | ret u=>
  obtain⟨v,σ',H',J,O,q⟩:=hs;exact a1 J O q
 | next=>
  obtain⟨σ',H',J,q⟩:=hs;exact a1 (v:=V.non) (u:=Value.none) J rfl q
 | brk=>
  obtain⟨_,_,_,q⟩:=hs;exact False.elim q
 | cont=>
  obtain⟨_,_,_,q⟩:=hs;exact False.elim q
section
variable {x:Str}{pos:Pos}{t:TA}{id T:String}{r:ae->Hp->VK->Prop}
def Az(r:ae->Hp->VK->Prop)(t:TA):TE:=λZ H Q=>t Z H λvs H1=>r vs H1 Q
theorem cg(O:fh X (.builtin id) r)(Y:Gl X x)(hm:X.mg x=none)(hv:bootBuiltins x=some (.builtin id))(J:PA X (e::es) t)(hn:x≠"__name__":=by decide)(iq:(x == ("__debug__":Str))=false:=by decide)
 (U:starEach (e::es) X.env=(false,eval e X.env)::starEach es X.env:=by rfl) (G:(backTo pos (starEach es X.env)).any (·.1)=false:=by rfl):PE X (.Call (.Name x p) (e::es) [] pos) (Az r t):=by
 intro ad s Z H Q I h;refine zH (sN I Y hm hv ?_ hn iq);exact PyProof.Rows.callWith_builtin1 (thn (J pos ad s Z H _ I h) λus s1 z=>ba z λvs H1 j r1 q1=>O ad s1 Z H1 vs us Q j r1 q1) U G
theorem dH(O:fh X (.type T) r)(Y:Gl X x)(hm:X.mg x=none)(hv:bootBuiltins x=some (.type T))(J:PA X (e::es) t)(hn:x≠"__name__":=by decide)(iq:(x == ("__debug__":Str))=false:=by decide)
 (U:starEach (e::es) X.env=(false,eval e X.env)::starEach es X.env:=by rfl) (G:(backTo pos (starEach es X.env)).any (·.1)=false:=by rfl):PE X (.Call (.Name x p) (e::es) [] pos) (Az r t):=by
 intro ad s Z H Q I h;refine zH (sN I Y hm hv ?_ hn iq);exact Ji (thn (J pos ad s Z H _ I h) λus s1 z=>ba z λvs H1 j r1 q1=>O ad s1 Z H1 vs us Q j r1 q1) U G
end
end L2
namespace HT
theorem Y2(A:Around)(s:Shared)(a:Int)(t:Tok)(c:Int)(u:Tok):∃e,SeqAt.EqAt A s (.int a t) (.int c u) e/\(e=true↔a=c):=
 ⟨(a == c),SeqAt.EqAt.int_int a t c u,by simp⟩
theorem Y3(A:Around)(s:Shared)(a:Int)(t:Tok)(c:Int)(u:Tok)(prog:Program)(w:World)(E:VP)(Q:VP)(h:Q (.bool (decide (a<c))) s) :
 wpAny (model prog w) A (richCompare .Lt (.int a t) (.int c u)) Q E s:=
 (PyProof.Rows.lt_int h:wpAny (model prog w) A (compareOp .Lt (.int a t) (.int c u)) Q E s)
section
variable {prog:Program}{w:World}{A:Around}{E:VP}{s:Shared}
def gA(n d:Nat):Option Int->Nat
 | none=>d
 | some v=>if v<0 then(v+(n:Int)).toNat else min v.toNat n
theorem Ed(n d:Nat):gA n d none=d:=rfl
theorem xu(n d k:Nat):gA n d (some (k:Int))=min k n:=by
 show(if (k:Int)<0 then((k:Int)+(n:Int)).toNat else min (k:Int).toNat n)=min k n;rw[ah (by omega),lY]
end
end HT
namespace L2
variable {X:Cx}{pos:Pos}{α:Type}{n t':Nat}{v:V}{a b:Addr}{A:Around}{s:Shared}{u:Value}{ad:Po}{Z:St}{T:String}{w:World}{kvs:List (List NI×V)}{P:Program}{H':Hp}
abbrev TO:=St->Hp->(Option Int->Hp->Prop)->Prop
def PO(X:Cx)(e:Option Expr)(t:TO):Prop:=
 ∀(ad:Po) (s:Shared) (Z:St) (H:Hp) (Q:Option Int->Hp->Prop),Inv X ad Z H s->t Z H Q ->
  wpAny (model X.prog X.w) X.A (evalPart e X.env) (λu s'=>∃o H',Inv X ad Z H' s'/\IsPart u o/\Q o H') X.xe s
def Y4:TO:=λ_ H Q=>Q none H
inductive KZ (Q:Option Int->Hp->Prop) (H1:Hp):V->Prop where
 | mk {i:Int} (_:Q (some i) H1):KZ Q H1 (.int i)
def Y5(t:TE):TO:=λZ H Q=>t Z H λx H1=>KZ Q H1 x
section
variable {e:Expr}{te:TE}{lo hi:Option Expr}{tl th:TO}{p2:Pos}
theorem nQ:PO X none Y4:=by
 intro ad s Z H Q I h;rw[Vs];exact au ⟨none,H,I,.none,h⟩
theorem jz(h:PE X e te):PO X (some e) (Y5 te):=by
 intro ad s Z H Q I G;rw[evalPart_some];refine thn (h ad s Z H _ I G) λu U z=>ba z λx H1 j O J=>?_;obtain @⟨i,q⟩:=J;obtain⟨t,rfl⟩:=O;exact⟨some i,H1,j,.int i t,q⟩
def tw(X:Cx)(r:V->Option Int->Option Int->Hp->VK->Prop):Prop:=
 ∀(ad:Po) (s:Shared) (Z:St) (H:Hp) (x:V) (v j z:Value) (lo hi:Option Int) (sl:Addr) (Q:VK),Inv X ad Z H s->RelV x v->s.heap.IsSliceOf sl j z .none->IsPart j lo->IsPart z hi->r x lo hi H Q ->
  ∃T id,typeLookup (.type T) "__getitem__"=pure (some (.builtin id))/\s.TypeIs v T/\wpAny (model X.prog X.w) X.A (getItem v (.ref sl)) (EP X ad Z Q) X.xe s
def Y7(r:V->Option Int->Option Int->Hp->VK->Prop)(te:TE)(tl th:TO):TE:=λZ H Q=>te Z H λx H1=>tl Z H1 λl H2=>th Z H2 λu H3=>r x l u H3 Q
theorem li{r:V->Option Int->Option Int->Hp->VK->Prop}(hr:tw X r)(he:PE X e te)(hl:PO X lo tl)(hu:PO X hi th):PE X (.Subscript e (.Slice lo hi none p2) pos) (Y7 r te tl th):=by
 intro ad s Z H Q I h;refine Jm (thn (he ad s Z H _ I h) λv s1 Y=>ba Y λx H1 G r1 q1=>?_);refine wpAny_Slice (thn (hl ad s1 Z H1 _ G q1) λj s2 Y9=>ba Y9 λl H2 J pl q2=>thn (hu ad s2 Z H2 _ J q2) λz s3 Za=>ba Za λu H3 O pu q3=>?_);rw[Vs];refine au ?_;have U:Inv X ad Z H3 { s3 with heap:=s3.heap.push { cls:=.type "slice",data:=.fields #[j,z,.none] } }:=O.kept (t':=s3.toks) λb ob q=>b9 _ q;obtain⟨T,id,hT,ht,hg⟩:=hr ad { s3 with heap:=s3.heap.push { cls:=.type "slice",data:=.fields #[j,z,.none] } } Z H3 x v j z l u s3.heap.objs.size Q U r1 (Heap.IsSliceOf.new ..) pl pu q3;show wpAny (model X.prog X.w) X.A (subscriptTail e (.Slice lo hi none p2) v (.ref s3.heap.objs.size)) (EP X ad Z Q) X.xe { s3 with heap:=s3.heap.push { cls:=.type "slice",data:=.fields #[j,z,.none] } };exact tail_any (ops:=[.ref s3.heap.objs.size,v]) ht hT hg (by with_unfolding_all rfl)
def pB(xs:ae)(lo hi:Option Int):ae:=(xs.drop (HT.gA xs.length 0 lo)).take (HT.gA xs.length xs.length hi - HT.gA xs.length 0 lo)
theorem Zb(xs:ae)(lo hi:Option Int):(pB xs lo hi).length<=xs.length:=by
 unfold pB;rw[eW,kP];omega
end
def pC(n:Nat)(i:Int):Option Nat:=if 0<=i then(if i<n then some i.toNat else none) else if -(n:Int)<=i then some (i+n).toNat else none
def cI(xs:List α)(i:Int):Option α:=(pC xs.length i).bind λj=>xs[j]?
theorem Zc{i:Int}{j:Nat}(h:pC n i=some j):seqIndex? i n=some j/\j<n/\-(n:Int)<=i/\i<n:=by
 unfold pC at h
 by_cases h0:0<=i
 . rw[am h0]at h
   by_cases h1:i<n
   . rw[am h1]at h;have e:i.toNat=j:=gw h;exact⟨by rw[seqIndex_of h0 h1,e],by omega,by omega,h1⟩
   rw[ah h1]at h;cases h
 rw[ah h0]at h
 by_cases h1:-(n:Int)<=i
 . rw[am h1]at h;have e:(i+n).toNat=j:=gw h;exact⟨by rw[seqIndex_neg (by omega) h1,e],by omega,h1,by omega⟩
 rw[ah h1]at h;cases h
theorem AA{xs:List α}{i:Int}{v:α}(h:cI xs i=some v):∃j,seqIndex? i xs.length=some j/\xs[j]?=some v/\j<xs.length/\-(xs.length:Int)<=i/\i<xs.length:=by
 unfold cI at h;cases e:pC xs.length i with
 | none=>rw[e]at h;cases h
 | some j=>
  rw[e]at h;obtain⟨h1,h2,z,G⟩:=Zc e;exact⟨j,h1,h,h2,z,G⟩
theorem AB{xs:List α}{j:Nat}{v:α}(h:xs[j]?=some v):cI xs (j:Int)=some v:=by
 have z:j<xs.length:=(cM.mp h).1;have e:pC xs.length (j:Int)=some j:=by
  unfold pC;rw[am (by omega),am (by omega)];simp
 unfold cI;rw[e];exact h
def Zd(b:Expr):Prop:=∀o i,subscripted b false o i=operate [o,i] (getItem o i)
def ve(X:Cx)(r:R2):Prop:=
 ∀(value j:Expr) (ad:Po) (s:Shared) (Z:St) (H:Hp) (x y:V) (v u:Value) (Q:VK),Inv X ad Z H s->RelV x v->RelV y u->r x y H Q ->
  subscripted j false v u=operate [v,u] (getItem v u)->wpAny (model X.prog X.w) X.A (subscriptTail value j v u) (EP X ad Z Q) X.xe s
def Ee(X:Cx)(id:String)(r:V->ae->Hp->VK->Prop):Prop:=
 ∀(ad:Po) (s:Shared) (Z:St) (H:Hp) (x:V) (xs:ae) (v:Value) (us:Lw) (Q:VK),Inv X ad Z H s->RelV x v->bc xs us->r x xs H Q ->
  wpAny (model X.prog X.w) X.A (call (.builtin id) (v::us)) (EP X ad Z Q) X.xe s
section
variable {a b:Expr}{ta tb:TE}
theorem bO{r:R2}(J:ve X r)(z:PE X a ta)(G:PE X b tb)(hs:Zd b):PE X (.Subscript a b pos) (Ao r ta tb):=by
 intro ad s Z H Q I h;exact Jm (DM z G I h λv u Y x y H2 j O U q=>J a b ad Y Z H2 x y v u Q j O U q (hs _ _))
inductive K1 (K:Fg) (H:Hp) (Q:VK):V->V->Prop where
 | mk {p:Addr}{xs:ae}{i:Int}{v:V} (_:aa K H p xs) (_:cI xs i=some v) (_:Q v H):K1 K H Q (.ref p) (.int i)
def K2(K:Fg):R2:=λx y H Q=>K1 K H Q x y
inductive K3 (K:Fg) (H:Hp) (Q:VK):V->V->Prop where
 | mk {p:Addr}{xs:ae}{i:Int}{v:V} (_:bh K H p xs) (_:cI xs i=some v) (_:Q v H):K3 K H Q (.ref p) (.int i)
def K4(K:Fg):R2:=λx y H Q=>K3 K H Q x y
inductive K6 (H:Hp) (Q:VK):V->V->Prop where
 | mk {z:Str}{i:Int}{c:Nat} (_:z.length<=sizeLine) (_:cI z.cps.toList i=some c) (_:Q (.str ⟨#[c]⟩) H):K6 H Q (.str z) (.int i)
def Ze:R2:=λx y H Q=>K6 H Q x y
theorem fW:ve X (K2 X.K):=by
 intro value a0 ad s Z H x y v u Q I rx ry h hs;obtain @⟨p,xs,i,z,hq,he,q⟩:=h;cases rx;obtain⟨t,rfl⟩:=ry;obtain⟨b_,r,pl,hz⟩:=I.list hq;obtain⟨j,h1,h2,h3,U,Y⟩:=AA he;obtain⟨w,J,ia⟩:=r.get h2;have hl:=r.length;have hn:=xi;have O:EP X ad Z Q w s:=⟨z,H,I,ia,q⟩
 by_cases h0:0<=i
 . have G:i.toNat=j:=by
    rw[seqIndex_of h0 Y]at h1;exact gw h1
   exact item_listR pl.isList h0 (by omega) (by rw[G];simpa using J) O hs
 have G:(i+(b_.toArray.size:Int)).toNat=j:=by
  rw[seqIndex_neg (by omega) U]at h1;rw[gf,<-hl];exact gw h1
 exact aqn (x:=w) pl.isList.typeIs Vt.lookup
  (wpAny_getItem_list_neg (Q:=λr s'=>r=w/\EP X ad Z Q r s') pl.isList (by omega) (by rw[gf]<;>omega) (by omega) (by rw[G];simpa using J) ⟨rfl,O⟩) hs
theorem fz:ve X (K4 X.K):=by
 intro value a0 ad s Z H x y v u Q I rx ry h hs;obtain @⟨p,xs,i,z,Y,O,q⟩:=h;cases rx;obtain⟨t,rfl⟩:=ry;obtain⟨b_,r,pl,hz⟩:=I.tuple Y;obtain⟨j,h1,h2,h3,h4,h5⟩:=AA O;obtain⟨w,G,ia⟩:=r.get h2;have U:=r.length;have hn:=xi;have J:EP X ad Z Q w s:=⟨z,H,I,ia,q⟩;exact aqn (x:=w) pl.typeIs slot_tuple_getitem.lookup
  (getItem_tuple (j:=j) (Q:=λr s'=>r=w/\EP X ad Z Q r s') pl (by omega) (by omega) (by rw[gf,<-U];exact h1) (by simpa using G) ⟨rfl,J⟩) hs
theorem xv:ve X Ze:=by
 intro value a0 ad s Z H x y v u Q I Y ry h hs;obtain @⟨z,i,c,hz,O,q⟩:=h;obtain⟨t,rfl⟩:=Y;obtain⟨t',rfl⟩:=ry;obtain⟨j,h1,h2,h3,G,J⟩:=AA O;have U:z.cps.toList.length=z.length:=by simp[Str.length]
 rw[U]at h1 G J;have hn:=xi;exact tail_any (zJ s z t) slot_str_getitem.lookup (getItem_str (c:=c) (by
  have e1:decide (i < -(2 ^ 63:Int))=false:=cu (by omega);have e2:decide (i >= 2 ^ 63)=false:=cu (by omega);rw[e1,e2,r9]) (by rw[h1];simpa using h2) ⟨.str ⟨#[c]⟩,H,I.tok _,⟨_,rfl⟩,q⟩) hs
theorem Zf(lo hi:Option Int)(n:Nat):(sliceBounds lo hi none n).1=((HT.gA n 0 lo:Nat):Int)/\(sliceBounds lo hi none n).2.1=((HT.gA n n hi:Nat):Int)/\(sliceBounds lo hi none n).2.2=1:=by
 refine⟨?_,?_,rfl⟩
 . cases lo with
   | none=>simp[sliceBounds,HT.gA]
   | some i=>
    simp only[sliceBounds,HT.gA,Option.getD_none,show(1:Int) > 0 by decide,uL]
    by_cases h:i<0
    . simp only[h,uL]<;>omega
    simp only[h,nv]<;>omega
 cases hi with
 | none=>simp[sliceBounds,HT.gA]
 | some i=>
  simp only[sliceBounds,HT.gA,Option.getD_none,show(1:Int) > 0 by decide,uL]
  by_cases h:i<0
  . simp only[h,uL]<;>omega
  simp only[h,nv]<;>omega
theorem Zg(b_:Lw)(lo hi:Option Int):slicePick b_.toArray lo hi none=((b_.drop (HT.gA b_.length 0 lo)).take (HT.gA b_.length b_.length hi - HT.gA b_.length 0 lo)).toArray:=by
 obtain⟨h1,h2,j⟩:=Zf lo hi b_.toArray.size;unfold slicePick;rw[h1,h2,j];simp only[sliceRange_one,pick_run,gf]<;>rfl
def Zh(K:Fg):V->Option Int->Option Int->Hp->VK->Prop:=λx lo hi H Q=>∃a xs,x=.ref a/\aa K H a xs/\∀p,H p=none->Q (.ref p) (ag H p (.lst (pB xs lo hi)))
theorem Zi:tw X (Zh X.K):=by
 intro ad s Z H x v U Y lo hi sl Q I O hs pl J h;obtain⟨a,xs,rfl,G,q⟩:=h;cases O;obtain⟨b_,r,j,hz⟩:=I.list G;have z:=r.length;refine⟨"list",_,Vt.lookup,j.isList.typeIs,?_⟩;refine aqo j.isList hs pl J .none (by simp) ?_ (by rw[gf]<;>omega);rw[Zg,<-z];refine⟨.ref s.heap.objs.size,_,I.laid (t':=s.toks) (o:=.lst (pB xs lo hi)) (λb ob q=>b9 _ q) (aK _) ?_,rfl,q _ (I.hok.fresh (aK _))⟩;exact⟨cn (Zb xs lo hi) hz,_,0,(r.drop (HT.gA xs.length 0 lo)).take (HT.gA xs.length xs.length hi - HT.gA xs.length 0 lo),dA _ rfl⟩
def pD:V->Bool
 | .non=>true
 | .bl _=>true
 | .int _=>true
 | .str _=>true
 | _=>false
def lj:V->V->Bool
 | .non,.non=>true
 | .bl a,.bl b=>a == b
 | .bl a,.int b=>(if a then 1 else 0) == b
 | .int a,.bl b=>a == (if b then 1 else 0)
 | .int a,.int b=>a == b
 | .str a,.str b=>a == b
 | _,_=>false
theorem Zj{y x:V}{v:Value}(G:RelV y u)(j:RelV x v)(J:pD y=true)(z:pD x=true):SeqAt.EqAt A s u v (lj y x):=by
 cases y with
 | non=>
  cases G;cases x with
  | non=>cases j;exact SeqAt.EqAt.same _
  | bl b=>cases j;exact SeqAt.EqAt.none_bool b
  | int b=>obtain⟨t,rfl⟩:=j;exact SeqAt.EqAt.none_int b t
  | str b=>obtain⟨t,rfl⟩:=j;exact SeqAt.EqAt.none_str b t
  | _=>exact absurd (show false=true from z) cS
 | bl a=>
  cases G;cases x with
  | non=>cases j;exact SeqAt.EqAt.bool_none a
  | bl b=>cases j;exact SeqAt.EqAt.bool_bool a b
  | int b=>obtain⟨t,rfl⟩:=j;exact SeqAt.EqAt.bool_int a b t
  | str b=>obtain⟨t,rfl⟩:=j;exact SeqAt.EqAt.bool_str a b t
  | _=>exact absurd (show false=true from z) cS
 | int a=>
  obtain⟨t',rfl⟩:=G;cases x with
  | non=>cases j;exact SeqAt.EqAt.int_none a t'
  | bl b=>cases j;exact SeqAt.EqAt.int_bool a t' b
  | int b=>obtain⟨t,rfl⟩:=j;exact SeqAt.EqAt.int_int a t' b t
  | str b=>obtain⟨t,rfl⟩:=j;exact SeqAt.EqAt.int_str a t' b t
  | _=>exact absurd (show false=true from z) cS
 | str a=>
  obtain⟨t',rfl⟩:=G;cases x with
  | non=>cases j;exact SeqAt.EqAt.str_none a t'
  | bl b=>cases j;exact SeqAt.EqAt.str_bool a t' b
  | int b=>obtain⟨t,rfl⟩:=j;exact SeqAt.EqAt.str_int a t' b t
  | str b=>obtain⟨t,rfl⟩:=j;exact SeqAt.EqAt.str_str a t' b t
  | _=>exact absurd (show false=true from z) cS
 | _=>exact absurd (show false=true from J) cS
def jh(x:V)(u:Value):Bool:=match u with
 | .none=>lj .non x
 | .bool b=>lj (.bl b) x
 | .int i _=>lj (.int i) x
 | .str z _=>lj (.str z) x
 | _=>false
theorem K7{x y:V}(r:RelV y u)(f:pD y=true):jh x u=lj y x:=by
 cases y with
 | non=>cases r;rfl
 | bl b=>cases r;rfl
 | int i=>obtain⟨t,rfl⟩:=r;rfl
 | str z=>obtain⟨t,rfl⟩:=r;rfl
 | _=>exact absurd (show false=true from f) cS
theorem xw{x:V}:∀{xs:ae}{us:Lw},bc xs us->xs.all pD=true->us.any (jh x)=xs.any λy=>lj y x
 | _,_,.nil,_=>rfl
 | y::xs,u::us,.cons r t,f=>by
  rw[Dg,io]at f;rw[se,se,K7 r f.1,xw t f.2]
theorem xx{x:V}{v:Value}(z:RelV x v)(j:pD x=true):∀{xs:ae}{us:Lw},bc xs us->xs.all pD=true->∀u∈us,SeqAt.EqAt A s u v (jh x u)
 | _,_,.nil,_=>λu hu=>by cases hu
 | y::xs,u::us,.cons r t,f=>λG hu=>by
  rw[Dg,io]at f
  rcases bf.mp hu with rfl | hu
  . rw[K7 r f.1];exact Zj r z f.1 j
  exact xx z j t f.2 G hu
def nU(x:V)(xs:ae):Bool:=xs.any λy=>lj y x
inductive K8 (K:Fg) (j:Bool) (x:V) (H:Hp) (Q:VK):V->Prop where
 | mk {p:Addr}{xs:ae} (_:(aa K H p xs\/bh K H p xs)) (_:pD x=true) (_:xs.all pD=true) (_:Q (.bl (if j then !nU x xs else nU x xs)) H):K8 K j x H Q (.ref p)
def Ef(K:Fg)(j:Bool):R2:=λx y H Q=>K8 K j x H Q y
theorem K9:cw X (compareOp .In) (Ef X.K false):=by
 intro ad s Z H x y v u Q I G J h;obtain @⟨p,xs,hq,z,fs,q⟩:=h;cases J
 rcases hq with hq | hq
 . obtain⟨b_,r,pl,hz⟩:=I.list hq;refine SeqAt.in_listAt (jh x) pl.isList (λw j=>xx G z r fs w (by simpa using j)) ⟨.bl _,H,I,rfl,?_⟩;rw[show b_.toArray.any (jh x)=b_.any (jh x) by simp,xw r fs];exact q
 obtain⟨b_,r,pl,hz⟩:=I.tuple hq;refine SeqAt.in_tupleAt (jh x) pl (λw j=>xx G z r fs w (by simpa using j)) ⟨.bl _,H,I,rfl,?_⟩;rw[show b_.toArray.any (jh x)=b_.any (jh x) by simp,xw r fs];exact q
theorem Zk:cw X (compareOp .NotIn) (Ef X.K true):=by
 intro ad s Z H x y v u Q I G J h;obtain @⟨p,xs,hq,z,fs,q⟩:=h;cases J
 rcases hq with hq | hq
 . obtain⟨b_,r,pl,hz⟩:=I.list hq;refine SeqAt.notIn_listAt (jh x) pl.isList (λw j=>xx G z r fs w (by simpa using j)) ⟨.bl _,H,I,rfl,?_⟩;rw[show b_.toArray.any (jh x)=b_.any (jh x) by simp,xw r fs];exact q
 obtain⟨b_,r,pl,hz⟩:=I.tuple hq;refine SeqAt.notIn_tupleAt (jh x) pl (λw j=>xx G z r fs w (by simpa using j)) ⟨.bl _,H,I,rfl,?_⟩;rw[show b_.toArray.any (jh x)=b_.any (jh x) by simp,xw r fs];exact q
theorem fA:fh X (.builtin "len") (λxs H Q=>∃p ys,xs=[.ref p]/\(aa X.K H p ys\/bh X.K H p ys)/\Q (.int ys.length) H):=by
 intro ad s Z H xs us Q I r h;obtain⟨p,ys,rfl,hq,q⟩:=h;obtain⟨u,rfl,G⟩:=vals1 r;cases G;have J:=xi
 rcases hq with hq | hq
 . obtain⟨b_,z,pl,hz⟩:=I.list hq;have j:=z.length;exact Calls.call_len_list pl.isList (by simp only[gf]<;>omega) ⟨.int ys.length,H,I.tok _,⟨s.toks+1,by rw[gf,j]⟩,q⟩
 obtain⟨b_,z,pl,hz⟩:=I.tuple hq;have j:=z.length;exact len_tuple pl (by simp only[gf]<;>omega) ⟨.int ys.length,H,I.tok _,⟨s.toks+1,by rw[gf,j]⟩,q⟩
theorem Eg:fh X (.builtin "len") (λxs H Q=>∃z,xs=[.str z]/\z.length<=sizeLine/\Q (.int z.length) H):=by
 intro ad s Z H xs us Q I r h;obtain⟨z,rfl,hz,q⟩:=h;obtain⟨u,rfl,t,rfl⟩:=vals1 r;have j:=xi;exact len_str (by omega) ⟨.int z.length,H,I.tok _,⟨_,rfl⟩,q⟩
theorem xy:fh X (.type "list") (λxs H Q=>∃p ys,xs=[.ref p]/\(aa X.K H p ys\/bh X.K H p ys)/\∀l,H l=none->Q (.ref l) (ag H l (.lst ys))):=by
 intro ad s Z H xs us Q I r h;obtain⟨p,ys,rfl,hq,q⟩:=h;obtain⟨u,rfl,U⟩:=vals1 r;cases U;have J:∀(b_:Lw),bc ys b_->ys.length<=sizeLine->∀(h':Heap) (c':Nat),(∀b o',s.heap.get? b=some o'->h'.get? b=some o') ->
  h'.get? s.heap.objs.size=some { cls:=.type "list",dict:=none,data:=.seq b_.toArray c',slots:=#[] }->EP X ad Z Q (.ref s.heap.objs.size) { s with heap:=h' }:=λb_ j hz h' c' kp e=>
  ⟨.ref s.heap.objs.size,_,I.laid (t':=s.toks) kp (aK _) (show cb X.prog X.w _ h' _ (.lst ys) from ⟨hz,b_,c',j,e⟩),rfl,q _ (I.hok.fresh (aK _))⟩
 rcases hq with hq | hq
 . obtain⟨b_,j,pl,hz⟩:=I.list hq;have O:=j.length;obtain⟨o,G,z,n,hd⟩:=pl.isList;exact call_list_seq p (.inl rfl) G z hd (λh' c' kp e=>J b_ j hz h' c' kp e) (by simp only[gf]<;>omega)
 obtain⟨b_,j,pl,hz⟩:=I.tuple hq;have O:=j.length;obtain⟨o,G,z,n,hd⟩:=pl;exact call_list_seq p (.inr rfl) G z hd (λh' c' kp e=>J b_ j hz h' c' kp e) (by simp only[gf]<;>omega)
theorem Zl:fh X (.type "tuple") (λxs H Q=>∃p ys,xs=[.ref p]/\((aa X.K H p ys/\∀l,H l=none->Q (.ref l) (ag H l (.tup ys)))\/(bh X.K H p ys/\Q (.ref p) H))):=by
 intro ad s Z H xs us Q I r h;obtain⟨p,ys,rfl,h⟩:=h;obtain⟨u,rfl,O⟩:=vals1 r;cases O
 rcases h with⟨j,q⟩ | ⟨j,q⟩
 . obtain⟨b_,z,pl,hz⟩:=I.list j;have U:=z.length;refine call_tuple_list pl.isList (λh' kp=>?_) (by simp only[gf]<;>omega);have G:Inv X ad Z H { s with heap:=h' }:=I.kept (t':=s.toks) kp;have J:Inv X ad Z (ag H h'.objs.size (.tup ys)) { s with heap:=h'.push { cls:=.type "tuple",data:=.seq b_.toArray } }:=
    G.laid (t':=s.toks) (λb o e=>b9 _ e) (aK _) (show cb X.prog X.w _ _ _ (.tup ys) from ⟨hz,b_,z,IsTup.new _ _⟩)
   exact⟨.ref h'.objs.size,_,J,rfl,q _ (G.hok.fresh (aK _))⟩
 obtain⟨b_,z,pl,hz⟩:=I.tuple j;exact call_tuple_same pl ⟨.ref p,H,I,rfl,q⟩
def Eh(K:Fg)(T:String)(x:V)(H:Hp):Prop:=match x with
 | .str _=>T="str"
 | .int _=>T="int"
 | .ref p=>(T="list"/\∃xs,aa K H p xs)\/(T="tuple"/\∃o,K.lookup p=some o/\o.cls=.type "tuple"/\o.dict=none) \/
  (T="dict"/\((∃kvs,H p=some (.dK kvs))\/∃kvs,H p=some (.dT kvs)))\/(T="set"/\∃S n,H p=some (.set S n))
 | _=>False
theorem Ei{H:Hp}{x:V}{v:Value}(I:Inv X ad Z H s)(r:RelV x v)(ty:Eh X.K T x H) :
 s.TypeIs v T/\∀a,v=.ref a->∃ob,s.heap.get? a=some ob/\ob.dict=none:=by
 cases x with
 | str z=>
  obtain⟨t,rfl⟩:=r;cases (show T="str" from ty);exact⟨zJ s z t,λ_ e=>nomatch e⟩
 | int i=>
  obtain⟨t,rfl⟩:=r;cases (show T="int" from ty);exact⟨typeIs_int s i t,λ_ e=>nomatch e⟩
 | ref p=>
  cases r
  rcases ty with⟨rfl,xs,J⟩ | ⟨rfl,o,j,G,hd⟩ | ⟨rfl,j⟩ | ⟨rfl,S,n,j⟩
  . obtain⟨b_,_,pl,_⟩:=I.list J;refine⟨pl.isList.typeIs,λa e=>?_⟩;cases e;obtain⟨o,n,e,c,hd,_⟩:=pl;exact⟨o,e,hd⟩
  . refine⟨⟨o,I.kIn p o j,G⟩,λa e=>?_⟩;cases e;exact⟨o,I.kIn _ o j,hd⟩
  . have z:∃o,s.heap.get? p=some o/\o.ExactDict:=by
     rcases j with⟨kvs,j⟩ | ⟨kvs,j⟩
     . obtain⟨_,_,_,_,o,_,_,e,ex,_⟩:=I.hok p _ j;exact⟨o,e,ex⟩
     obtain⟨_,_,_,_,o,_,_,e,ex,_⟩:=I.hok p _ j;exact⟨o,e,ex⟩
    obtain⟨o,e,ex⟩:=z;refine⟨⟨o,e,ex.1⟩,λa e2=>?_⟩;cases e2;exact⟨o,e,ex.2.1⟩
  obtain⟨o,_,_,_,e,ex,_⟩:=I.hok p _ j;refine⟨⟨o,e,ex.1⟩,λa e2=>?_⟩;cases e2;exact⟨o,e,ex.2.1⟩
 | _=>exact False.elim ty
def Zm(K:Fg)(T:String)(r:V->ae->Hp->VK->Prop)(to:TE):TE:=λZ H Q=>to Z H λx H1=>Eh K T x H1/\r x [] H1 Q
def La(K:Fg)(T:String)(r:V->ae->Hp->VK->Prop)(to:TE)(t:TA):TE:=λZ H Q=>to Z H λx H1=>Eh K T x H1/\t Z H1 λxs H2=>r x xs H2 Q
variable {o e:Expr}{es:List Expr}{to:TE}{t:TA}{name:Str}{apos cO:Pos}{id:String}{r:V->ae->Hp->VK->Prop}
theorem Zn(pa:PlainAttrs T)(slot:Slot T name id)(xz:typeOf (.builtin id)=pure (.type "method_descriptor"))(O:Ee X id r)(U:PE X o to)
 (Y:attributeBase o name X.env (eval o X.env)=eval o X.env:=by rfl) (pF:(apos.endLine == cO.line)=true:=by rfl):PE X (.Call (.Attribute o name apos) [] [] cO) (Zm X.K T r to):=by
 intro ad s Z H Q I h;refine aqp Y pF (thn (U ad s Z H _ I h) λv s1 G=>ba G λx H1 j z J=>J.elim λty q1=>?_);obtain⟨h1,h2⟩:=Ei j z ty;exact⟨T,id,pa,slot,xz,h1,h2,Dh rfl (PySem.evalArgs_none (O ad s1 Z H1 x [] v [] Q j z .nil q1))⟩
theorem db(pa:PlainAttrs T)(slot:Slot T name id)(xz:typeOf (.builtin id)=pure (.type "method_descriptor"))(hm:Ee X id r)(ho:PE X o to)(ha:PA X (e::es) t)
 (pE:attributeBase o name X.env (eval o X.env)=eval o X.env:=by rfl)
 (J:((backTo cO (starEach (e::es) X.env)).all (λx=>!x.1) && (backToKw cO (keywordEach [] X.env)).all (λx=>x.1.isSome)
  && decide ((e::es).length+([]:List Keyword).length+(if ([]:List Keyword).isEmpty then 0 else 1)<30))=true:=by rfl)
 (pF:(apos.endLine == cO.line)=true:=by rfl) (hs:starEach (e::es) X.env=(false,eval e X.env)::starEach es X.env:=by rfl) (O:(backTo cO (starEach es X.env)).any (·.1)=false:=by rfl) :
 PE X (.Call (.Attribute o name apos) (e::es) [] cO) (La X.K T r to t):=by
 intro ad s Z H Q I h;refine wpAny_Call_method_late pE J pF rfl (thn (ho ad s Z H _ I h) λv s1 Y=>ba Y λx H1 j G Zr=>Zr.elim λty q1=>?_);obtain⟨h1,h2⟩:=Ei j G ty;refine⟨T,id,pa,slot,xz,h1,h2,?_⟩;have z:=ha cO ad s1 Z H1 _ j q1;rw[hs]at z ⊢;refine Dh (by show(false || (backTo cO (starEach es X.env)).any (·.1))=false;rw[O]<;>rfl) (Jn ?_);exact thn z λus s2 Zs=>ba Zs λvs H2 U r2 q2=>hm ad s2 Z H2 x vs v us Q U G r2 q2
end
def nV(X:Cx)(id:String)(r:V->ae->Hp->VK->Prop):Prop:=
 ∀(ad:Po) (s:Shared) (Z:St) (H:Hp) (x:V) (xs:ae) (v:Value) (us:Lw) (Q:VK),Inv X ad Z H s->RelV x v->bc xs us->r x xs H Q ->
  wpAny (model X.prog X.w) X.A (call (.builtin id) (v::us)) (EP X ad Z Q) X.xe s
theorem bc.one:∀{x:V}{us:Lw},bc [x] us->∃u,us=[u]/\RelV x u
 | _,_,.cons r .nil=>⟨_,rfl,r⟩
section
variable {H:Hp}{l:Addr}{xs ys zs:ae}
theorem Inv.lset{b_ its':Lw}{f:Av->Av}(I:Inv X ad Z H s)(j:H l=some (.lst xs))
 (e:s.heap.get? l=some { cls:=.type "list",data:=.seq b_.toArray n }) (G:f b_.toArray=its'.toArray) (O:bc ys its') (hz:ys.length<=sizeLine) :
 Inv X ad Z (ag H l (.lst ys)) { s with heap:=s.heap.update l (Obj.mapSeq f),toks:=t' }:=by
 have q:=PySem.IsL.update e f;rw[G]at q;refine I.write (x:=l) (e:=l) (by rw[j];exact trivial) (.inl rfl) (λb' u z J=>(Di s.heap (Obj.mapSeq f) (gy z)).trans J) ⟨_,q⟩ ?_;exact⟨hz,its',_,O,q⟩
theorem Inv.lnew{b_:Lw}(I:Inv X ad Z H s)(j:bc ys b_)(hz:ys.length<=sizeLine) :
 Inv X ad Z (ag H s.heap.objs.size (.lst ys)) { s with heap:=s.heap.push { cls:=.type "list",data:=.seq b_.toArray },toks:=t' }:=
 I.laid (λ_ _ q=>b9 _ q) (aK _) ⟨hz,b_,0,j,dA _ rfl⟩
theorem Inv.fresh(I:Inv X ad Z H s):H s.heap.objs.size=none:=I.hok.fresh (aK _)
theorem Inv.lstM(I:Inv X ad Z H s)(j:H l=some (.lst xs)):xs.length<=sizeLine/\∃(b_:Lw) (n:Nat),bc xs b_/\xs.length=b_.length/\s.heap.get? l=some { cls:=.type "list",data:=.seq b_.toArray n }:=by
 obtain⟨z,b_,n,r,e⟩:=I.hok l _ j;exact⟨z,b_,n,r,r.length,e⟩
theorem Zt(h:n<=sizeLine):Builtin.List.listTooLong n=false:=by
 unfold Builtin.List.listTooLong;exact cu (by omega)
end
inductive Lc (H:Hp) (Q:VK):V->ae->Prop where
 | mk {l:Addr}{xs:ae}{y:V} (_:H l=some (.lst xs)) (_:xs.length<sizeLine) (_:Q .non (ag H l (.lst (xs++[y])))):Lc H Q (.ref l) [y]
def Zu:V->ae->Hp->VK->Prop:=λx vs H Q=>Lc H Q x vs
theorem mx:nV X "list.append" Zu:=by
 intro ad s Z H x vs v us Q I O J h;obtain @⟨l,xs,y,j,hz,q⟩:=h;cases O;obtain⟨u,rfl,G⟩:=J.one;obtain⟨z,b_,n,r,U,e⟩:=I.lstM j;refine Dj F.slot_list_append ⟨_,e,rfl⟩ F.entry_list_append (F.args_list_append_2 _ _) (PySem.list_append l b_.toArray n u (by rw[gf];omega)) ⟨e,?_⟩;refine⟨.non,_,I.lset (its':=b_++[u]) j e (by simp) (r.append (.cons G .nil)) ?_,rfl,q⟩;rw[bI,jU];omega
inductive Ld (H:Hp) (Q:VK):V->ae->Prop where
 | mk {l:Addr}{b:Addr}{xs:ae}{zs:ae} (_:H l=some (.lst xs)) (_:H b=some (.lst zs)) (_:xs.length+zs.length<=sizeLine) (_:Q .non (ag H l (.lst (xs++zs)))):Ld H Q (.ref l) [.ref b]
def Zv:V->ae->Hp->VK->Prop:=λx vs H Q=>Ld H Q x vs
theorem nW:nV X "list.extend" Zv:=by
 intro ad s Z H x vs v us Q I rx rv h;obtain @⟨l,b,xs,zs,G,O,hz,q⟩:=h;cases rx;obtain⟨u,rfl,Y⟩:=rv.one;cases Y;obtain⟨z,b_,n,r,hl,e⟩:=I.lstM G;obtain⟨z2,j,n2,U,tD,e2⟩:=I.lstM O;have hsz:b_.toArray.size+j.toArray.size<=sizeLine:=by rw[gf,gf];omega
 have J:¬(!b_.toArray.isEmpty && Builtin.List.listTooLong (b_.toArray.size+j.toArray.size))=true:=by
  rw[Zt hsz,uO];exact cS
 refine Dj F.slot_list_extend ⟨_,e,rfl⟩ F.entry_list_extend (F.args_list_extend_2 _ _)
  (AutoSeq1.list_extend_list_list_0 l b_.toArray n b j.toArray n2 J (by rw[gf];omega) (by omega)) ⟨e,e2,?_⟩
 refine⟨.non,_,I.lset (its':=b_++j) G e (by simp) (r.append U) ?_,rfl,q⟩;rw[bI];omega
def Zx:R2:=λx y H Q=>∃l b xs zs,x=.ref l/\y=.ref b/\H l=some (.lst xs)/\H b=some (.lst zs)/\xs.length+zs.length<=sizeLine/\∀p,H p=none->Q (.ref p) (ag H p (.lst (xs++zs)))
theorem Zy:cw X (binaryOp .Add) Zx:=by
 intro ad s Z H x y v u Q I Y ry h;obtain⟨l,b,xs,zs,rfl,rfl,O,J,hz,q⟩:=h;cases Y;cases ry;obtain⟨z,b_,n,r,hl,e⟩:=I.lstM O;obtain⟨z2,j,n2,U,tD,e2⟩:=I.lstM J;refine PySem.P.add_list e e2 ?_ (by rw[gf,gf];omega);have G:b_.toArray++j.toArray=(b_++j).toArray:=by simp
 rw[G];exact⟨.ref _,_,I.lnew (t':=s.toks) (r.append U) (by rw[bI];omega),rfl,q _ I.fresh⟩
section
variable {κ:Type} [DecidableEq κ]
def bi(kvs:List (κ×V))(k:κ):Option V:=(kvs.find? λkv=>decide (kv.1=k)).map (·.2)
def cx(kvs:List (κ×V))(k:κ)(v:V):List (κ×V):=
 if (kvs.any λkv=>decide (kv.1=k))=true then kvs.map (λkv=>if kv.1=k then(kv.1,v) else kv) else kvs++[(k,v)]
def nX(kvs:List (κ×V))(k:κ):List (κ×V):=kvs.filter λkv=>decide (kv.1≠k)
theorem j0{p:κ×V}{r:List (κ×V)}{k:κ}(e:p.1=k):bi (p::r) k=some p.2:=by simp[bi,sf,e]
theorem ji{p:κ×V}{r:List (κ×V)}{k:κ}(e:¬p.1=k):bi (p::r) k=bi r k:=by simp[bi,sf,e]
theorem xA(k:κ):∀kvs:List (κ×V),(kvs.any λkv=>decide (kv.1=k))=(bi kvs k).isSome
 | []=>rfl
 | p::r=>by
  rw[se]
  by_cases e:p.1=k
  . simp only[j0 e,bE e,Vu,Option.isSome_some]
  rw[ji e,cu e,Bool.false_or];exact xA k r
theorem Le(k j:κ)(y:V):∀kvs:List (κ×V),bi (kvs.map λkv=>if kv.1=k then(kv.1,y) else kv) j=(bi kvs j).map λx=>if j=k then y else x
 | []=>rfl
 | p::r=>by
  have G:=Le k j y r;rw[bV]
  by_cases h:p.1=k
  . rw[am h]
    by_cases e:p.1=j
    . rw[j0 (p:=(p.1,y)) e,j0 e,si,am (e.symm.trans h)]
    rw[ji (p:=(p.1,y)) e,ji e,G]
  rw[ah h]
  by_cases e:p.1=j
  . rw[j0 (p:=p) e,j0 e,si,ah (λz=>h (e.trans z))]
  rw[ji (p:=p) e,ji e,G]
theorem Lf(k j:κ)(y:V):∀kvs:List (κ×V),bi kvs k=none->bi (kvs++[(k,y)]) j=if j=k then some y else bi kvs j
 | [],_=>by
  by_cases e:k=j
  . rw[am e.symm];exact j0 (p:=(k,y)) e
  rw[ah (λz=>e z.symm)];exact ji (p:=(k,y)) e
 | p::r,hn=>by
  rw[uP];have G:¬p.1=k:=λz=>by rw[j0 z]at hn;cases hn
  rw[ji G]at hn;have J:=Lf k j y r hn
  by_cases e:p.1=j
  . rw[j0 e,j0 e,ah (λz=>G (e.trans z))]
  rw[ji e,ji e,J]
theorem AC(kvs:List (κ×V))(k j:κ)(y:V):bi (cx kvs k y) j=if j=k then some y else bi kvs j:=by
 unfold cx
 by_cases a:(kvs.any λkv=>decide (kv.1=k))=true
 . rw[am a,Le];rw[xA]at a
   by_cases e:j=k
   . obtain⟨x,z⟩:=Jl.mp a;rw[am e,e,z,si,am rfl]
   rw[ah e];cases bi kvs j with
   | none=>rfl
   | some x=>rw[si,ah e]
 rw[ah a];refine Lf k j y kvs ?_;rw[xA]at a;cases q:bi kvs k with
 | none=>rfl
 | some x=>rw[q]at a;exact(a rfl).elim
theorem xB(kvs:List (κ×V))(k:κ)(v:V):(cx kvs k v).length<=kvs.length+1:=by
 unfold cx;split
 . rw[ak];omega
 rw[bI,cq,kQ];omega
theorem El{kvs:List (κ×V)}{k:κ}(v:V)(h:bi kvs k=none):cx kvs k v=kvs++[(k,v)]:=by
 unfold cx;rw[xA,h];exact ah (by decide)
theorem gM.isSome_eq{o:Option V}{u:Option Value}(r:gM o u):o.isSome=u.isSome:=by
 cases o with
 | none=>cases u with
  | none=>rfl
  | some _=>exact(show False from r).elim
 | some _=>cases u with
  | none=>exact(show False from r).elim
  | some _=>rfl
theorem gM.getD{o:Option V}{u:Option Value}{d:V}{d':Value}(r:gM o u)(j:RelV d d'):RelV (o.getD d) (u.getD d'):=by
 cases o with
 | none=>cases u with
  | none=>exact j
  | some _=>exact(show False from r).elim
 | some _=>cases u with
  | none=>exact(show False from r).elim
  | some _=>exact r
theorem KV.val{kvs:List (κ×V)}{vs:List (κ×Value)}(r:KV kvs vs)(k:κ):gM (bi kvs k) (valueAt vs k):=by
 unfold KV at r
 induction r with
 | nil=>exact True.intro
 | @cons p q ps G h t J=>
  obtain⟨h1,h2⟩:=h
  by_cases e:p.1=k
  . have j:q.1=k:=h1.symm.trans e;have b:valueAt (q::G) k=some q.2:=by simp[valueAt,sf,j]
    rw[j0 e,b];exact h2
  have j:¬q.1=k:=λz=>e (h1.trans z);have b:valueAt (q::G) k=valueAt G k:=by simp[valueAt,sf,j]
  rw[ji e,b];exact J
theorem KV.any{kvs:List (κ×V)}{vs:List (κ×Value)}(r:KV kvs vs)(k:κ):(kvs.any λkv=>decide (kv.1=k))=vs.any λkv=>decide (kv.1=k):=by
 unfold KV at r
 induction r with
 | nil=>rfl
 | cons h t j=>rw[se,se,j,h.1]
theorem KV.repl{kvs:List (κ×V)}{vs:List (κ×Value)}(r:KV kvs vs)(k:κ){y:V}(G:RelV y u) :
 KV (kvs.map λkv=>if kv.1=k then(kv.1,y) else kv) (vs.map λkv=>if kv.1=k then(kv.1,u) else kv):=by
 unfold KV at r ⊢
 induction r with
 | nil=>exact .nil
 | @cons p q ps J h t j=>
  rw[bV,bV];refine .cons ?_ j;obtain⟨h1,h2⟩:=h
  by_cases e:p.1=k
  . rw[am e,am (h1.symm.trans e)];exact⟨h1,G⟩
  rw[ah e,ah (λz=>e (h1.trans z))];exact⟨h1,h2⟩
theorem KV.put{kvs:List (κ×V)}{vs:List (κ×Value)}(r:KV kvs vs)(k:κ){y:V}(j:RelV y u):KV (cx kvs k y) (stored vs k u):=by
 unfold cx stored;rw[r.any k]
 by_cases e:(vs.any λkv=>decide (kv.1=k))=true
 . rw[am e,am e];exact r.repl k j
 rw[ah e,ah e];exact Paired.snoc r ⟨rfl,j⟩
theorem KV.drop{kvs:List (κ×V)}{vs:List (κ×Value)}(r:KV kvs vs)(k:κ):KV (nX kvs k) (without vs k):=by
 unfold KV at r ⊢;unfold nX without
 induction r with
 | nil=>exact .nil
 | @cons p q ps J h t j=>
  obtain⟨h1,h2⟩:=h;rw[nw,nw]
  by_cases e:p.1=k
  . have a:¬decide (p.1≠k)=true:=by simp[e]
    have b:¬decide (q.1≠k)=true:=by simp[h1.symm.trans e]
    rw[ah a,ah b];exact j
  have G:¬q.1=k:=λz=>e (h1.trans z);have a:decide (p.1≠k)=true:=by simp[e]
  have b:decide (q.1≠k)=true:=by simp[G]
  rw[am a,am b];exact .cons ⟨h1,h2⟩ j
theorem KV.length{kvs:List (κ×V)}{vs:List (κ×Value)}(r:KV kvs vs):kvs.length=vs.length:=Vg r
theorem Zz(kvs:List (κ×V))(k:κ):(nX kvs k).length<=kvs.length:=zK _ _
end
theorem nY{k:ao}(r:RelV (kV k) u):(cf P w).is k u=true:=by
 cases k with
 | inl i=>obtain⟨t,e⟩:=(show∃t,u=Value.int i t from r);subst e;exact Wi P w i t
 | inr x=>obtain⟨t,e⟩:=(show∃t,u=Value.str x t from r);subst e;exact sJ P w x t
theorem Lg:∀{ks:List ao}{us:Lw},bc (ks.map kV) us->ItemsAre (cf P w) ks us
 | [],_,r=>by rw[zL]at r;cases r;exact .nil
 | k::ks,_,r=>by
  rw[bV]at r;cases r with
  | cons h t=>exact .cons (nY h) (Lg t)
abbrev KT (H:Hp):List (List NI×V)->List (List NI×Addr×Value)->Prop:=Paired λp q=>p.1=q.1/\kW H p.1 q.2.1/\RelV p.2 q.2.2
theorem KT.val{H:Hp}{xs:List (List NI×Addr×Value)}(r:KT H kvs xs)(k:List NI):gM (bi kvs k) ((atKey xs k).map (·.2)):=by
 induction r with
 | nil=>exact True.intro
 | @cons p q ps G h t J=>
  obtain⟨h1,_,h2⟩:=h
  by_cases e:p.1=k
  . have j:q.1=k:=h1.symm.trans e;have b:atKey (q::G) k=some q.2:=by simp[atKey,sf,j]
    rw[j0 e,b];exact h2
  have j:¬q.1=k:=λz=>e (h1.trans z);have b:atKey (q::G) k=atKey G k:=by simp[atKey,sf,j]
  rw[ji e,b];exact J
theorem KT.repl{H:Hp}{xs:List (List NI×Addr×Value)}(r:KT H kvs xs)(k:List NI){y:V}(J:RelV y u) :
 KT H (kvs.map λkv=>if kv.1=k then(kv.1,y) else kv) (xs.map (putAt k u)):=by
 induction r with
 | nil=>exact .nil
 | @cons p q ps O h t G=>
  rw[bV,bV];refine .cons ?_ G;obtain⟨h1,h2,j⟩:=h;unfold putAt
  by_cases e:p.1=k
  . rw[am e,am (h1.symm.trans e)];exact⟨h1,h2,J⟩
  rw[ah e,ah (λz=>e (h1.trans z))];exact⟨h1,h2,j⟩
theorem KT.put{H:Hp}{xs:List (List NI×Addr×Value)}(r:KT H kvs xs)(k:List NI){y:V}(z:kW H k b)(j:RelV y u) :
 KT H (cx kvs k y) (storedH xs k b u):=by
 have e:(kvs.any λkv=>decide (kv.1=k))=(atKey xs k).isSome:=by
  rw[xA,(r.val k).isSome_eq,Vv]
 unfold cx storedH;rw[e]
 by_cases q:(atKey xs k).isSome=true
 . rw[am q,am q];exact r.repl k j
 rw[ah q,ah q];exact Paired.snoc r ⟨rfl,z,j⟩
theorem KT.keeps{H:Hp}{xs:List (List NI×Addr×Value)}(r:KT H kvs xs)(j:∀b ys,H b=some (.tup ys)->H' b=some (.tup ys)):KT H' kvs xs:=
 Paired.mapP r λ_ _ z=>⟨z.1,z.2.1.keeps j,z.2.2⟩
section
variable {H:Hp}{h:Heap}
theorem Lh{u:HO}(ok:cC P w H h)(e:Rd H a u):cb P w H h a u:=e.ok ok
theorem pG{kvs:List (ao×V)}(ok:cC P w H h)(e:Rd H a (.dK kvs)):kvs.length<=sizeLine/\(a == sysModules)=false/\∃vs,KV kvs vs/\h.DictOf (cf P w) a vs:=
 show cb P w H h a (.dK kvs) from Lh ok e
theorem iS{kvs:List (ao×V)}(ok:cC P w H h)(e:H a=some (.dK kvs)):kvs.length<=sizeLine/\(a == sysModules)=false/\∃vs,KV kvs vs/\h.DictOf (cf P w) a vs:=pG ok (.inl e)
theorem ZA{ks:List NI}{vs:ae}{us:Lw}(ok:cC P w H h)(x:JO H ks vs)(r:bc vs us):ja P w h ks us:=by
 induction x generalizing us with
 | nil=>cases r;exact .nil
 | @cons i v ks vs p _ G=>
  cases r with
  | cons j O=>
   refine .cons ?_ (G O);cases i with
   | inl k=>
    have p:v=kV k:=p;subst p;exact nY (P:=P) (w:=w) j
   | inr l=>
    obtain⟨b,rfl,e⟩:=p;cases j;obtain⟨_,b_,J,o,h1,h2,n,z⟩:=(show cb P w H h b (.tup (l.map kV)) from ok b _ e);exact⟨b,rfl,o,b_.toArray,n,h1,h2,z,by simpa using Lg J⟩
theorem vf{ks:List NI}(ok:cC P w H h)(e:kW H ks a):(sK P w).is h ks a:=by
 obtain⟨vs,e,x⟩:=e;obtain⟨_,b_,r,o,h1,h2,n,j⟩:=(show cb P w H h a (.tup vs) from ok a _ e);exact⟨o,b_.toArray,n,h1,h2,j,by simpa using ZA ok x r⟩
theorem tE(ok:cC P w H h)(e:Rd H a (.dT kvs)):kvs.length<=sizeLine/\(a == sysModules)=false /\
 ∃xs,KT H kvs xs/\h.DictOfH (sK P w) a xs:=by
 obtain⟨z,y,xs,r,o,es,ep,h1,h2,G,J,O⟩:=(show cb P w H h a (.dT kvs) from Lh ok e);refine⟨z,y,xs,r,o,es,ep,h1,h2,G,J,λx hx=>?_,O⟩;have all:∀{l:List (List NI×V)}{m:List (List NI×Addr×Value)},KT H l m->∀x∈m,(sK P w).is h x.1 x.2.1:=by
  intro l m q
  induction q with
  | nil=>intro x hx;exact nomatch hx
  | @cons p q ps Y j t U=>
   intro x hx
   rcases bf.mp hx with e | hx
   . subst e;exact vf ok (by rw[<-j.1];exact j.2.1)
   exact U x hx
 exact all r x hx
theorem ZB(ok:cC P w H h)(e:H a=some (.dT kvs)):kvs.length<=sizeLine/\(a == sysModules)=false /\
 ∃xs,KT H kvs xs/\h.DictOfH (sK P w) a xs:=tE ok (.inl e)
end
def ci(H:Hp)(a:Addr)(y:V)(r:Option V):Prop:=
 (∃kvs k,Rd H a (.dK kvs)/\y=kV k/\r=bi kvs k)\/∃kvs k b,Rd H a (.dT kvs)/\y=.ref b/\kW H k b/\r=bi kvs k
def fX(H:Hp)(a:Addr)(y v:V)(H':Hp):Prop:=
 (∃kvs k,H a=some (.dK kvs)/\y=kV k/\kvs.length<sizeLine/\H'=ag H a (.dK (cx kvs k v))) \/
 ∃kvs k b,H a=some (.dT kvs)/\y=.ref b/\kW H k b/\kvs.length<sizeLine/\H'=ag H a (.dT (cx kvs k v))
theorem ci.k{H:Hp}{kvs:List (ao×V)}{k:ao}(e:H a=some (.dK kvs)):ci H a (kV k) (bi kvs k):=.inl ⟨kvs,k,.inl e,rfl,rfl⟩
theorem ci.t{H:Hp}{k:List NI}(e:H a=some (.dT kvs))(j:kW H k b):ci H a (.ref b) (bi kvs k):=.inr ⟨kvs,k,b,.inl e,rfl,j,rfl⟩
theorem fX.k{H:Hp}{kvs:List (ao×V)}{k:ao}(e:H a=some (.dK kvs))(j:kvs.length<sizeLine):fX H a (kV k) v (ag H a (.dK (cx kvs k v))):=.inl ⟨kvs,k,e,rfl,j,rfl⟩
theorem fX.t{H:Hp}{k:List NI}(e:H a=some (.dT kvs))(j:kW H k b)(z:kvs.length<sizeLine) :
 fX H a (.ref b) v (ag H a (.dT (cx kvs k v))):=.inr ⟨kvs,k,b,e,rfl,j,z,rfl⟩
section
variable {H:Hp}{y:V}{r:Value}{o:Option V}{E:VP}
theorem Inv.big(I:Inv X ad Z H s):sysModules<s.heap.objs.size:=by
 have h:mainGlobals<s.heap.objs.size:=(I.mod.glob.keeps I.bk).lt;exact wL (by decide) h
theorem ZC{Q:VP}(hu:A.units+64<cLine)(I:Inv X ad Z H s)(g:ci H a y (some v))(Y:RelV y u)(h:∀j s',Inv X ad Z H s'->RelV v j->Q j s') :
 wpAny (model X.prog X.w) A (getItem (.ref a) u) Q E s:=by
 rcases g with⟨kvs,k,e,G,l⟩ | ⟨kvs,k,b,e,G,eb,l⟩
 . subst G;obtain⟨z,hd,vs,U,dd⟩:=pG I.hok e;obtain⟨j,J,O⟩:=gM.some_of (v:=v) (o:=valueAt vs k) (by rw[l];exact U.val k);exact wpAny_getItem_of (nY Y) dd.mapOf J (h j _ (I.tok _) O)
 subst G;cases (show u=Value.ref b from Y);obtain⟨z,hd,xs,U,dd⟩:=tE I.hok e;obtain⟨j,J,O⟩:=gM.some_of (v:=v) (o:=(atKey xs k).map (·.2)) (by rw[l];exact U.val k);obtain⟨p,hp,Em⟩:=aqq.mp J;refine wpAny_getItem_heap (wY hu) (vf I.hok eb) dd hp ?_;rw[Em];exact h j _ (I.tok _) O
theorem ZD{Q:VP}(U:A.units+64<cLine)(I:Inv X ad Z H s)(g:ci H a y o)(J:RelV y u)(h:∀s',Inv X ad Z H s'->Q (.bool o.isSome) s') :
 wpAny (model X.prog X.w) A (compareOp .In u (.ref a)) Q E s:=by
 rcases g with⟨kvs,k,e,j,l⟩ | ⟨kvs,k,b,e,j,O,l⟩
 . subst j;obtain⟨z,hd,vs,G,dd⟩:=pG I.hok e;refine wpAny_in_of (nY J) hd dd.mapOf ?_;rw[<-(G.val k).isSome_eq,<-l];exact h _ (I.tok _)
 subst j;cases (show u=Value.ref b from J);obtain⟨z,hd,xs,G,dd⟩:=tE I.hok e;refine wpAny_in_heap (wY U) (vf I.hok O) hd dd ?_;have q:=(G.val k).isSome_eq;rw[Vv]at q;rw[<-q,<-l];exact h _ (I.tok _)
theorem ZE{Q:VP}(U:A.units+64<cLine)(I:Inv X ad Z H s)(g:ci H a y o)(J:RelV y u)(h:∀s',Inv X ad Z H s'->Q (.bool (!o.isSome)) s') :
 wpAny (model X.prog X.w) A (compareOp .NotIn u (.ref a)) Q E s:=by
 rcases g with⟨kvs,k,e,j,l⟩ | ⟨kvs,k,b,e,j,O,l⟩
 . subst j;obtain⟨z,hd,vs,G,dd⟩:=pG I.hok e;refine wpAny_notIn_of (nY J) hd dd.mapOf ?_;rw[<-(G.val k).isSome_eq,<-l];exact h _ (I.tok _)
 subst j;cases (show u=Value.ref b from J);obtain⟨z,hd,xs,G,dd⟩:=tE I.hok e;refine wpAny_notIn_heap (wY U) (vf I.hok O) hd dd ?_;have q:=(G.val k).isSome_eq;rw[Vv]at q;rw[<-q,<-l];exact h _ (I.tok _)
theorem vg{h':Heap}{ob:HO}(I:Inv X ad Z H s)(J:wZ (H a))(hs:Heap.SameBut a s.heap h')(G:∃q,h'.get? a=some q)(new:cb X.prog X.w (ag H a ob) h' a ob) :
 Inv X ad Z (ag H a ob) { s with heap:=h',toks:=t' }:=
 I.write (x:=a) (e:=a) J (.inl rfl) (λb q j z=>(hs.2 b j).trans z) G new
theorem vh{h':Heap}{kvs:List (ao×V)}{vs:List (ao×Value)}(z:kvs.length<=sizeLine)(hd:(a == sysModules)=false)(j:KV kvs vs)(dd:h'.DictOf (cf P w) a vs) :
 cb P w H' h' a (.dK kvs):=⟨z,hd,vs,j,dd⟩
theorem ZF{Q:Unit->Shared->Prop}(hu:A.units+64<cLine)(I:Inv X ad Z H s)(g:fX H a y v H')(ry:RelV y u)(rv:RelV v r)(h:∀s',Inv X ad Z H' s'->Q () s') :
 wpAny (model X.prog X.w) A (setItem (.ref a) u r) Q E s:=by
 rcases g with⟨kvs,k,e,U,l,O⟩ | ⟨kvs,k,b,e,U,eb,l,O⟩
 . subst U O;obtain⟨z,hd,vs,j,dd⟩:=iS I.hok e;have hz:vs.length<=sizeLine:=by rw[<-j.length];exact z
   have Y:(cx kvs k v).length<=sizeLine:=by have:=xB kvs k v;omega
   refine wpAny_setItem_pairs (hsz:=hz) (nY ry) dd λh' G hs=>h _ ?_;have he:∃q,h'.get? a=some q:=G.elim λq ZG=>ZG.elim λ_ ZH=>ZH.elim λ_ ZI=>ZI.elim λJ _=>⟨q,J⟩;exact vg I (by rw[e];exact True.intro) hs he (vh Y hd (j.put k rv) G)
 subst U O;cases (show u=Value.ref b from ry);obtain⟨z,hd,xs,j,dd⟩:=ZB I.hok e;have hz:xs.length<=sizeLine:=by rw[<-Vg j];exact z
 have Y:(cx kvs k v).length<=sizeLine:=by have:=xB kvs k v;omega
 refine wpAny_setItem_heap (hsz:=hz) (wY hu) (vf I.hok eb) dd λh' G hs=>h _ ?_;obtain⟨q,es,ep,J,h2,h3,h4,_,h5⟩:=G;refine vg I (by rw[e];exact True.intro) hs ⟨q,J⟩ ⟨Y,hd,_,(j.put k eb rv).keeps λc ys ec=>?_,q,es,ep,J,h2,h3,h4,h5⟩;rw[bg (aU ec e (λz=>nomatch z))];exact ec
end
section
variable {H:Hp}{kvs:List (ao×V)} {k:ao}{E:VP}
theorem ZJ{j:Lw}{Q:VP}(I:Inv X ad Z H s)(e:H a=some (.dK kvs))(O:RelV (kV k) u)(l:bi kvs k=some v)(Y:j=[]\/∃x,j=[x])
 (h:∀G s',Inv X ad Z (ag H a (.dK (nX kvs k))) s'->RelV v G->Q G s'):wpAny (model X.prog X.w) A (call (.builtin "dict.pop") (.ref a::u::j)) Q E s:=by
 obtain⟨z,hd,vs,J,dd⟩:=iS I.hok e;obtain⟨G,hw,ia⟩:=gM.some_of (v:=v) (o:=valueAt vs k) (by rw[<-l];exact J.val k);have hp:(keyPart u).isSome=true:=by
  cases k with
  | inl i=>obtain⟨t,q⟩:=(show∃t,u=Value.int i t from O);subst q;rfl
  | inr x=>obtain⟨t,q⟩:=(show∃t,u=Value.str x t from O);subst q;rfl
 have ha:argsOk "dict.pop" ⟨.ref a::u::j,[]⟩:=by
  rcases Y with q | ⟨x,q⟩
  . subst q;exact PySem.F.args_dict_pop_2 _ _
  subst q;exact PySem.F.args_dict_pop_3 _ _ _
 refine wM aqr dd.typeIs PySem.F.entry_dict_pop ha (meets_dict_pop_there (cf X.prog X.w) a (nY O) j Y hp)
  ⟨vs,G,dd,by rw[<-J.length];exact z,hw,λh' U hs=>h G _ ?_ ia⟩
 have he:∃q,h'.get? a=some q:=U.elim λq ZK=>ZK.elim λ_ ZL=>ZL.elim λ_ ZM=>ZM.elim λhq _=>⟨q,hq⟩;exact vg I (by rw[e];exact True.intro) hs he (vh (cn (Zz kvs k) z) hd (J.drop k) U)
theorem ZN{Q:VP}(I:Inv X ad Z H s)(e:Rd H a (.dK kvs))(h:∀t s',Inv X ad Z H s'->Q (.int kvs.length t) s'):wpAny (model X.prog X.w) A (call (.builtin "len") [.ref a]) Q E s:=by
 obtain⟨z,hd,vs,j,dd⟩:=pG I.hok e;refine call_len_dict hd dd (by rw[<-j.length];rw[uN]at z;omega) ?_;rw[<-j.length];exact h _ _ (I.tok _)
end
def Li(i:Expr):Prop:=∀z j,subscripted i false z j=operate [z,j] (getItem z j)
theorem ZO{prog:Program}{E:VP}{env:Env}{value j:Expr}{id:String}{Q:VP}
 (hl:typeLookup (.type T) "__getitem__"=pure (some (.builtin id))) (hs:Li j)
 (h:wpAny (model prog w) A (eval value env) (λo U=>wpAny (model prog w) A (eval j env) (λi z=>z.TypeIs o T/\wpAny (model prog w) A (getItem o i) Q E z) E U) E s) :
 wpAny (model prog w) A (eval (.Subscript value j pos) env) Q E s:=by
 refine Jm (eV h (λo U h₁=>eV h₁ (λi z J=>?_) λ_ _ x=>x) λ_ _ x=>x);obtain⟨O,J⟩:=J;unfold subscriptTail;refine af ?_;rw[getitemInPython_of_ne O.not_modules];refine af (zF O hl ?_);have G:wpAny (model prog w) A (subscripted j false o i) (λr Y=>wpAny (model prog w) A (letTemporaryGo value o r >>= λ_=>pure r) Q E Y) E z:=by
  rw[hs o i];exact wpAny_operating (eV J (λr Y h₃=>af (wpAny_letTemporaryGo (au h₃))) λ_ _ x=>x)
 first
  | exact au (af G)
  | exact af (au (af G))
  | exact af G
theorem ZP{H:Hp}{y:V}{o:Option V}(I:Inv X ad Z H s)(g:ci H a y o):s.TypeIs (.ref a) "dict":=by
 rcases g with⟨kvs,k,e,_,_⟩ | ⟨kvs,k,b,e,_,_,_⟩
 . obtain⟨_,_,vs,_,dd⟩:=pG I.hok e;exact dd.typeIs
 obtain⟨_,_,xs,_,dd⟩:=tE I.hok e;exact dd.typeIs
inductive Lj (Q:VK) (y:V) (H2:Hp):V->Prop where
 | mk {a:Addr}{v:V} (_:ci H2 a y (some v)) (_:Q v H2):Lj Q y H2 (.ref a)
def ZQ(td ty:TE):TE:=λZ H Q=>td Z H λx H1=>ty Z H1 λy H2=>Lj Q y H2 x
inductive Lk (Q:VK) (y:V) (H2:Hp):V->Prop where
 | mk {a:Addr} (o:Option V) (_:ci H2 a y o) (_:Q (.bl o.isSome) H2):Lk Q y H2 (.ref a)
def ZR(ty td:TE):TE:=λZ H Q=>ty Z H λy H1=>td Z H1 λx H2=>Lk Q y H2 x
inductive Lq (Q:VK) (y:V) (H2:Hp):V->Prop where
 | mk {a:Addr} (o:Option V) (_:ci H2 a y o) (_:Q (.bl (!o.isSome)) H2):Lq Q y H2 (.ref a)
def ZS(ty td:TE):TE:=λZ H Q=>ty Z H λy H1=>td Z H1 λx H2=>Lq Q y H2 x
inductive Lr (D:Ends) (Z:St) (v:V) (y:V) (H3:Hp):V->Prop where
 | mk {a:Addr}{j:Hp} (_:fX H3 a y v j) (_:D.nx Z j):Lr D Z v y H3 (.ref a)
def ZT(td ty tv:TE):TS:=λD Z H=>tv Z H λv H1=>td Z H1 λx H2=>ty Z H2 λy H3=>Lr D Z v y H3 x
section
variable {o i e value:Expr}{pos' vd:Pos}{td ty tv:TE}
theorem lm(hu:X.A.units+64<cLine)(Y:PE X o td)(hi:PE X i ty)(hs:Li i):PE X (.Subscript o i pos) (ZQ td ty):=by
 intro ad s Z H Q I h;refine ZO PySem.F.slot_dict_getitem.lookup hs (thn (Y ad s Z H _ I h) λu s1 J=>ba J λx H1 z rx q1=>thn (hi ad s1 Z H1 _ z q1) λiv s2 O=>ba O λy H2 j ry U=>?_);obtain @⟨a,v,g,q2⟩:=U;obtain rfl:u=Value.ref a:=rx;exact⟨ZP j g,ZC hu j g ry λw' s3 G ia=>⟨v,H2,G,ia,q2⟩⟩
theorem pH(hu:X.A.units+64<cLine)(hi:PE X i ty)(Y:PE X o td):PC X .In i o (ZR ty td):=by
 intro ad s Z H Q I h;refine thn (hi ad s Z H _ I h) λiv s1 J=>ba J λy H1 j ry q1=>thn (Y ad s1 Z H1 _ j q1) λu s2 O=>ba O λx H2 z rx U=>?_;obtain @⟨a,ov,g,q2⟩:=U;obtain rfl:u=Value.ref a:=rx;exact ZD hu z g ry λs3 G=>⟨.bl ov.isSome,H2,G,rfl,q2⟩
theorem xC(hu:X.A.units+64<cLine)(hi:PE X i ty)(Y:PE X o td):PC X .NotIn i o (ZS ty td):=by
 intro ad s Z H Q I h;refine thn (hi ad s Z H _ I h) λiv s1 J=>ba J λy H1 j ry q1=>thn (Y ad s1 Z H1 _ j q1) λu s2 O=>ba O λx H2 z rx U=>?_;obtain @⟨a,ov,g,q2⟩:=U;obtain rfl:u=Value.ref a:=rx;exact ZE hu z g ry λs3 G=>⟨.bl (!ov.isSome),H2,G,rfl,q2⟩
theorem iT(hu:X.A.units+64<cLine)(ho:PE X o td)(hi:PE X i ty)(hv:PE X value tv)(hs:swapsWith value (some (.Subscript o i pos')) pos.line X.env=pure false) :
 PS X (.Assign [.Subscript o i pos'] value pos) (ZT td ty tv):=by
 intro ad s Z H D I h;refine wpAny_Assign_Subscript (thn (hv ad s Z H _ I h) λr s1 U=>ba U λv H1 z rv q1=>thn (ho ad s1 Z H1 _ z q1) λu s2 Y=>ba Y λx H2 G rx q2=>thn (hi ad s2 Z H2 _ G q2) λiv s3 Z6=>ba Z6 λy H3 J ry Z7=>?_) hs;obtain @⟨a,j,g,q3⟩:=Z7;obtain rfl:u=Value.ref a:=rx;exact ZF hu J g ry rv λs4 O=>⟨Z,j,O,q3⟩
end
theorem Lx{H:Hp}(h:Heap)(j:sysModules<h.objs.size):cb P w H (h.push { cls:=.type "dict",data:=.dict #[] }) h.objs.size (.dK []):=
 ⟨dF _,wD.mpr (gy (cX j)),[],.nil,Heap.DictOf.new h⟩
theorem Z8{H:Hp}(h:Heap)(j:sysModules<h.objs.size):cb P w H (h.push { cls:=.type "dict",data:=.dict #[] }) h.objs.size (.dT []):=
 ⟨dF _,wD.mpr (gy (cX j)),[],.nil,_,#[],0,dA _ rfl,⟨rfl,rfl,rfl⟩,rfl,rfl,kR⟩
def Z9:TE:=λ_ H Q=>∀p,H p=none->Q (.ref p) (ag H p (.dK []))
def aaa:TE:=λ_ H Q=>∀p,H p=none->Q (.ref p) (ag H p (.dT []))
theorem aab:PE X (.Dict [] [] pos) Z9:=λad s Z H Q I h=>
 wpAny_Dict_empty ⟨.ref s.heap.objs.size,_,I.laid (a:=s.heap.objs.size) (o:=.dK []) (t':=s.toks) (λ_ _ q=>b9 _ q) (aK _) (Lx s.heap I.big),rfl,h _ (I.hok.fresh (aK _))⟩
theorem aac:PE X (.Dict [] [] pos) aaa:=λad s Z H Q I h=>
 wpAny_Dict_empty ⟨.ref s.heap.objs.size,_,I.laid (a:=s.heap.objs.size) (o:=.dT []) (t':=s.toks) (λ_ _ q=>b9 _ q) (aK _) (Z8 s.heap I.big),rfl,h _ (I.hok.fresh (aK _))⟩
def En:List (TE×TE)->St->Hp->(List (V×V)->Hp->Prop)->Prop
 | [],_,H,Q=>Q [] H
 | (tk,tv)::r,Z,H,Q=>tk Z H λx H1=>tv Z H1 λy H2=>En r Z H2 λps H3=>Q ((x,y)::ps) H3
abbrev VV:List (V×V)->List (Value×Value)->Prop:=Paired λp q=>RelV p.1 q.1/\RelV p.2 q.2
def AD(X:Cx)(pos:Pos)(j:List (Option Expr))(G:List Expr)(z:List (TE×TE)):Prop:=
 ∀(ad:Po) (s:Shared) (Z:St) (H:Hp) (Q:List (V×V)->Hp->Prop),Inv X ad Z H s->En z Z H Q ->
  wpAny (model X.prog X.w) X.A (evalPairs (pairTrees j G X.env pos)) (λvs s'=>∃ps H',Inv X ad Z H' s'/\VV ps vs/\Q ps H') X.xe s
theorem Ly:AD X pos [] [] []:=λad s Z H Q I h=>pairTrees_nil_walk ⟨[],H,I,.nil,h⟩
theorem Lz{k v:Expr}{ks:List (Option Expr)}{vs:List Expr}{tk tv:TE}{j:List (TE×TE)}(hk:PE X k tk)(hv:PE X v tv)(hr:AD X pos ks vs j) :
 AD X pos (some k::ks) (v::vs) ((tk,tv)::j):=λad s Z H Q I h=>
 pairTrees_cons_walk (thn (hk ad s Z H _ I h) λu s1 O=>ba O λx H1 z rx q1=>thn (hv ad s1 Z H1 _ z q1) λw2 s2 U=>ba U λy H2 G ry q2=>
  thn (hr ad s2 Z H2 _ G q2) λws s3 Y=>ba Y λps H3 J a0 q3=>⟨(x,y)::ps,H3,J,.cons ⟨rx,ry⟩ a0,q3⟩)
def mC(kvs z:List (ao×V)):List (ao×V):=z.foldl (λj kv=>cx j kv.1 kv.2) kvs
theorem KV.merge:∀{j:List (ao×V)}{z:List (ao×Value)}{kvs:List (ao×V)}{vs:List (ao×Value)},KV j z->KV kvs vs->KV (mC kvs j) (merged vs z):=by
 intro j z kvs vs r;unfold KV at r
 induction r generalizing kvs vs with
 | nil=>intro q;exact q
 | @cons p q ps O h t G=>
  intro J;have e:KV (cx kvs p.1 p.2) (stored vs q.1 q.2):=by
   have:=J.put p.1 h.2;rw[<-h.1];exact this
  exact G e
theorem Eo:∀(j kvs:List (ao×V)),(mC kvs j).length<=kvs.length+j.length
 | [],kvs=>by show kvs.length<=kvs.length+0;omega
 | p::r,kvs=>by
  have h1:=Eo r (cx kvs p.1 p.2);have h2:=xB kvs p.1 p.2;show(mC (cx kvs p.1 p.2) r).length<=_;rw[cq];omega
theorem LA{P:Program}{w:World}:∀{kvs:List (ao×V)}{z:List (Value×Value)},VV (kvs.map λkv=>(kV kv.1,kv.2)) z->∃j,Carries (cf P w) z j/\KV kvs j
 | [],_,r=>by rw[zL]at r;cases r;exact⟨[],True.intro,.nil⟩
 | p::kvs,_,r=>by
  rw[bV]at r;cases r with
  | @cons a b as bs h t=>
   obtain⟨j,c,q⟩:=LA (P:=P) (w:=w) t;obtain⟨J,G⟩:=b;exact⟨(p.1,G)::j,⟨nY h.1,rfl,c⟩,.cons ⟨rfl,h.2⟩ q⟩
def aag(j:List (TE×TE)):TE:=λZ H Q=>∀p,H p=none->En j Z (ag H p (.dK [])) λps H2=>H2 p=some (.dK [])/\∃kvs:List (ao×V),ps=kvs.map (λkv=>(kV kv.1,kv.2))/\kvs.length<=15/\Q (.ref p) (ag H2 p (.dK (mC [] kvs)))
theorem LB{j:List (Option Expr)}{G:List Expr}{U:List (TE×TE)}(h:AD X pos j G U)(qE:j.all (·.isSome)=true)(hl:j.length=G.length)(h0:j≠[])
 (a8:j.length<=15):PE X (.Dict j G pos) (aag U):=by
 intro ad s Z H Q I q;have hn:=I.hok.fresh (aK s.heap.objs.size);have Y:=I.laid (a:=s.heap.objs.size) (o:=.dK []) (h':=s.heap.push { cls:=.type "dict",data:=.dict #[] }) (t':=s.toks) (λ_ _ q=>b9 _ q) (aK _) (Lx s.heap I.big);refine wpAny_Dict_walk (knd:=cf X.prog X.w) qE hl h0 a8 (thn (h ad _ Z _ _ Y (q _ hn)) λws s2 a0=>ba a0 λps H2 J a9 a1=>a1.elim λe a2=>a2.elim λkvs a3=>a3.elim λep a4=>a4.elim λlk q2=>?_);subst ep;obtain⟨rs,c,rk⟩:=LA (P:=X.prog) (w:=X.w) a9;obtain⟨z,hd,ab,r0,dd⟩:=iS J.hok e;cases r0;refine⟨rs,c,dd,λh' O hs=>⟨.ref s.heap.objs.size,_,?_,rfl,q2⟩⟩;have hz:(mC [] kvs).length<=sizeLine:=by
  have h1:=Eo kvs [];rw[kQ]at h1;rw[uN];omega
 have he:∃q,h'.get? s.heap.objs.size=some q:=O.elim λq a5=>a5.elim λ_ a6=>a6.elim λ_ a7=>a7.elim λhq _=>⟨q,hq⟩;exact vg J (by rw[e];exact True.intro) hs he (vh hz hd (rk.merge .nil) O)
structure M1(X:Cx)(o:Expr)(m:Str)(apos:Pos)(e:Expr)(cO:Pos):Prop where
 base:attributeBase o m X.env (eval o X.env)=eval o X.env
 few:((backTo cO (starEach [e] X.env)).all (λx=>!x.1) && (backToKw cO (keywordEach [] X.env)).all (λx=>x.1.isSome)
  && decide (([e]:List Expr).length+([]:List Keyword).length+(if ([]:List Keyword).isEmpty then 0 else 1)<30))=true
 line:(apos.endLine == cO.line)=true
 trees:backTo cO (starEach [e] X.env)=[(false,eval e X.env)]
def Ep(H:Hp)(a:Addr):Prop:=(∃kvs,Rd H a (.dK kvs))\/∃kvs,Rd H a (.dT kvs)
theorem LC{H:Hp}(I:Inv X ad Z H s)(d:Ep H a) :
 s.TypeIs (.ref a) "dict"/\(∀b,Value.ref a=.ref b->∃ob,s.heap.get? b=some ob/\ob.dict=none)/\(a == sysModules)=false:=by
 rcases d with⟨kvs,e⟩ | ⟨kvs,e⟩
 . obtain⟨_,hd,vs,_,dd⟩:=pG I.hok e;refine⟨dd.typeIs,λb q=>?_,hd⟩;cases q;obtain⟨ob,_,_,h1,h2,_⟩:=dd;exact⟨ob,h1,h2.2.1⟩
 obtain⟨_,hd,xs,_,dd⟩:=tE I.hok e;refine⟨dd.typeIs,λb q=>?_,hd⟩;cases q;obtain⟨ob,_,_,h1,h2,_⟩:=dd;exact⟨ob,h1,h2.2.1⟩
section
variable {H:Hp}{y d:V}{r:Value}{o:Option V}{E:VP}
theorem aaq{Q:VP}(Y:A.units+64<cLine)(I:Inv X ad Z H s)(g:ci H a y o)(J:RelV y u)(h:∀O s',Inv X ad Z H s'->RelV (o.getD .non) O->Q O s') :
 wpAny (model X.prog X.w) A (call (.builtin "dict.get") [.ref a,u]) Q E s:=by
 rcases g with⟨kvs,k,e,j,l⟩ | ⟨kvs,k,b,e,j,U,l⟩
 . subst j;obtain⟨z,hd,vs,G,dd⟩:=pG I.hok e;refine wM Vw dd.typeIs aqs (aqt _ _) (meets_dict_get (cf X.prog X.w) a (nY J) hd) ⟨_,dd.mapOf,h _ _ (I.tok _) ?_⟩;rw[l];exact(G.val k).getD rfl
 subst j;cases (show u=Value.ref b from J);obtain⟨z,hd,xs,G,dd⟩:=tE I.hok e;refine wM Vw dd.typeIs aqs (aqt _ _) (meetsH_dict_get (sK X.prog X.w) a b hd) ⟨wY Y,k,xs,vf I.hok U,dd,h _ _ (I.tok _) ?_⟩;rw[l];exact(G.val k).getD rfl
end
inductive LD (ty:TE) (Z:St) (Q:VK) (H1:Hp):V->Prop where
 | mk {a:Addr} (_:Ep H1 a) (_:ty Z H1 λy H2=>∃o,ci H2 a y o/\Q (o.getD .non) H2):LD ty Z Q H1 (.ref a)
def aar(td ty:TE):TE:=λZ H Q=>td Z H λx H1=>LD ty Z Q H1 x
inductive LF (ty:TE) (Z:St) (Q:VK) (H1:Hp):V->Prop where
 | mk {a:Addr} (_:Ep H1 a) (_:ty Z H1 λy H2=>∃kvs k v,H2 a=some (.dK kvs)/\y=kV k/\bi kvs k=some v/\Q v (ag H2 a (.dK (nX kvs k)))):LF ty Z Q H1 (.ref a)
def aas(td ty:TE):TE:=λZ H Q=>td Z H λx H1=>LF ty Z Q H1 x
section
variable {o e f:Expr}{apos cO:Pos}{td ty tx:TE}
theorem Es(hu:X.A.units+64<cLine)(ho:PE X o td)(he:PE X e ty)(m:M1 X o "get" apos e cO):PE X (.Call (.Attribute o "get" apos) [e] [] cO) (aar td ty):=by
 intro ad s Z H Q I h;refine wpAny_Call_method m.base m.few m.line zM Vw PySem.F.type_dict_get (thn (ho ad s Z H _ I h) λu s1 J=>ba J λx H1 j rx O=>?_);obtain @⟨a,d,q1⟩:=O;obtain rfl:u=Value.ref a:=rx;obtain⟨t1,t2,_⟩:=LC j d;refine⟨t1,t2,?_⟩;rw[m.trees];refine Dh rfl (Jn (Vk (thn (he ad s1 Z H1 _ j q1) λiv s2 U=>ba U λy H2 z ry Y=>Y.elim λov a0=>a0.elim λg q2=>Vj ?_)));exact aaq hu z g ry λw' s3 G ia=>⟨_,H2,G,ia,q2⟩
theorem AE(ho:PE X o td)(he:PE X e ty)(m:M1 X o "pop" apos e cO):PE X (.Call (.Attribute o "pop" apos) [e] [] cO) (aas td ty):=by
 intro ad s Z H Q I h;refine wpAny_Call_method m.base m.few m.line zM aqr PySem.F.type_dict_pop (thn (ho ad s Z H _ I h) λu s1 a3=>ba a3 λx H1 j rx a4=>?_);obtain @⟨a,d,q1⟩:=a4;obtain rfl:u=Value.ref a:=rx;obtain⟨t1,t2,_⟩:=LC j d;refine⟨t1,t2,?_⟩;rw[m.trees];refine Dh rfl (Jn (Vk (thn (he ad s1 Z H1 _ j q1) λiv s2 J=>ba J λy H2 z ry O=>O.elim λkvs U=>U.elim λk Y=>Y.elim λv a0=>a0.elim λea a1=>a1.elim λey a2=>a2.elim λl q2=>Vj ?_)));subst ey;exact ZJ z ea ry l (.inl rfl) λw' s3 G ia=>⟨v,_,G,ia,q2⟩
end
section
variable {H:Hp}{kvs:List (ao×V)} {E:VP}
theorem aaH{Q:VP}(I:Inv X ad Z H s)(e:Rd H a (.dK kvs))(h:∀p s',H p=none->Inv X ad Z (ag H p (.dK kvs)) s'->Q (.ref p) s'):wpAny (model X.prog X.w) A (call (.type "dict") [.ref a]) Q E s:=by
 obtain⟨z,hd,vs,G,dd⟩:=pG I.hok e;refine kt_call_dict hd dd (by rw[<-G.length];exact z) λh' J hs=>?_;refine h _ _ (I.hok.fresh (aK _)) (I.laid (a:=s.heap.objs.size) (o:=.dK kvs) (t':=s.toks) (λb q j=>?_) (aK _) (vh z (wD.mpr (gy (cX I.big))) G J));exact(hs.2 b (cX (bK j))).trans (b9 _ j)
end
end L2
namespace Att
open PySem.W PySem.Calls
theorem aaI{P:Params}{h:Heap}:∀(ns:List Int) (vs:Lw),WellAll P h vs (ns.map WData.int)->IntsAre vs ns:=by
 intro ns
 induction ns with
 | nil=>
  intro vs w;rw[zL]at w;cases w;exact .nil
 | cons n ns j=>
  intro vs w;rw[bV]at w;cases w with
  | cons a b=>
   cases a;exact .cons _ _ (j _ b)
theorem aaJ{l:OpenLaw}{n:Nat}(hn:l.most=some n){P:Params}{h:Heap}{args:List WData}{O:Lw}
 (G:l.row.toRowW.claim.pre args=true) (U:WellAll P h O args) :
 ∃a vs ns,O=[Value.ref a]/\args=[WData.list (ns.map WData.int)]/\h.get? a=some { cls:=.type "list",data:=.seq vs.toArray }/\IntsAre vs ns/\ns.length<=n:=by
 have a1:WShape.hasAll [] args [.list .int]=true:=(pre_splitW G).1;have J:l.pre.holds [] { args:=args } = true:=(pre_splitW G).2;obtain⟨d,r,rfl,h1,h2⟩:=hasAllW_cons a1;obtain rfl:=hasAllW_nil h2;obtain⟨xs,rfl,Y⟩:=hasW_list h1;obtain⟨ns,rfl⟩:=items_int Y;have a0:ns.length<=n:=by
  unfold OpenLaw.pre at J;have j:(WTm.not (.lt (.lit (.int (n:Int))) (.len (.arg 0)))).holds [] { args:=[.list (ns.map .int)] } = true:=by
   have j:=(holds_andW J).1;rw[hn]at j;exact j
  have z:=condW_of j (w_not (w_lt w_lit (w_len_list (w_arg rfl))));rw[ak]at z;refine Nat.le_of_not_lt λq=>?_;have q':(n:Int)<((ns.length:Nat):Int):=by omega
  first
   | (rw[bE q']at z;exact absurd z (by decide))
   | (simp at z;omega)
 cases U with
 | cons w1 w2=>
  cases w2;cases w1 with
  | list ho qE=>exact⟨_,_,ns,rfl,rfl,ho,aaI ns _ qE,a0⟩
theorem aaL(l:OpenLaw)(args:List WData):l.row.toRowW.claim.post args (.bool true) args=true:=
 postW_of (r:=l.row.toRowW) (X:=(true == true))
  (show WShape.has [] (.bool true) .bool=true by first | rfl | decide | simp[WShape.has,WShape.arms,WShape.armsAll])
  (show(WTm.eq .res (.lit (.bool true))).value [] { args:=args,res:=some (.bool true),after:=args } = some (.bool (true == true)) from w_eq_bool (w_res rfl) w_lit) rfl
theorem aaM{l:OpenLaw}{n:Nat}{q:Program}{a0:Ls}{U:(Mv)->Heap->Prop}{YP:World->Heap->Prop}{d:DefRec}
 (hn:l.most=some n) (xD:d.params.defaults=[])
 (call:∀(w:World) (s₀ j:Shared) (mg O:Mv) (z:Addr) (o:Obj) (pm cd J:Value) (a:Addr) (vs:Lw) (ns:List Int),
  Ground q a0 [] U w s₀ mg O j.heap->YP w j.heap ->
  j.heap.get? z=some o->o.data=.func (docDef d.name d.params d.body d.scope pm cd J)->j.heap.CodeRec cd d.name->mg d.name=some (.ref z) ->
  j.heap.get? a=some { cls:=.type "list",data:=.seq vs.toArray }->IntsAre vs ns->ns.length<=n->j.gens = #[] ->
  codeAny (model l.prog w) callerA (.call (.ref z) ⟨[.ref a],[]⟩) (λr s'=>r=.ok (.ret (.bool true))/\OldK j.heap s'.heap/\s'.os=j.os/\AllBare s'.gens) j) :
 WalkO q a0 U YP l.row.toRowW d [] (λf vs=>PySem.call f vs):=by
 intro w s₀ j mg O G Y z o pm cd J dV kV ho hd je hD xE hg args a6 as AF a3 a5 Et a4;obtain rfl:dV=.none:=Dflts.none hD xD;obtain rfl:kV=.none:=Dflts.noKw hD;obtain⟨a,vs,ns,rfl,rfl,tF,a1,a2⟩:=aaJ hn AF Et;refine enter_call (qp (call w s₀ j mg O z o pm cd J a vs ns G Y ho (fd_plain hd) je xE tF a1 a2 hg) λr s' hq=>?_);obtain⟨rfl,h2,h3,h4⟩:=hq;exact⟨.inl ⟨.bool true,.bool true,[],rfl,λ_=>rfl,.bool true,aaL l _,λ_=>⟨List.Pairwise.nil,λ_ hm=>(nomatch hm)⟩⟩,h2,h3,h4⟩
end Att
namespace L2
variable {x a_:Str}{st:Stmt}{f:Addr}{A B:Prop}
theorem LG:∀{vs:Lw}{ns:List Int},IntsAre vs ns->bc (ns.map V.int) vs
 | _,_,.nil=>.nil
 | _,_,.cons n t h=>.cons ⟨t,rfl⟩ (LG h)
def fB(s:Stmt)(j:Nat):Stmt:=match s with
 | .ClassDef _ _ _ body _ _ _ _ _ _ _=>body.getD j (.Pass ⟨0,0,0,0⟩)
 | _=>.Pass ⟨0,0,0,0⟩
def jA(s:Stmt):Arguments:=match s with
 | .FunctionDef _ a _ _ _ _ _ _ _ _=>a
 | _=>{ posonlyargs:=[],args:=[],vararg:=none,kwonlyargs:=[],kw_defaults:=[],kwarg:=none,defaults:=[] }
def gB(s:Stmt):List Stmt:=match s with
 | .FunctionDef _ _ b _ _ _ _ _ _ _=>b
 | _=>[]
def aA(s:Stmt):Scope:=match s with
 | .FunctionDef _ _ _ _ _ _ sc _ _ _=>sc
 | _=>{ kind:=.function,names:=[],isGenerator:=false,isCoroutine:=false }
abbrev aI:gN:=λ_ _ _ _ _ _=>False
abbrev E0:XK:=λ_ _ _=>False
theorem bJ{X:Cx}:mw aI X E0:=λ_ _ _ _ _ _ _ h=>h.elim
structure mD(K:Fg)(x a_:Str)(st:Stmt)(f:Addr)(fd:Fy):Prop where
 ex:∃(oc:Value) (od:Oa) (kV doc pm:Value) (an:Oa) (av ct:Value) (jZ:Array (Option Value)),
  fd=W.fnOf x a_ (jA st) (gB st) (aA st) .none kV doc pm an av ct/\K.lookup f=some ⟨oc,od,.func fd,jZ⟩/\W.codeIn K av a_=true
 kp:W.keepIn K (.ref f)=true
section
variable {P:Program}{w:World}{K:Fg}{mg:Mv}{base:Heap}
theorem mD.ok{fd:Fy}{N ps:Ls}{k:Nat}{sp:Sp}(F:mD K x a_ st f fd)(S:aP N ps (aA st))(len:∀vs H Q E,sp vs H Q E->vs.length=ps.length)
 (O:∀(j:Value) (A:Around) (outer:List Env) (s:Shared) (H:Hp) (vs:ae) (Q:VK) (E:XK),ce k (A.deeper (envOfC a_ (aA st) s.heap.objs.size f j))->sp vs H Q E ->
  ∃t,bW (kZ aI P w K mg base N a_ (aA st) f j A outer s H E).nox (gB st) t/\t { nx:=λ_ H'=>Q .non H',rt:=Q } (start N vs) H):aw P w K mg base aI (k+1) f fd ps sp:=by
 obtain⟨oc,od,kV,U,pm,an,j,ct,Y,rfl,lk,G⟩:=F.ex;refine Eb lk G S len λA outer s H vs Q E z J=>?_;obtain⟨t,h,q⟩:=O j A outer s H vs Q E z J;exact⟨t,h.nox,q⟩
theorem mD.binds{fd:Fy}{ps:Ls}(F:mD K x a_ st f fd)
 (h:∀(kV z pm:Value) (an:Oa) (j ct:Value) (us:Lw),us.length=ps.length->bindArgs (W.fnOf x a_ (jA st) (gB st) (aA st) .none kV z pm an j ct) ⟨us,[]⟩=pure (ps.zip us)):Binds K fd ps []:=by
 obtain⟨oc,od,kV,z,pm,an,j,ct,G,rfl,lk,J⟩:=F.ex;exact .all (h kV z pm an j ct)
theorem LH{oc:Value}{od an:Oa}{G:Array (Option Value)}{kV z pm j ct:Value}(l:K.lookup f=some ⟨oc,od,.func (W.fnOf x a_ (jA st) (gB st) (aA st) .none kV z pm an j ct),G⟩)
 (c:W.codeIn K j a_=true) (k:W.keepIn K (.ref f)=true):mD K x a_ st f (W.fnOf x a_ (jA st) (gB st) (aA st) .none kV z pm an j ct):=⟨⟨oc,od,kV,z,pm,an,j,ct,G,rfl,l,c⟩,k⟩
end
theorem bQ{n:Nat}(h:n<=1000):n<sizeLine:=Vx h (by decide)
section
variable {X:Cx}
theorem pv(i:Nat){pos:Pos}(j:X.N[i]?=some x:=by rfl)(z:Ag X.env.scope x:=by first | exact Or.inl rfl | exact Or.inr (Or.inl rfl) | exact Or.inr (Or.inr rfl))(hd:(x == ("__debug__":Str))=false:=by decide)
 (G:(x == ("__classdict__":Str))=false:=by decide):PE X (.Name x pos) (mj i):=WL j z hd G
theorem aaN:fh X (.builtin "len") (λxs H Q=>∃a kvs,xs=[V.ref a]/\H a=some (.dK kvs)/\Q (.int kvs.length) H):=by
 intro ad s Z H xs us Q I r h;obtain⟨a,kvs,rfl,z,q⟩:=h;obtain⟨u,rfl,G⟩:=vals1 r;cases G;exact ZN I (.inl z) λt s' j=>⟨.int kvs.length,H,j,⟨t,rfl⟩,q⟩
end
theorem cL(h:B):if false=true then A else B:=by
 rw[ah cS];exact h
theorem dZ(h:A):if true=true then A else B:=by
 rw[am rfl];exact h
theorem bv{c:Prop}[Decidable c](h1:c->A)(h2:¬c->B):if c then A else B:=by
 by_cases h:c
 . rw[am h];exact h1 h
 rw[ah h];exact h2 h
theorem aaO{c:Prop}[Decidable c](j:c)(h:B):if (!decide c)=true then A else B:=by
 rw[bE j];exact cL h
def ac(H H':Hp):Prop:=∀b o,H b=some o->H' b=some o
theorem ac.refl(H:Hp):ac H H:=λ_ _ h=>h
theorem ac.trans{H H1 H2:Hp}(a:ac H H1)(b:ac H1 H2):ac H H2:=λc o h=>b c o (a c o h)
theorem ac.free{H H':Hp}(e:ac H H'){l:Addr}(h:H' l=Option.none):H l=Option.none:=by
 cases q:H l with
 | none=>rfl
 | some o=>
  rw[e l o q]at h;cases h
theorem ac.seq{K:Fg}{H H':Hp}{a:Addr}{xs:ae}(e:ac H H')(h:aa K H a xs):aa K H' a xs:=by
 rcases h with(h | ⟨o,h⟩) | h
 . exact .inl (.inl (e _ _ h))
 . exact .inl (.inr ⟨o,e _ _ h⟩)
 exact .inr h
end L2
set_option maxHeartbeats 4000000
namespace L2
theorem fC{H:Hp}{p:Addr}{o:HO}(h:H p=none):ac H (ag H p o):=λb u e=>by
 rw[bg (aO e h)];exact e
theorem fj{H0 H:Hp}{p:Addr}{o:HO}(s:ac H0 H)(h:H0 p=none):ac H0 (ag H p o):=λb u e=>by
 rw[bg (aO e h)];exact s b u e
theorem aaP{K:Fg}{H H':Hp}{a:Addr}{xs:ae}(e:ac H H')(h:bh K H a xs):bh K H' a xs:=by
 rcases h with(h | ⟨o,h⟩) | h
 . exact .inl (.inl (e _ _ h))
 . exact .inl (.inr ⟨o,e _ _ h⟩)
 exact .inr h
abbrev fk (x:Str):Prop:=PyData.strOk x=true
theorem vi{x:Str}:fk x↔∀c∈x.cps.toList,c<0x110000:=by
 unfold fk PyData.strOk;rw[Array.all_eq_true'];simp
theorem vj{x y:Str}(z:fk x)(G:fk y):fk (x++y):=by
 rw[vi]at *;intro c j;have e:(x++y).cps.toList=x.cps.toList++y.cps.toList:=by
  show(x.cps++y.cps).toList=_;simp
 rw[e,bY]at j;exact j.elim (z c) (G c)
theorem jk(x y:Str):(x++y).length=x.length+y.length:=by
 show(x.cps++y.cps).size=_;rw[Array.size_append];rfl
theorem pK(c:Nat):(⟨#[c]⟩:Str).length=1:=rfl
section
variable {X:Cx}
inductive LI (lo:Option Int) (hi:Option Int) (H:Hp) (Q:VK):V->Prop where
 | mk {z:Str} (_:z.length<=sizeLine) (_:Q (.str (Txt.slice z lo hi)) H):LI lo hi H Q (.str z)
def aaQ:V->Option Int->Option Int->Hp->VK->Prop:=λx lo hi H Q=>LI lo hi H Q x
theorem AG:tw X aaQ:=by
 intro ad s Z H x v vl vu lo hi sl Q I rx hs pl O h;obtain @⟨z,hz,q⟩:=h;obtain⟨t,rfl⟩:=rx;refine⟨"str",_,PyProof.Rows.slot_str_getitem.lookup,zJ _ _ _,?_⟩;obtain⟨o,ho,Y,hd⟩:=hs;have G:∀(l u:Option (Int×Tok)),vl=partValue l->vu=partValue u->lo=l.map (·.1)->hi=u.map (·.1)->wpAny (model X.prog X.w) X.A (getItem (.str z t) (.ref sl)) (EP X ad Z Q) X.xe s:=by
  intro l u e1 e2 e3 e4;subst e1 e2 e3 e4;refine wpAny_getItem_str_slice (l:=l) (u:=u) (st:=none) ⟨o,ho,Y,hd⟩ rfl ?_;exact post_val_or_str ⟨cn (Txt.slice_le z _ _) hz,λt' k=>⟨.str (Txt.slice z (l.map (·.1)) (u.map (·.1))),H,I.tok _,⟨_,rfl⟩,q⟩⟩
 cases pl with
 | none=>
  cases O with
  | none=>exact G none none rfl rfl rfl rfl
  | int j J=>exact G none (some (j,J)) rfl rfl rfl rfl
 | int i U=>
  cases O with
  | none=>exact G (some (i,U)) none rfl rfl rfl rfl
  | int j J=>exact G (some (i,U)) (some (j,J)) rfl rfl rfl rfl
theorem AH:fh X (.builtin "isinstance") (λxs H Q=>∃x t c b,xs=[x,.ty c]/\jY X.K H x t/\W.kitOne X.K t (.type c)=some b/\Q (.bl b) H):=by
 intro ad s Z H xs us Q I r h;obtain⟨x,t,c,b,rfl,ty,e,q⟩:=h;obtain⟨u,G,rfl,j,z⟩:=vals2 r;cases (show G=Value.type c from z);exact YB I j ty e λtk=>⟨.bl b,H,I.tok tk,rfl,q⟩
end
variable {X:Cx}{K:Fg}{s:Shared}{α:Type}{elt iter tg:Expr}{ifs:List Expr}{pos:Pos}{env:Env}{C:Addr}{bu:Ls}{js:List Nat}{sc:Scope}{g:TG}{tt:TT}{te:TE}{σ0:St}
mutual
inductive DV (K:Fg) (H:Hp):V->W.Dat->Prop
 | non:DV K H .non .none
 | int (i:Int):DV K H (.int i) (.int i)
 | str (x:Str):DV K H (.str x) (.str x)
 | tup {a:Addr}{xs:ae}{ds:List W.Dat}:bh K H a xs->iw K H xs ds->DV K H (.ref a) (.tuple ds)
 | lst {a:Addr}{xs:ae}{ds:List W.Dat}:aa K H a xs->iw K H xs ds->DV K H (.ref a) (.list ds)
inductive iw (K:Fg) (H:Hp):ae->List W.Dat->Prop
 | nil:iw K H [] []
 | cons {x:V}{d:W.Dat}{xs:ae}{ds:List W.Dat}:DV K H x d->iw K H xs ds->iw K H (x::xs) (d::ds)
end
theorem LJ{H:Hp}:∀ns:List Int,iw K H (ns.map V.int) (ns.map W.Dat.int)
 | []=>.nil
 | n::ns=>.cons (.int n) (LJ ns)
theorem LK{H:Hp}:∀xs:Ls,iw K H (xs.map V.str) (xs.map W.Dat.str)
 | []=>.nil
 | n::ns=>.cons (.str n) (LK ns)
section
variable {ad:Po}{Z:St}{H:Hp}
mutual
theorem DV.reads(I:Inv X ad Z H s):∀{x:V}{d:W.Dat}{u:Value},DV X.K H x d->RelV x u->∃as,Reads s.heap u (W.kqdP d) as
 | _,_,_,.non,r=>by cases r;exact⟨_,Reads.none⟩
 | _,_,_,.int i,r=>by obtain⟨t,rfl⟩:=r;exact⟨_,Reads.int i t⟩
 | _,_,_,.str x,r=>by obtain⟨t,rfl⟩:=r;exact⟨_,Reads.str x t⟩
 | _,_,_,.tup h q,r=>by
  cases r;obtain⟨b_,j,⟨o,e,c,n,d⟩,_⟩:=I.tuple h;obtain⟨as,z⟩:=iw.reads I q j;rw[W.kqdP];exact⟨as,reads_tuple_at e c d (by simpa using z)⟩
 | _,_,_,.lst h q,r=>by
  cases r;obtain⟨b_,j,⟨o,n,e,c,_,d⟩,_⟩:=I.list h;obtain⟨as,z⟩:=iw.reads I q j;rw[W.kqdP];exact⟨_,reads_list_at e c d (by simpa using z)⟩
theorem iw.reads(I:Inv X ad Z H s):∀{xs:ae}{ds:List W.Dat}{us:Lw},iw X.K H xs ds->bc xs us->∃as,ReadsAll s.heap us (W.kqdPs ds) as
 | _,_,_,.nil,.nil=>⟨_,ReadsAll.nil⟩
 | _,_,_,.cons q qs,.cons r rs=>by
  obtain⟨as,z⟩:=DV.reads I q r;obtain⟨bs,y⟩:=iw.reads I qs rs;rw[W.kqdPs];exact⟨_,ReadsAll.cons z y⟩
end
end
theorem qK{d:W.Dat}(h:W.kqdOk 9 d=true):SeqAt.shaped (W.kqdP d)=true:=by
 have l:=W.kqd_lay 9 d h;unfold SeqAt.shaped;rw[l.1,wN];exact bE (cn l.2 (by decide))
theorem xF(G:X.A.units+64<cLine):cw X (compareOp .Eq) (λx y H Q=>∃d e,DV X.K H x d/\DV X.K H y e/\W.kqdOk 9 d=true/\W.kqdOk 9 e=true/\∀b:Bool,(b=true↔d=e)->Q (.bl b) H):=by
 intro ad s Z H x y v u Q I U Y h;obtain⟨d,e,hd,z,od,j,q⟩:=h;obtain⟨as,J⟩:=hd.reads I U;obtain⟨bs,O⟩:=z.reads I Y;exact eq_dataH J O (qK od) (qK j) G ⟨.bl _,H,I,rfl,q _ (wO 9 d e 9 od j)⟩
theorem AI(G:X.A.units+64<cLine):cw X (compareOp .NotEq) (λx y H Q=>∃d e,DV X.K H x d/\DV X.K H y e/\W.kqdOk 9 d=true/\W.kqdOk 9 e=true/\∀b:Bool,(b=true↔d=e)->Q (.bl (!b)) H):=by
 intro ad s Z H x y v u Q I U Y h;obtain⟨d,e,hd,z,od,j,q⟩:=h;obtain⟨as,J⟩:=hd.reads I U;obtain⟨bs,O⟩:=z.reads I Y;exact ne_dataH J O (qK od) (qK j) G ⟨.bl _,H,I,rfl,q _ (wO 9 d e 9 od j)⟩
section
variable {st:Stmt}{rest:List Stmt}{t u:TS}
def aaR(M:St->Hp->Prop)(t u:TS):TS:=λD Z H=>t { D with nx:=M } Z H/\∀σ' H',M σ' H'->u D σ' H'
theorem AJ(M:St->Hp->Prop)(h1:PS X st t)(h2:bW X rest u):bW X (st::rest) (aaR M t u):=by
 intro ad s Z H D I h;refine Vh (thn (h1 ad s Z H { D with nx:=M } I h.1) λf z q=>?_);cases f with
 | next=>
  obtain⟨σ',H',j,q⟩:=q;exact h2 ad z σ' H' D j (h.2 σ' H' q)
 | ret v=>exact q
 | brk=>exact q
 | cont=>exact q
end
theorem jl{H:Hp}{p t:Addr}{o:HO}(h:ag H p o t=none):t≠p/\H t=none:=by
 by_cases e:t=p
 . subst e;rw[aD]at h;cases h
 exact⟨e,by rw[bg e]at h;exact h⟩
theorem fit{a b:Str}(j:a.length<=100)(z:b.length<=100):a.length+b.length<=sizeLine:=rY (bQ (by omega))
theorem j6{a:Str}(j:a.length<=100):a.length<=sizeLine:=rY (bQ (by omega))
theorem Eu{xs:List α}{r:Int}(h0:0<=r)(h1:r<xs.length):∃v,cI xs r=some v/\xs[r.toNat]?=some v:=by
 obtain⟨n,rfl⟩:∃n:Nat,r=n:=⟨r.toNat,by omega⟩;have j:n<xs.length:=by omega
 have e:xs[n]?=some (xs[n]'j):=by simp
 exact⟨_,AB e,by simpa using e⟩
theorem LL{ns:List Int}{r:Int}(h0:0<=r)(h1:r<ns.length):∃z,cI (ns.map V.int) r=some (V.int z)/\ns[r.toNat]?=some z:=by
 obtain⟨v,e,e2⟩:=Eu (xs:=ns.map V.int) h0 (by rw[ak];exact h1);rw[c8]at e2;cases q:ns[r.toNat]? with
 | none=>rw[q]at e2;cases e2
 | some z=>
  rw[q]at e2;cases e2;exact⟨z,e,rfl⟩
abbrev LM (ifs:List Expr) (env:Env):Sem Bool:=
 forIn ifs true λc r=>if r=true then do let ok <-isTrue c env (eval c env);pure (ForInStep.yield ok) else pure (ForInStep.yield r)
def eS(X:Cx)(ifs:List Expr)(t:TT):Prop:=
 ∀(ad:Po) (s:Shared) (Z:St) (H:Hp) (Q:Bool->Hp->Prop),Inv X ad Z H s->t Z H Q->wpAny (model X.prog X.w) X.A (LM ifs X.env) (TP X ad Z Q) X.xe s
def qL:TT:=λ_ H Q=>Q true H
theorem gj:eS X [] qL:=λ_ _ _ H _ I h=>wpAny_tests_nil ⟨H,I,h⟩
theorem pL{c:Expr}{t:TT}(h:PT X c t):eS X [c] t:=λad s Z H Q I q=>wpAny_tests_one (h ad s Z H Q I q)
section
variable {prog:Program}{w:World}{A:Around}{R:Result->Shared->Prop}
theorem aaS{j:Expr}{scope:Scope}{it z:Value}(I:Nat->Shared->Prop)
 (a0:∀n s,I n s->wpAny (model prog w) A (pyNext it) (λr G=>match r with
  | none=>R (.ok .next) G
  | some v=>wpAny (model prog w) A (letOwnedTupleGo j it v) (λ_ s₀=>wpAny (model prog w) A (assign j env v) (λ_ Y=>
   wpAny (model prog w) A (LM ifs env) (λok J=>
    if ok=true then wpAny (model prog w) A (eval elt env) (λx s₄=>
     wpAny (model prog w) A (call (.builtin "list.append") [z,x]) (λ_ s₅=>∃m,m<n/\I m s₅) (notedBy (model prog w) A env λe s'=>R (.error e) s') s₄) (notedBy (model prog w) A env λe s'=>R (.error e) s') J
    else∃m,m<n/\I m J) (notedBy (model prog w) A env λe s'=>R (.error e) s') Y) (notedBy (model prog w) A env λe s'=>R (.error e) s') s₀) (notedBy (model prog w) A env λe s'=>R (.error e) s') G) (notedBy (model prog w) A env λe s'=>R (.error e) s') s)
 (n:Nat) (h:I n s):codeAny (model prog w) A (.compLoop (.ListComp elt [⟨j,iter,ifs,0⟩] scope pos) 0 it z env) R s:=by
 refine codeAny_loop rfl I (λn s hI=>?_) n h;show wpAny _ A ((compTurn (.ListComp elt [⟨j,iter,ifs,0⟩] scope pos) 0 it z env).onRaise (λx=>do noteFrame x env;theTreesLotGoes x)) _ _ s;refine wpAny_noted ?_;rw[compTurn_list];refine af (Vo (af (eV (a0 n s hI) (λr G O=>?_) λ_ _ h'=>h')));cases r with
 | none=>exact au O
 | some v=>
  refine af (eV O (λ_ s₀ h₀=>?_) λ_ _ h'=>h');refine af (eV h₀ (λ_ Y h₂=>af (eV h₂ (λok J U=>?_) λ_ _ h'=>h')) λ_ _ h'=>h');cases ok with
  | false=>exact au ⟨rfl,U⟩
  | true=>
   exact af (af (eV U (λx s₄ h₄=>af (eV h₄ (λ_ s₅ h₅=>au (au ⟨rfl,h₅⟩)) λ_ _ h'=>h')) λ_ _ h'=>h'))
end
theorem aaT{P:Program}{w:World}{H:Hp}{h1 h2:Heap}(ok:cC P w H h1)(z:Heap.SameBut C h1 h2)(j:H C=none):cC P w H h2:=λb ob e=>by
 refine(ok b ob e).stay (λc G hc q=>(z.2 c ?_).trans q) (λ_ q=>q) λ_ _ q=>q;rintro rfl
 rcases hc with rfl | hc
 . rw[j]at e;cases e
 rw[j]at hc;cases hc
def lq(J:It)(g:TG)(tt:TT)(te:TE)(D:Addr)(G:Hp->Prop)(W:Nat->Nat->St->Hp->Prop):Prop:=
 ∀i m Z H,W i m Z H->(J.stop i H/\G H)\/(J.go i H/\∀x H2,J.yld i H x H2->g x Z H2 λσ3 H3=>tt σ3 H3 λok j=>
  if ok=true then te σ3 j λy z=>∃ys,z D=some (.lst ys)/\ys.length<sizeLine/\∃m',m'<m/\W (i+1) m' σ3 (ag z D (.lst (ys++[y])))
  else∃m',m'<m/\W (i+1) m' σ3 j)
def ix(env:Env):List (Str×NameKind)->List (Str×Addr)->List (Str×Addr)
 | [],cs=>cs
 | (n,k)::r,cs=>if k=.free then ix env r ((n,(env.cells.lookup n).getD 0)::cs) else ix env r cs
theorem aaU{scope:Scope}(h:∀y∈scope.names,y.2=.free->∃c,env.cells.lookup y.1=some c):closureFor scope env=pure (ix env scope.names []):=by
 unfold closureFor;generalize scope.names=l at h;have O:∀(l:List (Str×NameKind)) (cs:List (Str×Addr)),(∀y∈l,y.2=.free->∃c,env.cells.lookup y.1=some c) ->
  (forIn l cs fun(x:Str×NameKind) (r:List (Str×Addr))=>(if (x.2 == .free)=true then do let y <-cellOf env x.1;pure (ForInStep.yield ((x.1,y)::r)) else pure (ForInStep.yield r):Sem (ForInStep (List (Str×Addr)))))=pure (ix env l cs):=by
  intro l
  induction l with
  | nil=>intro cs _;rfl
  | cons x l G=>
   intro cs h;obtain⟨n,k⟩:=x;rw[List.forIn_cons]
   by_cases e:k=.free
   . subst e;obtain⟨c,j⟩:=h _ bH rfl;have j:env.cells.lookup n=some c:=j;have e1:cellOf env n=pure c:=by unfold cellOf;rw[j]
     simp only[e1,ix,j,uL,Jo,beq_self_eq_true,pure_bind];exact G _ λy z=>h y (bR _ z)
   have J:(k == NameKind.free)=false:=by simpa using e
   simp only[J,ix,e,nv,qm,pure_bind];exact G _ λy z=>h y (bR _ z)
 have:=O l [] h;simpa using this
theorem Ev:∀{l:List (Str×NameKind)}{cs:List (Str×Addr)}{x:Str}{c:Addr},(∀y∈l,y.2=.free->∃c,env.cells.lookup y.1=some c)->(∀x c,cs.lookup x=some c->env.cells.lookup x=some c) ->
 (ix env l cs).lookup x=some c->env.cells.lookup x=some c
 | [],_,_,_,_,hc,e=>hc _ _ e
 | (n,k)::l,cs,x,c,h,hc,e=>by
  unfold ix at e;have h':∀y∈l,y.2=.free->∃c,env.cells.lookup y.1=some c:=λy G=>h y (bR _ G);split at e
  . refine Ev h' (λz d hz=>?_) e;rename_i j;rw[Vy]at hz;split at hz
    . rename_i q;obtain⟨d',hd⟩:=h (n,k) bH j;have hd:env.cells.lookup n=some d':=hd;have:z=n:=by simpa using q
      subst this;rw[hd]at hz ⊢;exact hz
    exact hc _ _ hz
  exact Ev h' hc e
theorem Ew:∀{l:List (Str×NameKind)}{cs:List (Str×Addr)}{x:Str},(cs.lookup x).isSome=true->((ix env l cs).lookup x).isSome=true
 | [],_,_,h=>h
 | (n,k)::l,cs,x,h=>by
  unfold ix;split
  . refine Ew ?_;rw[Vy];split
    . rfl
    exact h
  exact Ew h
theorem Ex{x:Str}:∀{l:List (Str×NameKind)}{cs:List (Str×Addr)},(x,NameKind.free)∈l->((ix env l cs).lookup x).isSome=true
 | (n,k)::l,cs,h=>by
  unfold ix
  rcases bf.mp h with e | e
  . cases e;rw[am rfl];refine Ew ?_;rw[Vy];simp
  split
  . exact Ex e
  exact Ex e
def dJ(X:Cx)(N:Ls)(sc:Scope)(s₀:Shared)(H₀:Hp)(C:Addr)(ex:List Addr):Cx where
 prog:=X.prog
 w:=X.w
 K:=X.K
 mg:=X.mg
 base:=X.base
 A:=X.A
 N:=N
 s₀:=s₀
 H₀:=H₀
 env:=compEnvC sc (ix X.env sc.names []) C X.env
 outer:=X.stack
 stack:=X.stack
 ex:=ex
 fn:=λ_=>false
 calm:=X.calm
 pn:=[]
 xe:=λ_ _=>False
structure lw(X:Cx)(own bu:Ls)(js:List Nat)(sc:Scope):Prop where
 kind:sc.kind=.function
 nocell:∀y∈sc.names,y.2≠.cell
 names:∀y∈sc.names,y.2=.local->sc.names.lookup y.1=some .local
 nd:(own++bu).Nodup
 frees:∀y∈sc.names,y.2=.free->y.1∈bu
 slots:js.map (λj=>X.N[j]?)=bu.map some
 outer':bu.map X.env.kindOf=bu.map λ_=>some NameKind.cell
 capk':bu.map (λx=>(relabel sc X.env).names.lookup x)=bu.map λ_=>some NameKind.cell
theorem Ey{β:Type}{f:α->β}{c:β}:∀{l:List α},l.map f=l.map (λ_=>c)->∀x∈l,f x=c
 | [],_,_,h=>nomatch h
 | y::l,e,x,h=>by
  rw[bV,bV]at e;injection e with e1 e2
  rcases bf.mp h with q | q
  . rw[q];exact e1
  exact Ey e2 x q
theorem lw.outer{own:Ls}(S:lw X own bu js sc):∀x∈bu,X.env.kindOf x=some .cell:=Ey S.outer'
theorem lw.capk{own:Ls}(S:lw X own bu js sc):∀x∈bu,(relabel sc X.env).names.lookup x≠some .local:=λx j h=>by
 rw[Ey S.capk' x j]at h;cases h
def compStart(n:Nat)(js:List Nat)(Z:St):St:=List.replicate n none++js.map λj=>(Z[j]?).join
def Ez(j:TI)(n:Nat)(js:List Nat)(g:TG)(tt:TT)(te:TE):TE:=λZ H Q=>j Z H λJ H1=>∀D,H1 D=none ->
 ∃W:Nat->Nat->St->Hp->Prop,(∃m,W 0 m (compStart n js Z) (ag H1 D (.lst [])))/\lq J g tt te D (λH'=>Q (.ref D) H') W
section
variable {ad:Po}{Z:St}{H3:Hp}{s3:Shared}
theorem LN{x:Str}{k:NameKind}(h:(relabel sc env).names.lookup x=some k):k=.local\/k=.globalImplicit\/(x,k)∈sc.names\/(x,NameKind.free)∈sc.names:=by
 have j:=zI h;unfold relabel at j;obtain⟨⟨n,k'⟩,z,e⟩:=ca.mp j;dsimp only at e;split at e
 . rename_i c;cases e;simp only[io,kO]at c;obtain⟨⟨c,_⟩,_⟩:=c;subst c;exact .inr (.inr (.inr z))
 cases e;exact .inr (.inr (.inl z))
theorem aaV{own:Ls}{it D:Addr}{fp:List Addr}{tn:Nat->Heap->Prop}{J:It}{h4:Heap}{tk:Nat}{m:Mv}
 {W:Nat->Nat->St->Hp->Prop}{Qd:Hp->Prop}{m0:Nat} (S:lw X own bu js sc) (hc:X.calm=true) (G:Inv X ad Z H3 s3) (T:pi X.prog X.w X.K tg J fp it tn) (py:tn 0 s3.heap) (f3:∀b∈fp,fG X ad H3 b)
 (eC:C=s3.heap.objs.size) (j7:h4.Ns C m) (hk:∀b o,s3.heap.get? b=some o->h4.get? b=some o)
 (hg:PG (dJ X (own++bu) sc s3 H3 C fp) tg g) (ht:eS (dJ X (own++bu) sc s3 H3 C fp) ifs tt) (he:PE (dJ X (own++bu) sc s3 H3 C fp) elt te)
 (w0:W 0 m0 (compStart own.length js Z) H3) (ask:lq J g tt te D Qd W) :
 codeAny (model X.prog X.w) X.A (.compStart (.ListComp elt [⟨tg,iter,ifs,0⟩] sc pos) 0 (.ref it) (.ref D) (compEnvC sc (ix X.env sc.names []) C X.env))
  (λr s'=>r=.ok .next/\∃m' H',s'.heap.Ns C m'/\s'.os=s3.os/\AllBare s'.gens/\Un (cN X.stack) fp H3 H' s3.heap s'.heap/\cC X.prog X.w H' s'.heap/\H' C=none/\Qd H') { s3 with heap:=h4,toks:=tk }:=by
 have av:∀y∈sc.names,y.2=.free->∃c,X.env.cells.lookup y.1=some c:=λy hy e=>G.ok.has _ (.inl (S.outer _ (S.frees y hy e)));have U:∀(x:Str) (c:Addr),(dJ X (own++bu) sc s3 H3 C fp).env.cells.lookup x=some c->X.env.cells.lookup x=some c:=λx c e=>
  Ev av (λx c h=>by cases (show([]:List (Str×Addr)).lookup x=some c from h)) e
 have bn:∀(x:Str) (c:Addr),X.env.cells.lookup x=some c->c<s3.heap.objs.size:=λx c e=>by
  obtain⟨v,q⟩:=G.cell x c e;exact q.lt
 have AK:∀b∈fp,b<s3.heap.objs.size:=λb O=>by
  obtain⟨o,e,_⟩:=T.obj 0 _ py b O;exact bK e
 have AL:(dJ X (own++bu) sc s3 H3 C fp).Ok:=by
  refine⟨G.ok.mod,S.kind,G.ok.glob,G.ok.blt,wJ eC.symm,λx y c e1 e2=>G.ok.inj x y c (U x c e1) (U y c e2),λx hx=>?_,(λx c z _=>nomatch (show false=true from z)),G.ok.hd,G.ok.frames,.inl rfl,λb O=>?_,
   G.bs,cn G.ok.bsz G.sz,λb o e O=>?_,λb O hs=>?_,G.stack,G.stkFree⟩
  . have jc:(relabel sc X.env).names.lookup x=some .cell\/(relabel sc X.env).names.lookup x=some .free:=hx;have hm:(x,NameKind.free)∈sc.names:=by
     rcases jc with z | z
     . rcases LN z with q | q | q | q
       . cases q
       . cases q
       . exact absurd rfl (S.nocell _ q)
       exact q
     rcases LN z with q | q | q | q
     . cases q
     . cases q
     . exact q
     exact q
    exact Jl.mp (Ex hm)
  . refine⟨?_,λx c e=>(f3 b O).2.2.2.2.1 x c (U x c e)⟩;show b≠C;rw[eC];exact cX (AK b O)
  . rcases(f3 b O).2.2.2.1 with z | z
    . exact G.ok.noex b o e z
    have h1:b<X.base.objs.size:=bK e;exact absurd (gL h1 (cn G.ok.bsz z)) (oU _)
  obtain⟨_,f1,f2,_⟩:=f3 b O
  rcases bf.mp (G.stkSub b hs) with z | z
  . exact f1 z
  exact f2 z
 have bl:H3 C=none:=by rw[eC];exact G.hok.fresh (aK _)
 have sl:js.length=bu.length:=by have:=fo List.length S.slots;simpa using this
 have I4:Inv (dJ X (own++bu) sc s3 H3 C fp) [] (compStart own.length js Z) H3 { s3 with heap:=h4,toks:=tk }:=by
  refine⟨AL,rfl,G.bare,Un.kept hk,⟨m,j7,λi x v e1 e2 hv=>?_⟩,λx c e=>?_,bl,λx c e=>G.freeC x c (U x c e),λp hp=>?_,G.hok.kept hk,?_⟩
  . have e1:(own++bu)[i]?=some x:=e1;unfold compStart at e2
    by_cases hi:i<own.length
    . rw[Vq (by simpa using hi),aql,am hi]at e2;cases e2
    rw[Df (by omega)]at e1;rw[Df (by simpa using hi),Vr,c8]at e2;obtain⟨j,hj⟩:∃j,js[i - own.length]?=some j:=by
     cases q:js[i - own.length]? with
     | none=>rw[q]at e2;cases e2
     | some j=>exact⟨j,rfl⟩
    rw[hj]at e2;have e2:(Z[j]?).join=some v:=gw e2;have e3:Z[j]?=some (some v):=by
     cases q:Z[j]? with
     | none=>rw[q]at e2;cases e2
     | some z=>rw[q]at e2;rw[show z=some v from e2]
    have hs:=fo (λl=>l[i - own.length]?) S.slots;simp only[c8,hj,e1,si]at hs;have hN:X.N[j]?=some x:=gw hs;have hx:x∈bu:=da e1;obtain⟨m2,xn,tD⟩:=G.loc;obtain⟨u,ru,lk⟩:=tD j x v hN e3 (.inr (.inl (S.outer x hx)));refine⟨u,ru,?_⟩
    rcases lk with⟨k1,_⟩ | ⟨_,c,a0,mE⟩
    . rw[S.outer x hx]at k1;cases k1
    have hv:Ag (relabel sc X.env) x:=hv;have kd:(dJ X (own++bu) sc s3 H3 C fp).env.kindOf x=some .cell\/(dJ X (own++bu) sc s3 H3 C fp).env.kindOf x=some .free\/(dJ X (own++bu) sc s3 H3 C fp).env.kindOf x=some .local:=by
     rcases hv with z | z | z
     . exact .inr (.inr z)
     . exact .inl z
     exact .inr (.inl z)
    rcases kd with kd | kd | kd
    . obtain⟨c',g9⟩:=AL.has x (.inl kd);have:=U x c' g9;rw[a0]at this;cases this;exact .inr ⟨.inl kd,c,g9,mE.keeps hk⟩
    . obtain⟨c',g9⟩:=AL.has x (.inr kd);have:=U x c' g9;rw[a0]at this;cases this;exact .inr ⟨.inr kd,c,g9,mE.keeps hk⟩
    have kd:(relabel sc X.env).names.lookup x=some .local:=kd;exact absurd kd (S.capk x hx)
  . obtain⟨v,q⟩:=G.cell x c (U x c e);exact⟨v,q.keeps hk⟩
  . have bX:p∈([]:Po):=hp;cases bX
  show(compStart own.length js Z).length=(own++bu).length;unfold compStart;rw[bI,Vr,ak,bI,sl]
 have EA:∀{H':Hp},(∀b∈fp,H' b=none)->∀b∈fp,fG (dJ X (own++bu) sc s3 H3 C fp) [] H' b:=λ{H'} hn b O=>by
  refine⟨hn b O,?_,λhs=>AL.exfs b O hs,.inl O,λx c e=>(f3 b O).2.2.2.2.1 x c (U x c e),λp hp=>?_⟩
  . show b≠C;rw[eC];exact cX (AK b O)
  have bX:p∈([]:Po):=hp;cases bX
 have LO:tn 0 h4:=T.keep 0 _ _ py λb _ o e=>hk b o e;have a1:codeAny (model X.prog X.w) X.A (.compLoop (.ListComp elt [⟨tg,iter,ifs,0⟩] sc pos) 0 (.ref it) (.ref D) (compEnvC sc (ix X.env sc.names []) C X.env))
  (λr s'=>r=.ok .next/\∃m' H',s'.heap.Ns C m'/\s'.os=s3.os/\AllBare s'.gens/\Un (cN X.stack) fp H3 H' s3.heap s'.heap/\cC X.prog X.w H' s'.heap/\H' C=none/\Qd H') { s3 with heap:=h4,toks:=tk }:=by
  refine aaS (λn s'=>∃i σ' H',Inv (dJ X (own++bu) sc s3 H3 C fp) [] σ' H' s'/\tn i s'.heap/\(∀b∈fp,H' b=none)/\W i n σ' H') ?_ m0 ⟨0,_,H3,I4,LO,λb O=>(f3 b O).1,w0⟩;rintro n s' ⟨i,σ',H',J',fT,LP,w'⟩
  rcases ask i n σ' H' w' with⟨stop,qd⟩ | ⟨go,step⟩
  . refine thn (T.done (dJ X (own++bu) sc s3 H3 C fp) rfl rfl rfl hc i [] s' σ' H' _ J' (EA LP) fT stop) λr s1 ax=>ax.elim λhr J1=>?_;subst hr;obtain⟨m1,bm,_⟩:=J1.loc;exact⟨rfl,m1,H',bm,J1.os,J1.bare,J1.base,J1.hok,J1.free,qd⟩
  refine thn (T.item (dJ X (own++bu) sc s3 H3 C fp) rfl rfl rfl hc i [] s' σ' H' _ J' (EA LP) fT go) λr s1 a3=>a3.elim λu a4=>a4.elim λhr h1=>?_;subst hr;refine thn h1 λ_ s2 a5=>a5.elim λx a6=>a6.elim λH5 a7=>a7.elim λJ5 a8=>a8.elim λr5 a9=>a9.elim λy5 ab=>ab.elim λsZ DJ=>?_;have a2:=J5.pinned (EA DJ) (T.obj _ _ sZ);refine eV (hg _ s2 σ' H5 x u _ a2 r5 (step x H5 y5)) (λ_ s6 ap=>ap.elim λσ6 az=>az.elim λH6 a'=>a'.elim λJ6 q6=>?_) (λ_ _ z=>z.elim);refine eV (ht _ s6 σ6 H6 _ J6 q6) (λok s7 aE=>aE.elim λH7 aF=>aF.elim λJ7 q7=>?_) (λ_ _ z=>z.elim);have again:∀{s9:Shared}{Y:Hp}{m':Nat},Inv (dJ X (own++bu) sc s3 H3 C fp) ([]++sY fp s2.heap) σ6 Y s9->m'<n->W (i+1) m' σ6 Y ->
   ∃m,m<n/\∃i σ' H',Inv (dJ X (own++bu) sc s3 H3 C fp) [] σ' H' s9/\tn i s9.heap/\(∀b∈fp,H' b=none)/\W i m σ' H':=λ{s9 Y m'} J9 hm w9=>by
   refine⟨m',hm,i+1,σ6,Y,J9.unpinned,T.keep _ _ _ sZ λb O o e=>(J9.pin (b,o) (ff _ (ff _ (qI O e)))).1,λb O=>?_,w9⟩;obtain⟨o,e,d⟩:=T.obj _ _ sZ b O;exact(J9.pin (b,o) (ff _ (ff _ (qI O e)))).2.1
  cases ok with
  | false=>
   rw[ah cS]at q7 ⊢;obtain⟨m',hm,w7⟩:=q7;exact again J7 hm w7
  | true=>
   rw[am rfl]at q7 ⊢;refine eV (he _ s7 σ6 H7 _ J7 q7) (λy s8 aG=>aG.elim λyv aR=>aR.elim λH8 aT=>aT.elim λJ8 b0=>b0.elim λr8 b1=>b1.elim λys b2=>b2.elim λtG b3=>b3.elim λhz b4=>b4.elim λm' b5=>b5.elim λhm w8=>?_) (λ_ _ z=>z.elim);refine eV (mx (X:=dJ X (own++bu) sc s3 H3 C fp) _ s8 σ6 H8 (.ref D) [yv] (.ref D) [y] (λv Y=>Y=ag H8 D (.lst (ys++[yv]))) J8 rfl (.cons r8 .nil) ⟨tG,hz,rfl⟩) (λ_ s9 b6=>b6.elim λ_ b7=>b7.elim λY bb=>bb.elim λJ9 bd=>bd.elim λ_ eH=>?_) (λ_ _ z=>z.elim);subst eH;exact again J9 hm w8
 exact codeAny_compStart_list a1 (T.self X.A 0 _ _ _ LO a1)
theorem LQ{own:Ls}{it:Addr}{fp:List Addr}{Y:Nat->Heap->Prop}{J:It}{H2:Hp}{j:Shared}{use:Option (Value->Sem Unit)}{Qr:VP}{O:VP}
 {Q:V->Hp->Prop} (S:lw X own bu js sc) (hc:X.calm=true) (U:Inv X ad Z H2 j) (T:pi X.prog X.w X.K tg J fp it Y) (fg:Y 0 j.heap) (G:∀b∈fp,fG X ad H2 b)
 (hg:∀s₀ H₀ C ex,PG (dJ X (own++bu) sc s₀ H₀ C ex) tg g) (ht:∀s₀ H₀ C ex,eS (dJ X (own++bu) sc s₀ H₀ C ex) ifs tt) (he:∀s₀ H₀ C ex,PE (dJ X (own++bu) sc s₀ H₀ C ex) elt te)
 (q2:∀D,H2 D=none->∃W:Nat->Nat->St->Hp->Prop,(∃m,W 0 m (compStart own.length js Z) (ag H2 D (.lst [])))/\lq J g tt te D (λH'=>Q (.ref D) H') W)
 (a2:∀(D C:Addr) (H':Hp) (s':Shared) (m':Mv),j.heap.objs.size<C->s'.heap.Ns C m'->Inv X ad Z H' s'->H' C=none->Q (.ref D) H'->compPost (model X.prog X.w) X.A O use Qr (.ref D) C (.ok .next) s') :
 wpAny (model X.prog X.w) X.A (newList []) (λa0 s₃=>wpAny (model X.prog X.w) X.A (newFunctionEnv sc X.env.globals (ix X.env sc.names []) [] X.env.qual none .none (some X.env)) (λLR s₄=>
  codeAny (model X.prog X.w) X.A (.compStart (.ListComp elt [⟨tg,iter,ifs,0⟩] sc pos) 0 (.ref it) a0 { LR with scope:=relabel sc X.env }) (compPost (model X.prog X.w) X.A O use Qr a0 LR.locals) s₄) O s₃) O j:=by
 have LS:H2 j.heap.objs.size=none:=U.fresh;obtain⟨W,⟨m0,w0⟩,ask⟩:=q2 _ LS;have I3:=U.lnew (ys:=[]) (b_:=[]) (t':=j.toks) .nil (dF _);have AK:∀b∈fp,b<j.heap.objs.size:=λb z=>by
  obtain⟨o,e,_⟩:=T.obj 0 _ fg b z;exact bK e
 have f3:∀b∈fp,fG X ad (ag H2 j.heap.objs.size (.lst [])) b:=λb z=>by
  refine⟨?_,(G b z).2⟩;rw[bg (cX (AK b z))];exact(G b z).1
 refine zN (hd:=by size_fits) (wpAny_newFunctionEnv S.nocell (by intro y hy;simp at hy) (λh4 j7 LU=>?_) S.kind);dsimp only at j7 LU ⊢;have a3:∀b o,(j.heap.push { cls:=.type "list",dict:=none,data:=.seq ([]:Lw).toArray }).get? b=some o->h4.get? b=some o:=λb o e=>
  LU.extBut b o (cX (bK e)) (b9 _ e)
 have py:Y 0 (j.heap.push { cls:=.type "list",dict:=none,data:=.seq ([]:Lw).toArray }):=T.keep 0 _ _ fg λb _ o e=>b9 _ e;refine qp (aaV (s3:={ j with heap:=j.heap.push { cls:=.type "list",dict:=none,data:=.seq ([]:Lw).toArray } }) (tk:=j.toks+([]:List (Str×Value)).length) S hc I3 T py f3 rfl j7 a3 (hg _ _ _ _) (ht _ _ _ _) (he _ _ _ _) w0 ask) λr s' hr=>?_;obtain⟨er,m',H',jX,Aw,a1,a4,tH,xG,qd⟩:=hr;subst er;have a5:Un (cN X.stack) fp H2 (ag H2 j.heap.objs.size (.lst [])) j.heap (j.heap.push { cls:=.type "list",dict:=none,data:=.seq ([]:Lw).toArray }):=Un.laid (λb o e=>b9 _ e) (aK _) LS;refine a2 _ _ H' s' m' ?_ jX (U.call' (s':=s') (ch:=fp) Aw (a5.trans a4) tH a1 (λb z=>⟨(G b z).2.2.2.1,(G b z).2.1,(G b z).2.2.2.2.1,(G b z).2.2.2.2.2⟩)) xG qd;show j.heap.objs.size<(j.heap.push { cls:=.type "list",dict:=none,data:=.seq ([]:Lw).toArray }).objs.size;rw[rZ];exact wK _
theorem Inv.letGo{H:Hp}{h':Heap}(I:Inv X ad Z H s)(z:Heap.SameBut C s.heap h')(J:H C=none)(h0:X.s₀.heap.objs.size<=C)(h1:C≠X.env.locals)(h2:∀x c,X.env.cells.lookup x=some c->c≠C)(G:∀p∈X.pn++ad,p.1≠C) :
 Inv X ad Z H { s with heap:=h' }:=by
 refine I.call' (s':={ s with heap:=h' }) (ch:=[C]) rfl ⟨λb o e _ _ j=>?_,λb o e _ _ j=>⟨o.slots,?_⟩,λ_ _ _ n _=>n,λb o e j=>⟨o,?_⟩,λ_ _ q=>q,λ_ _ _ q=>q,λ_ ps q=>⟨#[],by rw[q];simp⟩⟩ (aaT I.hok z J) I.bare (λb j=>?_)
 . exact(z.2 b (by simpa using j)).trans e
 . exact(z.2 b (by simpa using j)).trans e
 . exact(z.2 b (by simpa using j)).trans e
 have:b=C:=by simpa using j
 subst this;exact⟨.inr h0,h1,h2,G⟩
theorem Inv.goes{H2 H:Hp}{J:Shared}{σ':St}{h':Heap}(j:Inv X ad σ' H2 J)(G:J.heap.objs.size<C)(I:Inv X ad Z H s)(Y:Heap.SameBut C s.heap h')(O:H C=none):Inv X ad Z H { s with heap:=h' }:=by
 refine I.letGo Y O (rY (Vx j.sz G)) (kN (wL j.lt G)) (λx c e z=>?_) (λp U z=>?_)
 . obtain⟨v,q⟩:=j.cell x c e;exact absurd (wL q.lt G) (by rw[z];exact oU _)
 exact absurd (wL (bK (j.pin p U).1) G) (by rw[z];exact oU _)
theorem lw.clos{own:Ls}(S:lw X own bu js sc)(ok:X.Ok):closureFor sc X.env=pure (ix X.env sc.names []):=
 aaU λy j e=>ok.has _ (.inl (S.outer _ (S.frees y j e)))
theorem fY(own bu:Ls)(js:List Nat){z:TI}(S:lw X own bu js sc)(hc:X.calm=true)(hi:PI X tg iter z)
 (hg:∀s₀ H₀ C ex,PG (dJ X (own++bu) sc s₀ H₀ C ex) tg g) (ht:∀s₀ H₀ C ex,eS (dJ X (own++bu) sc s₀ H₀ C ex) ifs tt) (he:∀s₀ H₀ C ex,PE (dJ X (own++bu) sc s₀ H₀ C ex) elt te)
 (hs:∀x,foldedSetIterable iter X.env x=pure x:=by intro _;rfl):PE X (.ListComp elt [⟨tg,iter,ifs,0⟩] sc pos) (Ez z own.length js g tt te):=by
 intro ad s Z H Q I h;rw[eval_ListComp];refine aqu (use:=none) rfl hs (S.clos I.ok) S.kind S.names (thn (hi ad s Z H _ I h) λv s1 h1=>thn h1 λAm s2 h2=>?_);obtain⟨it,fp,tn,J,H2,e,j,T,U,O,q2⟩:=h2;subst e;refine LQ (Q:=Q) S hc j T U O hg ht he q2 λD C H' s' m' Y jX G xG qd=>?_;exact⟨m',jX,λh' sb=>⟨.ref D,H',j.goes Y G sb xG,rfl,qd⟩⟩
theorem qN{i:Nat}{x:Str}{px ps:Pos}(own bu:Ls)(js:List Nat){Y:TI}(hN:X.N.Nodup)(hx:X.N[i]?=some x)(U:X.env.scope.names.lookup x=some .local)(S:lw X own bu js sc)(hc:X.calm=true)
 (hi:PI X tg iter Y) (hg:∀s₀ H₀ C ex,PG (dJ X (own++bu) sc s₀ H₀ C ex) tg g) (ht:∀s₀ H₀ C ex,eS (dJ X (own++bu) sc s₀ H₀ C ex) ifs tt) (he:∀s₀ H₀ C ex,PE (dJ X (own++bu) sc s₀ H₀ C ex) elt te)
 (a3:swapsWith (.ListComp elt [⟨tg,iter,ifs,0⟩] sc pos) (some (.Name x px)) ps.line X.env=pure true:=by rfl)
 (hs:∀x,foldedSetIterable iter X.env x=pure x:=by intro _;rfl):PS X (.Assign [.Name x px] (.ListComp elt [⟨tg,iter,ifs,0⟩] sc pos) ps) (Kf (Ez Y own.length js g tt te) (mo i)):=by
 intro ad s Z H D I h;rw[exec_Assign_Name_used _ _ _ _ a3];refine af (Vo (af ?_));show wpAny _ X.A (do let _ <-comprehension (.ListComp elt [⟨tg,iter,ifs,0⟩] sc pos) sc X.env _ (newList []) false (eval iter X.env) (some (assign (.Name x px) X.env))) _ _ s;refine af (eV (aqu (use:=some (assign (.Name x px) X.env)) (Q:=λ_ s'=>∃σ' H',Inv X ad σ' H' s'/\D.nx σ' H') rfl hs (S.clos I.ok) S.kind S.names
  (thn (hi ad s Z H _ I h) λv s1 h1=>thn h1 λAm s2 h2=>?_)) (λ_ s' hq=>au (au hq)) λ_ _ e=>e)
 obtain⟨it,fp,tn,J,H2,e,j,T,fg,f2,q2⟩:=h2;subst e;refine LQ (Q:=λv H1=>mo i v Z H1 D.nx) S hc j T fg f2 hg ht he q2 λO C H' s' m' G jX I' xG qd=>?_;show wpAny _ X.A (assign (.Name x px) X.env (.ref O)) _ _ s';refine wpAny_assign_Name (JS (v:=.ref O) I' hN hx (.inl U) rfl (λAy a0 a1=>a1.elim λa a2=>a2.elim λsb ha=>?_) (.inr U));have ne:C≠a:=by
  rcases ha with z | z
  . rw[z];exact kN (wL j.lt G)
  obtain⟨v,q⟩:=j.cell x a z;exact kN (wL q.lt G)
 exact⟨m',jX.sameBut sb ne,λh' a4=>⟨_,H',j.goes G a0 a4 xG,qd⟩⟩
end
section
variable {e k:Expr}{tk:TE}{p2:Pos}
def abB(K:Fg)(te tk:TE):TE:=λZ H Q=>te Z H λx H1=>tk Z H1 λz H2=>z=.int (-1)/\∃a xs,x=.ref a/\aa K H2 a xs/\∀p,H2 p=none->Q (.ref p) (ag H2 p (.lst xs.reverse))
theorem Paired.rev{β:Type}{R:α->β->Prop}:∀{xs:List α}{ys:List β},Paired R xs ys->∀{z:List α}{j:List β},Paired R z j->Paired R (xs.reverseAux z) (ys.reverseAux j)
 | _,_,.nil,_,_,h=>h
 | _,_,.cons r rs,_,_,h=>Paired.rev rs (.cons r h)
theorem abC(he:PE X e te)(hk:PE X k tk):PE X (.Subscript e (.Slice none none (some k) p2) pos) (abB X.K te tk):=by
 intro ad s Z H Q I h;refine Jm (thn (he ad s Z H _ I h) λv s1 U=>ba U λx H1 J r1 q1=>?_);refine wpAny_Slice ?_;rw[Vs];refine au (au ?_);rw[evalPart_some];refine thn (hk ad s1 Z H1 _ J q1) λu s3 Y=>ba Y λz H3 O r3 q3=>?_;obtain⟨ez,a,xs,ex,hx,q⟩:=q3;subst ez ex;obtain⟨t,rfl⟩:=r3;cases r1;have j:Inv X ad Z H3 { s3 with heap:=s3.heap.push { cls:=.type "slice",data:=.fields #[.none,.none,.int (-1) t] } }:=O.kept (t':=s3.toks) λb ob q=>b9 _ q;obtain⟨b_,r,G,hz⟩:=j.list hx;have a0:=r.length;show wpAny (model X.prog X.w) X.A (subscriptTail e (.Slice none none (some k) p2) (.ref a) (.ref s3.heap.objs.size)) (EP X ad Z Q) X.xe { s3 with heap:=s3.heap.push { cls:=.type "slice",data:=.fields #[.none,.none,.int (-1) t] } };refine tail_any (ops:=[.ref a,.ref s3.heap.objs.size]) (T:="list") G.isList.typeIs Vt.lookup ?_ (by with_unfolding_all rfl);refine aqo G.isList (Heap.IsSliceOf.new ..) .none .none (.int (-1) t) (by decide) ?_ (by rw[gf];omega);rw[W.krv_pick];refine⟨.ref _,_,j.laid (t':=s3.toks) (o:=.lst xs.reverse) (λb ob q=>b9 _ q) (aK _) ?_,rfl,q _ (j.hok.fresh (aK _))⟩;exact⟨by rw[Vz];exact hz,_,0,Paired.rev r .nil,dA _ rfl⟩
end
abbrev dL (H:Hp) (o:HO) (Q:V->Hp->Prop):Prop:=∀p H',H p=none->ac H H'->H' p=some o->Q (.ref p) H'
theorem dL.at{H:Hp}{o:HO}{Q:V->Hp->Prop}(h:dL H o Q):∀p,H p=none->Q (.ref p) (ag H p o):=λp j=>h p _ j (fC j) aD
theorem cw.weak{f:Value->Value->Sem Value}{r j:R2}(h:cw X f r)(w:∀x y H Q,j x y H Q->r x y H Q):cw X f j:=λad s Z H x y v u Q I z G q=>h ad s Z H x y v u Q I z G (w _ _ _ _ q)
theorem fh.weak{f:Value}{r j:ae->Hp->VK->Prop}(h:fh X f r)(w:∀xs H Q,j xs H Q->r xs H Q):fh X f j:=λad s Z H xs us Q I z q=>h ad s Z H xs us Q I z (w _ _ _ q)
theorem tw.weak{r j:V->Option Int->Option Int->Hp->VK->Prop}(h:tw X r)(w:∀x l u H Q,j x l u H Q->r x l u H Q):tw X j:=λad s Z H x v J O lo hi sl Q I G hs pl z q=>h ad s Z H x v J O lo hi sl Q I G hs pl z (w _ _ _ _ _ q)
section
variable {e k:Expr}{es:List Expr}{tk:TE}{t:TA}{p2:Pos}
inductive LV (H:Hp) (Q:VK):V->V->Prop where
 | mk {l:Addr}{b:Addr}{xs:ae}{zs:ae} (_:H l=some (.lst xs)) (_:H b=some (.lst zs)) (_:xs.length+zs.length<=sizeLine) (_:dL H (.lst (xs++zs)) Q):LV H Q (.ref l) (.ref b)
def abF:R2:=λx y H Q=>LV H Q x y
theorem tI:cw X (binaryOp .Add) abF:=Zy.weak λx y H Q h=>by obtain @⟨l,b,xs,zs,j,z,G,J⟩:=h;exact⟨l,b,xs,zs,rfl,rfl,j,z,G,J.at⟩
inductive LW (K:Fg) (lo:Option Int) (hi:Option Int) (H:Hp) (Q:VK):V->Prop where
 | mk {a:Addr}{xs:ae} (_:aa K H a xs) (_:dL H (.lst (pB xs lo hi)) Q):LW K lo hi H Q (.ref a)
def abG(K:Fg):V->Option Int->Option Int->Hp->VK->Prop:=λx lo hi H Q=>LW K lo hi H Q x
theorem qO:tw X (abG X.K):=Zi.weak λx l u H Q h=>by obtain @⟨a,xs,j,z⟩:=h;exact⟨a,xs,rfl,j,z.at⟩
theorem lB:fh X (.type "list") (λxs H Q=>∃p ys,xs=[.ref p]/\(aa X.K H p ys\/bh X.K H p ys)/\dL H (.lst ys) Q):=xy.weak λxs H Q J=>J.elim λp O=>O.elim λys U=>U.elim λj Y=>Y.elim λz G=>⟨p,ys,j,z,G.at⟩
def abL(t:TA):TE:=λZ H Q=>t Z H λxs H1=>xs.length<=sizeLine/\dL H1 (.tup xs) Q
def abM(t:TA):TE:=λZ H Q=>t Z H λxs H1=>xs.length<=sizeLine/\dL H1 (.lst xs) Q
theorem PA.thn{t:TA}(h:PA X es t){A:Hp->Prop}{F:VK->ae->Hp->Prop}{G:VK->ae->Hp->Prop}(w:∀Q xs H,F Q xs H->G Q xs H):PA X es (λZ H R=>∃Q:VK,t Z H (F Q)/\R=G Q):=by
 intro pos ad s Z H R I ⟨Q,q,e⟩;subst e;exact L2.thn (h pos ad s Z H _ I q) λus U z=>ba z λvs H1 j O J=>⟨vs,H1,j,O,w _ _ _ J⟩
theorem eT{x1}(h:PA X es t):PE X (.Tuple es x1 pos) (abL t):=by
 intro ad s Z H Q I q;exact KI (PA.thn (A:=λ_=>True) (F:=λQ xs H1=>xs.length<=sizeLine/\dL H1 (.tup xs) Q) (G:=λQ xs H1=>xs.length<=sizeLine/\∀p,H1 p=none->Q (.ref p) (ag H1 p (.tup xs))) h (λQ xs H j=>j.elim λa b=>⟨a,b.at⟩)) ad s Z H Q I ⟨Q,q,rfl⟩
theorem df(h:PA X es t):PE X (.List es pos) (abM t):=by
 intro ad s Z H Q I q;exact YK (PA.thn (A:=λ_=>True) (F:=λQ xs H1=>xs.length<=sizeLine/\dL H1 (.lst xs) Q) (G:=λQ xs H1=>xs.length<=sizeLine/\∀p,H1 p=none->Q (.ref p) (ag H1 p (.lst xs))) h (λQ xs H j=>j.elim λa b=>⟨a,b.at⟩)) ad s Z H Q I ⟨Q,q,rfl⟩
def abQ(K:Fg)(te:TE):TE:=λZ H Q=>te Z H λx H2=>∃a xs,x=.ref a/\aa K H2 a xs/\dL H2 (.lst xs.reverse) Q
theorem PE.thn{t:TE}{F G:VK->VK}(h:PE X e t)(w:∀Q v H,F Q v H->G Q v H):PE X e (λZ H R=>∃Q:VK,t Z H (F Q)/\R=G Q):=by
 intro ad s Z H R I ⟨Q,q,e⟩;subst e;exact L2.thn (h ad s Z H _ I q) λu U z=>ba z λv H1 j O J=>⟨v,H1,j,O,w _ _ _ J⟩
theorem LX{j p3 p4}(he:PE X e te):PE X (.Subscript e (.Slice none none (some (.UnaryOp .USub (.Constant (.int 1) j p3) p4)) p2) pos) (abQ X.K te):=by
 intro ad s Z H Q I q;refine abC (k:=.UnaryOp .USub (.Constant (.int 1) j p3) p4) (PE.thn (F:=λQ x H2=>∃a xs,x=.ref a/\aa X.K H2 a xs/\dL H2 (.lst xs.reverse) Q)
  (G:=λQ x H1=>∃i,V.int 1=.int i/\(V.int (-i)=.int (-1)/\∃a xs,x=.ref a/\aa X.K H1 a xs/\∀p,H1 p=none->Q (.ref p) (ag H1 p (.lst xs.reverse)))) he
  λQ v H U=>U.elim λa Y=>Y.elim λxs a0=>a0.elim λz a4=>a4.elim λJ O=>⟨1,rfl,rfl,a,xs,z,J,O.at⟩) (uY vc ar) ad s Z H Q I ⟨Q,q,rfl⟩
end
section
variable {H1:Hp}{Q:Addr->Hp->Prop}
theorem abW{lo:Int}{n:Nat}(S:St->Prop)(P:Nat->ae->Hp->Prop)(s0:S σ0)(st:∀D,H1 D=none->P 0 [] (ag H1 D (.lst [])))
 (a0:∀D i ys Z H (k:St->V->Hp->Prop) (k':St->Hp->Prop),H1 D=none->i<n->S Z->H D=some (.lst ys)->ac H1 H->P i ys H ->
  (∀σ3 y z,S σ3->ac H z->ys.length<sizeLine->P (i+1) (ys++[y]) (ag z D (.lst (ys++[y])))->k σ3 y z)->(∀σ3 j,S σ3->ac H j->P (i+1) ys j->k' σ3 j) ->
  g (.int (lo+i)) Z H λσ3 H3=>tt σ3 H3 λok j=>if ok=true then te σ3 j (k σ3) else k' σ3 j)
 (done:∀D ys H,H1 D=none->H D=some (.lst ys)->ac H1 H->P n ys H->Q D H) :
 ∀D,H1 D=none->∃W:Nat->Nat->St->Hp->Prop,(∃m,W 0 m σ0 (ag H1 D (.lst [])))/\lq (pj lo n) g tt te D (λH'=>Q D H') W:=by
 intro D J;refine⟨λi m Z H=>m=n - i/\i<=n/\S Z/\∃ys,H D=some (.lst ys)/\ac H1 H/\P i ys H,⟨n,by simp,dF _,s0,[],aD,fC J,st D J⟩,?_⟩;rintro i m Z H ⟨rfl,hi,hS,ys,hd,hs,hp⟩
 by_cases O:i<n
 . refine .inr ⟨O,λx H2 hy=>?_⟩;obtain⟨e1,e2⟩:=hy;subst e1 e2;exact a0 D i ys Z _ (λσ3 y z=>∃ys,z D=some (.lst ys)/\ys.length<sizeLine/\∃m',m'<n - i/\(m'=n - (i+1)/\i+1<=n/\S σ3/\∃zs,ag z D (.lst (ys++[y])) D=some (.lst zs)/\ac H1 (ag z D (.lst (ys++[y])))/\P (i+1) zs (ag z D (.lst (ys++[y])))))
    (λσ3 j=>∃m',m'<n - i/\(m'=n - (i+1)/\i+1<=n/\S σ3/\∃zs,j D=some (.lst zs)/\ac H1 j/\P (i+1) zs j)) J O hS hd hs hp
    (λσ3 y z U G Y a4=>⟨ys,G _ _ hd,Y,n - (i+1),by omega,rfl,O,U,ys++[y],aD,fj (hs.trans G) J,a4⟩)
    (λσ3 j U G Y=>⟨n - (i+1),by omega,rfl,O,U,ys,G _ _ hd,hs.trans G,Y⟩)
 have e:i=n:=by omega
 subst e;exact .inl ⟨aK _,done D ys H J hd hs hp⟩
theorem EB{a:Addr}{xs:ae}(hx:aa K H1 a xs)(S:St->Prop)(P:Nat->ae->Hp->Prop)(s0:S σ0)(st:∀D,H1 D=none->P 0 [] (ag H1 D (.lst [])))
 (a0:∀D i x ys Z H (k:St->V->Hp->Prop) (k':St->Hp->Prop),H1 D=none->xs[i]?=some x->S Z->H D=some (.lst ys)->ac H1 H->P i ys H ->
  (∀σ3 y z,S σ3->ac H z->ys.length<sizeLine->P (i+1) (ys++[y]) (ag z D (.lst (ys++[y])))->k σ3 y z)->(∀σ3 j,S σ3->ac H j->P (i+1) ys j->k' σ3 j) ->
  g x Z H λσ3 H3=>tt σ3 H3 λok j=>if ok=true then te σ3 j (k σ3) else k' σ3 j)
 (done:∀D ys H,H1 D=none->H D=some (.lst ys)->ac H1 H->P xs.length ys H->Q D H) :
 ∀D,H1 D=none->∃W:Nat->Nat->St->Hp->Prop,(∃m,W 0 m σ0 (ag H1 D (.lst [])))/\lq (nK K a) g tt te D (λH'=>Q D H') W:=by
 intro D J;refine⟨λi m Z H=>m=xs.length - i/\i<=xs.length/\S Z/\∃ys,H D=some (.lst ys)/\ac H1 H/\P i ys H,⟨xs.length,by simp,dF _,s0,[],aD,fC J,st D J⟩,?_⟩;rintro i m Z H ⟨rfl,hi,hS,ys,hd,hs,hp⟩;have q:aa K H a xs:=ac.seq hs hx
 by_cases Y:i<xs.length
 . refine .inr ⟨⟨xs,xs[i],q,by simp[Y]⟩,λx H2 hy=>?_⟩;obtain⟨e1,e2⟩:=hy;subst e1;exact a0 D i x ys Z _ (λσ3 y z=>∃ys,z D=some (.lst ys)/\ys.length<sizeLine/\∃m',m'<xs.length - i/\(m'=xs.length - (i+1)/\i+1<=xs.length/\S σ3/\∃zs,ag z D (.lst (ys++[y])) D=some (.lst zs)/\ac H1 (ag z D (.lst (ys++[y])))/\P (i+1) zs (ag z D (.lst (ys++[y])))))
    (λσ3 j=>∃m',m'<xs.length - i/\(m'=xs.length - (i+1)/\i+1<=xs.length/\S σ3/\∃zs,j D=some (.lst zs)/\ac H1 j/\P (i+1) zs j)) J (e2 xs q) hS hd hs hp
    (λσ3 y z O G U a4=>⟨ys,G _ _ hd,U,xs.length - (i+1),by omega,rfl,Y,O,ys++[y],aD,fj (hs.trans G) J,a4⟩)
    (λσ3 j O G U=>⟨xs.length - (i+1),by omega,rfl,Y,O,ys,G _ _ hd,hs.trans G,U⟩)
 have e:i=xs.length:=by omega
 subst e;exact .inl ⟨⟨xs,q,aK _⟩,done D ys H J hd hs hp⟩
theorem vk{lo:Int}{n:Nat}(S:St->Prop)(P:Nat->ae->Hp->Prop)(s0:S σ0)(st:∀D,H1 D=none->P 0 [] (ag H1 D (.lst [])))
 (a0:∀D i ys Z H (k:St->V->Hp->Prop),H1 D=none->i<n->S Z->H D=some (.lst ys)->ac H1 H->P i ys H ->
  (∀σ3 y j,S σ3->ac H j->ys.length<sizeLine->P (i+1) (ys++[y]) (ag j D (.lst (ys++[y])))->k σ3 y j)->g (.int (lo+i)) Z H λσ3 H3=>te σ3 H3 (k σ3))
 (done:∀D ys H,H1 D=none->H D=some (.lst ys)->ac H1 H->P n ys H->Q D H) :
 ∀D,H1 D=none->∃W:Nat->Nat->St->Hp->Prop,(∃m,W 0 m σ0 (ag H1 D (.lst [])))/\lq (pj lo n) g qL te D (λH'=>Q D H') W:=
 abW S P s0 st (λD i ys Z H k k' z G J O U Y a7 _=>a0 D i ys Z H k z G J O U Y a7) done
theorem xH{a:Addr}{xs:ae}(hx:aa K H1 a xs)(S:St->Prop)(P:Nat->ae->Hp->Prop)(s0:S σ0)(st:∀D,H1 D=none->P 0 [] (ag H1 D (.lst [])))
 (a0:∀D i x ys Z H (k:St->V->Hp->Prop),H1 D=none->xs[i]?=some x->S Z->H D=some (.lst ys)->ac H1 H->P i ys H ->
  (∀σ3 y j,S σ3->ac H j->ys.length<sizeLine->P (i+1) (ys++[y]) (ag j D (.lst (ys++[y])))->k σ3 y j)->g x Z H λσ3 H3=>te σ3 H3 (k σ3))
 (done:∀D ys H,H1 D=none->H D=some (.lst ys)->ac H1 H->P xs.length ys H->Q D H) :
 ∀D,H1 D=none->∃W:Nat->Nat->St->Hp->Prop,(∃m,W 0 m σ0 (ag H1 D (.lst [])))/\lq (nK K a) g qL te D (λH'=>Q D H') W:=
 EB hx S P s0 st (λD i x ys Z H k k' z G J O U Y a7 _=>a0 D i x ys Z H k z G J O U Y a7) done
end
end L2
namespace Lcp
variable {xs ys:Ls}
def gk:Ls->Ls->Nat
 | x::xs,y::ys=>if x=y then gk xs ys+1 else 0
 | _,_=>0
theorem EC:∀(xs ys:Ls),gk xs ys<=xs.length/\gk xs ys<=ys.length
 | [],_=>by simp[gk]
 | _::_,[]=>by simp[gk]
 | x::xs,y::ys=>by
  unfold gk;have:=EC xs ys;split<;>simp only[cq]<;>omega
theorem abX{i:Nat}{x y:Str}(j:xs[i]?=some x)(z:ys[i]?=some y):gk (xs.drop i) (ys.drop i)=if x=y then gk (xs.drop (i+1)) (ys.drop (i+1))+1 else 0:=by
 obtain⟨h1,e1⟩:=cM.mp j;obtain⟨h2,e2⟩:=cM.mp z;rw[Jp h1,Jp h2,e1,e2];rfl
theorem LY{i:Nat}(h:xs.length<=i\/ys.length<=i):gk (xs.drop i) (ys.drop i)=0:=by
 rcases h with h | h
 . rw[zO.mpr h];rfl
 rw[zO.mpr h];cases xs.drop i<;>rfl
def fst(xs ys:Ls):Nat:=gk xs ys
def pM(xs ys:Ls):Nat:=gk (xs.drop (fst xs ys)).reverse (ys.drop (fst xs ys)).reverse
def iy(xs ys:Ls):Nat:=xs.length - pM xs ys
def tJ(xs ys:Ls):Ls:=(ys.drop (fst xs ys)).take (ys.length - pM xs ys - fst xs ys)
theorem LZ(xs ys:Ls):fst xs ys+pM xs ys<=xs.length/\fst xs ys+pM xs ys<=ys.length:=by
 have h1:=EC xs ys;have h2:=EC (xs.drop (fst xs ys)).reverse (ys.drop (fst xs ys)).reverse;rw[Vz,kP,Vz,kP]at h2;unfold pM;unfold fst at *;omega
theorem L0(xs ys:Ls):(tJ xs ys).length=ys.length - pM xs ys - fst xs ys:=by
 obtain⟨j,z⟩:=LZ xs ys;unfold tJ;rw[eW,kP];omega
theorem L6{x:Str}(h:x∈tJ xs ys):x∈ys:=zP (Jq h)
end Lcp
namespace L2
variable {xs ys:Ls}
structure Ln(x:Str):Prop where
 ok:fk x
 len:x.length<=60
structure mG(xs:Ls):Prop where
 len:xs.length<=20
 all:∀x∈xs,Ln x
def qQ(xs:Ls)(lo hi:Option Int):Ls:=(xs.drop (HT.gA xs.length 0 lo)).take (HT.gA xs.length xs.length hi - HT.gA xs.length 0 lo)
theorem vm(xs:Ls)(lo hi:Option Int):pB (xs.map V.str) lo hi=(qQ xs lo hi).map V.str:=by
 unfold pB qQ;rw[ak,VA,List.map_drop]
theorem abY{k:Int}(h:0<=k):qQ xs none (some k)=xs.take k.toNat:=by
 obtain⟨n,rfl⟩:∃n:Nat,k=n:=⟨k.toNat,by omega⟩;unfold qQ;rw[HT.Ed,HT.xu,List.drop_zero,Nat.sub_zero];exact aqv.mpr (by simp)
theorem ED{k:Int}(h:0<=k):qQ xs (some k) none=xs.drop k.toNat:=by
 obtain⟨n,rfl⟩:∃n:Nat,k=n:=⟨k.toNat,by omega⟩;unfold qQ;rw[HT.Ed,HT.xu,lY];rw[Jr (by rw[kP];omega)]
 by_cases q:n<=xs.length
 . rw[VB q]
 rw[Nat.min_eq_right (by omega),zO.mpr (aK _),zO.mpr (by omega)]
theorem L7{i j:Int}(h:0<=i)(h':0<=j):qQ xs (some i) (some j)=(xs.drop i.toNat).take (j.toNat - i.toNat):=by
 obtain⟨n,rfl⟩:∃n:Nat,i=n:=⟨i.toNat,by omega⟩;obtain⟨m,rfl⟩:∃n:Nat,j=n:=⟨j.toNat,by omega⟩;unfold qQ;rw[HT.xu,HT.xu,lY,lY]
 by_cases q:n<=xs.length
 . rw[VB q];exact aqv.mpr (by rw[kP];omega)
 rw[zO.mpr (show xs.length<=n by omega),zO.mpr (show xs.length<=min n xs.length by omega)];simp
theorem vn{r:Int}(h0:0<=r)(h1:r<xs.length):∃z,cI (xs.map V.str) r=some (V.str z)/\xs[r.toNat]?=some z:=by
 obtain⟨v,e,e2⟩:=Eu (xs:=xs.map V.str) h0 (by rw[ak];exact h1);rw[c8]at e2;cases q:xs[r.toNat]? with
 | none=>rw[q]at e2;cases e2
 | some z=>
  rw[q]at e2;cases e2;exact⟨z,e,rfl⟩
theorem AM(xs ys:Ls):xs.map V.str++ys.map V.str=(xs++ys).map V.str:=(dq ..).symm
theorem L8(xs:Ls):(xs.map V.str).reverse=xs.reverse.map V.str:=List.map_reverse.symm
theorem tK(xs:Ls)(y:Str):xs.map V.str++[V.str y]=(xs++[y]).map V.str:=by rw[dq];rfl
theorem j8{n:Nat}(h:n<=1000):n<=sizeLine:=rY (bQ h)
abbrev dS (xs:Ls):W.Dat:=.list (xs.map W.Dat.str)
theorem mH{K:Fg}{H:Hp}{a:Addr}(h:aa K H a (xs.map V.str)):DV K H (.ref a) (dS xs):=.lst h (LK xs)
theorem xI(n:Nat)(h:∀x∈xs,Ln x):W.kqdOk (n+1) (dS xs)=true:=by
 simp only[dS,W.kqdOk,ip,ca];rintro d ⟨x,j,rfl⟩;cases n with
 | zero=>exact(h x j).ok
 | succ n=>exact(h x j).ok
theorem abZ(h:xs.map W.Dat.str=ys.map W.Dat.str):xs=ys:=by
 induction xs generalizing ys with
 | nil=>cases ys with
  | nil=>rfl
  | cons y ys=>cases h
 | cons x xs j=>cases ys with
  | nil=>cases h
  | cons y ys=>
   rw[bV,bV]at h;injection h with h1 h2
   injection h1 with h1
   rw[h1,j h2]
theorem L9:dS xs=dS ys↔xs=ys:=⟨λh=>abZ (W.Dat.list.inj h),λh=>by rw[h]⟩
theorem EE{b:Bool}(h:b=true↔dS xs=dS ys):b=decide (xs=ys):=by
 rw[L9]at h
 by_cases q:xs=ys
 . rw[bE q];exact h.mpr q
 rw[cu q];exact sj.mpr λz=>q (h.mp z)
theorem ab0{c A B:Prop}[Decidable c](j:¬c)(h:A):if (!decide c)=true then A else B:=by rw[cu j];exact dZ h
end L2
namespace Lcp
open L2
variable {b o n:Ls}
def tL(b x y:Ls):Ls:=(((b.take (fst b x)++tJ b x)++(b.drop (iy b x)).take (fst b y - iy b x))++tJ b y)++b.drop (iy b y)
def AN(j G z J:Int):Bool:=if (j=G/\z=J)/\j=z then false else(decide (G<=z) || decide (J<=j))
def apart(b o n:Ls):Bool:=AN (fst b o) (iy b o) (fst b n) (iy b n)
def merge(b o n:Ls):Ls×Option (Ls):=
 if o=b then(n,none) else if n=b\/o=n then(o,none) else if apart b o n=false then(n,some o) else if iy b o<=fst b n then(tL b o n,none) else(tL b n o,none)
theorem ab1(h:o=b):merge b o n=(n,none):=by unfold merge;rw[am h]
theorem ab2(h:o≠b)(h':n=b\/o=n):merge b o n=(o,none):=by unfold merge;rw[ah h,am h']
theorem ab3(h:o≠b)(h':¬(n=b\/o=n))(h2:apart b o n=false):merge b o n=(n,some o):=by unfold merge;rw[ah h,ah h',am h2]
theorem ab4(h:o≠b)(h':¬(n=b\/o=n))(h2:apart b o n=true)(j:iy b o<=fst b n):merge b o n=(tL b o n,none):=by unfold merge;rw[ah h,ah h',ah (by rw[h2];decide),am j]
theorem ab5(h:o≠b)(h':¬(n=b\/o=n))(h2:apart b o n=true)(j:¬iy b o<=fst b n):merge b o n=(tL b n o,none):=by unfold merge;rw[ah h,ah h',ah (by rw[h2];decide),ah j]
theorem Ma{x y:Ls}{z:Str}(h:z∈tL b x y):z∈b\/z∈x\/z∈y:=by
 unfold tL at h
 rcases bY.mp h with h | h
 . rcases bY.mp h with h | h
   . rcases bY.mp h with h | h
     . rcases bY.mp h with h | h
       . exact .inl (Jq h)
       exact .inr (.inl (L6 h))
     exact .inl (zP (Jq h))
   exact .inr (.inr (L6 h))
 exact .inl (zP h)
theorem ab6{z:Str}(h:z∈(merge b o n).1):z∈b\/z∈o\/z∈n:=by
 unfold merge at h;split at h
 . exact .inr (.inr h)
 split at h
 . exact .inr (.inl h)
 split at h
 . exact .inr (.inr h)
 split at h
 . exact Ma h
 rcases Ma h with h | h | h
 . exact .inl h
 . exact .inr (.inr h)
 exact .inr (.inl h)
theorem ab7(b o n:Ls):(merge b o n).2=none\/(merge b o n).2=some o:=by
 unfold merge;split
 . exact .inl rfl
 split
 . exact .inl rfl
 split
 . exact .inr rfl
 split<;>exact .inl rfl
theorem ab8(h1:∀x∈b,Ln x)(h2:∀x∈o,Ln x)(j:∀x∈n,Ln x):∀x∈(merge b o n).1,Ln x:=λx z=>by
 rcases ab6 z with h | h | h
 . exact h1 x h
 . exact h2 x h
 exact j x h
end Lcp
namespace L2
section
open Lcp
def ab9(H:Hp)(r:V):Option (Ls)->Prop
 | none=>r=.non
 | some z=>∃j,r=.ref j/\H j=some (.lst (z.map V.str))
structure aca(H:Hp)(t l:Addr)(r:V)(m:Ls×Option (Ls)):Prop where
 tup:H t=some (.tup [.ref l,r])
 lst:H l=some (.lst (m.1.map V.str))
 bes:ab9 H r m.2
end
section
variable {ys:Ls}
section
variable {X:Cx}
theorem Mb:∀{us:Lw},bc (ys.map V.str) us->StrsAre us ys:=by
 induction ys with
 | nil=>intro us r;rw[zL]at r;cases r;exact .nil
 | cons n ns j=>
  intro us r;rw[bV]at r;cases r with
  | cons z G=>
   obtain⟨t,e⟩:=z;subst e;exact .cons n t (j G)
inductive Mc (K:Fg) (H:Hp) (Q:VK):V->ae->Prop where
 | mk {sep:Str}{p:Addr} (ys:Ls) (_:aa K H p (ys.map V.str)) (_:(ys.map (·.length)).sum+ys.length * sep.length<=16777216) (_:Q (.str (Txt.join sep ys)) H):Mc K H Q (.str sep) [.ref p]
def Me(K:Fg):V->ae->Hp->VK->Prop:=λx vs H Q=>Mc K H Q x vs
theorem vo:nV X "str.join" (Me X.K):=by
 intro ad s Z H x xs v us Q I U O h;obtain @⟨sep,p,ys,j,hz,q⟩:=h;obtain⟨t,rfl⟩:=U;cases O with
 | cons G J=>
  cases G;cases J;obtain⟨b_,r,z,_⟩:=I.list j;exact join_list z.isList (by simpa using Mb r) hz λt' k=>⟨.str _,H,I.tok k,⟨_,rfl⟩,q⟩
end
section
variable {X:Cx}{K:Fg}
theorem EF(K:Fg)(h:X.K=K:=by rfl):ve X (K2 K):=h▸fW
theorem acb(K:Fg)(h:X.K=K:=by rfl):ve X (K4 K):=h▸fz
theorem Mf(K:Fg)(h:X.K=K:=by rfl):cw X (compareOp .In) (Ef K false):=h▸K9
def acd(K:Fg):ae->Hp->VK->Prop:=λxs H Q=>∃p ys,xs=[.ref p]/\(aa K H p ys\/bh K H p ys)/\Q (.int ys.length) H
theorem ace(K:Fg)(h:X.K=K:=by rfl):fh X (.builtin "len") (acd K):=by subst h;exact fA
end
theorem xJ{b:Nat}(h:∀y∈ys,y.length<=b):(ys.map (·.length)).sum<=ys.length * b:=by
 induction ys with
 | nil=>simp
 | cons y ys j=>
  have h1:=h y bH;have h2:=j λz hz=>h z (bR _ hz);simp only[bV,List.sum_cons,cq,VC];omega
theorem AO{sep:Str}:(Txt.join sep ys).length<=(ys.map (·.length)).sum+ys.length * sep.length:=by
 have e:Txt.join sep ys=Str.join sep ys:=zQ sep ys;rw[e];cases ys with
 | nil=>exact dF _
 | cons a l=>
  rw[len_join_cons];simp only[cq,VC];omega
theorem acf:fk Str.empty:=by decide +kernel
theorem EG{sep:Str}(hs:fk sep):∀{ys:Ls},(∀y∈ys,fk y)->fk (Txt.join sep ys):=by
 intro ys h;have e:Txt.join sep ys=Str.join sep ys:=zQ sep ys;rw[e];clear e
 induction ys with
 | nil=>exact acf
 | cons a l z=>
  cases l with
  | nil=>exact h a bH
  | cons b r=>
   show fk (a++sep++Str.join sep (b::r));exact vj (vj (h a bH) hs) (z λy j=>h y (bR _ j))
end
section
variable {X:Cx}{ad:Po}{d:Addr}{kvs:List (ao×V)}{o:Obj}{prog:Program}{w:World}{A:Around}{E:VP}{e:Expr}{elts:List Expr}{x1:Nat}{pos:Pos}
section
variable {Z:St}{H:Hp}{s:Shared}
theorem Inv.rehp{H':Hp}(I:Inv X ad Z H s)(h0:∀b,H b=none->H' b=none)(J:∀b xs,H b=some (.tup xs)->H' b=some (.tup xs))(G:∀b o u,X.H₀ b=some (.frz o u)->H' b=some (.frz o u))
 (z:∀b ps,H b=some (.tbl ps)->H' b=some (.tbl ps)) (hok:cC X.prog X.w H' s.heap):Inv X ad Z H' s:=
 ⟨I.ok,I.os,I.bare,⟨I.base.keep,I.base.slot,λb o e n O=>h0 b (I.base.free b o e n O),I.base.there,λb xs e=>J b xs (I.base.tups b xs e),G,λb ps e=>(I.base.tbls b ps e).elim λm q=>⟨m,z _ _ q⟩⟩,I.loc,I.cell,h0 _ I.free,
  λx c e=>h0 _ (I.freeC x c e),λp j=>⟨(I.pin p j).1,h0 _ (I.pin p j).2.1,(I.pin p j).2.2⟩,hok,I.len⟩
theorem Inv.freeze(I:Inv X ad Z H s)(e:H d=some (.dK kvs))(G:s.heap.get? d=some o):Inv X ad Z (ag H d (.frz o (.dK kvs))) s:=by
 have ne:∀b u,H b=some u->(∀ks,u≠.dK ks)->b≠d:=λb u q J z=>by rw[z,e]at q;cases q;exact J _ rfl
 refine I.rehp (λb q=>?_) (λb xs q=>?_) (λb o' u q=>?_) (λb ps q=>?_) λb u q=>?_
 . rw[bg (λz=>by rw[z,e]at q;cases q)];exact q
 . rw[bg (ne b _ q (by intro ks z;cases z))];exact q
 . have q:=I.base.frzs b o' u q;rw[bg (ne b _ q (by intro ks z;cases z))];exact q
 . rw[bg (ne b _ q (by intro ks z;cases z))];exact q
 have up:∀{c:Addr}{w:HO},H c=some w->(∀ks,w≠.dK ks)->ag H d (.frz o (.dK kvs)) c=some w:=λ{c w} j O=>by rw[bg (ne c _ j O)];exact j
 by_cases z:b=d
 . subst z;rw[aD]at q;cases q;exact⟨G,(I.hok b _ e).stay (λ_ _ _ q=>q) (λc j=>up j (by intro ks z;cases z)) λc xs j=>up j (by intro ks z;cases z)⟩
 rw[bg z]at q;exact(I.hok b _ q).stay (λ_ _ _ q=>q) (λc j=>up j (by intro ks z;cases z)) λc xs j=>up j (by intro ks z;cases z)
theorem Inv.thaw(I:Inv X ad Z H s)(e:H d=some (.frz o (.dK kvs)))(hz:∀o' u,X.H₀ d≠some (.frz o' u)):Inv X ad Z (ag H d (.dK kvs)) s:=by
 have ne:∀b u,H b=some u->(∀o' G,u≠.frz o' G)->b≠d:=λb u q J z=>by rw[z,e]at q;cases q;exact J _ _ rfl
 have up:∀{c:Addr}{w:HO},H c=some w->(∀o' G,w≠.frz o' G)->ag H d (.dK kvs) c=some w:=λ{c w} j O=>by rw[bg (ne c _ j O)];exact j
 refine I.rehp (λb q=>?_) (λb xs q=>up q (by intro _ _ z;cases z)) (λb o' u q=>?_) (λb ps q=>up q (by intro _ _ z;cases z)) λb u q=>?_
 . rw[bg (λz=>by rw[z,e]at q;cases q)];exact q
 . have U:b≠d:=λz=>hz o' u (z▸q);rw[bg U];exact I.base.frzs b o' u q
 by_cases z:b=d
 . subst z;rw[aD]at q;cases q;exact(show cb X.prog X.w H s.heap b (.dK kvs) from (show cb X.prog X.w H s.heap b (.frz o (.dK kvs)) from I.hok b _ e).2).stay (λ_ _ _ q=>q) (λc j=>up j (by intro _ _ z;cases z)) λc xs j=>up j (by intro _ _ z;cases z)
 rw[bg z]at q;exact(I.hok b _ q).stay (λ_ _ _ q=>q) (λc j=>up j (by intro _ _ z;cases z)) λc xs j=>up j (by intro _ _ z;cases z)
theorem Inv.track{a:Addr}{o:HO}(I:Inv X ad Z H s)(O:H a=none)(h0:X.s₀.heap.objs.size<=a)(h1:a≠X.env.locals)(h2:∀x c,X.env.cells.lookup x=some c->c≠a)(J:∀p∈X.pn++ad,p.1≠a)
 (new:cb X.prog X.w (ag H a o) s.heap a o):Inv X ad Z (ag H a o) s:=by
 have up:∀{c:Addr}{w:HO},H c=some w->ag H a o c=some w:=λ{c w} j=>by rw[bg (aO j O)];exact j
 refine⟨I.ok,I.os,I.bare,⟨I.base.keep,I.base.slot,λb ob e n U=>?_,I.base.there,λb xs e=>up (I.base.tups b xs e),λb o' u e=>up (I.base.frzs b o' u e),λb ps e=>(I.base.tbls b ps e).elim λm q=>⟨m,up q⟩⟩,I.loc,I.cell,?_,λx c e=>?_,
  λp G=>⟨(I.pin p G).1,?_,(I.pin p G).2.2⟩,λb u q=>?_,I.len⟩
 . rw[bg (cX (gL (bK e) h0))];exact I.base.free b ob e n U
 . rw[bg (gy h1)];exact I.free
 . rw[bg (h2 x c e)];exact I.freeC x c e
 . rw[bg (J p G)];exact(I.pin p G).2.1
 by_cases z:b=a
 . subst z;rw[aD]at q;cases q;exact new
 rw[bg z]at q;exact(I.hok b _ q).stay (λ_ _ _ q=>q) (λc j=>up j) λc xs j=>up j
end
theorem xK:fh X (.type "dict") (λxs H Q=>∃a kvs,xs=[.ref a]/\H a=some (.dK kvs)/\dL H (.dK kvs) Q):=by
 intro ad s Z H xs us Q I r h;obtain⟨a,kvs,rfl,e,q⟩:=h;obtain⟨u,rfl,G⟩:=vals1 r;cases G;exact aaH I (.inl e) λp s' z j=>⟨.ref p,_,j,rfl,q.at p z⟩
theorem acg{K:Type}[DecidableEq K]{knd:KeyKind prog w K}{s:Shared}{kvs:List (K×Value)}{k:K}{a0 dflt:Value}{Q:VP}(G:knd.is k a0=true)(hm:s.heap.DictOf knd d kvs)
 (a1:∀v,valueAt kvs k=some v->Q v { s with toks:=s.toks+1 })
 (a2:valueAt kvs k=none->∀h',h'.DictOf knd d (kvs++[(k,dflt)])->Heap.SameBut d s.heap h'->Q dflt { s with heap:=h',toks:=s.toks+1 }) (hsz:kvs.length<=sizeLine) :
 wpAny (model prog w) A (dictSetDefault d a0 dflt) Q E s:=by
 have a3:=hm.mapOf;obtain⟨o,es,ep,j,hc,hd,hk,O,hn⟩:=hm;obtain⟨o',es',qF,ir,g9,jd,d5,Y⟩:=a3;rw[j]at ir;cases ir;rw[hd]at jd;cases jd;have EH:es.size<=sizeLine:=by
  have e1:=O.length;have e2:es.toList.length=es.size:=by simp
  omega
 unfold dictSetDefault
 try with_reducible refine jT ?_
 refine af (knd.pyHash G ?_);refine af (wpAny_dictFind_of (s:={ s with toks:=s.toks+1 }) G j hd hk ?_);have a4:(es.findIdx? λe=>knd.is k e.key)=kvs.findIdx? λkv=>decide (kv.1=k):=by
  rw[<-O.findIdx k];obtain⟨l⟩:=es;simp
 cases hi:es.findIdx? λe=>knd.is k e.key with
 | some i=>
  have z:valueAt kvs k=(es[i]?).map (·.val):=by rw[<-Y k,findBy_of_findIdx?,hi]
  refine af (Js (s:={ s with toks:=s.toks+1 }) j hd ?_);cases J:es[i]? with
  | none=>
   exfalso;have:=Array.findIdx?_eq_some_iff_findIdx_eq.mp hi;have aT:i<es.size:=this.1;rw[qv aT]at J;exact nomatch J
  | some e=>
   rw[J]at z;exact af (oR (au (a1 e.val z)))
 | none=>
  have z:valueAt kvs k=none:=by rw[<-Y k,findBy_of_findIdx?,hi]
  have a5:k∉kvs.map (·.1):=not_mem_of_findIdx_none (a4▸hi);refine af (oR (af (wpAny_updateDictKeys (hz:=EH) (s:={ s with toks:=s.toks+1 }) j hd (au (a2 z _ ⟨_,_,ep+1,zR _ j (Obj.isFreed_of_dict (Obj.data_mapDictKeys hd _)),
   hc.mapDictKeys _,Obj.data_mapDictKeys hd _,hk.push G _,?_,?_⟩ (lZ ..))))))
  . have:=O.append G (knd.hash k) dflt;obtain⟨l⟩:=es;simpa using this
  rw[dq,qw];refine⟨hn,by simp,?_⟩;intro a ha b U;simp only[bV,zL,bF]at U;subst U;exact λe=>a5 (e▸ha)
theorem acm{K:Type}[DecidableEq K]{knd:KeyKind prog w K}{k:K}{j:Value}(kY:knd.is k j=true)(hd:(d == sysModules)=false)(dflt:Value) :
 MeetsIn prog w (Builtin.«dict.setdefault» ⟨[.ref d,j,dflt],[]⟩) (λ_ R s=>∃kvs,s.heap.DictOf knd d kvs/\kvs.length<=sizeLine /\
  (∀v,valueAt kvs k=some v->R (.ok (.ret v)) { s with toks:=s.toks+1 }) /\
  (valueAt kvs k=none->∀h',h'.DictOf knd d (kvs++[(k,dflt)])->Heap.SameBut d s.heap h'->R (.ok (.ret dflt)) { s with heap:=h',toks:=s.toks+1 })):=
 .of_wp λA R s J=>J.elim λkvs O=>O.elim λz U=>U.elim λhz Y=>Y.elim λh1 h2=>by
  unfold Builtin.«dict.setdefault»;refine af ?_;unfold Builtin.Dict.keyAndDefault;refine af (wpAny_notOrdered_dict z.typeIs ?_);show wpAny _ _ (pure (d,j,some dflt)) _ _ s;refine au ?_;show wpAny _ _ (if (d == sysModules)=true then _ else(dictSetDefault d j dflt >>= _)) _ _ s;rw[ah (by rw[hd];exact cS)];exact af (acg kY z (λv hv=>au ⟨v,rfl,h1 v hv⟩) (λhn h' G tM=>au ⟨dflt,rfl,h2 hn h' G tM⟩) hz)
def acr:V->ae->Hp->VK->Prop:=λx vs H Q=>∃a kvs k y,x=.ref a/\vs=[kV k,y]/\H a=some (.dK kvs)/\kvs.length<sizeLine/\(∀z,bi kvs k=some z->Q z H)/\(bi kvs k=none->Q y (ag H a (.dK (cx kvs k y))))
theorem acs:nV X "dict.setdefault" acr:=by
 intro ad s Z H x xs v us Q I rx rs h;obtain⟨a,kvs,k,y,rfl,rfl,e,hl,q1,q2⟩:=h;cases rx;cases rs with
 | cons r1 r2=>
  cases r2 with
  | cons r3 r4=>
   cases r4;obtain⟨z,hd,vs,G,dd⟩:=iS I.hok e;refine wM aqw dd.typeIs PySem.F.entry_dict_setdefault (PySem.F.args_dict_setdefault_3 _ _ _) (acm (knd:=cf X.prog X.w) (nY r1) hd _) ⟨vs,dd,by rw[<-G.length];exact z,λu hu=>?_,λhn h' Y hs=>?_⟩
   . obtain⟨j,Mg,rz⟩:∃j,bi kvs k=some j/\RelV j u:=by
      have:=G.val k;rw[hu]at this;cases q:bi kvs k with
      | none=>rw[q]at this;cases this
      | some j=>rw[q]at this;exact⟨j,rfl,this⟩
     exact⟨j,H,I.tok _,rz,q1 j Mg⟩
   have J:bi kvs k=none:=by
    have:=G.val k;rw[hn]at this;cases q:bi kvs k with
    | none=>rfl
    | some j=>rw[q]at this;cases this
   have U:∃q,h'.get? a=some q:=Y.elim λq a0=>a0.elim λ_ a1=>a1.elim λ_ a2=>a2.elim λhq _=>⟨q,hq⟩;have O:=G.put k r3;rw[El _ J]at O;refine⟨y,_,vg I (ob:=.dK (cx kvs k y)) (by rw[e];exact True.intro) hs U ?_,r3,q2 J⟩;rw[El _ J];refine vh (by rw[bI];simp;omega) hd ?_ Y;have e2:∀b,stored vs k b=vs++[(k,b)]:=by
    intro b;unfold stored;rw[ah];rw[sk];rintro⟨kv,tN,U⟩;have:valueAt vs k≠none:=by
     unfold valueAt;rw[Ne,aqx,VD];exact λz=>z kv tN U
    exact this hn
   rw[e2]at O;exact O
theorem acw{k:ao}{v:Value}(h:o4 k v=true):RelV (kV k) v:=by
 rcases i9 h with⟨i,t,rfl,rfl⟩ | ⟨x,t,rfl,rfl⟩
 . exact⟨t,rfl⟩
 exact⟨t,rfl⟩
theorem AR:∀{us:Lw}{ys:Ls},StrsAre us ys->bc (ys.map V.str) us
 | _,_,.nil=>.nil
 | _,_,.cons x t r=>.cons ⟨t,rfl⟩ (AR r)
section
variable {s:Shared}
theorem Mh{r:Addr}{Q:VP}(U:wpAny (model prog w) A.in1 (collect (.ref r)) (λus s'=>∃(ys:Ls) (h':Heap) (tk:Nat),s'={ s with heap:=h',toks:=tk }/\StrsAre us ys/\us.length<64 /\
 ∀(h2:Heap) (out:Lw) (j:Ls) (e:Nat),(∀b o,h'.get? b=some o->h2.get? b=some o)->h2.get? h'.objs.size=some (seqObj "list" out.toArray e)->StrsAre out j->j.Perm ys->sortedS j=true->Q (.ref h'.objs.size) { s with heap:=h2,toks:=tk }) E s) :
 wpAny (model prog w) A (call (.builtin "sorted") [.ref r]) Q E s:=by
 refine aqy kind_sorted plain_sorted entry_sorted (args_sorted1 _) ?_;unfold Builtin.«sorted»;refine af (m:=checkCount "sorted" 1 1 _) (au ?_);refine af (eV U (λus s' a5=>a5.elim λys a6=>a6.elim λh' a7=>a7.elim λtk a0=>a0.elim λes a3=>a3.elim λz a4=>a4.elim λqR a8=>?_) λ_ _ e=>e);subst es;refine af (VE ?_ (by rw[uN];omega));have G:(h'.push (seqObj "list" us.toArray 0)).get? h'.objs.size=some (seqObj "list" us.toArray 0):=dA _ rfl;show wpAny _ _ _ _ _ { s with heap:=h'.push (seqObj "list" us.toArray 0),toks:=tk };refine af (jT (rX slot_list_sort ⟨_,G,rfl⟩ entry_list_sort (list_sort_treeK strKind_oneLt G z.keysOf (λv₁ v₂ rest e=>keyKind_strs (by rw[<-e];exact z)) qR λJ Y a2=>⟨_,rfl,?_⟩) (args_list_sort _)));obtain⟨j,h1,h2,h3⟩:=sorted_out_str z Y a2;obtain⟨e,he⟩:=sortedHeap_at (vs:=us) (out:=(arrOf J).map (·.2)) G;refine au ⟨_,rfl,a8 _ ((arrOf J).map (·.2)).toList j e (λb o q=>?_) (by rw[Jt];exact he) h1 h2 h3⟩;have O:=bK q;rw[sortedHeap_old (cX O) (by rw[rZ];exact VF O)];exact b9 _ q
end
theorem EM{Z:St}{H:Hp}{s:Shared}{h' h2:Heap}{tk e:Nat}{out:Lw}{j:Ls}(I:Inv X ad Z H { s with heap:=h',toks:=tk })(k:∀b o,h'.get? b=some o->h2.get? b=some o)
 (G:h2.get? h'.objs.size=some (seqObj "list" out.toArray e)) (z:StrsAre out j) (J:j.length<=sizeLine):Inv X ad Z (ag H h'.objs.size (.lst (j.map V.str))) { s with heap:=h2,toks:=tk }:=
 I.laid (s:={ s with heap:=h',toks:=tk }) (t':=tk) k (aK _) ⟨by rw[ak];exact J,out,e,AR z,G⟩
theorem acD:fh X (.builtin "sorted") (λxs H Q=>∃p ys,xs=[.ref p]/\aa X.K H p (ys.map V.str)/\ys.length<64/\∀j,j.Perm ys->sortedS j=true->dL H (.lst (j.map V.str)) Q):=by
 intro ad s Z H xs us Q I r h;obtain⟨p,ys,rfl,Y,qR,q⟩:=h;obtain⟨u,rfl,ru⟩:=vals1 r;cases ru;obtain⟨b_,rv,ht,hz⟩:=I.list Y;have G:StrsAre b_ ys:=Mb rv;have a0:=Dl G;refine sorted_strs ht.isList G (by omega) λout j J z O=>?_;obtain⟨e,U⟩:=sortedAll_at s.heap b_ out;have hl:=z.length_eq;refine⟨.ref (s.heap.objs.size+1),_,I.laid (t':=s.toks) (a:=s.heap.objs.size+1) (o:=.lst (j.map V.str)) (λb o q=>sortedAll_old q) (qr _) ⟨by rw[ak];exact j8 (by omega),out.toList,e,AR J,by rw[Jt];exact U⟩,rfl,?_⟩;exact(q j z O).at _ (I.hok.fresh (qr _))
def pN(kvs:List (ao×V))(ks:Ls):Prop:=kvs.map (·.1)=ks.map Sum.inr
theorem AS{ks:Ls}(h:pN kvs ks){vs:List (ao×Value)}(O:KV kvs vs){us:Lw}(G:us.length=vs.length)(J:∀(j:Nat) (v:Value),us[j]?=some v->∃k x,vs[j]?=some (k,x)/\(cf X.prog X.w).is k v=true):StrsAre us ks:=by
 induction us generalizing kvs vs ks with
 | nil=>
  have:vs=[]:=wP.mp G.symm;subst this;cases O;unfold pN at h;cases ks with
  | nil=>exact .nil
  | cons a b=>cases h
 | cons u us ih=>
  cases O with
  | nil=>cases G
  | @cons p q ps qs r rr=>
   cases ks with
   | nil=>cases h
   | cons a ks=>
    unfold pN at h;rw[bV,bV]at h;injection h with h1 h2
    obtain⟨k,x,e,z⟩:=J 0 u rfl;have e:q=(k,x):=gw e;have Y:p.1=k:=by rw[r.1,e]
    have z:o4 k u=true:=z;rw[<-Y,h1]at z
    rcases i9 z with⟨i,t,e1,e2⟩ | ⟨x',t,e1,e2⟩
    . cases e1
    cases e1;subst e2;exact .cons _ _ (ih h2 rr (by simpa using G) λj v U=>J (j+1) v (by simpa using U))
theorem AT(hc:X.calm=true):fh X (.builtin "sorted") (λxs H Q=>∃d kvs ks,xs=[.ref d]/\H d=some (.dK kvs)/\pN kvs ks/\kvs.length<64/\∀G,G.Perm ks->sortedS G=true->dL H (.lst (G.map V.str)) Q):=by
 intro ad s Z H xs us Q I r h;obtain⟨d,kvs,ks,rfl,e,qS,qR,q⟩:=h;obtain⟨u,rfl,ru⟩:=vals1 r;cases ru;obtain⟨z,hd,vs,a0,dd⟩:=iS I.hok e;obtain⟨ep,jB⟩:=dd.dictAt;have a1:=a0.length;refine Mh (W.kdu_collect (W.kdl_dict (knd:=cf X.prog X.w) (kvs:=vs) (ep:=ep) hd) (I.ok.hd hc) jB (by omega) λh' tk U hk J=>?_);have hS:StrsAre U.toList ks:=AS (X:=X) qS a0 (by rw[dW];exact J.1) λj v hj=>J.2 j v (by rw[<-oW];exact hj);have tD:U.toList.length=vs.length:=by rw[dW];exact J.1
 have O:Inv X ad Z H { s with heap:=h',toks:=tk }:=I.kept hk;refine⟨ks,h',tk,rfl,hS,by omega,λh2 out G e' k2 he ib Y tM=>?_⟩;have hl:=Y.length_eq;have EN:=Dl hS;exact⟨.ref h'.objs.size,_,EM O k2 he ib (j8 (by omega)),rfl,(q G Y tM).at _ (O.hok.fresh (aK _))⟩
def acE:V->ae->Hp->VK->Prop:=λx vs H Q=>∃d kvs,x=.ref d/\vs=[]/\H d=some (.dK kvs)/\∀p H',H p=none->ac H H'->H' p=some (.ext λh=>W.KdlKeysView h p d)->Q (.ref p) H'
theorem acF:nV X "dict.keys" acE:=by
 intro ad s Z H x xs v us Q I U O h;obtain⟨d,kvs,rfl,rfl,e,q⟩:=h;cases U;cases O;obtain⟨z,hd,vs,Y,dd⟩:=iS I.hok e;refine wM aqz dd.typeIs PySem.F.entry_dict_keys (PySem.F.args_dict_keys_1 _) (W.kdl_meets_keys (cf X.prog X.w) d hd) ⟨⟨vs,dd⟩,?_⟩;have G:=I.hok.fresh (aK s.heap.objs.size);have j:(s.heap.push { cls:=.type "dict_keys",data:=.fields #[.ref d] }).get? s.heap.objs.size=some { cls:=.type "dict_keys",data:=.fields #[.ref d] }:=dA _ rfl;refine⟨.ref s.heap.objs.size,_,I.laid (t':=s.toks) (a:=s.heap.objs.size) (o:=.ext λh=>W.KdlKeysView h s.heap.objs.size d) (λb ob q=>b9 _ q) (aK _) ⟨⟨_,j,rfl,rfl⟩,⟨_,j⟩,?_⟩,rfl,q _ _ G (fC G) aD⟩;rintro h1 h2 ⟨o,J,c1,c2⟩ k;exact⟨o,k o J,c1,c2⟩
theorem acG(hc:X.calm=true):fh X (.builtin "sorted") (λxs H Q=>∃p d kvs ks,xs=[.ref p]/\H p=some (.ext λh=>W.KdlKeysView h p d)/\H d=some (.dK kvs)/\pN kvs ks/\kvs.length<64/\∀G,G.Perm ks->sortedS G=true->dL H (.lst (G.map V.str)) Q):=by
 intro ad s Z H xs us Q I r h;obtain⟨p,d,kvs,ks,rfl,qF,e,qS,qR,q⟩:=h;obtain⟨u,rfl,ru⟩:=vals1 r;cases ru;obtain⟨z,hd,vs,a0,dd⟩:=iS I.hok e;obtain⟨ep,jB⟩:=dd.dictAt;have hv:W.KdlKeysView s.heap p d:=(show cb X.prog X.w H s.heap p (.ext λh=>W.KdlKeysView h p d) from I.hok p _ qF).1;have a1:=a0.length;refine Mh (W.kdu_collect (W.kdl_keys (knd:=cf X.prog X.w) (r:=p) (d:=d) (kvs:=vs) (ep:=ep)) (I.ok.hd hc) ⟨hv,jB⟩ (by omega) λh' tk U hk J=>?_);have hS:StrsAre U.toList ks:=AS (X:=X) qS a0 (by rw[dW];exact J.1) λj v hj=>J.2 j v (by rw[<-oW];exact hj);have tD:U.toList.length=vs.length:=by rw[dW];exact J.1
 have O:Inv X ad Z H { s with heap:=h',toks:=tk }:=I.kept hk;refine⟨ks,h',tk,rfl,hS,by omega,λh2 out G e' k2 he ib Y tM=>?_⟩;have hl:=Y.length_eq;have EN:=Dl hS;exact⟨.ref h'.objs.size,_,EM O k2 he ib (j8 (by omega)),rfl,(q G Y tM).at _ (O.hok.fresh (aK _))⟩
theorem Mi(hc:X.calm=true):fh X (.type "list") (λxs H Q=>∃d kvs ks,xs=[.ref d]/\H d=some (.dK kvs)/\pN kvs ks/\dL H (.lst (ks.map V.str)) Q):=by
 intro ad s Z H xs us Q I r h;obtain⟨d,kvs,ks,rfl,e,qS,q⟩:=h;obtain⟨u,rfl,ru⟩:=vals1 r;cases ru;obtain⟨z,hd,vs,U,dd⟩:=iS I.hok e;obtain⟨ep,jB⟩:=dd.dictAt;have a0:=U.length;refine W.kdl_call (W.kdl_dict (knd:=cf X.prog X.w) (kvs:=vs) (ep:=ep) hd) (I.ok.hd hc) jB (by omega) λh' tk G c hk Y J=>?_;have O:StrsAre G.toList ks:=AS (X:=X) qS U (by rw[dW];exact J.1) λj v hj=>J.2 j v (by rw[<-oW];exact hj);have tD:G.toList.length=vs.length:=by rw[dW];exact J.1
 have EN:=Dl O;exact⟨.ref s.heap.objs.size,_,I.laid (t':=tk) (a:=s.heap.objs.size) (o:=.lst (ks.map V.str)) (λb o q=>hk b o q) (aK _) ⟨by rw[ak];omega,G.toList,c,AR O,by rw[Jt];exact Y⟩,rfl,q.at _ (I.hok.fresh (aK _))⟩
theorem acH{Z:St}{H:Hp}{s:Shared}(hu:X.A.units+65<cLine)(I:Inv X ad Z H s){x:V}{v:Value}{xs:ae}{us:Lw}{d:W.Dat}{ds:List W.Dat}(rx:RelV x v)(O:bc xs us)(hd:DV X.K H x d)(J:iw X.K H xs ds)(od:W.kqdOk 9 d=true)(Y:∀e∈ds,W.kqdOk 9 e=true) :
 ∃e:Value->Bool,(∀y∈us.toArray,SeqAt.EqAt X.A.in1 s y v (e y))/\(us.toArray.any e=true↔d∈ds):=by
 obtain⟨as,ra⟩:=hd.reads I rx
 classical
 have a0:∀{xs:ae}{us:Lw}{ds:List W.Dat},bc xs us->iw X.K H xs ds->∀y∈us,∃e∈ds,∃bs,Reads s.heap y (W.kqdP e) bs:=by
  intro xs us ds O
  induction O generalizing ds with
  | nil=>intro _ y j;cases j
  | cons r rr ih=>
   intro J y j;cases J with
   | cons q qs=>
    rcases bf.mp j with e | e
    . subst e;obtain⟨bs,z⟩:=q.reads I r;exact⟨_,bH,bs,z⟩
    obtain⟨e',j9,z⟩:=ih qs y e;exact⟨e',bR _ j9,z⟩
 have a1:∀{xs:ae}{us:Lw}{ds:List W.Dat},bc xs us->iw X.K H xs ds->∀e∈ds,∃y∈us,∃bs,Reads s.heap y (W.kqdP e) bs:=by
  intro xs us ds O
  induction O generalizing ds with
  | nil=>intro h e G;cases h;cases G
  | cons r rr ih=>
   intro J e G;cases J with
   | cons q qs=>
    rcases bf.mp G with z | z
    . subst z;obtain⟨bs,w⟩:=q.reads I r;exact⟨_,bH,bs,w⟩
    obtain⟨y,j,w⟩:=ih qs e z;exact⟨y,bR _ j,w⟩
 refine⟨λy=>decide (∃bs,Reads s.heap y (W.kqdP d) bs),λy j=>?_,?_⟩
 . obtain⟨e,G,bs,U⟩:=a0 O J y (by simpa using j);have x1:=W.keq_at (A:=X.A) U ra (qK (Y e G)) (qK od) (by show X.A.units+1+64<cLine;omega);have hb:(PyData.eqv (W.kqdP e) (W.kqdP d)=true)↔e=d:=wO 9 e d 9 (Y e G) od;have lC:PyData.eqv (W.kqdP e) (W.kqdP d)=decide (∃bs,Reads s.heap y (W.kqdP d) bs):=by
    by_cases z:e=d
    . rw[hb.mpr z];subst z;exact(bE ⟨bs,U⟩).symm
    rw[sj.mpr λw=>z (hb.mp w)];refine(cu ?_).symm;rintro⟨vq,EO⟩;have l:=W.kqd_lay 9 e (Y e G);have eq:=(U.unique _ _ EO).1;have:PyData.eqv (W.kqdP e) (W.kqdP d)=true:=by
     rw[eq];exact(wO 9 d d 9 od od).mpr rfl
    exact z (hb.mp this)
   rw[lC]at x1;exact x1
 constructor
 . intro h;rw[List.any_toArray,sk]at h;obtain⟨y,j,hz⟩:=h;obtain⟨vq,EO⟩:=cT hz;obtain⟨e,G,bs,U⟩:=a0 O J y j;have eq:=(U.unique _ _ EO).1;have:PyData.eqv (W.kqdP e) (W.kqdP d)=true:=by
    rw[eq];exact(wO 9 d d 9 od od).mpr rfl
   rw[<-(wO 9 e d 9 (Y e G) od).mp this];exact G
 intro h;obtain⟨y,j,z⟩:=a1 O J d h;rw[List.any_toArray,sk];exact⟨y,j,bE z⟩
def acJ(K:Fg)(j:Bool):R2:=λx y H Q=>∃p xs d ds,y=.ref p/\aa K H p xs/\DV K H x d/\iw K H xs ds/\W.kqdOk 9 d=true/\(∀e∈ds,W.kqdOk 9 e=true)/\∀b:Bool,(b=true↔d∈ds)->Q (.bl (if j then !b else b)) H
theorem acK(J:X.A.units+65<cLine):cw X (compareOp .NotIn) (acJ X.K true):=by
 intro ad s Z H x y v u Q I U Y h;obtain⟨p,xs,d,ds,rfl,G,hd,O,od,vp,q⟩:=h;cases Y;obtain⟨b_,r,pl,hz⟩:=I.list G;obtain⟨e,z,j⟩:=acH J I U r hd O od vp;exact SeqAt.notIn_listAt e pl.isList z ⟨.bl _,H,I,rfl,q _ j⟩
def xL(o:Obj):Nat:=match o.data with
 | .dict _ ep=>ep
 | _=>0
def Mj(d:Addr)(kvs:List (ao×V))(o:Obj):It:=
 ⟨λi H=>H d=some (.frz o (.dK kvs))/\i<kvs.length,λi H x H'=>∃k v p,kvs[i]?=some (k,v)/\H p=none/\x=.ref p/\H'=ag H p (.tup [kV k,v]),λi H=>H d=some (.frz o (.dK kvs))/\kvs.length<=i⟩
theorem Ml{P:Program}{H:Hp}{h:Heap}(ok:cC P w H h)(e:H d=some (.frz o (.dK kvs))):∃vs,KV kvs vs/\h.DictAt (cf P w) d vs (xL o)/\(d == sysModules)=false:=by
 obtain⟨j,_,hd,vs,O,o',es,ep,z,J,G,r⟩:=(show cb P w H h d (.frz o (.dK kvs)) from ok d _ e);rw[j]at z;cases z;refine⟨vs,O,⟨o,es,j,J,?_,r⟩,hd⟩;unfold xL;rw[G]
theorem acL{vs:List (ao×Value)}(r:KV kvs vs){i:Nat}{k:ao}{v:V}(h:kvs[i]?=some (k,v)):∃u,vs[i]?=some (k,u)/\RelV v u:=by
 unfold KV at r
 induction r generalizing i with
 | nil=>simp at h
 | @cons p q ps G j J z=>
  cases i with
  | zero=>
   simp at h;subst h;obtain⟨a,b⟩:=q;exact⟨b,by simp;exact j.1.symm,j.2⟩
  | succ i=>exact z (by simpa using h)
theorem acM:entryFor table "dict_itemiterator.__iter__"=some Builtin.«dict_keyiterator.__iter__»:=
 Ju (id':="dict_keyiterator.__iter__") (by kernel_rfl) rfl (by decide +kernel) (by kernel_rfl)
theorem acN{s:Shared}{it:Addr}{i n ep:Nat}{ok G:Value}{Q:VP}(z:IsItemIter s.heap it d i n ep ok G)(h:Q (.ref it) s):wpAny (model prog w) A (pyIter (.ref it)) Q E s:=by
 have j:s.TypeIs (.ref it) "dict_itemiterator":=⟨_,z,rfl⟩;refine VG j aqA (rX aqA j acM ?_ (PySem.F.args_dict_itemiterator_iter_1 _));show wpAny _ _ (ret (.ref it)) _ _ s;exact au ⟨_,rfl,"dict_itemiterator",_,j,PySem.F.slot_dict_itemiterator_next.lookup,h⟩
theorem acO{P:Program}{K:Fg}(d it:Addr)(kvs:List (ao×V))(o:Obj):pi P w K (.Tuple elts x1 pos) (Mj d kvs o) [it] it (λi h=>∃ok G,IsItemIter h it d i kvs.length (xL o) ok G) where
 mem:=by simp
 obj:=λi h st b j=>by
  have e:b=it:=by simpa using j
  subst e;obtain⟨ok,G,st⟩:=st;exact⟨_,st,λv z=>by
   have z':Data.fields _=Data.cell v:=z;cases z'⟩
 keep:=λi h h' a1 k=>a1.elim λok a2=>a2.elim λG st=>⟨ok,G,k it (by simp) _ st⟩
 item:=by
  intro X hP hw hK hc i ad s Z H E I hf st hg;subst hP hw hK;obtain⟨ok,G,st⟩:=st;obtain⟨hd,aT⟩:=hg;obtain⟨J,f1,f2,f3,f4,f5⟩:=hf it (by simp);obtain⟨vs,U,jB,hS⟩:=Ml I.hok hd;have O:=U.length;obtain⟨kv,tN⟩:∃kv,kvs[i]?=some kv:=⟨_,gX aT⟩;obtain⟨k,v⟩:=kv;obtain⟨u,hu,ru⟩:=acL U tN;rw[O]at st;refine wpAny_pyNext_items_item st jB hu λa0 h1 kY a3 EQ hsz fJ=>⟨.ref s.heap.objs.size,rfl,?_⟩;refine wpAny_letOwnedTupleGo_items a3 λh2 fg Y=>?_;have AV:it<s.heap.objs.size:=bK st;have Y:Heap.SameBut it h1 h2:=Y;have I1:Inv X ad Z H { s with heap:=h2 }:=I.turned (t':=s.toks) (λb ob j e=>(Y.2 b j).trans (fJ b ob j e)) J f1 f3 f4 f5;have hn:H s.heap.objs.size=none:=I.hok.fresh (aK _);have fp:=I.fpOk (H':=H) (aK _) hn;have tF:h2.get? s.heap.objs.size=some { cls:=.type "tuple",data:=.seq #[a0,u] }:=(Y.2 _ (kN AV)).trans EQ;have I2:Inv X ad Z (ag H s.heap.objs.size (.tup [kV k,v])) { s with heap:=h2 }:=by
   refine I1.track hn I.sz fp.2.1 fp.2.2.2.2.1 fp.2.2.2.2.2 ?_;exact⟨by show 2<=sizeLine;decide,[a0,u],.cons (acw kY) (.cons ru .nil),_,tF,rfl,0,rfl⟩
  refine⟨.ref s.heap.objs.size,_,I2,rfl,⟨k,v,_,tN,hn,rfl,rfl⟩,⟨a0,u,by rw[O];exact fg⟩,λb j=>?_⟩;have e:b=it:=by simpa using j
  subst e;rw[bg (cX AV)];exact J
 done:=by
  intro X hP hw hK hc i ad s Z H E I hf st hg;subst hP hw hK;obtain⟨ok,G,st⟩:=st;obtain⟨hd,a6⟩:=hg;obtain⟨J,f1,f2,f3,f4,f5⟩:=hf it (by simp);obtain⟨vs,U,jB,hS⟩:=Ml I.hok hd;have O:=U.length;rw[O]at st;exact wpAny_pyNext_items_end (I.ok.hd hc) st jB (by rw[List.getElem?_eq_none_iff];omega) λh' eb=>⟨rfl,I.turned (t':=s.toks) (λb o j e=>eb b o j e) J f1 f3 f4 f5⟩
 self:=λ_ _ _ _ _ a4 h=>a4.elim λok a5=>a5.elim λG st=>acN st h
theorem PE.weak{t:TE}(h:PE X e t):PE X e (λZ H Q=>∃j:VK,t Z H j/\∀v H,j v H->Q v H):=by
 intro ad s Z H Q I ⟨j,q,w⟩;exact L2.thn (h ad s Z H _ I q) λu U G=>ba G λv H1 z O J=>⟨v,H1,z,O,w _ _ J⟩
theorem PG.weak{g:TG}(h:PG X e g):PG X e (λx Z H Q=>∃j:St->Hp->Prop,g x Z H j/\∀Z H,j Z H->Q Z H):=by
 intro ad s Z H v u Q I r ⟨j,q,w⟩;exact L2.thn (h ad s Z H v u _ I r q) λ_ Y G=>G.elim λσ1 J=>J.elim λH1 O=>O.elim λz U=>⟨σ1,H1,z,w _ _ U⟩
theorem bW.weak{b:List Stmt}{t:TS}(h:bW X b t):bW X b (λD Z H=>∃z:Ends,t z Z H/\(∀Z H,z.nx Z H->D.nx Z H)/\(∀v H,z.rt v H->D.rt v H)/\(∀Z H,z.bk Z H->D.bk Z H)/\∀Z H,z.ct Z H->D.ct Z H):=by
 intro ad s Z H D I ⟨z,q,J,O,U,Y⟩;refine L2.thn (h ad s Z H z I q) λf s1 j=>?_;cases f with
 | next=>obtain⟨σ1,H1,G,j⟩:=j;exact⟨σ1,H1,G,J _ _ j⟩
 | ret v=>obtain⟨x,σ1,H1,G,r,j⟩:=j;exact⟨x,σ1,H1,G,r,O _ _ j⟩
 | brk=>obtain⟨σ1,H1,G,j⟩:=j;exact⟨σ1,H1,G,U _ _ j⟩
 | cont=>obtain⟨σ1,H1,G,j⟩:=j;exact⟨σ1,H1,G,Y _ _ j⟩
theorem acY{o:Expr}{vd apos cO:Pos}{td:TE}(ho:PE X o td)(pE:attributeBase o "items" X.env (eval o X.env)=eval o X.env:=by rfl)(pF:(apos.endLine == cO.line)=true:=by rfl) :
 PI X (.Tuple elts x1 vd) (.Call (.Attribute o "items" apos) [] [] cO) (λZ H R=>td Z H λx H1=>∃d kvs,x=.ref d/\H1 d=some (.dK kvs)/\∀ob,(∀o' u,X.H₀ d≠some (.frz o' u))->R (Mj d kvs ob) (ag H1 d (.frz ob (.dK kvs)))):=by
 intro ad s Z H R I h;refine aqp pE pF (thn (ho ad s Z H _ I h) λv j a4=>ba a4 λx H1 J r1 a0=>a0.elim λd a1=>a1.elim λkvs a2=>a2.elim λe a3=>a3.elim λG q=>?_);subst e;cases r1;obtain⟨z,hd,vs,a7,dd⟩:=iS J.hok G;obtain⟨h1,h2⟩:=Ei J (x:=.ref d) rfl (T:="dict") (.inr (.inr (.inl ⟨rfl,.inl ⟨kvs,G⟩⟩)));refine⟨"dict","dict.items",zM,aqB,PySem.F.type_dict_items,h1,h2,Dh rfl (PySem.evalArgs_none ?_)⟩;refine wM aqB dd.typeIs PySem.F.entry_dict_items (PySem.F.args_dict_items_1 _) (meets_dict_items (cf X.prog X.w) d hd) ⟨⟨vs,dd⟩,?_⟩;have xM:=dd.push { cls:=.type "dict_items",data:=.fields #[.ref d] };obtain⟨ob,es,ep,qD,hc,U,rest⟩:=id xM;have jB:(j.heap.push { cls:=.type "dict_items",data:=.fields #[.ref d] }).DictAt (cf X.prog X.w) d vs ep:=⟨ob,es,qD,hc,U,rest⟩;have O:Inv X ad Z H1 { j with heap:=j.heap.push { cls:=.type "dict_items",data:=.fields #[.ref d] } }:=J.kept (t':=j.toks) λb o e=>b9 _ e;refine wpAny_pyIter_items (s:={ j with heap:=j.heap.push { cls:=.type "dict_items",data:=.fields #[.ref d] } }) ⟨_,dA _ rfl,rfl,rfl⟩ jB ?_;have a5:xL ob=ep:=by unfold xL;rw[U]
 have a6:=a7.length;have I3:Inv X ad Z H1 { j with heap:=(j.heap.push { cls:=.type "dict_items",data:=.fields #[.ref d] }).push { cls:=.type "dict_itemiterator",data:=.fields #[.none,.bool false,.ref d,.int 0 0,.int vs.length 0,.int ep 0,.none,.none] } }:=
  O.kept (t':=j.toks) λb o e=>b9 _ e
 have Y:=O.hok.fresh (aK (j.heap.push { cls:=.type "dict_items",data:=.fields #[.ref d] }).objs.size);have hz:∀o' u,X.H₀ d≠some (.frz o' u):=λo' u hq=>by
  have:=J.base.frzs d o' u hq;rw[G]at this;cases this
 refine⟨_,[_],_,_,_,rfl,I3.freeze G (b9 _ qD),acO d _ kvs ob,⟨.none,.none,?_⟩,λb hb=>?_,q ob hz⟩
 . show Heap.get? _ _=_;rw[a5,a6];exact dA _ rfl
 have e:b=(j.heap.push { cls:=.type "dict_items",data:=.fields #[.ref d] }).objs.size:=by simpa using hb
 subst e;refine O.fpOk (aK _) ?_;rw[bg (gy (aO G Y))];exact Y
def ac5(td:TE)(g:TG)(tb:TS):TS:=λD Z H=>td Z H λx H1=>∃d kvs,x=.ref d/\H1 d=some (.dK kvs)/\∀ob,∃W:Nat->Nat->St->Hp->Prop,(∃m,W 0 m Z (ag H1 d (.frz ob (.dK kvs))))/\∀i m Z H,W i m Z H ->
 H d=some (.frz ob (.dK kvs))/\((kvs.length<=i/\D.nx Z (ag H d (.dK kvs)))\/(i<kvs.length/\∃N:St->Hp->Prop,(∀σ' H',N σ' H'->∃m',m'<m/\W (i+1) m' σ' H') /\
  ∀k v p,kvs[i]?=some (k,v)->H p=none->g (.ref p) Z (ag H p (.tup [kV k,v])) λσ2 H2=>
   tb { nx:=N,ct:=N,bk:=λσ' H'=>H' d=some (.frz ob (.dK kvs))/\D.nx σ' (ag H' d (.dK kvs)),rt:=λj H'=>H' d=some (.frz ob (.dK kvs))/\D.rt j (ag H' d (.dK kvs)) } σ2 H2))
theorem AW{o:Expr}{vd apos cO:Pos}{td:TE}{g:TG}{tb:TS}{body:List Stmt}(G:PassesOwn (model X.prog X.w) X.A X.env X.xe)(hc:X.calm=true)(ho:PE X o td)(hg:PG X (.Tuple elts x1 vd) g)(hb:bW X body tb)
 (pE:attributeBase o "items" X.env (eval o X.env)=eval o X.env:=by rfl) (pF:(apos.endLine == cO.line)=true:=by rfl) (hs:∀x,foldedSetIterable (.Call (.Attribute o "items" apos) [] [] cO) X.env x=pure x:=by intro _;rfl) :
 PS X (.For (.Tuple elts x1 vd) (.Call (.Attribute o "items" apos) [] [] cO) body [] pos) (ac5 td g tb):=by
 intro ad s Z H D I h;refine thn (eO (X:=X) G hc (acY ho.weak pE pF) hg.weak hb.weak hs ad s Z H
  { nx:=λσ' H'=>∃d kvs ob,H' d=some (.frz ob (.dK kvs))/\(∀o' u,X.H₀ d≠some (.frz o' u))/\D.nx σ' (ag H' d (.dK kvs)),rt:=λJ H'=>∃d kvs ob,H' d=some (.frz ob (.dK kvs))/\(∀o' u,X.H₀ d≠some (.frz o' u))/\D.rt J (ag H' d (.dK kvs)) } I ?_) λf s' q=>?_
 . refine⟨_,h,λx H1 U=>U.elim λd Y=>Y.elim λkvs a0=>a0.elim λe a1=>a1.elim λed q=>⟨d,kvs,e,ed,λob hz=>?_⟩⟩;obtain⟨W,w0,ab⟩:=q ob;refine⟨W,w0,λi m Z H hw=>?_⟩;obtain⟨hd,c | ⟨O,N,hN,step⟩⟩:=ab i m Z H hw
   . exact .inl ⟨⟨hd,c.1⟩,d,kvs,ob,hd,hz,c.2⟩
   refine .inr ⟨⟨hd,O⟩,N,hN,λx H' a2=>a2.elim λk a3=>a3.elim λv a4=>a4.elim λp a5=>a5.elim λhk a6=>a6.elim λG a7=>a7.elim λe eH=>?_⟩;subst e eH;exact⟨_,step k v p hk G,λσ2 H2 q2=>⟨_,q2,λ_ _ z=>z,λJ H' a8=>a8.elim λa b=>⟨d,kvs,ob,a,hz,b⟩,λσ' H' a9=>a9.elim λa b=>⟨d,kvs,ob,a,hz,b⟩,λ_ _ z=>z⟩⟩
 cases f with
 | next=>
  obtain⟨σ',H',j,d,kvs,ob,hd,hz,q⟩:=q;exact⟨σ',_,j.thaw hd hz,q⟩
 | ret v=>
  obtain⟨x,σ',H',j,r,d,kvs,ob,hd,hz,q⟩:=q;exact⟨x,σ',_,j.thaw hd hz,r,q⟩
 | brk=>obtain⟨_,_,_,q⟩:=q;exact q.elim
 | cont=>obtain⟨_,_,_,q⟩:=q;exact q.elim
theorem AX:Slot "set_iterator" "__next__" "set_iterator.__next__":=
 .of (owner:="set_iterator") (n:="__next__") (by rw[VH,VI];kernel_rfl) (by decide +kernel) (by decide +kernel) (by decide +kernel)
  (by first | exact .inl (by decide +kernel) | exact .inr (by decide +kernel)) (by rw[VJ];kernel_rfl)
theorem Mm:Slot "set_iterator" "__iter__" "set_iterator.__iter__":=
 .of (owner:="set_iterator") (n:="__iter__") (by rw[VH,VI];kernel_rfl) (by decide +kernel) (by decide +kernel) (by decide +kernel)
  (by first | exact .inl (by decide +kernel) | exact .inr (by decide +kernel)) (by rw[VJ];kernel_rfl)
theorem adi:entryFor table "set_iterator.__next__"=some Builtin.«set_iterator.__next__»:=entryFor_of_tree (by kernel_rfl)
theorem adj:entryFor table "set_iterator.__iter__"=some Builtin.«dict_keyiterator.__iter__»:=Ju (id':="dict_keyiterator.__iter__") (by kernel_rfl) rfl (by decide +kernel) (by kernel_rfl)
theorem adk:entryFor table "set.__iter__"=some Builtin.«frozenset.__iter__»:=Ju (id':="frozenset.__iter__") (by kernel_rfl) rfl (by decide +kernel) (by kernel_rfl)
theorem Mn:Manifest.owners.lookup (String.ofList ['r','o','t','a','r','e','t','i','_','t','e','s'].reverse)=some Manifest.sig_set_iterator:=by kernel_rfl
theorem adl(a:Value):argsOk "set_iterator.__next__" ⟨[a],[]⟩:=by
 unfold argsOk;rw[signature?_of (id:="set_iterator.__next__") (n:=['_','_','t','x','e','n','_','_']) (o:=['r','o','t','a','r','e','t','i','_','t','e','s']) (by kernel_rfl) Mn];kernel_rfl
theorem adm(a:Value):argsOk "set_iterator.__iter__" ⟨[a],[]⟩:=by
 unfold argsOk;rw[signature?_of (id:="set_iterator.__iter__") (n:=['_','_','r','e','t','i','_','_']) (o:=['r','o','t','a','r','e','t','i','_','t','e','s']) (by kernel_rfl) Mn];kernel_rfl
section
variable {s:Shared}{a it:Addr}{ep:Nat}{t:SetTable}
theorem adn:typeLookup (.type "set") "__len__"=pure (some (.builtin "set.__len__")):=by rw[VH,VI];kernel_rfl
theorem ado{Q:Bool->Shared->Prop}(j:s.TypeIs (.ref a) "set")(h:Q false s):wpAny (model prog w) A (Builtin.List.listLengthHint (.ref a)) Q E s:=by
 unfold Builtin.List.listLengthHint;refine af (zF j adn ?_);generalize G:("set.__len__":String)=J
 wp_delta
 rw[show splitId J=some ("set","__len__") from by subst G;decide +kernel];subst G;refine af (oS (T:="set") (b:=true) j (by rw[VJ];kernel_rfl) ?_);refine VL (λz=>absurd z (by decide)) (λ_=>?_);refine VL (λ_=>?_) (λz=>absurd (by decide +kernel) z);refine af (Jv j ?_);exact au h
end
section
theorem lE:PE X (.Dict [] [] pos) (λ_ H Q=>dL H (.dK []) Q):=λad s Z H Q I h=>aab ad s Z H Q I h.at
theorem adp:PE X (.Dict [] [] pos) (λ_ H Q=>dL H (.dT []) Q):=λad s Z H Q I h=>aac ad s Z H Q I h.at
theorem iU(K:Fg){f:Str}{ta:TE}(z:PE X e ta)(j:attributeBase e f X.env (eval e X.env)=eval e X.env)(h:X.K=K:=by rfl):PE X (.Attribute e f pos) (KD K ta f):=h▸bG z j
def adq:V->ae->Hp->VK->Prop:=λx vs H Q=>∃a b kvs j,x=.ref a/\vs=[.ref b]/\a≠b/\H a=some (.dK kvs)/\H b=some (.dK j)/\kvs.length+j.length<=sizeLine/\Q .non (ag H a (.dK (mC kvs j)))
theorem adr:nV X "dict.update" adq:=by
 intro ad s Z H x xs v us Q I rx rs h;obtain⟨a,b,kvs,a2,rfl,rfl,jW,G,eb,J,q⟩:=h;cases rx;cases rs with
 | cons r1 r2=>
  cases r2;cases r1;obtain⟨z,hd,vs,O,dd⟩:=iS I.hok G;obtain⟨z',jd,ws,U,gi⟩:=iS I.hok eb;refine wM aqC dd.typeIs PySem.F.entry_dict_update (PySem.F.args_dict_update_2 _ _) (meets_dict_update (cf X.prog X.w) a b jW jd) ⟨vs,ws,dd,gi,by rw[<-O.length,<-U.length];exact J,λh' j _ hs=>?_⟩;have he:∃q,h'.get? a=some q:=j.elim λq Y=>Y.elim λ_ a0=>a0.elim λ_ a1=>a1.elim λhq _=>⟨q,hq⟩;exact⟨.non,_,vg I (ob:=.dK (mC kvs a2)) (by rw[G];exact True.intro) hs he (vh (cn (Eo _ _) J) hd (U.merge O) j),rfl,q⟩
theorem adv(O:X.A.units<cLine):cw X (compareOp .NotEq) (λx y H Q=>∃a b kvs,x=.ref a/\y=.ref b/\H a=some (.dK kvs)/\H b=some (.dK [])/\Q (.bl (!kvs.isEmpty)) H):=by
 intro ad s Z H x y v u Q I rx ry h;obtain⟨a,b,kvs,rfl,rfl,z,G,q⟩:=h;cases rx;cases ry;obtain⟨_,hd,vs,Y,dd⟩:=iS I.hok z;obtain⟨_,U,lF,tO,J⟩:=iS I.hok G;cases tO;refine W.keq_ne (knd:=cf X.prog X.w) (r:=true) hd U dd J O (λe=>?_) ⟨.bl _,H,I,rfl,?_⟩
 . have:vs=[]:=wP.mp e;subst this;exact .nil
 have j:=Y.length;have e:(vs.length == ([]:List (ao×Value)).length && true)=kvs.isEmpty:=by
  cases kvs with
  | nil=>rw[<-j];rfl
  | cons p r=>rw[<-j];rfl
 rw[e];exact q
theorem adw(x:Str):Str.empty++x=x:=by
 obtain⟨c⟩:=x;show(⟨#[]++c⟩:Str)=⟨c⟩;rw[Array.empty_append]
variable {e1 e2:Expr}{te t1 t2:TE}
inductive Mp (Q:VK) (H1:Hp):V->Prop where
 | mk {y:Str} (_:y.length<=sizeLine) (_:Q (.str y) H1):Mp Q H1 (.str y)
def adx(te:TE):TE:=λZ H Q=>te Z H λx H1=>Mp Q H1 x
theorem xN(J:PE X e te):PE X (.FormattedValue e (-1) none pos) (adx te):=by
 intro ad s Z H Q I h;refine FormattedValue_plain (thn (J ad s Z H _ I h) λv Y G=>ba G λx H1 z U j=>?_);obtain @⟨y,O,q⟩:=j;obtain⟨t,rfl⟩:=U;exact formatField_str (λt' tk=>⟨.str y,H1,z.tok _,⟨_,rfl⟩,q⟩) O
inductive Mq (t2:TE) (Z:St) (Q:VK) (H1:Hp):V->Prop where
 | mk {x:Str} (_:x.length<=sizeLine) (_:t2 Z H1 λb H2=>∃y,b=.str y/\x.length+y.length<=sizeLine/\Q (.str (x++y)) H2):Mq t2 Z Q H1 (.str x)
def adz(t1 t2:TE):TE:=λZ H Q=>t1 Z H λa H1=>Mq t2 Z Q H1 a
theorem xO(h1:PE X e1 t1)(h2:PE X e2 t2):PE X (.JoinedStr [e1,e2] pos) (adz t1 t2):=by
 intro ad s Z H Q I h;refine JoinedStr_many (joinParts_cons (thn (h1 ad s Z H _ I h) λv j O=>ba O λa H1 G r1 z=>?_));obtain @⟨x,hx,q1⟩:=z;obtain⟨t,rfl⟩:=r1;show(Str.empty++x).length<=sizeLine/\wpAny _ _ (joinParts (Str.empty++x) (eval e2 X.env::evalEach [] X.env)) _ _ j;rw[adw];refine⟨hx,joinParts_cons (thn (h2 ad j Z H1 _ G q1) λv s2 U=>ba U λb H2 J r2 a0=>?_)⟩;obtain⟨y,Y,hl,q2⟩:=a0;subst Y;obtain⟨t',rfl⟩:=r2;have hz:(x++y).length<=sizeLine:=by rw[jk];exact hl
 exact⟨hz,joinParts_nil ⟨.str (x++y),H2,J.tok _,⟨_,rfl⟩,q2⟩ hz⟩
end
end
section
theorem ER{X:Cx}{st:Stmt}{j:List Stmt}{t u:TS}(h1:PS X st t)(h2:bW X j u):bW X (st::j) (λD Z H=>∃P:St->Hp->Prop,t { D with nx:=P } Z H/\∀σ' H',P σ' H'->u D σ' H'):=by
 intro ad s Z H D I ⟨P,a,b⟩;exact AJ P h1 h2 ad s Z H D I ⟨a,b⟩
variable {t1 t2 t3 t4 t5 t6 t7 t8:TS}{D:Ends}{Z:St}{H:Hp}{X:Cx}
theorem mI(h:let d:=D;let s:=Z;let j:=t2;aN t1 j d s H):aN t1 (t2) D Z H:=h
theorem jn(h:let d:=D;let s:=Z;let z:=t3;let j:=aN t2 z;aN t1 j d s H):aN t1 (aN t2 (t3)) D Z H:=h
theorem lG(h:let d:=D;let s:=Z;let G:=t4;let z:=aN t3 G;let j:=aN t2 z;aN t1 j d s H):aN t1 (aN t2 (aN t3 (t4))) D Z H:=h
theorem Mr(h:let d:=D;let s:=Z;let J:=t5;let G:=aN t4 J;let z:=aN t3 G;let j:=aN t2 z;aN t1 j d s H):aN t1 (aN t2 (aN t3 (aN t4 (t5)))) D Z H:=h
theorem vt(h:let d:=D;let s:=Z;let O:=t6;let J:=aN t5 O;let G:=aN t4 J;let z:=aN t3 G;let j:=aN t2 z;aN t1 j d s H):aN t1 (aN t2 (aN t3 (aN t4 (aN t5 (t6))))) D Z H:=h
theorem adD(h:let d:=D;let s:=Z;let U:=t7;let O:=aN t6 U;let J:=aN t5 O;let G:=aN t4 J;let z:=aN t3 G;let j:=aN t2 z;aN t1 j d s H):aN t1 (aN t2 (aN t3 (aN t4 (aN t5 (aN t6 (t7)))))) D Z H:=h
theorem Ms(h:let d:=D;let s:=Z;let Y:=t8;let U:=aN t7 Y;let O:=aN t6 U;let J:=aN t5 O;let G:=aN t4 J;let z:=aN t3 G;let j:=aN t2 z;aN t1 j d s H):aN t1 (aN t2 (aN t3 (aN t4 (aN t5 (aN t6 (aN t7 (t8))))))) D Z H:=h
theorem adE{j:TS}(h:let d:=D;let s:=Z;let u9:=j;let u8:=aN t8 u9;let Y:=aN t7 u8;let U:=aN t6 Y;let O:=aN t5 U;let J:=aN t4 O;let G:=aN t3 J;let z:=aN t2 G;aN t1 z d s H):aN t1 (aN t2 (aN t3 (aN t4 (aN t5 (aN t6 (aN t7 (aN t8 (j)))))))) D Z H:=h
theorem adF{U j z G J O:TS}(h:let d:=D;let s:=Z;let Y:=O;let Mt:=aN J Y;let Mu:=aN G Mt;let Mw:=aN z Mu;let Mx:=aN j Mw;let u9:=aN U Mx;let u8:=aN t8 u9;let u7:=aN t7 u8;let u6:=aN t6 u7;let u5:=aN t5 u6;let u4:=aN t4 u5;let u3:=aN t3 u4;let u2:=aN t2 u3;aN t1 u2 d s H):aN t1 (aN t2 (aN t3 (aN t4 (aN t5 (aN t6 (aN t7 (aN t8 (aN U (aN j (aN z (aN G (aN J (O))))))))))))) D Z H:=h
theorem tP{b:List PySem.Stmt}(h:let x:=X;let d:=D;∃t,bW x b t/\t d Z H):∃t,bW X b t/\t D Z H:=h
section
theorem aV{N P:Ls}{sc:Scope}(a:sc.kind=.function:=by rfl)(b:sc.isCoroutine=false:=by rfl)(c:sc.isGenerator=false:=by rfl)(d:N.Nodup:=by decide +kernel)(e:N.take P.length=P:=by rfl)(f:∀x∈P,sc.names.lookup x=some .local\/sc.names.lookup x=some .cell:=by decide +kernel)(g:∀y∈sc.names,y.2≠.free:=by decide +kernel):aP N P sc:=⟨a,b,c,d,e,f,g⟩
theorem dM{own bu:Ls}{js:List Nat}{sc:Scope}(a:sc.kind=.function:=by rfl)(b:∀y∈sc.names,y.2≠.cell:=by decide +kernel)(c:∀y∈sc.names,y.2=.local->sc.names.lookup y.1=some .local:=by decide +kernel)(d:(own++bu).Nodup:=by decide +kernel)(e:∀y∈sc.names,y.2=.free->y.1∈bu:=by decide +kernel)(f:js.map (λj=>X.N[j]?)=bu.map some:=by rfl)(g:bu.map X.env.kindOf=bu.map λ_=>some NameKind.cell:=by rfl)(h:bu.map (λx=>(relabel sc X.env).names.lookup x)=bu.map λ_=>some NameKind.cell:=by rfl):lw X own bu js sc:=⟨a,b,c,d,e,f,g,h⟩
theorem mD.okL{P:Program}{w:World}{K:Fg}{mg:Mv}{base:Heap}{x a_:Str}{st:Stmt}{f:Addr}{fd:Fy}{N ps:Ls}{k:Nat}{sp:Sp}(F:mD K x a_ st f fd)(S:aP N ps (aA st))(z:∀(j:Value) (A:Around) (outer:List Env) (s:Shared) (H:Hp) (vs:ae) (Q:VK) (E:XK),ce k (A.deeper (envOfC a_ (aA st) s.heap.objs.size f j))->sp vs H Q E->let y:=(kZ aI P w K mg base N a_ (aA st) f j A outer s H E).nox;let d:Ends:={ nx:=λ_ H'=>Q .non H',rt:=Q };∃t,bW y (gB st) t/\t d (start N vs) H)(len:∀vs H Q E,sp vs H Q E->vs.length=ps.length:=by intro _ _ _ _ h;(cases h;rfl)):aw P w K mg base aI (k+1) f fd ps sp:=F.ok S len z
end
section
variable {a b c d:Expr}{ta tb tc td:TE}
theorem al(j:PE X a ta)(z:starEach [a] X.env=(false,eval a X.env)::starEach [] X.env:=by rfl):PA X [a] (eP ta (dY)):=jg j dG z
theorem aL(j:PE X a ta)(z:PE X b tb)(G:starEach [a,b] X.env=(false,eval a X.env)::starEach [b] X.env:=by rfl)(J:starEach [b] X.env=(false,eval b X.env)::starEach [] X.env:=by rfl):PA X [a,b] (eP ta (eP tb (dY))):=jg j (jg z dG J) G
theorem dg(j:PE X a ta)(z:PE X b tb)(G:PE X c tc)(J:starEach [a,b,c] X.env=(false,eval a X.env)::starEach [b,c] X.env:=by rfl)(O:starEach [b,c] X.env=(false,eval b X.env)::starEach [c] X.env:=by rfl)(sc:starEach [c] X.env=(false,eval c X.env)::starEach [] X.env:=by rfl):PA X [a,b,c] (eP ta (eP tb (eP tc (dY)))):=jg j (jg z (jg G dG sc) O) J
theorem AY(j:PE X a ta)(z:PE X b tb)(G:PE X c tc)(hd:PE X d td)(J:starEach [a,b,c,d] X.env=(false,eval a X.env)::starEach [b,c,d] X.env:=by rfl)(O:starEach [b,c,d] X.env=(false,eval b X.env)::starEach [c,d] X.env:=by rfl)(sc:starEach [c,d] X.env=(false,eval c X.env)::starEach [d] X.env:=by rfl)(U:starEach [d] X.env=(false,eval d X.env)::starEach [] X.env:=by rfl):PA X [a,b,c,d] (eP ta (eP tb (eP tc (eP td dY)))):=jg j (jg z (jg G (jg hd dG U) sc) O) J
end
theorem bq{p:Prop}(h:let T:=p;T):p:=h
theorem vv{g:TG}{tb:TS}{E:Ends}{x:V}(h:let e:=E;let s:=Z;g x s H λσ2 H2=>tb e σ2 H2):g x Z H λσ2 H2=>tb E σ2 H2:=h
open PySem.W PySem.Builtin PySem.Builtin.ObjectAttr PySem.Builtin.Getset_descriptor
abbrev My:Lw:=[.type "ValueError",.type "Exception",.type "BaseException",.type "object"]
structure ET(K:Fg)(C:Addr):Prop where
 exc:W.excIn K C My "ValueError.__new__"=true
 ga:W.findIn K (.ref C) "__getattribute__"=some (some (.builtin "BaseException.__getattribute__"))
 gh:W.findIn K (.ref C) "__getattr__"=some none
 cls:W.findIn K (.ref C) "__class__"=some (some (.builtin "object.__class__"))
 spc:W.specialIn K (.builtin "object.__class__") "__get__"=some (some (.builtin "getset_descriptor.__get__"))
 tak:W.takesIn K (.builtin "object.__class__")=some true
 mro:W.mroIn K C (.type "object")=some true
 mrb:W.mroIn K C (.type "BaseException")=some true
end
section
open PySem.W
variable {P:Program}{w:World}{h:Heap}{a C:Addr}{ad:Po}{s:Shared}{x:Str}
theorem cb.obj{H:Hp}{o:HO}(x:cb P w H h a o):∃u,h.get? a=some u:=by
 cases o with
 | lst xs=>obtain⟨_,_,_,_,e⟩:=x;exact⟨_,e⟩
 | tup xs=>obtain⟨_,_,_,ob,e,_⟩:=x;exact⟨_,e⟩
 | dK kvs=>obtain⟨_,_,_,_,o,_,_,e,_⟩:=x;exact⟨_,e⟩
 | dT kvs=>obtain⟨_,_,_,_,o,_,_,e,_⟩:=x;exact⟨_,e⟩
 | set S n=>obtain⟨o,_,_,_,e,_⟩:=x;exact⟨_,e⟩
 | ins C dx fs=>obtain⟨_,_,_,e,_⟩:=x;exact⟨_,e⟩
 | own y=>obtain⟨_,e⟩:=x;exact⟨_,e⟩
 | xd fs=>obtain⟨_,⟨_,_,_,e,_⟩,_⟩:=x;exact⟨_,e⟩
 | rng lo hi=>obtain⟨_,_,_,e⟩:=x;exact⟨_,e⟩
 | frz ob u=>obtain⟨e,_⟩:=x;exact⟨_,e⟩
 | tbl ps=>exact⟨_,(show h.get? a=some _ from x)⟩
 | met f y=>exact⟨_,(show h.get? a=some _ from x)⟩
 | ext φ=>obtain⟨_,⟨_,e⟩,_⟩:=x;exact⟨_,e⟩
structure mO(l:List Env)(B:Heap)(H:Hp)(h0 h h':Heap):Prop where
 big:∀b o,h.get? b=some o->((H b).isSome=true\/∃o',h0.get? b=some o')->b∉cN l->B.get? b=some o
 stay:B.StaysIn h'
 slots:∀b o,h.get? b=some o->b∈cN l->∃sl,h'.get? b=some { o with slots:=sl }
section
variable {l:List Env}{B:Heap}{H H0:Hp}{h0 h' EU:Heap}
theorem mO.at(f:mO l B H h0 h h'){b:Addr}{o:Obj}(e:h.get? b=some o)(t:(H b).isSome=true\/∃o',h0.get? b=some o')(n:b∉cN l):h'.get? b=some o:=f.stay _ _ (f.big b o e t n)
theorem mO.hok(f:mO l B H h0 h h')(ok:cC P w H h)(G:∀b∈cN l,H b=none):cC P w H h':=λb o e=>by
 have j:∀c u,H c=some u->c∉cN l:=λc u q z=>by rw[G c z]at q;cases q
 refine(ok b o e).stay (λc u hc q=>?_) (λ_ q=>q) λ_ _ q=>q
 rcases hc with rfl | hc
 . exact f.at q (.inl (by rw[e];rfl)) (j _ _ e)
 exact f.at q (.inl (by rw[hc];rfl)) (j _ _ hc)
theorem mO.un{fs:List Addr}(f:mO l B H h0 h h')(u:Un fs [] H0 H h0 h)(hs:∀b∈cN l,b∈fs\/h0.get? b=none)(O:∀b∈fs,b∈cN l):Un fs [] H0 H h0 h' where
 keep:=λb o q n j G=>f.at (u.keep b o q n j G) (.inr ⟨o,q⟩) λz=>by
  rcases hs b z with y | y
  . exact j y
  rw[y]at q;cases q
 slot:=λb o q n j G=>by
  obtain⟨sl,e⟩:=u.slot b o q n j G;obtain⟨U,J⟩:=f.slots b _ e (O b j);exact⟨U,J⟩
 free:=u.free
 there:=λb o q G=>by
  obtain⟨o',e⟩:=u.there b o q G
  by_cases j:b∈cN l
  . obtain⟨sl,J⟩:=f.slots b _ e j;exact⟨_,J⟩
  exact⟨o',f.at e (.inr ⟨o,q⟩) j⟩
 tups:=u.tups
 frzs:=u.frzs
 tbls:=u.tbls
theorem mO.on(f:mO l B H h0 h h')(st:B.StaysIn EU)(O:h'.UpToSlots EU)(z:∀b o,h.get? b=some o->b∈cN l->∀vs,o.data≠.fields vs):mO l B H h0 h EU:=⟨f.big,st,λb o e j=>by
 obtain⟨sl,q⟩:=f.slots b o e j;obtain⟨J,G⟩:=O b _ q (z b o e j);exact⟨J,G⟩⟩
end
def mP(P:Program)(w:World):gN:=λouter H s E e s'=>∃(a:Addr) (c:Value) (H':Hp) (B:Heap) (j:Value),e=.ref a/\s'.os=s.os/\AllBare s'.gens/\Un (cN outer) [] H H' s.heap s'.heap/\cC P w H' s'.heap/\s.heap.get? a=none /\
 Heap.FlyingW B outer a c j s'.heap/\(∀b o,s'.heap.get? b=some o->((H' b).isSome=true\/∃o',s.heap.get? b=some o')->b∉cN outer->B.get? b=some o)/\E c none H'
section
variable {X:Cx}{Z:St}{H:Hp}{E:XK}
theorem Inv.nofld(I:Inv X ad Z H s){b:Addr}(j:b∈cN X.stack):∃o,s.heap.get? b=some o/\∀vs,o.data≠.fields vs:=(I.stack.mem j).2
theorem Mz{B h':Heap}{c U:Value}{g':Array GenState}{d':Drawn}{t':Nat}(I:Inv X ad Z H s)(hex:X.ex=[])(eM:X.stack=X.env::X.outer)(tQ:X.env.frame=some X.env.locals)(f:mO X.stack B H X.s₀.heap s.heap h')(na:X.s₀.heap.get? a=none)
 (fl:Heap.FlyingW B X.outer a c U h') (hg:AllBare g') (e:E c none H):mP X.prog X.w X.outer X.H₀ X.s₀ E (.ref a) { s with heap:=h',gens:=g',drawn:=d',toks:=t' }:=by
 have sub:∀b∈cN X.outer,b∈cN X.stack:=λb G=>by
  rw[eM];unfold cN at G ⊢;rw[Db,tQ];exact bR _ G
 have a1:∀b∈cN X.stack,b∈cN X.outer\/X.s₀.heap.get? b=none:=λb G=>by
  rcases bf.mp (I.stkSub b G) with z | z
  . rw[z];exact .inr (Heap.get?_none_of_le I.ok.above)
  exact .inl z
 have O:=I.base;rw[hex]at O;refine⟨a,c,H,B,U,rfl,I.os,hg,f.un O a1 sub,f.hok I.hok I.stkFree,na,fl,λb o q t nb=>?_,e⟩;have q:h'.get? b=some o:=q;have a2:b∉cN X.stack\/X.s₀.heap.get? b=none:=by
  by_cases z:b∈cN X.stack
  . rcases a1 b z with y | y
    . exact absurd y nb
    exact .inr y
  exact .inl z
 have tr:∀j,s.heap.get? b=some j->b∉cN X.stack->B.get? b=some o:=λj e2 z=>by
  have:=f.big b j e2 t z;have Y:=f.stay _ _ this;rw[q]at Y;cases Y;exact this
 rcases t with t | ⟨o',t⟩
 . obtain⟨u,J⟩:=Jl.mp t;obtain⟨j,e2⟩:=(I.hok b u J).obj;exact tr j e2 λz=>by rw[I.stkFree b z]at J;cases J
 obtain⟨j,e2⟩:=O.there b o' t (by simp);refine tr j e2 λz=>?_
 rcases a2 with y | y
 . exact y z
 rw[y]at t;cases t
abbrev qT (P:Program) (w:World) (K:Fg) (mg:Mv) (base:Heap) (N:Ls) (a_:Str) (scope:Scope) (f:Addr) (cd:Value) (A:Around) (outer:List Env) (s:Shared) (H:Hp) (E:XK):Cx:=kZ (mP P w) P w K mg base N a_ scope f cd A outer s H E
end
section
variable {K:Fg}{mg:Mv}{base:Heap}{N:Ls}{a_:Str}{scope:Scope}{f:Addr}{cd:Value}{A:Around}{outer:List Env}{s0:Shared}{H0:Hp}{E:XK}
theorem xP:mw (mP P w) (qT P w K mg base N a_ scope f cd A outer s0 H0 E) E:=by
 intro ad Z H s e s' I h;obtain⟨a,c,H',B,a0,rfl,os,j,un,hok,Y,fl,big,q⟩:=h;have J:=I.call' (ch:=[]) os un hok j (λb z=>nomatch z);refine wpAny_leaves_onW (L:=(envOfC a_ scope s0.heap.objs.size f cd).locals) I.ok.frames rfl fl λh' x1 x2=>?_;obtain⟨hh,g,d,t,Aw⟩:=s';have G:s0.heap.get? a=none:=by
  cases z:s0.heap.get? a with
  | none=>rfl
  | some o=>
   obtain⟨o',y⟩:=I.base.there a o z (λz=>nomatch z);rw[Y]at y;cases y
 exact Mz (g':=g) (d':=d) (t':=t) J rfl rfl rfl ⟨λb o e t nb=>big b o e (t.imp id λO=>O.elim λo' z=>I.base.there b o' z (λz=>nomatch z)) nb,x1.1,λb o e U=>by
  obtain⟨o1,e1,n1⟩:=J.nofld U;rw[e]at e1;cases e1;exact x2 b o e n1⟩ G x1 j q
theorem adI(X:K.In h)(x:ET K C):∃bm U nm q bs hdct sn sub ab col dd k0 k1 k2 k3 k5 mN,h.get? C=some (excClassObj nm q C U bs bm hdct sn sub ab col dd k0 k1 k2 k3 k5 "ValueError.__new__")/\h.Ns U mN/\mN "__init__"=none/\OwnTail h My bm:=by
 have q:=x.exc;unfold excIn at q;split at q
 case h_2=>cases q
 rename_i dd O sl ho;split at q
 case h_2=>cases q
 rename_i C' bm k0 k1 k2 k3 n k5 z hs;rw[io,io,io,io,io]at q;obtain⟨⟨⟨⟨⟨G,J⟩,j⟩,z4⟩,Y⟩,z6⟩:=q;have G:=kO.mp G;have J:=kO.mp J;have j:O.hasDel=false:=by simpa using j
 subst G J;obtain⟨nm,bs,a1,ns,qn,hd,sn,sub,ab,col,a0⟩:=O;have z:a1=.ref C'::bm:=z;have j:a0=false:=j;subst z j;obtain⟨a2⟩:=sl;have hs:a2=[k0,k1,k2,k3,some (.builtin "ValueError.__new__"),k5]:=hs;subst hs;exact⟨bm,ns,nm,qn,bs,hd,sn,sub,ab,col,dd,k0,k1,k2,k3,k5,_,X _ _ ho,.of_isNs (isNs_of_in X Y),nsMap_none_of_in X Y (kO.mp z6),tail_of_in X z4⟩
theorem adK{np cO pos:Pos}{e:Expr}{te:TE}(xc:ET K C)(hm:mg x=some (.ref C))(he:PE (qT P w K mg base N a_ scope f cd A outer s0 H0 E) e te)(hg:Gl (qT P w K mg base N a_ scope f cd A outer s0 H0 E) x:=by rfl)
 (hs:starEach [e] (envOfC a_ scope s0.heap.objs.size f cd)=[(false,eval e (envOfC a_ scope s0.heap.objs.size f cd))]:=by rfl) (hd:(x == ("__debug__":Str))=false:=by decide) :
 PS (qT P w K mg base N a_ scope f cd A outer s0 H0 E) (.Raise (some (.Call (.Name x np) [e] [] cO)) none pos) (λ_ Z H=>te Z H λv H1=>[v].length<=1/\E (.ref C) none H1):=by
 intro ad s Z H D I h;obtain⟨bm,Nn,nm,q,bs,hdct,sn,sub,ab,col,dd,k0,k1,k2,k3,k5,mN,hC,hN,Y,T⟩:=adI I.mod.kin xc;have hh:(A.deeper (envOfC a_ scope s0.heap.objs.size f cd)).handled=none:=I.ok.hd rfl;refine wpAny_Raise_call_subT (C:=C) (nm:=nm) (q:=q) (N:=Nn) (bs:=bs) (bm:=bm) (hdct:=hdct) (sn:=sn) (sub:=sub) (ab:=ab) (col:=col) (dd:=dd) (k0:=k0) (k1:=k1) (k2:=k2) (k3:=k3) (k5:=k5)
  aqD (mN:=mN) (T.hasType aqD.hasBase) hh (by show(backTo cO (starEach [e] (envOfC a_ scope s0.heap.objs.size f cd))).any (·.1)=false;rw[hs];rfl) Y (uW I hg hm ⟨rfl,?_⟩ hd)
 have ha:PA (qT P w K mg base N a_ scope f cd A outer s0 H0 E) [e] (eP te dY):=jg he dG hs;have J:=ha cO ad s Z H (λvs H1=>vs.length<=1/\E (.ref C) none H1) I h;have J:wpAny (model P w) (A.deeper (envOfC a_ scope s0.heap.objs.size f cd)) (spliced (backTo cO (starEach [e] (envOfC a_ scope s0.heap.objs.size f cd)))) (AP (qT P w K mg base N a_ scope f cd A outer s0 H0 E) ad Z (λvs H1=>vs.length<=1/\E (.ref C) none H1)) (qT P w K mg base N a_ scope f cd A outer s0 H0 E).xe s:=J;show wpAny (model P w) (A.deeper (envOfC a_ scope s0.heap.objs.size f cd)) (evalArgs (.ref C) true (backTo cO (starEach [e] (envOfC a_ scope s0.heap.objs.size f cd))) []) _ _ s;rw[hs]at J ⊢;refine Jn (eV J (λus G z=>?_) λ_ _ y=>y);obtain⟨vs,H1,j,rv,l1,q1⟩:=z;have hl:us.length<=sizeLine:=by
  rw[<-rv.length];exact cn l1 (by decide)
 refine⟨rfl,hl,j.bk _ _ hC,hN.keeps j.bk,T.keeps j.bk,λh' a U=>?_⟩;have EV:s0.heap.get? a=none:=by
  cases z:s0.heap.get? a with
  | none=>rfl
  | some o=>
   obtain⟨o',y⟩:=j.base.there a o z (λz=>nomatch z);rw[U.new]at y;cases y
 refine wpAny_leaves_madeW (base:=hideAll G.heap (cN (envOfC a_ scope s0.heap.objs.size f cd::outer))) (L:=(envOfC a_ scope s0.heap.objs.size f cd).locals) (h:=G.heap) j.ok.frames rfl (λb o z=>of_hideAll _ z)
  (funFrames_hide j.stack λenv a0 b O=>Jj.mpr ⟨env,a0,O⟩) U λh2 t x1 x2 x3 x4=>?_
 refine Mz (g':=G.gens) (d':=G.drawn) (t':=G.toks) j rfl rfl rfl ⟨λb o z _ nb=>hideAll_get _ z nb,x1.1,λb o z O=>?_⟩ EV x1 j.bare q1;obtain⟨o1,e1,n1⟩:=j.nofld O;rw[z]at e1;cases e1;exact x4 b o (U.keeps _ _ z) n1
end
section
variable {X:Cx}{Z:St}{H:Hp}
abbrev Cx.tr (X:Cx) (XE:VP) (pn:Po):Cx:={ X with xe:=XE,pn:=X.pn++pn }
abbrev Cx.exs (X:Cx) (a:Addr):Cx:={ X with A:=X.A.mark (some (.ref a)),calm:=false,xe:=λ_ _=>False }
theorem Inv.tr(I:Inv X ad Z H s)(j:VP):Inv (X.tr j ad) [] Z H s:=
 ⟨⟨I.ok.mod,I.ok.kind,I.ok.glob,I.ok.blt,I.ok.above,I.ok.inj,I.ok.has,I.ok.cab,I.ok.hd,I.ok.frames,I.ok.stk,I.ok.exf,I.ok.bs,I.ok.bsz,I.ok.noex,I.ok.exfs,I.ok.funs,I.ok.frf⟩,I.os,I.bare,I.base,I.loc,I.cell,I.free,I.freeC,λp z=>I.pin p (by simpa using z),I.hok,I.len⟩
theorem Inv.untr{j:VP}{ps:Po}(I:Inv (X.tr j ad) ps Z H s):Inv X ad Z H s:=
 ⟨⟨I.ok.mod,I.ok.kind,I.ok.glob,I.ok.blt,I.ok.above,I.ok.inj,I.ok.has,I.ok.cab,I.ok.hd,I.ok.frames,I.ok.stk,I.ok.exf,I.ok.bs,I.ok.bsz,I.ok.noex,I.ok.exfs,I.ok.funs,I.ok.frf⟩,I.os,I.bare,I.base,I.loc,I.cell,I.free,I.freeC,λp z=>I.pin p (wG _ z),I.hok,I.len⟩
theorem Inv.exs(I:Inv X ad Z H s)(a:Addr):Inv (X.exs a) ad Z H s:=
 ⟨⟨I.ok.mod,I.ok.kind,I.ok.glob,I.ok.blt,I.ok.above,I.ok.inj,I.ok.has,I.ok.cab,λz=>(nomatch z),I.ok.frames,I.ok.stk,I.ok.exf,I.ok.bs,I.ok.bsz,I.ok.noex,I.ok.exfs,I.ok.funs,I.ok.frf⟩,I.os,I.bare,I.base,I.loc,I.cell,I.free,I.freeC,I.pin,I.hok,I.len⟩
theorem Inv.unexs(ok:X.Ok)(I:Inv (X.exs a) ad Z H s):Inv X ad Z H s:=⟨ok,I.os,I.bare,I.base,I.loc,I.cell,I.free,I.freeC,I.pin,I.hok,I.len⟩
theorem SP.untr{j:VP}{ps:Po}{D:Ends}{f:Flow}{s':Shared}(h:SP (X.tr j ad) ps D f s'):SP X ad D f s':=by
 cases f with
 | next=>obtain⟨σ',H',I,q⟩:=h;exact⟨σ',H',I.untr,q⟩
 | brk=>obtain⟨σ',H',I,q⟩:=h;exact⟨σ',H',I.untr,q⟩
 | cont=>obtain⟨σ',H',I,q⟩:=h;exact⟨σ',H',I.untr,q⟩
 | ret u=>obtain⟨v,σ',H',I,r,q⟩:=h;exact⟨v,σ',H',I.untr,r,q⟩
end
def EW(CX:gN)(X:Cx)(E:St->XK):Prop:=∀(ad:Po) (Z:St) (H:Hp) (s:Shared) (e:Value) (s':Shared),Inv X ad Z H s->CX X.stack H s (E Z) e s'->X.xe e s'
section
variable {X:Cx}{CX:gN}{k:Nat}{f:Addr}{fd:Fy}{ps:Ls}{sp:Sp}{cY:ae}{ds:Lw}{E:St->XK}{m:Str}{p pos apos:Pos}{e o:Expr}{es:List Expr}{ta:TE}{t:TA}
theorem adM{Z:St}{H:Hp}{Q:VK}{us:Lw}{vs:ae}(F:aw X.prog X.w X.K X.mg X.base CX k f fd ps sp)(O:ce k X.A)(G:Binds X.K fd ps ds)(hd:bc cY ds)(U:EW CX X E)
 (I:Inv X ad Z H s) (r:bc vs us) (h:sp (vs++cY) H Q (E Z)):wpAny (model X.prog X.w) X.A (call (.ref f) us) (EP X ad Z Q) X.xe s:=by
 have z:bc (vs++cY) (us++ds):=r.append hd;have J:(us++ds).length=ps.length:=by rw[<-z.length];exact F.len _ _ _ _ h
 refine De (qp (F.run X.A X.stack s H ⟨us,[]⟩ (us++ds) (vs++cY) Q (E Z) O I.env0 (G s us I.kIn J) z h) λr s' j=>?_);cases r with
 | error e=>exact U ad Z H s e s' I j
 | ok fl=>
  cases fl with
  | ret u=>exact I.after j
  | next=>exact False.elim j
  | brk=>exact False.elim j
  | cont=>exact False.elim j
def adN(C:Addr)(m:Str)(sp:Sp)(cY:ae)(E:St->XK)(ta:TE)(t:TA):TE:=λZ H Q=>Ax C m sp cY (E Z) ta t Z H Q
end
theorem mD.okR{K:Fg}{mg:Mv}{base:Heap}{a_:Str}{st:Stmt}{f:Addr}{fd:Fy}{N ps:Ls}{k:Nat}{sp:Sp}(F:mD K x a_ st f fd)(S:aP N ps (aA st))(len:∀vs H Q E,sp vs H Q E->vs.length=ps.length)
 (O:∀(j:Value) (A:Around) (outer:List Env) (s:Shared) (H:Hp) (vs:ae) (Q:VK) (E:XK),ce k (A.deeper (envOfC a_ (aA st) s.heap.objs.size f j))->sp vs H Q E ->
  ∃t,bW (qT P w K mg base N a_ (aA st) f j A outer s H E) (gB st) t/\t { nx:=λ_ H'=>Q .non H',rt:=Q } (start N vs) H):aw P w K mg base (mP P w) (k+1) f fd ps sp:=by
 obtain⟨oc,od,kV,U,pm,an,j,ct,Y,rfl,lk,G⟩:=F.ex;exact Eb lk G S len λA outer s H vs Q E z J=>O j A outer s H vs Q E z J
section
variable {X:Cx}
theorem MB:∀{j:List Addr}{us:Lw},bc (j.map V.ref) us->us=j.map Value.ref
 | [],_,.nil=>rfl
 | D::j,_,.cons r t=>by
  rw[bV,MB t]
  congr 1
def EX(K:Fg)(H:Hp)(p q:ao×V):Prop:=p.1=q.1/\∃d,DV K H p.2 d/\DV K H q.2 d/\W.kqdOk 9 d=true
theorem adO{kvs:List (ao×V)}(nd:(kvs.map (·.1)).Nodup){k:ao}{v:V}(h:(k,v)∈kvs):bi kvs k=some v:=by
 induction kvs with
 | nil=>cases h
 | cons p r j=>
  rw[bV,qt]at nd
  rcases bf.mp h with e | h
  . subst e;exact j0 rfl
  rw[ji λe=>nd.1 (by rw[e];exact fq (f:=(·.1)) h)];exact j nd.2 h
theorem MC{Z:St}{H:Hp}(I:Inv X ad Z H s)(U:X.A.units+65<cLine){hZ:List (ao×V)}{J:List (ao×Value)}(nd:(hZ.map (·.1)).Nodup)(Y:KV hZ J):∀{ka kb:List (ao×V)}{va:List (ao×Value)},Paired (EX X.K H) ka kb->KV ka va->(∀p∈kb,p∈hZ)->KeqHits X.A.in1 s J va true
 | _,_,_,.nil,.nil,_=>.nil
 | _,_,_,.cons (a:=p) (b:=q) r t,.cons (b:=pv) rv tv,hm=>by
  obtain⟨e,d,d1,d2,ok⟩:=r;obtain⟨as,ra⟩:=d1.reads I rv.2;have hq:=adO nd (k:=q.1) (v:=q.2) (hm q bH);have j:=Y.val q.1;rw[hq]at j;cases G:valueAt J q.1 with
  | none=>rw[G]at j;exact j.elim
  | some y=>
   rw[G]at j;have j:RelV q.2 y:=j;obtain⟨bs,rb⟩:=d2.reads I j;have O:=keq_at (A:=X.A) ra rb (qK ok) (qK ok) U;have et:=(wO 9 d d 9 ok ok).mpr rfl;rw[et]at O;have z:pv.1=q.1:=rv.1.symm.trans e;obtain⟨pk,a0⟩:=pv;have z:pk=q.1:=z;subst z;exact .hit (e:=true) (b:=true) G O (MC I U nd Y t tv λp hp=>hm p (bR _ hp))
end
end
section
open PySem.W
section
variable {X:Cx}
theorem adP{P:Program}{w:World}:mw (mP P w) X (λ_ _ _=>False):=λ_ _ _ _ _ _ _ h=>by
 obtain⟨_,_,_,_,_,_,_,_,_,_,_,_,_,q⟩:=h;exact q.elim
def ME(K:Fg)(M:Addr)(j:TS)(D:Ends):St->XK:=λZ c _ H=>exmOne K c (.ref M)=some true/\j D Z H
theorem adQ{M:Addr}{x:Str}{body:List Stmt}{b0:Stmt}{EY:List Stmt}{np pP pos:Pos}{tb:(St->XK)->TS}{ts:TS}
 (eM:X.stack=X.env::X.outer) (tQ:X.env.frame=some X.env.locals) (hm:X.mg x=some (.ref M)) (hg:Gl X x)
 (U:∀XE pn E,EW (mP X.prog X.w) (X.tr XE pn) E->bW (X.tr XE pn) body (tb E)) (hs:∀a,bW (X.exs a) (b0::EY) ts) (iq:(x == ("__debug__":Str))=false:=by decide) :
 PS X (.Try body [.ExceptHandler (some (.Name x np)) none (b0::EY) pP] [] [] pos) (λD Z H=>tb (ME X.K M ts D) D Z H):=by
 intro ad s Z H D I h;refine wpAny_Try_except ?_;refine eV (U (λe s₁=>wpAny (model X.prog X.w) X.A (noteFrame e X.env) (λ_ s₂=>wpAny (model X.prog X.w) X.A (setFlight e none) (λ_ s₃=>wpAny (model X.prog X.w) X.A (handleBy e X.env [.ExceptHandler (some (.Name x np)) none (b0::EY) pP]) (SP X ad D) X.xe s₃) X.xe s₂) X.xe s₁)
  ad (ME X.K M ts D) ?_ [] s Z H D (I.tr _) h) (λf Y z=>?_) λ_ _ z=>z
 . intro ps σ1 H1 Y e s' J hx;have J:=J.untr;obtain⟨a,c,H',B,a0,rfl,os,a1,un,hok,na,fl,big,a5,fZ⟩:=hx;have fl:Heap.FlyingW B (X.env::X.outer) a c a0 s'.heap:=eM▸fl;have a4:X.A.frames=some (X.env::X.outer):=eM▸J.ok.frames;have un:Un (cN X.stack) [] H1 H' Y.heap s'.heap:=un;have big:∀b o,s'.heap.get? b=some o->((H' b).isSome=true\/∃o',Y.heap.get? b=some o')->b∉cN X.stack->B.get? b=some o:=big;have J0:=J.call' (ch:=[]) os un hok a1 (λb z=>nomatch z);have nf:∀b o,s'.heap.get? b=some o->b∈cN X.stack->∀vs,o.data≠.fields vs:=λb o e U=>by
    obtain⟨o1,e1,n1⟩:=J0.nofld U;rw[e]at e1;cases e1;exact n1
   refine wpAny_looks_onW a4 tQ fl λh4 a3 a6=>?_;refine wpAny_landsW a3 λh5 EZ a7=>?_;have f5:mO X.stack B H' Y.heap s'.heap h5:=⟨big,EZ.1,λb o e U=>(a6.trans a7) b o e (nf b o e U)⟩;have J5:Inv X ad σ1 H' { s' with heap:=h5 }:=J.call' (ch:=[]) os (f5.un un (λ_ z=>.inl z) λ_ z=>z) (f5.hok hok J0.stkFree) a1 (λb z=>nomatch z);refine wpAny_handleBy_cons (codeAny_handlers_test ?_) (by intro q;cases q);refine uW (J5.exs a) hg hm ?_ iq;have LT:Looks (model X.prog X.w) h5 (typeOf (.ref a)) c:=by
    obtain⟨ob,o1,o2⟩:=EZ.there;exact o2▸(Looks.ld o1).andThen .now
   refine(exm_one J5.kIn LT a5).here ?_;refine codeAny_handlers_suite ?_;refine lands_againW EZ λh6 a2 xQ=>?_;have f6:=f5.on a2.1 xQ nf;have O:Inv X ad σ1 H' { s' with heap:=h6 }:=J.call' (ch:=[]) os (f6.un un (λ_ z=>.inl z) λ_ z=>z) (f6.hok hok J0.stkFree) a1 (λb z=>nomatch z);refine eV (hs a ad _ _ _ _ (O.exs a) fZ) (λf s8 z=>?_) λ_ _ z=>z.elim;cases f with
   | next=>
    obtain⟨σ8,H8,j,G⟩:=z;exact⟨_,H8,j.unexs O.ok,G⟩
   | brk=>
    obtain⟨σ8,H8,j,G⟩:=z;exact⟨_,H8,j.unexs O.ok,G⟩
   | cont=>
    obtain⟨σ8,H8,j,G⟩:=z;exact⟨_,H8,j.unexs O.ok,G⟩
   | ret u=>
    obtain⟨v,σ8,H8,j,r8,G⟩:=z;exact⟨v,_,H8,j.unexs O.ok,r8,G⟩
 have z:=z.untr;cases f with
 | next=>exact Dc z
 | brk=>exact z
 | cont=>exact z
 | ret u=>exact z
def E2(K:Fg):V->V->Hp->VK->Prop:=λx y H Q=>∃d e,DV K H x d/\DV K H y e/\W.kqdOk 9 d=true/\W.kqdOk 9 e=true/\∀b:Bool,(b=true↔d=e)->Q (.bl (!b)) H
theorem adW(K:Fg)(j:X.A.units+64<cLine)(h:X.K=K:=by rfl):cw X (compareOp .NotEq) (E2 K):=h▸AI j
end
end
section
variable {mask ep n:Nat}{α:Type}{w:World}{h':Heap}{a it:Addr}{xs ys:Ls}{s:Shared}{P:Program}{o:Obj}{es:Array (Int×Value)}{os:List (Int×Value)}{a_:Str}
def pQ(m:Nat):Prop:=m=7\/m=15\/m=31\/m=63\/m=127\/m=255
def pR(mask:Nat):Nat->Nat->Nat
 | 0,i=>i
 | m+1,i=>pR mask m ((i * 5+1) % (mask+1))
theorem A0(mask:Nat):∀(m k i:Nat),pR mask (m+k) i=pR mask k (pR mask m i)
 | 0,k,i=>by rw[Dm];rfl
 | m+1,k,i=>by
  rw[Nat.succ_add];exact A0 mask m k _
def adX(mask:Nat):Bool:=pR mask (mask+1) 0 == 0 && (List.range (mask+1)).all λj=>(List.range (mask+1)).any λm=>pR mask m 0 == j
theorem adY(h:pQ mask):adX mask=true:=by
 rcases h with rfl | rfl | rfl | rfl | rfl | rfl
 . decide +kernel
 . decide +kernel
 . decide +kernel
 . decide +kernel
 . decide +kernel
 decide +kernel
theorem adZ{i j:Nat}(h:pQ mask)(hi:i<=mask)(U:j<=mask):∃m,m<=mask/\pR mask m i=j:=by
 obtain⟨h0,h1⟩:=wQ.mp (adY h);have h0:=eq_of_beq h0;have G:∀z,z<=mask->∃m,m<=mask/\pR mask m 0=z:=λz hz=>by
  obtain⟨m,Y,e⟩:=sk.mp (ip.mp h1 z (uM.mpr (by omega)));exact⟨m,by have:=uM.mp Y;omega,eq_of_beq e⟩
 obtain⟨a,ha,J⟩:=G i hi;obtain⟨b,hb,O⟩:=G j U
 by_cases le:a<=b
 . refine⟨b - a,by omega,?_⟩;rw[<-J,<-A0,show a+(b - a)=b by omega];exact O
 refine⟨b+(mask+1) - a,by omega,?_⟩;rw[<-J,<-A0,show a+(b+(mask+1) - a)=(mask+1)+b by omega,A0,h0];exact O
def jD(mask:Nat):Nat->Nat->Nat->Nat×Nat
 | 0,i,p=>(i,p)
 | m+1,i,p=>jD mask m ((i * 5+1+p / 32) % (mask+1)) (p / 32)
theorem MG(mask:Nat):∀(m i:Nat),jD mask m i 0=(pR mask m i,0)
 | 0,i=>rfl
 | m+1,i=>by
  show jD mask m ((i * 5+1+0 / 32) % (mask+1)) (0 / 32)=_;rw[Nat.zero_div,Jw,MG mask m];rfl
theorem MH(mask:Nat):∀(m k i p:Nat),jD mask (m+k) i p=jD mask k (jD mask m i p).1 (jD mask m i p).2
 | 0,k,i,p=>by rw[Dm];rfl
 | m+1,k,i,p=>by
  rw[Nat.succ_add];exact MH mask m k _ _
theorem MI(mask:Nat):∀(m i p:Nat),(jD mask m i p).2=p / 32 ^ m
 | 0,i,p=>by simp[jD]
 | m+1,i,p=>by
  show(jD mask m _ (p / 32)).2=_;rw[MI mask m,Nat.div_div_eq_div_mul,Nat.pow_succ,Nat.mul_comm]
theorem MJ(mask:Nat):∀(m i p:Nat),i<=mask->(jD mask m i p).1<=mask
 | 0,i,p,h=>h
 | m+1,i,p,h=>MJ mask m _ _ (Nat.le_of_lt_succ (Dn (i * 5+1+p / 32) (Nat.succ_pos mask)))
theorem ad0{i p j:Nat}(h:pQ mask)(hi:i<=mask)(G:p<2 ^ 64)(z:j<=mask):∃m,m<SetTable.turns mask/\(jD mask m i p).1=j:=by
 have h2:(jD mask 13 i p).2=0:=by
  rw[MI];exact Nat.div_eq_of_lt (wL G (by decide))
 obtain⟨m,J,e⟩:=adZ h (MJ mask 13 i p hi) z;refine⟨13+m,by unfold SetTable.turns;omega,?_⟩;rw[MH,h2,MG];exact e
theorem MK(mask:Nat)(ow:Array (Option Nat)):∀(f i p:Nat),SetTable.layClean.free mask ow f i p=none->∀m,m<f->(ow.getD (jD mask m i p).1 (some 0)).isNone=false
 | 0,i,p,_,m,h=>absurd h (Jx _)
 | f+1,i,p,e,m,h=>by
  unfold SetTable.layClean.free at e;cases j:(List.range (SetTable.runEnd mask i+1 - i)).find? λk=>(ow.getD (i+k) (some 0)).isNone with
  | some k=>rw[j]at e;cases e
  | none=>
   rw[j]at e;cases m with
   | zero=>
    have:=VD.mp j 0 (uM.mpr (by unfold SetTable.runEnd;split<;>omega));rw[Jw]at this;cases hz:(ow.getD i (some 0)).isNone with
    | true=>exact absurd hz this
    | false=>exact hz
   | succ m=>exact MK mask ow f _ _ e m (by omega)
theorem ML(mask:Nat)(ow:Array (Option Nat)):∀(f i p j:Nat),SetTable.layClean.free mask ow f i p=some j->(ow.getD j (some 0)).isNone=true
 | 0,i,p,j,e=>by cases e
 | f+1,i,p,j,e=>by
  unfold SetTable.layClean.free at e;cases z:(List.range (SetTable.runEnd mask i+1 - i)).find? λk=>(ow.getD (i+k) (some 0)).isNone with
  | some k=>
   rw[z]at e;cases e;exact List.find?_some (p:=λk=>(ow.getD (i+k) (some 0)).isNone) z
  | none=>
   rw[z]at e;exact ML mask ow f _ _ j e
theorem MM:∀{l:List (Option α)}{j:Nat}{x:α},l[j]?=some none->((l.set j (some x)).filterMap id).Perm (x::l.filterMap id)
 | [],j,x,h=>by cases h
 | o::l,0,x,h=>by
  cases h;simp
 | o::l,j+1,x,h=>by
  have z:=MM (l:=l) (j:=j) (x:=x) h;rw[List.set_cons_succ];cases o with
  | none=>simpa using z
  | some y=>
   simp only[Db,id];exact(z.cons y).trans (.swap ..)
structure Lay(mask:Nat)(r:Array (Option Nat)×Nat):Prop where
 size:r.1.size=mask+1
 perm:(r.1.toList.filterMap id).Perm (List.range r.2)
theorem Lay.step(Y:pQ mask){r:Array (Option Nat)×Nat}(x:Lay mask r)(hk:r.2<=mask)(h:Int):∃j,SetTable.layClean.free mask r.1 (SetTable.turns mask) (SetTable.bits h % (mask+1)) (SetTable.bits h)=some j/\Lay mask (r.1.setIfInBounds j (some r.2),r.2+1):=by
 obtain⟨ow,k⟩:=r;dsimp only at *;have hz:ow.size=mask+1:=x.size;have U:=x.perm.length_eq;dsimp only at U;rw[Jy]at U;cases O:SetTable.layClean.free mask ow (SetTable.turns mask) (SetTable.bits h % (mask+1)) (SetTable.bits h) with
 | none=>
  exfalso;have qE:∀j,j<=mask->(ow.getD j (some 0)).isNone=false:=λj G=>by
   obtain⟨m,h1,h2⟩:=ad0 Y (i:=SetTable.bits h % (mask+1)) (p:=SetTable.bits h) (Nat.le_of_lt_succ (Dn (SetTable.bits h) (Nat.succ_pos mask))) (by
    unfold SetTable.bits;have h1:=uQ h (show(0:Int)<2 ^ 64 by decide);have h0:=sq h (show(2 ^ 64:Int)≠0 by decide);omega) G
   have:=MK mask ow _ _ _ O m h1
   rwa [h2]at this
  have:(ow.toList.filterMap id).length=ow.toList.length:=by
   rw[List.length_filterMap_eq_countP,List.countP_eq_length];intro o ho;obtain⟨j,G,e⟩:=Jz.mp ho;rw[dW]at G;have:=qE j (by omega);rw[JA,qv G]at this;rw[<-e,Array.getElem_toList];cases J:ow[j]with
   | none=>rw[J]at this;cases this
   | some y=>rfl
  have e9:ow.toList.length=ow.size:=dW;omega
 | some j=>
  have hs:=ML mask ow _ _ _ _ O;have G:j<ow.size:=by
   refine Nat.lt_of_not_le λz=>?_;rw[JA,VM z]at hs;cases hs
  have hn:ow.toList[j]?=some none:=by
   rw[JA,qv G]at hs;rw[oW,qv G];cases J:ow[j]with
   | none=>rfl
   | some y=>rw[J]at hs;cases hs
  refine⟨j,rfl,⟨by simp[hz],?_⟩⟩;dsimp only;rw[Array.toList_setIfInBounds,List.range_succ];exact(MM hn).trans ((x.perm.cons k).trans (List.perm_append_singleton k _).symm)
theorem MN(G:pQ mask):∀(hs:List Int) (r:Array (Option Nat)×Nat),Lay mask r->r.2+hs.length<=mask+1->∃z,hs.foldl (fun(J:Option (Array (Option Nat)×Nat)) h=>do
 let (owner,k) <-J
 let j <-SetTable.layClean.free mask owner (SetTable.turns mask) (SetTable.bits h % (mask+1)) (SetTable.bits h)
 pure (owner.setIfInBounds j (some k),k+1)) (some r)=some z/\Lay mask z/\z.2=r.2+hs.length
 | [],r,x,_=>⟨r,rfl,x,rfl⟩
 | h::hs,r,x,hl=>by
  rw[cq]at hl;obtain⟨j,e,O⟩:=x.step G (by omega) h;obtain⟨z,e1,x1,e2⟩:=MN G hs _ O (by dsimp only;omega);refine⟨z,?_,x1,by rw[e2,cq];dsimp only;omega⟩;rw[ma,<-e1]
  congr 1
  show(SetTable.layClean.free mask r.1 (SetTable.turns mask) (SetTable.bits h % (mask+1)) (SetTable.bits h)).bind _=_;rw[e];rfl
theorem MO{f m:Nat}{led plain:Bool}{hs:Array Int}(hm:pQ mask)(hl:hs.size<=mask):∃t O,SetTable.laid mask f m led plain hs=some (t,O)/\O.toList.Perm (List.range hs.size)/\t.fits hs.size=true/\t.led=led/\t.plain=plain/\t.mask=mask:=by
 have x0:Lay mask (Array.replicate (mask+1) none,0):=⟨by simp,by simp⟩;obtain⟨r,e,x,e2⟩:=MN hm hs.toList _ x0 (by dsimp only;rw[dW];omega);have Y:SetTable.layClean mask hs=some r.1:=by
  unfold SetTable.layClean;rw[<-Array.foldl_toList,e];rfl
 dsimp only at e2;rw[Dm,dW]at e2;have G:((List.range (mask+1)).filterMap λj=>(r.1.getD j none).map (j,·)).map (·.2)=r.1.toList.filterMap id:=by
  have e3:r.1.toList=(List.range (mask+1)).map λj=>r.1.getD j none:=by
   refine List.ext_getElem? λj=>?_;rw[c8,oW]
   by_cases z:j<mask+1
   . rw[List.getElem?_range z,qv (by rw[x.size];exact z),si,JA,qv (by rw[x.size];exact z)];rfl
   rw[VM (by rw[x.size];omega),aqE (by rw[Jy];omega)];rfl
  rw[e3,List.filterMap_map,List.map_filterMap]
  congr 1
  funext j
  show Option.map _ (Option.map _ (r.1.getD j none))=r.1.getD j none;cases r.1.getD j none<;>rfl
 have a0:((List.range (mask+1)).filterMap λj=>(r.1.getD j none).map (j,·)).length=hs.size:=by
  have:=fo List.length G;rw[ak,x.perm.length_eq,Jy,e2]at this;exact this
 unfold SetTable.laid;rw[Y];refine⟨_,_,rfl,?_,?_,rfl,rfl,rfl⟩
 . show(((List.range (mask+1)).filterMap λj=>(r.1.getD j none).map (j,·)).map (·.2)).Perm _;rw[G,<-e2];exact x.perm
 unfold SetTable.fits SetTable.fill;have J:((((List.range (mask+1)).filterMap λj=>(r.1.getD j none).map (j,·)).map (·.1)).toArray).size=hs.size:=by
  rw[gf,ak];exact a0
 have U:(#[]:Array Nat).size=0:=rfl;rw[io];refine⟨kO.mpr J,bE ?_⟩;show _+(#[]:Array Nat).size<=mask;rw[U,Jw];exact cn (wJ J) hl
def fK(w:World):Bool:=w.params.followText "set-order"
def iz(e:Int×Value):Str:=match e.2 with
 | .str y _=>y
 | _=>Str.ofString ""
def nZ(w:World)(e:Int×Value):Prop:=∃y tk,e=(mh w (.inr y),Value.str y tk)
structure eZ(w:World)(o:Obj)(es:Array (Int×Value))(ep:Nat)(t:SetTable)(xs:Ls):Prop where
 ex:o.ExactSet
 dat:o.data=.set es ep t
 good:∀e∈es.toList,nZ w e
 perm:(es.toList.map iz).Perm xs
 nd:xs.Nodup
 len:xs.length<=1000
 fit:t.fits es.size=true
 led:t.led = !fK w
 pl:es.size≠0->t.plain=false
 msk:es.size=0->pQ t.mask
def cQ(w:World)(h:Heap)(a:Addr)(xs:Ls):Prop:=∃o es ep t,h.get? a=some o/\eZ w o es ep t xs
theorem cQ.at'{h:Heap}(x:cQ w h a xs)(k:∀o,h.get? a=some o->h'.get? a=some o):cQ w h' a xs:=
 x.elim λo j=>j.elim λes z=>z.elim λep G=>G.elim λt J=>J.elim λe r=>⟨o,es,ep,t,k o e,r⟩
theorem cQ.typeIs(x:cQ w s.heap a xs):s.TypeIs (.ref a) "set":=x.elim λo j=>j.elim λ_ z=>z.elim λ_ G=>G.elim λ_ J=>J.elim λe r=>⟨o,e,r.ex.1⟩
section
variable {t:SetTable}
theorem eZ.elems(x:eZ w o es ep t xs):ElemsOf (cf P w) es.toList:=λe j=>by
 obtain⟨y,tk,rfl⟩:=x.good e j;exact⟨⟨.inr y,sJ P w y tk,rfl⟩,rfl⟩
theorem eZ.size(x:eZ w o es ep t xs):es.size=xs.length:=by
 have:=x.perm.length_eq;rw[ak,dW]at this;exact this
theorem eZ.bnd(x:eZ w o es ep t xs):es.size<scanBound:=by
 rw[x.size];have:=x.len;show _<4096;omega
theorem MP{y:Str}{e:Int×Value}(g:nZ w e):(cf P w).is (.inr y) e.2=true↔iz e=y:=by
 obtain⟨z,tk,rfl⟩:=g;constructor
 . intro h;have:=(cf P w).inj _ _ _ h (sJ P w z tk);injection this with this
   exact this.symm
 intro h;rw[<-h];exact sJ P w z tk
theorem eZ.find_some(x:eZ w o es ep t xs){y:Str}{j:Nat}(h:List.findIdx? (λe=>(cf P w).is (.inr y) e.2) es.toList=some j):y∈xs:=by
 obtain⟨G,J,_⟩:=List.findIdx?_eq_some_iff_getElem.mp h;have z:=Do G;exact x.perm.mem_iff.mp (ca.mpr ⟨_,z,(MP (x.good _ z)).mp J⟩)
theorem eZ.find_none(x:eZ w o es ep t xs){y:Str}(h:List.findIdx? (λe=>(cf P w).is (.inr y) e.2) es.toList=none):y∉xs:=λG=>by
 obtain⟨e,j,z⟩:=ca.mp (x.perm.mem_iff.mpr G);have:=List.findIdx?_eq_none_iff.mp h e j;rw[(MP (x.good _ j)).mpr z]at this;cases this
end
theorem ad9(t:SetTable)(es:Array (Int×Value))(h:Int)(x:Value):(layNew t es h x).2.1.led=t.led:=by
 unfold layNew;split
 . dsimp only;unfold SetTable.orStandIn;split<;>rfl
 rfl
theorem aea{f m:Nat}{led plain:Bool}{hs:Array Int}{r:SetTable×Array Nat}(e:SetTable.laid mask f m led plain hs=some r):r.1.led=led/\r.1.plain=plain/\r.1.mask=mask/\r.1.dummies = #[]:=by
 unfold SetTable.laid at e;cases j:SetTable.layClean mask hs with
 | none=>rw[j]at e;cases e
 | some ow=>
  rw[j]at e;cases e;exact⟨rfl,rfl,rfl,rfl⟩
theorem aeb(t:SetTable)(es:Array (Int×Value))(n:Nat):(relayAll t es n).2.1.led=t.led/\(t.plain=false->(relayAll t es n).2.1.plain=false):=by
 unfold relayAll;split
 . rename_i t' j e;dsimp only;split
   . obtain⟨h1,h2,_⟩:=aea e;exact⟨h1,λz=>h2.trans z⟩
   exact⟨rfl,λ_=>rfl⟩
 exact⟨rfl,λ_=>rfl⟩
def iV(xs:Ls)(y:Str):Ls:=if y∈xs then xs else xs++[y]
theorem MQ{y:Str}(h:xs.Nodup):(iV xs y).Nodup:=by
 unfold iV;split
 . exact h
 rename_i z;rw[qw];exact⟨h,by simp,λa j b G=>by rw[bF.mp G];exact λq=>z (q▸j)⟩
theorem E3{y z:Str}:z∈iV xs y↔z∈xs\/z=y:=by
 unfold iV;split
 . rename_i h;exact⟨.inl,λq=>q.elim id λq=>q▸h⟩
 simp
theorem A1(xs:Ls)(y:Str):(iV xs y).length<=xs.length+1:=by
 unfold iV;split
 . omega
 simp
section
variable {prog:Program}{A:Around}{E:VP}
theorem eZ.store{h:Heap}{es':Array (Int×Value)}{t t':SetTable}(j:h.get? a=some o)(x:o.ExactSet)(d:o.data=.set es ep t):(h.update a (Obj.putSet es' t')).get? a=some { o with data:=.set es' (ep+1) t' }:=by
 have q:=zR (Obj.putSet es' t') j (by rw[putSet_of es' t' d];rfl)
 rwa [putSet_of es' t' d]at q
theorem MR{g:Bool->Sem Unit}(hg:∀(b:Bool) (s₁:Shared) (Q':Unit->Shared->Prop),Q' () s₁->wpAny (model prog w) A (g b) Q' E s₁){j:Array (Int×Value)}{t t2:SetTable}{wd:Bool}{R:Option Bool->Shared->Prop}
 (ho:s.heap.get? a=some o) (O:o.ExactSet) (hd:o.data=.set es ep t) (gd:∀e∈j.toList,nZ w e) (pm:(j.toList.map iz).Perm ys) (nd:ys.Nodup) (ln:ys.length<=1000) (hf:t2.fits j.size=true) (ld:t2.led = !fK w) (pl:t2.plain=false) (ne:j.size≠0)
 (h:∀h',Heap.SameBut a s.heap h'->cQ w h' a ys->R (some true) { s with heap:=h' }) :
 wpAny (model prog w) A (do { storeSet a j t2;if (!wd && t2.tooFull)=true then do { g (relayAll t2 j (SetTable.grown j.size)).2.2;storeSet a (relayAll t2 j (SetTable.grown j.size)).1 (relayAll t2 j (SetTable.grown j.size)).2.1;pure (some true) } else pure (some true) }) R E s:=by
 have sz:j.size=ys.length:=by have:=pm.length_eq;rw[ak,dW]at this;exact this
 have b1:j.size<scanBound:=by rw[sz];show _<4096;omega
 refine af (zT ho hd ?_ (wR b1));have Y:=eZ.store (es':=j) (t':=t2) ho O hd;have sb:=lZ s.heap a (Obj.putSet j t2);split
 . have G:=relayAll_perm t2 j (SetTable.grown j.size);have tQ:=relayAll_fits t2 j (SetTable.grown j.size);have J:=aeb t2 j (SetTable.grown j.size);generalize hR:relayAll t2 j (SetTable.grown j.size)=Rl at G tQ J ⊢;obtain⟨U,t3,g2⟩:=Rl;dsimp only at G tQ J ⊢;have MS:U.size=j.size:=by rw[<-dW,G.length_eq,dW]
   refine af (hg _ _ _ (af (zT Y rfl ?_ (wR (by rw[MS];exact b1)))));have o2:=eZ.store (es':=U) (t':=t3) Y O rfl;exact au (h _ (sb.trans (lZ _ a _)) ⟨_,U,_,t3,o2,O,rfl,λe he=>gd e (G.mem_iff.mp he),(G.map iz).trans pm,nd,ln,tQ,J.1.trans ld,λ_=>J.2 pl,λz=>absurd (MS.symm.trans z) ne⟩)
 exact au (h _ sb ⟨_,j,_,t2,Y,O,rfl,gd,pm,nd,ln,hf,ld,λ_=>pl,λz=>absurd z ne⟩)
theorem E5{y:Str}{tk:Tok}{Q:Bool->Shared->Prop}(hS:cQ w s.heap a xs)(hl:xs.length<1000)(h:∀b h',Heap.SameBut a s.heap h'->cQ w h' a (iV xs y)->Q b { s with heap:=h' }) :
 wpAny (model prog w) A (setAddHashed a (.str y tk) (mh w (.inr y))) Q E s:=by
 obtain⟨o,es,ep,t,O,x⟩:=hS;have el:ElemsOf (cf prog w) es.toList:=x.elems;unfold setAddHashed setAddHashedIn;refine jT (af (iN O x.dat x.fit ?_));dsimp only;rw[byScan_of (x:=.str y tk) rfl x.bnd el];simp only[↓reduceIte];unfold setAddByScan;refine af (af (oR (af (wpAny_setScan_of (knd:=cf prog w) (k:=.inr y) (sJ prog w y tk) O x.dat x.fit el ?_))));cases hr:List.findIdx? (λe=>(cf prog w).is (.inr y) e.2) es.toList with
 | some j=>
  dsimp only;refine au (au ?_);have hy:=x.find_some hr;exact h false s.heap (Dp a s.heap) (by unfold iV;rw[am hy];exact⟨o,es,ep,t,O,x⟩)
 | none=>
  dsimp only;have hy:=x.find_none hr;have Y:=layNew_perm t es (mh w (.inr y)) (.str y tk);have A3:=layNew_fits t es (mh w (.inr y)) (.str y tk);have A4:=ad9 t es (mh w (.inr y)) (.str y tk);have e0:(cf prog w).hash (.inr y)=mh w (.inr y):=rfl
  try rw[e0]
  generalize hL:layNew t es (mh w (.inr y)) (.str y tk)=L at Y A3 A4 ⊢;obtain⟨di,t1,wd,a3⟩:=L;dsimp only at Y A3 A4 ⊢;rw[Array.toList_push]at Y;have gd:∀e∈di.toList,nZ w e:=λe he=>by
   rcases bY.mp (Y.mem_iff.mp he) with z | z
   . exact x.good e z
   exact⟨y,tk,bF.mp z⟩
  have ea:iV xs y=xs++[y]:=by unfold iV;rw[ah hy]
  have pm:(di.toList.map iz).Perm (iV xs y):=by
   rw[ea];refine(Y.map iz).trans ?_;rw[dq];exact x.perm.append_right _
  have ne:di.size≠0:=λz=>by
   have:=pm.length_eq;rw[ea,ak,dW,z,bI]at this;simp at this
  have ln:(iV xs y).length<=1000:=by have:=A1 xs y;omega
  have a1:∀(b:Bool) {U:Shared}{J:Unit->Shared->Prop},J () U->wpAny (model prog w) A (match b with | true=>rule "set.scan.the-table-gave-way" | false=>pure ()) J E U:=λb U J G=>by
   cases b
   . exact au G
   exact oR G
  refine af (a1 _ ?_);have a0:∀h',Heap.SameBut a s.heap h'->cQ w h' a (iV xs y)->wpAny (model prog w) A (pure true:Sem Bool) Q E { s with heap:=h' }:=λh' k z=>au (h true h' k z);split
  . refine af ?_;rw[hashByValue_scannable (x:=.str y tk) 8 rfl];refine au ?_;refine MR ?_ O x.ex x.dat gd pm (MQ x.nd) ln ?_ ?_ ?_ ne (λh' k z=>a0 h' k z)
    . intro b U J G;cases b
      . exact au G
      exact oR G
    . exact SetTable.fits_plain_off A3
    . exact A4.trans x.led
    rfl
  rename_i a2;refine af (au ?_);simp only[↓reduceIte];refine MR ?_ O x.ex x.dat gd pm (MQ x.nd) ln A3 (A4.trans x.led) (by simpa using a2) ne (λh' k z=>a0 h' k z);intro b U J G;cases b
  . exact au G
  exact oR G
end
theorem E6:∀{l:List α}{i:Nat} (h:i<l.length),(l[i]::l.eraseIdx i).Perm l
 | [],i,h=>absurd h (Jx _)
 | x::r,0,h=>.refl _
 | x::r,i+1,h=>by
  have h':i<r.length:=by simpa using h
  show(r[i]::x::r.eraseIdx i).Perm _;exact(List.Perm.swap ..).trans ((E6 (l:=r) (i:=i) h').cons x)
theorem MT(next:Nat->Nat):∀(f k:Nat) (left:List α) (out:Array α),f=left.length->(pickOrder.go next f k left out).toList.Perm (out.toList++left)
 | 0,k,left,out,h=>by
  rw[wP.mp h.symm];simp[pickOrder.go]
 | f+1,k,left,out,h=>by
  have j:next k % left.length<left.length:=Dn _ (by omega);unfold pickOrder.go;rw[gX j];dsimp only;refine(MT next f (k+1) _ _ (by rw[aqF j];omega)).trans ?_;rw[Array.toList_push,kS];exact List.Perm.append_left _ (E6 j)
theorem MU(next:Nat->Nat)(xs:Array α):(pickOrder next xs).toList.Perm xs.toList:=by
 have:=MT next xs.size 0 xs.toList #[] (by simp);simpa [pickOrder]using this
section
variable {prog:Program}{A:Around}{E:VP}
theorem aee(j:n≠0){Q:Nat->Shared->Prop}(h:∀i d,i<n->Q i { s with drawn:=d }):wpAny (model prog w) A (choose .order n) Q E s:=λΓ p hΓ=>by
 unfold choose;rw[Sem.wp_choose];refine⟨j,?_⟩;simp only[Sem.wp_pure];exact h _ _ (Dn _ (Nat.pos_of_ne_zero j))
theorem MV:∀(n:Nat) (l:List α) (s:Shared) (Q:List α->Shared->Prop),n=l.length->(∀out d,out.Perm l->Q out { s with drawn:=d })->wpAny (model prog w) A (drawOrder n l) Q E s
 | 0,l,s,Q,hn,h=>by
  have j:=wP.mp hn.symm;subst j;exact au (h [] s.drawn .nil)
 | n+1,l,s,Q,hn,h=>by
  cases l with
  | nil=>cases hn
  | cons x r=>
   show wpAny _ _ (choose .order (x::r).length >>= _) _ _ _;refine af (aee (by simp) λi d hi=>?_);rw[gX hi];dsimp only;refine af (MV n ((x::r).eraseIdx i) _ _ (by rw[aqF hi];simp at hn ⊢;omega) λout d2 z=>au ?_);exact h _ d2 ((z.cons _).trans (E6 hi))
end
def iW(h:Heap)(it a:Addr)(ep n:Nat)(f:Value)(i:Nat):Prop:=∃o,h.get? it=some o/\o.cls=.type "set_iterator"/\o.data=.fields #[f,rawInt i,.ref a,rawInt n,rawInt ep]
theorem iW.at'{h:Heap}{i:Nat}{f:Value}(x:iW h it a ep n f i)(k:∀o,h.get? it=some o->h'.get? it=some o):iW h' it a ep n f i:=x.elim λo j=>j.elim λe r=>⟨o,k _ e,r⟩
theorem iW.typeIs{i:Nat}{f:Value}(x:iW s.heap it a ep n f i):s.TypeIs (.ref it) "set_iterator":=x.elim λo j=>j.elim λe z=>z.elim λr _=>⟨o,e,r⟩
inductive Md (w:World) (h:Heap) (I a T:Addr) (es:Array (Int×Value)) (ep:Nat) (t:SetTable) (os:List (Int×Value)) (i:Nat):Prop
 | text (b:fK w=true) (e:os=(pickOrder (w.params.setOrder a ep) es).toList) (x:iW h I a ep es.size (rawInt 0) i)
 | draw (pl:List Nat) (b:fK w=false) (e:os.length=pl.length/\∀(k j:Nat),pl[k]?=some j->os[k]?=es[j]?) (x:iW h I a ep es.size (.ref T) i) (y:∃o n,h.get? T=some o/\o.data=.seq (pl.map λj=>rawInt (j:Nat)).toArray n) (z:I≠T)
 | tab (sl:Nat) (b:fK w=false) (l:es.size<=1) (e:os=es.toList) (x:iW h I a ep es.size (rawInt sl) i) (y:SetTable.below t.place sl=i)
def vw(w:World)(I a T:Addr)(os:List (Int×Value))(i:Nat)(h:Heap):Prop:=∃o es ep t xs,h.get? a=some o/\eZ w o es ep t xs/\os.Perm es.toList/\I≠a/\Md w h I a T es ep t os i
section
variable {prog:Program}{A:Around}{E:VP}
theorem E7{i:Nat}{f v:Value}{Q:Unit->Shared->Prop}(x:iW s.heap it a ep n f i)(q:∀h',Heap.SameBut it s.heap h'->iW h' it a ep n v i->Q () { s with heap:=h' }):wpAny (model prog w) A (setField (.ref it) 0 v) Q E s:=by
 obtain⟨o,j,z,hd⟩:=x;exact VN j hd (by simp) (q _ (lZ ..) ⟨_,zR _ j (aqG (JB hd _)),(Obj.cls_mapFields ..).trans z,by rw[JB hd];simp⟩)
theorem E8{i:Nat}{f:Value}{Q:Unit->Shared->Prop}(x:iW s.heap it a ep n f i)(q:∀h',Heap.SameBut it s.heap h'->iW h' it a ep n f (i+1)->Q () { s with heap:=h' }):wpAny (model prog w) A (setField (.ref it) 1 (rawInt ((i:Int)+1))) Q E s:=by
 obtain⟨o,j,z,hd⟩:=x;exact VN j hd (by simp) (q _ (lZ ..) ⟨_,zR _ j (aqG (JB hd _)),(Obj.cls_mapFields ..).trans z,by rw[JB hd];simp[rawInt]⟩)
theorem E9{i:Nat}{f:Value}{R:PySem.Fin->Shared->Prop}{j:VP}(hh:A.handled=none)(x:iW s.heap it a ep n f i)
 (q:∀h' e,Heap.ExtBut it s.heap h'->Shared.TypeIs { s with heap:=h' } e "StopIteration"->j e { s with heap:=h' }):wpAny (model prog w) A.in1 (do { setField (.ref it) 2 .none;raiseNew (<-newExc (.type "StopIteration") []) }) R j s:=by
 obtain⟨o,z,G,hd⟩:=x;refine af (VN z hd (by simp) ?_);show wpAny _ _ (newExc (.type "StopIteration") [] >>= _) _ _ _;refine af ?_;simp only[newExc,newTuple];refine af (zN ?_ (by size_fits));refine af (m:=firstArgMember _ _) (wpAny_of_eq (a:=Value.none) (by first | rfl | (simp only[firstArgMember];rfl)) ?_);refine zN ?_ (by size_fits);simp only[raiseNew];refine af (wpAny_handled ?_);rw[show A.in1.handled=none from hh];refine af (au (wpAny_throw ?_));refine q _ _ (((lZ ..).extBut.push _).push _) ?_;exact⟨_,dA _ rfl,rfl⟩
theorem MW(j:Nat):SetTable.below #[j] 0=0/\SetTable.below #[j] (j+1)=1:=by
 constructor
 . simp[SetTable.below,SetTable.below.go]
 simp[SetTable.below,SetTable.below.go]
theorem MX{t:SetTable}{i:Nat}{Q:Option (Value×Nat)->Shared->Prop}(b:fK w=true)(G:s.heap.get? a=some o)(hd:o.data=.set es ep t)(z:t.fits es.size=true)
 (q:Q (((pickOrder (w.params.setOrder a ep) es)[i]?).map λe=>(e.2,0)) s):wpAny (model prog w) A (setNext a 0 i ep) Q E s:=by
 have j:w.params.followText "set-order"=true:=b;unfold setNext;refine af (iN G hd z ?_);refine af (m:=setsByText) (af (qx (au ?_)));show wpAny _ _ (if w.params.followText "set-order"=true then _ else _) _ _ s;rw[am j,ah (show ¬((ep != ep)=true) by simp)];refine af ?_;unfold setWalk;refine af (iN G hd z ?_);refine af (m:=setsByText) (af (qx (au ?_)));show wpAny _ _ (if w.params.followText "set-order"=true then _ else _) _ _ s;rw[am j];exact af (qx (au (au q)))
theorem MY{t:SetTable}{sl i:Nat}{Q:Option (Value×Nat)->Shared->Prop}(b:fK w=false)(O:s.heap.get? a=some o)(hd:o.data=.set es ep t)(G:t.fits es.size=true)(J:t.led = !fK w)(l:es.size<=1)
 (q:Q (match es[SetTable.below t.place sl]?,t.place[SetTable.below t.place sl]? with | some (_,x),some j=>some (x,j+1) | _,_=>none) s):wpAny (model prog w) A (setNext a sl i ep) Q E s:=by
 have z:w.params.followText "set-order"=false:=b;unfold setNext;refine af (iN O hd G ?_);refine af (m:=setsByText) (af (qx (au ?_)));show wpAny _ _ (if w.params.followText "set-order"=true then _ else _) _ _ s;rw[ah (by rw[z];exact cS)];show wpAny _ _ (if (!t.plain && decide (es.size > 1))=true then _ else _) _ _ s;rw[ah (by rw[cu (by omega),uO];exact cS)];show wpAny _ _ ((if (!t.led && !es.isEmpty)=true then _ else _) >>= _) _ _ s;rw[ah (by rw[J,b];exact cS)];exact af (au (au q))
theorem vy{n i:Nat}{f:Value}{t:SetTable}{Q:Option Value->Shared->Prop}(x:iW s.heap it a ep es.size f i)(O:s.heap.get? a=some o)(hd:o.data=.set es ep t)(J:t.fits es.size=true)
 {E1:VP}
 (q:wpAny (model prog w) A.in1 (if let .int slot _:=f then
  (do
   match <-setNext a slot.toNat i ep with
   | some (x,next)=>setField (.ref it) 0 (rawInt next);setField (.ref it) 1 (rawInt ((i:Int)+1));ret x
   | none=>setField (.ref it) 2 .none;raiseNew (<-newExc (.type "StopIteration") []))
  else(do
   let some places <-seqItems? f | unsupported "internal:set_iterator"
   match places[i]? with
   | some (.int place _)=>let x <-setNextDrawn a place.toNat ep;setField (.ref it) 1 (rawInt ((i:Int)+1));ret x
   | some _=>unsupported "internal:set_iterator"
   | none=>setField (.ref it) 0 (rawInt 0);setField (.ref it) 2 .none;raiseNew (<-newExc (.type "StopIteration") [])))
  (λj s'=>∃v,j=.done (.ret v)/\Q (some v) s') (λe s'=>Shared.TypeIs s' e "StopIteration"/\Q none s') s) :
 wpAny (model prog w) A (pyNext (.ref it)) Q E s:=by
 obtain⟨oi,U,Y,G⟩:=id x;unfold pyNext;refine af (wpAny_attempt (wpAny_callSpecial?_slot (name:=Str.ofString "__next__") x.typeIs AX (rX AX x.typeIs adi ?_ (adl _))));unfold Builtin.«set_iterator.__next__»;refine af (au ?_);refine af (wpAny_fieldsOf U G ?_);show wpAny _ _ (setEntries a >>= _) _ _ s;unfold setEntries;refine af (af (iN O hd J (au ?_)));dsimp only;rw[ah (by simp)];refine eV q (λj s' z=>?_) (λe s' z=>?_)
 . obtain⟨v,rfl,z⟩:=z;exact⟨v,rfl,au z⟩
 exact af (oS (T:="StopIteration") (b:=true) z.1 isSubtype_stop (au z.2))
end
section
variable {prog:Program}{A:Around}{E:VP}{I T:Addr}
theorem Md.keep{h:Heap}{t:SetTable}{i:Nat}(x:Md w h I a T es ep t os i)(k:∀b,b=I\/b=T->∀o,h.get? b=some o->h'.get? b=some o):Md w h' I a T es ep t os i:=by
 cases x with
 | text b e x=>exact .text b e (x.at' (k I (.inl rfl)))
 | draw pl b e x y z=>
  obtain⟨o,n,e1,e2⟩:=y;exact .draw pl b e (x.at' (k I (.inl rfl))) ⟨o,n,k T (.inr rfl) o e1,e2⟩ z
 | tab sl b l e x y=>exact .tab sl b l e (x.at' (k I (.inl rfl))) y
theorem aek{i:Nat}{e:Int×Value}{Q:Option Value->Shared->Prop}(x:vw w I a T os i s.heap)(hi:os[i]?=some e)(q:∀h',Heap.SameBut I s.heap h'->vw w I a T os (i+1) h'->Q (some e.2) { s with heap:=h' }) :
 wpAny (model prog w) A (pyNext (.ref I)) Q E s:=by
 obtain⟨o,es,ep,t,xs,J,X,pm,vz,m⟩:=x;have done:∀h',Heap.SameBut I s.heap h'->Md w h' I a T es ep t os (i+1)->Q (some e.2) { s with heap:=h' }:=λh' k m'=>q h' k ⟨o,es,ep,t,xs,by rw[k.2 a (λz=>vz z.symm)];exact J,X,pm,vz,m'⟩;cases m with
 | text b G x=>
  have vA:(pickOrder (w.params.setOrder a ep) es)[i]?=some e:=by rw[G,oW]at hi;exact hi
  refine vy (E1:=E) (n:=0) x J X.dat X.fit ?_;show wpAny _ _ (setNext a 0 i ep >>= _) _ _ _;refine af (MX b J X.dat X.fit ?_);rw[vA];refine af (E7 x λh1 k1 x1=>af (E8 (s:={ s with heap:=h1 }) x1 λh2 k2 O=>au ⟨_,rfl,done h2 (k1.trans k2) (.text b G O)⟩))
 | draw pl b G x y z=>
  obtain⟨oT,nT,hT,U⟩:=y;have Y:i<pl.length:=by
   rw[<-G.1];exact(cM.mp hi).1
  have eR:pl[i]?=some pl[i]:=gX Y;have he:es[pl[i]]?=some e:=(G.2 i _ eR).symm.trans hi;refine vy (E1:=E) (n:=0) x J X.dat X.fit ?_;show wpAny _ _ (seqItems? (.ref T) >>= _) _ _ _;refine af (wF hT U ?_);have Fb:(pl.map λj=>rawInt (j:Nat)).toArray[i]?=some (rawInt (pl[i]:Nat)):=by simp[Y]
  dsimp only;rw[Fb];show wpAny _ _ (setNextDrawn a pl[i] ep >>= _) _ _ _;refine af ?_;unfold setNextDrawn;refine af (iN J X.dat X.fit ?_);dsimp only;rw[ah (show ¬((ep != ep)=true) by simp),he];refine au ?_;refine af (E8 x λh2 k2 O=>au ⟨_,rfl,done h2 k2 (.draw pl b G O ⟨oT,nT,by rw[k2.2 T (λq=>z q.symm)];exact hT,U⟩ z)⟩)
 | tab sl b l G x y=>
  have hz:es.size=1/\i=0:=by
   rw[G]at hi;have:=(cM.mp hi).1;rw[dW]at this;omega
  have Fc:es[i]?=some e:=by rw[G,oW]at hi;exact hi
  have bM:t.place.size=1:=by
   have:=X.fit;unfold SetTable.fits at this;simp only[io,kO]at this;omega
  obtain⟨j,hj⟩:∃j,t.place = #[j]:=by
   rcases hp:t.place with⟨l⟩
   rw[hp]at bM
   match l,bM with
   | [j],_=>exact⟨j,rfl⟩
  refine vy (E1:=E) (n:=0) x J X.dat X.fit ?_;show wpAny _ _ (setNext a sl i ep >>= _) _ _ _;refine af (MY b J X.dat X.fit X.led l ?_);have Fe:t.place[i]?=some j:=by rw[hj,hz.2];rfl
  rw[y,Fc,Fe];refine af (E7 x λh1 k1 x1=>af (E8 (s:={ s with heap:=h1 }) x1 λh2 k2 O=>au ⟨_,rfl,done h2 (k1.trans k2) (.tab (j+1) b l G O (by rw[hj,(MW j).2,hz.2]))⟩))
theorem ael{Q:Option Value->Shared->Prop}(hh:A.handled=none)(x:vw w I a T os os.length s.heap)(q:∀h',Heap.ExtBut I s.heap h'->Q none { s with heap:=h' }):wpAny (model prog w) A (pyNext (.ref I)) Q E s:=by
 obtain⟨o,es,ep,t,xs,G,X,pm,vz,m⟩:=x;have hn:os.length=es.size:=by rw[pm.length_eq,dW]
 have O:∀h' e,Heap.ExtBut I s.heap h'->Shared.TypeIs { s with heap:=h' } e "StopIteration"->Shared.TypeIs { s with heap:=h' } e "StopIteration"/\Q none { s with heap:=h' }:=λh' e k z=>⟨z,q h' k⟩;cases m with
 | text b J x=>
  refine vy (E1:=E) (n:=0) x G X.dat X.fit ?_;show wpAny _ _ (setNext a 0 os.length ep >>= _) _ _ _;refine af (MX b G X.dat X.fit ?_);have vA:(pickOrder (w.params.setOrder a ep) es)[os.length]?=none:=by
   have:(pickOrder (w.params.setOrder a ep) es).toList[os.length]?=none:=by rw[<-J];simp
   rwa [oW]at this
  rw[vA];exact E9 hh x O
 | draw pl b J x y z=>
  obtain⟨oT,nT,hT,U⟩:=y;refine vy (E1:=E) (n:=0) x G X.dat X.fit ?_;show wpAny _ _ (seqItems? (.ref T) >>= _) _ _ _;refine af (wF hT U ?_);have Y:(pl.map λj=>rawInt (j:Nat)).toArray[os.length]?=none:=by simp[J.1]
  dsimp only;rw[Y];refine af (E7 x λh1 k1 x1=>?_);refine E9 (s:={ s with heap:=h1 }) hh x1 λh' e k z=>O h' e (k1.extBut.trans k) z
 | tab sl b l J x y=>
  refine vy (E1:=E) (n:=0) x G X.dat X.fit ?_;show wpAny _ _ (setNext a sl os.length ep >>= _) _ _ _;refine af (MY b G X.dat X.fit X.led l ?_);have Fc:es[os.length]?=none:=by rw[hn];simp
  rw[y,Fc];exact E9 hh x O
theorem aem(hh:A.handled=none)(I a T:Addr)(os:List (Int×Value)):Walks prog w A I [I,a,T] [I] os.length (λi v=>∃e,os[i]?=some e/\v=e.2) (λi h=>vw w I a T os i h) where
 sub:=λb j=>by simp at j;simp[j]
 frame:=λi h h' st O=>by
  obtain⟨o,es,ep,t,xs,U,X,pm,Y,m⟩:=st;exact⟨o,es,ep,t,xs,O a (by simp) o U,X,pm,Y,m.keep λb j o e=>O b (by rcases j with rfl | rfl<;>simp) o e⟩
 item:=λi s Q E hi st G=>by
  refine aek st (gX hi) λh' k fT=>?_;exact G _ h' s.toks ⟨_,gX hi,rfl⟩ fT λb o j e=>k.extBut b o (λh=>j (by simp[h])) e
 done:=λs Q E st G=>ael hh st λh' j9=>G h' s.toks λb o j e=>j9 b o (λh=>j (by simp[h])) e
 self:=λi s Q E st G=>by
  obtain⟨o,es,ep,t,xs,U,X,pm,Y,m⟩:=st;have J:s.TypeIs (.ref I) "set_iterator":=by
   cases m with
   | text b e x=>exact x.typeIs
   | draw pl b e x y z=>exact x.typeIs
   | tab sl b l e x y=>exact x.typeIs
  refine VG J Mm (rX Mm J adj ?_ (adm _));show wpAny _ _ (ret (.ref I)) _ _ s;exact au ⟨_,rfl,"set_iterator",_,J,AX.lookup,G⟩
theorem MZ:∀{pl:List Nat},(∀j∈pl,j<es.size)->(pl.filterMap (es[·]?)).length=pl.length/\∀(k j:Nat),pl[k]?=some j->(pl.filterMap (es[·]?))[k]?=es[j]?
 | [],_=>⟨rfl,λk j h=>by cases h⟩
 | p::r,h=>by
  have J:p<es.size:=h p (by simp);have G:es[p]?=some es[p]:=qv J;obtain⟨h1,h2⟩:=MZ (pl:=r) λj O=>h j (bR _ O);rw[List.filterMap_cons_some G];refine⟨by simp[h1],λk j z=>?_⟩;cases k with
  | zero=>cases z;exact G.symm
  | succ k=>exact h2 k j z
theorem aen{Q:VP}(x:cQ w s.heap a xs)(hQ:∀I T d h' os,s.heap.objs.size<=I->(∀b o,s.heap.get? b=some o->h'.get? b=some o)->(T=a\/s.heap.objs.size<=T)->vw w I a T os 0 h'->(os.map iz).Perm xs->(∀e∈os,nZ w e)->Q (.ref I) { s with heap:=h',drawn:=d }) :
 wpAny (model prog w) A (pyIter (.ref a)) Q E s:=by
 obtain⟨o,es,ep,t,O,X⟩:=id x;have aT:=bK O;refine VG x.typeIs aqH (rX aqH x.typeIs adk ?_ (PySem.F.args_set_iter_1 _));unfold Builtin.«frozenset.__iter__»;refine af (m:=Builtin.Frozenset.slot0 _ _) (au ?_);refine af ?_;unfold Builtin.Frozenset.sizeOf setEntries;refine af (af (iN O X.dat X.fit (au (au ?_))));refine af ?_;unfold setDrawn;refine af (iN O X.dat X.fit ?_);refine af (m:=setsByText) (af (qx (au ?_)));show wpAny _ _ (pure (!fK w && (!t.plain && decide (es.size > 1)))) _ _ _;refine au ?_;have Y:∀(f:Value) (d:_) (h1:Heap),(∀b o,s.heap.get? b=some o->h1.get? b=some o)->s.heap.objs.size<=h1.objs.size ->
  (∀h',(∀b o,h1.get? b=some o->h'.get? b=some o)->iW h' h1.objs.size a ep es.size f 0->h1.objs.size<h'.objs.size->∃T os,(T=a\/s.heap.objs.size<=T)/\os.Perm es.toList/\Md w h' h1.objs.size a T es ep t os 0) ->
  wpAny (model prog w) A.in1 (setEpoch a >>= λe=>newFields "set_iterator" [f,rawInt 0,.ref a,rawInt es.size,rawInt e] >>= λv=>ret v) (λY s'=>∃v,Y=.done (.ret v)/\∃T r,s'.TypeIs v T/\typeLookup (.type T) "__next__"=pure (some r)/\Q v s') E { s with heap:=h1,drawn:=d }:=by
  intro f d h1 k1 hz hm;refine af ?_;unfold setEpoch;refine af (iN (s:={ s with heap:=h1,drawn:=d }) (k1 a o O) X.dat X.fit (au ?_));refine af (zN ?_);have G:iW (h1.push { cls:=.type "set_iterator",data:=.fields #[f,rawInt 0,.ref a,rawInt es.size,rawInt ep] }) h1.objs.size a ep es.size f 0:=⟨_,dA _ rfl,rfl,rfl⟩;obtain⟨T,os,hT,pm,m⟩:=hm _ (λb o e=>b9 _ e) G (by rw[rZ];exact wK _);refine au ⟨_,rfl,"set_iterator",_,G.typeIs (s:={ s with heap:=_,drawn:=d }),AX.lookup,?_⟩;refine hQ h1.objs.size T d _ os hz (λb o e=>b9 _ (k1 b o e)) hT ⟨o,es,ep,t,xs,b9 _ (k1 a o O),X,pm,kN (gL aT hz),m⟩ ((pm.map iz).trans X.perm) λe he=>X.good e (pm.mem_iff.mp he)
 cases hb:(!fK w && (!t.plain && decide (es.size > 1))) with
 | false=>
  rw[ah cS];refine af (m:=pure (rawInt 0)) (au ?_);refine Y (rawInt 0) s.drawn s.heap (λb o e=>e) (aK _) λh' k G hl=>?_;cases J:fK w with
  | true=>exact⟨a,_,.inl rfl,MU _ _,.text J rfl G⟩
  | false=>
   have hs:es.size<=1:=by
    refine Nat.le_of_not_lt λz=>?_;rw[J,X.pl (by omega),bE (by omega:es.size > 1)]at hb;cases hb
   refine⟨a,_,.inl rfl,.refl _,.tab 0 J hs rfl G ?_⟩;have bM:t.place.size=es.size:=by
    have:=X.fit;unfold SetTable.fits at this;simp only[io,kO]at this;exact this.1
   rcases U:t.place with⟨l⟩
   rw[U]at bM
   match l,bM with
   | [],_=>rfl
   | [j],_=>exact(MW j).1
   | _::_::_,z=>simp at z;omega
 | true=>
  have J:fK w=false:=by cases J:fK w with | false=>rfl | true=>rw[J]at hb;cases hb
  rw[am rfl];refine af (MV es.size (List.range es.size) s _ (by simp) λpl d U=>?_);have hsz:es.size<=sizeLine:=wR X.bnd;refine af (wpAny_newTuple ?_ (by rw[ak,U.length_eq,Jy];exact hsz));have eR:∀j∈pl,j<es.size:=λj hj=>uM.mp (U.mem_iff.mp hj);obtain⟨g1,g2⟩:=MZ eR;refine Y (.ref s.heap.objs.size) d (s.heap.push { cls:=.type "tuple",data:=.seq (pl.map fun(i:Nat)=>rawInt i).toArray }) (λb o e=>b9 _ e) (by rw[rZ];exact qr _) λh' k G hl=>?_;refine⟨s.heap.objs.size,pl.filterMap (es[·]?),.inr (aK _),?_,.draw pl J ⟨g1,g2⟩ G ⟨_,0,k _ _ (dA _ rfl),rfl⟩ (kN (by rw[rZ];exact wK _))⟩;exact(U.filterMap _).trans (by rw[aqI])
end
theorem Ff:∀{os:List (Int×Value)},(∀e∈os,nZ w e)->StrsAre (os.map (·.2)) (os.map iz)
 | [],_=>.nil
 | e::r,h=>by
  obtain⟨y,tk,rfl⟩:=h e (by simp);exact .cons y tk (Ff λe j=>h e (bR _ j))
section
variable {prog:Program}{A:Around}{E:VP}
theorem aeo{R:Result->Shared->Prop}(hh:A.handled=none)(x:cQ w s.heap a xs)(S:Addr)(O:S≠a)(res:Value)(c₀:Nat)(hS:s.heap.get? S=some { cls:=.type "list",data:=.seq #[] c₀ })
 (hR:∀(h':Heap) (tk:Nat) (d:Drawn) (os:List (Int×Value)) (a0:Av) (c':Nat),(∀b o,b≠S->s.heap.get? b=some o->h'.get? b=some o)->h'.get? S=some { cls:=.type "list",dict:=none,data:=.seq a0 c',slots:=#[] }->a0.toList=os.map (·.2)->(os.map iz).Perm xs->(∀e∈os,nZ w e)->R (.ok (.ret res)) { s with heap:=h',toks:=tk,drawn:=d }) (hn:xs.length<=sizeLine) :
 wpAny (model prog w) A.in1 (Builtin.List.listExtendWith (.ref S) (.ref a) res) (λa2 s'=>match a2 with | .done f=>R (.ok f) s' | .again c'=>c'.quiet=true/\codeAny (model prog w) A c' R s') (λe s'=>R (.error e) s') s:=by
 unfold Builtin.List.listExtendWith;refine af (Jv (T:="set") x.typeIs ?_);have h1:Builtin.List.listSameRef (.ref S) (.ref a)=false:=by simp[Builtin.List.listSameRef,O]
 have h2:(Value.type "set" == Value.type "list")=false:=by decide
 have h3:(Value.type "set" == Value.type "tuple")=false:=by decide
 simp only[h1,h2,h3,r9,qm,nv];refine af (aen x λI T d hp os hI kp hT st pm gd=>?_);have xS:=bK hS;have ln:os.length=xs.length:=by have:=pm.length_eq;rwa [ak]at this
 have a3:S≠T:=λz=>hT.elim (λq=>O (z.trans q)) λq=>absurd (gL (z▸xS) q) (oU _);have xT:S∉[I,a,T]:=by
  simp only[bf,ft,fw,ny];exact⟨cX (gL xS hI),O,a3⟩
 have W:=aem (prog:=prog) (w:=w) (A:=A.in1) hh I a T os;have a1:∀(h:Heap) (U tk:Nat),vw w I a T os 0 h->(∀b o,b≠S->s.heap.get? b=some o->h.get? b=some o)->h.get? S=some { cls:=.type "list",data:=.seq #[] U } ->
  codeAny (model prog w) A (.builtin "list.extend.loop" ⟨[.ref S,.ref I,res],[]⟩) R { s with heap:=h,toks:=tk,drawn:=d }:=by
  intro h U tk eM hk J;refine codeAny_extend_loopS W.toS (by omega) S xT res os.length 0 _ #[] U rfl (dF _) eM J (ItemsOf.nil _) λs' M0 c' hm ib Y=>?_;rw[Moved.eq_with hm];refine hR s'.heap s'.toks d os M0 c' (λb o G e=>hm.heap b o (λtR=>?_) (hk b o G e)) ib ?_ pm gd
  . rcases bf.mp tR with e' | tR
    . exact G e'
    have aT:=bK e;rw[bF.mp tR]at aT;exact absurd (gL aT hI) (oU _)
  refine List.ext_getElem? λj=>?_;rw[oW,c8]
  by_cases hj:j<os.length
  . have M2:j<M0.size:=by rw[Y.1];exact hj
    obtain⟨e,he,hv⟩:=Y.2 j _ (qv M2);rw[he,qv M2,hv];rfl
  rw[VM (by rw[Y.1];omega),aqE (by omega)];rfl
 have J:=kp _ _ hS;refine af (jT (ado (cQ.typeIs (s:={ s with heap:=hp,drawn:=d }) (x.at' λo e=>kp a o e)) ?_));refine VL (λ_=>?_) (λ_=>au ⟨su aqJ _,a1 _ c₀ _ st (λb o _ e=>kp b o e) J⟩);refine af (oR (af ?_));show wpAny _ _ (updateSeq S (·.push .none) >>= λ_=>updateSeq S (·.pop)) _ _ _;refine af (Dq (s:={ s with heap:=hp,drawn:=d }) J rfl ?_);have M3:=zR (Obj.mapSeq (·.push Value.none)) J rfl;refine Dq (hz:=by seq_fits) M3 rfl ?_;have a4:=zR (Obj.mapSeq (·.pop)) M3 rfl;refine au ⟨su aqJ _,a1 _ _ _ (W.frame 0 _ _ st λb G o e=>?_) (λb o G e=>?_) a4⟩
 . have M4:b≠S:=λh=>xT (h▸G);exact(Di _ _ (gy M4)).trans ((Di _ _ (gy M4)).trans e)
 exact(Di _ _ (gy G)).trans ((Di _ _ (gy G)).trans (kp b o e))
theorem aer{R:Lw->Shared->Prop}(hh:A.handled=none)(x:cQ w s.heap a xs)
 (h:∀(h':Heap) (tk:Nat) (d:Drawn) (us:Lw) (ys:Ls),(∀b o,s.heap.get? b=some o->h'.get? b=some o)->StrsAre us ys->ys.Perm xs->R us { s with heap:=h',toks:=tk,drawn:=d }) (hn:xs.length<=sizeLine):wpAny (model prog w) A (collect (.ref a)) R E s:=by
 obtain⟨o,_,_,_,ho,_⟩:=id x;have O:=bK ho;unfold collect;refine af (wpAny_runValue (sw PyProof.Rows.entry_proto_collect' ?_));rw[uR PySem.F.plain_proto_collect _];show wpAny _ A.in1 (newList [] >>= λl=>again (.builtin "list.__iadd__" ⟨[l,.ref a],[]⟩)) _ _ s;refine af (zN (au ⟨su aqK _,sw PyProof.Rows.entry_list_iadd' ?_⟩));rw[uR aqK _];show wpAny _ A.in1 (Builtin.List.listExtendWith (.ref s.heap.objs.size) (.ref a) (.ref s.heap.objs.size)) _ _ _;have a0:=aeo (prog:=prog) (A:=A) (s:={ s with heap:=s.heap.push { cls:=.type "list",data:=.seq ([]:Lw).toArray } })
  (R:=fun(q:Result) (s':Shared)=>∃(h':Heap) (tk:Nat) (d:Drawn) (os:List (Int×Value)) (j:Av) (c':Nat),q=.ok (.ret (.ref s.heap.objs.size))/\s'={ s with heap:=h',toks:=tk,drawn:=d }/\(∀b o,s.heap.get? b=some o->h'.get? b=some o) /\
   h'.get? s.heap.objs.size=some { cls:=.type "list",dict:=none,data:=.seq j c',slots:=#[] }/\j.toList=os.map (·.2)/\(os.map iz).Perm xs/\∀e∈os,nZ w e)
  hh (x.at' λo e=>b9 _ e) s.heap.objs.size (kN O) (.ref s.heap.objs.size) 0 (dA _ rfl)
  (λh' tk d os j c' G J e1 e2 e3=>⟨h',tk,d,os,j,c',rfl,rfl,λb o e=>G b o (cX (bK e)) (b9 _ e),J,e1,e2,e3⟩) hn
 refine eV a0 (λY s' z=>?_) λe s' z=>?_
 . cases Y with
   | done f=>
    obtain⟨h',tk,d,os,j,c',e,rfl,G,J,e1,e2,e3⟩:=z;cases e;show wpAny _ A (load s.heap.objs.size >>= _) _ _ _;refine af (wpAny_load (s:={ s with heap:=h',toks:=tk,drawn:=d }) J (au ?_));exact h h' tk d _ _ G (by rw[e1];exact Ff e3) e2
   | again c₁=>
    refine⟨z.1,qp z.2 λq s₂ y=>?_⟩;obtain⟨h',tk,d,os,j,c',rfl,rfl,G,J,e1,e2,e3⟩:=y;show wpAny _ A (load s.heap.objs.size >>= _) _ _ _;refine af (wpAny_load (s:={ s with heap:=h',toks:=tk,drawn:=d }) J (au ?_));exact h h' tk d _ _ G (by rw[e1];exact Ff e3) e2
 obtain⟨_,_,_,_,_,_,U,_⟩:=z;cases U
theorem aes{r:Addr}{Q:VP}(U:wpAny (model prog w) A.in1 (collect (.ref r)) (λus s'=>∃(ys:Ls) (h':Heap) (tk:Nat) (d:Drawn),s'={ s with heap:=h',toks:=tk,drawn:=d }/\StrsAre us ys/\us.length<64 /\
 ∀(h2:Heap) (out:Lw) (j:Ls) (e:Nat),(∀b o,h'.get? b=some o->h2.get? b=some o)->h2.get? h'.objs.size=some (seqObj "list" out.toArray e)->StrsAre out j->j.Perm ys->sortedS j=true->Q (.ref h'.objs.size) { s with heap:=h2,toks:=tk,drawn:=d }) E s) :
 wpAny (model prog w) A (call (.builtin "sorted") [.ref r]) Q E s:=by
 refine aqy kind_sorted plain_sorted entry_sorted (args_sorted1 _) ?_;unfold Builtin.«sorted»;refine af (m:=checkCount "sorted" 1 1 _) (au ?_);refine af (eV U (λus s' a0=>a0.elim λys a3=>a3.elim λh' a4=>a4.elim λtk a5=>a5.elim λd a6=>a6.elim λes a7=>a7.elim λz a8=>a8.elim λqR a9=>?_) λ_ _ e=>e);subst es;refine af (VE ?_ (by rw[uN];omega));have G:(h'.push (seqObj "list" us.toArray 0)).get? h'.objs.size=some (seqObj "list" us.toArray 0):=dA _ rfl;show wpAny _ _ _ _ _ { s with heap:=h'.push (seqObj "list" us.toArray 0),toks:=tk,drawn:=d };refine af (jT (rX slot_list_sort ⟨_,G,rfl⟩ entry_list_sort (list_sort_treeK strKind_oneLt G z.keysOf (λv₁ v₂ rest e=>keyKind_strs (by rw[<-e];exact z)) qR λJ Y a2=>⟨_,rfl,?_⟩) (args_list_sort _)));obtain⟨j,h1,h2,h3⟩:=sorted_out_str z Y a2;obtain⟨e,he⟩:=sortedHeap_at (vs:=us) (out:=(arrOf J).map (·.2)) G;refine au ⟨_,rfl,a9 _ ((arrOf J).map (·.2)).toList j e (λb o q=>?_) (by rw[Jt];exact he) h1 h2 h3⟩;have O:=bK q;rw[sortedHeap_old (cX O) (by rw[rZ];exact VF O)];exact b9 _ q
end
def oh(w:World)(a:Addr)(xs:Ls):HO:=.ext λh=>cQ w h a xs
theorem Fi{H:Hp}{h:Heap}(x:cQ w h a xs):cb P w H h a (oh w a xs):=
 ⟨x,x.elim λo j=>j.elim λ_ G=>G.elim λ_ J=>J.elim λ_ O=>O.elim λe _=>⟨o,e⟩,λ_ _ z k=>z.at' k⟩
theorem Fj{H:Hp}{h:Heap}(ok:cC P w H h)(e:H a=some (oh w a xs)):cQ w h a xs:=(show cb P w H h a (oh w a xs) from ok a _ e).1
section
variable {X:Cx}{ad:Po}{Z:List (Option V)} {H:Hp}
theorem Inv.drew{d:Drawn}(I:Inv X ad Z H s):Inv X ad Z H { s with drawn:=d }:=⟨I.ok,I.os,I.bare,I.base,I.loc,I.cell,I.free,I.freeC,I.pin,I.hok,I.len⟩
theorem Fk(O:X.calm=true):fh X (.builtin "sorted") (λvs H Q=>∃p xs,vs=[.ref p]/\H p=some (oh X.w p xs)/\xs.length<64/\∀ys,ys.Perm xs->sortedS ys=true->dL H (.lst (ys.map V.str)) Q):=by
 intro ad s Z H xs us Q I r h;obtain⟨p,zs,rfl,e,qR,q⟩:=h;obtain⟨u,rfl,ru⟩:=vals1 r;cases ru;refine aes (aer (I.ok.hd O) (Fj I.hok e) (λh' tk d us ys k hs G=>?_) (j8 (by omega)));have hl:=G.length_eq;have tD:=Dl hs;have j:Inv X ad Z H { s with heap:=h',toks:=tk,drawn:=d }:=(I.kept (t':=tk) k).drew;refine⟨ys,h',tk,d,rfl,hs,by omega,λh2 out J e' k2 U Y z tM=>?_⟩;have EN:=z.length_eq;exact⟨.ref h'.objs.size,_,EM (s:={ s with drawn:=d }) j k2 U Y (j8 (by omega)),rfl,(q J (z.trans G) tM).at _ (j.hok.fresh (aK _))⟩
end
theorem M6{j:Array Nat}(z:j.toList.Perm (List.range es.size)):(j.filterMap (es[·]?)).toList.Perm es.toList:=by
 rw[Array.toList_filterMap];exact(z.filterMap _).trans (by rw[aqI])
theorem aeE(h:n<=252):pQ (SetTable.sizeAbove n - 1)/\n<=SetTable.sizeAbove n - 1/\SetTable.sizeAbove n<=256:=by
 have hd:(List.range 253).all (λn=>decide ((SetTable.sizeAbove n - 1=7\/SetTable.sizeAbove n - 1=15\/SetTable.sizeAbove n - 1=31\/SetTable.sizeAbove n - 1=63\/SetTable.sizeAbove n - 1=127\/SetTable.sizeAbove n - 1=255)/\n<=SetTable.sizeAbove n - 1/\SetTable.sizeAbove n<=256))=true:=by decide +kernel
 unfold pQ;exact cT (ip.mp hd n (uM.mpr (by omega)))
section
variable {prog:Program}{A:Around}{E:VP}
theorem Fl:eZ w { cls:=.type "set",dict:=none,data:=.set #[] 0 (.fresh 0 0 (!fK w)) } #[] 0 (.fresh 0 0 (!fK w)) []:=
 ⟨⟨rfl,rfl,rfl⟩,rfl,(λe j=>by cases j),.nil,.nil,by decide,rfl,rfl,λh=>absurd rfl h,λ_=>.inl rfl⟩
theorem aeF{t:SetTable}{Q:Unit->Shared->Prop}(G:s.heap.get? a=some o)(X:eZ w o es ep t xs)(hn:n<=252)(hx:xs.length<=n)
 (q:∀h' o' es' t',Heap.SameBut a s.heap h'->h'.get? a=some o'->eZ w o' es' (ep+1) t' xs->n<=t'.mask->Q () { s with heap:=h' }):wpAny (model prog w) A (setRelay a n) Q E s:=by
 obtain⟨m1,m2,m3⟩:=aeE hn;unfold setRelay;refine af (iN G X.dat X.fit ?_);dsimp only;have sl:¬(SetTable.sizeAbove n > sizeLine):=by rw[uN];omega
 rw[ah sl];have hz:=X.size;have hsz:(es.map (·.1)).size=es.size:=Array.size_map;obtain⟨t',J,e,Y,O,hl,eR,U⟩:=MO (mask:=SetTable.sizeAbove n - 1) (f:=t.finger) (m:=t.movedTo (SetTable.sizeAbove n - 1)) (led:=t.led) (plain:=t.plain) (hs:=es.map (·.1)) m1 (by rw[hsz];omega);rw[hsz]at Y O;have e':t.relaid (es.map (·.1)) n=some (t',J):=e;rw[e'];have pm:=M6 Y;have j:(J.filterMap (es[·]?)).size=es.size:=by rw[<-dW,pm.length_eq,dW]
 refine af ?_;show wpAny _ _ (if ((J.filterMap (es[·]?)).size != es.size)=true then _ else _) _ _ _;rw[ah (by rw[j];simp)];refine au ?_;dsimp only;refine zT G X.dat ?_ (by rw[j];exact wR X.bnd);refine q _ _ _ t' (lZ ..) (eZ.store G X.ex X.dat) ⟨X.ex,rfl,λe he=>X.good e (pm.mem_iff.mp he),(pm.map iz).trans X.perm,X.nd,X.len,by rw[j];exact O,hl.trans X.led,λz=>eR.trans (X.pl (by rw[<-j];exact z)),λ_=>by rw[U];exact m1⟩ (by rw[U];exact m2)
theorem M7{Q:Unit->Shared->Prop}(x:cQ w s.heap a xs)(hn:xs.length+n<=126)
 (q:∀h' o' es' U t',Heap.SameBut a s.heap h'->h'.get? a=some o'->eZ w o' es' U t' xs->(t'.fill=0->n<=t'.mask)->Q () { s with heap:=h' }):wpAny (model prog w) A (setRoomFor a n) Q E s:=by
 obtain⟨o,es,ep,t,G,X⟩:=x;have j:t.place.size=xs.length:=by
  have:=X.fit;unfold SetTable.fits at this;simp only[io,kO]at this;rw[this.1,X.size]
 unfold setRoomFor;refine af (iN G X.dat X.fit ?_);show wpAny _ _ (match t.roomFor n with | some Y=>setRelay a Y | x=>pure PUnit.unit) _ _ _;unfold SetTable.roomFor
 by_cases J:(t.fill+n) * 5 >= t.mask * 3
 . rw[am J];refine aeF G X (by rw[j];omega) (by rw[j];omega) λh' o' es' t' k h1 h2 O=>q h' o' es' _ t' k h1 h2 λ_=>by rw[j]at O;omega
 rw[ah J];exact au (q s.heap o es ep t (Dp _ _) G X λz=>by rw[z]at J;omega)
end
section
variable {prog:Program}{A:Around}{E:VP}{f:Addr}
theorem aeG{t:SetTable}{Q:Array (Int×Value)->Shared->Prop}(G:s.heap.get? a=some o)(X:eZ w o es ep t xs)(c:fK w=true\/es.size<=1)(q:∀z:Array (Int×Value),z.toList.Perm es.toList->Q z s) :
 wpAny (model prog w) A (setWalk a) Q E s:=by
 unfold setWalk;refine af (iN G X.dat X.fit ?_);refine af (m:=setsByText) (af (qx (au ?_)));cases j:fK w with
 | true=>
  have j:w.params.followText "set-order"=true:=j;show wpAny _ _ (if w.params.followText "set-order"=true then _ else _) _ _ s;rw[am j];exact af (qx (au (q _ (MU _ _))))
 | false=>
  have hs:es.size<=1:=by
   rcases c with c | c
   . rw[c]at j;cases j
   exact c
  have j:w.params.followText "set-order"=false:=j;show wpAny _ _ (if w.params.followText "set-order"=true then _ else _) _ _ s;rw[ah (by rw[j];exact cS)];show wpAny _ _ (if (!t.plain && decide (es.size > 1))=true then _ else _) _ _ s;rw[ah (by rw[cu (by omega),uO];exact cS)];show wpAny _ _ ((if (!t.led && decide (es.size > 1))=true then _ else _) >>= _) _ _ s;rw[ah (by rw[cu (by omega),uO];exact cS)];exact af (au (au (q _ (.refl _))))
theorem aeH{G:List Addr}{Q:Bool->Shared->Prop}(h:∀b∈G,∃xs,cQ w s.heap b xs)(q:Q true s):wpAny (model prog w) A (setsQuiet G) Q E s:=by
 unfold setsQuiet;refine af (wE _ (λrest r s'=>r.1=none/\s'=s/\∀b∈rest,∃xs,cQ w s.heap b xs) _ ?_ ?_ _ _ ⟨rfl,rfl,h⟩)
 . rintro b rest r s' ⟨e1,rfl,U⟩;obtain⟨xs,o,es,ep,t,ho,X⟩:=U b (by simp);unfold setEntries;refine af (af (iN ho X.dat X.fit (au ?_)));refine af (wpAny_forIn_array' _ (λJ j z=>j.1=none/\z=s'/\∀e∈J,nZ w e) _ ?_ ?_ _ _ ⟨rfl,rfl,X.good⟩)
   . rintro e J j z ⟨e3,rfl,O⟩;obtain⟨y,tk,rfl⟩:=O e (by simp);exact au ⟨rfl,rfl,λe he=>O e (bR _ he)⟩
   rintro⟨j,u2⟩ z ⟨e3,rfl,_⟩;dsimp only at e3;subst e3;exact au ⟨rfl,rfl,λb Y=>U b (bR _ Y)⟩
 rintro⟨r,u⟩ s' ⟨e1,rfl,_⟩;dsimp only at e1;subst e1;exact au q
theorem aeI{t:SetTable}{U:Ls}{Q:Array (Int×Value)->Shared->Prop}(J:s.heap.get? a=some o)(X:eZ w o es ep t U)(y:cQ w s.heap f xs)(cU:f≠a)
 (q:∀h' (j:Array (Int×Value)),Heap.SameBut f s.heap h'->cQ w h' f xs->j.toList.Perm es.toList->Q j { s with heap:=h' }):wpAny (model prog w) A (setWalkUnseen a [f] (some f)) Q E s:=by
 unfold setWalkUnseen;refine af (iN J X.dat X.fit ?_);refine af (m:=setsByText) (af (qx (au ?_)));show wpAny _ _ (if (fK w || (t.led && t.plain) || decide (es.size<=1))=true then _ else _) _ _ _
 by_cases c:(fK w || (t.led && t.plain) || decide (es.size<=1))=true
 . rw[am c];refine aeG J X ?_ λj pm=>q s.heap j (Dp _ _) y pm
   by_cases hz:es.size<=1
   . exact .inr hz
   rw[X.pl (by omega),cu hz,uO,r9,r9]at c;exact .inl c
 rw[ah c];refine af (aeH (λb hb=>?_) ?_)
 . rcases bf.mp hb with rfl | hb
   . exact⟨U,o,es,ep,t,J,X⟩
   rw[bF.mp hb];exact⟨xs,y⟩
 show wpAny _ _ (if (!true)=true then _ else _) _ _ _;rw[ah (by decide)];refine af (oR ?_);obtain⟨of,Y,a0,O,G,F⟩:=id y;show wpAny _ _ (setState f >>= _) _ _ _;refine af (iN G F.dat F.fit ?_);dsimp only;split
 . refine af (zT G F.dat ?_ (wR F.bnd));refine au (q _ es (lZ ..) ⟨_,Y,_,_,eZ.store G F.ex F.dat,F.ex,rfl,F.good,F.perm,F.nd,F.len,?_,?_,?_,?_⟩ (.refl _))
   . have:=F.fit;cases O;exact this
   . show(O.led && t.led)=_;rw[F.led,X.led,VO]
   . intro z;show(O.plain && t.plain)=false;rw[F.pl z,Dd]
   exact F.msk
 exact au (q s.heap es (Dp _ _) y (.refl _))
theorem Nb{a0:Sem Unit}{j:Array (Int×Value)}{t:SetTable}{O:Ls}{Q:Unit->Shared->Prop}(ho:s.heap.get? a=some o)(X:eZ w o j ep t O)(y:cQ w s.heap f xs)(U:f≠a)(hz:xs.length+O.length<=126)
 (hE:∀(s':Shared) (Q:Unit->Shared->Prop),s'.heap.get? a=some o->Q () s'->wpAny (model prog w) A a0 Q E s')
 (q:∀h' ys,Heap.SameBut f s.heap h'->cQ w h' f ys->(∀z,z∈ys↔z∈xs\/z∈O)->Q () { s with heap:=h' }):wpAny (model prog w) A (setMerge f a a0) Q E s:=by
 have ze:=X.size;unfold setMerge;rw[ah (by simpa using U)];refine af (iN ho X.dat X.fit ?_);dsimp only
 by_cases G:j.isEmpty=true
 . rw[am G];have h0:O=[]:=wP.mp (by rw[<-ze];simpa using G);exact au (q s.heap xs (Dp _ _) y λz=>by rw[h0];simp)
 rw[ah G];refine af (M7 (n:=j.size) y (by rw[ze];exact hz) λh1 of di qU t1 k1 e1 F hm=>?_);have oj:h1.get? a=some o:=by rw[k1.2 a (gy U)];exact ho
 refine af (iN (s:={ s with heap:=h1 }) e1 F.dat F.fit ?_);dsimp only;have bM:t1.place.size=xs.length:=by
  have:=F.fit;unfold SetTable.fits at this;simp only[io,kO]at this;rw[this.1,F.size]
 have Nc:j.size≠0:=λz=>G (by simpa using z);have gC:t1.fill=0->xs=[]/\di.size=0:=λz=>by
  unfold SetTable.fill at z;have:xs.length=0:=by omega
  exact⟨wP.mp this,by rw[F.size,this]⟩
 by_cases A6:t1.fill=0
 . obtain⟨hx,EH⟩:=gC A6;unfold SetTable.road;rw[ah (by rw[A6];simp)]
   by_cases hr:(t1.mask == t.mask && t.dummies.isEmpty)=true
   . rw[am hr];dsimp only;refine zT e1 F.dat ?_ (wR X.bnd);refine q _ O (k1.trans (lZ ..)) ⟨_,j,_,_,eZ.store e1 F.ex F.dat,F.ex,rfl,X.good,X.perm,X.nd,X.len,?_,?_,?_,λz=>absurd z Nc⟩ λz=>by rw[hx];simp
     . have:=X.fit;cases t;exact this
     . show(t1.led && t.led)=_;rw[F.led,X.led,VO]
     intro z;show(t1.plain && t.plain)=false;rw[X.pl z,uO]
   rw[ah hr];dsimp only;have hsz:(j.map (·.1)).size=j.size:=Array.size_map;obtain⟨t',a1,e,hp,hf,hl,eR,A7⟩:=MO (mask:=t1.mask) (f:=t1.finger) (m:=t1.moves) (led:=t1.led && t.led) (plain:=t1.plain && t.plain) (hs:=j.map (·.1)) (F.msk EH) (by rw[hsz];exact hm A6);rw[hsz]at hp hf;rw[e];have pm:=M6 hp;have Y:(a1.filterMap (j[·]?)).size=j.size:=by rw[<-dW,pm.length_eq,dW]
   refine af ?_;show wpAny _ _ (if ((a1.filterMap (j[·]?)).size != j.size)=true then _ else _) _ _ _;rw[ah (by rw[Y];simp)];refine au ?_;dsimp only;refine zT e1 F.dat ?_ (by rw[Y];exact wR X.bnd);refine q _ O (k1.trans (lZ ..)) ⟨_,_,_,t',eZ.store e1 F.ex F.dat,F.ex,rfl,λe G=>X.good e (pm.mem_iff.mp G),(pm.map iz).trans X.perm,X.nd,X.len,by rw[Y];exact hf,?_,?_,λz=>absurd (Y.symm.trans z) Nc⟩ λz=>by rw[hx];simp
   . rw[hl,F.led,X.led,VO]
   intro z;rw[eR,X.pl (by rw[<-Y];exact z),uO]
 unfold SetTable.road;rw[am (by simpa using A6)];dsimp only;refine af (aeI (s:={ s with heap:=h1 }) oj X ⟨of,di,qU,t1,e1,F⟩ U λh2 a2 k2 y2 pm=>?_);have xV:h2.get? a=some o:=by rw[k2.2 a (gy U)];exact oj
 refine af (wpAny_forIn_array' _ (λrest _ s'=>∃J ys,s'={ s with heap:=J }/\Heap.SameBut f s.heap J/\cQ w J f ys/\(∀e∈rest,nZ w e)/\ys.length+rest.length<=252/\∀z,(z∈ys\/z∈rest.map iz)↔(z∈xs\/z∈O)) _ ?_ ?_ _ _ ⟨h2,xs,rfl,k1.trans k2,y2,λe G=>X.good e (pm.mem_iff.mp G),?_,λz=>?_⟩)
 . rintro e rest r s' ⟨J,ys,rfl,k3,y3,hg,hl,tR⟩;obtain⟨z,tk,rfl⟩:=hg e (by simp);have A8:J.get? a=some o:=by rw[k3.2 a (gy U)];exact ho
   rw[cq]at hl;refine af (jT (E5 (s:={ s with heap:=J }) y3 (by omega) λb h4 k4 y4=>?_));have A9:h4.get? a=some o:=by rw[k4.2 a (gy U)];exact A8
   refine af (hE _ _ A9 ?_);refine af (iN (s:={ s with heap:=h4 }) A9 X.dat X.fit ?_);dsimp only;rw[ah (by simp)];refine au ⟨h4,iV ys z,rfl,k3.trans k4,y4,λe G=>hg e (bR _ G),by have:=A1 ys z;omega,λu=>?_⟩;rw[<-tR u,E3,bV,bf];have ek:iz (mh w (.inr z),Value.str z tk)=z:=rfl;rw[ek];constructor
   . rintro((p | p) | p)
     . exact .inl p
     . exact .inr (.inl p)
     exact .inr (.inr p)
   rintro(p | p | p)
   . exact .inl (.inl p)
   . exact .inl (.inr p)
   exact .inr p
 . rintro r s' ⟨J,ys,rfl,k3,y3,_,_,tR⟩;exact au (q J ys k3 y3 λz=>by rw[<-tR z];simp)
 . have e9:j.toList.length=j.size:=dW;have e8:=pm.length_eq;omega
 have:z∈a2.toList.map iz↔z∈O:=((pm.map iz).trans X.perm).mem_iff;rw[this]
end
theorem iX[DecidableEq α]:∀{xs ys:List α},xs.Nodup->(∀z∈xs,z∈ys)->xs.length<=ys.length
 | [],ys,_,_=>dF _
 | x::xs,ys,hn,h=>by
  have j:=h x (by simp);have G:=qt.mp hn;have:=iX (xs:=xs) (ys:=ys.erase x) G.2 λz hz=>(List.mem_erase_of_ne (λe=>G.1 (by rw[<-e];exact hz))).mpr (h z (bR _ hz));rw[List.length_erase_of_mem j]at this;have J:0<ys.length:=aqL j;rw[cq];omega
section
variable {prog:Program}{A:Around}{E:VP}{f:Addr}
theorem Fn{v:Value}{Q:Bool->Shared->Prop}(j:s.TypeIs v "set")(q:Q true s):wpAny (model prog w) A (Builtin.Frozenset.isAnySet v) Q E s:=by
 unfold Builtin.Frozenset.isAnySet;show wpAny _ _ (isInstance v (.type "set") >>= _) _ _ _;exact af (oS (T:="set") (b:=true) j VQ (au q))
theorem aeJ{v:Value}{Q:Bool->Shared->Prop}(j:s.TypeIs v "dict")(q:Q false s):wpAny (model prog w) A (Builtin.Frozenset.isAnySet v) Q E s:=by
 unfold Builtin.Frozenset.isAnySet;show wpAny _ _ (isInstance v (.type "set") >>= _) _ _ _;refine af (oS (T:="dict") (b:=false) j PySem.F.sub_dict_set ?_);exact oS (T:="dict") (b:=false) j PySem.F.sub_dict_frozenset q
theorem aeK{Q:VP}(h:Q (.ref s.heap.objs.size) { s with heap:=s.heap.push { cls:=.type "set",dict:=none,data:=.set #[] 0 (.fresh 0 0 (!fK w)) } }):wpAny (model prog w) A (newSet (.type "set")) Q E s:=by
 unfold newSet;refine af (m:=setsByText) (af (qx (au ?_)));exact zN h
theorem aeL{Q:VP}(x:cQ w s.heap a xs)(hz:xs.length<=126)(q:∀h' ys,(∀b o,s.heap.get? b=some o->h'.get? b=some o)->s.heap.objs.size<h'.objs.size->cQ w h' s.heap.objs.size ys->(∀z,z∈ys↔z∈xs)->Q (.ref s.heap.objs.size) { s with heap:=h' }) :
 wpAny (model prog w) A (Builtin.Frozenset.copyOf a) Q E s:=by
 obtain⟨o,es,ep,t,j,X⟩:=id x;have G:=bK j;unfold Builtin.Frozenset.copyOf;refine af ?_;unfold Builtin.Frozenset.baseOf;refine af (oS (T:="set") (b:=true) x.typeIs VQ (au ?_));rw[am rfl];refine af (aeK ?_);refine af (m:=Builtin.Frozenset.addrOf _) (au ?_);have U:=b9 { cls:=.type "set",dict:=none,data:=.set #[] 0 (.fresh 0 0 (!fK w)) } j;refine af (Nb (s:={ s with heap:=_ }) U X ⟨_,_,_,_,dA _ rfl,Fl⟩ (kN G) (by simpa using hz) (λs' Q _ h=>au h) λh' ys k y O=>au ?_);refine q h' ys (λb o e=>?_) ?_ y λz=>by rw[O z];simp
 . rw[k.2 b (cX (bK e))];exact b9 _ e
 obtain⟨o',_,_,_,J,_⟩:=y;exact bK J
theorem aeM:entryFor table "set.__or__"=some Builtin.«frozenset.__or__»:=Ju (id':="frozenset.__or__") (by kernel_rfl) rfl (by decide +kernel) (by kernel_rfl)
theorem aeN{l r:Addr}{Q:VP}(x:cQ w s.heap l xs)(y:cQ w s.heap r ys)(U:l≠r)(hz:xs.length+ys.length<=126)
 (q:∀h' zs,(∀b o,s.heap.get? b=some o->h'.get? b=some o)->cQ w h' s.heap.objs.size zs->(∀z,z∈zs↔z∈xs\/z∈ys)->Q (.ref s.heap.objs.size) { s with heap:=h' }) :
 wpAny (model prog w) A (call (.builtin "set.__or__") [.ref l,.ref r]) (λv s'=>v≠.notImplemented/\Q v s') E s:=by
 refine rX PySem.F.slot_set_or x.typeIs aeM ?_ (PySem.F.args_set_or_2 _ _);unfold Builtin.«frozenset.__or__»;show wpAny _ _ (Builtin.Frozenset.slot1 "__or__" ⟨[.ref l,.ref r],[]⟩ >>= _) _ _ _;refine af (m:=Builtin.Frozenset.slot1 _ _) (au ?_);dsimp only;rw[ah cS];dsimp only;refine af ?_;show wpAny _ _ (Builtin.Frozenset.isAnySet (.ref l) >>= _) _ _ _;refine af (Fn x.typeIs ?_);refine Fn y.typeIs ?_;show wpAny _ _ (if (!true)=true then _ else _) _ _ _;rw[ah (by decide)];refine af (m:=Builtin.Frozenset.addrOf _) (au ?_);refine af ?_;show wpAny _ _ (Builtin.Frozenset.copyOf l >>= _) _ _ _;obtain⟨ox,_,_,_,a0,_⟩:=id x;have a2:=bK a0;refine af (aeL x (by omega) λh1 zs k1 xW O G=>?_);show wpAny _ _ (if (Value.ref r != Value.ref l)=true then _ else _) _ _ _;rw[am (by simp[bne];exact λz=>U z.symm)];have J:=y.at' (h':=h1) λo e=>k1 _ o e;obtain⟨o,es,ep,t,j,X⟩:=id J;obtain⟨oy,_,_,_,a1,_⟩:=id y;have Y:=bK a1;have lz:zs.length<=xs.length:=by
  obtain⟨_,_,_,_,_,σ⟩:=O;obtain⟨_,_,_,_,_,X0⟩:=x;exact iX σ.nd λz hz=>(G z).mp hz
 refine af (m:=Builtin.Frozenset.addrOf _) (au (af (jT ?_)));unfold Builtin.Frozenset.updateFrom;refine af (Fn (s:={ s with heap:=h1 }) J.typeIs ?_);rw[am rfl];refine af (m:=Builtin.Frozenset.addrOf _) (au ?_);refine af (m:=setEpoch r) (wpAny_setEpoch_of (s:={ s with heap:=h1 }) j X.dat X.fit ?_);refine Nb (s:={ s with heap:=h1 }) j X O (kN Y) (by omega) (λs' Q' e q'=>?_) λh2 us k2 u2 m2=>?_
 . unfold Builtin.Frozenset.unchanged;refine af (wpAny_setEpoch_of e X.dat X.fit ?_);rw[ah (by simp)];exact au q'
 refine au (au ⟨_,rfl,(by intro z;cases z),q h2 us (λb o e=>?_) u2 λz=>by rw[m2 z,G z]⟩);rw[k2.2 b (cX (bK e))];exact k1 b o e
def iA(w:World):Obj:={ cls:=.type "set",dict:=none,data:=.set #[] 0 (.fresh 0 0 (!fK w)) }
theorem aeR(v:Value){Q₁:VP}(h:Q₁ (.ref s.heap.objs.size) { s with heap:=s.heap.push (iA w) }):codeAny (model prog w) A (.call (.builtin "set.__new__") ⟨[.type "set",v],[]⟩) (wants Q₁ E) s:=by
 refine codeAny_of_tree ?_;show wpAny _ A.in1 (do { checkBuiltinCall "set.__new__" ⟨[.type "set",v],[]⟩;again (.builtin "set.__new__" ⟨[.type "set",v],[]⟩) }) _ _ s;refine af (wpAny_of_eq (PySem.F.newCall_set_1 v) (au ⟨su aqM _,sw PySem.F.entry_set_new ?_⟩));rw[uR aqM _];unfold Builtin.«set.__new__» Builtin.Frozenset.newClass;have j:=VQ;obtain⟨z,g,d,tk,os⟩:=s;dsimp only
 wp_walk
 refine qx (au ?_);dsimp only;simp only[newObj];exact af (wpAny_alloc (au (au h)))
theorem Nd{v:Value}{Q:VP}(hq:∀J:Around,J.handled=A.handled->wpAny (model prog w) J (Builtin.Frozenset.updateFrom "set.__init__" s.heap.objs.size v) (λ_ s'=>Q (.ref s.heap.objs.size) s') E { s with heap:=s.heap.push (iA w) }) :
 wpAny (model prog w) A (call (.type "set") [v]) Q E s:=by
 obtain⟨c,tl,a2⟩:=uS.mro;have a3:=uS.made;have a1:=uS.sub;refine De (codeAny_of_tree ?_);show wpAny _ _ (callAny (.type "set") _) _ _ _;refine au ⟨Code.quiet_builtin _ (by decide +kernel),sw PySem.F.entry_type_call ?_⟩;rw[Around.under_plain (weight_type_call_type "set" [v] []) rfl];have h1:=uS.notType;have h2:=uS.canCreate;have hct:=PySem.F.typeCall_set_1 v
 repeat (any_goals (first | assumption | wp_step))
 refine qp (aeR v (E:=E) (Q₁:=λobj Y=>obj=.ref s.heap.objs.size/\Y={ s with heap:=s.heap.push (iA w) }) ⟨rfl,rfl⟩) λr Y G=>?_;cases r with
 | error e=>exact G
 | ok fl=>
  cases fl with
  | ret obj=>
   obtain⟨rfl,rfl⟩:=G;have O:(s.heap.push (iA w)).get? s.heap.objs.size=some (iA w):=dA _ rfl;have hT:Shared.TypeIs { s with heap:=s.heap.push (iA w) } (.ref s.heap.objs.size) "set":=⟨_,O,rfl⟩;have a6:=uS.init.lookup;have a5:=uS.init.bind (.ref s.heap.objs.size)
   repeat (any_goals (first | assumption | wp_step))
   refine qp (codeAny_call_builtin (R:=wants (λr s₂=>r=.none/\Q (.ref s.heap.objs.size) s₂) E) uS.init.plain PySem.F.entry_set_init (check_set_init_1 hT ?_)) λr₂ s₂ j=>?_
   . unfold Builtin.«set.__init__» noKeywords;have U:=hq;generalize a4:Builtin.Frozenset.updateFrom=UF at U ⊢;have ib:(s.heap.push (iA w)).get? s.heap.objs.size=some { cls:=.type "set",dict:=none,data:=.set #[] 0 (.fresh 0 0 (!fK w)) }:=O
     wp_walk
     exact eV (U _ rfl) (λ_ s' z=>au ⟨rfl,z⟩) λ_ _ e=>e
   cases r₂ with
   | error e=>exact j
   | ok a0=>
    cases a0 with
    | ret r=>
     obtain⟨rfl,z⟩:=j
     repeat (any_goals (first | assumption | wp_step))
    | _=>exact j.elim
  | _=>exact G.elim
theorem aeU{v:Value}{Q:Bool->Shared->Prop}(j:s.TypeIs v "list")(q:Q false s):wpAny (model prog w) A (Builtin.Frozenset.isAnySet v) Q E s:=by
 unfold Builtin.Frozenset.isAnySet;show wpAny _ _ (isInstance v (.type "set") >>= _) _ _ _;refine af (oS (T:="list") (b:=false) j PySem.F.sub_list_set ?_);exact oS (T:="list") (b:=false) j PySem.F.sub_list_frozenset q
theorem aeV{R:Result->Shared->Prop}{I S:Addr}{fp Y:List Addr}{P:Nat->Value->Prop}{St:Nat->Heap->Prop}(W:Walks prog w A.in1 I fp Y n P St)(xT:S∉fp)(hv:∀i v,P i v->∃y tk,ys[i]?=some y/\v=.str y tk)(j:n<=500)(hn:ys.length=n) :
 ∀(k i:Nat) (s:Shared) (xs:Ls),n - i=k->i<=n->St i s.heap->cQ w s.heap S xs->xs.length<=i->(∀h' tk zs,(∀b o,b≠S->b∉Y->s.heap.get? b=some o->h'.get? b=some o)->cQ w h' S zs->(∀z,z∈zs↔z∈xs\/z∈ys.drop i)->R (.ok (.ret .none)) { s with heap:=h',toks:=tk }) ->
  codeAny (model prog w) A (.builtin "set.update.loop" ⟨[.ref S,.ref I],[]⟩) R s:=by
 have Nf:S∉Y:=λh=>xT (W.sub _ h);intro k
 induction k with
 | zero=>
  intro i s xs hk hi J U hl O;have jE:i=n:=by omega
  subst jE;refine sw aqN ?_;rw[uR VR _];show wpAny _ A.in1 (pyNext (.ref I) >>= _) _ _ s;refine af (W.done s _ _ J λh' tk G=>?_);show wpAny _ A.in1 (ret Value.none) _ _ _;exact au (O h' tk xs (λb o _ j e=>G b o j e) (U.at' λo e=>G S o Nf e) λz=>by rw[List.drop_eq_nil_of_le (by omega)];simp)
 | succ k ih=>
  intro i s xs hk hi J U hl O;have aT:i<n:=by omega
  refine sw aqN ?_;rw[uR VR _];show wpAny _ A.in1 (pyNext (.ref I) >>= _) _ _ s;refine af (W.item i s _ _ aT J λv h1 Ng hP xY G=>?_);obtain⟨y,tk,hy,rfl⟩:=hv i v hP;have ib:cQ w h1 S xs:=U.at' λo e=>G S o Nf e;show wpAny _ A.in1 (holding [Value.str y tk] (setAdd S (.str y tk)) >>= _) _ _ _;refine af (jT ?_);unfold setAdd;refine jT (af ((cf prog w).pyHash (k:=.inr y) (sJ prog w y tk) ?_));refine E5 (s:={ s with heap:=h1,toks:=Ng+1 }) ib (by omega) λb h2 k2 S2=>?_;have ld:=A1 xs y;have hd:ys.drop i=y::ys.drop (i+1):=by
   obtain⟨vA,e⟩:=cM.mp hy;rw[<-e];exact Jp vA
  refine au ⟨su VR _,ih (i+1) { s with heap:=h2,toks:=Ng+1 } (iV xs y) (by omega) aT (W.frame _ h1 _ xY λb j o e=>?_) S2 (by omega) λh' oq zs kk σ mem=>?_⟩
  . rw[k2.2 b (λh:b=S=>xT (by rw[<-h];exact j))];exact e
  refine O h' oq zs (λb o j hw e=>kk b o j hw ?_) σ λz=>?_
  . rw[k2.2 b j];exact G b o hw e
  rw[mem z,E3,hd,bf];constructor
  . rintro((p | p) | p)
    . exact .inl p
    . exact .inr (.inl p)
    exact .inr (.inr p)
  rintro(p | p | p)
  . exact .inl (.inl p)
  . exact .inl (.inr p)
  exact .inr p
theorem aeW{l:Addr}{j:Av}{Q:VP}(hh:A.handled=none)(U:s.heap.IsList l j)(hv:∀(i:Nat) (v:Value),j[i]?=some v->∃y tk,ys[i]?=some y/\v=Value.str y tk)(O:j.size<=500)(hn:ys.length=j.size)
 (q:∀h' tk zs,(∀b o,s.heap.get? b=some o->h'.get? b=some o)->cQ w h' s.heap.objs.size zs->(∀z,z∈zs↔z∈ys)->Q (.ref s.heap.objs.size) { s with heap:=h',toks:=tk }):wpAny (model prog w) A (call (.type "set") [.ref l]) Q E s:=by
 refine Nd λJ hA=>?_;have G:(s.heap.push (iA w)).IsList l j:=U.push _;obtain⟨ol,Ba,mQ,nl,a1⟩:=id U;have Y:l<s.heap.objs.size:=bK Ba;unfold Builtin.Frozenset.updateFrom;refine af (aeU (s:={ s with heap:=_ }) G.typeIs ?_);rw[ah cS];refine af (Jv (s:={ s with heap:=_ }) G.typeIs ?_);rw[ah (by decide)];refine af (Jh (s:={ s with heap:=_ }) G ?_);refine af (wpAny_runValue ?_);have hz:(s.heap.push (iA w)).objs.size=s.heap.objs.size+1:=rZ _ _;have a0:l≠(s.heap.push (iA w)).objs.size:=by rw[hz];exact cX (VF Y)
 refine aeV (Dr (A:=J.in1) (by rw[show J.in1.handled=J.handled from rfl,hA,hh]) _ l a0 j) (S:=s.heap.objs.size) ?_ hv O hn (j.size - 0) 0 _ [] (by omega) (dF _) ⟨⟨_,dA _ rfl,rfl,rfl⟩,G.push _⟩
  ⟨_,_,_,_,b9 _ (dA _ rfl),Fl⟩ (dF _) λh' tk zs k σ m=>?_
 . simp only[bf,ft,fw,ny];exact⟨by rw[hz];exact cX (wK _),kN Y⟩
 show wpAny _ _ _ _ _ _;refine au (q h' tk zs (λb o e=>k b o (cX (bK e)) (λO=>?_) (b9 _ (b9 _ e))) σ λz=>by rw[m z];simp);have:=bK e;rw[bF.mp O,hz]at this;exact absurd (Nat.lt_of_succ_lt this) (oU _)
end
section
variable {prog:Program}{A:Around}{E:VP}
theorem aeY{d:Addr}{es:Array DictEntry}{ks:Ls}{Q:VP}(ho:s.heap.get? d=some o)(hc:o.cls=.type "dict")(hd:o.data=.dict es ep)(hm:(d == sysModules)=false)(hn:ks.length=es.size)(hb:ks.length<=63)
 (hk:∀(i:Nat) (e:DictEntry),es[i]?=some e->∃y tk,ks[i]?=some y/\e.key=Value.str y tk/\e.hash=mh w (.inr y))
 (q:∀h' zs,(∀b o,s.heap.get? b=some o->h'.get? b=some o)->cQ w h' s.heap.objs.size zs->(∀z,z∈zs↔z∈ks)->Q (.ref s.heap.objs.size) { s with heap:=h' }):wpAny (model prog w) A (call (.type "set") [.ref d]) Q E s:=by
 refine Nd λA' hA=>?_;have aT:=bK ho;have G:=b9 (iA w) ho;have Y:Shared.TypeIs { s with heap:=s.heap.push (iA w) } (.ref d) "dict":=⟨_,G,hc⟩;unfold Builtin.Frozenset.updateFrom;refine af (aeJ Y ?_);rw[ah cS];refine af (Jv Y ?_);rw[am (by decide)];refine af (oR ?_);refine af (m:=Builtin.Frozenset.addrOf _) (au ?_);rw[hm,ah cS];refine af (wpAny_dictEpoch (s:={ s with heap:=s.heap.push (iA w) }) G hd ?_);refine af (Js (s:={ s with heap:=s.heap.push (iA w) }) G hd ?_);have a0:cQ w (s.heap.push (iA w)) s.heap.objs.size []:=⟨_,_,_,_,dA _ rfl,Fl⟩;refine af (M7 (s:={ s with heap:=s.heap.push (iA w) }) (n:=es.size) a0 (by rw[<-hn];simpa using cn hb (by decide)) λh1 o1 di qU t1 k1 e1 X1 _=>?_);have J:d≠s.heap.objs.size:=cX aT;have xV:h1.get? d=some o:=by rw[k1.2 d J];exact G
 refine af (Js (s:={ s with heap:=h1 }) xV hd ?_);refine af ?_;rw[Std.Legacy.Range.forIn_eq_forIn_range'];simp only[Std.Legacy.Range.size,Nat.sub_zero,Nat.add_sub_cancel,Nat.div_one];refine wE _ (λrest _ s'=>∃h' i zs,s'={ s with heap:=h' }/\rest=List.range' i (es.size - i)/\i<=es.size/\Heap.SameBut s.heap.objs.size (s.heap.push (iA w)) h'/\cQ w h' s.heap.objs.size zs/\zs.length<=i/\∀z,z∈zs↔z∈ks.take i) _ ?_ ?_ _ _ ⟨h1,0,[],rfl,by simp,dF _,k1,⟨_,_,_,_,e1,X1⟩,aK _,λz=>by simp⟩
 . rintro x rest b s' ⟨h',i,zs,rfl,j,hi,kk,σ,hl,mem⟩;have U:i<es.size:=by
    rcases Nat.lt_or_ge i es.size with h | h
    . exact h
    rw[Nat.sub_eq_zero_of_le h]at j;simp at j
   obtain⟨rfl,Fp⟩:x=i/\rest=List.range' (i+1) (es.size - (i+1)):=by
    have e:es.size - i=(es.size - (i+1))+1:=by omega
    rw[e,List.range'_succ]at j;injection j with h1 h2;exact⟨h1,h2⟩
   have O:h'.get? d=some o:=by rw[kk.2 d J];exact G
   refine af (Js (s:={ s with heap:=h' }) O hd ?_);have hg:es[x]?=some es[x]:=qv U;obtain⟨y,tk,hy,kY,Fq⟩:=hk x _ hg;rw[hg];dsimp only;rw[kY,Fq];refine af (jT (E5 (s:={ s with heap:=h' }) σ (by omega) λb h2 k2 Z2=>?_));have A9:h2.get? d=some o:=by rw[k2.2 d J];exact O
   refine af (wpAny_dictEpoch (s:={ s with heap:=h2 }) A9 hd ?_);rw[ah (by simp)];refine au ⟨h2,x+1,iV zs y,rfl,Fp,U,kk.trans k2,Z2,by have:=A1 zs y;omega,λz=>?_⟩;rw[E3,mem z,gY,hy];simp
 rintro b s' ⟨h',i,zs,rfl,j,hi,kk,σ,hl,mem⟩;have jE:i=es.size:=by
  rcases Nat.lt_or_ge i es.size with h | h
  . have e:es.size - i=(es.size - (i+1))+1:=by omega
    rw[e,List.range'_succ]at j;exact nomatch j
  exact VS hi h
 refine au (q h' zs (λb o e=>?_) σ λz=>by rw[mem z,jE,<-hn,eI]);rw[kk.2 b (cX (bK e))];exact b9 _ e
end
def Fs(w:World)(H:Hp)(ys:Ls)(Q:VK):Prop:=∀r xs H',H r=none->ac H H'->H' r=some (oh w r xs)->xs.Nodup->(∀z,z∈xs↔z∈ys)->Q (.ref r) H'
theorem cQ.nd{h:Heap}(x:cQ w h a xs):xs.Nodup:=x.elim λ_ j=>j.elim λ_ z=>z.elim λ_ G=>G.elim λ_ J=>J.elim λ_ X=>X.nd
theorem Ni{us:Lw}(h:StrsAre us ys):us.length=ys.length/\∀(i:Nat) (v:Value),us[i]?=some v->∃y tk,ys[i]?=some y/\v=Value.str y tk:=by
 induction h with
 | nil=>exact⟨rfl,λi v e=>by cases e⟩
 | cons y t _ j=>
  refine⟨by simp[j.1],λi v e=>?_⟩;cases i with
  | zero=>cases e;exact⟨y,t,rfl,rfl⟩
  | succ i=>exact j.2 i v e
theorem Nj:∀{ys:Ls}{us:Lw},bc (ys.map V.str) us->StrsAre us ys
 | [],us,r=>by cases r;exact .nil
 | y::ys,us,r=>by
  cases r with
  | cons a b=>
   obtain⟨t,rfl⟩:=a;exact .cons y t (Nj b)
section
variable {X:Cx}
theorem Nk(z:X.calm=true):fh X (.type "set") (λvs H Q=>∃p ys,vs=[.ref p]/\aa X.K H p (ys.map V.str)/\ys.length<=500/\Fs X.w H ys Q):=by
 intro ad s Z H xs us Q I r h;obtain⟨p,ys,rfl,G,hz,q⟩:=h;obtain⟨u,rfl,O⟩:=vals1 r;cases O;obtain⟨b_,U,J,Y⟩:=I.list G;have hs:=Ni (Nj U);refine aeW (I.ok.hd z) J.isList (ys:=ys) (λi v e=>hs.2 i v (by simpa using e)) (by simp;omega) (by simp[hs.1]) λh' tk zs k σ m=>?_;have j:=I.hok.fresh (aK s.heap.objs.size);exact⟨.ref s.heap.objs.size,_,I.laid (t':=tk) (a:=s.heap.objs.size) (o:=oh X.w s.heap.objs.size zs) k (aK _) (Fi σ),rfl,q _ zs _ j (fC j) aD σ.nd m⟩
theorem Nl:fh X (.type "set") (λvs H Q=>∃p kvs ks,vs=[.ref p]/\H p=some (.dK kvs)/\pN kvs ks/\ks.length<=63/\Fs X.w H ks Q):=by
 intro ad s Z H xs us Q I r h;obtain⟨p,kvs,ks,rfl,e,qS,hz,q⟩:=h;obtain⟨u,rfl,ru⟩:=vals1 r;cases ru;obtain⟨z,hd,vs,a0,dd⟩:=iS I.hok e;obtain⟨o,es,ep,ho,hx,a1,Bb,mR,No⟩:=id dd;have a3:=a0.length;have l1:kvs.length=ks.length:=by have:=fo List.length qS;simpa using this
 have l2:es.size=vs.length:=by have:=mR.length;simpa using this
 have hS:StrsAre (es.toList.map (·.key)) ks:=AS (X:=X) qS a0 (by rw[ak,dW];exact l2) λj v G=>by
  rw[c8]at G;cases J:es.toList[j]? with
  | none=>rw[J]at G;cases G
  | some O=>
   rw[J]at G;cases G;have a2:=(cM.mp J).1;rw[dW]at a2;obtain⟨kv,tN⟩:∃kv,vs[j]?=some kv:=⟨vs[j]'(by omega),gX _⟩;exact⟨kv.1,kv.2,tN,(mR.get? J tN).1⟩
 refine aeY (ks:=ks) ho hx.1 a1 hd (by omega) hz (λi O hi=>?_) λh' zs k σ m=>?_
 . obtain⟨y,tk,hy,Y⟩:=(Ni hS).2 i O.key (by rw[c8,oW,hi];rfl);obtain⟨k',U,Fq⟩:=Bb O (aqO hi);refine⟨y,tk,hy,Y,?_⟩;rw[Y]at U;rw[Fq,(cf X.prog X.w).inj _ _ _ U (sJ X.prog X.w y tk)];rfl
 have hn:=I.hok.fresh (aK s.heap.objs.size);exact⟨.ref s.heap.objs.size,_,I.laid (t':=s.toks) (a:=s.heap.objs.size) (o:=oh X.w s.heap.objs.size zs) k (aK _) (Fi σ),rfl,q _ zs _ hn (fC hn) aD σ.nd m⟩
theorem ae6:cw X (binaryOp .BitOr) (λx y H Q=>∃p q xs ys,x=.ref p/\y=.ref q/\p≠q/\H p=some (oh X.w p xs)/\H q=some (oh X.w q ys)/\xs.length+ys.length<=126/\Fs X.w H (xs++ys) Q):=by
 intro ad s Z H x y v u Q I U Y h;obtain⟨p,q,xs,ys,rfl,rfl,J,e1,e2,hz,O⟩:=h;cases U;cases Y;have x1:=Fj I.hok e1;have G:=Fj I.hok e2;refine wpAny_binaryOp_same (op:=.BitOr) (T:="set") x1.typeIs G.typeIs PySem.F.fills_set_or PySem.F.slot_set_or (aeN x1 G J hz λh' zs k σ m=>?_);have j:=I.hok.fresh (aK s.heap.objs.size);exact⟨.ref s.heap.objs.size,_,I.laid (t':=s.toks) (a:=s.heap.objs.size) (o:=oh X.w s.heap.objs.size zs) k (aK _) (Fi σ),rfl,O _ zs _ j (fC j) aD σ.nd λz=>by rw[m z];simp⟩
end
theorem ae7{K:Fg}{mg:Mv}{base:Heap}{k:Nat}{q c':Addr}{params:Arguments}{body:Expr}{scope:Scope}{pm iB:Value}{N ps:Ls}{A:Around}{outer:List Env}{H:Hp}{us:Lw}{vs:ae}{Q:VK}{E:XK}{t:TE}
 (S:aP N ps scope) (z:ce (k+1) A) (j:mv P w K mg base A outer s H) (ho:s.heap.get? q=some (W.kla_obj "<lambda>" a_ params body scope [] pm c' iB)) (U:s.heap.CodeRec (.ref c') a_)
 (Y:bindArgs (W.kla_fn "<lambda>" a_ params body scope [] pm (.ref c') iB) ⟨us,[]⟩=pure (ps.zip us)) (hl:vs.length=ps.length) (r:bc vs us)
 (ht:PE (kZ aI P w K mg base N a_ scope q (.ref c') A outer s H E) body t) (hq:t (start N vs) H Q) :
 codeAny (model P w) A (.call (.ref q) ⟨us,[]⟩) (CR aI outer P w H s Q E) s:=by
 have a0:s.heap.NoLimit:=j.mod.nolimit.keeps λb o e=>(j.bs b o e).1;have O:∀y∈ps.zip us,scope.names.lookup y.1=some .local\/(scope.names.lookup y.1=some .cell/\((cellsFrom (s.heap.objs.size+1) scope.names []).lookup y.1).isSome=true):=λ⟨n,v⟩ hy=>by
  rcases S.par n (Jk hy).1 with q | q
  . exact .inl q
  exact .inr ⟨q,Vp _ _ _ (.inl q)⟩
 refine W.kla_callFunE z.depth ho rfl S.co S.gen rfl U ?_;rw[Y];refine au ?_;refine aqm S.kind O λenv he G x=>?_;subst he;refine⟨a0.keeps x.toInCall.keep,W.kla_codeExpr ?_⟩;have I:Inv (kZ aI P w K mg base N a_ scope q (.ref c') A outer s H E) [] (start N vs) H G:=KW S z.hd j hl r x;refine eV (ht [] G (start N vs) H _ I hq) (λu s' hs=>?_) λe s' hs=>hs;obtain⟨v,H',J,rv,q⟩:=hs;exact⟨v,H',J.os,J.bare,J.base,J.hok,rv,q⟩
open PySem.W (tabObj)
def iC(P:Addr)(ps:Av):HO:=.ext λh=>h.get? P=some (tabObj ps)
def xZ(c':Addr)(a_:Str):HO:=.ext λh=>h.CodeRec (.ref c') a_
def x5(q c':Addr)(a_:Str)(params:Arguments)(body:Expr)(scope:Scope):HO:=.ext λh=>∃pm iB,h.get? q=some (W.kla_obj "<lambda>" a_ params body scope [] pm c' iB)
def aH(H:Hp)(P:Addr)(pos:Pos)(a_:Str):Prop:=H P=some (iC P #[])\/∃c',H P=some (iC P #[rawInt pos.line,rawInt pos.col,.ref c'])/\H c'=some (xZ c' a_)
def Nq(P:Addr)(a_:Str)(params:Arguments)(body:Expr)(scope:Scope)(pos:Pos):TE:=λZ H Q=>aH H P pos a_/\∀q c' H',H q=none->H' P≠none->(∀b o,H b=some o->b≠P->H' b=some o)->aH H' P pos a_->H' c'=some (xZ c' a_)->H' q=some (x5 q c' a_ params body scope)->Q (.ref q) H'
theorem x6{j:Program}{H:Hp}{h:Heap}{p:Heap->Prop}(e:h.get? a=some o)(G:p h)(z:∀h1 h2:Heap,p h1->(∀o,h1.get? a=some o->h2.get? a=some o)->p h2):cb j w H h a (.ext p):=⟨G,⟨_,e⟩,z⟩
theorem ae8{c':Addr}{h1 h2:Heap}(h:h1.CodeRec (.ref c') a_)(k:∀o,h1.get? c'=some o->h2.get? c'=some o):h2.CodeRec (.ref c') a_:=by
 obtain⟨c,oc,vs,t,e,j,z,G⟩:=h;cases e;exact⟨c',oc,vs,t,rfl,k _ j,z,G⟩
section
variable {X:Cx}{c P:Addr}{params:Arguments}{body:Expr}{scope:Scope}{pos:Pos}
theorem ae9(Bc:X.env.code=.ref c)(hd:W.codeHdIn X.K c P=true)(hb:X.base.BuiltinsAt X.mg P)(hq:X.env.qual ++ "<lambda>"=a_:=by rfl)(Bd:X.env.globals=mainGlobals:=by rfl)(mQ:closureFor scope X.env=pure []:=by rfl)(Fw:defaultsOf params X.env=([],[]):=by rfl) :
 PE X (.Lambda params body scope pos) (Nq P a_ params body scope pos):=by
 intro ad s Z H Q I h;obtain⟨tb,q⟩:=h;subst hq;refine W.kla_eval Fw ?_;have hg:s.heap.Ns mainGlobals X.mg:=I.mod.glob.keeps I.bk;obtain⟨bm,ob,b1,b2,b3,b4,b5,b6⟩:=hb;have ki:s.heap.BuiltinsAt X.mg P:=⟨bm,ob,b1,b2,b3,b4,I.bk _ _ b5,b6⟩;have C:=W.codeHd_of_K I.kIn hd;have a5:∀ps,s.heap.get? P=some (tabObj ps)->mainGlobals≠P:=λps e z=>by
  obtain⟨o,es,ep,e',d',_⟩:=hg;rw[z,e]at e';cases e';cases d'
 have Y:∀b o,s.heap.get? b=some o->b<s.heap.objs.size:=λb o e=>bK e
 rcases tb with e | ⟨c',e1,e2⟩
 . have O:s.heap.get? P=some (tabObj #[]):=(show cb X.prog X.w H s.heap P (iC P #[]) from I.hok P _ e).1;refine W.kla_makeFunction mQ Bd hg Bc C O trivial rfl (a5 _ O) ki λc' iB h' tk hx G hl Nr Fx=>?_;have I1:Inv X ad Z (ag H P (iC P (#[] ++ #[rawInt pos.line,rawInt pos.col,.ref c']))) { s with heap:=h',toks:=tk }:=
    I.write (x:=P) (e:=P) (by rw[e];exact True.intro) (.inl rfl) (λb u hb e=>hx b u hb e) ⟨_,Fx⟩ (x6 Fx Fx λh1 h2 a k=>k _ a)
   have nc:H c'=none:=I.hok.fresh G;have cP:c'≠P:=λz=>absurd (Y _ _ O) (JC.mpr (z▸G));have a6:ag H P (iC P (#[] ++ #[rawInt pos.line,rawInt pos.col,.ref c'])) c'=none:=by rw[bg cP];exact nc
   have a0:=Nr;obtain⟨c2,oc,vs,t,ec,o9,tU,a7⟩:=a0;cases ec;have I2:=I1.track (o:=xZ c' (X.env.qual ++ "<lambda>")) a6 (cn I.sz G) (kN (gL I.lt G)) (λx cc ex z=>by
    obtain⟨v,oo,hv,_⟩:=I.cell x cc ex;exact absurd (Y _ _ hv) (JC.mpr (z▸G))) (λp hp z=>absurd (Y _ _ (I.pin p hp).1) (JC.mpr (z▸G))) (x6 o9 Nr λh1 h2 a k=>ae8 a k)
   have U:(h'.push (W.kla_obj "<lambda>" (X.env.qual ++ "<lambda>") params body scope [] ((X.mg "__name__").getD .none) c' iB)).get? h'.objs.size=some (W.kla_obj "<lambda>" (X.env.qual ++ "<lambda>") params body scope [] ((X.mg "__name__").getD .none) c' iB):=dA _ rfl;have I3:=I2.laid (t':=tk) (h':=h'.push (W.kla_obj "<lambda>" (X.env.qual ++ "<lambda>") params body scope [] ((X.mg "__name__").getD .none) c' iB)) (a:=h'.objs.size) (o:=x5 h'.objs.size c' (X.env.qual ++ "<lambda>") params body scope)
    (λb u e=>b9 _ e) (aK _) (x6 U ⟨_,_,U⟩ λh1 h2 a1 k=>a1.elim λpm a2=>a2.elim λcv a=>⟨pm,cv,k _ a⟩)
   have hsz:s.heap.objs.size<=h'.objs.size:=cn G (rY hl);have j:H h'.objs.size=none:=I.hok.fresh hsz;have qP:h'.objs.size≠P:=λz=>absurd (Y _ _ O) (JC.mpr (z▸hsz));have qc:h'.objs.size≠c':=(cX hl).symm;refine⟨.ref h'.objs.size,_,I3,rfl,q _ c' _ j ?_ (λb o J nb=>?_) (.inr ⟨c',?_,?_⟩) ?_ aD⟩
   . rw[bg qP.symm,bg cP.symm,aD];exact λz=>nomatch z
   . rw[bg (aO J j),bg (aO J nc),bg nb];exact J
   . rw[bg qP.symm,bg cP.symm,aD];rfl
   . rw[bg qc.symm,aD]
   rw[bg qc.symm,aD]
 have O:s.heap.get? P=some (tabObj #[rawInt pos.line,rawInt pos.col,.ref c']):=(show cb X.prog X.w H s.heap P (iC P _) from I.hok P _ e1).1;have hf:codeAmong pos (#[rawInt pos.line,rawInt pos.col,.ref c']:Av).toList=some (.ref c'):=by
  show(if ((pos.line:Int) == pos.line && (pos.col:Int) == pos.col)=true then _ else _)=_;rw[am (by simp)]
 refine W.kla_makeFunctionHit mQ Bd hg Bc C O trivial hf ki λiB h' tk hk hsz=>?_;have U:(h'.push (W.kla_obj "<lambda>" (X.env.qual ++ "<lambda>") params body scope [] ((X.mg "__name__").getD .none) c' iB)).get? h'.objs.size=some (W.kla_obj "<lambda>" (X.env.qual ++ "<lambda>") params body scope [] ((X.mg "__name__").getD .none) c' iB):=dA _ rfl;have I3:=I.laid (t':=tk) (h':=h'.push (W.kla_obj "<lambda>" (X.env.qual ++ "<lambda>") params body scope [] ((X.mg "__name__").getD .none) c' iB)) (a:=h'.objs.size) (o:=x5 h'.objs.size c' (X.env.qual ++ "<lambda>") params body scope)
  (λb u e=>b9 _ (hk b u e)) hsz (x6 U ⟨_,_,U⟩ λh1 h2 a3 k=>a3.elim λpm a4=>a4.elim λcv a=>⟨pm,cv,k _ a⟩)
 have j:H h'.objs.size=none:=I.hok.fresh hsz;refine⟨.ref h'.objs.size,_,I3,rfl,q _ c' _ j ?_ (λb o J nb=>?_) (.inr ⟨c',?_,?_⟩) ?_ aD⟩
 . rw[bg (aO e1 j),e1];exact λz=>nomatch z
 . rw[bg (aO J j)];exact J
 . rw[bg (aO e1 j)];exact e1
 . rw[bg (aO e2 j)];exact e2
 rw[bg (aO e2 j)];exact e2
end
end
section
variable {w:World}{K:Fg}{a:Addr}{σ0:St}
section
variable {X:Cx}
theorem Nu:cw X (compareOp .LtE) (λx y H Q=>∃i j,x=.str i/\y=.str j/\Q (.bl (!decide (j.cps.toList<i.cps.toList))) H):=by
 intro ad s Z H x y v u Q I z G h;obtain⟨i,j,rfl,rfl,q⟩:=h;obtain⟨t,rfl⟩:=z;obtain⟨t',rfl⟩:=G;exact PySem.P.le_str (c5 I q rfl)
def afh:V->ae->Hp->VK->Prop:=λx vs H Q=>∃a b,x=.str a/\vs=[.str b]/\Q (.bl (Txt.startswith a b)) H
theorem Nv:nV X "str.startswith" afh:=by
 intro ad s Z H x xs v us Q I z j h;obtain⟨a,b,rfl,rfl,q⟩:=h;obtain⟨t,rfl⟩:=z;obtain⟨u,rfl,t',rfl⟩:=vals1 j;exact SC.startswith (c5 I q rfl)
theorem Nw:∀l:List (Str×Tok),bc ((l.map (·.1)).map V.str) (strValues l)
 | []=>.nil
 | p::r=>.cons ⟨p.2,rfl⟩ (Nw r)
def afi:V->ae->Hp->VK->Prop:=λx vs H Q=>∃a b,x=.str a/\vs=[.str b]/\b.length≠0/\a.length+2<=sizeLine/\dL H (.lst ((Txt.split a b).map V.str)) Q
theorem Be:nV X "str.split" afi:=by
 intro ad s Z H x xs v us Q I rx Y h;obtain⟨a,b,rfl,rfl,J,hz,q⟩:=h;obtain⟨t,rfl⟩:=rx;obtain⟨u,rfl,t',rfl⟩:=vals1 Y;have G:(b.length == 0)=false:=by simpa using J
 have z:∀(l:List (Str×Tok)) (k:Nat),l.map (·.1)=Txt.split a b->EP X ad Z Q (.ref s.heap.objs.size) { s with heap:=s.heap.push { cls:=.type "list",data:=.seq (strValues l).toArray },toks:=k }:=λl k e=>by
  have r:=Nw l;rw[e]at r;have O:((Txt.split a b).map V.str).length<=sizeLine:=by
   rw[ak];exact cn (split_le a b) hz
  exact⟨.ref s.heap.objs.size,_,I.laid (t':=k) (λb o e=>b9 _ e) (aK _) (show cb X.prog X.w _ _ _ (.lst ((Txt.split a b).map V.str)) from ⟨O,_,_,r,dA _ rfl⟩),rfl,q.at _ (I.hok.fresh (aK _))⟩
 have U:(Builtin.Str.partsBetween a (Builtin.Str.occurrences a b 0 a.length (a.length+1)) b.length).length<=sizeLine:=by
  have e1:=StrLaws.occ_length_le a b 0 a.length (a.length+1);rw[length_partsBetween];omega
 cases h1:(decide (a.length<b.length) || decide (Builtin.Str.strKind a<Builtin.Str.strKind b))
 . cases j:(Builtin.Str.occurrences a b 0 a.length (a.length+1)).isEmpty
   . refine Dj VT (zJ _ _ _) VU (VW _ _) (meets_str_split_sep a b t t' h1 G j (by omega) U) ?_;show wants _ _ _ { s with toks:=_,heap:=s.heap.push { cls:=.type "list",data:=.seq (strsFrom s.toks (Builtin.Str.partsBetween a (Builtin.Str.occurrences a b 0 a.length (a.length+1)) b.length)).toArray } };rw[strsFrom_eq];exact z (numbered s.toks _) _ ((numbered_texts _ _).trans ((ah (VX h1)).trans (ah (VX j))).symm)
   exact Dj VT (zJ _ _ _) VU (VW _ _) (meets_str_split_not_found a b t t' h1 G j)
    (z [(a,t)] s.toks ((ah (VX h1)).trans (am j)).symm)
 exact Dj VT (zJ _ _ _) VU (VW _ _) (meets_str_split_cannot_occur a b t t' h1)
  (z [(a,t)] s.toks (am h1).symm)
theorem afj:fh X (.type "int") (λxs H Q=>∃x n,xs=[.str x]/\PySem.intText? x=some n/\x.length<=640/\Q (.int n) H):=by
 intro ad s Z H xs us Q I r h;obtain⟨x,n,rfl,z,j,q⟩:=h;obtain⟨u,rfl,t,rfl⟩:=vals1 r;exact W.KIN.call_text z j ⟨.int n,H,I.tok _,⟨_,rfl⟩,q⟩
end
def qV(c:Nat):Str:=⟨#[c]⟩
def Bf(x:Str):It:=⟨λi _=>i<x.cps.size,λi H v H'=>H'=H/\∃c,x.cps[i]?=some c/\v=.str (qV c),λi _=>x.cps.size<=i⟩
theorem afk{P:Program}{tg:Expr}(it:Addr)(x:Str)(t:Tok)(n:String)(Y:n="str_ascii_iterator"\/n="str_iterator"):pi P w K tg (Bf x) [it] it (λi h=>h.IsStrIter it n x t i/\i<=x.cps.size) where
 mem:=by simp
 obj:=λi h st b j=>by
  have e:b=it:=by simpa using j
  subst e;obtain⟨o,e,c,d⟩:=st.1;exact⟨o,e,λv z=>by rw[d]at z;cases z⟩
 keep:=λi h h' st k=>⟨st.1.elim λo a0=>a0.elim λho r=>⟨o,k it (by simp) o ho,r⟩,st.2⟩
 item:=by
  intro X hP hw hK J i ad s Z H E I O st U;subst hP hw hK;obtain⟨f0,f1,f2,f3,f4,f5⟩:=O it (by simp);have G:∀(W:Walks X.prog X.w X.A it [it] [it] x.cps.size (SignAt x) (λi h=>h.IsStrIter it n x t i)),wpAny (model X.prog X.w) X.A (pyNext (.ref it)) (λr s1=>∃u,r=some u /\
   wpAny (model X.prog X.w) X.A (letOwnedTupleGo tg (.ref it) u) (λ_ s2=>∃v H',Inv X ad Z H' s2/\RelV v u/\(Bf x).yld i H v H'/\(s2.heap.IsStrIter it n x t (i+1)/\i+1<=x.cps.size)/\∀b∈[it],H' b=none) E s1) E s:=λW=>by
   refine W.item i s _ _ U st.1 λv h' tk hv fT kk=>?_;obtain⟨c,u,g9,rfl⟩:=hv;have I1:Inv X ad Z H { s with heap:=h',toks:=tk }:=I.turned (λb o j e=>kk b o (by simpa using j) e) f0 f1 f3 f4 f5;obtain⟨o,e,c',d⟩:=id fT;have Nx:i<x.cps.size:=U;exact⟨_,rfl,An (s:={ s with heap:=h',toks:=tk }) e c' d (by rcases Y with rfl | rfl<;>decide) ⟨.str (qV c),H,I1,⟨u,rfl⟩,⟨rfl,c,g9,rfl⟩,⟨fT,by omega⟩,λb j=>(O b j).1⟩⟩
  rcases Y with rfl | rfl
  . exact G (Walks.strAscii (I.ok.hd J) it x t)
  exact G (Walks.strWide (I.ok.hd J) it x t)
 done:=by
  intro X hP hw hK J i ad s Z H E I O st U;subst hP hw hK;obtain⟨f0,f1,f2,f3,f4,f5⟩:=O it (by simp);have Nx:x.cps.size<=i:=U;have e:i=x.cps.size:=VS st.2 Nx;subst e;have G:∀(W:Walks X.prog X.w X.A it [it] [it] x.cps.size (SignAt x) (λi h=>h.IsStrIter it n x t i)),wpAny (model X.prog X.w) X.A (pyNext (.ref it)) (λr s1=>r=none/\Inv X ad Z H s1) E s:=λW=>
   W.done s _ _ st.1 λh' tk kk=>⟨rfl,I.turned (λb o j e=>kk b o (by simpa using j) e) f0 f1 f3 f4 f5⟩
  rcases Y with rfl | rfl
  . exact G (Walks.strAscii (I.ok.hd J) it x t)
  exact G (Walks.strWide (I.ok.hd J) it x t)
 self:=λ_ _ _ _ _ st h=>by
  rcases Y with rfl | rfl
  . exact wpAny_pyIter_striter_ascii st.1 h
  exact wpAny_pyIter_striter_wide st.1 h
section
variable {X:Cx}{tg:Expr}
def afm(tl:TE):TI:=λZ H R=>tl Z H λx H1=>∃a,x=.str a/\R (Bf a) H1
theorem afn{l:Expr}{tl:TE}(Y:PE X l tl):PI X tg l (afm tl):=by
 intro ad s Z H R I h;refine thn (Y ad s Z H _ I h) λv j O=>ba O λx H1 z r1 q1=>?_;obtain⟨a,e,q⟩:=q1;subst e;obtain⟨t,rfl⟩:=r1;have G:∀(o:Obj) (n:String),(n="str_ascii_iterator"\/n="str_iterator")->(j.heap.push o).IsStrIter j.heap.objs.size n a t 0->DF X ad Z tg R (.ref j.heap.objs.size) { j with heap:=j.heap.push o }:=λo n hn st=>by
  refine⟨j.heap.objs.size,[j.heap.objs.size],_,_,H1,rfl,z.kept (t':=j.toks) λb o e=>b9 _ e,afk _ a t n hn,⟨st,dF _⟩,λb U=>?_,q⟩;have e:b=j.heap.objs.size:=by simpa using U
  subst e;exact z.fpOk (aK _) (z.hok.fresh (aK _))
 cases J:a.cps.all (· < 128)
 . exact wpAny_pyIter_wide J (G _ _ (.inr rfl) ⟨_,dA _ rfl,rfl,rfl⟩)
 exact wpAny_pyIter_ascii J (G _ _ (.inl rfl) ⟨_,dA _ rfl,rfl,rfl⟩)
def afp(K:Fg):ae->Hp->VK->Prop:=λxs H Q=>∃(p:Addr) (bs:List Bool),xs=[.ref p]/\aa K H p (bs.map V.bl)/\Q (.bl (bs.all id)) H
theorem afq(bs:List Bool):(List.range bs.length).all (λi=>bs.getD i false)=bs.all id:=by
 rw[wI,ip,ip];constructor
 . intro h b j;obtain⟨i,hi,e⟩:=Jz.mp j;have:=h i (uM.mpr hi);rw[JD,gX hi,Jo,e]at this;exact this
 intro h i hi;have hi:=uM.mp hi;rw[JD,gX hi,Jo];exact h _ (Do hi)
theorem Ny(K:Fg)(h:X.K=K:=by rfl)(hc:X.calm=true:=by rfl):fh X (.builtin "all") (afp K):=by
 subst h;intro ad s Z H xs us Q I r h;obtain⟨p,bs,rfl,hq,q⟩:=h;obtain⟨u,rfl,rx⟩:=vals1 r;cases rx;obtain⟨b_,O,pl,hz⟩:=I.list hq;have a0:=O.length;rw[ak]at a0;refine call_all_walk (Jh pl.isList ?_);have Y:p≠s.heap.objs.size:=by
  obtain⟨o,ho,_⟩:=pl.isList;exact cX (bK ho)
 refine⟨_,_,_,_,_,_,λi=>bs.getD i false,rfl,Dr (A:=X.A.in1) (I.ok.hd hc) _ p Y b_.toArray,⟨⟨_,dA _ rfl,rfl,rfl⟩,pl.isList.push _⟩,?_,λh' tk kk=>?_⟩
 . intro i v s' U E j z;have j:b_[i]?=some v:=by simpa using j
   have hi:i<bs.length:=by
    have:=(cM.mp j).1;omega
   obtain⟨u,J,G⟩:=O.get (i:=i) (x:=V.bl bs[i]) (by rw[c8,gX hi];rfl);rw[j]at J;cases J;have G:v=.bool bs[i]:=by cases G;rfl
   subst G;have z:U (bs.getD i false) s':=z;rw[JD,gX hi,Jo]at z;exact qo z
 have e:b_.toArray.size=bs.length:=by simp;omega
 rw[e,afq];exact⟨.bl _,H,I.kept λb o e=>kk b o (by
  have:=bK e;rw[bF];exact cX this) (b9 _ e),rfl,q⟩
end
theorem Inv.turnedL{X:Cx}{ad:Po}{Z:St}{H:Hp}{s:Shared}{h':Heap}{t':Nat}{fp:List Addr}(I:Inv X ad Z H s)(k:∀b o,b∉fp->s.heap.get? b=some o->h'.get? b=some o)(G:∀b∈fp,fG X ad H b):Inv X ad Z H { s with heap:=h',toks:=t' }:=by
 have J:∀b u,H b=some u->b∉fp:=λb u e z=>by rw[(G b z).1]at e;cases e
 have hL:X.env.locals∉fp:=λz=>(G _ z).2.1 rfl;refine I.step (g':=s.gens) (d':=s.drawn) (ch:=fp) (λb hb=>?_) (λb o _ _ j e _=>k b o j e) (λb o _ _ j e _=>⟨o.slots,k b o j e⟩) (λ_ _ _ _ n=>n)
  (λb o j e=>⟨o,k b o j e⟩) (λ_ _ e=>e) (λ_ _ _ e=>e) (λb ps e=>⟨#[],by rw[e];simp⟩) (λm hm=>?_) (λb u e=>?_) I.bare
 . obtain⟨f0,O,f2,U,Y,f5⟩:=G b hb;exact⟨U,O,Y,f5⟩
 . obtain⟨o,es,ep,ho,r⟩:=hm;exact⟨o,es,ep,k _ o hL ho,r⟩
 refine(I.hok b u e).stay (λc v j q=>k c v ?_ q) (λ_ q=>q) λ_ _ q=>q
 rcases j with z | z
 . rw[z];exact J b u e
 exact J c _ z
def ya(K:Fg)(a:Addr):It:=
 ⟨λi H=>∃xs x,aa K H a xs/\xs[i]?=some x,λi H v H'=>∃p x,H p=none/\(∀xs,aa K H a xs->xs[i]?=some x)/\v=.ref p/\H'=ag H p (.tup [.int i,x]),λi H=>∃xs,aa K H a xs/\xs.length<=i⟩
theorem afr{P:Program}{elts:List Expr}{x1:Nat}{pos:Pos}(a e it:Addr)(cU:e≠it):pi P w K (.Tuple elts x1 pos) (ya K a) [e,it] e (λi h=>(∃old,IsEnum h e it i old)/\h.IsListIter it a i) where
 mem:=by simp
 obj:=λi h st b hb=>by
  obtain⟨⟨old,st⟩,o,j,c,d⟩:=st
  rcases bf.mp hb with rfl | hb
  . exact⟨_,st,λv z=>by
     have z':Data.fields _=Data.cell v:=z;cases z'⟩
  have hb:=bF.mp hb;subst hb;exact⟨o,j,λv z=>by rw[d]at z;cases z⟩
 keep:=λi h h' a0 k=>a0.elim λa1 G=>a1.elim λold st=>⟨⟨old,k e (by simp) _ st⟩,G.at λo j=>k it (by simp) o j⟩
 item:=by
  intro X hP hw Y hc i ad s Z H E I O st hg;subst hP hw Y;obtain⟨⟨old,st⟩,G⟩:=st;obtain⟨xs,x,U,hx⟩:=hg;obtain⟨b_,rv,p,hz⟩:=I.list U;obtain⟨u,hu,ru⟩:=rv.get hx;refine wpAny_pyNext_enum_item st G p.isList (x:=u) (by simpa using hu) cU λh1 ho Nz EQ hsz fJ=>⟨.ref s.heap.objs.size,rfl,?_⟩;refine wpAny_letOwnedTupleGo_enum ho λh2 a3 J=>?_;have J:Heap.SameBut e h1 h2:=J;have NA:e<s.heap.objs.size:=bK st;have AV:it<s.heap.objs.size:=by
   obtain⟨o,j,_⟩:=G;exact bK j
  have I1:Inv X ad Z H { s with heap:=h2,toks:=s.toks+1 }:=I.turnedL (fp:=[e,it]) (λb ob hb j=>by
   simp only[bf,ft,fw,ny]at hb;exact(J.2 b hb.1).trans (fJ b ob hb.1 hb.2 j)) O
  have hn:H s.heap.objs.size=none:=I.hok.fresh (aK _);have fp:=I.fpOk (H':=H) (aK _) hn;have tF:h2.get? s.heap.objs.size=some { cls:=.type "tuple",data:=.seq #[.int i s.toks,u] }:=(J.2 _ (kN NA)).trans EQ;have I2:Inv X ad Z (ag H s.heap.objs.size (.tup [.int i,x])) { s with heap:=h2,toks:=s.toks+1 }:=by
   refine I1.track hn I.sz fp.2.1 fp.2.2.2.2.1 fp.2.2.2.2.2 ?_;exact⟨by show 2<=sizeLine;decide,[.int i s.toks,u],.cons ⟨_,rfl⟩ (.cons ru .nil),_,tF,rfl,0,rfl⟩
  refine⟨.ref s.heap.objs.size,_,I2,rfl,⟨_,x,hn,λys hy=>by rw[I.list_inj hy U];exact hx,rfl,rfl⟩,⟨⟨u,by simpa using a3⟩,Nz.at λo j=>(J.2 it (gy cU)).trans j⟩,λb hb=>?_⟩;have a4:=(O b hb).1;rw[bg,a4];simp only[bf,ft,fw]at hb
  rcases hb with rfl | rfl
  . exact cX NA
  exact cX AV
 done:=by
  intro X hP hw Y hc i ad s Z H E I O st hg;subst hP hw Y;obtain⟨⟨old,st⟩,G⟩:=st;obtain⟨xs,U,hx⟩:=hg;obtain⟨b_,rv,p,hz⟩:=I.list U;have hl:=rv.length;exact wpAny_pyNext_enum_end (I.ok.hd hc) st G p.isList (by simp;omega) λh' eb=>⟨rfl,I.turnedL (t':=s.toks) (fp:=[e,it]) (λb o hb j=>eb b o (λz=>hb (by simp[z])) j) O⟩
 self:=λ_ _ _ _ _ st h=>st.elim λa2 _=>a2.elim λ_ st=>wpAny_pyIter_enum st h
section
variable {X:Cx}
def afx(K:Fg)(ta:TA):TI:=λZ H R=>ta Z H λvs H1=>∃a,vs=[.ref a]/\(∃xs,aa K H1 a xs)/\R (ya K a) H1
theorem NC{l:Expr}{ta:TA}{p pos p2:Pos}{elts:List Expr}{x1:Nat}(Y:Gl X "enumerate")(hm:X.mg "enumerate"=none)(U:PA X [l] ta)(hs:starEach [l] X.env=[(false,eval l X.env)]:=by rfl) :
 PI X (.Tuple elts x1 p2) (.Call (.Name "enumerate" p) [l] [] pos) (afx X.K ta):=by
 intro ad s Z H R I h;refine Call_ (sN I Y hm boot_enumerate (Ji (thn (U pos ad s Z H _ I h) λus j O=>ba O λvs H1 z r1 q1=>?_) hs rfl));obtain⟨a,e,⟨xs,hq⟩,q⟩:=q1;subst e;obtain⟨u,rfl,rx⟩:=vals1 r1;cases rx;obtain⟨b_,rv,pl,hz⟩:=z.list hq;refine call_enumerate_list pl.isList λh' G it hsz kp=>?_;refine wpAny_pyIter_enum G ?_;refine⟨j.heap.objs.size+1,[j.heap.objs.size+1,j.heap.objs.size],_,_,H1,rfl,z.kept (t':=j.toks) kp,afr a _ _ (Nat.succ_ne_self _),⟨⟨_,G⟩,it⟩,λb J=>?_,q⟩;have e:j.heap.objs.size<=b:=by
  simp only[bf,ft,fw]at J
  rcases J with rfl | rfl
  . exact qr _
  exact aK _
 exact z.fpOk e (z.hok.fresh e)
end
theorem ac.seqT{H H':Hp}{xs:ae}(e:ac H H')(h:bh K H a xs):bh K H' a xs:=by
 rcases h with(h | ⟨o,h⟩) | h
 . exact .inl (.inl (e _ _ h))
 . exact .inl (.inr ⟨o,e _ _ h⟩)
 exact .inr h
theorem take_snoc{α:Type}{ys:List α}{i:Nat}{y:α}(h:ys[i]?=some y):ys.take (i+1)=ys.take i++[y]:=by
 rw[List.take_succ,h];rfl
section
variable {g:TG}{te:TE}{H1:Hp}{Q:Addr->Hp->Prop}
theorem vG{xs:ae}(hx:aa K H1 a xs)(S:St->Prop)(ys:ae)(Y:ys.length=xs.length)(big:xs.length<=sizeLine)(s0:S σ0)
 (a0:∀(i:Nat) x y Z H (k:St->V->Hp->Prop),xs[i]?=some x->ys[i]?=some y->S Z->ac H1 H->(∀σ3 z,S σ3->ac H z->k σ3 y z)->g x Z H λσ3 H3=>te σ3 H3 (k σ3))
 (done:∀D H,H1 D=none->H D=some (.lst ys)->ac H1 H->Q D H) :
 ∀D,H1 D=none->∃W:Nat->Nat->St->Hp->Prop,(∃m,W 0 m σ0 (ag H1 D (.lst [])))/\lq (nK K a) g qL te D (λH'=>Q D H') W:=by
 refine xH hx S (λi zs _=>zs=ys.take i) s0 (λ_ _=>rfl) (λD i x zs Z H k J j G O a5 U a7=>?_) λD zs H J j G O=>?_
 . have hi:i<ys.length:=by rw[Y];exact(cM.mp j).1
   have hy:=gX hi;refine a0 i x ys[i] Z H k j hy G a5 λσ3 z b1 b2=>a7 σ3 _ z b1 b2 ?_ ?_
   . rw[U,eW];omega
   rw[U,take_snoc hy]
 rw[O,<-Y,eI]at j;exact done D H J j G
theorem afz{xs:ae}(hx:bh K H1 a xs)(S:St->Prop)(ys:ae)(hl:ys.length=xs.length)(big:xs.length<=sizeLine)(s0:S σ0)
 (a0:∀(i:Nat) x y Z H (k:St->V->Hp->Prop),xs[i]?=some x->ys[i]?=some y->S Z->ac H1 H->(∀σ3 j,S σ3->ac H j->k σ3 y j)->g x Z H λσ3 H3=>te σ3 H3 (k σ3))
 (done:∀D H,H1 D=none->H D=some (.lst ys)->ac H1 H->Q D H) :
 ∀D,H1 D=none->∃W:Nat->Nat->St->Hp->Prop,(∃m,W 0 m σ0 (ag H1 D (.lst [])))/\lq (DG K a) g qL te D (λH'=>Q D H') W:=by
 intro D G;refine⟨λi m Z H=>m=xs.length - i/\i<=xs.length/\S Z/\H D=some (.lst (ys.take i))/\ac H1 H,⟨xs.length,by simp,dF _,s0,aD,fC G⟩,?_⟩;rintro i m Z H ⟨rfl,hi,Y,hd,hs⟩;have q:bh K H a xs:=ac.seqT hs hx
 by_cases O:i<xs.length
 . refine .inr ⟨⟨xs,xs[i],q,by simp[O]⟩,λx H2 z=>?_⟩;obtain⟨e1,e2⟩:=z;subst e1;have z:=gX (by omega:i<ys.length);refine a0 i x ys[i] Z _ (λσ3 y j=>∃zs,j D=some (.lst zs)/\zs.length<sizeLine/\∃m',m'<xs.length - i/\(m'=xs.length - (i+1)/\i+1<=xs.length/\S σ3/\ag j D (.lst (zs++[y])) D=some (.lst (ys.take (i+1)))/\ac H1 (ag j D (.lst (zs++[y]))))) (e2 xs q) z Y hs
    (λσ3 j U J=>⟨ys.take i,J _ _ hd,by rw[eW];omega,xs.length - (i+1),by omega,rfl,O,U,by rw[aD,take_snoc z],fj (hs.trans J) G⟩)
 have e:i=xs.length:=by omega
 subst e;rw[<-hl,eI]at hd;exact .inl ⟨⟨xs,q,aK _⟩,done D H G hd hs⟩
theorem afA{a:Str}(S:St->Prop)(f:Nat->V)(big:a.cps.size<=sizeLine)(s0:S σ0)
 (a0:∀c Z H (k:St->V->Hp->Prop),c∈a.cps.toList->S Z->ac H1 H->(∀σ3 j,S σ3->ac H j->k σ3 (f c) j)->g (.str (qV c)) Z H λσ3 H3=>te σ3 H3 (k σ3))
 (done:∀D H,H1 D=none->H D=some (.lst (a.cps.toList.map f))->ac H1 H->Q D H) :
 ∀D,H1 D=none->∃W:Nat->Nat->St->Hp->Prop,(∃m,W 0 m σ0 (ag H1 D (.lst [])))/\lq (Bf a) g qL te D (λH'=>Q D H') W:=by
 intro D z;have hn:(a.cps.toList.map f).length=a.cps.size:=by rw[ak,dW]
 refine⟨λi m Z H=>m=a.cps.size - i/\i<=a.cps.size/\S Z/\H D=some (.lst ((a.cps.toList.map f).take i))/\ac H1 H,⟨a.cps.size,by simp,dF _,s0,aD,fC z⟩,?_⟩;rintro i m Z H ⟨rfl,hi,hS,hd,hs⟩
 by_cases O:i<a.cps.size
 . refine .inr ⟨O,λx H2 G=>?_⟩;obtain⟨e1,c,hc,e2⟩:=G;subst e1 e2;have U:a.cps.toList[i]?=some c:=by rw[oW];exact hc
   have G:(a.cps.toList.map f)[i]?=some (f c):=by rw[c8,U];rfl
   refine a0 c Z _ (λσ3 y j=>∃zs,j D=some (.lst zs)/\zs.length<sizeLine/\∃m',m'<a.cps.size - i/\(m'=a.cps.size - (i+1)/\i+1<=a.cps.size/\S σ3/\ag j D (.lst (zs++[y])) D=some (.lst ((a.cps.toList.map f).take (i+1)))/\ac H1 (ag j D (.lst (zs++[y]))))) (da U) hS hs
    (λσ3 j Y J=>⟨(a.cps.toList.map f).take i,J _ _ hd,by rw[eW];omega,a.cps.size - (i+1),by omega,rfl,O,Y,by rw[aD,take_snoc G],fj (hs.trans J) z⟩)
 have e:i=a.cps.size:=by omega
 subst e;rw[<-hn,eI]at hd;exact .inl ⟨aK _,done D H z hd hs⟩
end
end
end L2
namespace HT
abbrev At:=Int ⊕ Str
def yc:At->At->Bool
 | .inl a,.inl b=>decide (a<b)
 | .inr x,.inr y=>decide (x.cps.toList<y.cps.toList)
 | _,_=>false
def kin:At->At->Prop
 | .inl _,.inl _=>True
 | .inr _,.inr _=>True
 | _,_=>False
def cr:List At->List At->Bool
 | [],[]=>false
 | [],_::_=>true
 | _::_,[]=>false
 | x::xs,y::ys=>if x=y then cr xs ys else yc x y
def ic:List At->List At->Prop
 | x::xs,y::ys=>if x=y then ic xs ys else kin x y
 | _,_=>True
theorem Bg(x y:At)(xs ys:List At):cr (x::xs) (y::ys)=if x=y then cr xs ys else yc x y:=rfl
theorem tV(x y:At)(xs ys:List At):ic (x::xs) (y::ys)=if x=y then ic xs ys else kin x y:=rfl
inductive gO:Lw->List At->Prop
 | nil:gO [] []
 | int (n:Int) (t:Tok) {vs:Lw}{as:List At}:gO vs as->gO (.int n t::vs) (.inl n::as)
 | str (x:Str) (t:Tok) {vs:Lw}{as:List At}:gO vs as->gO (.str x t::vs) (.inr x::as)
theorem gO.length{vs:Lw}{as:List At}(h:gO vs as):vs.length=as.length:=by
 induction h with
 | nil=>rfl
 | int _ _ _ j=>exact fo (· + 1) j
 | str _ _ _ j=>exact fo (· + 1) j
theorem afB(A:Around)(s:Shared)(a:Str)(t:Tok)(c:Str)(u:Tok):∃e,SeqAt.EqAt A s (.str a t) (.str c u) e/\(e=true↔a=c):=
 ⟨(a == c),SeqAt.EqAt.str_str a t c u,by simp⟩
theorem afC(A:Around)(s:Shared)(a:Str)(t:Tok)(c:Str)(u:Tok)(prog:Program)(w:World)(E:VP)(Q:VP)(h:Q (.bool (decide (a.cps.toList<c.cps.toList))) s) :
 wpAny (model prog w) A (richCompare .Lt (.str a t) (.str c u)) Q E s:=
 (PyProof.Rows.lt_str h:wpAny (model prog w) A (compareOp .Lt (.str a t) (.str c u)) Q E s)
theorem afD{vs ws:Lw}{as bs:List At}(G:gO vs as)(j:gO ws bs)(ok:ic as bs)(A:Around)(s:Shared):(vs=[]\/ws=[])\/∃v lF a O w Fz b Y,vs=v::lF/\as=a::O/\ws=w::Fz/\bs=b::Y/\gO lF O/\gO Fz Y /\
 (∃e,SeqAt.EqAt A s v w e/\(e=true↔a=b))/\(a=b->ic O Y)/\∀(prog:Program) (J:World) (E:VP) (Q:VP),Q (.bool (yc a b)) s->wpAny (model prog J) A (richCompare .Lt v w) Q E s:=by
 cases G with
 | nil=>exact .inl (.inl rfl)
 | int a t G=>
  cases j with
  | nil=>exact .inl (.inr rfl)
  | int b u j=>
   obtain⟨e,U,hi⟩:=Y2 A s a t b u;refine .inr ⟨_,_,_,_,_,_,_,_,rfl,rfl,rfl,rfl,G,j,⟨e,U,hi.trans ⟨λz=>by rw[z],λz=>by injection z⟩⟩,λz=>?_,λprog J E Q h=>Y3 A s a t b u prog J E Q h⟩;rw[tV,am z]at ok;exact ok
  | str b u j=>
   rw[tV,ah (by intro z;cases z)]at ok;exact ok.elim
 | str a t G=>
  cases j with
  | nil=>exact .inl (.inr rfl)
  | int b u j=>
   rw[tV,ah (by intro z;cases z)]at ok;exact ok.elim
  | str b u j=>
   obtain⟨e,U,hi⟩:=afB A s a t b u;refine .inr ⟨_,_,_,_,_,_,_,_,rfl,rfl,rfl,rfl,G,j,⟨e,U,hi.trans ⟨λz=>by rw[z],λz=>by injection z⟩⟩,λz=>?_,λprog J E Q h=>afC A s a t b u prog J E Q h⟩;rw[tV,am z]at ok;exact ok
section
open PySem.SeqAt
open PySem.AutoSeq1 (wpAny_loadPart')
open PySem.MeetsSeq PySem.MeetsSeq2 PySem.MeetsSeq3
theorem afE(l b:Addr)(G J:Av)(n n2:Nat)(dd xM:Oa)(sl FA:Array (Option Value))(ns ms:List At)(hi:gO G.toList ns)(hj:gO J.toList ms)(ok:ic ns ms) :
 Meets (Builtin.«tuple.__lt__» ⟨[.ref l,.ref b],[]⟩)
  (λ_ R s=>s.heap.get? l=some { cls:=.type "tuple",dict:=dd,data:=.seq G n,slots:=sl }/\s.heap.get? b=some { cls:=.type "tuple",dict:=xM,data:=.seq J n2,slots:=FA } /\
   R (.ok (.ret (.bool (cr ns ms)))) s):=
 .of_wp λprog w A R s h=>by
  obtain⟨Y,g,d,tk,os⟩:=s;obtain⟨hl,hb,h⟩:=h;have f2:=AutoSeq1.sub_tuple_tuple;have z1:G.size=ns.length:=by rw[<-hi.length];simp
  have z2:J.size=ms.length:=by rw[<-hj.length];simp
  wp_walk using wpAny_loadPart' hl,wpAny_loadPart' hb,wE _ (λrest b s'=>b.1=none/\s'=⟨Y,g,d,tk,os⟩/\∃(vs O:Lw) (z j:List At),rest=vs.zip O /\
   gO vs z/\gO O j/\ic z j/\z.length+J.size=j.length+G.size/\R (.ok (.ret (.bool (cr z j)))) ⟨Y,g,d,tk,os⟩) _
  case turn=>
   rintro⟨y,x⟩ rest b s' ⟨ki,rfl,vs,O,z,j,hz,FC,FD,hok,hlen,hR⟩
   rcases afD FC FD hok A.in1 ⟨Y,g,d,tk,os⟩ with h0 | ⟨v,lF,a,Bh,w1,Fz,b1,vq,rfl,rfl,rfl,rfl,a0,a1,⟨e,he,U⟩,tH,aT⟩
   . rcases h0 with h0 | h0
     . rw[h0,List.zip_nil_left]at hz;cases hz
     rw[h0,List.zip_nil_right]at hz;cases hz
   rw[Vf]at hz;injection hz with a3 Fp
   injection a3 with hy hx
   subst hy hx;rw[Bg]at hR;simp only[cq]at hlen;refine af (he prog w _ _ ?_);cases e with
   | true=>
    rw[am (U.mp rfl)]at hR
    wp_walk
    exact⟨rfl,rfl,_,_,_,_,Fp,a0,a1,tH (U.mp rfl),by omega,hR⟩
   | false=>
    rw[ah (λq=>absurd (U.mpr q) cS)]at hR;have a2:=aT prog w
    wp_walk using a2
    exact⟨_,rfl,by simpa using hR⟩
  case fin=>
   rintro⟨b1,b2⟩ s' ⟨ki,rfl,vs,O,z,j,hz,FC,FD,hok,hlen,hR⟩;simp only at ki;subst ki;have h1:=FC.length;have h2:=FD.length;have hv:cr z j=decide (G.size<J.size):=by
    cases z with
    | nil=>
     cases j with
     | nil=>
      simp only[kQ]at hlen;exact(cu (by omega)).symm
     | cons c u=>
      simp only[kQ,cq]at hlen;exact(bE (by omega)).symm
    | cons a t=>
     cases j with
     | nil=>
      simp only[kQ,cq]at hlen;exact(cu (by omega)).symm
     | cons c u=>
      cases vs with
      | nil=>cases h1
      | cons v vs=>
       cases O with
       | nil=>cases h2
       | cons w1 O=>rw[Vf]at hz;cases hz
   rw[hv]at hR
   wp_walk
   exact⟨_,rfl,by simpa [Builtin.Tuple.tupleCompareSizes]using hR⟩
  case h=>
   exact⟨rfl,rfl,G.toList,J.toList,ns,ms,rfl,hi,hj,ok,by omega,h⟩
end
section
variable {prog:Program}{w:World}{A:Around}{E:VP}{s:Shared}
theorem afI{l b:Addr}{j z:Av}{ns ms:List At}{Q:VP}(hl:IsTup s.heap l j)(hb:IsTup s.heap b z)(hi:gO j.toList ns)(hj:gO z.toList ms)(ok:ic ns ms)
 (hu:A.units<cLine) (h:Q (.bool (cr ns ms)) s):wpAny (model prog w) A (compareOp .Lt (.ref l) (.ref b)) Q E s:=by
 obtain⟨⟨cls,dd,data,sl⟩,O,G,n,hd⟩:=id hl;obtain⟨⟨a0,xM,data2,FA⟩,Y,U,n2,J⟩:=id hb;simp only at G hd U J;subst G hd U J;exact richCompare_meets_room (op:=.Lt) ⟨_,O,rfl⟩ ⟨_,Y,rfl⟩ PySem.F.slot_tuple_lt PySem.F.entry_tuple_lt (PySem.F.args_tuple_lt_2 _ _) (afE l b j z n n2 dd xM sl FA ns ms hi hj ok)
  ⟨O,Y,show Value.bool (cr ns ms)≠Value.notImplemented/\Q (.bool (cr ns ms)) s from ⟨(λx=>nomatch x),h⟩⟩ hu
end
end HT
namespace L2
section
section
variable {X:Cx}
theorem ND:cw X (compareOp .Gt) (λx y H Q=>∃i j,x=.str i/\y=.str j/\Q (.bl (decide (j.cps.toList<i.cps.toList))) H):=by
 intro ad s Z H x y v u Q I z G h;obtain⟨i,j,rfl,rfl,q⟩:=h;obtain⟨t,rfl⟩:=z;obtain⟨t',rfl⟩:=G;exact PySem.P.gt_str (c5 I q rfl)
end
open PySem.W
open PySem.Builtin PySem.Builtin.ObjectAttr
end
section
variable {H:Hp}{s:Shared}
open HT (At cr ic)
def Bi:At->V
 | .inl n=>.int n
 | .inr x=>.str x
theorem Bj:∀{as:List At}{us:Lw},bc (as.map Bi) us->HT.gO us as
 | [],us,h=>by cases h;exact .nil
 | .inl n::as,us,h=>by
  cases h with
  | cons r t=>
   obtain⟨tk,rfl⟩:=(show∃tk,_=Value.int n tk from r);exact .int n tk (Bj t)
 | .inr x::as,us,h=>by
  cases h with
  | cons r t=>
   obtain⟨tk,rfl⟩:=(show∃tk,_=Value.str x tk from r);exact .str x tk (Bj t)
section
variable {X:Cx}{ad:Po}{Z:St}{H0:Hp}{l q I S:Addr}{as:List Addr}{ks:Nat->List At}{R:Result->Shared->Prop}{Q:VP}{E:VP}
def FG(X:Cx)(q:Addr)(as:List Addr)(ks:Nat->List At)(H0:Hp):Prop:=∀(i:Nat) (a:Addr),as[i]?=some a->∀(ad:Po) (Z:St) (H:Hp) (s:Shared),Inv X ad Z H s->ac H0 H ->
 wpAny (model X.prog X.w) X.A.in1 (call (.ref q) [.ref a]) (λu s'=>∃j H',Inv X ad Z H' s'/\u=.ref j/\ac H H'/\H' j=some (.tup ((ks i).map Bi))) (λ_ _=>False) s
theorem Inv.isL(I:Inv X ad Z H s)(h:H l=some (.lst (as.map V.ref))):s.heap.IsList l (as.map Value.ref).toArray:=by
 obtain⟨b_,r,p,_⟩:=I.list (aa.of (K:=X.K) h);rw[MB r]at p;exact p.isList
theorem fG.of{H':Hp}{b:Addr}(f:fG X ad H b)(n:H' b=none):fG X ad H' b:=⟨n,f.2⟩
theorem Inv.turnF{h':Heap}{t':Nat}{b:Addr}(I:Inv X ad Z H s)(f:fG X ad H b)(k:∀c o,c≠b->s.heap.get? c=some o->h'.get? c=some o):Inv X ad Z H { s with heap:=h',toks:=t' }:=
 I.turned k f.1 f.2.1 f.2.2.2.1 f.2.2.2.2.1 f.2.2.2.2.2
theorem afJ(hc:X.calm=true)(hu:X.A.in1.units<cLine)(yd:l≠I)(tW:S≠I)(Bl:H0 l=some (.lst (as.map V.ref)))(ok:∀i j,ic (ks i) (ks j))(tr:∀a b c,cr (ks a) (ks b)=true->cr (ks b) (ks c)=true->cr (ks a) (ks c)=true)(vH:∀a,cr (ks a) (ks a)=false)
 (a3:FG X q as ks H0) (hR:∀i a H' s',as[i]?=some a->(∀j,j<as.length->cr (ks j) (ks i)=false)->Inv X ad Z H' s'->ac H0 H'->R (.ok (.ret (.ref a))) s') :
 ∀(r j i:Nat) (H:Hp) (s:Shared) (ab O:Addr) (c:Nat),as.length - (j+1)=r->j+1<=as.length->Inv X ad Z H s->ac H0 H->fG X ad H I->fG X ad H S->s.heap.get? S=some (seqObj "list" #[.ref ab,.ref O] c)->s.heap.IsListIter I l (j+1) ->
  as[i]?=some ab->H O=some (.tup ((ks i).map Bi))->(∀J,J<=j->cr (ks J) (ks i)=false)->codeAny (model X.prog X.w) X.A (.builtin "min.loop" ⟨[.ref I,.ref q,.ref S],[]⟩) R s:=by
 have ye:(toString "min"++toString ".loop":String)="min.loop":=by decide
 have hsz:(as.map Value.ref).toArray.size=as.length:=by simp
 intro r
 induction r with
 | zero=>
  intro j i H s ab O c hr hj U sm fI fS hS a1 jW FH a0;have W:=Dr (prog:=X.prog) (w:=X.w) (A:=X.A.in1) (U.ok.hd hc) I l yd (as.map Value.ref).toArray;have jE:j+1=as.length:=by omega
  refine sw VY ?_;rw[uR wS _];show wpAny _ X.A.in1 (seqItems? (.ref S) >>= _) _ _ _;refine af (wF hS rfl ?_);show wpAny _ X.A.in1 (tryCatch (pyNext (.ref I)) _ >>= _) _ _ _;refine af (zU (W.done _ _ _ ⟨by rw[hsz,<-jE];exact a1,U.isL (sm _ _ Bl)⟩ λh' oq d5=>?_));have I1:Inv X ad Z H { s with heap:=h',toks:=oq }:=U.turnF fI λb o G e=>d5 b o (by simpa using G) e;have ib:=d5 S _ (by simpa using tW) hS;have s1:=lZ h' S (Obj.mapSeq λ_=>(#[]:Av));show wpAny _ X.A.in1 (updateSeq S (λ_=>#[]) >>= _) _ _ _;refine af ?_;refine Dq ib rfl (af (JE (au ?_)));exact hR i ab H _ jW (λJ qX=>a0 J (by omega)) (I1.turnF (t':=oq) fS λb o G e=>(s1.2 b G).trans e) sm
 | succ r ih=>
  intro j i H s ab O c hr hj U sm fI fS hS a1 jW FH a0;have W:=Dr (prog:=X.prog) (w:=X.w) (A:=X.A.in1) (U.ok.hd hc) I l yd (as.map Value.ref).toArray;have aT:j+1<as.length:=by omega
  refine sw VY ?_;rw[uR wS _];show wpAny _ X.A.in1 (seqItems? (.ref S) >>= _) _ _ _;refine af (wF hS rfl ?_);show wpAny _ X.A.in1 (tryCatch (pyNext (.ref I)) _ >>= _) _ _ _;refine af (zU (W.item (j+1) _ _ _ (by rw[hsz];exact aT) ⟨a1,U.isL (sm _ _ Bl)⟩ λv h' oq hP xY d5=>?_));have ie:(as.map Value.ref)[j+1]?=some v:=by simpa using hP
  obtain⟨a,ha,rfl⟩:∃a,as[j+1]?=some a/\v=.ref a:=by
   rw[c8]at ie;cases e:as[j+1]? with
   | none=>rw[e]at ie;cases ie
   | some a=>rw[e]at ie;cases ie;exact⟨a,rfl,rfl⟩
  obtain⟨qY,yf,o9,tU⟩:=id xY.1;have I1:Inv X ad Z H { s with heap:=h',toks:=oq }:=U.turnF fI λb o G e=>d5 b o (by simpa using G) e;have yg:h'.get? S=some (seqObj "list" #[.ref ab,.ref O] c):=d5 S _ (by simpa using tW) hS;have Ip:Inv X (ad++sY [I,S] h') Z H { s with heap:=h',toks:=oq }:=I1.pinned (fp:=[I,S]) (λb G=>by
   rcases bf.mp G with e | e
   . rw[e];exact fI
   . rw[bF.mp e];exact fS) (λb G=>by
   rcases bf.mp G with e | e
   . rw[e];exact⟨qY,yf,λv z=>by rw[tU]at z;cases z⟩
   rw[bF.mp e];exact⟨_,yg,λv z=>nomatch z⟩)
  show wpAny _ X.A.in1 (tryCatch (holding [.ref a] (call (.ref q) [.ref a])) _ >>= _) _ _ _;refine af (zU (jT (eV (a3 (j+1) a ha _ Z H _ Ip sm) (λx s2 he=>?_) λ_ _ hF=>hF.elim)));obtain⟨Y,H2,tX,rfl,bZ,vL⟩:=he;have pI:=tX.pin (I,qY) (ff _ (ff _ (qI (by simp) yf)));have pS:=tX.pin (S,seqObj "list" #[.ref ab,.ref O] c) (ff _ (ff _ (qI (by simp) yg)));have I2:=tX.unpinned;have NE:=sm.trans bZ;have Bm:fG X ad H2 I:=fI.of pI.2.1;have vM:fG X ad H2 S:=fS.of pS.2.1;have a2:s2.heap.IsListIter I l (j+1+1):=⟨qY,pI.1,o9,tU⟩;obtain⟨Nz,r1,p1,_⟩:=I2.tuple (bh.of (K:=X.K) vL);obtain⟨a4,r2,p2,_⟩:=I2.tuple (bh.of (K:=X.K) (bZ _ _ FH));show wpAny _ X.A.in1 (tryCatch (holding [.ref a,.ref Y] (richCompare .Lt (.ref Y) (.ref O) >>= _)) _ >>= _) _ _ _;refine af (zU (jT (af (HT.afI p1 p2 (Bj r1) (Bj r2) (ok _ _) hu ?_))));refine af (jT (qo ?_));refine af (JE (au ?_))
  by_cases ki:cr (ks (j+1)) (ks i)=true
  . have s1:=lZ s2.heap S (Obj.mapSeq λ_=>#[.ref a,.ref Y]);obtain⟨c2,mE⟩:∃c2,(s2.heap.update S (Obj.mapSeq λ_=>#[.ref a,.ref Y])).get? S=some (seqObj "list" #[.ref a,.ref Y] c2):=⟨_,get?_update_seq pS.1 λ_=>#[.ref a,.ref Y]⟩;simp only[ki,uL];refine af ?_;refine Dq pS.1 rfl (af (JE ?_));rw[ye];refine au ⟨su wS _,ih (j+1) (j+1) H2 _ a Y c2 (by omega) aT (I2.turnF (t':=s2.toks) vM λb o G e=>(s1.2 b G).trans e) NE Bm vM mE ⟨qY,(s1.2 I tW.symm).trans pI.1,o9,tU⟩ ha vL λJ qX=>?_⟩
    by_cases e:J=j+1
    . subst e;exact vH _
    cases z:cr (ks J) (ks (j+1)) with
    | false=>rfl
    | true=>have:=tr _ _ _ z ki;rw[a0 J (by omega)]at this;cases this
  have iY:cr (ks (j+1)) (ks i)=false:=by simpa using ki
  simp only[iY,qm,nv];refine af (JE ?_);rw[ye];refine au ⟨su wS _,ih (j+1) i H2 _ ab O c (by omega) aT I2 NE Bm vM pS.1 a2 jW (bZ _ _ FH) λJ qX=>?_⟩
  by_cases e:J=j+1
  . subst e;exact iY
  exact a0 J (by omega)
theorem afL(G:Inv X ad Z H s)(hc:X.calm=true)(hu:X.A.in1.units<cLine)(hl:H l=some (.lst (as.map V.ref)))(cU:0<as.length)(ok:∀i j,ic (ks i) (ks j))(tr:∀a b c,cr (ks a) (ks b)=true->cr (ks b) (ks c)=true->cr (ks a) (ks c)=true)(vH:∀a,cr (ks a) (ks a)=false)
 (a0:FG X q as ks H) (hQ:∀i a H' s',as[i]?=some a->(∀j,j<as.length->cr (ks j) (ks i)=false)->Inv X ad Z H' s'->ac H H'->Q (.ref a) s') :
 wpAny (model X.prog X.w) X.A (call (.builtin "min") [.ref l] [(Str.ofString "key",.ref q)]) Q E s:=by
 have ye:(toString "min"++toString ".loop":String)="min.loop":=by decide
 have Ae:=G.isL hl;obtain⟨ol,Ba,_⟩:=id Ae;have a1:l<s.heap.objs.size:=bK Ba;have hsz:(as.map Value.ref).toArray.size=as.length:=by simp
 refine kmk_tree PySem.F.kind_min PySem.F.plain_min PySem.F.entry_min (kmk_min_key _ _) ?_;show wpAny _ X.A.in1 (Builtin.Builtins.bindParams "min" ["key","default"] 0 ⟨[],[(Str.ofString "key",.ref q)]⟩ >>= _) _ _ s;refine af (wpAny_of_eq (show Builtin.Builtins.bindParams "min" ["key","default"] 0 ⟨[],[(Str.ofString "key",.ref q)]⟩=pure [some (.ref q),none] from rfl) ?_);refine af (au ?_);refine af (Jh Ae ?_);refine af (VE ?_ (dF _));rw[ye];refine au ⟨su wS _,?_⟩;have Y:(s.heap.push { cls:=.type "list_iterator",data:=.fields #[.ref l,.int 0 0] }).objs.size=s.heap.objs.size+1:=size_push' ..;have yd:l≠s.heap.objs.size:=cX a1;have tW:(s.heap.push { cls:=.type "list_iterator",data:=.fields #[.ref l,.int 0 0] }).objs.size≠s.heap.objs.size:=by rw[Y];exact kN (wK _)
 have fI:fG X ad H s.heap.objs.size:=G.fpOk (aK _) (G.hok.fresh (aK _));have fS:fG X ad H (s.heap.push { cls:=.type "list_iterator",data:=.fields #[.ref l,.int 0 0] }).objs.size:=G.fpOk (by rw[Y];exact qr _) (G.hok.fresh (by rw[Y];exact qr _));have gI:((s.heap.push { cls:=.type "list_iterator",data:=.fields #[.ref l,.int 0 0] }).push (seqObj "list" #[] 0)).get? s.heap.objs.size=some { cls:=.type "list_iterator",data:=.fields #[.ref l,.int 0 0] }:=
  b9 _ (dA _ rfl)
 have gS:((s.heap.push { cls:=.type "list_iterator",data:=.fields #[.ref l,.int 0 0] }).push (seqObj "list" #[] 0)).get? (s.heap.push { cls:=.type "list_iterator",data:=.fields #[.ref l,.int 0 0] }).objs.size=some (seqObj "list" #[] 0):=dA _ rfl;have I0:Inv X ad Z H { s with heap:=(s.heap.push { cls:=.type "list_iterator",data:=.fields #[.ref l,.int 0 0] }).push (seqObj "list" #[] 0) }:=G.kept (t':=s.toks) λb o e=>b9 _ (b9 _ e);generalize (s.heap.push { cls:=.type "list_iterator",data:=.fields #[.ref l,.int 0 0] }).objs.size=S at *;generalize s.heap.objs.size=I at *;generalize (s.heap.push { cls:=.type "list_iterator",data:=.fields #[.ref l,.int 0 0] }).push (seqObj "list" #[] 0)=h0 at *;have W:=Dr (prog:=X.prog) (w:=X.w) (A:=X.A.in1) (G.ok.hd hc) I l yd (as.map Value.ref).toArray;refine sw VY ?_;rw[uR wS _];show wpAny _ X.A.in1 (seqItems? (.ref S) >>= _) _ _ _;refine af (wF gS rfl ?_);show wpAny _ X.A.in1 (tryCatch (pyNext (.ref I)) _ >>= _) _ _ _;refine af (zU (W.item 0 _ _ _ (by rw[hsz];exact cU) ⟨⟨_,gI,rfl,rfl⟩,I0.isL hl⟩ λv h' oq hP xY d5=>?_));have U:(as.map Value.ref)[0]?=some v:=by simpa using hP
 obtain⟨a,ha,rfl⟩:∃a,as[0]?=some a/\v=.ref a:=by
  rw[c8]at U;cases e:as[0]? with
  | none=>rw[e]at U;cases U
  | some a=>rw[e]at U;cases U;exact⟨a,rfl,rfl⟩
 obtain⟨qY,yf,o9,tU⟩:=id xY.1;have I1:Inv X ad Z H { s with heap:=h',toks:=oq }:=I0.turnF fI λb o J e=>d5 b o (by simpa using J) e;have yg:h'.get? S=some (seqObj "list" #[] 0):=d5 S _ (by simpa using tW) gS;have Ip:Inv X (ad++sY [I,S] h') Z H { s with heap:=h',toks:=oq }:=I1.pinned (fp:=[I,S]) (λb J=>by
  rcases bf.mp J with e | e
  . rw[e];exact fI
  . rw[bF.mp e];exact fS) (λb J=>by
  rcases bf.mp J with e | e
  . rw[e];exact⟨qY,yf,λv z=>by rw[tU]at z;cases z⟩
  rw[bF.mp e];exact⟨_,yg,λv z=>nomatch z⟩)
 show wpAny _ X.A.in1 (tryCatch (holding [.ref a] (call (.ref q) [.ref a])) _ >>= _) _ _ _;refine af (zU (jT (eV (a0 0 a ha _ Z H _ Ip (ac.refl H)) (λx s2 he=>?_) λ_ _ hF=>hF.elim)));obtain⟨O,H2,tX,rfl,bZ,vL⟩:=he;have pI:=tX.pin (I,qY) (ff _ (ff _ (qI (by simp) yf)));have pS:=tX.pin (S,seqObj "list" #[] 0) (ff _ (ff _ (qI (by simp) yg)));have I2:=tX.unpinned;have Bm:fG X ad H2 I:=fI.of pI.2.1;have vM:fG X ad H2 S:=fS.of pS.2.1;have s1:=lZ s2.heap S (Obj.mapSeq λ_=>#[.ref a,.ref O]);obtain⟨c2,mE⟩:∃c2,(s2.heap.update S (Obj.mapSeq λ_=>#[.ref a,.ref O])).get? S=some (seqObj "list" #[.ref a,.ref O] c2):=⟨_,get?_update_seq pS.1 λ_=>#[.ref a,.ref O]⟩;show wpAny _ X.A.in1 (updateSeq S (λ_=>#[.ref a,.ref O]) >>= _) _ _ _;refine af ?_;refine Dq pS.1 rfl ?_;rw[ye];refine au ⟨su wS _,afJ (H0:=H) hc hu yd tW hl ok tr vH a0 (λi a H' s' e b I' sm=>hQ i a H' s' e b I' sm) _ 0 0 H2 _ a O c2 rfl cU (I2.turnF (t':=s2.toks) vM λb o J e=>(s1.2 b J).trans e) bZ Bm vM mE ⟨qY,(s1.2 I tW.symm).trans pI.1,o9,tU⟩ ha vL λj' qX=>?_⟩;have e:j'=0:=by omega
 subst e;exact vH _
end
def jo(P:Addr)(H H':Hp):Prop:=∀b o,H b=some o->b≠P->H' b=some o
def afN(P:Addr)(a_:Str)(lpos:Pos)(x:Str)(te tb:TE):TE:=λZ H Q=>eP te dY Z H λus H1=>∃(l:Addr) (as:List Addr) (ks:Nat->List At),us=[.ref l]/\l≠P/\H1 l=some (.lst (as.map V.ref))/\0<as.length/\(∀i j,ic (ks i) (ks j)) /\
 (∀a b c,cr (ks a) (ks b)=true->cr (ks b) (ks c)=true->cr (ks a) (ks c)=true)/\(∀a,cr (ks a) (ks a)=false)/\aH H1 P lpos a_ /\
 (∀i a,as[i]?=some a->∀H2,jo P H1 H2->tb [some (.ref a)] H2 λv H3=>∃z,v=.ref z/\ac H2 H3/\H3 z=some (.tup ((ks i).map Bi))) /\
 ∀i a H',as[i]?=some a->(∀j,j<as.length->cr (ks j) (ks i)=false)->jo P H1 H'->aH H' P lpos a_->Q (.ref a) H'
section
variable {X:Cx}{c P:Addr}{params:Arguments}{body e:Expr}{scope:Scope}{p pos lpos xr:Pos}{a_ x:Str}{k:Nat}{te tb:TE}
theorem aH.same{H':Hp}(s:ac H H')(h:aH H P lpos a_):aH H' P lpos a_:=by
 rcases h with h | ⟨c',h1,h2⟩
 . exact .inl (s _ _ h)
 exact .inr ⟨c',s _ _ h1,s _ _ h2⟩
theorem afO(he:PE X e te)(S:aP [x] [x] scope)(Y:ce (k+1) X.A.in1)(hc:X.calm=true)(Bc:X.env.code=.ref c)(hd:W.codeHdIn X.K c P=true)(hb:X.base.BuiltinsAt X.mg P)(hg:Gl X "min")(hm:X.mg "min"=none)
 (pA:∀(q c':Addr) (A:Around) (outer:List Env) (s:Shared) (H:Hp) (E:XK),PE (kZ aI X.prog X.w X.K X.mg X.base [x] a_ scope q (.ref c') A outer s H E) body tb)
 (FI:∀(pm iB u:Value) (c':Addr),bindArgs (W.kla_fn "<lambda>" a_ params body scope [] pm (.ref c') iB) ⟨[u],[]⟩=pure ([x].zip [u]))
 (hq:X.env.qual ++ "<lambda>"=a_:=by rfl) (Bd:X.env.globals=mainGlobals:=by rfl) (mQ:closureFor scope X.env=pure []:=by rfl) (Fw:defaultsOf params X.env=([],[]):=by rfl)
 (h1:backTo pos (starEach [e] X.env)=(false,eval e X.env)::backTo pos (starEach [] X.env):=by rfl) (h2:starEach [e] X.env=[(false,eval e X.env)]:=by rfl) (h3:(backTo pos (starEach [e] X.env)).any (·.1)=false:=by rfl) :
 PE X (.Call (.Name "min" p) [e] [⟨some "key",.Lambda params body scope lpos,xr⟩] pos) (afN P a_ lpos x te tb):=by
 intro ad s Z H Q I h;have hu:X.A.in1.units<cLine:=by have:=Y.un;omega
 refine zH (sN I hg hm boot_min ?_ (by decide) (by decide));have z:PA X [e] (eP te dY):=jg he dG h2;refine callWith_kw (thn (z pos ad s Z H _ I h) λus s1 a9=>ba a9 λvs H1 I1 r ab=>ab.elim λl ap=>ap.elim λas av=>av.elim λks ax=>ax.elim λe1 az=>az.elim λlP a'=>a'.elim λhl aE=>aE.elim λcU aF=>aF.elim λok aG=>aG.elim λtr aR=>aR.elim λvH a0=>a0.elim λb4 a1=>a1.elim λa2 b1=>?_) h1 h3;subst e1;obtain⟨u1,rfl,ru⟩:=vals1 r;cases ru;have hk:PK X [⟨some "key",.Lambda params body scope lpos,xr⟩] (eP (Nq P a_ params body scope lpos) dY):=YX (ae9 Bc hd hb hq Bd mQ Fw) YW;refine thn (hk pos ad s1 Z H1 (λzs H2=>∃q c',zs=[.ref q]/\jo P H1 H2/\aH H2 P lpos a_/\H2 c'=some (xZ c' a_)/\H2 q=some (x5 q c' a_ params body scope)) I1 ⟨b4,λq c' H2 nq nP kp U g9 iu=>⟨q,c',rfl,kp,U,g9,iu⟩⟩) λws s2 a3=>ba a3 λzs H2 I2 rz a4=>a4.elim λq a5=>a5.elim λc' a6=>a6.elim λez a7=>a7.elim λkp a8=>a8.elim λU aT=>aT.elim λmE tY=>?_;subst ez;obtain⟨w1,rfl,b2⟩:=vals1 rz;cases b2;have b5:FG X q as ks H2:=by
  intro i a z DD σ' H3 s3 J j;obtain⟨pm,iB,ho⟩:=(show cb X.prog X.w H3 s3.heap q (x5 q c' a_ params body scope) from J.hok q _ (j _ _ tY)).1;have Ft:s3.heap.CodeRec (.ref c') a_:=(show cb X.prog X.w H3 s3.heap c' (xZ c' a_) from J.hok c' _ (j _ _ mE)).1;refine De (qp (ae7 (E:=E0) (vs:=[.ref a]) (us:=[.ref a]) S Y J.env0.in1 ho Ft (FI pm iB _ c') rfl (.cons rfl .nil) (pA q c' _ _ _ _ _) (a2 i a z H3 λb o e n=>j _ _ (kp b o e n))) λr s' G=>?_);cases r with
  | error e=>exact(show False from G).elim
  | ok fl=>
   cases fl with
   | ret u=>
    obtain⟨v,H',O,rv,kt,ev,b3,vL⟩:=J.after G;subst ev;cases rv;exact⟨kt,H',O,rfl,b3,vL⟩
   | next=>exact False.elim G
   | brk=>exact False.elim G
   | cont=>exact False.elim G
 refine afL I2 hc hu (kp _ _ hl lP) cU ok tr vH b5 λi a H' s' z b0 O j=>?_;exact⟨.ref a,H',O,rfl,b1 i a H' z b0 (λb o e n=>j _ _ (kp b o e n)) (U.same j)⟩
end
end
section
open PySem.W (tabObj CodeHd)
theorem agd{P:Program}{w:World}{K:Fg}{mg mb:Mv}{CX:gN}{k:Nat}{fa a Pt c:Addr}{fd:Fy}{x a_:Str}{lpos:Pos}{sp:Sp}{j:Shared}{vs:Lw}{ns:List Int}
 (KX:K.In j.heap) (j7:j.heap.Ns mainGlobals mg) (G:j.heap.Ns builtinsNs mb) (lC:∀x:Str,x≠"__name__"->mb x=bootBuiltins x) (a3:j.heap.NoLimit) (hg:j.gens = #[])
 (a7:∃bm ob,mg "__builtins__"=some (.ref bm)/\bm≠builtinsNs/\j.heap.get? bm=some ob/\ob.cls=.type "module"/\ob.dict=some builtinsNs/\ob.data=.plain)
 (O:j.heap.get? Pt=some (tabObj #[])) (hC:CodeHd j.heap c Pt) (FJ:K.lookup Pt=none)
 (ha:j.heap.get? a=some { cls:=.type "list",data:=.seq vs.toArray }) (hi:IntsAre vs ns) (hl:ns.length<=sizeLine) (hr:ce k callerA)
 (F:∀base:Heap,K.In base->base.Ns mainGlobals mg->base.BuiltinsAt mg Pt->aw P w K mg base CX k fa fd [x] sp) (FI:∀(s:Shared) (u:Value),BindsTo s fd ⟨[u],[]⟩ [(x,u)])
 (lg:∀H:Hp,H Pt=some (iC Pt #[])->aa K H a (ns.map V.int)->sp [.ref a] H (λv H'=>v=.bl true/\aH H' Pt lpos a_) λ_ _ _=>False)
 (FK:∀H e s',CX [] H j (λ_ _ _=>False) e s'->False) :
 codeAny (model P w) callerA (.call (.ref fa) ⟨[.ref a],[]⟩) (λr s'=>r=.ok (.ret (.bool true))/\OldK j.heap s'.heap/\s'.os=j.os/\AllBare s'.gens) j:=by
 have rv:=LG hi;have a4:=hi.length;have NF:a≠Pt:=λz=>by rw[z,O]at ha;cases ha
 have a1:∀H:Hp,H Pt=some (iC Pt #[])->(∀b,b≠Pt->H b=none\/∃o xs,H b=some (.frz o (.lst xs)))->aa K H a (ns.map V.int)->cC P w H j.heap->(∀b,H b≠none->b=a\/b=Pt)->(H a≠none->K.lookup a=none) ->
  codeAny (model P w) callerA (.call (.ref fa) ⟨[.ref a],[]⟩) (λr s'=>r=.ok (.ret (.bool true))/\OldK j.heap s'.heap/\s'.os=j.os/\AllBare s'.gens) j:=by
  intro H hT hO hS hok hA hK;have FL:∀{b:Addr}{o:Obj},j.heap.get? b=some o->H b=none->(nG j.heap H).get? b=some o:=λe n=>WE e n;have NG:∀{b:Addr}{o:Obj},j.heap.get? b=some o->(∀it n,o.data≠.seq it n)->(∀ps,o.data≠.fields ps)->H b=none:=λ{b o} e d1 d2=>by
   cases q:H b with
   | none=>rfl
   | some u=>
    rcases hA b (by rw[q];simp) with e' | e'
    . subst e';rw[ha]at e;cases e;exact absurd rfl (d1 _ _)
    subst e';rw[O]at e;cases e;exact absurd rfl (d2 _)
  have Bn:∀{b:Addr}{m:Mv},j.heap.Ns b m->(nG j.heap H).Ns b m:=λ{b m} ⟨o,es,ep,e,d,r⟩=>⟨o,es,ep,FL e (NG e (λit n z=>by rw[d]at z;cases z) λps z=>by rw[d]at z;cases z),d,r⟩;have NH:K.In (nG j.heap H):=λb o e=>FL (KX b o e) (by
   cases q:H b with
   | none=>rfl
   | some u=>
    rcases hA b (by rw[q];simp) with e' | e'
    . subst e';rw[hK (by rw[q];simp)]at e;cases e
    subst e';rw[FJ]at e;cases e)
  have hM:Mod K mg (nG j.heap H):=⟨NH,Bn j7,⟨mb,Bn G,lC⟩,a3.elim λmc a5=>a5.elim λh1 h2=>⟨mc,Bn h1,h2⟩⟩;have e0:mv P w K mg (nG j.heap H) callerA [] j H:=⟨rfl,hM,λb o e=>WF e,wJ (WD _ _),trivial,λb G=>absurd (show b∈([]:List Addr) from G) (by simp),hok,.of_eq hg⟩;have a8:(nG j.heap H).BuiltinsAt mg Pt:=by
   obtain⟨bm,a9,b1,b2,U,b4,b5,Y⟩:=a7;refine⟨bm,a9,b1,b2,λz=>?_,λz=>?_,FL U (NG U (λit n z=>by rw[Y]at z;cases z) λps z=>by rw[Y]at z;cases z),b4,b5,Y⟩
   . obtain⟨o,es,ep,e,d,_⟩:=j7;rw[z,e]at U;cases U;rw[d]at Y;cases Y
   rw[z,O]at U;cases U;cases Y
  refine qp ((F _ NH (Bn j7) a8).run callerA [] j H ⟨[.ref a],[]⟩ [.ref a] [.ref a] _ _ hr e0 (FI j (.ref a)) (.cons rfl .nil) (lg H hT hS)) λr s' h=>?_;cases r with
  | error e=>exact(FK H e s' h).elim
  | ok fl=>
   cases fl with
   | next=>exact False.elim h
   | brk=>exact False.elim h
   | cont=>exact False.elim h
   | ret u=>
    obtain⟨v,H',os,a6,un,tH,r',q',tb⟩:=h;subst q';obtain rfl:u=Value.bool true:=r';have old:∀b o,j.heap.get? b=some o->b≠Pt->s'.heap.get? b=some o:=λb o e J=>by
     cases q:H b with
     | none=>exact un.keep b o e q (by intro z;exact absurd (show b∈([]:List Addr) from z) (by simp)) (by simp)
     | some u=>
      rcases hO b J with z | ⟨ob,xs,z⟩
      . rw[q]at z;cases z
      have z2:=un.frzs b ob _ z;obtain⟨e1,_⟩:=hok b _ z;obtain⟨e2,_⟩:=tH b _ z2;rw[e]at e1;cases e1;exact e2
    have a2:s'.heap.get? Pt=some (tabObj #[])\/∃a0,s'.heap.get? Pt=some (tabObj (#[]++a0)):=by
     rcases tb with z | ⟨c',z,_⟩
     . exact .inl (show cb P w H' s'.heap Pt (iC Pt #[]) from tH Pt _ z).1
     exact .inr ⟨_,by rw[Array.empty_append];exact(show cb P w H' s'.heap Pt (iC Pt _) from tH Pt _ z).1⟩
    refine⟨rfl,⟨λb o e=>?_,λb o e=>?_⟩,os,a6⟩
    . by_cases J:b=Pt
      . subst J;rw[O]at e;cases e
        rcases a2 with z | ⟨a0,z⟩
        . exact .inl z
        exact .inr (.inl ⟨(hC.tab O).isCodeTable,rfl,#[],a0,rfl,z⟩)
      exact .inl (old b o e J)
    by_cases J:b=Pt
    . subst J
      rcases a2 with z | ⟨a0,z⟩
      . exact⟨_,z⟩
      exact⟨_,z⟩
    exact⟨o,old b o e J⟩
 have fL:∀H:Hp,H Pt=some (iC Pt #[])->cb P w H j.heap Pt (iC Pt #[]):=λH _=>x6 O O λh1 h2 z k=>k _ z;cases hk:K.lookup a with
 | some o=>
  have e:=KX a o hk;rw[ha]at e;cases e;refine a1 (λb=>if b=Pt then some (iC Pt #[]) else none) (am rfl) (λb J=>.inl (ah J)) (.inr ⟨_,vs.toArray,_,hk,rfl,rfl,rfl,by rw[gf,a4];exact hl,by simpa using rv⟩) (λb u z=>?_) (λb z=>?_) λz=>absurd (ah NF) z
  . by_cases G:b=Pt
    . have z':=(am G).symm.trans z;cases z';subst G;exact fL _ (am rfl)
    have z':=(ah G).symm.trans z;cases z'
  by_cases G:b=Pt
  . exact .inr G
  exact absurd (ah G) z
 | none=>
  refine a1 (λb=>if b=Pt then some (iC Pt #[]) else if b=a then some (.frz { cls:=.type "list",data:=.seq vs.toArray } (.lst (ns.map V.int))) else none) (am rfl) (λb J=>?_) (.inl (.inr ⟨{ cls:=.type "list",data:=.seq vs.toArray },by show(if a=Pt then _ else if a=a then _ else _)=_;rw[ah NF,am rfl]⟩)) (λb u z=>?_) (λb z=>?_) λ_=>hk
  . show(if b=Pt then _ else if b=a then _ else _)=_\/∃o xs,(if b=Pt then _ else if b=a then _ else _)=_;rw[ah J]
    by_cases G:b=a
    . exact .inr ⟨_,_,am G⟩
    exact .inl (ah G)
  . have z:(if b=Pt then some (iC Pt #[]) else if b=a then some (.frz { cls:=.type "list",data:=.seq vs.toArray } (.lst (ns.map V.int))) else none)=some u:=z
    by_cases G:b=Pt
    . rw[am G]at z;cases z;subst G;exact fL _ (am rfl)
    rw[ah G]at z
    by_cases iY:b=a
    . rw[am iY]at z;cases z;subst iY;exact⟨ha,by rw[ak];exact hl,vs,_,rv,ha⟩
    rw[ah iY]at z;cases z
  have z:(if b=Pt then some (iC Pt #[]) else if b=a then some (HO.frz { cls:=.type "list",data:=.seq vs.toArray } (.lst (ns.map V.int))) else none)≠none:=z
  by_cases G:b=Pt
  . exact .inr G
  rw[ah G]at z
  by_cases iY:b=a
  . exact .inl iY
  rw[ah iY]at z;exact absurd rfl z
theorem agj{l:W.OpenLaw}{n k:Nat}{q:Program}{a1:Ls}{XP:(Mv)->Heap->Prop}{J:World->Heap->Prop}{d:DefRec}{K:Params->Fg}{CX:World->gN}{sp:World->Sp}{x a_:Str}{lpos:Pos}{Pt:Addr}
 (hn:l.most=some n) (xn:n<=sizeLine) (xD:d.params.defaults=[]) (hr:ce k callerA)
 (hY:∀(w:World) (h:Heap),J w h->(K w.params).In h/\h.get? Pt=some (tabObj #[]))
 (F:∀(w:World) (mg:Mv) (j:Addr) (h:Heap),(K w.params).In h->h.Ns mainGlobals mg->mg d.name=some (.ref j) ->
  ∃(fd:Fy) (c:Addr),(∀(s:Shared) (u:Value),BindsTo s fd ⟨[u],[]⟩ [(x,u)])/\W.codeHdIn (K w.params) c Pt=true/\(K w.params).lookup Pt=none /\
   ∀base:Heap,(K w.params).In base->base.Ns mainGlobals mg->base.BuiltinsAt mg Pt->aw l.prog w (K w.params) mg base (CX w) k j fd [x] (sp w))
 (lg:∀(w:World) (H:Hp) (a:Addr) (ns:List Int),ns.length<=n->H Pt=some (iC Pt #[])->aa (K w.params) H a (ns.map V.int)->sp w [.ref a] H (λv H'=>v=.bl true/\aH H' Pt lpos a_) λ_ _ _=>False)
 (FK:∀(w:World) (H:Hp) (s:Shared) (e:Value) (s':Shared),CX w [] H s (λ_ _ _=>False) e s'->False) :
 W.WalkO q a1 XP J l.row.toRowW d [] (λf vs=>PySem.call f vs):=by
 refine Att.aaM hn xD λw s₀ s₁ mg mb j o pm cd a2 a vs ns G Y ho hd je xE tF a0 O hg=>?_;obtain⟨z,hP⟩:=hY w _ Y;obtain⟨fd,c,hb,hC,U,hF⟩:=F w mg j _ z G.T.g xE;exact agd z G.T.g G.T.b G.T.builtins G.T.nolimit hg G.T.bmain hP (W.codeHd_of_K z hC) U tF a0 (cn O xn) hr hF hb (λH hO hS=>lg w H a ns O hO hS) λH e s'=>FK w H s₁ e s'
end
end L2
abbrev aso:PySem.Str:="self"
abbrev asp:PySem.Str:="shelf"
abbrev asq:PySem.Str:="path"
abbrev asr:PySem.Str:="_law_number"
abbrev ass:PySem.Str:="parcels"
abbrev ast:PySem.Str:="_law_script"
abbrev asu:PySem.Str:="name"
abbrev asv:PySem.Str:="disk"
abbrev asw:PySem.Str:="parcel"
abbrev asx:PySem.Str:="_law_cell"
abbrev asy:PySem.Str:="chosen"
abbrev asz:PySem.Str:="files"
abbrev asA:PySem.Str:="_law_names"
abbrev asB:PySem.Str:="make"
abbrev asC:PySem.Str:="text"
abbrev asD:PySem.Str:="choices"
abbrev asE:PySem.Str:="_law_k"
abbrev asF:PySem.Str:="lines"
abbrev asG:PySem.Str:="_law_disk"
abbrev asH:PySem.Str:="goal"
abbrev asI:PySem.Str:="other"
abbrev asJ:PySem.Str:="rank"
abbrev asK:PySem.Str:="name_behind"
abbrev asL:PySem.Str:="_law_parcels"
abbrev asM:PySem.Str:="tree"
abbrev asN:PySem.Str:="common"
abbrev asO:PySem.Str:="stand"
abbrev asP:PySem.Str:="own"
abbrev asQ:PySem.Str:="_law_some"
abbrev asR:PySem.Str:="_law_house"
abbrev asS:PySem.Str:="needs"
abbrev asT:PySem.Str:="_law_tree"
abbrev asU:PySem.Str:="number"
abbrev asV:PySem.Str:="second"
abbrev asW:PySem.Str:="change"
abbrev asX:PySem.Str:="_law_stand_here"
abbrev asY:PySem.Str:="first"
abbrev asZ:PySem.Str:="block"
abbrev as0:PySem.Str:="abcdefghijklmnopqrstuvwxyz"
abbrev as1:PySem.Str:="now"
abbrev as2:PySem.Str:="shuts"
abbrev as3:PySem.Str:="group"
abbrev as4:PySem.Str:="come_up"
abbrev as5:PySem.Str:="base"
abbrev as6:PySem.Str:="_law_files"
abbrev as7:PySem.Str:="_law_many"
abbrev as8:PySem.Str:="_law_name_here"
abbrev as9:PySem.Str:="_law_parcels_apart"
abbrev ata:PySem.Str:="_law_one"
abbrev atb:PySem.Str:="offers"
abbrev atc:PySem.Str:="names"
abbrev atd:PySem.Str:="kind"
abbrev ate:PySem.Str:="brought"
abbrev atf:PySem.Str:="_law_p"
abbrev atg:PySem.Str:="_law_start"
abbrev ath:PySem.Str:="others"
abbrev ati:PySem.Str:="groups"
abbrev atj:PySem.Str:="_law_found"
abbrev atk:PySem.Str:="_law_path_here"
abbrev atl:PySem.Str:="shelved"
namespace K73
open L2
variable {x:Str}{H:Hp}{o:HO}{n:Int}{L:List Addr}{α β:Type}{kvs:List (ao×V)}{c d:Nat}{ms:List Int}
structure fb(C dx x:Addr)(H Hk:Hp)(fl:List (Str×V)):Prop where
 same:∀b o,H b=some o->b≠x->Hk b=some o
 free:∀b,Hk b=none->H b=none
 ob:Hk x=some (.ins C dx fl)
section
variable {K:Fg}{C dx x p a:Addr}{Hk:Hp}{fl qZ:List (Str×V)} {o':HO}{xs:ae}
theorem fb.put(S:fb C dx x H Hk fl):fb C dx x H (ag Hk x (.ins C dx qZ)) qZ:=
 ⟨λb o e j=>by rw[bg j];exact S.same b o e j,λb e=>S.free b (jl e).2,aD⟩
theorem fb.lay(S:fb C dx x H Hk fl)(z:Hk p=none):fb C dx x H (ag Hk p o) fl:=
 ⟨λb u e j=>by rw[bg (aO (S.same b u e j) z)];exact S.same b u e j,λb e=>S.free b (jl e).2,by rw[bg (aO S.ob z)];exact S.ob⟩
theorem fb.sqL(S:fb C dx x H Hk fl)(j:H x=some (.ins C dx qZ))(h:aa K H a xs):aa K Hk a xs:=by
 rcases h with(h | ⟨o,h⟩) | h
 . exact .inl (.inl (S.same _ _ h (aU h j (by intro z;cases z))))
 . exact .inl (.inr ⟨o,S.same _ _ h (aU h j (by intro z;cases z))⟩)
 exact .inr h
theorem fb.sqT(S:fb C dx x H Hk fl)(j:H x=some (.ins C dx qZ))(h:bh K H a xs):bh K Hk a xs:=by
 rcases h with(h | ⟨o,h⟩) | h
 . exact .inl (.inl (S.same _ _ h (aU h j (by intro z;cases z))))
 . exact .inl (.inr ⟨o,S.same _ _ h (aU h j (by intro z;cases z))⟩)
 exact .inr h
theorem aC(h:Hk a=some o)(n:a≠p):ag Hk p o' a=some o:=by rw[bg n];exact h
theorem lp{f:Str}{v:V}{n:Nat}(h:fl.length<=n):(aB f v fl).length<=n+1:=cn (DX _ _ _) (by omega)
theorem few{n:Nat}(h:fl.length<=n)(h2:n<1000):fl.length<1000:=by omega
theorem pU:([]:List (Str×V)).length<=0:=aK _
end
def msk(L:List Addr)(H:Hp):Hp:=λb=>if b∈L then none else H b
theorem aQ:ac (msk L H) H:=λb o e=>by
 unfold msk at e;split at e
 . cases e
 exact e
theorem gP{H':Hp}(s:ac H H'):ac (msk L H) (msk L H'):=λb o e=>by
 unfold msk at e ⊢;split at e
 . cases e
 rw[ah ‹_›];exact s _ _ e
theorem q5(h:p∈L):msk L (ag H p o)=msk L H:=by
 funext b
 unfold msk;split
 . rfl
 have j:¬b∈L:=‹_›;rw[bg (λz=>j (by rw[z];exact h))]
theorem cj(n:b∉L)(h:H b=some o):msk L H b=some o:=by
 unfold msk;rw[ah n];exact h
theorem FM{j:List Addr}(h:∀b∈j,b∈L):ac (msk L H) (msk j H):=λb o e=>by
 unfold msk at e ⊢;split at e
 . cases e
 rw[ah (λz=>‹¬b∈L› (h b z))];exact e
def gD(H:Hp)(L:List Addr):Prop:=∀b∈L,∃o,H b=some o/\∀vs,o≠.tup vs
theorem gD.free(h:gD H L){b:Addr}(n:H b=none):b∉L:=λz=>by
 obtain⟨o,e,_⟩:=h b z;rw[n]at e;cases e
theorem gD.tup(h:gD H L){b:Addr}{vs:ae}(n:H b=some (.tup vs)):b∉L:=λz=>by
 obtain⟨o,e,q⟩:=h b z;rw[n]at e;cases e;exact q _ rfl
theorem yi{F:α->β->Prop}:∀{xs:List α}{ys:List β},Paired F xs ys->∀{i:Nat}{y:β},ys[i]?=some y->∃x,xs[i]?=some x/\F x y
 | _,_,.nil,i,y,h=>by cases h
 | _,_,.cons r t,0,y,h=>by cases h;exact⟨_,rfl,r⟩
 | _,_,.cons r t,i+1,y,h=>yi t (i:=i) h
theorem fc{F:α->β->Prop}:∀{xs:List α}{ys:List β},Paired F xs ys->∀{i:Nat}{x:α},xs[i]?=some x->∃y,ys[i]?=some y/\F x y
 | _,_,.nil,i,y,h=>by cases h
 | _,_,.cons r t,0,y,h=>by cases h;exact⟨_,rfl,r⟩
 | _,_,.cons r t,i+1,y,h=>fc t (i:=i) h
theorem bD{F:α->β->Prop}:∀{xs:List α}{ys:List β},Paired F xs ys->xs.length=ys.length
 | _,_,.nil=>rfl
 | _,_,.cons _ t=>fo (· + 1) (bD t)
theorem iD{F:α->β->Prop}{x:α}{y:β}(h:F x y):∀{xs:List α}{ys:List β},Paired F xs ys->Paired F (xs++[x]) (ys++[y])
 | _,_,.nil=>.cons h .nil
 | _,_,.cons r t=>.cons r (iD h t)
theorem NJ{F:α->β->Prop}:∀{xs:List α}{ys:List β},xs.length=ys.length->(∀(i:Nat) (y:β),ys[i]?=some y->∃x,xs[i]?=some x/\F x y)->Paired F xs ys
 | [],[],_,_=>.nil
 | [],_::_,h,_=>nomatch h
 | _::_,[],h,_=>nomatch h
 | x::xs,y::ys,h,k=>by
  obtain⟨j,e,r⟩:=k 0 y rfl;cases e;exact .cons r (NJ (Nat.succ.inj h) λi z hz=>k (i+1) z hz)
theorem NK:∀(p:Str) (l:Ls),risingS p l=true->(p::l).Pairwise (λa b=>a.cps.toList<=b.cps.toList)
 | p,[],_=>List.pairwise_singleton _ _
 | p,x::r,h=>by
  have h:(!ltCps x.cps.toList p.cps.toList && risingS x r)=true:=h;obtain⟨h1,h2⟩:=wQ.mp h;have j:=NK x r h2;have le:p.cps.toList<=x.cps.toList:=by
   rw[PyProof.Rows.ltCps_eq]at h1;intro z;rw[bE z]at h1;cases h1
  refine List.pairwise_cons.mpr ⟨λy hy=>?_,j⟩
  rcases bf.mp hy with e | hy
  . rw[e];exact le
  exact List.le_trans le (List.rel_of_pairwise_cons j hy)
theorem Bo:∀{l:Ls},sortedS l=true->l.Pairwise (λa b=>a.cps.toList<=b.cps.toList)
 | [],_=>.nil
 | x::r,h=>NK x r h
theorem agk{a b:Ls}(p:a.Perm b)(h1:sortedS a=true)(h2:sortedS b=true):a=b:=by
 refine aqP (λx y _ _ h h'=>?_) (Bo h1) (Bo h2) p;have e:=VZ h h';obtain⟨⟨x⟩⟩:=x;obtain⟨⟨y⟩⟩:=y;have e:x=y:=e;rw[e]
def bP(tr:List (Str×β))(x:Str)(ls:β):List (Str×β):=if (tr.any λf=>decide (f.1=x))=true then tr.map (λf=>if f.1=x then(f.1,ls) else f) else tr++[(x,ls)]
theorem kj{tr:List (Str×β)}{ls:β}{f:Str×β}(h:f∈bP tr x ls):f=(x,ls)\/f∈tr:=by
 unfold bP at h;split at h
 . obtain⟨g,j,e⟩:=ca.mp h;split at e
   . rename_i z;left;rw[<-e,z]
   right;rw[<-e];exact j
 rcases bY.mp h with h | h
 . exact .inr h
 exact .inl (bF.mp h)
theorem NL(tr:List (Str×β))(x:Str)(ls:β):(bP tr x ls).map (·.1)=if (tr.any λf=>decide (f.1=x))=true then tr.map (·.1) else tr.map (·.1)++[x]:=by
 unfold bP;split
 . rw[md];refine zV λf _=>?_;show(if f.1=x then(f.1,ls) else f).1=f.1;split<;>rfl
 rw[dq];rfl
theorem q9{tr:List (Str×β)}:(tr.any λf=>decide (f.1=x))=true↔x∈tr.map (·.1):=by
 rw[sk,ca];constructor
 . rintro⟨f,hf,e⟩;exact⟨f,hf,cT e⟩
 rintro⟨f,hf,e⟩;exact⟨f,hf,bE e⟩
theorem lH{tr:List (Str×β)}{ls:β}(h:(tr.map (·.1)).Nodup):((bP tr x ls).map (·.1)).Nodup:=by
 rw[NL];split
 . exact h
 rename_i G;rw[qw];refine⟨h,by simp,λa j b z=>?_⟩;rw[bF.mp z];intro e;exact G (q9.mpr (e▸j))
theorem FO{tr:List (Str×β)}{y:Str}{ls:β}(h:y=x\/y∈tr.map (·.1)):y∈(bP tr x ls).map (·.1):=by
 rw[NL];split
 . rename_i j
   rcases h with h | h
   . rw[h];exact q9.mp j
   exact h
 rcases h with h | h
 . rw[h];exact ff _ (bF.mpr rfl)
 exact wG _ h
theorem lI(tr:List (Str×β))(x:Str)(ls:β):(bP tr x ls).length<=tr.length+1:=by
 unfold bP;split
 . rw[ak];omega
 rw[bI,jU];omega
theorem iZ{F:ao×V->Str×β->Prop}(J:∀kv f,F kv f->kv.1=Sum.inr f.1){ls:β}{v:V}(U:F (.inr x,v) (x,ls)){tr:List (Str×β)}(h:Paired F kvs tr):Paired F (cx kvs (.inr x) v) (bP tr x ls):=by
 have e:(kvs.any λkv=>decide (kv.1=Sum.inr x))=(tr.any λf=>decide (f.1=x)):=by
  induction h with
  | nil=>rfl
  | cons r t G=>
   rw[se,se,G,J _ _ r]
   congr 1
   exact wT.mpr ⟨λz=>nu z,λz=>by rw[z]⟩
 unfold cx bP;rw[e];split
 . clear e;rename_i hh;clear hh
   induction h with
   | nil=>exact .nil
   | @cons kv f kvs tr r t G=>
    refine .cons ?_ G;have O:=J _ _ r;dsimp only
    by_cases j:f.1=x
    . have Y:kv.1=Sum.inr x:=by rw[O,j]
      rw[am Y,am j,Y,j];exact U
    rw[ah (λz=>j (nu (O.symm.trans z))),ah j];exact r
 exact iD U h
theorem oC{F:ao×V->Str×β->Prop}(j:∀kv f,F kv f->kv.1=Sum.inr f.1){tr:List (Str×β)}(h:Paired F kvs tr):pN kvs (tr.map (·.1)):=by
 unfold pN
 induction h with
 | nil=>rfl
 | cons r t z=>rw[bV,bV,bV,z,j _ _ r]
theorem rc{F:ao×V->Str×β->Prop}(J:∀kv f,F kv f->kv.1=Sum.inr f.1){tr:List (Str×β)}(h:Paired F kvs tr)(G:x∈tr.map (·.1)):∃v ls,bi kvs (.inr x)=some v/\(x,ls)∈tr/\F (.inr x,v) (x,ls):=by
 induction h with
 | nil=>cases G
 | @cons kv f kvs tr r t O=>
  have j:=J _ _ r
  by_cases e:f.1=x
  . refine⟨kv.2,f.2,by rw[j0 (j.trans (by rw[e]))],?_,?_⟩
    . rw[<-e];exact bH
    rw[<-e,<-j];exact r
  rcases bf.mp G with z | z
  . exact absurd z.symm e
  obtain⟨v,ls,a,b,c⟩:=O z;exact⟨v,ls,by rw[ji (λq=>e (nu (j.symm.trans q)))];exact a,bR _ b,c⟩
theorem Bp{F:ao×V->Str×β->Prop}(z:∀kv f,F kv f->kv.1=Sum.inr f.1){tr:List (Str×β)}(h:Paired F kvs tr)(j:x∉tr.map (·.1)):bi kvs (.inr x)=none:=by
 induction h with
 | nil=>rfl
 | @cons kv f kvs tr r t J=>
  have G:=z _ _ r;rw[bV,bf,ny]at j;rw[ji (λq=>j.1 (nu (G.symm.trans q)).symm)];exact J j.2
theorem oE{tr:List (Str×β)}(h:(tr.map (·.1)).Nodup){a b:β}(ha:(x,a)∈tr)(hb:(x,b)∈tr):a=b:=by
 induction tr with
 | nil=>cases ha
 | cons f tr G=>
  rw[bV,qt]at h
  rcases bf.mp ha with z | ha
  . rcases bf.mp hb with j | hb
    . rw[<-z]at j;exact(Prod.mk.inj j).2.symm
    exact absurd (fq (f:=(·.1)) hb) (by rw[<-z]at h;exact h.1)
  rcases bf.mp hb with j | hb
  . exact absurd (fq (f:=(·.1)) ha) (by rw[<-j]at h;exact h.1)
  exact G h.2 ha hb
theorem NM:∀{p q x y:List Nat},c∉p->c∉q->p++c::x=q++c::y->p=q/\x=y
 | [],[],x,y,_,_,h=>⟨rfl,(sy h).2⟩
 | [],b::q,x,y,_,hq,h=>absurd ((sy h).1▸bH) hq
 | a::p,[],x,y,hp,_,h=>absurd ((sy h).1.symm▸bH) hp
 | a::p,b::q,x,y,hp,hq,h=>by
  have h:=sy h;obtain⟨e1,e2⟩:=NM (λz=>hp (bR _ z)) (λz=>hq (bR _ z)) h.2;exact⟨by rw[h.1,e1],e2⟩
theorem yk{a b:Str}(h:a.cps.toList=b.cps.toList):a=b:=Str.ext' (Array.toList_inj.mp h)
theorem mS(a b:Str):(a++b).cps.toList=a.cps.toList++b.cps.toList:=by rw[Str.cps_append,Array.toList_append]
theorem oF(c:Nat)(p q:Str)(r:Ls):(Str.join ⟨#[c]⟩ (p::q::r)).cps.toList=p.cps.toList++c::(Str.join ⟨#[c]⟩ (q::r)).cps.toList:=by
 show(p++⟨#[c]⟩++Str.join ⟨#[c]⟩ (q::r)).cps.toList=_;rw[mS,mS,kS];rfl
theorem NN:∀{ps j:Ls},ps≠[]->j≠[]->(∀p∈ps,c∉p.cps.toList)->(∀q∈j,c∉q.cps.toList)->Str.join ⟨#[c]⟩ ps=Str.join ⟨#[c]⟩ j->ps=j
 | [],_,h,_,_,_,_=>absurd rfl h
 | _::_,[],_,h,_,_,_=>absurd rfl h
 | [p],[q],_,_,_,_,e=>by
  have e:p=q:=e;rw[e]
 | [p],q::q'::r,_,_,hp,_,e=>by
  have e:=fo (λx:Str=>x.cps.toList) e;have e:p.cps.toList=(Str.join ⟨#[c]⟩ (q::q'::r)).cps.toList:=e;rw[oF]at e;exact absurd (by rw[e];exact ff _ bH) (hp p bH)
 | p::p'::r,[q],_,_,_,hq,e=>by
  have e:=fo (λx:Str=>x.cps.toList) e;have e:(Str.join ⟨#[c]⟩ (p::p'::r)).cps.toList=q.cps.toList:=e;rw[oF]at e;exact absurd (by rw[<-e];exact ff _ bH) (hq q bH)
 | p::p'::r,q::q'::t,_,_,hp,hq,e=>by
  have e:=fo (λx:Str=>x.cps.toList) e;have e:(Str.join ⟨#[c]⟩ (p::p'::r)).cps.toList=(Str.join ⟨#[c]⟩ (q::q'::t)).cps.toList:=e;rw[oF,oF]at e;obtain⟨e1,e2⟩:=NM (hp p bH) (hq q bH) e;rw[yk e1,NN (Dt _ _) (Dt _ _) (λz hz=>hp z (bR _ hz)) (λz hz=>hq z (bR _ hz)) (yk e2)]
theorem agl(x y:Str):Txt.split x y≠[]:=λz=>by
 have:=split_pos x y;rw[z]at this;exact absurd this (by decide)
theorem Bq{ps:Ls}(ne:ps≠[])(h:∀p∈ps,c∉p.cps.toList):Txt.split (Str.join ⟨#[c]⟩ ps) ⟨#[c]⟩=ps:=
 NN (agl _ _) ne (StrLaws.split_free _ _) h (StrLaws.join_split _ _)
def ym(x y:Str):Bool:=!decide (y.cps.toList<x.cps.toList)
def rf(lo hi:Str)(c:Nat):Bool:=if ym lo (qV c)=true then ym (qV c) hi else false
theorem NO(a b:Nat):ym ⟨#[a]⟩ ⟨#[b]⟩=decide (a<=b):=by
 unfold ym;show(!decide ([b] < [a]))=_;rw[StrLaws.lt_cons_cons,StrLaws.lt_nil_nil,uO,r9]
 by_cases h:b<a
 . rw[bE h,cu (by omega)];rfl
 rw[cu h,bE (by omega)];rfl
theorem Br(a b c:Nat):rf ⟨#[a]⟩ ⟨#[b]⟩ c=decide (a<=c/\c<=b):=by
 unfold rf qV;rw[NO,NO]
 by_cases h:a<=c
 . rw[bE h,am rfl];exact wT.mpr ⟨λz=>⟨h,z⟩,λz=>z.2⟩
 rw[cu h,ah (by decide),cu (λz=>h z.1)]
theorem NP(x:Str)(c:Nat):Txt.startswith x ⟨#[c]⟩=decide (x.cps.toList[0]?=some c):=by
 unfold Txt.startswith;rw[wI,io,wU,wU];exact StrLaws.subAt_one x c 0
def lJ:Str:="\n"
def spS:Str:=" "
def lK:Str:="/"
def lL:Str:="."
def fD:Str:="<"
def fE:Str:=">"
def aS:Str:="a"
def zS:Str:="z"
def NQ:Str:="~"
def Bs:Str:="0"
def NR:Str:="9"
def gm:Str:="in"
def f7:Str:="choose"
def dR:Str:=asP
theorem FP:lJ=⟨#[10]⟩:=by decide +kernel
theorem rh:spS=⟨#[32]⟩:=by decide +kernel
theorem FQ:lK=⟨#[47]⟩:=by decide +kernel
theorem NS:lL=⟨#[46]⟩:=by decide +kernel
theorem oG:fD=⟨#[60]⟩:=by decide +kernel
theorem pV:fE=⟨#[62]⟩:=by decide +kernel
theorem agm:aS=⟨#[97]⟩:=by decide +kernel
theorem agn:zS=⟨#[122]⟩:=by decide +kernel
theorem ago:NQ=⟨#[126]⟩:=by decide +kernel
theorem FR:Bs=⟨#[48]⟩:=by decide +kernel
theorem NT:NR=⟨#[57]⟩:=by decide +kernel
theorem Bt:gm=⟨#[105,110]⟩:=by decide +kernel
theorem Bu:f7=⟨#[99,104,111,111,115,101]⟩:=by decide +kernel
theorem FS:dR=⟨#[111,119,110]⟩:=by decide +kernel
def mT(x:Str):Bool:=decide (0<x.length/\x.length<=8) && x.cps.toList.all (rf aS zS)
def ri(x:Str):Bool:=decide ((Txt.split x lK).length<=4) && (Txt.split x lK).all mT
def NU(c:Nat):Bool:=rf spS NQ c && decide (c≠37)
def FT(x:Str):Bool:=decide (x.length<=60) && x.cps.toList.all NU
def vN(x:Str):Bool:=x.cps.toList.all (rf Bs NR)
def vO(x:Str):Option Int:=if (decide (0<x.length/\x.length<=10) && vN x)=true then(if (Txt.startswith x Bs && decide (x≠Bs))=true then none else if 1000000000<(NumText.digitsVal x.cps.toList:Int) then none else some (NumText.digitsVal x.cps.toList)) else none
def tZ(x:Str):Bool:=decide ((Txt.split x lL).length<=3) && (Txt.split x lL).all λp=>(vO p).isSome
def jF(j:Str):Bool:=
 if (Txt.startswith j fD || Txt.startswith j fE)=true then FT (Txt.slice j (some 1) none) else
 match Txt.split j spS with
 | [w,p]=>decide (w=dR) && ri p
 | [w,n,x]=>!decide (w=dR) && mT n && (if w=gm then tZ x else decide (w=f7) && mT x)
 | _=>false
theorem agp(h:vN x=true):NumText.AllDigits x.cps.toList:=λc j=>by
 have:=ip.mp h c j;rw[FR,NT,Br]at this;exact cT this
theorem agq(h:vN x=true)(h1:0<x.length)(h2:x.length<=4300):PySem.intText? x=some ((NumText.digitsVal x.cps.toList:Nat):Int):=
 PySem.intText_digits (agp h) (λz=>by
  have:x.cps.toList.length=x.length:=dW;rw[z]at this;simp at this;omega) h2
inductive Row
 | les (x:Str)
 | mor (x:Str)
 | inn (n t:Str)
 | cho (c n:Str)
 | own (p:Str)
def ig(j:Str):Row:=
 if Txt.startswith j fD=true then .les (Txt.slice j (some 1) none) else if Txt.startswith j fE=true then .mor (Txt.slice j (some 1) none) else
 if (Txt.split j spS).getD 0 Str.empty=gm then .inn ((Txt.split j spS).getD 1 Str.empty) ((Txt.split j spS).getD 2 Str.empty) else
 if (Txt.split j spS).getD 0 Str.empty=f7 then .cho ((Txt.split j spS).getD 1 Str.empty) ((Txt.split j spS).getD 2 Str.empty) else .own ((Txt.split j spS).getD 1 Str.empty)
def rj(t:Str):List Int:=(Txt.split t lL).map λp=>((NumText.digitsVal p.cps.toList:Nat):Int)
structure Nt where
 ch:List (Str×List Int):=[]
 cs:List (Str×Str):=[]
 ow:List (Str×(Ls×Ls)):=[]
 ck:Option Str:=none
 b:Ls:=[]
 m:Ls:=[]
def iE(ow:List (Str×(Ls×Ls)))(ck:Option Str)(r:Ls×Ls):List (Str×(Ls×Ls)):=
 match ck with
 | none=>ow
 | some p=>bP ow p r
def Nt.step(s:Nt)(j:Str):Nt:=
 match ig j with
 | .les x=>{ s with ow:=iE s.ow s.ck (s.b++[x],s.m),b:=s.b++[x] }
 | .mor x=>{ s with ow:=iE s.ow s.ck (s.b,s.m++[x]),m:=s.m++[x] }
 | .inn n t=>{ s with ch:=bP s.ch n (rj t) }
 | .cho c n=>{ s with cs:=bP s.cs c n }
 | .own p=>{ s with ow:=bP s.ow p ([],[]),ck:=some p,b:=[],m:=[] }
def gE(rows:Ls):Nt:=rows.foldl Nt.step {}
def i3(n:Int):Str:=toString n
def jG(ms:List Int):Str:=Str.join lL (ms.map i3)
def iF(e:Str×List Int):Str:=Str.join spS [gm,e.1,jG e.2]
def ii(e:Str×Str):Str:=Str.join spS [f7,e.1,e.2]
def d8(e:Str×(Ls×Ls)):Ls:=[Str.join spS [dR,e.1]]++e.2.1.map (fD ++ ·)++e.2.2.map (fE ++ ·)
def f8(ch:List (Str×List Int))(cs:List (Str×Str))(ow:List (Str×(Ls×Ls))):Ls:=ch.map iF++cs.map ii++ow.flatMap d8
def rowsOf(t:Str):Ls:=if t=Str.empty then [] else Txt.split t lJ
structure cJ(x:Str):Prop where
 lo:1<=x.length
 hi:x.length<=8
 az:∀c∈x.cps.toList,97<=c/\c<=122
structure i4(x:Str):Prop where
 hi:x.length<=60
 sg:∀c∈x.cps.toList,32<=c/\c<=126/\c≠37
structure f9(ms:List Int):Prop where
 lo:1<=ms.length
 hi:ms.length<=3
 rg:∀n∈ms,0<=n/\n<=1000000000
def dC(x:Str):Prop:=∃ps:Ls,x=Str.join lK ps/\1<=ps.length/\ps.length<=4/\∀p∈ps,cJ p
theorem cJ.name(h:cJ x):mT x=true:=by
 unfold mT;rw[bE ⟨h.lo,h.hi⟩,wN,ip];intro c j;rw[agm,agn,Br];exact bE (h.az c j)
theorem i4.line(h:i4 x):FT x=true:=by
 unfold FT;rw[bE h.hi,wN,ip];intro c z;obtain⟨h1,h2,j⟩:=h.sg c z;unfold NU;rw[rh,ago,Br,bE ⟨h1,h2⟩,bE j];rfl
theorem NW{l:List α}(h:1<=l.length):l≠[]:=λz=>by
 rw[z,kQ]at h;omega
theorem dC.path(h:dC x):ri x=true:=by
 obtain⟨ps,rfl,h1,h2,z⟩:=h;have e:Txt.split (Str.join lK ps) lK=ps:=by
  rw[FQ];exact Bq (NW h1) λp j G=>by have:=(z p j).az _ G;omega
 unfold ri;rw[e,bE h2,wN,ip];exact λp j=>(z p j).name
theorem yn:∀{ps:Ls}{d:Nat},d∈(Str.join ⟨#[c]⟩ ps).cps.toList->d=c\/∃p∈ps,d∈p.cps.toList
 | [],d,h=>by
  have h:d∈([]:List Nat):=h;cases h
 | [p],d,h=>.inr ⟨p,bH,h⟩
 | p::q::r,d,h=>by
  rw[oF]at h
  rcases bY.mp h with h | h
  . exact .inr ⟨p,bH,h⟩
  rcases bf.mp h with h | h
  . exact .inl h
  rcases yn h with h | ⟨z,hz,hd⟩
  . exact .inl h
  exact .inr ⟨z,bR _ hz,hd⟩
theorem dC.signs(h:dC x):∀c∈x.cps.toList,c=47\/(97<=c/\c<=122):=by
 obtain⟨ps,rfl,h1,h2,z⟩:=h;intro c j;rw[FQ]at j
 rcases yn j with e | ⟨p,G,hd⟩
 . exact .inl e
 exact .inr ((z p G).az c hd)
theorem agr:∀(m:Nat) (r:List Char),Nat.toDigits 10 m='0'::r->m=0:=by
 intro m
 induction m using Nat.strongRecOn with
 | _ m J=>
  intro r h
  by_cases j:m<10
  . rw[Nat.toDigits_of_lt_base j]at h;have h1:=(sy h).1;have:∀d:Nat,d<10->Nat.digitChar d='0'->d=0:=by decide
    exact this m j h1
  have z:m % 10<10:=Dn m (by decide);have t:Nat.toDigits 10 (m / 10)++Nat.toDigits 10 (m % 10)=Nat.toDigits 10 (10 * (m / 10)+m % 10):=Nat.toDigits_append_toDigits (by decide) (by omega) z;rw[Nat.div_add_mod,h]at t;cases hd:Nat.toDigits 10 (m / 10) with
  | nil=>
   have:=aqQ 10 (m / 10);rw[hd]at this;exact absurd this (by decide)
  | cons a O=>
   rw[hd]at t;have G:a='0':=(sy t).1;subst G;have:=J (m / 10) (by omega) O hd;omega
theorem yo(h0:0<=n):(i3 n).cps.toList=(Nat.toDigits 10 n.toNat).map Char.toNat:=by
 obtain⟨m,rfl⟩:=aqR h0;exact W.KIN.signs_num m
theorem FU(h0:0<=n):NumText.AllDigits (i3 n).cps.toList:=by
 intro c j;rw[yo h0]at j;obtain⟨ch,z,e⟩:=ca.mp j;have r:=digit_range (Nat.isDigit_of_mem_toDigits (by decide) (by decide) z);rw[<-e];exact r
theorem ags(h0:0<=n):vN (i3 n)=true:=by
 unfold vN;rw[ip];intro c j;rw[FR,NT,Br];exact bE (FU h0 c j)
theorem NX(h0:0<=n):((NumText.digitsVal (i3 n).cps.toList:Nat):Int)=n:=by
 rw[yo h0,W.KIN.val_back];omega
theorem NY(h0:0<=n)(h1:n<=1000000000):1<=(i3 n).length/\(i3 n).length<=10:=by
 refine⟨?_,W.KT.len_num h0 (by omega)⟩;have e:(i3 n).cps.toList.length=(i3 n).length:=dW;rw[<-e,yo h0,ak];exact aqQ 10 _
theorem agt(h0:0<=n)(h1:n<=1000000000):vO (i3 n)=some n:=by
 obtain⟨G,J⟩:=NY h0 h1;unfold vO;rw[bE ⟨G,J⟩,ags h0,am (by rfl),NX h0,ah (by omega:¬1000000000<n)];rw[ah];rw[FR,NP,io,wU,wU,yo h0];rintro⟨h,ne⟩;refine ne (yk ?_);rw[yo h0];cases hd:Nat.toDigits 10 n.toNat with
 | nil=>rw[hd]at h;cases h
 | cons a r=>
  rw[hd]at h;have h:a.toNat=48:=gw h;have j:a='0':=by
   apply Char.ext;apply UInt32.toNat.inj;exact h
  rw[j]at hd;have z:=agr _ _ hd;rw[z]at hd;have hd:['0']=a::r:=by rw[j];exact hd
  rw[<-hd];rfl
theorem f9.split(h:f9 ms):Txt.split (jG ms) lL=ms.map i3:=by
 unfold jG;rw[NS];refine Bq (λz=>NW h.lo (List.map_eq_nil_iff.mp z)) λp J j=>?_;obtain⟨n,G,rfl⟩:=ca.mp J;have:=FU (h.rg n G).1 _ j;omega
theorem f9.good(h:f9 ms):tZ (jG ms)=true:=by
 unfold tZ;rw[h.split,ak,bE h.hi,wN,ip];intro p z;obtain⟨n,j,rfl⟩:=ca.mp z;rw[agt (h.rg n j).1 (h.rg n j).2];rfl
theorem f9.back(h:f9 ms):rj (jG ms)=ms:=by
 unfold rj;rw[h.split,md];exact(zV λn j=>NX (h.rg n j).1).trans (List.map_id _)
theorem f9.signs(h:f9 ms):∀c∈(jG ms).cps.toList,46<=c/\c<=57:=by
 intro c j;unfold jG at j;rw[NS]at j
 rcases yn j with e | ⟨p,G,hd⟩
 . omega
 obtain⟨n,z,rfl⟩:=ca.mp G;have:=FU (h.rg n z).1 c hd;omega
theorem FV(x:Str)(l u:Option Int):Txt.slice x l u=PySem.StrLaws.sliceText x l u:=rfl
theorem Bv(x:Str)(c:Nat):Txt.slice (⟨#[c]⟩++x) (some 1) none=x:=by
 apply yk;have e:(⟨#[c]⟩++x:Str).cps.toList=c::x.cps.toList:=by rw[mS];rfl
 have h:=PySem.StrLaws.sliceText_from (x:=⟨#[c]⟩++x) (i:=1) ⟨by decide,by rw[e,cq];omega⟩;rw[FV,h,e];show(List.take _ x.cps.toList)=x.cps.toList;refine Jr ?_;rw[cq];omega
theorem ub{r:List Nat}(e:x.cps.toList=d::r)(c:Nat):Txt.startswith x ⟨#[c]⟩=decide (d=c):=by
 rw[NP,e];exact wT.mpr ⟨λz=>gw z,λz=>by rw[z];rfl⟩
theorem Bw(x:Str):(fD++x).cps.toList=60::x.cps.toList:=by rw[oG,mS];rfl
theorem yp(x:Str):(fE++x).cps.toList=62::x.cps.toList:=by rw[pV,mS];rfl
theorem agu(h:i4 x):jF (fD++x)=true:=by
 unfold jF;have e:Txt.startswith (fD++x) fD=true:=by
  have:=ub (Bw x) 60;rw[<-oG]at this;rw[this];rfl
 rw[e,Vu,am rfl]
 conv=>lhs;arg 1;rw[oG,Bv]
 exact h.line
theorem agv(h:i4 x):jF (fE++x)=true:=by
 unfold jF;have e:Txt.startswith (fE++x) fE=true:=by
  have:=ub (yp x) 62;rw[<-pV]at this;rw[this];rfl
 rw[e,Bool.or_true,am rfl]
 conv=>lhs;arg 1;rw[pV,Bv]
 exact h.line
theorem agw(x:Str):ig (fD++x)=.les x:=by
 unfold ig;have e:Txt.startswith (fD++x) fD=true:=by
  have:=ub (Bw x) 60;rw[<-oG]at this;rw[this];rfl
 rw[am e]
 congr 1
 rw[oG,Bv]
theorem agx(x:Str):ig (fE++x)=.mor x:=by
 unfold ig;have e:Txt.startswith (fE++x) fE=true:=by
  have:=ub (yp x) 62;rw[<-pV]at this;rw[this];rfl
 have j:Txt.startswith (fE++x) fD=false:=by
  have:=ub (yp x) 60;rw[<-oG]at this;rw[this];rfl
 rw[ah (by rw[j];decide),am e]
 congr 1
 rw[pV,Bv]
theorem yq{w:Str}{r:List Nat}(z:w.cps.toList=d::r)(J:d≠60)(O:d≠62){j:Ls}(h:∀p∈w::j,32∉p.cps.toList):Txt.split (Str.join spS (w::j)) spS=w::j/\Txt.startswith (Str.join spS (w::j)) fD=false/\Txt.startswith (Str.join spS (w::j)) fE=false:=by
 have hd:∃G,(Str.join spS (w::j)).cps.toList=d::G:=by
  cases j with
  | nil=>exact⟨r,z⟩
  | cons v j=>rw[rh,oF,z];exact⟨_,rfl⟩
 obtain⟨G,e⟩:=hd;refine⟨?_,?_,?_⟩
 . rw[rh];exact Bq (Dt _ _) h
 . rw[oG,ub e 60];exact cu J
 rw[pV,ub e 62];exact cu O
theorem Bx{a b c:Str}(h1:32∉a.cps.toList)(h2:32∉b.cps.toList)(z:32∉c.cps.toList):∀p∈[a,b,c],32∉p.cps.toList:=by
 intro p j;simp only[bf,ft,fw]at j
 rcases j with rfl | rfl | rfl<;>assumption
theorem cJ.no(h:cJ x)(j:c<97):c∉x.cps.toList:=λz=>by have:=h.az c z;omega
theorem FW(j:c<97):c∉gm.cps.toList:=by
 rw[Bt];intro z;have z:c∈[105,110]:=z;simp at z;omega
theorem FX(j:c<97):c∉f7.cps.toList:=by
 rw[Bu];intro z;have z:c∈[99,104,111,111,115,101]:=z;simp at z;omega
theorem N1(j:c<97):c∉dR.cps.toList:=by
 rw[FS];intro z;have z:c∈[111,119,110]:=z;simp at z;omega
theorem f9.no(h:f9 ms)(j:c<46):c∉(jG ms).cps.toList:=λz=>by have:=h.signs c z;omega
theorem dC.no(h:dC x)(j:c<47):c∉x.cps.toList:=λz=>by have:=h.signs c z;omega
theorem agz:gm≠dR:=by decide +kernel
theorem agA:f7≠dR:=by decide +kernel
theorem By:f7≠gm:=by decide +kernel
theorem FY:dR≠gm:=by decide +kernel
theorem FZ:dR≠f7:=by decide +kernel
theorem agB{e:Str×List Int}(h1:cJ e.1)(h2:f9 e.2):jF (iF e)=true:=by
 obtain⟨a,b,c⟩:=yq (w:=gm) (d:=105) (r:=[110]) (by rw[Bt]) (by decide) (by decide) (Bx (FW (by decide)) (h1.no (by decide)) (h2.no (by decide)));unfold jF iF;rw[b,c,r9,ah (by decide),a];dsimp only;rw[cu agz,h1.name,am rfl,h2.good];rfl
theorem agC{e:Str×List Int}(h1:cJ e.1)(h2:f9 e.2):ig (iF e)=.inn e.1 (jG e.2):=by
 obtain⟨a,b,c⟩:=yq (w:=gm) (d:=105) (r:=[110]) (by rw[Bt]) (by decide) (by decide) (Bx (FW (by decide)) (h1.no (by decide)) (h2.no (by decide)));unfold ig iF;rw[b,c,a,ah (by decide),ah (by decide)];rfl
theorem agD{e:Str×Str}(h1:cJ e.1)(h2:cJ e.2):jF (ii e)=true:=by
 obtain⟨a,b,c⟩:=yq (w:=f7) (d:=99) (r:=[104,111,111,115,101]) (by rw[Bu]) (by decide) (by decide) (Bx (FX (by decide)) (h1.no (by decide)) (h2.no (by decide)));unfold jF ii;rw[b,c,r9,ah (by decide),a];dsimp only;rw[cu agA,h1.name,ah By,bE rfl,h2.name];rfl
theorem agE{e:Str×Str}(h1:cJ e.1)(h2:cJ e.2):ig (ii e)=.cho e.1 e.2:=by
 obtain⟨a,b,c⟩:=yq (w:=f7) (d:=99) (r:=[104,111,111,115,101]) (by rw[Bu]) (by decide) (by decide) (Bx (FX (by decide)) (h1.no (by decide)) (h2.no (by decide)));unfold ig ii;rw[b,c,a,ah (by decide),ah (by decide)];rw[ah (show ¬[f7,e.1,e.2].getD 0 Str.empty=gm from By),am (show [f7,e.1,e.2].getD 0 Str.empty=f7 from rfl)];rfl
theorem N2{p:Str}(h:dC p):Txt.split (Str.join spS [dR,p]) spS=[dR,p]/\Txt.startswith (Str.join spS [dR,p]) fD=false/\Txt.startswith (Str.join spS [dR,p]) fE=false:=
 yq (w:=dR) (d:=111) (r:=[119,110]) (by rw[FS]) (by decide) (by decide) λq j=>by
  simp only[bf,ft,fw]at j
  rcases j with rfl | rfl
  . exact N1 (by decide)
  exact h.no (by decide)
theorem agF{p:Str}(h:dC p):jF (Str.join spS [dR,p])=true:=by
 obtain⟨a,b,c⟩:=N2 h;unfold jF;rw[b,c,r9,ah (by decide),a];dsimp only;rw[bE rfl,h.path];rfl
theorem agG{p:Str}(h:dC p):ig (Str.join spS [dR,p])=.own p:=by
 obtain⟨a,b,c⟩:=N2 h;unfold ig;rw[b,c,a,ah (by decide),ah (by decide)];rw[ah (show ¬[dR,p].getD 0 Str.empty=gm from FY),ah (show ¬[dR,p].getD 0 Str.empty=f7 from FZ)];rfl
structure vP(ch:List (Str×List Int))(cs:List (Str×Str))(ow:List (Str×(Ls×Ls))):Prop where
 ch:∀e∈ch,cJ e.1/\f9 e.2
 cs:∀e∈cs,cJ e.1/\cJ e.2
 ow:∀e∈ow,dC e.1/\(∀x∈e.2.1,i4 x)/\∀x∈e.2.2,i4 x
theorem F0{ch:List (Str×List Int)}{cs:List (Str×Str)}{ow:List (Str×(Ls×Ls))}(ok:vP ch cs ow){r:Str}(h:r∈f8 ch cs ow) :
 (∃e:Str×List Int,cJ e.1/\f9 e.2/\r=iF e)\/(∃e:Str×Str,cJ e.1/\cJ e.2/\r=ii e)\/(∃p,dC p/\r=Str.join spS [dR,p])\/(∃x,i4 x/\r=fD++x)\/∃x,i4 x/\r=fE++x:=by
 unfold f8 at h
 rcases bY.mp h with h | h
 . rcases bY.mp h with h | h
   . obtain⟨e,j,rfl⟩:=ca.mp h;exact .inl ⟨e,(ok.ch e j).1,(ok.ch e j).2,rfl⟩
   obtain⟨e,j,rfl⟩:=ca.mp h;exact .inr (.inl ⟨e,(ok.cs e j).1,(ok.cs e j).2,rfl⟩)
 obtain⟨e,j,hr⟩:=uT.mp h;obtain⟨h1,h2,G⟩:=ok.ow e j;unfold d8 at hr
 rcases bY.mp hr with hr | hr
 . rcases bY.mp hr with hr | hr
   . exact .inr (.inr (.inl ⟨e.1,h1,bF.mp hr⟩))
   obtain⟨x,z,rfl⟩:=ca.mp hr;exact .inr (.inr (.inr (.inl ⟨x,h2 x z,rfl⟩)))
 obtain⟨x,z,rfl⟩:=ca.mp hr;exact .inr (.inr (.inr (.inr ⟨x,G x z,rfl⟩)))
theorem agH{ch:List (Str×List Int)}{cs:List (Str×Str)}{ow:List (Str×(Ls×Ls))}(ok:vP ch cs ow):∀r∈f8 ch cs ow,jF r=true:=λr h=>by
 rcases F0 ok h with⟨e,a,b,rfl⟩ | ⟨e,a,b,rfl⟩ | ⟨p,a,rfl⟩ | ⟨x,a,rfl⟩ | ⟨x,a,rfl⟩
 . exact agB a b
 . exact agD a b
 . exact agF a
 . exact agu a
 exact agv a
theorem N3{a b c:Str}(h:d∈(Str.join spS [a,b,c]).cps.toList):d=32\/d∈a.cps.toList\/d∈b.cps.toList\/d∈c.cps.toList:=by
 rw[rh]at h
 rcases yn h with e | ⟨p,j,hd⟩
 . exact .inl e
 simp only[bf,ft,fw]at j
 rcases j with rfl | rfl | rfl
 . exact .inr (.inl hd)
 . exact .inr (.inr (.inl hd))
 exact .inr (.inr (.inr hd))
theorem F1{ch:List (Str×List Int)}{cs:List (Str×Str)}{ow:List (Str×(Ls×Ls))}(ok:vP ch cs ow):∀r∈f8 ch cs ow,10∉r.cps.toList/\r≠Str.empty:=λr h=>by
 rcases F0 ok h with⟨e,a,b,rfl⟩ | ⟨e,a,b,rfl⟩ | ⟨p,a,rfl⟩ | ⟨x,a,rfl⟩ | ⟨x,a,rfl⟩
 . refine⟨λz=>?_,λz=>?_⟩
   . rcases N3 z with z | z | z | z
     . omega
     . exact FW (by decide) z
     . exact a.no (by decide) z
     exact b.no (by decide) z
   have z:(iF e).cps.toList=[]:=by rw[z];rfl
   unfold iF at z;rw[rh,oF,Bt]at z;cases z
 . refine⟨λz=>?_,λz=>?_⟩
   . rcases N3 z with z | z | z | z
     . omega
     . exact FX (by decide) z
     . exact a.no (by decide) z
     exact b.no (by decide) z
   have z:(ii e).cps.toList=[]:=by rw[z];rfl
   unfold ii at z;rw[rh,oF,Bu]at z;cases z
 . refine⟨λz=>?_,λz=>?_⟩
   . rw[rh]at z
     rcases yn z with z | ⟨q,j,hd⟩
     . omega
     simp only[bf,ft,fw]at j
     rcases j with rfl | rfl
     . exact N1 (by decide) hd
     exact a.no (by decide) hd
   have z:(Str.join spS [dR,p]).cps.toList=[]:=by rw[z];rfl
   rw[rh,oF,FS]at z;cases z
 . refine⟨λz=>?_,λz=>?_⟩
   . rw[Bw]at z
     rcases bf.mp z with z | z
     . omega
     have:=a.sg _ z;omega
   have z:(fD++x).cps.toList=[]:=by rw[z];rfl
   rw[Bw]at z;cases z
 refine⟨λz=>?_,λz=>?_⟩
 . rw[yp]at z
   rcases bf.mp z with z | z
   . omega
   have:=a.sg _ z;omega
 have z:(fE++x).cps.toList=[]:=by rw[z];rfl
 rw[yp]at z;cases z
theorem F2{rows:Ls}(h:∀r∈rows,10∉r.cps.toList/\r≠Str.empty):rowsOf (Str.join lJ rows)=rows:=by
 unfold rowsOf;cases rows with
 | nil=>exact am rfl
 | cons r j=>
  have ne:Str.join lJ (r::j)≠Str.empty:=λz=>by
   have J:=(h r bH).2;have z:(Str.join lJ (r::j)).cps.toList=[]:=by rw[z];rfl
   cases j with
   | nil=>exact J (yk (by rw[show r.cps.toList=[] from z];rfl))
   | cons q O=>
    rw[FP,oF]at z;have:=fo List.length z;rw[bI,cq]at this;simp at this
  rw[ah ne,FP];exact Bq (Dt _ _) λp G=>(h p G).1
theorem yr{tr:List (Str×β)}{y:β}(h:x∉tr.map (·.1)):bP tr x y=tr++[(x,y)]:=by
 unfold bP;rw[ah (λz=>h (q9.mp z))]
theorem N5{tr:List (Str×β)}{y z:β}(h:x∉tr.map (·.1)):bP (tr++[(x,y)]) x z=tr++[(x,z)]:=by
 unfold bP;rw[am (q9.mpr (by rw[dq];exact ff _ bH)),dq]
 congr 1
 . refine(zV λf j=>?_).trans (List.map_id _);rw[ah (λe:f.1=x=>h (by rw[<-e];exact fq j))];rfl
 show [if x=x then(x,z) else(x,y)]=_;rw[am rfl]
theorem N6:∀(es:List (Str×List Int)) (s:Nt),(∀e∈es,cJ e.1/\f9 e.2)->((s.ch++es).map (·.1)).Nodup->(es.map iF).foldl Nt.step s={ s with ch:=s.ch++es }
 | [],s,_,_=>by rw[kM];rfl
 | e::es,s,ok,nd=>by
  have h1:=ok e bH;have e1:Nt.step s (iF e)={ s with ch:=s.ch++[e] }:=by
   unfold Nt.step;rw[agC h1.1 h1.2];dsimp only;rw[h1.2.back,yr];rw[dq,bV]at nd;intro z;exact(qw.mp nd).2.2 _ z _ bH rfl
  rw[bV,ma,e1];have e2:=N6 es { s with ch:=s.ch++[e] } (λx j=>ok x (bR _ j)) (by show(((s.ch++[e])++es).map (·.1)).Nodup;rw[kS];exact nd);rw[e2];show { s with ch:=s.ch++[e]++es } = _;rw[kS];rfl
theorem N7:∀(es:List (Str×Str)) (s:Nt),(∀e∈es,cJ e.1/\cJ e.2)->((s.cs++es).map (·.1)).Nodup->(es.map ii).foldl Nt.step s={ s with cs:=s.cs++es }
 | [],s,_,_=>by rw[kM];rfl
 | e::es,s,ok,nd=>by
  have h1:=ok e bH;have e1:Nt.step s (ii e)={ s with cs:=s.cs++[e] }:=by
   unfold Nt.step;rw[agE h1.1 h1.2];dsimp only;rw[yr];rw[dq,bV]at nd;intro z;exact(qw.mp nd).2.2 _ z _ bH rfl
  rw[bV,ma,e1];have e2:=N7 es { s with cs:=s.cs++[e] } (λx j=>ok x (bR _ j)) (by show(((s.cs++[e])++es).map (·.1)).Nodup;rw[kS];exact nd);rw[e2];show { s with cs:=s.cs++[e]++es } = _;rw[kS];rfl
theorem N8(p:Str)(tr:List (Str×(Ls×Ls)))(h:p∉tr.map (·.1))(m:Ls):∀(xs b:Ls) (s:Nt),(xs.map (fD ++ ·)).foldl Nt.step { s with ow:=tr++[(p,(b,m))],ck:=some p,b:=b,m:=m } = { s with ow:=tr++[(p,(b++xs,m))],ck:=some p,b:=b++xs,m:=m }
 | [],b,s=>by rw[kM];rfl
 | x::xs,b,s=>by
  have e1:Nt.step { s with ow:=tr++[(p,(b,m))],ck:=some p,b:=b,m:=m } (fD++x)={ s with ow:=tr++[(p,(b++[x],m))],ck:=some p,b:=b++[x],m:=m }:=by
   unfold Nt.step;rw[agw];dsimp only[iE];rw[N5 h]
  rw[bV,ma,e1,N8 p tr h m xs (b++[x]) s,kS];rfl
theorem Ob(p:Str)(tr:List (Str×(Ls×Ls)))(h:p∉tr.map (·.1))(b:Ls):∀(xs m:Ls) (s:Nt),(xs.map (fE ++ ·)).foldl Nt.step { s with ow:=tr++[(p,(b,m))],ck:=some p,b:=b,m:=m } = { s with ow:=tr++[(p,(b,m++xs))],ck:=some p,b:=b,m:=m++xs }
 | [],m,s=>by rw[kM];rfl
 | x::xs,m,s=>by
  have e1:Nt.step { s with ow:=tr++[(p,(b,m))],ck:=some p,b:=b,m:=m } (fE++x)={ s with ow:=tr++[(p,(b,m++[x]))],ck:=some p,b:=b,m:=m++[x] }:=by
   unfold Nt.step;rw[agx];dsimp only[iE];rw[N5 h]
  rw[bV,ma,e1,Ob p tr h b xs (m++[x]) s,kS];rfl
theorem Oc:∀(es:List (Str×(Ls×Ls))) (s:Nt),(∀e∈es,dC e.1)->((s.ow++es).map (·.1)).Nodup->∃ck b m,(es.flatMap d8).foldl Nt.step s={ s with ow:=s.ow++es,ck:=ck,b:=b,m:=m }
 | [],s,_,_=>⟨s.ck,s.b,s.m,by rw[kM];rfl⟩
 | e::es,s,ok,nd=>by
  obtain⟨p,b,m⟩:=e;have h1:dC p:=ok _ bH;have j:p∉s.ow.map (·.1):=λz=>by
   rw[dq,bV]at nd;exact(qw.mp nd).2.2 _ z _ bH rfl
  have e1:(d8 (p,(b,m))).foldl Nt.step s={ s with ow:=s.ow++[(p,(b,m))],ck:=some p,b:=b,m:=m }:=by
   unfold d8;rw[oZ,oZ];have G:[Str.join spS [dR,p]].foldl Nt.step s={ s with ow:=s.ow++[(p,([],[]))],ck:=some p,b:=[],m:=[] }:=by
    show Nt.step s (Str.join spS [dR,p])=_;unfold Nt.step;rw[agG h1];dsimp only;rw[yr j]
   rw[G,N8 p s.ow j [] b [] s,Ob p s.ow j _ m [] s];rfl
  rw[Du,oZ,e1];obtain⟨ck,b',m',e2⟩:=Oc es { s with ow:=s.ow++[(p,(b,m))],ck:=some p,b:=b,m:=m } (λx J=>ok x (bR _ J)) (by show(((s.ow++[(p,(b,m))])++es).map (·.1)).Nodup;rw[kS];exact nd);refine⟨ck,b',m',?_⟩;rw[e2];show { s with ow:=s.ow++[(p,(b,m))]++es,ck:=ck,b:=b',m:=m' } = _;rw[kS];rfl
theorem F3{ch:List (Str×List Int)}{cs:List (Str×Str)}{ow:List (Str×(Ls×Ls))}(ok:vP ch cs ow)(n1:(ch.map (·.1)).Nodup)(n2:(cs.map (·.1)).Nodup)(n3:(ow.map (·.1)).Nodup):∃ck b m,gE (f8 ch cs ow)=⟨ch,cs,ow,ck,b,m⟩:=by
 unfold gE f8;rw[oZ,oZ,N6 ch {} ok.ch n1];show∃ck b m,List.foldl Nt.step (List.foldl Nt.step ({ ch:=ch }:Nt) (List.map ii cs)) (List.flatMap d8 ow)=_;rw[N7 cs { ch:=ch } ok.cs n2];exact Oc ow { ch:=ch,cs:=cs } (λe j=>(ok.ow e j).1) n3
theorem F4{f:α->β}{ks ls:List β}(p:ks.Perm ls):∀{l:List α},ls=l.map f->∃j:List α,j.Perm l/\j.map f=ks:=by
 induction p with
 | nil=>
  intro l e;cases l with
  | nil=>exact⟨[],.nil,rfl⟩
  | cons a l=>cases e
 | cons x p J=>
  intro l e;cases l with
  | nil=>cases e
  | cons a l=>
   rw[bV]at e;obtain⟨e1,e2⟩:=sy e;obtain⟨j,h1,h2⟩:=J e2;exact⟨a::j,h1.cons a,by rw[bV,h2,e1]⟩
 | swap x y r=>
  intro l e;cases l with
  | nil=>cases e
  | cons a l=>
   cases l with
   | nil=>cases e
   | cons b l=>
    rw[bV,bV]at e;obtain⟨e1,e2⟩:=sy e;obtain⟨e2,e3⟩:=sy e2;exact⟨b::a::l,.swap a b l,by rw[bV,bV,<-e1,<-e2,<-e3]⟩
 | trans p q O U=>
  intro l e;obtain⟨l1,h1,h2⟩:=U e;obtain⟨Y,z,G⟩:=O h2.symm;exact⟨Y,z.trans h1,G⟩
structure cV(a b:List (Str×β)):Prop where
 pm:b.Perm a
 so:sortedS (b.map (·.1))=true
theorem cV.eq{a b c:List (Str×β)}(nd:(a.map (·.1)).Nodup)(h1:cV a b)(h2:cV a c):b=c:=by
 have pm:b.Perm c:=h1.pm.trans h2.pm.symm;have e:b.map (·.1)=c.map (·.1):=agk (pm.map _) h1.so h2.so;have O:(b.map (·.1)).Nodup:=(h1.pm.map _).nodup_iff.mpr nd;have G:=pm.length_eq;refine List.ext_getElem G λi hi j=>?_;have J:b[i]∈c:=pm.mem_iff.mp (Do hi);have e1:b[i].1=c[i].1:=by
  have:(b.map (·.1))[i]?=(c.map (·.1))[i]?:=by rw[e]
  rw[c8,c8,gX hi,gX j]at this;exact gw this
 have z:c[i]∈c:=Do j;have U:(c.map (·.1)).Nodup:=by rw[<-e];exact O
 have:b[i].2=c[i].2:=oE U (x:=b[i].1) J (by rw[e1];exact z);exact Prod.ext e1 this
theorem cV.self{a b:List (Str×β)}(h:cV a b):cV b b:=⟨.refl _,h.so⟩
end K73
namespace L2
structure Fd(K:Fg)(mg:Mv)(x:Str)(st:Stmt)(ps:Ls):Type where
 f:Addr
 fd:Fy
 u:mD K x x st f fd
 m:mg x=some (.ref f)
 b:Binds K fd ps []
structure fm(K:Fg)(C:Addr)(x q:Str)(st:Stmt)(ps:Ls):Type where
 f:Addr
 fd:Fy
 u:mD K x q st f fd
 b:Binds K fd ps []
 mt:xp K C x f
section
variable {K:Fg}{h:Heap}{mg:Mv}{C f:Addr}{x q:Str}{st:Stmt}{ps:Ls}{od an:Oa}{sl:Array (Option Value)} {oc kV dc pm cd ct:Value}
def fF(a:W.findIn K (.ref C) x=some (some (.ref f)))(i:W.isFn K (.ref f)=true)(l:K.lookup f=some ⟨oc,od,.func (W.fnOf x q (jA st) (gB st) (aA st) .none kV dc pm an cd ct),sl⟩)(c:W.codeIn K cd q=true)(k:W.keepIn K (.ref f)=true)(b:Binds K (W.fnOf x q (jA st) (gB st) (aA st) .none kV dc pm an cd ct) ps []):fm K C x q st ps:=⟨f,_,LH l c k,b,⟨a,i,k⟩⟩
def bw(X:K.In h)(G:h.Ns mainGlobals mg)(a:W.nsIn K mainGlobals x=some (some (.ref f)))(l:K.lookup f=some ⟨oc,od,.func (W.fnOf x x (jA st) (gB st) (aA st) .none kV dc pm an cd ct),sl⟩)(c:W.codeIn K cd x=true)(k:W.keepIn K (.ref f)=true)(b:Binds K (W.fnOf x x (jA st) (gB st) (aA st) .none kV dc pm an cd ct) ps []):Fd K mg x st ps:=⟨f,_,LH l c k,zW X G a,b⟩
end
section
variable {X:Cx}{k k':Nat}{ps:Ls}{sp:Sp}{x:Str}{st:Stmt}{p pos:Pos}{e:Expr}{es:List Expr}{t:TA}{CX:gN}{E:XK}
theorem up{P:Program}{w:World}{K:Fg}{mg:Mv}{base:Heap}{CX:gN}{j k:Nat}{ps:Ls}{sp:Sp}(F:aw P w K mg base CX j f fd ps sp)(h:j<=k:=by decide):aw P w K mg base CX k f fd ps sp:=F.mono h
theorem ay{d:Fd X.K X.mg x st ps}(G:aw X.prog X.w X.K X.mg X.base aI k d.f d.fd ps sp)(Y:ce k' X.A)(O:Gl X x)(z:PA X (e::es) t)(U:k<=k':=by decide)(iq:(x == ("__debug__":Str))=false:=by decide)(J:starEach (e::es) X.env=(false,eval e X.env)::starEach es X.env:=by rfl)(j:(backTo pos (starEach es X.env)).any (·.1)=false:=by rfl) :
 PE X (.Call (.Name x p) (e::es) [] pos) (xq sp [] E0 t):=D8 (G.mono U) Y O d.m d.u.kp d.b .nil bJ z iq J j
theorem agL{d:Fd X.K X.mg x st ps}(G:aw X.prog X.w X.K X.mg X.base CX k d.f d.fd ps sp)(Y:ce k' X.A)(O:Gl X x)(hx:mw CX X E)(z:PA X (e::es) t)(U:k<=k':=by decide)(iq:(x == ("__debug__":Str))=false:=by decide)(J:starEach (e::es) X.env=(false,eval e X.env)::starEach es X.env:=by rfl)(j:(backTo pos (starEach es X.env)).any (·.1)=false:=by rfl) :
 PE X (.Call (.Name x p) (e::es) [] pos) (xq sp [] E t):=D8 (G.mono U) Y O d.m d.u.kp d.b .nil hx z iq J j
end
end L2
namespace K73
open L2
variable {K:Fg}{mg:Mv}{base:Heap}
structure Od(mg:Mv):Prop where
 let8:∃t,mg "MOST_LETTERS"=some (.int 8 t)
 pw4:∃t,mg "MOST_PATH_WORDS"=some (.int 4 t)
def aW(i:Nat):Stmt:=PySem.Challenge.pw_parcelmend_k73_looked_through_and_mended.main.body.getD i (.Pass ⟨0,0,0,0⟩)
abbrev Oe:Stmt:=aW 25
abbrev Of:Stmt:=aW 63
abbrev rm:Stmt:=aW 64
abbrev Og:Stmt:=aW 74
abbrev Oh:Stmt:=aW 88
abbrev Oj:Stmt:=aW 89
abbrev F5:Stmt:=aW 90
abbrev Ol:Stmt:=aW 91
abbrev F6:Stmt:=fB (aW 29) 0
abbrev Om:Stmt:=fB (aW 30) 0
abbrev Oo:Stmt:=fB (aW 30) 3
abbrev Op:Stmt:=fB (aW 41) 0
abbrev Oq:Stmt:=fB (aW 76) 0
abbrev Ot:Stmt:=fB (aW 76) 1
abbrev Ou:Stmt:=fB (aW 76) 2
abbrev Ov:Stmt:=fB (aW 76) 3
abbrev Ox:Stmt:=fB (aW 76) 4
abbrev Oy:Stmt:=fB (aW 76) 5
abbrev Oz:Stmt:=fB (aW 76) 6
abbrev OA:Stmt:=fB (aW 76) 7
abbrev OB:Stmt:=aW 2
abbrev OC:Stmt:=aW 3
abbrev OD:Stmt:=aW 4
abbrev OE:Stmt:=aW 5
abbrev OF:Stmt:=aW 6
abbrev OG:Stmt:=aW 7
abbrev OH:Stmt:=aW 8
abbrev OI:Stmt:=aW 20
abbrev OJ:Stmt:=aW 23
abbrev OL:Stmt:=aW 26
abbrev OM:Stmt:=aW 32
abbrev ON:Stmt:=aW 33
abbrev OO:Stmt:=aW 34
abbrev OP:Stmt:=aW 36
abbrev OQ:Stmt:=aW 37
abbrev OR:Stmt:=aW 38
abbrev OS:Stmt:=aW 39
abbrev OT:Stmt:=aW 42
abbrev Bz:Stmt:=aW 43
abbrev OU:Stmt:=aW 44
abbrev OV:Stmt:=aW 45
abbrev OW:Stmt:=aW 46
abbrev mV:Stmt:=aW 47
abbrev OX:Stmt:=aW 49
abbrev OY:Stmt:=aW 50
abbrev OZ:Stmt:=aW 51
abbrev O0:Stmt:=aW 52
abbrev O1:Stmt:=aW 54
abbrev O2:Stmt:=aW 55
abbrev O3:Stmt:=aW 56
abbrev O4:Stmt:=aW 57
abbrev BA:Stmt:=aW 59
abbrev O5:Stmt:=aW 60
abbrev O6:Stmt:=aW 61
abbrev O7:Stmt:=aW 62
abbrev O8:Stmt:=aW 66
abbrev O9:Stmt:=aW 67
abbrev Pa:Stmt:=aW 68
abbrev Pb:Stmt:=aW 78
abbrev Pc:Stmt:=aW 79
abbrev Pd:Stmt:=aW 80
abbrev Pe:Stmt:=aW 81
abbrev Pf:Stmt:=aW 82
abbrev Ph:Stmt:=aW 83
abbrev Pj:Stmt:=aW 84
abbrev BB:Stmt:=aW 85
abbrev Pk:Stmt:=aW 86
abbrev Pl:Stmt:=aW 87
abbrev Pm:Stmt:=aW 21
abbrev Pn:Stmt:=aW 22
abbrev Pp:Stmt:=aW 71
abbrev Ps:Stmt:=aW 72
abbrev Pu:Stmt:=aW 73
abbrev F7:Stmt:=aW 92
abbrev Pw:Stmt:=fB (aW 70) 0
abbrev Px:Stmt:=fB (aW 70) 1
abbrev Py:Stmt:=fB (aW 70) 2
abbrev Pz:Stmt:=fB (aW 70) 3
abbrev PB:Stmt:=fB (aW 70) 4
abbrev PD:Stmt:=fB (aW 70) 5
abbrev PF:Stmt:=fB (aW 70) 6
abbrev PH:Stmt:=fB (aW 70) 9
abbrev PJ:Stmt:=fB (aW 70) 10
abbrev PL:Stmt:=fB (aW 70) 11
abbrev PM:Stmt:=fB (aW 70) 12
abbrev PN:Stmt:=fB (aW 70) 13
structure Blt(mg:Mv):Prop where
 range:mg "range"=none
 len:mg "len"=none
 min:mg "min"=none
 list:mg "list"=none
 dict:mg "dict"=none
 set:mg "set"=none
 sorted:mg "sorted"=none
 isinstance:mg "isinstance"=none
 str:mg "str"=none
 tuple:mg "tuple"=none
 all:mg "all"=none
 enumerate:mg "enumerate"=none
 int:mg "int"=none
 bool:mg "bool"=none
structure Txt(K:Fg)(mg:Mv)(C:Addr):Prop where
 mgC:mg "Parcel"=some (.ref C)
 cl:iR K C
 nN:fH K C asu
 nM:fH K C asB
 nR:fH K C asJ
 nF:fH K C asz
 nE:fH K C asS
 nS:fH K C as2
 nO:fH K C atb
 mz:W.makesIn K C=true
 kc:W.keepIn K (.ref C)=true
structure agN(K:Fg)(mg:Mv)(S:Addr):Prop where
 mgC:mg "Shelf"=some (.ref S)
 cl:iR K S
 nS:fH K S atl
 mz:W.makesIn K S=true
 kc:W.keepIn K (.ref S)=true
structure agO(K:Fg)(mg:Mv)(T:Addr):Prop where
 mgC:mg "Stand"=some (.ref T)
 cl:iR K T
 nC:fH K T asy
 nH:fH K T asD
 nO:fH K T asP
 mz:W.makesIn K T=true
 kc:W.keepIn K (.ref T)=true
structure agP(K:Fg)(mg:Mv)(C:Addr):Prop where
 mgC:mg "Disk"=some (.ref C)
 cl:iR K C
 nF:fH K C asz
 nB:fH K C "book"
 nL:fH K C "left"
 mz:W.makesIn K C=true
 kc:W.keepIn K (.ref C)=true
structure agQ(K:Fg)(mg:Mv)(Hc:Addr):Prop where
 mgC:mg "House"=some (.ref Hc)
 cl:iR K Hc
 nS:fH K Hc asp
 nD:fH K Hc asv
 mz:W.makesIn K Hc=true
 kc:W.keepIn K (.ref Hc)=true
structure PP(K:Fg)(mg:Mv)(Fa:Addr):Prop where
 mF:mg "Fallen"=some (.ref Fa)
 xc:ET K Fa
 ex:W.exmOne K (.ref Fa) (.ref Fa)=some true
structure F8(K:Fg)(x a_:Str)(st:Stmt)(f c:Addr)(fd:Fy):Prop where
 ex:∃(oc:Value) (od:Oa) (kV doc pm:Value) (an:Oa) (ct:Value) (jZ:Array (Option Value)),fd=W.fnOf x a_ (jA st) (gB st) (aA st) .none kV doc pm an (.ref c) ct /\
  K.lookup f=some ⟨oc,od,.func (W.fnOf x a_ (jA st) (gB st) (aA st) .none kV doc pm an (.ref c) ct),jZ⟩/\W.codeIn K (.ref c) a_=true
 kp:W.keepIn K (.ref f)=true
structure PQ(K:Fg)(mg:Mv)(Pt:Addr) extends Fd K mg asK mV [asN,ass,asD] where
 c:Addr
 FN:F8 K asK asK mV f c fd
 hN:W.codeHdIn K c Pt=true
 hP:K.lookup Pt=none
structure PR(K:Fg)(mg:Mv) extends Fd K mg as4 rm [asp,asv] where
 mB:mg "come_up_books"=some (.ref f)
structure Pq(K:Fg)(mg:Mv)(Pt:Addr):Type where
 B:Blt mg
 K0:Od mg
 C:Addr
 S:Addr
 T:Addr
 D:Addr
 Hc:Addr
 TC:Txt K mg C
 US:agN K mg S
 UT:agO K mg T
 UD:agP K mg D
 UH:agQ K mg Hc
 TIn:fm K T "__init__" "Stand.__init__" Op [aso,asy,asD,asP]
 PIn:fm K C "__init__" "Parcel.__init__" F6 [aso,asu,asB,asJ,asz,asS,as2,atb]
 SIn:fm K S "__init__" "Shelf.__init__" Om [aso,ass]
 SPa:fm K S asw "Shelf.parcel" Oo [aso,asu,asB]
 DTk:fm K D "take_write" "Disk.take_write" OA [aso]
 DIn:fm K D "__init__" "Disk.__init__" Oq [aso]
 DPt:fm K D "put" "Disk.put" Ov [aso,asq,asF]
 DEr:fm K D "erase" "Disk.erase" Ox [aso,asq]
 DNt:fm K D "note" "Disk.note" Oy [aso,atd,asC]
 FNo:fm K D "files_now" "Disk.files_now" Ot [aso]
 BNo:fm K D "book_now" "Disk.book_now" Ou [aso]
 HIn:fm K Hc "__init__" "House.__init__" Pw [aso,asp,asv]
 HUp:fm K Hc "up" "House.up" Px [aso]
 HSt:fm K Hc asO "House.stand" Py [aso]
 HSK:fm K Hc "stand_kept" "House.stand_kept" PD [aso]
 HGo:fm K Hc "go_to" "House.go_to" PF [aso,asy,asD,asP]
 HFg:fm K Hc "forget" "House.forget" PH [aso,asq]
 HFo:fm K Hc "formers" "House.formers" Pz [aso]
 HCo:fm K Hc as4 "House.come_up" PB [aso]
 HCh:fm K Hc "choose" "House.choose" PJ [aso,asN,asu]
 HBa:fm K Hc "back" "House.back" PL [aso,asU]
 HLo:fm K Hc "look" "House.look" PM [aso]
 HMe:fm K Hc "mend" "House.mend" PN [aso]
 DAl:fm K D "allow" "Disk.allow" Oz [aso,"many"]
 Mix:Fd K mg "_law_mixed" Pc [asx,asE]
 Cel:Fd K mg "_law_cell_at" Pb [ast,asE]
 Nam:Fd K mg "_law_name" Pd [asx,atf]
 Lin:Fd K mg "_law_line" Pe [asr]
 Lis:Fd K mg "_law_lines" Pf [asr]
 Pat:Fd K mg "_law_path" Ph [asr]
 Mak:Fd K mg "_law_make" Pj [asr]
 RwO:Fd K mg "rows_of" OI [asC]
 MkS:Fd K mg "make_shown" OJ [asB]
 CCo:Fd K mg "changes_copied" OT [asP]
 ChR:Fd K mg "change_rows" OY [asq,asW]
 Sho:Fd K mg "stand_shown" OX [asO]
 MkN:Fd K mg "make_noted" O0 [asC]
 Not:Fd K mg "stand_noted" OZ [asC]
 PsO:Fd K mg "parcels_of" OM [asp,asy]
 Bro:Fd K mg "brought_by" OU [ass]
 Cho:Fd K mg "_law_chosen" Pk [asL,asA,asx]
 PAp:Fd K mg as9 BB [ast,asA,atg]
 Com:Fd K mg "commons_of" OW [ass]
 KUn:Fd K mg "keys_unlike" OL [asY,asV]
 Tur:Fd K mg "turn_to" BA [asv,asM]
 Ali:Fd K mg "alike_ahead" OC [asF,ath]
 Blk:Fd K mg "block_of" OB [as5,asI]
 IsA:Fd K mg "is_ahead" OD [asZ,asI]
 Tak:Fd K mg "takes_none" OE [asZ]
 Apa:Fd K mg "are_apart" OF [asZ,asI]
 Bot:Fd K mg "with_both" OG [as5,asY,asV]
 Put:Fd K mg "put_together" OH [as5,asP,"new"]
 FoC:Fd K mg "files_of_change" OV [asq,asW,ate]
 Tre:Fd K mg "tree_of" Bz [asp,asO]
 NBe:PQ K mg Pt
 PaO:Fd K mg "paths_of" OS [asw]
 NFa:Fd K mg "need_faults" OP [asw,ass]
 SFa:Fd K mg "shut_faults" OQ [asw,ass]
 CFa:Fd K mg "clash_faults" OR [asw,ass]
 FaO:Fd K mg "faults_of" ON [asp,asy]
 Sou:Fd K mg "is_sound" OO [asp,asy]
 Beh:Fd K mg "set_behind" O2 [as1,asH,as3]
 Wom:Fd K mg "with_one_more" O4 [ati,atc]
 Fst:Fd K mg "first_group" O3 [asp,as1,asH,atc]
 Gro:Fd K mg "groups_to" O1 [asp,as1,asH]
 IUp:Fd K mg "is_up" O5 [asv]
 TxB:Fd K mg "texts_begun" O6 [asv]
 StO:Fd K mg "stand_on" O7 [asv]
 Fin:Fd K mg "finish" O8 [asv,asM]
 StT:Fd K mg "steps_to" Pa [asp,as1,asH]
 DoD:Fd K mg "do_deed" O9 [asp,asv,asH]
 LSt:Fd K mg "_law_stand" Pl [asL,asA,asx]
 IsN:Fd K mg "is_name" Pm [asC]
 IsP:Fd K mg "is_path" Pn [asC]
 AsP:Fd K mg "ask_path" Pp [asq]
 WEn:Fd K mg "with_entry" Pu ["entries","key","entry"]
 Law:Fd K mg "law" F7 [ast]
 IPl:Fd K mg "is_place" Oe [asU,"things"]
 FoO:Fd K mg "formers_of" Of [asv]
 AsN:Fd K mg "ask_name" Ps [asu]
 CoU:PR K mg
 WFo:Fd K mg "word_for" Og [asq,asz,asM]
 LSp:Fd K mg "_law_spoilt" Oh [asG,asT,asx]
 LDu:Fd K mg "_law_due" Oj [as6,asT]
 LUn:Fd K mg "_law_untouched" F5 [asR,asG,asX]
 LMe:Fd K mg "_law_mended" Ol [asR,asG,as7]
 Fa:Addr
 R:PP K mg Fa
structure Pg(K:Fg)(mg:Mv)(base:Heap)(Pt:Addr) extends Pq K mg Pt where
 hB:base.BuiltinsAt mg Pt
theorem Pg.MPIn(z:Pg K mg base Pt):Mk K z.C z.PIn.f:=⟨z.TC.mz,z.PIn.mt.at_,z.PIn.mt.fn,z.TC.kc⟩
theorem Pg.MSIn(z:Pg K mg base Pt):Mk K z.S z.SIn.f:=⟨z.US.mz,z.SIn.mt.at_,z.SIn.mt.fn,z.US.kc⟩
theorem Pg.MTIn(z:Pg K mg base Pt):Mk K z.T z.TIn.f:=⟨z.UT.mz,z.TIn.mt.at_,z.TIn.mt.fn,z.UT.kc⟩
theorem Pg.MDIn(z:Pg K mg base Pt):Mk K z.D z.DIn.f:=⟨z.UD.mz,z.DIn.mt.at_,z.DIn.mt.fn,z.UD.kc⟩
theorem Pg.MHIn(z:Pg K mg base Pt):Mk K z.Hc z.HIn.f:=⟨z.UH.mz,z.HIn.mt.at_,z.HIn.mt.fn,z.UH.kc⟩
end K73
section
open L2
variable {P:Program}{w:World}{K:Fg}{mg:Mv}{base:Heap}{Pt:Addr}
namespace K73
section
variable {x:Str}{α:Type}
theorem BC{sep:Str}:∀{ps:Ls}{d:Nat},d∈(Str.join sep ps).cps.toList->d∈sep.cps.toList\/∃p∈ps,d∈p.cps.toList
 | [],d,h=>by
  have h:d∈([]:List Nat):=h;cases h
 | [p],d,h=>.inr ⟨p,bH,h⟩
 | p::q::r,d,h=>by
  have h:d∈(p++sep++Str.join sep (q::r)).cps.toList:=h;rw[mS,mS]at h
  rcases bY.mp h with h | h
  . rcases bY.mp h with h | h
    . exact .inr ⟨p,bH,h⟩
    exact .inl h
  rcases BC h with h | ⟨z,hz,hd⟩
  . exact .inl h
  exact .inr ⟨z,bR _ hz,hd⟩
theorem PU{l u:Option Int}{c:Nat}(h:c∈(Txt.slice x l u).cps.toList):c∈x.cps.toList:=by
 unfold Txt.slice at h;split at h
 . exact h
 have j:c∈(Builtin.Str.strSliceIndices l u 1 x.length).filterMap (x.cps[·]?):=by simpa using h
 obtain⟨i,_,hi⟩:=Jj.mp j;have:=aqO hi;simpa using this
theorem agR(x:Str)(k:Int)(h0:0<=k)(h1:k<=x.length):(Txt.slice x none (some k)).length+(Txt.slice x (some k) none).length=x.length:=by
 have z:x.cps.toList.length=x.length:=dW;rw[FV,FV,StrLaws.sliceText_to (x:=x) (j:=k) ⟨h0,by omega⟩,StrLaws.sliceText_from (x:=x) (i:=k) ⟨h0,by omega⟩];show((List.drop 0 x.cps.toList).take (k - 0).toNat).toArray.size+((List.drop k.toNat x.cps.toList).take ((x.cps.toList.length:Int) - k).toNat).toArray.size=x.length;rw[gf,gf,eW,eW,kP,kP];omega
theorem BD{c d:Nat}(h:d∈(⟨#[c]⟩:Str).cps.toList):d=c:=bF.mp h
theorem PV{P:Nat->Prop}(ok:∀c∈x.cps.toList,P c){r:Int}(h0:0<=r)(h1:r<x.length):∃c,cI x.cps.toList r=some c/\P c:=by
 obtain⟨n,rfl⟩:∃n:Nat,r=n:=⟨r.toNat,by omega⟩;have j:n<x.cps.toList.length:=by
  have:x.cps.toList.length=x.length:=by simp[Str.length]
  omega
 exact⟨_,AB (gX j),ok _ (Do j)⟩
def vQ:Str:=as0
theorem agS:∀c∈vQ.cps.toList,97<=c/\c<=122:=by decide +kernel
theorem yt:vQ.length=26:=by decide +kernel
theorem BE(n:Int):∃c,cI vQ.cps.toList (n % 26)=some c/\(97<=c/\c<=122):=PV agS (by omega) (by rw[yt];omega)
def rn : Str := " !\"#$&'()*+,-./0123456789:;<=>?@ABCDEFGHIJKLMNOPQRSTUVWXYZ[\\]^_`"
def rp:Str:="abcdefghijklmnopqrstuvwxyz{|}~"
theorem agT:∀c∈(rn++rp).cps.toList,32<=c/\c<=126/\c≠37:=by decide +kernel
theorem vR:(rn++rp).length=94:=by decide +kernel
inductive F9:Sp where
 | mk {H:Hp}{Q:VK}{E:XK}{c k:Int} (_:∀n:Int,Q (.int n) H):F9 [.int c,.int k] H Q E
theorem PX:aP [asx,asE,asr] [asx,asE] (aA Pc):=aV
theorem gF(j:Pg K mg base Pt):aw P w K mg base aI 1 j.Mix.f j.Mix.fd [asx,asE] F9:=by
 refine j.Mix.u.okL PX ?_;intro z A outer s H vs Q E U h xX O;obtain @⟨_,_,_,c,k,q⟩:=h;refine⟨_,(ai (aM (i:=2) PX.nd rfl (Or.inl rfl) (aJ cH (aJ vb (aJ fU (aJ fU (aJ cH (pv 0) ar) (aJ vb ar (pv 1))) ar) ar) ar))
  (aj (aX (aJ cH (aJ vb (pv 2) (aJ fU (aJ iQ (pv 2) ar) ar)) ar)))),?_⟩
 refine mI ?_;intro G Y J;refine⟨(by show(0:Int)<2147483647;decide),.inl ⟨by omega,by omega⟩,.inr ⟨by omega,by omega⟩,(by show(0:Int)<2147483647;decide),?_⟩;refine⟨⟨by omega,by omega⟩,.inl ⟨by omega,by omega⟩,(by show(0:Int)<2147483647;decide),?_⟩;exact q _
inductive PY (K:Fg):Sp where
 | mk {H:Hp}{Q:VK}{E:XK}{a:Addr}{k:Int}{ns:List Int} (_:0<=k) (_:aa K H a (ns.map V.int)) (_:∀n:Int,Q (.int n) H):PY K [.ref a,.int k] H Q E
theorem agU:aP [ast,asE] [ast,asE] (aA Pb):=aV
theorem vS(j:Pg K mg base Pt):aw P w K mg base aI 1 j.Cel.f j.Cel.fd [ast,asE] (PY K):=by
 refine j.Cel.u.okL agU ?_;intro J A outer s H vs Q E hr h xX Y;obtain @⟨_,_,_,a,k,ns,k0,G,q⟩:=h;refine⟨_,(ai (bN (bL qJ (pv 1) (cg fA (by rfl) j.B.len eX (al (pv 0))) (bC _))
  (aj (aX (bO fW (pv 0) (pv 1) (λ_ _=>rfl)))) cD)
  (aj (aX ar))),?_⟩
 refine mI ?_;intro O sS U;refine⟨a,_,rfl,.inl G,⟨⟨?_⟩⟩⟩;refine bv (λh=>?_) (λh=>?_)
 . have h':=cT h;rw[ak]at h';obtain⟨z,hz,_⟩:=LL (ns:=ns) (r:=k) k0 h';exact⟨G,hz,q z⟩
 exact q 0
inductive PZ:Sp where
 | mk {H:Hp}{Q:VK}{E:XK}{c p:Int} (_:∀x H',cJ x->ac H H'->Q (.str x) H'):PZ [.int c,.int p] H Q E
theorem BF:aP [asx,atf,asQ,"_law_body","_law_at"] [asx,atf] (aA Pd):=aV
theorem agV(j:Pg K mg base Pt):aw P w K mg base aI 1 j.Nam.f j.Nam.fd [asx,atf] PZ:=by
 refine j.Nam.u.okL BF ?_;intro av A outer s H vs Q E hr h xX dX;obtain @⟨_,_,_,c,p,q⟩:=h;refine⟨_,(ai (aM (i:=2) BF.nd rfl (Or.inr rfl) bT)
  (AJ (λZ H2=>∃x:Str,Z=[some (.int c),some (.int p),some (.str vQ),some (.str x),none]/\ac H H2/\(∀c∈x.cps.toList,97<=c/\c<=122)/\x.length<=7) (aM (i:=3) BF.nd rfl (Or.inl rfl) (db me wV wW vo bT (al (fY [asE] [asQ,asx] [2,0] dM rfl (pq rfl j.B.range (al (aJ cH (aJ iQ (pv 0) ar) ar))) (λ_ _ _ _=>(be (i:=0) (show List.Nodup ([asE,asQ,asx]:Ls) by decide +kernel) rfl (Or.inl rfl))) (λ_ _ _ _=>gj) (λ_ _ _ _=>(bO xv (pv 1) (aJ cH (aJ iQ (pv 2) (aJ fU ar (aJ vb ar (pv 0)))) ar) (λ_ _=>rfl)))))))
  (ai (aM (i:=4) BF.nd rfl (Or.inl rfl) (aJ cH (aJ iQ (pv 0) ar) (aJ fU (cg Eg (by rfl) j.B.len eX (al (pv 3))) ar)))
  (aj (aX (aJ xj (aJ xj (li AG (pv 3) nQ (jz (pv 4))) (bO xv (pv 2) (aJ cH (aJ fU (pv 0) (pv 1)) ar) (λ_ _=>rfl))) (li AG (pv 3) (jz (pv 4)) nQ))))))),?_⟩
 refine mI ?_;intro dD sS dU;refine⟨?_,?_⟩
 . refine⟨rfl,⟨by omega,by omega⟩,(by show(0:Int)<8;decide),by omega,by omega,?_⟩;refine vk (σ0:=[none,some (.str vQ),some (.int c)]) (λZ=>∃v,Z=[v,some (.str vQ),some (.int c)]) (λi ys _=>∃xs:Ls,ys=xs.map V.str/\xs.length=i/\∀x∈xs,(∀c∈x.cps.toList,97<=c/\c<=122)/\x.length<=1) ⟨_,rfl⟩ (λ_ _=>⟨[],rfl,rfl,λ_ h=>nomatch h⟩) ?_ ?_
   . intro D i ys Z H2 k hD hi fM hd hs gQ hk;refine bq ?_;intro Y;obtain⟨v,rfl⟩:=fM;obtain⟨xs,rfl,U,G⟩:=gQ;obtain⟨z,hz,J⟩:=BE (c / (16+5 * (0+(i:Int))));refine⟨.inl ⟨by omega,by omega⟩,⟨by omega,by omega⟩,(by show(0:Int)<26;decide),j6 (by rw[yt];decide),hz,?_⟩;refine hk _ _ _ ⟨_,rfl⟩ (ac.refl _) (bQ (by rw[ak];omega)) ⟨xs++[_],tK xs _,by rw[bI,U];rfl,λy hy=>?_⟩
     rcases bY.mp hy with hy | hy
     . exact G y hy
     rw[bF.mp hy];exact⟨λd hd=>by rw[BD hd];exact J,wJ (pK z)⟩
   intro D ys H2 hD hd hs gR;refine bq ?_;intro Y;obtain⟨xs,rfl,U,G⟩:=gR;have a0:=xJ (b:=1) λy hy=>(G y hy).2;have O:(Str.ofString "").length=0:=by decide +kernel
   refine⟨xs,aa.of hd,by rw[O];omega,?_⟩;refine⟨_,rfl,hs,λd hd=>?_,?_⟩
   . rw[show Txt.join (Str.ofString "") xs=Str.join (Str.ofString "") xs from zQ _ _]at hd
     rcases BC hd with hd | ⟨y,hy,hd⟩
     . cases hd
     exact(G y hy).1 d hd
   refine cn AO ?_;rw[O];omega
 intro σ' H' pW;refine bq ?_;intro Y;obtain⟨x,rfl,s1,xt,x8⟩:=pW;refine⟨⟨by omega,by omega⟩,_,rfl,j6 (by omega),(by show(0:Int)<(x.length:Int)+1;omega),?_⟩;obtain⟨z,hz,J⟩:=BE (c+p);have l1:=Txt.slice_le x none (some (c / 7 % ((x.length:Int)+1)));have l2:=Txt.slice_le x (some (c / 7 % ((x.length:Int)+1))) none;have l3:(⟨#[z]⟩:Str).length=1:=pK z;refine⟨j6 (by omega),(by show(0:Int)<26;decide),j6 (by rw[yt];decide),hz,_,_,rfl,rfl,fit (by omega) (by omega),j6 (by omega),_,_,rfl,rfl,fit (by rw[jk];omega) (by omega),?_⟩;have l4:=agR x (c / 7 % ((x.length:Int)+1)) (sq _ (by omega)) (by have:=uQ (c / 7) (show(0:Int)<(x.length:Int)+1 by omega);omega);refine q _ _ ⟨?_,?_,λd hd=>?_⟩ s1
 . rw[jk,jk];omega
 . rw[jk,jk];omega
 rw[mS,mS]at hd
 rcases bY.mp hd with hd | hd
 . rcases bY.mp hd with hd | hd
   . exact xt d (PU hd)
   rw[BD hd];exact J
 exact xt d (PU hd)
inductive P1:Sp where
 | mk {H:Hp}{Q:VK}{E:XK}{c:Int} (_:∀x H',i4 x->ac H H'->Q (.str x) H'):P1 [.int c] H Q E
theorem BG:aP [asr,asQ,as7] [asr] (aA Pe):=aV
theorem agX(j:Pg K mg base Pt):aw P w K mg base aI 1 j.Lin.f j.Lin.fd [asr] P1:=by
 refine j.Lin.u.okL BG ?_;intro av A outer s H vs Q E hr h xX dX;obtain @⟨_,_,_,c,q⟩:=h;refine⟨_,(ai (aM (i:=1) BG.nd rfl (Or.inr rfl) bT)
  (ai (aM (i:=1) BG.nd rfl (Or.inr rfl) (aJ xj (pv 1) bT))
  (ai (aM (i:=2) BG.nd rfl (Or.inl rfl) (aJ cH (pv 0) ar))
  (aj (aX (db me wV wW vo bT (al (fY [asE] [asQ,asr] [1,0] dM rfl (pq rfl j.B.range (al (pv 2))) (λ_ _ _ _=>(be (i:=0) (show List.Nodup ([asE,asQ,asr]:Ls) by decide +kernel) rfl (Or.inl rfl))) (λ_ _ _ _=>gj) (λ_ _ _ _=>(bO xv (pv 1) (aJ cH (aJ iQ (pv 2) (aJ fU ar (aJ vb ar (pv 0)))) (cg Eg (by rfl) j.B.len eX (al (pv 1)))) (λ_ _=>rfl))))))))))),?_⟩
 refine lG ?_;intro dD sS oH gr dU;refine⟨_,_,rfl,rfl,(by show rn.length+rp.length<=sizeLine;rw[<-jk,vR];decide),?_⟩;refine⟨(by show(0:Int)<5;decide),?_⟩;refine⟨rfl,by omega,by omega,?_⟩;have e1:∀i:Nat,∃z,cI (rn++rp).cps.toList (c / (5+11 * (0+(i:Int))) % ((rn++rp).length:Int))=some z/\(32<=z/\z<=126/\z≠37):=λi=>PV agT (sq _ (by rw[vR];decide)) (uQ _ (by rw[vR];decide));refine vk (σ0:=[none,some (.str (rn++rp)),some (.int c)]) (λZ=>∃v,Z=[v,some (.str (rn++rp)),some (.int c)]) (λi ys _=>∃xs:Ls,ys=xs.map V.str/\xs.length=i/\∀x∈xs,(∀c∈x.cps.toList,32<=c/\c<=126/\c≠37)/\x.length<=1) ⟨_,rfl⟩ (λ_ _=>⟨[],rfl,rfl,λ_ h=>nomatch h⟩) ?_ ?_
 . intro D i ys Z H2 k U hi uc hd hs ud Y;refine bq ?_;intro tT;obtain⟨v,rfl⟩:=uc;obtain⟨xs,rfl,O,G⟩:=ud;obtain⟨z,hz,zb⟩:=e1 i;refine⟨.inl ⟨by omega,by omega⟩,⟨by omega,by omega⟩,_,rfl,j6 (by rw[vR];decide),(by show(0:Int)<((rn++rp).length:Int);rw[vR];decide),j6 (by rw[vR];decide),hz,?_⟩;refine Y _ _ _ ⟨_,rfl⟩ (ac.refl _) (bQ (by rw[ak];omega)) ⟨xs++[_],tK xs _,by rw[bI,O];rfl,λy hy=>?_⟩
   rcases bY.mp hy with hy | hy
   . exact G y hy
   rw[bF.mp hy];exact⟨λd hd=>by rw[BD hd];exact zb,wJ (pK z)⟩
 intro D ys H2 U hd hs yu;refine bq ?_;intro tT;obtain⟨xs,rfl,O,G⟩:=yu;have a0:=xJ (b:=1) λy hy=>(G y hy).2;have J:(Str.ofString "").length=0:=by decide +kernel
 refine⟨xs,aa.of hd,by rw[J];omega,?_⟩;refine q _ _ ⟨?_,λd hd=>?_⟩ hs
 . refine cn AO ?_;rw[J];omega
 rw[show Txt.join (Str.ofString "") xs=Str.join (Str.ofString "") xs from zQ _ _]at hd
 rcases BC hd with hd | ⟨y,hy,hd⟩
 . cases hd
 exact(G y hy).1 d hd
abbrev agY (H:Hp) (Q:V->Hp->Prop):Prop:=∀(l:Addr) (H':Hp) (xs:Ls),H l=none->ac H H'->H' l=some (.lst (xs.map V.str))->xs.length<=4->(∀x∈xs,i4 x)->Q (.ref l) H'
inductive Ga:Sp where
 | mk {H:Hp}{Q:VK}{E:XK}{c:Int} (_:agY H Q):Ga [.int c] H Q E
theorem P2:aP [asr,asQ] [asr] (aA Pf):=aV
theorem BH(j:Pg K mg base Pt):aw P w K mg base aI 2 j.Lis.f j.Lis.fd [asr] Ga:=by
 refine j.Lis.u.okL P2 ?_;intro av A outer s H vs Q E O h xX dX;obtain @⟨_,_,_,c,q⟩:=h;refine⟨_,(ai (aM (i:=1) P2.nd rfl (Or.inr rfl) (aJ fU ar (aJ vb ar (aJ cH (pv 0) ar))))
  (aj (aX (fY [asE] [asQ,asr] [1,0] dM rfl (pq rfl j.B.range (al (aJ cH (pv 0) ar))) (λ_ _ _ _=>(be (i:=0) (show List.Nodup ([asE,asQ,asr]:Ls) by decide +kernel) rfl (Or.inl rfl))) (λ_ _ _ _=>gj) (λ_ _ _ _=>(ay (agX j) O rfl (al (aJ cH (ay (gF j) O rfl (aL (aJ iQ (pv 2) ar) (pv 0))) (pv 1))))))))),?_⟩
 refine mI ?_;intro dD sS dU;refine⟨(by show(0:Int)<3;decide),.inl ⟨by omega,by omega⟩,⟨?_⟩⟩;refine⟨(by show(0:Int)<5;decide),by omega,by omega,?_⟩;refine vk (σ0:=[none,some (.int (40+900 * (c % 3))),some (.int c)]) (λZ=>∃v,Z=[v,some (.int (40+900 * (c % 3))),some (.int c)]) (λi ys _=>∃xs:Ls,ys=xs.map V.str/\xs.length=i/\∀x∈xs,i4 x) ⟨_,rfl⟩ (λ_ _=>⟨[],rfl,rfl,λ_ h=>nomatch h⟩) ?_ ?_
 . intro D i ys Z H2 k J hi yw hd hs Y hk;refine bq ?_;intro tT;obtain⟨v,rfl⟩:=yw;obtain⟨xs,rfl,U,z⟩:=Y;refine⟨⟨by omega,by omega⟩,⟨⟨λn=>?_⟩⟩⟩;refine⟨(by show(0:Int)<40+900 * (c % 3);omega),⟨λx H3 lx s3=>?_⟩⟩;exact hk _ _ _ ⟨_,rfl⟩ s3 (bQ (by rw[ak];omega)) ⟨xs++[x],tK xs x,by rw[bI,U];rfl,λy G=>(bY.mp G).elim (z y) (λG=>by rw[bF.mp G];exact lx)⟩
 intro D ys H2 J hd hs a0;refine bq ?_;intro tT;obtain⟨xs,rfl,U,z⟩:=a0;exact q D H2 xs J hs hd (by omega) z
inductive P4:Sp where
 | mk {H:Hp}{Q:VK}{E:XK}{c:Int} (_:∀x H',dC x/\x.length≠13->ac H H'->Q (.str x) H'):P4 [.int c] H Q E
theorem Gc:aP [asr,asQ,"_law_way"] [asr] (aA Ph):=aV
def BI:Ls:=["a","a/b","conf/ed/three/four","zz"]
def Gd(x:Str):Bool:=decide (1<=x.length) && decide (x.length<=8) && x.cps.toList.all λc=>decide (97<=c) && decide (c<=122)
theorem ag0(h:Gd x=true):cJ x:=by
 unfold Gd at h;simp only[io,wU,ip]at h;exact⟨h.1.1,h.1.2,h.2⟩
theorem BJ(ps:Ls)(e:x=Str.join lK ps)(h1:1<=ps.length)(h2:ps.length<=4)(h:ps.all Gd=true):dC x:=⟨ps,e,h1,h2,λp j=>ag0 (ip.mp h p j)⟩
theorem ag1:∀x∈BI,x.length≠13:=by decide +kernel
theorem ag2:∀x∈BI,dC x:=by
 intro x j;simp only[BI,bf,ft,fw]at j
 rcases j with rfl | rfl | rfl | rfl
 . exact BJ ["a"] (by decide +kernel) (by decide) (by decide) (by decide +kernel)
 . exact BJ ["a","b"] (by decide +kernel) (by decide) (by decide) (by decide +kernel)
 . exact BJ ["conf","ed","three","four"] (by decide +kernel) (by decide) (by decide) (by decide +kernel)
 exact BJ ["zz"] (by decide +kernel) (by decide) (by decide) (by decide +kernel)
theorem P5{z:Nat}(h:97<=z/\z<=122):cJ ⟨#[z]⟩:=⟨aK _,(by show 1<=8;decide),λd hd=>by rw[BD hd];exact h⟩
theorem Ge(j:Pg K mg base Pt):aw P w K mg base aI 1 j.Pat.f j.Pat.fd [asr] P4:=by
 refine j.Pat.u.okL Gc ?_;intro av A outer s H vs Q E hr h xX dX;obtain @⟨_,_,_,c,q⟩:=h;refine⟨_,(ai (aM (i:=1) Gc.nd rfl (Or.inl rfl) bT)
  (ai (aM (i:=2) Gc.nd rfl (Or.inl rfl) (aJ cH (pv 0) ar))
  (ai (bN (bL fV (pv 2) ar (bC _))
  (aj (aX (aJ xj (aJ xj (bO xv (pv 1) (aJ cH (aJ iQ (pv 0) ar) ar) (λ_ _=>rfl)) bT) (bO xv (pv 1) (aJ cH (aJ iQ (pv 0) ar) ar) (λ_ _=>rfl))))) cD)
  (aj (aX (bO fW (df (AY bT bT bT bT)) (pv 2) (λ_ _=>rfl))))))),?_⟩
 refine lG ?_;intro dD sS oH gr dU;refine⟨(by show(0:Int)<5;decide),?_⟩;refine⟨rfl,⟨?_⟩⟩;refine bv (λh=>?_) (λh=>?_)
 . obtain⟨z,hz,zb⟩:=BE (c / 5);obtain⟨y,O,Y⟩:=BE (c / 130);have lz:(⟨#[z]⟩:Str).length=1:=pK z;have ly:(⟨#[y]⟩:Str).length=1:=pK y;have ls:(Str.ofString "/").length=1:=by decide +kernel
   refine⟨⟨by omega,by omega⟩,(by show(0:Int)<26;decide),j6 (by rw[show(Str.ofString "abcdefghijklmnopqrstuvwxyz").length=26 from yt];decide),hz,_,_,rfl,rfl,fit (by omega) (by omega),⟨by omega,by omega⟩,(by show(0:Int)<26;decide),j6 (by rw[show(Str.ofString "abcdefghijklmnopqrstuvwxyz").length=26 from yt];decide),O,_,_,rfl,rfl,fit (by rw[jk];omega) (by omega),?_⟩;refine q _ _ ⟨⟨[⟨#[z]⟩,⟨#[y]⟩],rfl,(by show 1<=2;decide),(by show 2<=4;decide),λp G=>?_⟩,by rw[jk,jk];omega⟩ (ac.refl _);simp only[bf,ft,fw]at G
   rcases G with rfl | rfl
   . exact P5 zb
   exact P5 Y
 have h4:c % 5≠4:=λz=>h (by show decide (V.int (c % 5)=V.int 4)=true;rw[z];rfl);refine⟨(by show 4<=sizeLine;decide),λp1 H1 n1 U e1=>?_⟩;obtain⟨z,hz,J⟩:=vn (xs:=BI) (r:=c % 5) (by omega) (by show c % 5<(4:Nat);omega);exact⟨aa.of e1,hz,q z H1 ⟨ag2 z (da J),ag1 z (da J)⟩ U⟩
theorem P6(n:Int):0<=n % (10 ^ (9:Int).toNat)/\n % (10 ^ (9:Int).toNat)<=1000000000:=by
 have e:(10 ^ (9:Int).toNat:Int)=1000000000:=by decide
 rw[e];omega
def ag3(H:Hp)(Q:VK):Prop:=∀p H' (ms:List Int),H p=none->ac H H'->H' p=some (.tup (ms.map V.int))->f9 ms->Q (.ref p) H'
inductive P7:Sp where
 | mk {H:Hp}{Q:VK}{E:XK}{c:Int} (_:ag3 H Q):P7 [.int c] H Q E
theorem ag4:aP [asr] [asr] (aA Pj):=aV
theorem ag5(z:Pg K mg base Pt):aw P w K mg base aI 1 z.Mak.f z.Mak.fd [asr] P7:=by
 refine z.Mak.u.okL ag4 ?_;intro av A outer s H vs Q E hr h xX dX;obtain @⟨_,_,_,c,q⟩:=h;refine⟨_,(ai (bN (bL fV (aJ cH (pv 0) ar) ar (bC _))
  (aj (aX (eT (al (aJ fU ar (aJ cH (aJ iQ (pv 0) ar) ar)))))) cD)
  (ai (bN (bL fV (aJ cH (pv 0) ar) ar (bC _))
  (aj (aX (eT (aL ar (aJ cH (aJ iQ (pv 0) ar) ar))))) cD)
  (ai (bN (bL fV (aJ cH (pv 0) ar) ar (bC _))
  (aj (aX (eT (dg ar ar (aJ cH (aJ iQ (pv 0) ar) (aJ DP ar ar)))))) cD)
  (aj (aX (eT (al (aJ cH (aJ iQ (pv 0) ar) (aJ DP ar ar))))))))),?_⟩
 refine lG ?_;intro dD sS oH gr dU;refine⟨(by show(0:Int)<4;decide),rfl,⟨?_⟩⟩;refine bv (λh=>?_) (λh=>?_)
 . refine⟨⟨by omega,by omega⟩,(by show(0:Int)<3;decide),AU,λp1 H1 n1 Y e1=>?_⟩;exact q p1 H1 [_] n1 Y e1 ⟨(by show 1<=1;decide),(by show 1<=3;decide),λn j=>by rw[bF.mp j];omega⟩
 refine⟨(by show(0:Int)<4;decide),rfl,⟨?_⟩⟩;refine bv (λh=>?_) (λh=>?_)
 . refine⟨⟨by omega,by omega⟩,(by show(0:Int)<3;decide),Ah,λp2 H2 n2 s2 e2=>?_⟩;exact q p2 H2 [_,_] n2 s2 e2 ⟨(by show 1<=2;decide),(by show 2<=3;decide),λn j=>by
    simp only[bf,ft,fw]at j
    rcases j with rfl | rfl<;>omega⟩
 refine⟨(by show(0:Int)<4;decide),rfl,⟨?_⟩⟩;refine bv (λh=>?_) (λh=>?_)
 . refine⟨⟨by omega,by omega⟩,⟨by decide,by decide,by decide⟩,(by show(0:Int)<10 ^ (9:Int).toNat;decide),Al,λO H3 n3 s3 e3=>?_⟩;exact q O H3 [_,_,_] n3 s3 e3 ⟨(by show 1<=3;decide),(by show 3<=3;decide),λn j=>by
    simp only[bf,ft,fw]at j
    rcases j with rfl | rfl | rfl
    . omega
    . omega
    exact P6 _⟩
 refine⟨⟨by omega,by omega⟩,⟨by decide,by decide,by decide⟩,(by show(0:Int)<10 ^ (9:Int).toNat;decide),AU,λU G J s4 e4=>?_⟩;exact q U G [_] J s4 e4 ⟨(by show 1<=1;decide),(by show 1<=3;decide),λn j=>by rw[bF.mp j];exact P6 _⟩
theorem eg{n:Nat}(h:n<=100000):n<=sizeLine:=by rw[uN];omega
theorem ag6(l:List α)(f:α->Bool):l.map (λc=>V.bl (f c))=(l.map f).map V.bl:=by rw[md];rfl
theorem P8(l:List α)(f:α->Bool):(l.map f).all id=l.all f:=by rw[List.all_map];rfl
theorem i5{β:Type}{l:List α}{f:α->β}{i:Nat}{y:β}(h:(l.map f)[i]?=some y):∃x,l[i]?=some x/\y=f x:=by
 rw[c8]at h;cases e:l[i]? with
 | none=>rw[e]at h;cases h
 | some x=>rw[e]at h;exact⟨x,rfl,(gw h).symm⟩
inductive P9:Sp where
 | mk {H:Hp}{Q:VK}{E:XK}{t:Str} (_:t.length<=90000) (_:∀l H',H l=none->ac H H'->H' l=some (.lst ((rowsOf t).map V.str))->Q (.ref l) H'):P9 [.str t] H Q E
theorem ag7:aP [asC] [asC] (aA OI):=aV
theorem ag8(j:Pg K mg base Pt):aw P w K mg base aI 1 j.RwO.f j.RwO.fd [asC] P9:=by
 refine j.RwO.u.okL ag7 ?_;intro G A outer s H vs Q E O h Y J;obtain @⟨_,_,_,t,U,q⟩:=h;refine⟨_,(aj (aX (Ka (bL Kw (pv 0) bT (bC _)) (db me JF JG Be (pv 0) (al bT)) (df dG)))),?_⟩;refine⟨rfl,⟨?_⟩⟩;refine bv (λh=>?_) (λh=>?_)
 . have ne:t≠Str.empty:=λz=>by
    rw[z]at h;exact absurd h (by decide +kernel)
   refine⟨rfl,t,lJ,rfl,rfl,by decide +kernel,eg (by omega),λl H' a b c=>?_⟩;refine q l H' a b ?_;rw[c];unfold rowsOf;rw[ah ne]
 have e:t=Str.empty:=by
  rcases Classical.em (t=Str.empty) with z | z
  . exact z
  refine absurd ?_ h;show(!decide (V.str t=V.str Str.empty))=true;rw[cu (λy=>z (V.str.inj y))];rfl
 refine⟨(by show 0<=sizeLine;exact dF _),λl H' a b c=>?_⟩;refine q l H' a b ?_;rw[c];unfold rowsOf;rw[am e];rfl
theorem Gf{y a:Str}(h:a∈Txt.split x y):a.length<=x.length:=part_short h
def yx(ms:List Int):Prop:=ms.length<=3/\∀n∈ms,0<=n/\n<=1000000000
theorem f9.ok{ms:List Int}(h:f9 ms):yx ms:=⟨h.hi,h.rg⟩
inductive Qa:Sp where
 | mk {H:Hp}{Q:VK}{E:XK}{m:Addr}{ms:List Int} (_:H m=some (.tup (ms.map V.int))) (_:yx ms) (_:∀H',ac H H'->Q (.str (jG ms)) H'):Qa [.ref m] H Q E
theorem ag9:aP [asB] [asB] (aA OJ):=aV
theorem Qb{ms:List Int}(h:yx ms):((ms.map i3).map (·.length)).sum<=30:=by
 have:=xJ (ys:=ms.map i3) (b:=10) λy z=>by
  obtain⟨n,j,rfl⟩:=ca.mp z;exact(NY (h.2 n j).1 (h.2 n j).2).2
 rw[ak]at this;have:=h.1;omega
theorem aha{n:Int}(h0:0<=n)(h1:n<=1000000000):n.natAbs.log2<1920:=by
 have:n.natAbs<2 ^ 1920:=Vx (by omega:n.natAbs<=1000000000) (by decide +kernel)
 by_cases z:n.natAbs=0
 . rw[z];decide
 exact(Nat.log2_lt z).mpr this
theorem ahb(j:Pg K mg base Pt):aw P w K mg base aI 1 j.MkS.f j.MkS.fd [asB] Qa:=by
 refine j.MkS.u.okL ag9 ?_;intro av A outer s H vs Q E hr h xX dX;obtain @⟨_,_,_,m,ms,G,ok,q⟩:=h;refine⟨_,(aj (aX (db me wV wW vo bT (al (fY [asU] [] [] dM rfl (Xx (pv 0)) (λ_ _ _ _=>(be (i:=0) (show List.Nodup ([asU]:Ls) by decide +kernel) rfl (Or.inl rfl))) (λ_ _ _ _=>gj) (λ_ _ _ _=>(dH Ye (by rfl) j.B.str V0 (al (pv 0))))))))),?_⟩;refine⟨rfl,⟨_,bh.of G⟩,?_⟩;refine afz (σ0:=[none]) (bh.of G) (λZ=>∃v,Z=[v]) ((ms.map i3).map V.str) (by rw[ak,ak,ak]) (eg (by rw[ak];have:=ok.1;omega)) ⟨_,rfl⟩ ?_ ?_
 . intro i z y Z H2 k hz O Y hs hk;obtain⟨v,rfl⟩:=Y;obtain⟨n,J,rfl⟩:=i5 hz;rw[md]at O;obtain⟨n',U,rfl⟩:=i5 O;rw[J]at U;cases U;have r:=ok.2 n (da J);exact⟨n,rfl,aha r.1 r.2,hk _ _ ⟨_,rfl⟩ (ac.refl _)⟩
 intro D H2 hD hd hs;have l1:=Qb ok;refine⟨ms.map i3,aa.of hd,?_,?_⟩
 . rw[show(Str.ofString ".").length=1 by decide +kernel,ak];have:=ok.1;omega
 have:=q H2 hs;rw[show jG ms=Txt.join lL (ms.map i3) from (zQ _ _).symm]at this;exact this
end
section
variable {H1 H H':Hp}{kv:ao×V}{e:Str×(Ls×Ls)}
theorem BK{g:TG}{tb:TS}{D:Ends}{Z:L2.St}{kvs:List (ao×V)}{ob:Obj}(Pv:Nat->L2.St->Hp->Prop)(h0:Pv 0 Z (ag H1 d (.frz ob (.dK kvs))))(G:∀i Z H,Pv i Z H->H d=some (.frz ob (.dK kvs)))
 (hs:∀i k v p Z H,kvs[i]?=some (k,v)->Pv i Z H->H p=none->g (.ref p) Z (ag H p (.tup [kV k,v])) λσ2 H2=>
  tb { nx:=Pv (i+1),ct:=Pv (i+1),bk:=λσ' H'=>H' d=some (.frz ob (.dK kvs))/\D.nx σ' (ag H' d (.dK kvs)),rt:=λj H'=>H' d=some (.frz ob (.dK kvs))/\D.rt j (ag H' d (.dK kvs)) } σ2 H2)
 (hd:∀Z H,Pv kvs.length Z H->D.nx Z (ag H d (.dK kvs))):∃W:Nat->Nat->L2.St->Hp->Prop,(∃m,W 0 m Z (ag H1 d (.frz ob (.dK kvs))))/\∀i m Z H,W i m Z H ->
 H d=some (.frz ob (.dK kvs))/\((kvs.length<=i/\D.nx Z (ag H d (.dK kvs)))\/(i<kvs.length/\∃N:L2.St->Hp->Prop,(∀σ' H',N σ' H'->∃m',m'<m/\W (i+1) m' σ' H') /\
  ∀k v p,kvs[i]?=some (k,v)->H p=none->g (.ref p) Z (ag H p (.tup [kV k,v])) λσ2 H2=>
   tb { nx:=N,ct:=N,bk:=λσ' H'=>H' d=some (.frz ob (.dK kvs))/\D.nx σ' (ag H' d (.dK kvs)),rt:=λj H'=>H' d=some (.frz ob (.dK kvs))/\D.rt j (ag H' d (.dK kvs)) } σ2 H2)):=by
 refine⟨λi m Z H=>m=kvs.length - i/\i<=kvs.length/\Pv i Z H,⟨kvs.length,by simp,dF _,h0⟩,?_⟩;rintro i m Z H ⟨rfl,hi,p⟩;refine⟨G i Z H p,?_⟩
 by_cases z:i<kvs.length
 . exact .inr ⟨z,Pv (i+1),λσ' H' U=>⟨kvs.length - (i+1),by omega,rfl,z,U⟩,λk v q J O=>hs i k v q Z H J p O⟩
 have e:i=kvs.length:=by omega
 subst e;exact .inl ⟨aK _,hd Z H p⟩
abbrev Ch:=List (Str×List Int)
variable {ch:Ch}
def dN(H:Hp)(kv:ao×V)(e:Str×List Int):Prop:=kv.1=.inr e.1/\∃m,kv.2=.ref m/\H m=some (.tup (e.2.map V.int))
theorem dN.same(s:ac H H'){e:Str×List Int}(h:dN H kv e):dN H' kv e:=h.elim λa j=>j.elim λm z=>z.elim λb c=>⟨a,m,b,s _ _ c⟩
def dj(H:Hp)(c:Addr)(ch:Ch):Prop:=∃kvs,H c=some (.dK kvs)/\Paired (dN H) kvs ch
theorem dj.same(s:ac H H'){c:Addr}(h:dj H c ch):dj H' c ch:=h.elim λkvs j=>j.elim λa b=>⟨kvs,s _ _ a,aq b λ_ _=>dN.same s⟩
abbrev Ow:=List (Str×(Ls×Ls))
variable {ow:Ow}
def i6(H:Hp)(kv:ao×V)(e:Str×(Ls×Ls)):Prop:=kv.1=.inr e.1/\∃t j z,kv.2=.ref t/\H t=some (.tup [.ref j,.ref z])/\H j=some (.lst (e.2.1.map V.str))/\H z=some (.lst (e.2.2.map V.str))
theorem i6.same(s:ac H H')(h:i6 H kv e):i6 H' kv e:=h.elim λa j=>j.elim λt z=>z.elim λY G=>G.elim λl2 J=>J.elim λb O=>O.elim λc U=>U.elim λd f=>⟨a,t,Y,l2,b,s _ _ c,s _ _ d,s _ _ f⟩
def jI(H H':Hp)(kv:ao×V)(e:Str×(Ls×Ls)):Prop:=kv.1=.inr e.1/\∃t j z,kv.2=.ref t/\H t=none/\H j=none/\H z=none/\H' t=some (.tup [.ref j,.ref z])/\H' j=some (.lst (e.2.1.map V.str))/\H' z=some (.lst (e.2.2.map V.str))
theorem jI.same{H2:Hp}(s:∀b o,H1 b=some o->H b=none->H2 b=some o)(h:jI H H1 kv e):jI H H2 kv e:=h.elim λa j=>j.elim λt z=>z.elim λl1 G=>G.elim λl2 J=>J.elim λb O=>O.elim λn1 U=>U.elim λn2 Y=>Y.elim λn3 a0=>a0.elim λc a1=>a1.elim λd f=>⟨a,t,l1,l2,b,n1,n2,n3,s _ _ c n1,s _ _ d n2,s _ _ f n3⟩
theorem jI.put{ks nz:List (ao×V)}(hd:H1 d=some (.dK ks))(h:jI H H1 kv e):jI H (ag H1 d (.dK nz)) kv e:=
 h.elim λa O=>O.elim λt U=>U.elim λl1 Y=>Y.elim λl2 a0=>a0.elim λb a1=>a1.elim λn1 a2=>a2.elim λn2 j=>j.elim λn3 G=>G.elim λc J=>J.elim λd' f=>⟨a,t,l1,l2,b,n1,n2,n3,aC c (aU c hd (by intro z;cases z)),aC d' (aU d' hd (by intro z;cases z)),aC f (aU f hd (by intro z;cases z))⟩
def pX(H:Hp)(o:Addr)(ow:Ow):Prop:=∃kvs,H o=some (.dK kvs)/\Paired (i6 H) kvs ow
theorem pX.same(s:ac H H'){o:Addr}(h:pX H o ow):pX H' o ow:=h.elim λkvs j=>j.elim λa b=>⟨kvs,s _ _ a,aq b λ_ _=>i6.same s⟩
abbrev Cs:=List (Str×Str)
variable {cs:Cs}
def pY(kv:ao×V)(e:Str×Str):Prop:=kv.1=.inr e.1/\kv.2=.str e.2
def ue(H:Hp)(h:Addr)(cs:Cs):Prop:=∃kvs,H h=some (.dK kvs)/\Paired pY kvs cs
theorem ue.same(s:ac H H'){h:Addr}(x:ue H h cs):ue H' h cs:=x.elim λkvs j=>j.elim λa b=>⟨kvs,s _ _ a,b⟩
def gG(T:Addr)(H:Hp)(v:V)(ch:Ch)(cs:Cs)(ow:Ow):Prop:=∃a dx fl c h o,v=.ref a/\H a=some (.ins T dx fl)/\fl.lookup (asy:Str)=some (.ref c)/\fl.lookup (asD:Str)=some (.ref h)/\fl.lookup (asP:Str)=some (.ref o) /\
 dj H c ch/\ue H h cs/\pX H o ow
theorem gG.same{v:V}(s:ac H H')(x:gG T H v ch cs ow):gG T H' v ch cs ow:=by
 obtain⟨a,dx,fl,c,h,o,e,h1,h2,j,z,G,J,O⟩:=x;exact⟨a,dx,fl,c,h,o,e,s _ _ h1,h2,j,z,G.same s,J.same s,O.same s⟩
inductive Qc:Sp where
 | mk {H:Hp}{Q:VK}{E:XK}{o:Addr}{kvs:List (ao×V)}{ow:Ow} (_:H o=some (.dK kvs)) (_:Paired (i6 H) kvs ow) (_:(ow.map (·.1)).Nodup) (_:ow.length<=400) (_:∀d H' j,H d=none->ac H H'->H' d=some (.dK j)->Paired (jI H H') j ow->Q (.ref d) H'):Qc [.ref o] H Q E
theorem BL:aP [asP,"copied",asq,asW] [asP] (aA OT):=aV
theorem ahF(zZ:Pg K mg base Pt):aw P w K mg base aI 1 zZ.CCo.f zZ.CCo.fd [asP] Qc:=by
 refine zZ.CCo.u.okL BL ?_;intro av A outer s H vs Q E hr h xX dX;obtain @⟨_,_,_,o,kvs,ow,ho,pr,nd,vT,q⟩:=h;have hu:=hr.units;refine⟨_,(ai (aM (i:=1) BL.nd rfl (Or.inl rfl) lE)
  (ai (AW dQ rfl (pv 0) (nJ rfl (fR (be (i:=2) BL.nd rfl (Or.inl rfl)) (fR (be (i:=3) BL.nd rfl (Or.inl rfl)) mq)))
  (aj (iT hu (pv 1) (pv 2) (eT (aL (dH lB (by rfl) zZ.B.list iO (al (bO fz (pv 3) ar (λ_ _=>rfl)))) (dH lB (by rfl) zZ.B.list iO (al (bO fz (pv 3) ar (λ_ _=>rfl)))))) rfl)))
  (aj (aX (pv 1))))),?_⟩
 refine jn ?_;intro dD sS gr dU;have hk:∀(H':Hp) kv f,jI H H' kv f->kv.1=Sum.inr f.1:=λ_ kv f z=>z.1;refine λd H1 n1 s1 e1=>?_;have od:d≠o:=(aO ho n1).symm;refine⟨o,kvs,rfl,s1 _ _ ho,λob=>?_⟩;refine BK (λi Z G=>∃u v O,Z=[some (.ref o),some (.ref d),u,v]/\(∀b x,H b=some x->b≠o->G b=some x)/\(∀b,G b=none->H b=none)/\G o=some (.frz ob (.dK kvs))/\G d=some (.dK O)/\Paired (jI H G) O (ow.take i))
  ⟨none,none,[],rfl,λb x e J=>aC (s1 _ _ e) J,λb e=>s1.free (jl e).2,aD,aC e1 od,.nil⟩ ?_ ?_ ?_
 . intro i Z G fM;refine bq ?_;intro tT;obtain⟨u,v,O,rfl,_,_,h,_⟩:=fM;exact h
 . intro i k v p Z G hi gQ hp;refine bq ?_;intro tT;obtain⟨u,v',O,rfl,k5,Y,h5,eh,fN⟩:=gQ
   first | (refine vv (g:=mo _) ?_;intro eQ sQ) | (refine vv (g:=sW _ _ _) ?_;intro eQ sQ) | skip
   obtain⟨⟨x,b1,m1⟩,hf,a1,t,l1,l2,a2,a3,a4,a5⟩:=fc pr hi;have a1:k=.inr x:=a1;have a2:v=.ref t:=a2;subst a1 a2;have aT:=(cM.mp hf).1;have sp:ac G (ag G p (.tup [kV (.inr x),.ref t])):=fC hp;have K5:∀{b:Addr}{z:HO},H b=some z->(∀ks,z≠.dK ks)->(ag G p (.tup [kV (.inr x),.ref t])) b=some z:=λ{b z} e hz=>sp _ _ (k5 _ _ e (aU e ho (hz _)));have T5:=K5 a3 (by intro ks z;cases z);have L5:=K5 a4 (by intro ks z;cases z);have M5:=K5 a5 (by intro ks z;cases z);have z0:cI [V.ref l1,V.ref l2] 0=some (V.ref l1):=rfl;have z1:cI [V.ref l1,V.ref l2] 1=some (V.ref l2):=rfl;refine⟨bh.of aD,rfl,rfl,?_⟩;refine⟨bh.of T5,z0,l1,_,rfl,.inl (aa.of L5),λq1 H6 n6 s6 e6=>?_⟩;refine⟨bh.of (s6 _ _ T5),z1,l2,_,rfl,.inl (aa.of (s6 _ _ M5)),λq2 H7 n7 s7 e7=>?_⟩;refine⟨Ah,λq3 H8 n8 s8 e8=>?_⟩;have U:=sp.trans (s6.trans (s7.trans s8));have pl:=bD fN;rw[eW]at pl;refine⟨fX.k (k:=.inr x) (U _ _ eh) (bQ (by omega)),?_⟩;have Gg:x∉(ow.take i).map (·.1):=by
    rw[VA];intro hm;obtain⟨j,hj,ej⟩:=Jz.mp hm;rw[eW,ak]at hj;rw[List.getElem_take]at ej;have e1:(ow.map (·.1))[j]?=some x:=by rw[gX (by rw[ak];omega),ej]
    have e2:(ow.map (·.1))[i]?=some x:=by rw[c8,hf];rfl
    have:=(V1 (l:=ow.map (·.1)) (i:=j) (j:=i) (by rw[ak];omega) nd).mp (by rw[e1,e2]);omega
   have a0:∀b,H8 b=none->H b=none:=λb e=>Y b (U.free e);refine⟨_,_,_,rfl,λb z e J=>?_,λb e=>a0 b (jl e).2,aC (U _ _ h5) od.symm,aD,?_⟩
   . rw[bg (λy=>by rw[y,n1]at e;cases e)];exact U _ _ (k5 _ _ e J)
   rw[gY,hf];have:=iZ (F:=jI H H8) (hk H8) (x:=x) (ls:=(b1,m1)) (v:=.ref q3) ⟨rfl,q3,q1,q2,rfl,Y _ (sp.free (s6.free (s7.free n8))),Y _ (sp.free n6),Y _ (sp.free (s6.free n7)),e8,s8 _ _ (s7 _ _ e6),s8 _ _ e7⟩ (aq fN λ_ _=>jI.same λb z e _=>U _ _ e);rw[yr Gg]at this;exact aq this λ_ _=>jI.put (U _ _ eh)
 intro Z G gR;refine bq ?_;intro tT;obtain⟨u,v,O,rfl,k5,Y,h5,eh,fN⟩:=gR
 first | (refine vv (g:=mo _) ?_;intro eQ sQ) | (refine vv (g:=sW _ _ _) ?_;intro eQ sQ) | skip
 rw[bD pr,eI]at fN;refine⟨q d _ O n1 (λb z e=>?_) (aC eh od) (aq fN λ_ _=>jI.same λb z e J=>aC e (λy=>by rw[y,ho]at J;cases J))⟩
 by_cases J:b=o
 . subst J;rw[ho]at e;cases e;exact aD
 exact aC (k5 b z e J) J
inductive Gh (T:Addr):Sp where
 | mk {H:Hp}{Q:VK}{E:XK}{x dx c h o:Addr}{kvs z:List (ao×V)}{ow:Ow} (_:H x=some (.ins T dx [])) (_:H c=some (.dK kvs)) (_:H h=some (.dK z)) (_:pX H o ow) (_:(ow.map (·.1)).Nodup) (_:ow.length<=400) (_:∀(H':Hp) (fl:List (Str×V)) (c' h' o':Addr) (j:List (ao×V)),(∀b o,H b=some o->b≠x->H' b=some o)->H' x=some (.ins T dx fl)->fl.lookup (asy:Str)=some (.ref c')->fl.lookup (asD:Str)=some (.ref h')->fl.lookup (asP:Str)=some (.ref o') ->
  H c'=none->H h'=none->H o'=none->H' c'=some (.dK kvs)->H' h'=some (.dK z)->H' o'=some (.dK j)->Paired (jI H H') j ow->Q .non H'):Gh T [.ref x,.ref c,.ref h,.ref o] H Q E
theorem ahH:aP [aso,asy,asD,asP] [aso,asy,asD,asP] (aA Op):=aV
theorem fb.over{Hk j:Hp}{fl:List (Str×V)}(S:fb C dx x H Hk fl)(s:ac Hk j):fb C dx x H j fl:=⟨λb o e z=>s _ _ (S.same b o e z),λb e=>S.free b (s.free e),s _ _ S.ob⟩
theorem BM(j:Pg K mg base Pt):aw P w K mg base aI 2 j.TIn.f j.TIn.fd [aso,asy,asD,asP] (Gh j.T):=by
 refine j.TIn.u.okL ahH ?_;intro av A outer s H vs Q E hr h xX dX;obtain @⟨_,_,_,x,dx,c,h,o,kvs,yz,ow,J,hc,hh,ho,nd,vT,q⟩:=h;refine⟨_,(ai (hX (pv 0) (dH xK (by rfl) j.B.dict Dv (al (pv 1))) rfl)
  (ai (hX (pv 0) (dH xK (by rfl) j.B.dict Dv (al (pv 2))) rfl)
  (aj (hX (pv 0) (ay (ahF j) hr rfl (al (pv 3))) rfl)))),?_⟩
 refine jn ?_;intro dD sS gr dU;have S0:fb j.T dx x H H []:=⟨λ_ _ e _=>e,λ_ e=>e,J⟩;have ch:∀{b:Addr}{ks:List (ao×V)},H b=some (.dK ks)->b≠x:=λe=>aU e J (by intro z;cases z);refine⟨c,_,rfl,hc,λc1 H1 n1 s1 e1=>?_⟩;have S1:=S0.over s1;refine⟨S1.ob,j.UT.cl,j.UT.nC,(by decide),?_⟩;have S2:fb j.T dx x H _ (aB asy (.ref c1) []):=S1.put;have Gi:c1≠x:=(aO J n1).symm;have c2:(ag H1 x (.ins j.T dx (aB asy (.ref c1) []))) c1=some (.dK kvs):=aC e1 Gi;refine⟨h,_,rfl,S2.same _ _ hh (ch hh),λh1 H3 n3 s3 e3=>?_⟩;have S3:=S2.over s3;have Qe:=S2.free _ n3;refine⟨S3.ob,j.UT.cl,j.UT.nH,few (lp pU) (by decide),?_⟩;have G:fb j.T dx x H _ (aB asD (.ref h1) (aB asy (.ref c1) [])):=S3.put;have Qf:h1≠x:=(aO J Qe).symm;obtain⟨ko,yA,yB⟩:=ho;have vU:Paired (i6 (ag H3 x (.ins j.T dx (aB asD (.ref h1) (aB asy (.ref c1) []))))) ko ow:=aq yB λkv e z=>by
  obtain⟨z1,t,l1,l2,z2,O,U,Y⟩:=z;exact⟨z1,t,l1,l2,z2,G.same _ _ O (aU O J (by intro z;cases z)),G.same _ _ U (aU U J (by intro z;cases z)),G.same _ _ Y (aU Y J (by intro z;cases z))⟩
 refine⟨G.same _ _ yA (ch yA),vU,nd,vT,λo1 H5 Gj n5 s5 e5 fN=>?_⟩;have S5:=G.over s5;have Qg:=G.free _ n5;refine⟨S5.ob,j.UT.cl,j.UT.nO,few (lp (lp pU)) (by decide),?_⟩;have a0:o1≠x:=(aO J Qg).symm;have S6:fb j.T dx x H _ (aB asP (.ref o1) (aB asD (.ref h1) (aB asy (.ref c1) []))):=S5.put;refine q _ _ c1 h1 o1 Gj S6.same S6.ob ?_ ?_ ?_ n1 Qe Qg (aC (s5 _ _ (aC (s3 _ _ c2) Gi)) Gi) (aC (s5 _ _ (aC e3 Qf)) Qf) (aC e5 a0) (aq fN λkv e z=>?_)
 . rw[cK,ah (by decide +kernel),cK,ah (by decide +kernel),cK,am rfl]
 . rw[cK,ah (by decide +kernel),cK,am rfl]
 . rw[cK,am rfl]
 obtain⟨z1,t,l1,l2,z2,m1,m2,m3,O,U,Y⟩:=z;have fx:∀{b:Addr}{z:HO},H5 b=some z->(∀fs,z≠.ins j.T dx fs)->b≠x:=λe hz=>aU e S5.ob (hz _);exact⟨z1,t,l1,l2,z2,G.free _ m1,G.free _ m2,G.free _ m3,aC O (fx O (by intro fs z;cases z)),aC U (fx U (by intro fs z;cases z)),aC Y (fx Y (by intro fs z;cases z))⟩
theorem BN{Q:Addr->Hp->Prop}{E:XK}(hc:dj H c ch)(hh:ue H h cs)(ho:pX H o ow)(nd:(ow.map (·.1)).Nodup)(vT:ow.length<=400)(q:∀x H',H x=none->ac H H'->(∀L,gD H L->gG T (msk L H') (.ref x) ch cs ow)->Q x H') :
 ∀x dx,H x=none->H dx=none->dx≠x->Gh T (.ref x::([.ref c,.ref h,.ref o]++[])) (ag (ag H dx (.own x)) x (.ins T dx [])) (λv H2=>v=.non/\Q x H2) E:=by
 intro x dx J a0 nx;have j:ac H (ag (ag H dx (.own x)) x (.ins T dx [])):=fj (fC a0) J;obtain⟨kvs,e1,e2⟩:=hc;obtain⟨yz,e3,e4⟩:=hh;refine⟨aD,j _ _ e1,j _ _ e3,ho.same j,nd,vT,λH' fl c' h' o' ko keep qD O U l3 n1 n2 n3 g1 g2 g3 g4=>?_⟩;have Y:ac H H':=λb o e=>keep b o (j _ _ e) (aO e J);refine⟨rfl,q x H' J Y λL G=>⟨x,dx,fl,c',h',o',rfl,cj (G.free J) qD,O,U,l3,⟨kvs,cj (G.free (j.free n1)) g1,aq e2 λkv e z=>?_⟩,⟨yz,cj (G.free (j.free n2)) g2,e4⟩,⟨ko,cj (G.free (j.free n3)) g3,aq g4 λkv e z=>?_⟩⟩⟩
 . obtain⟨a,m,b,c⟩:=z;exact⟨a,m,b,cj (G.tup c) (Y _ _ c)⟩
 obtain⟨z1,t,O,U,z2,m1,m2,m3,z3,z4,z5⟩:=z;exact⟨z1,t,O,U,z2,cj (G.free (j.free m1)) z3,cj (G.free (j.free m2)) z4,cj (G.free (j.free m3)) z5⟩
end
end K73
namespace L2
theorem Qh{X:Cx}(K:Fg){T id:String}{name:Str}{r:V->ae->Hp->VK->Prop}{o e:Expr}{es:List Expr}{to:TE}{t:TA}{apos cO:Pos}(pa:PlainAttrs T)(slot:Slot T name id)(xz:typeOf (.builtin id)=pure (.type "method_descriptor"))(J:Ee X id r)(O:PE X o to)(G:PA X (e::es) t)(h:X.K=K:=by rfl)
 (U:attributeBase o name X.env (eval o X.env)=eval o X.env:=by rfl)
 (j:((backTo cO (starEach (e::es) X.env)).all (λx=>!x.1) && (backToKw cO (keywordEach [] X.env)).all (λx=>x.1.isSome)
  && decide ((e::es).length+([]:List Keyword).length+(if ([]:List Keyword).isEmpty then 0 else 1)<30))=true:=by rfl)
 (Y:(apos.endLine == cO.line)=true:=by rfl) (hs:starEach (e::es) X.env=(false,eval e X.env)::starEach es X.env:=by rfl) (z:(backTo cO (starEach es X.env)).any (·.1)=false:=by rfl) :
 PE X (.Call (.Attribute o name apos) (e::es) [] cO) (La K T r to t):=by
 subst h;exact db pa slot xz J O G U j Y hs z
theorem Qi{X:Cx}(K:Fg)(h:X.K=K:=by rfl):nV X "str.join" (Me K):=h▸vo
end L2
namespace K73
section
variable {c:Str}
structure BO(ch:Ch)(cs:Cs)(ow:Ow):Prop where
 nch:ch.length<64
 ncs:cs.length<64
 now:ow.length<64
 dch:(ch.map (·.1)).Nodup
 dcs:(cs.map (·.1)).Nodup
 dow:(ow.map (·.1)).Nodup
 ch:∀e∈ch,e.1.length<=60/\yx e.2
 cs:∀e∈cs,e.1.length<=60/\e.2.length<=60
 ow:∀e∈ow,e.1.length<=60/\e.2.1.length<=60/\e.2.2.length<=60/\(∀x∈e.2.1,x.length<=60)/\∀x∈e.2.2,x.length<=60
theorem ug(sep:Str)(ps:Ls):Txt.join sep ps=Str.join sep ps:=zQ _ _
theorem Qj(p:Str):(Str.ofString "own ")++p=Str.join spS [dR,p]:=by
 show _=dR++spS++p;rw[show(Str.ofString "own ")=dR++spS by decide +kernel]
theorem Gk{sep:Str}{ps:Ls}{b:Nat}(h:∀p∈ps,p.length<=b)(hs:sep.length<=1):(Str.join sep ps).length<=ps.length * (b+1):=by
 rw[<-ug];refine cn AO ?_;have:=xJ h;have h2:ps.length * sep.length<=ps.length * 1:=Nat.mul_le_mul_left _ hs;rw[Nat.mul_add];omega
inductive Qk:Sp where
 | mk {H:Hp}{Q:VK}{E:XK}{p:Str}{t j z:Addr}{b m:Ls} (_:H t=some (.tup [.ref j,.ref z])) (_:H j=some (.lst (b.map V.str))) (_:H z=some (.lst (m.map V.str))) (_:p.length<=60) (_:b.length<=60) (_:m.length<=60) (_:(∀x∈b,x.length<=60)) (_:(∀x∈m,x.length<=60)) (_:∀l H',H l=none->ac H H'->H' l=some (.lst ((d8 (p,(b,m))).map V.str))->Q (.ref l) H'):Qk [.str p,.ref t] H Q E
theorem Ql:aP [asq,asW,"rows"] [asq,asW] (aA OY):=aV
theorem ahJ(zZ:Pg K mg base Pt):aw P w K mg base aI 1 zZ.ChR.f zZ.ChR.fd [asq,asW] Qk:=by
 refine zZ.ChR.u.okL Ql ?_;intro av A outer s H vs Q E hr h xX dX;obtain @⟨_,_,_,p,t,l1,l2,b,m,ht,h1,h2,hp,hb,hm,a0,a1,q⟩:=h;refine⟨_,(ai (aM (i:=2) Ql.nd rfl (Or.inl rfl) (df (al (xO bT (xN (pv 0))))))
  (ai (bB (db gZ qy qz nW (pv 2) (al (fY ["line"] [] [] dM rfl (cG (bO fz (pv 1) ar (λ_ _=>rfl))) (λ_ _ _ _=>(be (i:=0) (show List.Nodup (["line"]:Ls) by decide +kernel) rfl (Or.inl rfl))) (λ_ _ _ _=>gj) (λ_ _ _ _=>(xO bT (xN (pv 0))))))))
  (ai (bB (db gZ qy qz nW (pv 2) (al (fY ["line"] [] [] dM rfl (cG (bO fz (pv 1) ar (λ_ _=>rfl))) (λ_ _ _ _=>(be (i:=0) (show List.Nodup (["line"]:Ls) by decide +kernel) rfl (Or.inl rfl))) (λ_ _ _ _=>gj) (λ_ _ _ _=>(xO bT (xN (pv 0))))))))
  (aj (aX (pv 2)))))),?_⟩
 refine lG ?_;intro dD sS oH gr dU;have z0:cI [V.ref l1,V.ref l2] 0=some (V.ref l1):=rfl;have z1:cI [V.ref l1,V.ref l2] 1=some (V.ref l2):=rfl;have e4:(Str.ofString "own ").length=4:=by decide +kernel
 refine⟨eg (by rw[e4];omega),eg (by omega),_,rfl,eg (by rw[e4];omega),AU,λr H1 n1 O e1=>?_⟩;refine⟨.inl ⟨rfl,_,aa.of e1⟩,bh.of (O _ _ ht),z0,⟨_,aa.of (O _ _ h1)⟩,?_⟩;refine vG (σ0:=[none]) (aa.of (O _ _ h1)) (λZ=>∃v,Z=[v]) ((b.map (fD ++ ·)).map V.str) (by rw[ak,ak,ak]) (eg (by rw[ak];omega)) ⟨_,rfl⟩ ?_ ?_
 . intro i z y Z H2 k hz G U hs Y;obtain⟨v,rfl⟩:=U;obtain⟨x,j,rfl⟩:=i5 hz;rw[md]at G;obtain⟨x',J,rfl⟩:=i5 G;rw[j]at J;cases J;have:=a0 x (da j);exact⟨eg (by show fD.length<=_;rw[oG];decide),eg (by omega),_,rfl,eg (by show fD.length+_<=_;rw[oG,pK];omega),Y _ _ ⟨_,rfl⟩ (ac.refl _)⟩
 intro D1 H2 n2 e2 s2;refine⟨s2 _ _ e1,e2,eg (by simp only[ak,cq,kQ];omega),?_⟩;have bZ:=O.trans s2;have nr:∀{c:Addr}{o:HO},H c=some o->c≠r:=λe=>aO e n1;have k3:∀{c:Addr}{o:HO}{o':HO},H c=some o->ag H2 r o' c=some o:=λe=>aC (bZ _ _ e) (nr e);refine⟨.inl ⟨rfl,_,aa.of aD⟩,bh.of (k3 ht),z1,⟨_,aa.of (k3 h2)⟩,?_⟩;refine vG (σ0:=[none]) (aa.of (k3 h2)) (λZ=>∃v,Z=[v]) ((m.map (fE ++ ·)).map V.str) (by rw[ak,ak,ak]) (eg (by rw[ak];omega)) ⟨_,rfl⟩ ?_ ?_
 . intro i z y Z H3 k hz G U hs Y;obtain⟨v,rfl⟩:=U;obtain⟨x,j,rfl⟩:=i5 hz;rw[md]at G;obtain⟨x',J,rfl⟩:=i5 G;rw[j]at J;cases J;have:=a1 x (da j);exact⟨eg (by show fE.length<=_;rw[pV];decide),eg (by omega),_,rfl,eg (by show fE.length+_<=_;rw[pV,pK];omega),Y _ _ ⟨_,rfl⟩ (ac.refl _)⟩
 intro D2 H3 n3 e3 s3;refine⟨s3 _ _ aD,e3,eg (by simp only[ak,cq,kQ,bI];omega),?_⟩;refine⟨q r _ n1 (λc o e=>aC (s3 _ _ (k3 e)) (nr e)) ?_⟩;rw[aD];unfold d8;rw[dq,dq,<-Qj];rfl
inductive BP (T:Addr):Sp where
 | mk {H:Hp}{Q:VK}{E:XK}{v:V}{ch:Ch}{cs:Cs}{ow:Ow} (_:gG T H v ch cs ow) (_:BO ch cs ow) (_:∀ch' cs' ow' H',cV ch ch'->cV cs cs'->cV ow ow'->ac H H'->Q (.str (Str.join lJ (f8 ch' cs' ow'))) H'):BP T [v] H Q E
theorem Gm:aP [asO,"rows",asq] [asO] (aA OX):=aV
theorem Qm{a b:Str}(j:a.length<=10)(z:b.length<=60)(G:c.length<=60):(([a,b,c].map (·.length)).sum + [a,b,c].length * spS.length)<=16777216:=by
 rw[show spS.length=1 by decide +kernel];simp only[bV,zL,List.sum_cons,List.sum_nil,cq,kQ];omega
theorem Qn{ms:List Int}(h:yx ms):(jG ms).length<=60:=by
 unfold jG;rw[<-ug];refine cn AO ?_;have:=Qb h;have:=h.1;rw[show lL.length=1 by decide +kernel,ak];omega
theorem Qo{a b:Str}(j:a.length<=10)(z:b.length<=60)(G:c.length<=60):(Str.join spS [a,b,c]).length<=133:=by
 show(a++spS++(b++spS++c)).length<=133;simp only[jk,show spS.length=1 by decide +kernel];omega
theorem Qp{ch:Ch}{cs:Cs}{ow:Ow}(j:BO ch cs ow){ch':Ch}{cs':Cs}{ow':Ow}(Y:ch'.Perm ch)(U:cs'.Perm cs)(J:ow'.Perm ow):(f8 ch' cs' ow').length<=64+64+64 * 121/\∀y∈f8 ch' cs' ow',y.length<=140:=by
 refine⟨?_,λy hy=>?_⟩
 . have:∀(l:Ow),(∀e∈l,e∈ow)->(l.flatMap d8).length<=l.length * 121:=by
    intro l
    induction l with
    | nil=>intro _;exact dF _
    | cons e l ih=>
     intro O;have h1:=ih λx G=>O x (bR _ G);obtain⟨_,h2,h3,_⟩:=j.ow e (O e bH);rw[Du,bI,cq];have:(d8 e).length<=121:=by
      unfold d8;simp only[bI,ak,cq,kQ];omega
     omega
   have h3:=this ow' λe z=>J.mem_iff.mp z;have a1:=Y.length_eq;have a2:=U.length_eq;have a3:=J.length_eq;have b1:=j.nch;have b2:=j.ncs;have b3:=j.now;have h4:ow'.length * 121<=64 * 121:=JH _ (by omega);unfold f8;rw[bI,bI,ak,ak];omega
 unfold f8 at hy
 rcases bY.mp hy with hy | hy
 . rcases bY.mp hy with hy | hy
   . obtain⟨e,z,rfl⟩:=ca.mp hy;obtain⟨k1,k2⟩:=j.ch e (Y.mem_iff.mp z);have:=Qo (a:=gm) (by decide +kernel) k1 (Qn k2);unfold iF;omega
   obtain⟨e,z,rfl⟩:=ca.mp hy;obtain⟨k1,k2⟩:=j.cs e (U.mem_iff.mp z);have:=Qo (a:=f7) (by decide +kernel) k1 k2;unfold ii;omega
 obtain⟨e,z,hy⟩:=uT.mp hy;obtain⟨j1,j2,j3,j4,j5⟩:=j.ow e (J.mem_iff.mp z);unfold d8 at hy
 rcases bY.mp hy with hy | hy
 . rcases bY.mp hy with hy | hy
   . rw[bF.mp hy,<-Qj,jk,show(Str.ofString "own ").length=4 by decide +kernel];omega
   obtain⟨x,G,rfl⟩:=ca.mp hy;have:=j4 x G;show(fD++x).length<=140;rw[jk,oG,pK];omega
 obtain⟨x,G,rfl⟩:=ca.mp hy;have:=j5 x G;show(fE++x).length<=140;rw[jk,pV,pK];omega
theorem ahM{ch:Ch}{cs:Cs}{ow:Ow}(j:BO ch cs ow){ch':Ch}{cs':Cs}{ow':Ow}(J:ch'.Perm ch)(G:cs'.Perm cs)(z:ow'.Perm ow):((f8 ch' cs' ow').map (·.length)).sum+(f8 ch' cs' ow').length * lJ.length<=16777216:=by
 obtain⟨h1,h2⟩:=Qp j J G z;have:=xJ h2;rw[show lJ.length=1 by decide +kernel];omega
theorem BQ(j:Pg K mg base Pt):aw P w K mg base aI 2 j.Sho.f j.Sho.fd [asO] (BP j.T):=by
 refine j.Sho.u.okL Gm ?_;intro av A outer s H vs Q E hr h xX dX;obtain @⟨_,_,_,v,ch,cs,ow,hS,G,q⟩:=h;have hu:=hr.units;obtain⟨a,dx,fl,c,h,o,rfl,ha,f1,f2,f3,⟨kc,Qq,Gn⟩,⟨kh,Qs,Go⟩,⟨ko,yA,yB⟩⟩:=hS;refine⟨_,(ai (qN (i:=1) [asu] [asO] [0] Gm.nd rfl rfl dM rfl (cG (cg (AT rfl) (by rfl) j.B.sorted sG (al (bG (pv 0) rfl)))) (λ_ _ _ _=>(be (i:=0) (show List.Nodup ([asu,asO]:Ls) by decide +kernel) rfl (Or.inl rfl))) (λ_ _ _ _=>gj) (λ_ _ _ _=>(Qh K me wV wW (Qi K) bT (al (df (dg bT (pv 0) (ay (ahb j) hr (by rfl) (al (lm hu (iU K (pv 1) rfl) (pv 0) (λ_ _=>rfl))))))))))
  (ai (bB (db gZ qy qz nW (pv 1) (al (fY [asN] [asO] [0] dM rfl (cG (cg (AT rfl) (by rfl) j.B.sorted sG (al (bG (pv 0) rfl)))) (λ_ _ _ _=>(be (i:=0) (show List.Nodup ([asN,asO]:Ls) by decide +kernel) rfl (Or.inl rfl))) (λ_ _ _ _=>gj) (λ_ _ _ _=>(Qh K me wV wW (Qi K) bT (al (df (dg bT (pv 0) (lm hu (iU K (pv 1) rfl) (pv 0) (λ_ _=>rfl)))))))))))
  (ai (eO dQ rfl (cG (cg (AT rfl) (by rfl) j.B.sorted sG (al (bG (pv 0) rfl)))) (be (i:=2) Gm.nd rfl (Or.inl rfl))
   (aj (bB (db gZ qy qz nW (pv 1) (al (ay (ahJ j) hr (by rfl) (aL (pv 2) (lm hu (bG (pv 0) rfl) (pv 2) (λ_ _=>rfl)))))))))
  (aj (aX (db me wV wW vo bT (al (pv 1)))))))),?_⟩
 refine lG ?_;intro dD sS oH gr dU;have Qt:∀kv f,dN H kv f->kv.1=Sum.inr f.1:=λkv f z=>z.1;have Qu:∀kv f,pY kv f->kv.1=Sum.inr f.1:=λkv f z=>z.1;have Bb:∀kv f,i6 H kv f->kv.1=Sum.inr f.1:=λkv f z=>z.1;have lc:=bD Gn;have lh:=bD Go;have lo:=bD yB;have b1:=G.nch;have b2:=G.ncs;have b3:=G.now;refine⟨ha,j.UT.cl,j.UT.nC,f1,c,kc,_,rfl,Qq,oC Qt Gn,by omega,λys hp hs l1 H1 n1 s1 e1=>⟨⟨_,aa.of e1⟩,?_⟩⟩;obtain⟨ch',pZ,a5⟩:=F4 hp rfl;subst a5;have y1:ch'.length=ch.length:=pZ.length_eq;refine vG (σ0:=[none,some (.ref a)]) (aa.of e1) (λZ=>∃v,Z=[v,some (.ref a)]) ((ch'.map iF).map V.str) (by rw[ak,ak,ak,ak]) (eg (by rw[ak,ak];omega)) ⟨_,rfl⟩ ?_ ?_
 . intro i z y Z H2 k hz hy Y sX hk;obtain⟨v,rfl⟩:=Y;rw[md]at hz hy;obtain⟨e,U,rfl⟩:=i5 hz;obtain⟨e',j9,rfl⟩:=i5 hy;rw[U]at j9;cases j9;have O:e∈ch:=pZ.mem_iff.mp (da U);obtain⟨u,ms,g1,g2,_,m,J,g3⟩:=rc Qt Gn (fq (f:=(·.1)) O);have J:u=.ref m:=J;subst J;have em:ms=e.2:=oE G.dch g2 (by exact O);subst em;have bZ:=s1.trans sX;obtain⟨k1,k2⟩:=G.ch e O;refine⟨rfl,bZ _ _ ha,j.UT.cl,j.UT.nC,f1,(by rw[<-g1];exact ci.k (k:=.inr e.1) (bZ _ _ Qq)),?_⟩;refine⟨bZ _ _ g3,k2,λH3 s3=>?_⟩;refine⟨Al,λr H4 n4 s4 e4=>?_⟩;refine⟨[gm,e.1,jG e.2],aa.of e4,Qm (by decide +kernel) k1 (Qn k2),?_⟩;have d5:=hk [some (.str e.1),some (.ref a)] H4 ⟨_,rfl⟩ (s3.trans s4);rw[ug];exact d5
 intro D1 H2 n2 e2 s2;have bZ:=s1.trans s2;have Qv:H D1=none:=s1.free n2;refine⟨.inl ⟨rfl,_,aa.of e2⟩,bZ _ _ ha,j.UT.cl,j.UT.nH,f2,h,kh,_,rfl,bZ _ _ Qs,oC Qu Go,by omega,λa9 Em a0 l2 H3 n3 s3 e3=>⟨⟨_,aa.of e3⟩,?_⟩⟩;obtain⟨cs',p9,a6⟩:=F4 Em rfl;subst a6;have y2:cs'.length=cs.length:=p9.length_eq;have gT:=bZ.trans s3;refine vG (σ0:=[none,some (.ref a)]) (aa.of e3) (λZ=>∃v,Z=[v,some (.ref a)]) ((cs'.map ii).map V.str) (by rw[ak,ak,ak,ak]) (eg (by rw[ak,ak];omega)) ⟨_,rfl⟩ ?_ ?_
 . intro i z y Z H4 k hz hy Y a3 hk;obtain⟨v,rfl⟩:=Y;rw[md]at hz hy;obtain⟨e,U,rfl⟩:=i5 hz;obtain⟨e',j9,rfl⟩:=i5 hy;rw[U]at j9;cases j9;have O:e∈cs:=p9.mem_iff.mp (da U);obtain⟨u,nm,g1,g2,_,J⟩:=rc Qu Go (fq (f:=(·.1)) O);have J:u=.str nm:=J;subst J;have em:nm=e.2:=oE G.dcs g2 (by exact O);subst em;have rq:=gT.trans a3;obtain⟨k1,k2⟩:=G.cs e O;refine⟨rfl,rq _ _ ha,j.UT.cl,j.UT.nH,f2,(by rw[<-g1];exact ci.k (k:=.inr e.1) (rq _ _ Qs)),?_⟩;refine⟨Al,λr H5 n5 s5 e5=>?_⟩;refine⟨[f7,e.1,e.2],aa.of e5,Qm (by decide +kernel) k1 k2,?_⟩;have d5:=hk [some (.str e.1),some (.ref a)] H5 ⟨_,rfl⟩ s5;rw[ug];exact d5
 intro D2 H4 n4 e4 s4;have rq:=gT.trans s4;refine⟨s4 _ _ (s3 _ _ e2),e4,eg (by simp only[ak];omega),?_⟩;have k5:∀{b:Addr}{z o':HO},H b=some z->ag H4 D1 o' b=some z:=λe=>aC (rq _ _ e) (aO e Qv);refine⟨k5 ha,j.UT.cl,j.UT.nO,f3,o,ko,_,rfl,k5 yA,oC Bb yB,by omega,λab a2 a1 l3 H6 n6 s6 e6=>⟨⟨_,aa.of e6⟩,?_⟩⟩;obtain⟨ow',mW,a7⟩:=F4 a2 rfl;subst a7;have y3:ow'.length=ow.length:=mW.length_eq;have f6:H6 D1=some (.lst ((ch'.map iF++cs'.map ii).map V.str)):=by
  rw[dq];exact s6 _ _ aD
 have k6:∀{b:Addr}{z:HO},H b=some z->H6 b=some z:=λe=>s6 _ _ (k5 e);have a4:l3≠D1:=λz=>by
  subst z;rw[aD]at n6;cases n6
 have rl:∀i,((ow'.take i).flatMap d8).length<=64 * 121:=λi=>by
  have:∀(l:Ow),(∀e∈l,e∈ow)->(l.flatMap d8).length<=l.length * 121:=by
   intro l
   induction l with
   | nil=>intro _;exact dF _
   | cons e l ih=>
    intro hm;have h1:=ih λx hx=>hm x (bR _ hx);obtain⟨_,h2,h3,_⟩:=G.ow e (hm e bH);rw[Du,bI,cq];have:(d8 e).length<=121:=by
     unfold d8;simp only[bI,ak,cq,kQ];omega
    omega
  refine cn (this _ λe U=>mW.mem_iff.mp (Jq U)) ?_;rw[eW];have:min i ow'.length<=64:=by omega
  exact JH _ this
 refine hJ (xs:=(ow'.map (·.1)).map V.str) (λi Z H7=>∃u,Z=[some (.ref a),some (.ref D1),u]/\(∀b z,H b=some z->H7 b=some z)/\H7 l3=some (.lst ((ow'.map (·.1)).map V.str))/\H7 D1=some (.lst ((ch'.map iF++cs'.map ii++(ow'.take i).flatMap d8).map V.str))) ⟨none,rfl,λb z e=>k6 e,e6,by rw[V2,List.flatMap_nil,kM];exact f6⟩ ?_ ?_ ?_
 . intro i Z H7 hi Y;obtain⟨u,rfl,_,h7,_⟩:=Y;exact aa.of h7
 . intro i z Z H7 hz Y;obtain⟨u,rfl,k7,l7,d7⟩:=Y;rw[md]at hz;obtain⟨e,U,rfl⟩:=i5 hz;have O:e∈ow:=mW.mem_iff.mp (da U);obtain⟨u2,bm,g1,g2,_,t,q1,q2,J,g5,g6,g7⟩:=rc Bb yB (fq (f:=(·.1)) O);have J:u2=.ref t:=J;subst J;have em:bm=e.2:=oE G.dow g2 (by exact O);subst em;obtain⟨j1,j2,j3,j4,j5⟩:=G.ow e O;refine⟨.inl ⟨rfl,_,aa.of d7⟩,k7 _ _ ha,j.UT.cl,j.UT.nO,f3,(by rw[<-g1];exact ci.k (k:=.inr e.1) (k7 _ _ yA)),?_⟩;refine⟨k7 _ _ g5,k7 _ _ g6,k7 _ _ g7,j1,j2,j3,j4,j5,λr H8 n8 s8 e8=>?_⟩;have a8:=rl i;refine⟨s8 _ _ d7,e8,eg ?_,?_⟩
   . have:(d8 e).length<=121:=by
      unfold d8;simp only[bI,ak,cq,kQ];omega
     rw[ak,ak,bI,bI,ak,ak];show _+(d8 (e.1,(e.2.1,e.2.2))).length<=_;have e0:(d8 (e.1,(e.2.1,e.2.2)))=d8 e:=rfl;rw[e0];omega
   refine⟨_,rfl,λb z hb=>aC (s8 _ _ (k7 _ _ hb)) (aO hb Qv),aC (s8 _ _ l7) a4,?_⟩;rw[aD,gY,U,<-dq];show some (HO.lst (List.map V.str (ch'.map iF++cs'.map ii++(ow'.take i).flatMap d8++d8 e)))=some (HO.lst (List.map V.str (ch'.map iF++cs'.map ii++(ow'.take i++[e]).flatMap d8)));rw[Dw,kS (List.map iF ch'++List.map ii cs'),List.flatMap_singleton]
 intro Z H7 Y;obtain⟨u,rfl,k7,l7,d7⟩:=Y;rw[ak,ak,eI]at d7;refine⟨rfl,f8 ch' cs' ow',aa.of d7,?_,?_⟩
 . exact ahM G pZ p9 mW
 rw[ug];exact q ch' cs' ow' H7 ⟨pZ,hs⟩ ⟨p9,a0⟩ ⟨mW,a1⟩ (λb z e=>k7 b z e)
theorem ahV{p:Str}(h:(vO p).isSome=true):vN p=true/\0<p.length/\p.length<=10/\(NumText.digitsVal p.cps.toList:Int)<=1000000000:=by
 unfold vO at h;split at h
 . rename_i h1;obtain⟨h2,j⟩:=wQ.mp h1;have h2:=cT h2;split at h
   . cases h
   split at h
   . cases h
   exact⟨j,h2.1,h2.2,by omega⟩
 cases h
theorem ahW{t:Str}(h:tZ t=true):(Txt.split t lL).length<=3/\∀p∈Txt.split t lL,(vO p).isSome=true:=by
 unfold tZ at h;obtain⟨h1,h2⟩:=wQ.mp h;exact⟨cT h1,ip.mp h2⟩
theorem ahX{j:Str}(h:jF j=true)(h1:Txt.startswith j fD=false)(h2:Txt.startswith j fE=false) :
 (∃p,Txt.split j spS=[dR,p])\/(∃n x,Txt.split j spS=[gm,n,x]/\tZ x=true)\/∃n x,Txt.split j spS=[f7,n,x]:=by
 unfold jF at h;rw[h1,h2,r9,ah (by decide)]at h;generalize Txt.split j spS=G at h
 match G,h with
 | [w,p],h=>
  have h:=cT (wQ.mp h).1;rw[h];exact .inl ⟨p,rfl⟩
 | [w,n,x],h=>
  obtain⟨_,h⟩:=wQ.mp h
  by_cases z:w=gm
  . rw[am z]at h;rw[z];exact .inr (.inl ⟨n,x,rfl,h⟩)
  rw[ah z]at h;have h:=cT (wQ.mp h).1;rw[h];exact .inr (.inr ⟨n,x,rfl⟩)
def oI(H7:Hp)(ck:Option Str)(ct cE cF:Addr)(b m:Ls)(kv:ao×V)(e:Str×(Ls×Ls)):Prop:=
 kv.1=.inr e.1/\((ck=some e.1/\kv.2=.ref ct/\e.2=(b,m))\/(ck≠some e.1/\∃t j z,kv.2=.ref t/\H7 t=some (.tup [.ref j,.ref z])/\H7 j=some (.lst (e.2.1.map V.str))/\H7 z=some (.lst (e.2.2.map V.str))/\j≠cE/\j≠cF/\z≠cE/\z≠cF))
structure gb(H H7:Hp)(dc dh dO ct cE cF:Addr)(s:Nt):Prop where
 old:∀b z,H b=some z->H7 b=some z
 nc:H dc=none
 nh:H dh=none
 no:H dO=none
 n1:H cE=none
 n2:H cF=none
 d1:dc≠dh
 d2:dc≠dO
 d3:dh≠dO
 d4:cE≠cF
 ch:∃kc,H7 dc=some (.dK kc)/\Paired (dN H7) kc s.ch
 cs:∃kh,H7 dh=some (.dK kh)/\Paired pY kh s.cs
 hct:H7 ct=some (.tup [.ref cE,.ref cF])
 c1:H7 cE=some (.lst (s.b.map V.str))
 c2:H7 cF=some (.lst (s.m.map V.str))
 ow:∃ko,H7 dO=some (.dK ko)/\Paired (oI H7 s.ck ct cE cF s.b s.m) ko s.ow
 ck:∀p,s.ck=some p->p∈s.ow.map (·.1)
section
variable {H H7 H8:Hp}{dc dh dO ct cE cF:Addr}{s:Nt}
theorem oI.keep{ck:Option Str}{b m:Ls}{kv:ao×V}{e:Str×(Ls×Ls)}(k:∀c z,H7 c=some z->(∀ks,z≠.dK ks)->c≠cE->c≠cF->H8 c=some z)(h1:∃xs,H7 cE=some (.lst xs))(h2:∃xs,H7 cF=some (.lst xs))(h:oI H7 ck ct cE cF b m kv e):oI H8 ck ct cE cF b m kv e:=by
 obtain⟨a,h⟩:=h;refine⟨a,?_⟩
 rcases h with h | ⟨nk,t,U,Y,e1,e2,e3,e4,j,G,J,O⟩
 . exact .inl h
 obtain⟨x1,h1⟩:=h1;obtain⟨x2,h2⟩:=h2;exact .inr ⟨nk,t,U,Y,e1,k _ _ e2 (by intro ks z;cases z) (aU e2 h1 (by intro z;cases z)) (aU e2 h2 (by intro z;cases z)),k _ _ e3 (by intro ks z;cases z) j G,k _ _ e4 (by intro ks z;cases z) J O,j,G,J,O⟩
theorem gb.same(N:gb H H7 dc dh dO ct cE cF s)(j:ac H7 H8):gb H H8 dc dh dO ct cE cF s where
 old:=λb z e=>j _ _ (N.old b z e)
 nc:=N.nc
 nh:=N.nh
 no:=N.no
 n1:=N.n1
 n2:=N.n2
 d1:=N.d1
 d2:=N.d2
 d3:=N.d3
 d4:=N.d4
 ch:=N.ch.elim λU J=>J.elim λa b=>⟨U,j _ _ a,aq b λ_ _=>dN.same j⟩
 cs:=N.cs.elim λY O=>O.elim λa b=>⟨Y,j _ _ a,b⟩
 hct:=j _ _ N.hct
 c1:=j _ _ N.c1
 c2:=j _ _ N.c2
 ow:=N.ow.elim λko G=>G.elim λa b=>⟨ko,j _ _ a,aq b λ_ _=>oI.keep (λ_ _ e _ _ _=>j _ _ e) ⟨_,N.c1⟩ ⟨_,N.c2⟩⟩
 ck:=N.ck
theorem gb.inn(N:gb H H7 dc dh dO ct cE cF s){j:List (ao×V)}(J:H7 dc=some (.dK j)){n:Str}{ms:List Int}{m:Addr}(hm:H7 m=some (.tup (ms.map V.int))) :
 gb H (ag H7 dc (.dK (cx j (.inr n) (.ref m)))) dc dh dO ct cE cF { s with ch:=bP s.ch n ms }:=by
 have up:∀c z,H7 c=some z->(∀ks,z≠.dK ks)->ag H7 dc (.dK (cx j (.inr n) (.ref m))) c=some z:=λc z e hz=>aC e (aU e J (hz _));obtain⟨a3,G,O⟩:=N.ch;rw[J]at G;cases G;obtain⟨kh,b1,b2⟩:=N.cs;obtain⟨ko,o1,o2⟩:=N.ow;exact {
  old:=λb z e=>aC (N.old b z e) (aO e N.nc)
  nc:=N.nc,nh:=N.nh,no:=N.no,n1:=N.n1,n2:=N.n2,d1:=N.d1,d2:=N.d2,d3:=N.d3,d4:=N.d4
  ch:=⟨_,aD,aq (iZ (F:=dN H7) (λkv f z=>z.1) (x:=n) (ls:=ms) (v:=.ref m) ⟨rfl,m,rfl,hm⟩ O) λkv f U=>U.elim λx1 Y=>Y.elim λx2 a0=>a0.elim λx3 x4=>⟨x1,x2,x3,up _ _ x4 (by intro ks z;cases z)⟩⟩
  cs:=⟨kh,aC b1 N.d1.symm,b2⟩
  hct:=up _ _ N.hct (by intro ks z;cases z)
  c1:=up _ _ N.c1 (by intro ks z;cases z)
  c2:=up _ _ N.c2 (by intro ks z;cases z)
  ow:=⟨ko,aC o1 N.d2.symm,aq o2 λ_ _=>oI.keep (λc z e hz _ _=>up c z e hz) ⟨_,N.c1⟩ ⟨_,N.c2⟩⟩
  ck:=N.ck }
theorem gb.cho(N:gb H H7 dc dh dO ct cE cF s){j:List (ao×V)}(hh:H7 dh=some (.dK j)){n:Str} :
 gb H (ag H7 dh (.dK (cx j (.inr c) (.str n)))) dc dh dO ct cE cF { s with cs:=bP s.cs c n }:=by
 have up:∀b z,H7 b=some z->(∀ks,z≠.dK ks)->ag H7 dh (.dK (cx j (.inr c) (.str n))) b=some z:=λb z e hz=>aC e (aU e hh (hz _));obtain⟨kc,J,O⟩:=N.ch;obtain⟨a3,G,b2⟩:=N.cs;rw[hh]at G;cases G;obtain⟨ko,o1,o2⟩:=N.ow;exact {
  old:=λb z e=>aC (N.old b z e) (aO e N.nh)
  nc:=N.nc,nh:=N.nh,no:=N.no,n1:=N.n1,n2:=N.n2,d1:=N.d1,d2:=N.d2,d3:=N.d3,d4:=N.d4
  ch:=⟨kc,aC J N.d1,aq O λkv f U=>U.elim λx1 Y=>Y.elim λx2 a0=>a0.elim λx3 x4=>⟨x1,x2,x3,up _ _ x4 (by intro ks z;cases z)⟩⟩
  cs:=⟨_,aD,iZ (F:=pY) (λkv f z=>z.1) (x:=c) (ls:=n) (v:=.str n) ⟨rfl,rfl⟩ b2⟩
  hct:=up _ _ N.hct (by intro ks z;cases z)
  c1:=up _ _ N.c1 (by intro ks z;cases z)
  c2:=up _ _ N.c2 (by intro ks z;cases z)
  ow:=⟨ko,aC o1 N.d3.symm,aq o2 λ_ _=>oI.keep (λc z e hz _ _=>up c z e hz) ⟨_,N.c1⟩ ⟨_,N.c2⟩⟩
  ck:=N.ck }
theorem Qw{ck:Option Str}{b m b' m':Ls}{U:List (ao×V)}{ow:Ow}(hc:∀p,ck=some p->p∈ow.map (·.1))(k:∀c z,H7 c=some z->c≠cE->c≠cF->H8 c=some z)(h1:∃xs,H7 cE=some (.lst xs))(h2:∃xs,H7 cF=some (.lst xs))
 (h:Paired (oI H7 ck ct cE cF b m) U ow):Paired (oI H8 ck ct cE cF b' m') U (iE ow ck (b',m'))/\(iE ow ck (b',m')).map (·.1)=ow.map (·.1):=by
 obtain⟨x1,h1⟩:=h1;obtain⟨x2,h2⟩:=h2;have Y:∀{t j G:Addr}{e:Ls×Ls},H7 t=some (.tup [.ref j,.ref G])/\H7 j=some (.lst (e.1.map V.str))/\H7 G=some (.lst (e.2.map V.str))/\j≠cE/\j≠cF/\G≠cE/\G≠cF->H8 t=some (.tup [.ref j,.ref G])/\H8 j=some (.lst (e.1.map V.str))/\H8 G=some (.lst (e.2.map V.str))/\j≠cE/\j≠cF/\G≠cE/\G≠cF:=by
  rintro t j G e ⟨e2,e3,e4,e5,e6,e7,e8⟩;exact⟨k _ _ e2 (aU e2 h1 (by intro z;cases z)) (aU e2 h2 (by intro z;cases z)),k _ _ e3 e5 e6,k _ _ e4 e7 e8,e5,e6,e7,e8⟩
 cases ck with
 | none=>
  refine⟨aq h λkv e z=>?_,rfl⟩;obtain⟨a,z⟩:=z
  rcases z with⟨z,_⟩ | ⟨J,t,j,G,e1,z⟩
  . cases z
  exact⟨a,.inr ⟨J,t,j,G,e1,Y z⟩⟩
 | some p=>
  have hp:=hc p rfl;have O:iE ow (some p) (b',m')=ow.map λf=>if f.1=p then(f.1,(b',m')) else f:=am (q9.mpr hp);refine⟨?_,?_⟩
  . rw[O];clear O hp hc
    induction h with
    | nil=>exact .nil
    | @cons kv e U ow r t ih=>
     refine .cons ?_ ih;obtain⟨a,z⟩:=r;dsimp only
     by_cases ep:e.1=p
     . rw[am ep]
       rcases z with⟨z1,z2,z3⟩ | ⟨J,_⟩
       . exact⟨a,.inl ⟨by rw[ep],z2,rfl⟩⟩
       exact absurd (by rw[ep]) J
     rw[ah ep]
     rcases z with⟨z1,z2,z3⟩ | ⟨J,t,j,G,e1,z⟩
     . exact absurd (gw z1).symm ep
     exact⟨a,.inr ⟨J,t,j,G,e1,Y z⟩⟩
  rw[O,md];refine zV λf _=>?_;show(if f.1=p then(f.1,(b',m')) else f).1=f.1;split<;>rfl
theorem gb.les(N:gb H H7 dc dh dO ct cE cF s)(x:Str):gb H (ag H7 cE (.lst (s.b.map V.str++[.str x]))) dc dh dO ct cE cF { s with ow:=iE s.ow s.ck (s.b++[x],s.m),b:=s.b++[x] }:=by
 have up:∀c z,H7 c=some z->c≠cE->ag H7 cE (.lst (s.b.map V.str++[.str x])) c=some z:=λc z e hc=>aC e hc;have j:∀{c:Addr}{z:HO},H7 c=some z->(∀xs,z≠.lst xs)->c≠cE:=λe hz=>aU e N.c1 (hz _);obtain⟨kc,G,Y⟩:=N.ch;obtain⟨kh,J,b2⟩:=N.cs;obtain⟨ko,O,o2⟩:=N.ow;obtain⟨p1,p2⟩:=Qw (H8:=ag H7 cE (.lst (s.b.map V.str++[.str x]))) (b':=s.b++[x]) (m':=s.m) N.ck (λc z e h1 _=>up c z e h1) ⟨_,N.c1⟩ ⟨_,N.c2⟩ o2;exact {
  old:=λb z e=>aC (N.old b z e) (aO e N.n1)
  nc:=N.nc,nh:=N.nh,no:=N.no,n1:=N.n1,n2:=N.n2,d1:=N.d1,d2:=N.d2,d3:=N.d3,d4:=N.d4
  ch:=⟨kc,up _ _ G (j G (by intro xs z;cases z)),aq Y λkv f a0=>a0.elim λx1 a3=>a3.elim λx2 a4=>a4.elim λx3 U=>⟨x1,x2,x3,up _ _ U (j U (by intro xs z;cases z))⟩⟩
  cs:=⟨kh,up _ _ J (j J (by intro xs z;cases z)),b2⟩
  hct:=up _ _ N.hct (j N.hct (by intro xs z;cases z))
  c1:=by rw[aD,tK]
  c2:=up _ _ N.c2 N.d4.symm
  ow:=⟨ko,up _ _ O (j O (by intro xs z;cases z)),p1⟩
  ck:=λp hp=>by
   show p∈(iE s.ow s.ck (s.b++[x],s.m)).map (·.1);rw[p2];exact N.ck p hp }
theorem gb.mor(N:gb H H7 dc dh dO ct cE cF s)(x:Str):gb H (ag H7 cF (.lst (s.m.map V.str++[.str x]))) dc dh dO ct cE cF { s with ow:=iE s.ow s.ck (s.b,s.m++[x]),m:=s.m++[x] }:=by
 have up:∀c z,H7 c=some z->c≠cF->ag H7 cF (.lst (s.m.map V.str++[.str x])) c=some z:=λc z e hc=>aC e hc;have j:∀{c:Addr}{z:HO},H7 c=some z->(∀xs,z≠.lst xs)->c≠cF:=λe hz=>aU e N.c2 (hz _);obtain⟨kc,G,Y⟩:=N.ch;obtain⟨kh,J,b2⟩:=N.cs;obtain⟨ko,O,o2⟩:=N.ow;obtain⟨p1,p2⟩:=Qw (H8:=ag H7 cF (.lst (s.m.map V.str++[.str x]))) (b':=s.b) (m':=s.m++[x]) N.ck (λc z e _ h1=>up c z e h1) ⟨_,N.c1⟩ ⟨_,N.c2⟩ o2;exact {
  old:=λb z e=>aC (N.old b z e) (aO e N.n2)
  nc:=N.nc,nh:=N.nh,no:=N.no,n1:=N.n1,n2:=N.n2,d1:=N.d1,d2:=N.d2,d3:=N.d3,d4:=N.d4
  ch:=⟨kc,up _ _ G (j G (by intro xs z;cases z)),aq Y λkv f a0=>a0.elim λx1 a3=>a3.elim λx2 a4=>a4.elim λx3 U=>⟨x1,x2,x3,up _ _ U (j U (by intro xs z;cases z))⟩⟩
  cs:=⟨kh,up _ _ J (j J (by intro xs z;cases z)),b2⟩
  hct:=up _ _ N.hct (j N.hct (by intro xs z;cases z))
  c1:=up _ _ N.c1 N.d4
  c2:=by rw[aD,tK]
  ow:=⟨ko,up _ _ O (j O (by intro xs z;cases z)),p1⟩
  ck:=λp hp=>by
   show p∈(iE s.ow s.ck (s.b,s.m++[x])).map (·.1);rw[p2];exact N.ck p hp }
theorem aie{β:Type}{G F:ao×V->Str×β->Prop}(hk:∀kv f,G kv f->kv.1=Sum.inr f.1){x:Str}{ls:β}{v:V}(Y:F (.inr x,v) (x,ls))(hg:∀kv f,G kv f->f.1≠x->F kv f){kvs:List (ao×V)}{tr:List (Str×β)}(h:Paired G kvs tr):Paired F (cx kvs (.inr x) v) (bP tr x ls):=by
 have h':Paired (λkv f=>kv.1=Sum.inr f.1/\(f.1≠x->F kv f)) kvs tr:=aq h λkv f z=>⟨hk kv f z,hg kv f z⟩;have:=iZ (F:=λkv f=>kv.1=Sum.inr f.1/\(f.1≠x->F kv f)) (λkv f z=>z.1) (x:=x) (ls:=ls) (v:=v) ⟨rfl,λz=>absurd rfl z⟩ h';have e:(kvs.any λkv=>decide (kv.1=Sum.inr x))=(tr.any λf=>decide (f.1=x)):=by
  clear this
  induction h' with
  | nil=>rfl
  | cons r t J=>
   cases h with
   | cons _ t0=>
   rw[se,se,J t0,r.1]
   congr 1
   exact wT.mpr ⟨λz=>nu z,λz=>by rw[z]⟩
 clear this;unfold cx bP;rw[e];split
 . rename_i hh;clear hh e h
   induction h' with
   | nil=>exact .nil
   | @cons kv f kvs tr r t J=>
    refine .cons ?_ J;have U:=r.1;dsimp only
    by_cases j:f.1=x
    . have yj:kv.1=Sum.inr x:=by rw[U,j]
      rw[am yj,am j,yj,j];exact Y
    rw[ah (λz=>j (nu (U.symm.trans z))),ah j];exact r.2 j
 rename_i hh;refine iD Y ?_;have O:x∉tr.map (·.1):=λz=>hh (q9.mpr z);clear hh e h
 induction h' with
 | nil=>exact .nil
 | @cons kv f kvs tr r t J=>
  rw[bV,bf,ny]at O;exact .cons (r.2 λz=>O.1 z.symm) (J O.2)
theorem gb.own(N:gb H H7 dc dh dO ct cE cF s){Y O U:Addr}(j:ac H7 H8)(f1:H7 O=none)(f2:H7 U=none)(ne:O≠U)(g1:H8 O=some (.lst []))(g2:H8 U=some (.lst []))(g3:H8 Y=some (.tup [.ref O,.ref U])){ko:List (ao×V)}(ho:H8 dO=some (.dK ko))(p:Str) :
 gb H (ag H8 dO (.dK (cx ko (.inr p) (.ref Y)))) dc dh dO Y O U { s with ow:=bP s.ow p ([],[]),ck:=some p,b:=[],m:=[] }:=by
 have fr:∀b,H7 b=none->H b=none:=λb e=>by
  cases hb:H b with
  | none=>rfl
  | some z=>rw[N.old b z hb]at e;cases e
 have up:∀c z,H8 c=some z->(∀ks,z≠.dK ks)->ag H8 dO (.dK (cx ko (.inr p) (.ref Y))) c=some z:=λc z e hz=>aC e (aU e ho (hz _));obtain⟨kc,a1,a2⟩:=N.ch;obtain⟨kh,b1,b2⟩:=N.cs;obtain⟨Gj,o1,o2⟩:=N.ow;have Qy:=j _ _ o1;rw[ho]at Qy;cases Qy;exact {
  old:=λb z e=>aC (j _ _ (N.old b z e)) (aO e N.no)
  nc:=N.nc,nh:=N.nh,no:=N.no,n1:=fr _ f1,n2:=fr _ f2,d1:=N.d1,d2:=N.d2,d3:=N.d3,d4:=ne
  ch:=⟨kc,aC (j _ _ a1) N.d2,aq a2 λkv f a0=>a0.elim λx1 a3=>a3.elim λx2 a4=>a4.elim λx3 x4=>⟨x1,x2,x3,up _ _ (j _ _ x4) (by intro ks z;cases z)⟩⟩
  cs:=⟨kh,aC (j _ _ b1) N.d3,b2⟩
  hct:=up _ _ g3 (by intro ks z;cases z)
  c1:=up _ _ g1 (by intro ks z;cases z)
  c2:=up _ _ g2 (by intro ks z;cases z)
  ow:=⟨_,aD,aie (G:=oI H7 s.ck ct cE cF s.b s.m) (λkv f z=>z.1) ⟨rfl,.inl ⟨rfl,rfl,rfl⟩⟩ (λkv f z hf=>by
   obtain⟨z1,z⟩:=z;have J:∀{l:Addr}{xs:ae},H7 l=some (.lst xs)->l≠O/\l≠U:=λe=>⟨aO e f1,aO e f2⟩
   rcases z with⟨z2,z3,z4⟩ | ⟨nk,t,l1,l2,e1,e2,e3,e4,e5,e6,e7,e8⟩
   . refine⟨z1,.inr ⟨λy=>hf (gw y).symm,ct,cE,cF,z3,up _ _ (j _ _ N.hct) (by intro ks z;cases z),?_,?_,(J N.c1).1,(J N.c1).2,(J N.c2).1,(J N.c2).2⟩⟩
     . rw[z4];exact up _ _ (j _ _ N.c1) (by intro ks z;cases z)
     rw[z4];exact up _ _ (j _ _ N.c2) (by intro ks z;cases z)
   exact⟨z1,.inr ⟨λy=>hf (gw y).symm,t,l1,l2,e1,up _ _ (j _ _ e2) (by intro ks z;cases z),up _ _ (j _ _ e3) (by intro ks z;cases z),up _ _ (j _ _ e4) (by intro ks z;cases z),(J e3).1,(J e3).2,(J e4).1,(J e4).2⟩⟩) o2⟩
  ck:=λp' bX=>by
   cases bX;exact FO (.inl rfl) }
theorem gb.own_at(N:gb H H7 dc dh dO ct cE cF s):pX H7 dO s.ow:=by
 obtain⟨J,Y,o2⟩:=N.ow;refine⟨J,Y,aq o2 λkv e z=>?_⟩;obtain⟨j,z⟩:=z
 rcases z with⟨z2,z3,G⟩ | ⟨nk,t,O,U,e1,e2,e3,e4,_⟩
 . refine⟨j,ct,cE,cF,z3,N.hct,?_,?_⟩
   . rw[G];exact N.c1
   rw[G];exact N.c2
 exact⟨j,t,O,U,e1,e2,e3,e4⟩
end
theorem aii{s:Nt}(h:(s.ch.map (·.1)).Nodup/\(s.cs.map (·.1)).Nodup/\(s.ow.map (·.1)).Nodup)(j:Str):((s.step j).ch.map (·.1)).Nodup/\((s.step j).cs.map (·.1)).Nodup/\((s.step j).ow.map (·.1)).Nodup:=by
 have z:∀r,((iE s.ow s.ck r).map (·.1)).Nodup:=λr=>by
  unfold iE;split
  . exact h.2.2
  exact lH h.2.2
 unfold Nt.step;split
 . exact⟨h.1,h.2.1,z _⟩
 . exact⟨h.1,h.2.1,z _⟩
 . exact⟨lH h.1,h.2⟩
 . exact⟨h.1,lH h.2.1,h.2.2⟩
 exact⟨h.1,h.2.1,lH h.2.2⟩
theorem aij(rows:Ls):((gE rows).ch.map (·.1)).Nodup/\((gE rows).cs.map (·.1)).Nodup/\((gE rows).ow.map (·.1)).Nodup:=by
 have:∀(rows:Ls) (s:Nt),((s.ch.map (·.1)).Nodup/\(s.cs.map (·.1)).Nodup/\(s.ow.map (·.1)).Nodup)->((rows.foldl Nt.step s).ch.map (·.1)).Nodup/\((rows.foldl Nt.step s).cs.map (·.1)).Nodup/\((rows.foldl Nt.step s).ow.map (·.1)).Nodup:=by
  intro rows
  induction rows with
  | nil=>exact λs h=>h
  | cons r rows j=>exact λs h=>j _ (aii h r)
 exact this rows {} ⟨kR,kR,kR⟩
theorem aik(s:Nt)(j:Str):(s.step j).ch.length<=s.ch.length+1/\(s.step j).cs.length<=s.cs.length+1/\(s.step j).ow.length<=s.ow.length+1/\(s.step j).b.length<=s.b.length+1/\(s.step j).m.length<=s.m.length+1:=by
 have z:∀r,(iE s.ow s.ck r).length<=s.ow.length+1:=λr=>by
  unfold iE;split
  . omega
  exact lI _ _ _
 unfold Nt.step;split
 . exact⟨by dsimp only;omega,by dsimp only;omega,z _,by simp,by dsimp only;omega⟩
 . exact⟨by dsimp only;omega,by dsimp only;omega,z _,by dsimp only;omega,by simp⟩
 . exact⟨lI _ _ _,by dsimp only;omega,by dsimp only;omega,by dsimp only;omega,by dsimp only;omega⟩
 . exact⟨by dsimp only;omega,lI _ _ _,by dsimp only;omega,by dsimp only;omega,by dsimp only;omega⟩
 exact⟨by dsimp only;omega,by dsimp only;omega,lI _ _ _,by simp,by simp⟩
theorem Qz(rows:Ls):(gE rows).ch.length<=rows.length/\(gE rows).cs.length<=rows.length/\(gE rows).ow.length<=rows.length/\(gE rows).b.length<=rows.length/\(gE rows).m.length<=rows.length:=by
 have:∀(rows:Ls) (s:Nt),(rows.foldl Nt.step s).ch.length<=s.ch.length+rows.length/\(rows.foldl Nt.step s).cs.length<=s.cs.length+rows.length/\(rows.foldl Nt.step s).ow.length<=s.ow.length+rows.length/\(rows.foldl Nt.step s).b.length<=s.b.length+rows.length/\(rows.foldl Nt.step s).m.length<=s.m.length+rows.length:=by
  intro rows
  induction rows with
  | nil=>exact λs=>⟨aK _,aK _,aK _,aK _,aK _⟩
  | cons r rows j=>
   intro s;obtain⟨z,G,J,O,U⟩:=j (s.step r);obtain⟨Y,b2,b3,b4,b5⟩:=aik s r;rw[ma,cq];exact⟨by omega,by omega,by omega,by omega,by omega⟩
 have h:=this rows {};simp only[kQ,Dm]at h;exact h
theorem ail(rows:Ls)(r:Str):gE (rows++[r])=(gE rows).step r:=by
 unfold gE;rw[oZ];rfl
theorem Gp{x y:Str}{b:Bool}(h:decide (V.str x=V.str y)=b):decide (x=y)=b:=by
 rw[<-h];exact wT.mpr ⟨λz=>by rw[z],λz=>V.str.inj z⟩
inductive QA:Sp where
 | mk {H:Hp}{Q:VK}{E:XK}{x:Str} (_:x.length<=70000) (_:tZ x=true) (_:∀p H',H p=none->ac H H'->H' p=some (.tup ((rj x).map V.int))->Q (.ref p) H'):QA [.str x] H Q E
theorem aim:aP [asC] [asC] (aA O0):=aV
theorem ain(G:Pg K mg base Pt):aw P w K mg base aI 1 G.MkN.f G.MkN.fd [asC] QA:=by
 refine G.MkN.u.okL aim ?_;intro av A outer s H vs Q E hr h xX dX;obtain @⟨_,_,_,x,hx,hb,q⟩:=h;obtain⟨m1,m2⟩:=ahW hb;refine⟨_,(aj (aX (dH Zl (by rfl) G.B.tuple PyProof.Rows.boot_tuple (al (fY ["part"] [] [] dM rfl (cG (db me JF JG Be (pv 0) (al bT))) (λ_ _ _ _=>(be (i:=0) (show List.Nodup (["part"]:Ls) by decide +kernel) rfl (Or.inl rfl))) (λ_ _ _ _=>gj) (λ_ _ _ _=>(dH afj (by rfl) G.B.int aqS (al (pv 0))))))))),?_⟩;have a0:=split_le x lL;refine⟨rfl,x,lL,rfl,rfl,by decide +kernel,eg (by omega),λl H1 n1 s1 e1=>⟨⟨_,aa.of e1⟩,?_⟩⟩;refine vG (σ0:=[none]) (aa.of e1) (λZ=>∃v,Z=[v]) ((rj x).map V.int) (by unfold rj;rw[ak,ak,ak]) (eg (by rw[ak];omega)) ⟨_,rfl⟩ ?_ ?_
 . intro i z y Z H2 k hz J hQ hs hk;obtain⟨v,rfl⟩:=hQ;obtain⟨p,j,rfl⟩:=i5 hz;unfold rj at J;rw[md]at J;obtain⟨p',O,rfl⟩:=i5 J;rw[j]at O;cases O;obtain⟨Y,g2,g3,_⟩:=ahV (m2 p (da j));exact⟨p,_,rfl,agq Y g2 (by omega),by omega,hk _ _ ⟨_,rfl⟩ (ac.refl _)⟩
 intro D H2 hD hd hs;refine⟨D,_,rfl,.inl ⟨aa.of hd,λp j=>?_⟩⟩;have U:=s1.trans hs;exact q p _ (U.free j) (U.trans (fC j)) aD
theorem uh(H:Hp):msk [] H=H:=by
 funext b
 unfold msk;exact ah (λz=>nomatch z)
inductive Gq (T:Addr):Sp where
 | mk {H:Hp}{Q:VK}{E:XK}{t:Str} (_:t.length<=60000) (_:(rowsOf t).length<=400) (_:(∀r∈rowsOf t,jF r=true)) (_:∀v H',ac H H'->(∀L,gD H L->gG T (msk L H') v (gE (rowsOf t)).ch (gE (rowsOf t)).cs (gE (rowsOf t)).ow)->Q v H'):Gq T [.str t] H Q E
theorem rB:aP [asC,asy,asD,asP,asW,"row","words"] [asC] (aA OZ):=aV
theorem aio{t r:Str}(h:r∈rowsOf t):r.length<=t.length:=by
 unfold rowsOf at h;split at h
 . cases h
 exact Gf h
theorem QB(zZ:Pg K mg base Pt):aw P w K mg base aI 4 zZ.Not.f zZ.Not.fd [asC] (Gq zZ.T):=by
 refine zZ.Not.u.okL rB ?_;intro av A outer s H vs Q E hr h xX dX;obtain @⟨_,_,_,t,ht,hn,hg,q⟩:=h;have hu:=hr.units;have dv:=hr.mono (j:=1) (by decide);refine⟨_,(ai (aM (i:=1) rB.nd rfl (Or.inl rfl) lE) (ai (aM (i:=2) rB.nd rfl (Or.inl rfl) lE) (ai (aM (i:=3) rB.nd rfl (Or.inl rfl) lE) (ai (aM (i:=4) rB.nd rfl (Or.inl rfl) (eT (aL (df dG) (df dG))))
  (ai (eO dQ rfl (cG (ay (ag8 zZ) dv (by rfl) (al (pv 0)))) (be (i:=5) rB.nd rfl (Or.inl rfl))
   (ai (aM (i:=6) rB.nd rfl (Or.inl rfl) (db me JF JG Be (pv 5) (al bT))) (aj (bN (jf (db me aqT aqU Nv (pv 5) (al bT))) (aj (bB (db gZ qA qB mx (bO fz (pv 4) ar (λ_ _=>rfl)) (al (li AG (pv 5) (jz ar) nQ))))) (aj (bN (jf (db me aqT aqU Nv (pv 5) (al bT))) (aj (bB (db gZ qA qB mx (bO fz (pv 4) ar (λ_ _=>rfl)) (al (li AG (pv 5) (jz ar) nQ))))) (aj (bN (bL fV (bO fW (pv 6) ar (λ_ _=>rfl)) bT (bC _)) (aj (iT hu (pv 1) (bO fW (pv 6) ar (λ_ _=>rfl)) (ay (ain zZ) dv (by rfl) (al (bO fW (pv 6) ar (λ_ _=>rfl)))) rfl)) (aj (bN (bL fV (bO fW (pv 6) ar (λ_ _=>rfl)) bT (bC _)) (aj (iT hu (pv 2) (bO fW (pv 6) ar (λ_ _=>rfl)) (bO fW (pv 6) ar (λ_ _=>rfl)) rfl)) (ai (aM (i:=4) rB.nd rfl (Or.inl rfl) (eT (aL (df dG) (df dG)))) (aj (iT hu (pv 3) (bO fW (pv 6) ar (λ_ _=>rfl)) (pv 4) rfl)))))))))))))
  (aj (aX (tu zZ.MTIn (up (BM zZ)) hr (by rfl) zZ.UT.mgC zZ.TIn.b .nil bJ (dg (pv 1) (pv 2) (pv 3)))))))))),?_⟩
 refine vt ?_;intro dD sS Gr BS oH gr dU;refine λdc H1 n1 s1 e1 dh H2 n2 s2 e2 dO H3 n3 s3 e3=>?_;refine⟨(by show 0<=sizeLine;exact dF _),λG H4 n4 s4 e4=>⟨(by show 0<=sizeLine;exact dF _),λJ H5 n5 s5 e5=>⟨Ah,λct H6 n6 s6 e6=>?_⟩⟩⟩;have yC:=s1.trans (s2.trans (s3.trans (s4.trans s5)));have N0:gb H H6 dc dh dO ct G J {}:={
  old:=λb z e=>s6 _ _ (yC _ _ e)
  nc:=n1
  nh:=s1.free n2
  no:=(s1.trans s2).free n3
  n1:=(s1.trans (s2.trans s3)).free n4
  n2:=(s1.trans (s2.trans (s3.trans s4))).free n5
  d1:=aO e1 n2
  d2:=aO (s2 _ _ e1) n3
  d3:=aO e2 n3
  d4:=aO e4 n5
  ch:=⟨[],s6 _ _ (s5 _ _ (s4 _ _ (s3 _ _ (s2 _ _ e1)))),.nil⟩
  cs:=⟨[],s6 _ _ (s5 _ _ (s4 _ _ (s3 _ _ e2))),.nil⟩
  hct:=e6
  c1:=s6 _ _ (s5 _ _ e4)
  c2:=s6 _ _ e5
  ow:=⟨[],s6 _ _ (s5 _ _ (s4 _ _ e3)),.nil⟩
  ck:=λp hp=>nomatch hp }
 refine⟨by omega,λl H7 n7 s7 e7=>⟨⟨_,aa.of e7⟩,?_⟩⟩;refine hJ (xs:=(rowsOf t).map V.str) (λi Z H8=>∃ct G J u v,Z=[some (.str t),some (.ref dc),some (.ref dh),some (.ref dO),some (.ref ct),u,v]/\H8 l=some (.lst ((rowsOf t).map V.str))/\l≠G/\l≠J/\gb H H8 dc dh dO ct G J (gE ((rowsOf t).take i)))
  ⟨ct,G,J,none,none,rfl,e7,(aO N0.c1 n7).symm,(aO N0.c2 n7).symm,N0.same s7⟩ ?_ ?_ ?_
 . intro i Z H8 hi hQ;obtain⟨ct,G,J,u,v,rfl,h8,_⟩:=hQ;exact aa.of h8
 . intro i z Z H8 hz hQ;refine bq ?_;intro tT;obtain⟨ct,G,J,u,v,rfl,h8,m1,m2,N⟩:=hQ;obtain⟨r,pT,rfl⟩:=i5 hz;have QC:=da pT;have a1:=hg r QC;have a2:=aio QC;have es:gE ((rowsOf t).take (i+1))=(gE ((rowsOf t).take i)).step r:=by rw[take_snoc pT,ail]
   rw[show dc=dc from rfl]at N;have QE:=Qz ((rowsOf t).take i);rw[eW]at QE;obtain⟨k1,k2,k3,k4,k5⟩:=QE;generalize gE ((rowsOf t).take i)=s0 at N es k1 k2 k3 k4 k5;have sl:=Txt.slice_le r (some 1) none;refine⟨rfl,r,spS,rfl,rfl,by decide +kernel,eg (by omega),λwl H9 n9 s9 U=>?_⟩;have O:=N.same s9;have h9:=s9 _ _ h8;have z0:cI [V.ref G,V.ref J] 0=some (V.ref G):=rfl;have z1:cI [V.ref G,V.ref J] 1=some (V.ref J):=rfl;refine⟨rfl,r,fD,rfl,rfl,⟨?_⟩⟩;refine bv (λh1=>?_) (λh1=>?_)
   . refine⟨bh.of O.hct,z0,.inl ⟨rfl,_,aa.of O.c1⟩,eg (by omega),O.c1,bQ (by rw[ak];omega),?_⟩;refine⟨ct,G,J,_,_,rfl,aC h9 m1,m1,m2,?_⟩;have e0:s0.step r={ s0 with ow:=iE s0.ow s0.ck (s0.b++[Txt.slice r (some 1) none],s0.m),b:=s0.b++[Txt.slice r (some 1) none] }:=by
      unfold Nt.step ig;rw[am h1]
     rw[es,e0];exact O.les _
   refine⟨rfl,r,fE,rfl,rfl,⟨?_⟩⟩;refine bv (λh2=>?_) (λh2=>?_)
   . refine⟨bh.of O.hct,z1,.inl ⟨rfl,_,aa.of O.c2⟩,eg (by omega),O.c2,bQ (by rw[ak];omega),?_⟩;refine⟨ct,G,J,_,_,rfl,aC h9 m2,m1,m2,?_⟩;have e0:s0.step r={ s0 with ow:=iE s0.ow s0.ck (s0.b,s0.m++[Txt.slice r (some 1) none]),m:=s0.m++[Txt.slice r (some 1) none] }:=by
      unfold Nt.step ig;rw[ah h1,am h2]
     rw[es,e0];exact O.mor _
   have Y:ig r=if (Txt.split r spS).getD 0 Str.empty=gm then .inn ((Txt.split r spS).getD 1 Str.empty) ((Txt.split r spS).getD 2 Str.empty) else
    if (Txt.split r spS).getD 0 Str.empty=f7 then .cho ((Txt.split r spS).getD 1 Str.empty) ((Txt.split r spS).getD 2 Str.empty) else .own ((Txt.split r spS).getD 1 Str.empty):=by
    unfold ig;rw[ah h1,ah h2]
   have pl:∀p∈Txt.split r spS,p.length<=r.length:=λp hp=>Gf hp
   rcases ahX a1 (sj.mpr h1) (sj.mpr h2) with⟨p,hw⟩ | ⟨n,x,hw,A7⟩ | ⟨c,n,hw⟩
   . rw[hw]at U Y pl;have y0:cI ([dR,p].map V.str) 0=some (V.str dR):=rfl;have y1:cI ([dR,p].map V.str) 1=some (V.str p):=rfl;have Y:ig r=.own p:=Y.trans ((ah FY).trans (ah FZ));refine⟨aa.of U,y0,rfl,⟨?_⟩⟩;refine bv (λh3=>absurd (cT (Gp h3)) FY) (λh3=>?_);refine⟨aa.of U,y0,rfl,⟨?_⟩⟩;refine bv (λh4=>absurd (cT (Gp h4)) FZ) (λh4=>?_);refine⟨(by show 0<=sizeLine;exact dF _),λp1 Ha na sa ea=>⟨(by show 0<=sizeLine;exact dF _),λp2 Hb nb sb eb=>⟨Ah,λp3 Hc a3 sc ec=>?_⟩⟩⟩;have yD:=sa.trans (sb.trans sc);obtain⟨ko,o1,o2⟩:=O.ow;have lo:=bD o2;refine⟨aa.of (yD _ _ U),y1,fX.k (k:=.inr p) (yD _ _ o1) (bQ (by omega)),?_⟩;have d9:∃ks,H9 dO=some (.dK ks):=⟨_,o1⟩;have hl:l≠dO:=aU h9 o1 (by intro z;cases z);refine⟨p3,p1,p2,_,_,rfl,aC (yD _ _ h9) hl,aO h9 na,aO (sa _ _ h9) nb,?_⟩;have e0:s0.step r={ s0 with ow:=bP s0.ow p ([],[]),ck:=some p,b:=[],m:=[] }:=by
      unfold Nt.step;rw[Y]
     rw[es,e0];exact O.own yD na (sa.free nb) (aO ea nb) (sc _ _ (sb _ _ ea)) (sc _ _ eb) ec (yD _ _ o1) p
   . rw[hw]at U Y pl;have y0:cI ([gm,n,x].map V.str) 0=some (V.str gm):=rfl;have y1:cI ([gm,n,x].map V.str) 1=some (V.str n):=rfl;have y2:cI ([gm,n,x].map V.str) 2=some (V.str x):=rfl;have Y:ig r=.inn n x:=Y.trans (am rfl);have lx:=pl x (bR _ (bR _ bH));refine⟨aa.of U,y0,rfl,⟨?_⟩⟩;refine bv (λh3=>?_) (λh3=>absurd (bE rfl) h3);refine⟨aa.of U,y2,by omega,A7,λm Ha na sa ea=>?_⟩;have Na:=O.same sa;obtain⟨kc,c1,c2⟩:=Na.ch;have lc:=bD c2;refine⟨aa.of (sa _ _ U),y1,fX.k (k:=.inr n) c1 (bQ (by omega)),?_⟩;refine⟨ct,G,J,_,_,rfl,aC (sa _ _ h9) (aU (sa _ _ h9) c1 (by intro z;cases z)),m1,m2,?_⟩;have e0:s0.step r={ s0 with ch:=bP s0.ch n (rj x) }:=by
      unfold Nt.step;rw[Y]
     rw[es,e0];exact Na.inn c1 ea
   rw[hw]at U Y pl;have y0:cI ([f7,c,n].map V.str) 0=some (V.str f7):=rfl;have y1:cI ([f7,c,n].map V.str) 1=some (V.str c):=rfl;have y2:cI ([f7,c,n].map V.str) 2=some (V.str n):=rfl;have Y:ig r=.cho c n:=Y.trans ((ah By).trans (am rfl));refine⟨aa.of U,y0,rfl,⟨?_⟩⟩;refine bv (λh3=>absurd (cT (Gp h3)) By) (λh3=>?_);refine⟨aa.of U,y0,rfl,⟨?_⟩⟩;refine bv (λh4=>?_) (λh4=>absurd (bE rfl) h4);obtain⟨kh,c1,c2⟩:=O.cs;have lh:=bD c2;refine⟨aa.of U,y2,aa.of U,y1,fX.k (k:=.inr c) c1 (bQ (by omega)),?_⟩;refine⟨ct,G,J,_,_,rfl,aC h9 (aU h9 c1 (by intro z;cases z)),m1,m2,?_⟩;have e0:s0.step r={ s0 with cs:=bP s0.cs c n }:=by
    unfold Nt.step;rw[Y]
   rw[es,e0];exact O.cho c1
 intro Z H8 hQ;refine bq ?_;intro tT;obtain⟨ct,G,J,u,v,rfl,h8,m1,m2,N⟩:=hQ;rw[ak,eI]at N;obtain⟨kc,c1,c2⟩:=N.ch;obtain⟨kh,b1,b2⟩:=N.cs;have nd:=aij (rowsOf t);have nl:=Qz (rowsOf t);refine⟨⟨⟨?_⟩⟩⟩;refine BN (T:=zZ.T) ⟨kc,c1,c2⟩ ⟨kh,b1,b2⟩ N.own_at nd.2.2 (by omega) λx H' nx sx hx=>?_;exact q (.ref x) H' (λb z e=>sx _ _ (N.old b z e)) λL hL=>hx L λb hb=>(hL b hb).elim λo a0=>a0.elim λe n=>⟨o,N.old b o e,n⟩
end
section
variable {X:Cx}{H H':Hp}{xs:ae}
structure Gs(fl:List (Str×V))(nm mk rk:V)(pf pn ps po:Addr):Prop where
 name:fl.lookup (asu:Str)=some nm
 make:fl.lookup (asB:Str)=some mk
 rank:fl.lookup (asJ:Str)=some rk
 files:fl.lookup (asz:Str)=some (.ref pf)
 needs:fl.lookup (asS:Str)=some (.ref pn)
 shuts:fl.lookup (as2:Str)=some (.ref ps)
 offers:fl.lookup (atb:Str)=some (.ref po)
def ui(nm mk rk:V)(j pn ps z:Addr):List (Str×V):=aB atb (.ref z) (aB as2 (.ref ps) (aB asS (.ref pn) (aB asz (.ref j) (aB asJ rk (aB asB mk (aB asu nm []))))))
theorem air(nm mk rk:V)(j pn ps z:Addr):Gs (ui nm mk rk j pn ps z) nm mk rk j pn ps z:=by
 unfold ui;constructor
 . rw[cK,ah (by decide +kernel),cK,ah (by decide +kernel),cK,ah (by decide +kernel),cK,ah (by decide +kernel),cK,ah (by decide +kernel),cK,ah (by decide +kernel),cK,am rfl]
 . rw[cK,ah (by decide +kernel),cK,ah (by decide +kernel),cK,ah (by decide +kernel),cK,ah (by decide +kernel),cK,ah (by decide +kernel),cK,am rfl]
 . rw[cK,ah (by decide +kernel),cK,ah (by decide +kernel),cK,ah (by decide +kernel),cK,ah (by decide +kernel),cK,am rfl]
 . rw[cK,ah (by decide +kernel),cK,ah (by decide +kernel),cK,ah (by decide +kernel),cK,am rfl]
 . rw[cK,ah (by decide +kernel),cK,ah (by decide +kernel),cK,am rfl]
 . rw[cK,ah (by decide +kernel),cK,am rfl]
 rw[cK,am rfl]
structure QF(K:Fg)(H:Hp)(xs:ae)(fs:List (V×ae)):Prop where
 len:xs.length=fs.length
 item:∀(i:Nat) (p:V) (ls:ae),fs[i]?=some (p,ls)->∃t l,xs[i]?=some (.ref t)/\bh K H t [p,.ref l]/\aa K H l ls
structure BU(H H':Hp)(D:Addr)(xs:ae)(fs:List (V×ae))(k:Nat):Prop where
 len:xs.length=k
 item:∀(i:Nat) (p:V) (ls:ae),i<k->fs[i]?=some (p,ls)->∃t l,xs[i]?=some (.ref t)/\H t=none/\H l=none/\t≠D/\l≠D/\H' t=some (.tup [p,.ref l])/\H' l=some (.lst ls)
def yE:Expr:=match (gB F6).getD 3 (.Pass ⟨0,0,0,0⟩) with
 | .Assign _ e _=>e
 | _=>.Constant .none 0 ⟨0,0,0,0⟩
def uj:Scope:=match yE with
 | .ListComp _ _ sc _=>sc
 | _=>{ kind:=.function,names:=[],isGenerator:=false,isCoroutine:=false }
def QG:Expr:=match yE with
 | .ListComp e _ _ _=>e
 | _=>.Constant .none 0 ⟨0,0,0,0⟩
def Gu:Expr:=match yE with
 | .ListComp _ [⟨t,_,_,_⟩] _ _=>t
 | _=>.Constant .none 0 ⟨0,0,0,0⟩
def QH:Expr:=match yE with
 | .ListComp _ [⟨_,t,_,_⟩] _ _=>t
 | _=>.Constant .none 0 ⟨0,0,0,0⟩
theorem Gv(X:Cx):lw X [asq,asF] [] [] uj:=dM
def QI(K:Fg):ae->Hp->VK->Prop:=λxs H Q=>∃p ys,xs=[.ref p]/\(aa K H p ys\/bh K H p ys)/\∀l,H l=none->Q (.ref l) (ag H l (.lst ys))
theorem ais(z:X.calm=true)(s₀:Shared)(H₀:Hp)(j:Addr)(ex:List Addr):PG (dJ X (([asq,asF]:Ls)++([]:Ls)) uj s₀ H₀ j ex) Gu (sW X.K 2 (xh (mo 0) (xh (mo 1) DE))):=
 nJ (X:=dJ X (([asq,asF]:Ls)++([]:Ls)) uj s₀ H₀ j ex) z (fR (be (i:=0) (Gv X).nd rfl (Or.inl rfl)) (fR (be (i:=1) (Gv X).nd rfl (Or.inl rfl)) mq))
theorem ait(z:X.mg "list"=none)(s₀:Shared)(H₀:Hp)(j:Addr)(ex:List Addr):PE (dJ X (([asq,asF]:Ls)++([]:Ls)) uj s₀ H₀ j ex) QG (DZ (eP (mj 0) (eP (Az (QI X.K) (eP (mj 1) dY)) dY))):=
 KI (X:=dJ X (([asq,asF]:Ls)++([]:Ls)) uj s₀ H₀ j ex) (aL (pv 0) (dH (xy (X:=dJ X (([asq,asF]:Ls)++([]:Ls)) uj s₀ H₀ j ex)) (by rfl) z iO (al (pv 1))))
theorem aiu{z:TI}(j:X.calm=true)(G:X.mg "list"=none)(hi:PI X Gu QH z):PE X yE (Ez z 2 [] (sW X.K 2 (xh (mo 0) (xh (mo 1) DE))) qL (DZ (eP (mj 0) (eP (Az (QI X.K) (eP (mj 1) dY)) dY)))):=
 fY [asq,asF] [] [] (elt:=QG) (tg:=Gu) (iter:=QH) (ifs:=[]) (sc:=uj) (Gv X) j hi (ais j) (λ_ _ _ _=>gj) (ait G)
theorem aiv:aP [aso,asu,asB,asJ,asz,asS,as2,atb] [aso,asu,asB,asJ,asz,asS,as2,atb] (aA F6):=aV
inductive BV (K:Fg) (C:Addr):Sp where
 | mk {H:Hp}{Q:VK}{E:XK}{x dx G O Y U:Addr}{nm mk rk:V}{xs ns ss os:ae}{fs:List (V×ae)} (_:H x=some (.ins C dx [])) (_:aa K H G xs) (_:QF K H xs fs) (_:aa K H O ns) (_:aa K H Y ss) (_:aa K H U os) (_:fs.length<=1000) (_:∀(fl:List (Str×V)) (j pn ps z:Addr) (J:ae) (H':Hp),Gs fl nm mk rk j pn ps z->H' x=some (.ins C dx fl)->H j=none->H pn=none->H ps=none->H z=none ->
  H' j=some (.lst J)->BU H H' j J fs fs.length->H' pn=some (.lst ns)->H' ps=some (.lst ss)->H' z=some (.lst os)->(∀b o,H b=some o->b≠x->H' b=some o)->Q .non H'):BV K C [.ref x,nm,mk,rk,.ref G,.ref O,.ref Y,.ref U] H Q E
theorem aiw{Hk j:Hp}{fs:List (V×ae)}{k:Nat}(fn:BU H Hk D xs fs k)(h:∀b o,Hk b=some o->b≠D->H b=none->j b=some o):BU H j D xs fs k:=by
 refine⟨fn.len,λi p ls hi O=>?_⟩;obtain⟨t,l,e1,e2,e3,e4,z,G,J⟩:=fn.item i p ls hi O;exact⟨t,l,e1,e2,e3,e4,z,h t _ G e4 e2,h l _ J z e3⟩
theorem aix(G:Pg K mg base Pt):aw P w K mg base aI 1 G.PIn.f G.PIn.fd [aso,asu,asB,asJ,asz,asS,as2,atb] (BV K G.C):=by
 refine G.PIn.u.okL aiv ?_;intro av A outer s H vs Q E hr h xX dX;obtain @⟨_,_,_,x,dx,fa,na,sa,oa,nm,mk,rk,xs,ns,ss,os,fs,hx,jJ,lN,a2,a3,DC,BW,k⟩:=h;refine⟨_,ai (hX (pv 0) (pv 1) rfl) (ai (hX (pv 0) (pv 2) rfl) (ai (hX (pv 0) (pv 3) rfl)
  (ai (hX (pv 0) (aiu rfl G.B.list (cG (pv 4))) rfl)
  (ai (hX (pv 0) (dH xy (by rfl) G.B.list iO (al (pv 5))) rfl)
  (ai (hX (pv 0) (dH xy (by rfl) G.B.list iO (al (pv 6))) rfl)
  (aj (hX (pv 0) (dH xy (by rfl) G.B.list iO (al (pv 7))) rfl))))))),?_⟩
 refine adD ?_;intro dD sS a7 Gr BS oH gr dU;have S0:fb G.C dx x H H []:=⟨λ_ _ e _=>e,λ_ e=>e,hx⟩;refine⟨S0.ob,G.TC.cl,G.TC.nN,few pU (by decide),?_⟩;have S1:fb G.C dx x H _ (aB asu nm []):=S0.put;refine⟨S1.ob,G.TC.cl,G.TC.nM,few (lp pU) (by decide),?_⟩;have S2:fb G.C dx x H _ (aB asB mk (aB asu nm [])):=S1.put;refine⟨S2.ob,G.TC.cl,G.TC.nR,few (lp (lp pU)) (by decide),?_⟩;have O:fb G.C dx x H _ (aB asJ rk (aB asB mk (aB asu nm []))):=S2.put;generalize ag (ag (ag H x (.ins G.C dx (aB asu nm []))) x (.ins G.C dx (aB asB mk (aB asu nm [])))) x (.ins G.C dx (aB asJ rk (aB asB mk (aB asu nm []))))=H1 at O ⊢;refine⟨⟨xs,O.sqL hx jJ⟩,λD hD=>?_⟩;refine⟨λi m Z H2=>m=xs.length - i/\i<=xs.length/\∃(u v:Option V) (ys:ae),Z=[u,v]/\H2 D=some (.lst ys)/\ac H1 H2/\BU H H2 D ys fs i,⟨xs.length,by simp,dF _,none,none,[],rfl,aD,fC hD,rfl,λi p ls hi=>absurd hi (Jx _)⟩,?_⟩;intro i m Z H2 fM;refine bq ?_;intro tT;obtain⟨rfl,hi,u,v,ys,rfl,yF,Y,fn⟩:=fM;have Gw:aa K H2 fa xs:=Y.seq (O.sqL hx jJ)
 by_cases aT:i<xs.length
 . refine .inr ⟨⟨xs,xs[i],Gw,by simp[aT]⟩,λz H3 y=>?_⟩;obtain⟨e,y⟩:=y;subst e;have ez:=y xs Gw;have a1:i<fs.length:=by rw[<-lN.len];exact aT
   obtain⟨⟨p,ls⟩,eR⟩:∃q,fs[i]?=some q:=⟨fs[i],by simp[a1]⟩;obtain⟨t,l,e1,e2,e3⟩:=lN.item i p ls eR;rw[ez]at e1;cases e1;have t2:=aaP Y (O.sqT hx e2);have l2:=Y.seq (O.sqL hx e3);refine⟨t2,rfl,rfl,?_⟩;refine⟨l,_,rfl,.inl l2,λl' qC=>⟨Ah,λt' vV=>?_⟩⟩;obtain⟨n1,n2⟩:=jl vV;have dl:D≠l':=aO yF qC;have dt:D≠t':=aO yF n2;refine⟨ys,aC (aC yF dl) dt,bQ (by rw[fn.len];omega),xs.length - (i+1),by omega,rfl,aT,_,_,ys++[.ref t'],rfl,aD,?_,⟨by rw[bI,fn.len];rfl,λj p' wX hj bX=>?_⟩⟩
   . exact fj (fj (fj Y (Y.free qC)) (Y.free n2)) hD
   by_cases BX:j=i
   . subst BX;rw[eR]at bX;cases bX;refine⟨t',l',by rw[Df (by rw[fn.len];omega),fn.len];simp,O.free _ (Y.free n2),O.free _ (Y.free qC),dt.symm,dl.symm,aC aD dt.symm,aC (aC aD n1.symm) dl.symm⟩
   have qX:j<i:=by omega
   obtain⟨t0,l0,g1,g2,g3,g4,g5,g6,g7⟩:=fn.item j p' wX qX bX;exact⟨t0,l0,by rw[Vq (by rw[fn.len];exact qX)];exact g1,g2,g3,g4,g5,aC (aC (aC g6 (aO g6 qC)) (aO g6 n2)) g4,aC (aC (aC g7 (aO g7 qC)) (aO g7 n2)) g5⟩
 have ei:i=xs.length:=by omega
 subst ei;refine .inl ⟨⟨xs,Gw,aK _⟩,?_⟩;have S4:fb G.C dx x H H2 (aB asJ rk (aB asB mk (aB asu nm []))):=⟨λb o e J=>Y b o (O.same b o e J),λb e=>O.free b (Y.free e),Y _ _ O.ob⟩;have BY:D≠x:=aU yF S4.ob (by intro z;cases z);have a0:H D=none:=O.free _ hD;refine⟨S4.ob,G.TC.cl,G.TC.nF,few (lp (lp (lp pU))) (by decide),?_⟩;have S5:fb G.C dx x H _ (aB asz (.ref D) (aB asJ rk (aB asB mk (aB asu nm [])))):=S4.put;refine⟨na,_,rfl,.inl (S5.sqL hx a2),λpn vW=>?_⟩;have S6:=S5.lay (o:=.lst ns) vW;have Gx:pn≠x:=(aO S5.ob vW).symm;refine⟨S6.ob,G.TC.cl,G.TC.nE,few (lp (lp (lp (lp pU)))) (by decide),?_⟩;have S7:fb G.C dx x H _ (aB asS (.ref pn) (aB asz (.ref D) (aB asJ rk (aB asB mk (aB asu nm []))))):=S6.put;refine⟨sa,_,rfl,.inl (S7.sqL hx a3),λps bM=>?_⟩;have S8:=S7.lay (o:=.lst ss) bM;have QJ:ps≠x:=(aO S7.ob bM).symm;refine⟨S8.ob,G.TC.cl,G.TC.nS,few (lp (lp (lp (lp (lp pU))))) (by decide),?_⟩;have S9:fb G.C dx x H _ (aB as2 (.ref ps) (aB asS (.ref pn) (aB asz (.ref D) (aB asJ rk (aB asB mk (aB asu nm [])))))):=S8.put;refine⟨oa,_,rfl,.inl (S9.sqL hx DC),λU mR=>?_⟩;have QK:=S9.lay (o:=.lst os) mR;have a6:U≠x:=(aO S9.ob mR).symm;refine⟨QK.ob,G.TC.cl,G.TC.nO,few (lp (lp (lp (lp (lp (lp pU)))))) (by decide),?_⟩;have QL:fb G.C dx x H _ (ui nm mk rk D pn ps U):=QK.put;have k5:∀b o,H2 b=some o->b≠x->(ag H2 x (.ins G.C dx (aB asz (.ref D) (aB asJ rk (aB asB mk (aB asu nm [])))))) b=some o:=λb o e J=>aC e J;have kp:=λb o (e:H2 b=some o) (J:b≠x)=>aC (p:=x) (o':=.ins G.C dx (aB asS (.ref pn) (aB asz (.ref D) (aB asJ rk (aB asB mk (aB asu nm [])))))) (aC (p:=pn) (o':=.lst ns) (k5 b o e J) (aO (k5 b o e J) vW)) J;have kq:=λb o (e:H2 b=some o) (J:b≠x)=>aC (p:=x) (o':=.ins G.C dx (aB as2 (.ref ps) (aB asS (.ref pn) (aB asz (.ref D) (aB asJ rk (aB asB mk (aB asu nm []))))))) (aC (p:=ps) (o':=.lst ss) (kp b o e J) (aO (kp b o e J) bM)) J;have kr:=λb o (e:H2 b=some o) (J:b≠x)=>aC (p:=x) (o':=.ins G.C dx (ui nm mk rk D pn ps U)) (aC (p:=U) (o':=.lst os) (kq b o e J) (aO (kq b o e J) mR)) J;have QM:(ag (ag (ag H2 x (.ins G.C dx (aB asz (.ref D) (aB asJ rk (aB asB mk (aB asu nm [])))))) pn (.lst ns)) x (.ins G.C dx (aB asS (.ref pn) (aB asz (.ref D) (aB asJ rk (aB asB mk (aB asu nm []))))))) pn=some (.lst ns):=aC aD Gx;have QN:=aC (p:=x) (o':=.ins G.C dx (aB as2 (.ref ps) (aB asS (.ref pn) (aB asz (.ref D) (aB asJ rk (aB asB mk (aB asu nm []))))))) (aC (p:=ps) (o':=.lst ss) QM (aO QM bM)) Gx;have a4:=aC (p:=x) (o':=.ins G.C dx (ui nm mk rk D pn ps U)) (aC (p:=U) (o':=.lst os) QN (aO QN mR)) Gx;have QO:=aC (p:=x) (o':=.ins G.C dx (aB as2 (.ref ps) (aB asS (.ref pn) (aB asz (.ref D) (aB asJ rk (aB asB mk (aB asu nm []))))))) (aD (H:=ag (ag (ag H2 x (.ins G.C dx (aB asz (.ref D) (aB asJ rk (aB asB mk (aB asu nm [])))))) pn (.lst ns)) x (.ins G.C dx (aB asS (.ref pn) (aB asz (.ref D) (aB asJ rk (aB asB mk (aB asu nm []))))))) (a:=ps) (o:=.lst ss)) QJ;have a5:=aC (p:=x) (o':=.ins G.C dx (ui nm mk rk D pn ps U)) (aC (p:=U) (o':=.lst os) QO (aO QO mR)) QJ;refine k (ui nm mk rk D pn ps U) D pn ps U ys _ (air nm mk rk D pn ps U) QL.ob a0 (S5.free _ vW) (S7.free _ bM) (S9.free _ mR) (kr D _ yF BY) ?_ a4 a5 (aC aD a6) QL.same;rw[lN.len]at fn;exact aiw fn λb o e J hn=>kr b o e λz=>by rw[z,hx]at hn;cases hn
structure cy where
 nm:Str
 ms:List Int
 fs:List (Str×Ls)
 os:Ls
 rk:Int
abbrev Lp:=List cy
def jK(H:Hp)(v:V)(f:Str×Ls):Prop:=∃t l,v=.ref t/\H t=some (.tup [.str f.1,.ref l])/\H l=some (.lst (f.2.map V.str))
def jp(C:Addr)(H:Hp)(v:V)(p:cy):Prop:=∃a dx fl rk m j pn ps z xs,v=.ref a/\H a=some (.ins C dx fl)/\Gs fl (.str p.nm) (.ref m) rk j pn ps z/\H m=some (.tup (p.ms.map V.int)) /\
 H j=some (.lst xs)/\Paired (jK H) xs p.fs/\H z=some (.lst (p.os.map V.str))/\rk=.int p.rk/\H pn=some (.lst [])/\H ps=some (.lst [])
theorem jK.same{v:V}{f:Str×Ls}(s:ac H H')(h:jK H v f):jK H' v f:=by
 obtain⟨t,l,e,a,b⟩:=h;exact⟨t,l,e,s _ _ a,s _ _ b⟩
theorem jp.same{v:V}{p:cy}(s:ac H H')(h:jp C H v p):jp C H' v p:=by
 obtain⟨a,dx,fl,rk,m,O,pn,ps,U,xs,e,h1,h2,z,G,J,j⟩:=h;exact⟨a,dx,fl,rk,m,O,pn,ps,U,xs,e,s _ _ h1,h2,s _ _ z,s _ _ G,aq J (λ_ _=>jK.same s),s _ _ j.1,j.2.1,s _ _ j.2.2.1,s _ _ j.2.2.2⟩
abbrev eF (C:Addr) (H:Hp):ae->Lp->Prop:=Paired (jp C H)
theorem eF.same{vs:ae}{ps:Lp}(s:ac H H')(h:eF C H vs ps):eF C H' vs ps:=aq h λ_ _=>jp.same s
def rC(fs:List (Str×Ls)):List (V×ae):=fs.map λf=>(.str f.1,f.2.map V.str)
theorem aiF{fs:List (Str×Ls)}(h:Paired (jK H) xs fs):QF K H xs (rC fs):=by
 refine⟨by rw[rC,ak];exact bD h,λi p ls e=>?_⟩;rw[rC,c8]at e;cases j:fs[i]? with
 | none=>rw[j]at e;cases e
 | some f=>
  rw[j]at e;cases e;obtain⟨x,z,t,l,rfl,a,b⟩:=yi h j;exact⟨t,l,z,bh.of a,aa.of b⟩
theorem aiG{Q:VK}{E:XK}{nm:Str}{mk:List Int}{rk:Int}{os:Ls}{fs:List (Str×Ls)}(Y:H m=some (.tup (mk.map V.int)))(hf:H fa=some (.lst xs))(lN:Paired (jK H) xs fs)
 (hn:H na=some (.lst [])) (hs:H sa=some (.lst [])) (ho:H oa=some (.lst (os.map V.str))) (BW:fs.length<=1000) (q:∀x H',H x=none->ac H H'->(∀L,gD H L->jp C (msk L H') (.ref x) ⟨nm,mk,fs,os,rk⟩)->Q (.ref x) H') :
 ∀x dx,H x=none->H dx=none->dx≠x->BV K C (.ref x::([.str nm,.ref m,.int rk,.ref fa,.ref na,.ref sa,.ref oa]++[])) (ag (ag H dx (.own x)) x (.ins C dx [])) (λv H2=>v=.non/\Q (.ref x) H2) E:=by
 intro x dx O a0 nx;have G:ac H (ag (ag H dx (.own x)) x (.ins C dx [])):=fj (fC a0) O;have a2:rC fs=rC fs:=rfl;have U:(rC fs).length=fs.length:=by rw[rC,ak]
 refine⟨aD,aa.of (G _ _ hf),?_,aa.of (G _ _ hn),aa.of (G _ _ hs),aa.of (G _ _ ho),by rw[U];exact BW,?_⟩
 . exact aiF (aq lN λ_ _=>jK.same G)
 intro fl pf pn ps po jV H' hF qD n1 n2 n3 n4 a1 uV vW bM mR keep;have s2:ac H H':=λb o e=>keep b o (G _ _ e) (aO e O);have J:∀b,(ag (ag H dx (.own x)) x (.ins C dx [])) b=none->H b=none:=λb z=>G.free z;refine⟨rfl,q x H' O s2 λL j=>⟨x,dx,fl,.int rk,m,pf,pn,ps,po,jV,rfl,cj (j.free O) qD,hF,cj (j.tup Y) (s2 _ _ Y),cj (j.free (J _ n1)) a1,?_,cj (j.free (J _ n4)) mR,rfl,cj (j.free (J _ n2)) vW,cj (j.free (J _ n3)) bM⟩⟩;refine NJ (by rw[uV.len,U]) λi f hi=>?_;obtain⟨t,l,e1,e2,e3,e4,e5,e6,e7⟩:=uV.item i (.str f.1) (f.2.map V.str) (by rw[U];exact(cM.mp hi).1) (by rw[rC,c8,hi];rfl);exact⟨_,e1,t,l,rfl,cj (j.free (J _ e2)) e6,cj (j.free (J _ e3)) e7⟩
def gH(p:cy):List NI:=[.inl (.inr p.nm),.inr (p.ms.map Sum.inl)]
theorem Gz{nm:Str}{mk:List Int}(j:H b=some (.tup [.str nm,.ref m]))(z:H m=some (.tup (mk.map V.int))):kW H [.inl (.inr nm),.inr (mk.map Sum.inl)] b:=
 ⟨_,j,.cons rfl (.cons ⟨m,rfl,by rw[z,md];rfl⟩ .nil)⟩
def QP(kvs:List (List NI×V))(vs:ae)(ps:Lp)(i:Nat):Prop:=kvs.length<=i/\∀(j:Nat) (p:cy) (v:V),j<i->ps[j]?=some p->vs[j]?=some v->bi kvs (gH p)=some v
def jq(S:Addr)(H:Hp)(v:V)(vs:ae)(ps:Lp):Prop:=∃a dx fl d kvs,v=.ref a/\H a=some (.ins S dx fl)/\fl.lookup (atl:Str)=some (.ref d)/\fl.lookup (asw:Str)=none/\H d=some (.dT kvs)/\QP kvs vs ps ps.length
theorem jq.same{v:V}{vs:ae}{ps:Lp}(s:ac H H')(h:jq S H v vs ps):jq S H' v vs ps:=by
 obtain⟨a,dx,fl,d,kvs,e,h1,h2,j,z,G⟩:=h;exact⟨a,dx,fl,d,kvs,e,s _ _ h1,h2,j,s _ _ z,G⟩
inductive GA (K:Fg) (C S:Addr):Sp where
 | mk {H:Hp}{Q:VK}{E:XK}{x dx a:Addr}{xs:ae}{ps:Lp} (_:H x=some (.ins S dx [])) (_:H a=some (.lst xs)) (_:eF C H xs ps) (_:ps.length<=100) (_:(ps.map gH).Nodup) (_:∀H',(∀b o,H b=some o->b≠x->H' b=some o)->jq S H' (.ref x) xs ps->Q .non H'):GA K C S [.ref x,.ref a] H Q E
theorem QQ:aP [aso,ass,asw] [aso,ass] (aA Om):=aV
theorem aiI(G:Pg K mg base Pt):aw P w K mg base aI 1 G.SIn.f G.SIn.fd [aso,ass] (GA K G.C G.S):=by
 refine G.SIn.u.okL QQ ?_;intro av A outer s H vs Q E hr h xX dX;obtain @⟨_,_,_,x,dx,a,xs,ps,U,ha,bM,BZ,rD,q⟩:=h;have hu:=hr.units;refine⟨_,(ai (hX (pv 0) adp rfl)
  (aj (eO dQ rfl (cG (pv 1)) (be (i:=2) QQ.nd rfl (Or.inl rfl))
  (aj (iT hu (bG (pv 0) rfl) (eT (aL (bG (pv 2) rfl) (bG (pv 2) rfl))) (pv 2) rfl))))),?_⟩
 refine mI ?_;intro dD sS dU;refine λd H1 n1 s1 e1=>?_;refine⟨s1 _ _ U,G.US.cl,G.US.nS,(by decide),?_⟩;have BY:d≠x:=(aO U n1).symm;have ax:a≠x:=aU ha U (by intro z;cases z);have nl:=bD bM;refine⟨⟨_,aa.of (by rw[bg ax];exact s1 _ _ ha)⟩,?_⟩;refine hJ (xs:=xs) (λi Z H2=>∃u kvs,Z=[some (.ref x),some (.ref a),u]/\(∀b o,H b=some o->b≠x->H2 b=some o)/\H2 x=some (.ins G.S dx (aB atl (.ref d) []))/\H2 d=some (.dT kvs)/\QP kvs xs ps i)
  ⟨none,[],rfl,λb o e hb=>by rw[bg hb];exact s1 _ _ e,aD,by rw[bg BY];exact e1,aK _,λj p v hj=>absurd hj (Jx _)⟩ ?_ ?_ ?_
 . intro i Z H2 hi gQ;refine bq ?_;intro tT;obtain⟨u,kvs,rfl,k2,_⟩:=gQ;exact aa.of (k2 _ _ ha ax)
 . intro i v Z H2 hv gR;refine bq ?_;intro tT;obtain⟨u,kvs,rfl,k2,Y,a0,J⟩:=gR;obtain⟨p,hp,b,dy,fl,rk,m,pf,pn,jL,po,ys,rfl,h1,h2,h3,h4,h5,h6⟩:=fc bM hv;have bx:b≠x:=aU h1 U (by intro z;injection z with _ _ z;subst z;have:=h2.name;cases this);have b2:=k2 _ _ h1 bx;have m2:=k2 _ _ h3 (aU h3 U (by intro z;cases z));have a1:(aB (atl:Str) (V.ref d) []).lookup (atl:Str)=some (.ref d):=by rw[cK,am rfl]
   refine⟨Y,G.US.cl,G.US.nS,a1,b2,G.TC.cl,G.TC.nN,h2.name,b2,G.TC.cl,G.TC.nM,h2.make,Ah,λt H3 n3 s3 e3=>?_⟩;have aT:=(cM.mp hv).1;refine⟨fX.t (s3 _ _ a0) (Gz e3 (s3 _ _ m2)) (bQ (by have:=J.1;omega)),?_⟩;refine⟨_,_,rfl,λc o e hc=>?_,?_,aD,?_,λj p' v' hj O xk=>?_⟩
   . rw[bg (λz=>by rw[z,n1]at e;cases e)];exact s3 _ _ (k2 _ _ e hc)
   . rw[bg BY.symm];exact s3 _ _ Y
   . exact cn (xB _ _ _) (V3 J.1)
   rw[AC]
   by_cases BX:j=i
   . subst BX;rw[hp]at O;rw[hv]at xk;cases O;cases xk;exact am rfl
   have qX:j<i:=by omega
   rw[ah]
   . exact J.2 j p' v' qX O xk
   intro z;have z:gH p'=gH p:=z;refine BX ((V1 (l:=ps.map gH) (i:=j) (j:=i) ?_ rD).mp ?_)
   . rw[ak];have:=(cM.mp O).1;omega
   rw[c8,c8,hp,O,si,si,z]
 intro Z H2 pW;refine bq ?_;intro tT;obtain⟨u,kvs,rfl,k2,Y,a0,J⟩:=pW;rw[nl]at J;exact q H2 k2 ⟨x,dx,_,d,kvs,rfl,Y,by rw[cK,am rfl],by rw[cK,ah (by decide +kernel)];rfl,a0,J⟩
inductive QR (K:Fg) (S:Addr):Sp where
 | mk {H:Hp}{Q:VK}{E:XK}{z v:V}{m:Addr}{xs:ae}{ps:Lp}{j:Nat}{p:cy} (_:jq S H z xs ps) (_:ps[j]?=some p) (_:xs[j]?=some v) (_:H m=some (.tup (p.ms.map V.int))) (_:∀H',ac H H'->Q v H'):QR K S [z,.str p.nm,.ref m] H Q E
theorem aiK:aP [aso,asu,asB] [aso,asu,asB] (aA Oo):=aV
theorem aiL(z:Pg K mg base Pt):aw P w K mg base aI 1 z.SPa.f z.SPa.fd [aso,asu,asB] (QR K z.S):=by
 refine z.SPa.u.okL aiK ?_;intro av A outer s H vs Q E hr h xX dX;obtain @⟨_,_,_,sv,v,m,xs,ps,j,p,⟨a,dx,fl,d,kvs,rfl,h1,h2,h3,Y,h5⟩,hp,hv,hm,q⟩:=h;have hu:=hr.units;have O:=h5.2 j p v (cM.mp hp).1 hp hv;refine⟨_,(ai (bN (jy (xC hu (eT (aL (pv 1) (pv 2))) (bG (pv 0) rfl)) (by rfl))
  (aj xf) cD)
  (aj (aX (lm hu (bG (pv 0) rfl) (eT (aL (pv 1) (pv 2))) (λ_ _=>rfl))))),?_⟩
 refine mI ?_;intro dD sS dU;refine⟨Ah,λt H1 n1 G e1=>?_⟩;have g1:ci H1 d (.ref t) (bi kvs (gH p)):=ci.t (G _ _ Y) (Gz e1 (G _ _ hm));refine⟨G _ _ h1,z.US.cl,z.US.nS,h2,_,g1,⟨?_⟩⟩;rw[O];refine bv (λh=>absurd h (by show ¬((!true)=true);decide)) (λh=>?_);refine⟨G _ _ h1,z.US.cl,z.US.nS,h2,Ah,λt2 H2 n2 s2 e2=>?_⟩;have J:=G.trans s2;have U:ci H2 d (.ref t2) (bi kvs (gH p)):=ci.t (J _ _ Y) (Gz e2 (J _ _ hm));rw[O]at U;exact⟨U,q H2 J⟩
abbrev Tr:=List (Str×Ls)
structure lO(done tr:Tr):Prop where
 nd:(tr.map (·.1)).Nodup
 sub:∀f∈tr,f∈done
 key:∀f∈done,f.1∈tr.map (·.1)
 len:tr.length<=done.length
theorem QT:lO [] []:=⟨kR,λ_ h=>h,(λ_ h=>nomatch h),aK _⟩
theorem lO.step{done tr:Tr}(g:lO done tr)(x:Str)(ls:Ls):lO (done++[(x,ls)]) (bP tr x ls):=by
 refine⟨lH g.nd,λf hf=>?_,λf hf=>?_,?_⟩
 . rcases kj hf with e | hf
   . rw[e];exact ff _ (bF.mpr rfl)
   exact wG _ (g.sub f hf)
 . rcases bY.mp hf with hf | hf
   . exact FO (.inr (g.key f hf))
   rw[bF.mp hf];exact FO (.inl rfl)
 have:=lI tr x ls;have:=g.len;rw[bI,jU];omega
end
section
variable {K:Fg}{H H1:Hp}{kv:ao×V}{ps:Lp}{i:Nat}{xs vs:ae}{x:Str}
def um(xs:ae)(ps:Lp)(v:V)(p:cy):Prop:=∃j:Nat,ps[j]?=some p/\xs[j]?=some v
def qa(xs:ae)(ps:Lp)(ch:Ch):Prop:=∀e∈ch,∃v p,um xs ps v p/\p.nm=e.1/\p.ms=e.2
inductive QU (S:Addr):Sp where
 | mk {H:Hp}{Q:VK}{E:XK}{G:V}{c:Addr}{xs:ae}{ps:Lp}{ch:Ch} (_:jq S H G xs ps) (_:dj H c ch) (_:qa xs ps ch) (_:ch.length<64) (_:∀D H' z j,H D=none->ac H H'->H' D=some (.lst z)->Paired (um xs ps) z j->(j.map (·.nm)).Perm (ch.map (·.1))->(∀p∈j,(p.nm,p.ms)∈ch)->Q (.ref D) H'):QU S [G,.ref c] H Q E
theorem aiM:aP [asp,asy] [asp,asy] (aA OM):=aV
theorem QV(G:Pg K mg base Pt):aw P w K mg base aI 2 G.PsO.f G.PsO.fd [asp,asy] (QU G.S):=by
 refine G.PsO.u.okL aiM ?_;intro av A outer s H vs Q E hr h xX dX;obtain @⟨_,_,_,sv,c,xs,ps,ch,hS,hC,hV,qR,q⟩:=h;have hu:=hr.units;obtain⟨kvs,e1,e2⟩:=id hC;have hk:∀kv f,dN H kv f->kv.1=Sum.inr f.1:=λkv f z=>z.1;have kl:=bD e2;refine⟨_,(aj (aX (fY [asu] [asp,asy] [0,1] dM rfl (cG (cg (AT rfl) (by rfl) G.B.sorted sG (al (pv 1)))) (λ_ _ _ _=>(be (i:=0) (show List.Nodup ([asu,asp,asy]:Ls) by decide +kernel) rfl (Or.inl rfl))) (λ_ _ _ _=>gj) (λ_ _ _ _=>(gz (pv 1) G.US.cl G.SPa.mt (up (aiL G)) hr G.SPa.b .nil bJ (aL (pv 0) (lm hu (pv 2) (pv 0) (λ_ _=>rfl)))))))),?_⟩;refine⟨c,kvs,_,rfl,e1,oC hk e2,by omega,λys hp hs a H1 n1 Y a1=>?_⟩;refine⟨⟨_,aa.of a1⟩,?_⟩;refine xH (σ0:=[none,some sv,some (.ref c)]) (aa.of a1) (λZ=>∃v,Z=[v,some sv,some (.ref c)]) (λi zs _=>∃J,Paired (um xs ps) zs J/\J.map (·.nm)=ys.take i/\∀p∈J,(p.nm,p.ms)∈ch) ⟨_,rfl⟩ (λ_ _=>⟨[],.nil,rfl,λ_ h=>nomatch h⟩) ?_ ?_
 . intro D i x zs Z H2 k hD hi fM hd h2 gQ d5;refine bq ?_;intro tT;obtain⟨v,rfl⟩:=fM;obtain⟨J,U,pn,pc⟩:=gQ;rw[c8]at hi;cases O:ys[i]? with
   | none=>rw[O]at hi;cases hi
   | some y=>
    rw[O]at hi;cases hi;have GB:y∈ch.map (·.1):=hp.mem_iff.mp (da O);obtain⟨u,ms,g1,g2,_,m,rfl,g3⟩:=rc hk e2 GB;obtain⟨v2,p,jE,en,em⟩:=hV _ g2;obtain⟨j,j1,j2⟩:=id jE;have en:p.nm=y:=en;have em:p.ms=ms:=em;subst en em;obtain⟨sa,dx,fl,d,kk,rfl,b1,b2,b3,b4,b5⟩:=hS.same (Y.trans h2);have bZ:=Y.trans h2;refine⟨b1,b3,(by rw[<-g1];exact ci.k (k:=.inr p.nm) (bZ _ _ e1)),?_⟩;refine⟨⟨sa,dx,fl,d,kk,rfl,b1,b2,b3,b4,b5⟩,j1,j2,bZ _ _ g3,λH3 s3=>?_⟩;have hl:zs.length<=64:=by
     have e:=fo List.length pn;rw[ak,eW]at e;have:=bD U;have:=hp.length_eq;rw[ak]at this;omega
    refine d5 _ _ _ ⟨_,rfl⟩ s3 (bQ (by omega)) ⟨J++[p],iD jE U,?_,λp' bX=>?_⟩
    . rw[dq,pn,gY,O];rfl
    rcases bY.mp bX with z | z
    . exact pc p' z
    rw[bF.mp z];exact g2
 intro D zs H2 hD hd h2 gR;refine bq ?_;intro tT;obtain⟨J,U,pn,pc⟩:=gR;rw[ak,eI]at pn;refine q D H2 zs J (Y.free hD) (Y.trans h2) hd U ?_ pc;rw[pn];exact hp
def dw(H H':Hp)(kv:ao×V)(f:Str×Ls):Prop:=kv.1=.inr f.1/\∃l,kv.2=.ref l/\H l=none/\H' l=some (.lst (f.2.map V.str))
theorem dw.same{H2:Hp}(s:ac H1 H2){f:Str×Ls}(h:dw H H1 kv f):dw H H2 kv f:=h.elim λa j=>j.elim λl z=>z.elim λb G=>G.elim λc d=>⟨a,l,b,c,s _ _ d⟩
theorem dw.put{ks O:List (ao×V)}(hd:H1 d=some (.dK ks)){f:Str×Ls}(h:dw H H1 kv f):dw H (ag H1 d (.dK O)) kv f:=h.elim λa j=>j.elim λl G=>G.elim λb J=>J.elim λc e=>⟨a,l,b,c,aC e (aU e hd (by intro z;cases z))⟩
def gc(ps:Lp):Tr:=ps.flatMap (·.fs)
inductive QW (C:Addr):Sp where
 | mk {H:Hp}{Q:VK}{E:XK}{a:Addr}{xs:ae}{ps:Lp} (_:H a=some (.lst xs)) (_:eF C H xs ps) (_:(gc ps).length<=60) (_:∀d H' kvs tr,H d=none->ac H H'->H' d=some (.dK kvs)->Paired (dw H H') kvs tr->lO (gc ps) tr->Q (.ref d) H'):QW C [.ref a] H Q E
theorem yG:aP [ass,ate,asw,asq,asF] [ass] (aA OU):=aV
theorem QX{p:cy}(h:ps[i]?=some p):gc (ps.take (i+1))=gc (ps.take i)++p.fs:=by
 unfold gc;rw[gY,h,Dw];simp
theorem aiT{p:cy}(h:ps[i]?=some p)(j:Nat):(gc (ps.take i)++p.fs.take j).length<=(gc ps).length:=by
 have e:gc ps=gc (ps.take (i+1))++gc (ps.drop (i+1)):=by
  unfold gc;rw[<-Dw,V4]
 rw[e,QX h];simp only[bI,eW];omega
theorem aiU(J:Pg K mg base Pt):aw P w K mg base aI 1 J.Bro.f J.Bro.fd [ass] (QW J.C):=by
 refine J.Bro.u.okL yG ?_;intro av A outer s H vs Q E hr h xX dX;obtain @⟨_,_,_,a,xs,ps,ha,bM,NZ,q⟩:=h;have hu:=hr.units;refine⟨_,(ai (aM (i:=1) yG.nd rfl (Or.inl rfl) lE)
  (ai (eO dQ rfl (cG (pv 0)) (be (i:=2) yG.nd rfl (Or.inl rfl))
  (aj (eO dQ rfl (cG (bG (pv 2) rfl)) (nJ rfl (fR (be (i:=3) yG.nd rfl (Or.inl rfl)) (fR (be (i:=4) yG.nd rfl (Or.inl rfl)) mq)))
   (aj (iT hu (pv 1) (pv 3) (dH lB (by rfl) J.B.list iO (al (pv 4))) rfl)))))
  (aj (aX (pv 1))))),?_⟩
 refine jn ?_;intro dD sS gr dU;have hk:∀(H':Hp) kv f,dw H H' kv f->kv.1=Sum.inr f.1:=λ_ kv f z=>z.1;refine λd H1 n1 s1 e1=>?_;refine⟨⟨_,aa.of (s1 _ _ ha)⟩,?_⟩;refine hJ (xs:=xs) (λi Z H2=>∃u v z kvs tr,Z=[some (.ref a),some (.ref d),u,v,z]/\ac H H2/\H2 d=some (.dK kvs)/\Paired (dw H H2) kvs tr/\lO (gc (ps.take i)) tr) ⟨none,none,none,[],[],rfl,s1,e1,.nil,QT⟩ ?_ ?_ ?_
 . intro i Z H2 hi pW;refine bq ?_;intro U;obtain⟨u,v,z,kvs,tr,rfl,G,_⟩:=pW;exact aa.of (G _ _ ha)
 . intro i x Z H2 hx uc;refine bq ?_;intro U;obtain⟨u,v,z,kvs,tr,rfl,G,hd,rE,g⟩:=uc;obtain⟨p,hp,b,dy,fl,rk,m,pf,pn,jL,po,ys,rfl,h1,h2,h3,h4,h5,h6⟩:=fc bM hx;refine⟨G _ _ h1,J.TC.cl,J.TC.nF,h2.files,⟨_,aa.of (G _ _ h4)⟩,?_⟩;refine hJ (xs:=ys) (λj Z H3=>∃v z kvs tr,Z=[some (.ref a),some (.ref d),some (.ref b),v,z]/\ac H H3/\H3 d=some (.dK kvs)/\Paired (dw H H3) kvs tr/\lO (gc (ps.take i)++p.fs.take j) tr) ⟨v,z,kvs,tr,rfl,G,hd,rE,by rw[V2,kM];exact g⟩ ?_ ?_ ?_
   . intro j Z H3 hj ud;refine bq ?_;intro U;obtain⟨v,z,kvs,tr,rfl,s3,_⟩:=ud;exact aa.of (s3 _ _ h4)
   . intro j y Z H3 hy yu;refine bq ?_;intro U;obtain⟨v,z,kvs,tr,rfl,s3,cZ,Y,O⟩:=yu;obtain⟨⟨px,ls⟩,GC,t,l,rfl,t1,t2⟩:=fc h5 hy;refine⟨bh.of (s3 _ _ t1),rfl,rfl,?_⟩;refine⟨l,_,rfl,.inl (aa.of (s3 _ _ t2)),λl' H4 n4 s4 e4=>?_⟩;have a1:=aiT hp j;have a0:=O.len;have QY:=bD Y;refine⟨fX.k (k:=.inr px) (s4 _ _ cZ) (bQ (by omega)),?_⟩;refine⟨_,_,_,bP tr px ls,rfl,fj (s3.trans s4) n1,aD,?_,?_⟩
     . refine aq (iZ (F:=dw H H4) (hk H4) ⟨rfl,l',rfl,s3.free n4,e4⟩ (aq Y λ_ _=>dw.same s4)) λkv f=>dw.put (s4 _ _ cZ)
     rw[gY,GC];have:=O.step px ls;rw[kS]at this;exact this
   intro Z H3 yw;refine bq ?_;intro U;obtain⟨v,z,kvs,tr,rfl,s3,cZ,Y,O⟩:=yw;refine⟨_,_,_,kvs,tr,rfl,s3,cZ,Y,?_⟩;rw[QX hp];rw[bD h5,eI]at O;exact O
 intro Z H2 Gb;refine bq ?_;intro U;obtain⟨u,v,z,kvs,tr,rfl,G,hd,rE,g⟩:=Gb;rw[bD bM,eI]at g;exact⟨q d H2 kvs tr n1 G hd rE g⟩
theorem QZ{G:Lp}(h:eF C H xs ps)(r:Paired (um xs ps) vs G):eF C H vs G:=aq r λv p J=>J.elim λj O=>O.elim λa b=>by
 obtain⟨x,z,q⟩:=yi h a;rw[b]at z;cases z;exact q
theorem Q0{z:Lp}(r:Paired (um xs ps) vs z):∀p∈z,p∈ps:=by
 induction r with
 | nil=>exact λ_ h=>nomatch h
 | cons q t G=>
  intro p hp
  rcases bf.mp hp with e | hp
  . obtain⟨j,a,b⟩:=q;rw[e];exact da a
  exact G p hp
theorem aiX{b:Nat}(h:∀p∈ps,p.fs.length<=b):(gc ps).length<=ps.length * b:=by
 induction ps with
 | nil=>exact dF _
 | cons p ps z=>
  have e:gc (p::ps)=p.fs++gc ps:=Du;rw[e,bI,cq,VC];have:=z λq j=>h q (bR _ j);have:=h p bH;omega
def aY(H:Hp)(kv:ao×V)(f:Str×Ls):Prop:=kv.1=.inr f.1/\∃l,kv.2=.ref l/\H l=some (.lst (f.2.map V.str))
theorem aY.same{H':Hp}(s:ac H H'){f:Str×Ls}(h:aY H kv f):aY H' kv f:=h.elim λa j=>j.elim λl z=>z.elim λb c=>⟨a,l,b,s _ _ c⟩
def GD(tr:Tr):Prop:=∀f∈tr,dC f.1/\(∀x∈f.2,i4 x)/\f.2.length<=4
section
variable {g:TG}{tt:TT}{te:TE}{Q:Hp->Prop}
theorem rF{σ0:L2.St}(Y:H1 D=none)(hx:aa K H1 a xs)(S:L2.St->Prop)(P:Nat->ae->Hp->Prop)(s0:S σ0)(st:P 0 [] (ag H1 D (.lst [])))
 (a0:∀i x ys Z H (k:L2.St->V->Hp->Prop) (k':L2.St->Hp->Prop),xs[i]?=some x->S Z->H D=some (.lst ys)->ac H1 H->P i ys H ->
  (∀σ3 y z,S σ3->ac H z->ys.length<sizeLine->P (i+1) (ys++[y]) (ag z D (.lst (ys++[y])))->k σ3 y z)->(∀σ3 j,S σ3->ac H j->P (i+1) ys j->k' σ3 j) ->
  g x Z H λσ3 H3=>tt σ3 H3 λok j=>if ok=true then te σ3 j (k σ3) else k' σ3 j)
 (done:∀ys H,H D=some (.lst ys)->ac H1 H->P xs.length ys H->Q H) :
 ∃W:Nat->Nat->L2.St->Hp->Prop,(∃m,W 0 m σ0 (ag H1 D (.lst [])))/\lq (nK K a) g tt te D (λH'=>Q H') W:=by
 refine⟨λi m Z H=>m=xs.length - i/\i<=xs.length/\S Z/\∃ys,H D=some (.lst ys)/\ac H1 H/\P i ys H,⟨xs.length,by simp,dF _,s0,[],aD,fC Y,st⟩,?_⟩;intro i m Z H fM;refine bq ?_;intro tT;obtain⟨rfl,hi,hS,ys,hd,hs,hp⟩:=fM;have q:aa K H a xs:=ac.seq hs hx
 by_cases U:i<xs.length
 . refine .inr ⟨⟨xs,xs[i],q,by simp[U]⟩,λx H2 hy=>?_⟩;obtain⟨e1,e2⟩:=hy;subst e1;exact a0 i x ys Z _ (λσ3 y z=>∃ys,z D=some (.lst ys)/\ys.length<sizeLine/\∃m',m'<xs.length - i/\(m'=xs.length - (i+1)/\i+1<=xs.length/\S σ3/\∃zs,ag z D (.lst (ys++[y])) D=some (.lst zs)/\ac H1 (ag z D (.lst (ys++[y])))/\P (i+1) zs (ag z D (.lst (ys++[y])))))
    (λσ3 j=>∃m',m'<xs.length - i/\(m'=xs.length - (i+1)/\i+1<=xs.length/\S σ3/\∃zs,j D=some (.lst zs)/\ac H1 j/\P (i+1) zs j)) (e2 xs q) hS hd hs hp
    (λσ3 y z J G O a4=>⟨ys,G _ _ hd,O,xs.length - (i+1),by omega,rfl,U,J,ys++[y],aD,fj (hs.trans G) Y,a4⟩)
    (λσ3 j J G O=>⟨xs.length - (i+1),by omega,rfl,U,J,ys,G _ _ hd,hs.trans G,O⟩)
 have e:i=xs.length:=by omega
 subst e;exact .inl ⟨⟨xs,q,aK _⟩,done ys H hd hs hp⟩
theorem GF{σ0:L2.St}(hD:H1 D=none)(hx:aa K H1 a xs)(S:L2.St->Prop)(P:Nat->ae->Hp->Prop)(s0:S σ0)(st:P 0 [] (ag H1 D (.lst [])))
 (a0:∀i x ys Z H (k:L2.St->V->Hp->Prop),xs[i]?=some x->S Z->H D=some (.lst ys)->ac H1 H->P i ys H ->
  (∀σ3 y j,S σ3->ac H j->ys.length<sizeLine->P (i+1) (ys++[y]) (ag j D (.lst (ys++[y])))->k σ3 y j)->g x Z H λσ3 H3=>te σ3 H3 (k σ3))
 (done:∀ys H,H D=some (.lst ys)->ac H1 H->P xs.length ys H->Q H) :
 ∃W:Nat->Nat->L2.St->Hp->Prop,(∃m,W 0 m σ0 (ag H1 D (.lst [])))/\lq (nK K a) g qL te D (λH'=>Q H') W:=
 rF hD hx S P s0 st (λi x ys Z H k k' z G J O U Y _=>a0 i x ys Z H k z G J O U Y) done
end
abbrev dI (ms:List Int):W.Dat:=.tuple (ms.map W.Dat.int)
theorem ai0{a b:List Int}:dI a=dI b↔a=b:=⟨λh=>(List.map_inj_right λx y z=>W.Dat.int.inj z).mp (W.Dat.tuple.inj h),λh=>by rw[h]⟩
theorem B1(n:Nat)(ms:List Int):W.kqdOk (n+1) (dI ms)=true:=by
 simp only[dI,W.kqdOk,ip,ca];rintro d ⟨i,_,rfl⟩;simp[W.kqdOk]
theorem GG{ms:List Int}(h:H m=some (.tup (ms.map V.int))):DV K H (.ref m) (dI ms):=.tup (bh.of h) (LJ ms)
def qb(H:Hp)(v:V)(ms:List Int):Prop:=∃m,v=.ref m/\H m=some (.tup (ms.map V.int))
theorem qb.same{H':Hp}(s:ac H H'){v:V}{ms:List Int}(h:qb H v ms):qb H' v ms:=h.elim λm j=>j.elim λa b=>⟨m,a,s _ _ b⟩
theorem Q1{j:Ll}(h:Paired (qb H) vs j):iw K H vs (j.map dI):=by
 induction h with
 | nil=>exact .nil
 | cons r t z=>
  obtain⟨m,rfl,e⟩:=r;exact .cons (GG e) z
theorem Q2(n:Nat)(j:Ll):W.kqdOk (n+2) (.list (j.map dI))=true:=by
 rw[W.kqdOk,ip];intro d hd;obtain⟨ms,_,rfl⟩:=ca.mp hd;exact B1 n ms
theorem ai2{p:cy}(h:ps[i]?=some p)(j:cy->Bool):(ps.take (i+1)).filter j=(ps.take i).filter j++(if j p=true then [p] else []):=by
 rw[gY,h,zX]
 congr 1
 show List.filter j [p]=_;rw[nw];rfl
inductive Q3 (K:Fg) (C:Addr):Sp where
 | mk {H:Hp}{Q:VK}{E:XK}{a n:Addr}{j:Int}{xs:ae}{ps:Lp}{ns:Ls} (_:H a=some (.lst xs)) (_:eF C H xs ps) (_:ps.length<=100) (_:H n=some (.lst (ns.map V.str))) (_:ns.length<=4) (_:∀c H' ch,H c=none->ac H H'->dj H' c ch->qa xs ps ch->(ch.map (·.1)).Nodup->ch.length<=4->Q (.ref c) H'):Q3 K C [.ref a,.ref n,.int j] H Q E
theorem yH:aP [asL,asA,asx,"_law_chosen_here",asE,"_law_makes",asr] [asL,asA,asx] (aA Pk):=aV
theorem ai3(J:Pg K mg base Pt):aw P w K mg base aI 2 J.Cho.f J.Cho.fd [asL,asA,asx] (Q3 K J.C):=by
 refine J.Cho.u.okL yH ?_;intro av A outer s H vs Q E hr h xX dX;obtain @⟨_,_,_,a,n,a0,xs,ps,ns,ha,bM,BZ,hn,n4,q⟩:=h;have hu:=hr.units;have hk:∀(H':Hp) kv f,dN H' kv f->kv.1=Sum.inr f.1:=λ_ kv f z=>z.1;refine⟨_,(ai (aM (i:=3) yH.nd rfl (Or.inl rfl) lE)
  (ai (eO dQ rfl (pq rfl J.B.range (al (cg fA (by rfl) J.B.len eX (al (pv 1))))) (be (i:=4) yH.nd rfl (Or.inr rfl))
  (ai (qN (i:=5) [ata] [asA,asE] [1,4] yH.nd rfl rfl dM rfl (cG (pv 0)) (λ_ _ _ _=>(be (i:=0) (show List.Nodup ([ata,asA,asE]:Ls) by decide +kernel) rfl (Or.inl rfl))) (λ_ _ _ _=>pL (bL fV (iU K (pv 0) rfl) (bO (EF K) (pv 1) (pv 2) (λ_ _=>rfl)) (bC _))) (λ_ _ _ _=>(iU K (pv 0) rfl)))
   (ai (aM (i:=6) yH.nd rfl (Or.inl rfl) (ay (gF J) hr rfl (aL (pv 2) (aJ fU ar (pv 4)))))
   (aj (bN (PW.pt (mn (bL (AI hu) (pv 5) (df dG) (bC _)) (ph (bL Kx (aJ cH (pv 6) ar) ar (bC _)))))
   (aj (iT hu (pv 3) (bO fW (pv 1) (pv 4) (λ_ _=>rfl)) (bO fW (pv 5) (aJ cH (aJ iQ (pv 6) ar) (cg fA (by rfl) J.B.len eX (al (pv 5)))) (λ_ _=>rfl)) rfl)) cD)))))
  (aj (aX (pv 3))))),?_⟩
 refine jn ?_;intro dD sS gr dU;refine λc H1 n1 s1 e1=>?_;refine⟨n,_,rfl,.inl (aa.of (s1 _ _ hn)),by omega,by rw[ak];omega,?_⟩;refine uX (n:=(ns.map V.str).length) (λi Z H2=>∃(u v z:Option V) (kvs:List (ao×V)) (ch:Ch),Z=[some (.ref a),some (.ref n),some (.int a0),some (.ref c),u,v,z]/\ac H H2/\H2 c=some (.dK kvs)/\Paired (dN H2) kvs ch/\qa xs ps ch/\(ch.map (·.1)).Nodup/\ch.length<=i) ⟨none,none,none,[],[],rfl,s1,e1,.nil,(λ_ h=>nomatch h),kR,aK _⟩ ?_ ?_
 . intro i Z H2 hi gQ;refine bq ?_;intro tT;obtain⟨u,v,z,kvs,ch,rfl,U,hc,rE,hV,rD,mQ⟩:=gQ;rw[ak]at hi;obtain⟨x,hx⟩:∃x,ns[i]?=some x:=⟨ns[i],by simp[hi]⟩;have jB:cI (ns.map V.str) (0+(i:Int))=some (V.str x):=by
    rw[Int.zero_add];exact AB (by rw[c8,hx];rfl)
   refine⟨⟨_,aa.of (U _ _ ha)⟩,?_⟩;intro D hD;refine rF (σ0:=[none,some (.ref n),some (.int (0+(i:Int)))]) hD (aa.of (U _ _ ha)) (λZ=>∃v,Z=[v,some (.ref n),some (.int (0+(i:Int)))]) (λj zs H3=>zs.length<=j/\∃O,Paired (qb H) zs O/\∀ms∈O,∃v p,um xs ps v p/\p.nm=x/\p.ms=ms) ⟨_,rfl⟩ ⟨aK _,[],.nil,λ_ h=>nomatch h⟩ ?_ ?_
   . intro j y zs Z H3 k k' hy gR hd h3 pW fJ jr;refine bq ?_;intro tT;obtain⟨v,rfl⟩:=gR;obtain⟨zl,O,pr,pm⟩:=pW;obtain⟨p,hp,b,dy,fl,rk,m,pf,pn,jL,po,ys,rfl,b1,b2,b3,b4,b5,b6⟩:=fc bM hy;have s3:=U.trans h3;have aT:=(cM.mp hp).1;refine⟨s3 _ _ b1,J.TC.cl,J.TC.nN,b2.name,aa.of (s3 _ _ hn),jB,rfl,⟨?_⟩⟩;refine bv (λh=>?_) (λh=>?_)
     . have en:p.nm=x:=by
        have h:=cT h;injection h
       refine⟨s3 _ _ b1,J.TC.cl,J.TC.nM,b2.make,?_⟩;refine fJ _ _ _ ⟨_,rfl⟩ (ac.refl _) (bQ (by omega)) ⟨by rw[bI,jU];omega,O++[p.ms],iD ⟨m,rfl,b3⟩ pr,λms hm=>?_⟩
       rcases bY.mp hm with z | z
       . exact pm ms z
       exact⟨_,p,⟨j,hp,hy⟩,en,(bF.mp z).symm⟩
     exact jr _ _ ⟨_,rfl⟩ (ac.refl _) ⟨by omega,O,pr,pm⟩
   intro zs H3 hd h3 uc;refine bq ?_;intro tT;obtain⟨zl,O,pr,pm⟩:=uc;have s3:=U.trans h3;have ll:=bD bM;have GH:=h3 _ _ hc;have ky:=aq pr λ_ _=>qb.same s3;have Q4:=aq rE λ_ _=>dN.same h3;refine⟨⟨⟨⟨λa3=>?_⟩⟩⟩⟩;refine⟨AQ,λe Y n4 G e4=>?_⟩;refine⟨.list (O.map dI),.list [],.lst (aa.of (G _ _ hd)) (Q1 (aq ky λ_ _=>qb.same G)),.lst (aa.of e4) .nil,Q2 7 _,Q2 7 [],λbb hb=>⟨?_⟩⟩;have keep:∀u v z,∃(u' v' z':Option V) (kvs:List (ao×V)) (ch:Ch),[some (V.ref a),some (V.ref n),some (V.int a0),some (V.ref c),u,v,z]=[some (V.ref a),some (.ref n),some (.int a0),some (.ref c),u',v',z']/\ac H Y/\Y c=some (.dK kvs)/\Paired (dN Y) kvs ch/\qa xs ps ch/\(ch.map (·.1)).Nodup/\ch.length<=i+1:=
    λu v z=>⟨u,v,z,kvs,ch,rfl,s3.trans G,G _ _ GH,aq Q4 λ_ _=>dN.same G,hV,rD,by omega⟩
   refine bv (λcU=>?_) (λcU=>?_)
   . refine⟨(by show(0:Int)<4;decide),⟨⟨?_⟩⟩⟩;refine bv (λa2=>?_) (λa2=>keep _ _ _);have pP:0<zs.length:=by
      cases zs with
      | nil=>
       cases pr;have hb:bb=true:=hb.mpr rfl;rw[hb]at cU;cases cU
      | cons y ys=>simp
     obtain⟨y,hy,GB⟩:=Eu (xs:=zs) (r:=a3 / 4 % (zs.length:Int)) (sq _ (by omega)) (uQ _ (by omega));obtain⟨ms,GI,m,rfl,em⟩:=fc ky GB;obtain⟨v0,p0,jE,en,a1⟩:=pm ms (da GI);refine⟨⟨by omega,by omega⟩,D,_,rfl,.inl (aa.of (G _ _ hd)),(by show(0:Int)<(zs.length:Int);omega),aa.of (G _ _ hd),hy,?_⟩;refine⟨aa.of (G _ _ (s3 _ _ hn)),jB,?_⟩;have pl:=bD rE;refine⟨fX.k (k:=.inr x) (G _ _ GH) (bQ (by omega)),?_⟩;refine⟨_,_,_,_,bP ch x ms,rfl,fj (s3.trans G) n1,aD,?_,λe he=>?_,lH rD,cn (lI ch x ms) (by omega)⟩
     . refine aq (iZ (F:=dN Y) (hk Y) ⟨rfl,m,rfl,G _ _ em⟩ (aq Q4 λ_ _=>dN.same G)) λkv f z=>?_;obtain⟨z1,m',z2,z3⟩:=z;exact⟨z1,m',z2,aC z3 (aU z3 (G _ _ GH) (by intro z;cases z))⟩
     rcases kj he with e' | he
     . rw[e'];exact⟨v0,p0,jE,en,a1⟩
     exact hV e he
   exact cL (keep _ _ _)
 intro Z H2 ud;refine bq ?_;intro tT;obtain⟨u,v,z,kvs,ch,rfl,U,hc,rE,hV,rD,mQ⟩:=ud;rw[ak]at mQ;exact⟨q c H2 ch n1 U ⟨kvs,hc,rE⟩ hV rD (by omega)⟩
def ai6:V->ae->Hp->VK->Prop:=λx vs H Q=>∃a kvs k y,x=.ref a/\vs=[kV k,y]/\H a=some (.dK kvs)/\kvs.length<sizeLine/\∀z j H',bi j k=some z->((j=kvs)\/(bi kvs k=none/\z=y/\j=cx kvs k y))->H' a=some (.dK j)->(∀b o,H b=some o->b≠a->H' b=some o)->Q z H'
theorem ai7{X:Cx}:nV X "dict.setdefault" ai6:=by
 intro ad s Z H x xs v us Q I U O h;obtain⟨a,kvs,k,y,rfl,rfl,e,G,q⟩:=h;refine acs ad s Z H _ _ v us Q I U O ⟨a,kvs,k,y,rfl,rfl,e,G,λz hz=>q z kvs H hz (.inl rfl) e λ_ _ e _=>e,λJ=>q y _ _ ?_ (.inr ⟨J,rfl,rfl⟩) aD λb o e j=>aC e j⟩;rw[AC,am rfl]
theorem yI(xs:Ls):(xs.map V.str).all pD=true:=by
 rw[ip];intro v j;obtain⟨z,_,rfl⟩:=ca.mp j;rfl
theorem ai8{z:Str}{xs:Ls}(h:z∈xs):nU (.str z) (xs.map V.str)=true:=by
 unfold nU;rw[sk];exact⟨_,ca.mpr ⟨z,h,rfl⟩,by simp[lj]⟩
theorem ai9{α:Type}{xs:List α}{j:Nat}(h:j<xs.length):∃v,cI xs (-1 - (0+(j:Int)))=some v:=by
 unfold cI pC;rw[ah (by omega),am (by omega),Option.bind_some];have:((-1 - (0+(j:Int))+(xs.length:Int)).toNat)<xs.length:=by omega
 exact⟨_,gX this⟩
theorem aja{L:List Addr}{H':Hp}(G:H p=none)(s:ac H H'):ac (msk L H) (msk (p::L) H'):=λb o e=>by
 unfold msk at e;split at e
 . cases e
 rename_i j;refine cj ?_ (s _ _ e);rw[bf,ny];exact⟨λz=>(by rw[z,G]at e;cases e),j⟩
theorem ajb{L:List Addr}{H':Hp}(s:∀b o,H b=some o->b∉L->H' b=some o):ac (msk L H) (msk L H'):=λb o e=>by
 unfold msk at e;split at e
 . cases e
 exact cj ‹_› (s _ _ e ‹_›)
def ajc(Q:Addr->Hp->Prop):VK:=λv H=>match v with | .ref x=>Q x H | _=>False
theorem ajd{C:Addr}{Q:Addr->Hp->Prop}{E:XK}{nm:Str}{j G z:Addr}{mk:List Int}{rk:Int}{os:Ls}{fs:List (Str×Ls)}(U:H m=some (.tup (mk.map V.int)))(O:H fa=some (.lst xs))(lN:Paired (jK H) xs fs)
 (Y:H j=some (.lst [])) (hs:H G=some (.lst [])) (ho:H z=some (.lst (os.map V.str))) (J:fs.length<=1000) (q:∀x H',H x=none->ac H H'->(∀L,gD H L->jp C (msk L H') (.ref x) ⟨nm,mk,fs,os,rk⟩)->Q x H') :
 ∀x dx,H x=none->H dx=none->dx≠x->BV K C (.ref x::([.str nm,.ref m,.int rk,.ref fa,.ref j,.ref G,.ref z]++[])) (ag (ag H dx (.own x)) x (.ins C dx [])) (λv H2=>v=.non/\Q x H2) E:=
 aiG (Q:=ajc Q) U O lN Y hs ho J q
theorem i4.ln(h:i4 x):Ln x:=⟨vi.mpr λc j=>by have:=h.sg c j;omega,h.hi⟩
theorem cJ.ln(h:cJ x):Ln x:=⟨vi.mpr λc j=>by have:=h.az c j;omega,by have:=h.hi;omega⟩
theorem dC.len(h:dC x):x.length<=36:=by
 obtain⟨ps,rfl,h1,h2,j⟩:=h;have:=Gk (sep:=lK) (b:=8) (λp z=>(j p z).hi) (by decide +kernel);omega
theorem dC.ln(h:dC x):Ln x:=⟨vi.mpr λc j=>by have:=h.signs c j;omega,by have:=h.len;omega⟩
structure uo(ns:Ls)(ps:Lp)(uk:List (ao×V))(i:Nat):Prop where
 nd:(ps.map gH).Nodup
 ok:∀p∈ps,p.fs.length<=3/\GD p.fs/\(p.fs.map (·.1)).Nodup
 used:∀p∈ps,∀x∈p.fs.map (·.1),bi uk (.inr x)=some (.str p.nm)
 txts:∀k v,bi uk k=some v->∃y,v=.str y
 len:ps.length<=i
 nms:∀p∈ps,p.nm∈ns
 offs:∀p∈ps,p.os.length<=2/\∀t∈p.os,t∈ns
 mks:∀p∈ps,f9 p.ms
structure Apart(ns:Ls)(ps:Lp):Prop where
 nd:(ps.map gH).Nodup
 ok:∀p∈ps,p.fs.length<=3/\GD p.fs/\(p.fs.map (·.1)).Nodup
 one:∀p∈ps,∀p'∈ps,∀x,x∈p.fs.map (·.1)->x∈p'.fs.map (·.1)->p.nm=p'.nm
 len:ps.length<=6
 nms:∀p∈ps,p.nm∈ns
 offs:∀p∈ps,p.os.length<=2/\∀t∈p.os,t∈ns
 mks:∀p∈ps,f9 p.ms
theorem uo.apart{ns:Ls}{U:List (ao×V)}(h:uo ns ps U 6):Apart ns ps:=by
 refine⟨h.nd,h.ok,λp z O j x G J=>?_,h.len,h.nms,h.offs,h.mks⟩;have a:=h.used p z x G;have b:=h.used O j x J;rw[a]at b;injection b with b
 injection b
structure Q5(fs:Tr)(uk:List (ao×V))(nm:Str)(j:Nat):Prop where
 nd:(fs.map (·.1)).Nodup
 used:∀x∈fs.map (·.1),bi uk (.inr x)=some (.str nm)
 ok:GD fs
 len:fs.length<=j
inductive Q6 (K:Fg) (C:Addr) (vs:ae) (H:Hp) (Q:VK) (E:XK):Prop where
 | mk (sc n:Addr) (is:List Int) (ns:Ls) (_:vs=[.ref sc,.ref n,.int 3]) (_:aa K H sc (is.map V.int)) (_:H n=some (.lst (ns.map V.str))) (_:1<=ns.length) (_:ns.length<=4) (_:∀j H' vs ps,H j=none->ac H H'->H' j=some (.lst vs)->eF C H' vs ps->Apart ns ps->Q (.ref j) H'):Q6 K C vs H Q E
theorem kz:aP [ast,asA,atg,atj,"_law_used",asE,asx,as8,as6,"_law_j",atk,"_law_offers","_law_rank","_law_parcel","_law_mine"] [ast,asA,atg] (aA BB):=aV
theorem aje(G:Pg K mg base Pt):aw P w K mg base aI 3 G.PAp.f G.PAp.fd [ast,asA,atg] (Q6 K G.C):=by
 refine G.PAp.u.ok kz (λvs H Q E h=>?_) (λav A outer s H vs Q E hr h=>?_)
 . obtain⟨sc,n,is,ns,rfl,_⟩:=h;rfl
 refine tP ?_;intros;obtain⟨sc,n,is,ns,rfl,aE,hn,vX,Q7,q⟩:=h;have hu:=hr.units;have aR:(A.deeper (PyProof.Rows.envOfC as9 (aA BB) s.heap.objs.size G.PAp.f av)).units+65<cLine:=by have:=hr.un;omega
 have dv:ce 1 (A.deeper (PyProof.Rows.envOfC as9 (aA BB) s.heap.objs.size G.PAp.f av)):=hr.mono (by decide);refine⟨_,(ai (aM (i:=3) kz.nd rfl (Or.inl rfl) (df dG))
  (ai (aM (i:=4) kz.nd rfl (Or.inl rfl) lE)
  (ai (eO dQ rfl (DH rfl G.B.range (aL (pv 2) (aJ fU (pv 2) ar))) (be (i:=5) kz.nd rfl (Or.inl rfl))
  (ai (aM (i:=6) kz.nd rfl (Or.inl rfl) (ay (vS G) dv rfl (aL (pv 0) (pv 5))))
   (ai (aM (i:=7) kz.nd rfl (Or.inr rfl) (bO fW (pv 1) (aJ cH (aJ fU (pv 6) (pv 5)) (cg fA (by rfl) G.B.len eX (al (pv 1)))) (λ_ _=>rfl)))
   (ai (aM (i:=8) kz.nd rfl (Or.inl rfl) (df dG))
   (ai (eO dQ rfl (pq rfl G.B.range (al (aJ cH (ay (gF G) dv rfl (aL (pv 6) ar)) ar))) (be (i:=9) kz.nd rfl (Or.inl rfl))
   (ai (aM (i:=10) kz.nd rfl (Or.inl rfl) (ay (Ge G) dv rfl (al (ay (gF G) dv rfl (aL (pv 6) (aJ fU ar (pv 9)))))))
    (aj (bN (PW.pt (mn (bL fV (db zM aqw PySem.F.type_dict_setdefault ai7 (pv 4) (aL (pv 10) (pv 7))) (pv 7) (bC _)) (ph (bL Zk (pv 10) (fY [ata] [] [] dM rfl (cG (pv 8)) (λ_ _ _ _=>(be (i:=0) (show List.Nodup ([ata]:Ls) by decide +kernel) rfl (Or.inl rfl))) (λ_ _ _ _=>gj) (λ_ _ _ _=>(bO (acb K) (pv 0) ar (λ_ _=>rfl)))) (by rfl)))))
    (aj (bB (db gZ qA qB mx (pv 8) (al (eT (aL (pv 10) (ay (BH G) hr rfl (al (ay (gF G) dv rfl (aL (pv 6) (aJ fU ar (pv 9)))))))))))) cD))))
   (ai (qN (i:=11) ["_law_j"] [asA] [1] kz.nd rfl rfl dM rfl (pq rfl G.B.range (al (cg (Yd rfl) (by rfl) G.B.min PyProof.Rows.boot_min (aL (cg fA (by rfl) G.B.len eX (al (pv 1))) (aJ iQ (aJ cH (ay (gF G) dv rfl (aL (pv 6) ar)) ar) ar))))) (λ_ _ _ _=>(be (i:=0) (show List.Nodup (["_law_j",asA]:Ls) by decide +kernel) rfl (Or.inl rfl))) (λ_ _ _ _=>gj) (λ_ _ _ _=>(bO (EF K) (pv 1) (aJ uZ (uY vc ar) (pv 0)) (λ_ _=>rfl))))
   (ai (aM (i:=12) kz.nd rfl (Or.inl rfl) (bO fW (df (aL (aJ cH (ay (gF G) dv rfl (aL (pv 6) ar)) ar) (aJ cH (pv 6) (aJ DP ar ar)))) (aJ cH (ay (gF G) dv rfl (aL (pv 6) ar)) ar) (λ_ _=>rfl)))
   (ai (aM (i:=13) kz.nd rfl (Or.inl rfl) (tu G.MPIn (up (aix G)) hr rfl G.TC.mgC G.PIn.b .nil bJ (jg (pv 7) (jg (ay (ag5 G) dv rfl (al (ay (gF G) dv rfl (aL (pv 6) ar)))) (jg (pv 12) (AY (pv 8) (df dG) (df dG) (pv 11)))))))
   (ai (qN (i:=14) [ata] [as8] [7] kz.nd rfl rfl dM rfl (cG (pv 3)) (λ_ _ _ _=>(be (i:=0) (show List.Nodup ([ata,as8]:Ls) by decide +kernel) rfl (Or.inl rfl))) (λ_ _ _ _=>pL (bL fV (iU K (pv 0) rfl) (pv 1) (bC _))) (λ_ _ _ _=>(iU K (pv 0) rfl)))
   (aj (bN (PW.pt (mn (bL qJ (cg fA (by rfl) G.B.len eX (al (pv 14))) ar (bC _)) (ph (bL (acK aR) (bG (pv 13) rfl) (pv 14) (by rfl)))))
   (aj (bB (db gZ qA qB mx (pv 3) (al (pv 13))))) cD)))))))))))
  (aj (aX (pv 3)))))),?_⟩
 refine lG ?_;intro dD sS oH gr dU;refine⟨AQ,λU Ha na sa ea=>?_⟩;refine λO Hb nb sb eb=>?_;have fu:U≠O:=aO ea nb;have yJ:H O=none:=sa.free nb;refine⟨⟨by omega,by omega,by omega,by omega⟩,?_⟩;refine uX (lo:=3) (n:=6) (λi Z H2=>∃(t5 t6 t7 t8 t9 jC mJ mK mL mM:Option V) (vs:ae) (ps:Lp) (uk:List (ao×V)),Z=[some (.ref sc),some (.ref n),some (.int 3),some (.ref U),some (.ref O),t5,t6,t7,t8,t9,jC,mJ,mK,mL,mM]/\ac H H2/\H2 U=some (.lst vs)/\H2 O=some (.dK uk)/\eF G.C (msk [U,O] H2) vs ps/\uo ns ps uk i/\uk.length<=3 * i)
  ⟨none,none,none,none,none,none,none,none,none,none,[],[],[],rfl,sa.trans sb,sb _ _ ea,eb,.nil,⟨kR,(λ_ h=>nomatch h),(λ_ h=>nomatch h),(λ_ _ h=>nomatch h),aK _,(λ_ h=>nomatch h),(λ_ h=>nomatch h),(λ_ h=>nomatch h)⟩,aK _⟩ ?_ ?_
 . intro i Z H2 hi fM;refine bq ?_;intro tT;obtain⟨t5,t6,t7,t8,t9,jC,mJ,mK,mL,mM,vs,ps,uk,rfl,s2,jJ,GJ,bM,a2,ul⟩:=fM;refine adE ?_;intros;refine⟨by omega,s2.seq aE,λa1=>?_⟩;have pP:(0:Int)<((ns.map V.str).length:Int):=by rw[ak];omega
   obtain⟨nm,ap,a4⟩:=vn (xs:=ns) (r:=(a1+(3+(i:Int))) % ((ns.map V.str).length:Int)) (sq _ (by omega)) (by have:=uQ (a1+(3+(i:Int))) pP;rw[ak]at *;exact this);refine⟨n,_,rfl,.inl (aa.of (s2 _ _ hn)),pP,aa.of (s2 _ _ hn),ap,?_⟩;refine⟨AQ,λla H3 n3 s3 e3=>?_⟩;have lf:la≠U:=(aO jJ n3).symm;have lu:la≠O:=(aO GJ n3).symm;refine⟨⟨λm1=>?_⟩⟩;refine⟨(by show(0:Int)<4;decide),by omega,by omega,?_⟩;refine uX (n:=(m1 % 4).toNat) (λj Z H3=>∃(t9 jC:Option V) (qe:ae) (fs:Tr) (uk:List (ao×V)),Z=[some (.ref sc),some (.ref n),some (.int 3),some (.ref U),some (.ref O),some (.int (3+(i:Int))),some (.int a1),some (.str nm),some (.ref la),t9,jC,mJ,mK,mL,mM]/\ac H H3/\H3 U=some (.lst vs)/\H3 O=some (.dK uk)/\H3 la=some (.lst qe) /\
    eF G.C (msk [la,U,O] H3) vs ps/\Paired (jK (msk [la,U,O] H3)) qe fs/\uo ns ps uk i/\Q5 fs uk nm j/\uk.length<=3 * i+j)
    ⟨_,_,[],[],uk,rfl,s2.trans s3,s3 _ _ jJ,s3 _ _ GJ,e3,bM.same (aja n3 s3),.nil,a2,⟨kR,(λ_ h=>nomatch h),(λ_ h=>nomatch h),aK _⟩,ul⟩ ?_ ?_
   . intro j Z H4 hj gQ;refine bq ?_;intro tT;obtain⟨GK,GL,qe,fs,vY,rfl,s4,uq,vZ,GN,v8,B2,J,jM,b7⟩:=gQ;refine mI ?_;intros;have j3:j<3:=by omega
     refine⟨⟨⟨⟨λm2=>?_⟩⟩⟩⟩;refine⟨λx H5 ab s5=>ab.elim λQ8 _=>?_⟩;have lx:=Q8.ln;refine⟨.inr (.inr (.inl ⟨rfl,.inl ⟨_,s5 _ _ vZ⟩⟩)),O,vY,.inr x,.str nm,rfl,rfl,s5 _ _ vZ,bQ (by omega),λz v9 H6 hz GO GP k6=>?_⟩;have mono:∀a3 v,bi vY a3=some v->bi v9 a3=some v:=by
      rcases GO with rfl | ⟨h1,_,rfl⟩
      . exact λ_ _ h=>h
      intro a3 v hv;rw[AC];split
      . rename_i e;rw[e,h1]at hv;cases hv
      exact hv
     have B3:v9.length<=3 * i+(j+1):=by
      rcases GO with rfl | ⟨_,_,rfl⟩
      . omega
      have:=xB vY (.inr x) (.str nm);omega
     have Q9:∀k v,bi v9 k=some v->∃y,v=.str y:=by
      rcases GO with rfl | ⟨_,_,rfl⟩
      . exact J.txts
      intro k v hv;rw[AC]at hv;split at hv
      . cases hv;exact⟨nm,rfl⟩
      exact J.txts k v hv
     obtain⟨z',rfl⟩:=Q9 _ _ hz;have Ra:ac H H6:=λb o e=>k6 _ _ (s5 _ _ (s4 _ _ e)) (λz=>by rw[z,yJ]at e;cases e);have GQ:=k6 _ _ (s5 _ _ uq) fu;have wa:=k6 _ _ (s5 _ _ GN) lu;have xQ:ac (msk [la,U,O] H4) (msk [la,U,O] H6):=(gP s5).trans (ajb λb o e Y=>k6 _ _ e (λz=>Y (by rw[z];simp)));have B4:=aq B2 λ_ _=>jK.same xQ;have Rc:uo ns ps v9 i:=⟨J.nd,J.ok,λp hp y hy=>mono _ _ (J.used p hp y hy),Q9,J.len,J.nms,J.offs,J.mks⟩;have keep:∀(t9 jC:Option V) (H7:Hp),ac H6 H7->∃(GK GL:Option V) (qe:ae) (fs:Tr) (uk:List (ao×V)),[some (V.ref sc),some (.ref n),some (.int 3),some (.ref U),some (.ref O),some (.int (3+(i:Int))),some (.int a1),some (.str nm),some (.ref la),t9,jC,mJ,mK,mL,mM]=[some (V.ref sc),some (.ref n),some (.int 3),some (.ref U),some (.ref O),some (.int (3+(i:Int))),some (.int a1),some (.str nm),some (.ref la),GK,GL,mJ,mK,mL,mM]/\ac H H7/\H7 U=some (.lst vs)/\H7 O=some (.dK uk)/\H7 la=some (.lst qe) /\
      eF G.C (msk [la,U,O] H7) vs ps/\Paired (jK (msk [la,U,O] H7)) qe fs/\uo ns ps uk i/\Q5 fs uk nm (j+1)/\uk.length<=3 * i+(j+1):=
      λt9 jC H7 s7=>⟨t9,jC,qe,fs,v9,rfl,Ra.trans s7,s7 _ _ GQ,s7 _ _ GP,s7 _ _ wa,v8.same (xQ.trans (gP s7)),aq B4 (λ_ _=>jK.same (gP s7)),Rc,⟨jM.nd,λy hy=>mono _ _ (jM.used y hy),jM.ok,Nat.le_succ_of_le jM.len⟩,B3⟩
     refine⟨rfl,⟨bv (λB5=>?_) (λB5=>cL (keep _ _ H6 (ac.refl _)))⟩⟩;have ez:z'=nm:=by
      have h:=cT B5;injection h
     subst ez;refine⟨⟨_,aa.of wa⟩,?_⟩;refine xH (σ0:=[none]) (aa.of wa) (λZ=>∃v,Z=[v]) (λi zs _=>zs=((fs.map (·.1)).take i).map V.str) ⟨_,rfl⟩ (λ_ _=>rfl) ?_ ?_
     . rintro D i' y zs Z H7 k hD hy ⟨v,rfl⟩ hd h7 rfl hk;obtain⟨⟨px,ls⟩,GC,t,l,rfl,t1,t2⟩:=fc B4 hy;have a0:cI [V.str px,V.ref l] 0=some (V.str px):=rfl;refine⟨bh.of (h7 _ _ (aQ _ _ t1)),a0,?_⟩;have b8:=jM.len;refine hk _ _ _ ⟨_,rfl⟩ (ac.refl _) (bQ (by rw[ak,eW,ak];omega)) ?_;rw[gY,c8,GC,dq];rfl
     rintro D zs H7 hD hd h7 rfl;have fl:=bD B4;rw[fl,<-ak (f:=(·.1)),eI]at hd;refine⟨.inl (aa.of hd),rfl,yI _,⟨bv (λAZ=>?_) (λAZ=>keep _ _ H7 h7)⟩⟩;have ax:x∉fs.map (·.1):=λhm=>by
      have h:(!nU (.str x) ((fs.map (·.1)).map V.str))=true:=AZ;rw[ai8 hm]at h;cases h
     refine⟨.inl ⟨rfl,_,aa.of (h7 _ _ wa)⟩,⟨⟨⟨⟨⟨λm3=>?_⟩⟩⟩⟩⟩⟩;refine⟨λl H8 ls n8 s8 e8 l4 Rf=>?_⟩;have bm:mG ls:=⟨by omega,λx hx=>(Rf x hx).ln⟩;refine⟨Ah,λt H9 n9 s9 e9=>?_⟩;have wb:ac H6 H9:=h7.trans (s8.trans s9);have b8:=jM.len;have bd:=bD B2;refine⟨wb _ _ wa,bQ (by omega),?_⟩;have busy:∀Hx,ac H6 Hx->gD Hx [la,U,O]:=λHx sx b Y=>by
      simp only[bf,ft,fw]at Y
      rcases Y with rfl | rfl | rfl
      . exact⟨_,sx _ _ wa,by intro vs z;cases z⟩
      . exact⟨_,sx _ _ GQ,by intro vs z;cases z⟩
      exact⟨_,sx _ _ GP,by intro vs z;cases z⟩
     have Bl:H la=none:=s2.free n3;refine⟨_,_,qe++[.ref t],fs++[(x,ls)],v9,rfl,fj (Ra.trans wb) Bl,aC (wb _ _ GQ) lf.symm,aC (wb _ _ GP) lu.symm,aD,?_,?_,Rc,⟨?_,?_,?_,?_⟩,B3⟩
     . rw[q5 bH];exact v8.same (xQ.trans (gP wb))
     . rw[q5 bH];exact iD ⟨t,l,rfl,cj ((busy H8 (h7.trans s8)).free n9) e9,cj ((busy H7 h7).free n8) (s9 _ _ e8)⟩ (aq B4 λ_ _=>jK.same (gP wb))
     . rw[dq,qw];refine⟨jM.nd,by simp,λa ha b Y=>?_⟩;have Y:b=x:=bF.mp Y;rw[Y];exact λe=>ax (e▸ha)
     . intro y hy;rw[dq]at hy
       rcases bY.mp hy with hy | hy
       . exact mono _ _ (jM.used y hy)
       have hy:y=x:=bF.mp hy;rw[hy];exact hz
     . intro f' ur
       rcases bY.mp ur with h' | h'
       . exact jM.ok f' h'
       rw[bF.mp h'];exact⟨Q8,Rf,l4⟩
     rw[bI,jU];omega
   intro Z H4 gR;refine bq ?_;intro tT;obtain⟨GK,GL,qe,fs,vY,rfl,s4,uq,vZ,GN,v8,B2,J,jM,b7⟩:=gR;refine vt ?_;intros;have b8:fs.length<=3:=by have:=jM.len;omega
   refine⟨n,_,rfl,.inl (aa.of (s4 _ _ hn)),⟨⟨λm4=>?_⟩⟩⟩;obtain⟨r,pT,r0,r4,r2⟩:∃r:Int,(if m4 % 6 / 2<((ns.map V.str).length:Int) then m4 % 6 / 2 else((ns.map V.str).length:Int))=r/\0<=r/\r<=ns.length/\r<=2:=by
    refine⟨_,rfl,?_⟩;rw[ak];split<;>omega
   refine⟨(by show(0:Int)<6;decide),⟨by omega,by omega⟩,_,_,rfl,by omega,by omega,?_⟩;refine vk (σ0:=[none,some (.ref n)]) (λZ=>∃v,Z=[v,some (.ref n)]) (λi ys _=>∃ts:Ls,ys=ts.map V.str/\ts.length=i/\∀t∈ts,t∈ns) ⟨_,rfl⟩ (λ_ _=>⟨[],rfl,rfl,λ_ h=>nomatch h⟩) ?_ ?_
   . rintro D i' ys Z H5 k hD vA ⟨v,rfl⟩ hd h5 hl hk;obtain⟨ts,rfl,aF,aG⟩:=hl;obtain⟨y,hy⟩:=ai9 (xs:=ns.map V.str) (j:=i') (by rw[ak];omega);obtain⟨y',kU,rfl⟩:∃y',y'∈ns/\y=.str y':=by
      obtain⟨jj,_,hj,_⟩:=AA hy;obtain⟨y',m',e'⟩:=ca.mp (da hj);exact⟨y',m',e'.symm⟩
     refine⟨_,rfl,aa.of (h5 _ _ (s4 _ _ hn)),hy,?_⟩;exact hk _ _ _ ⟨_,rfl⟩ (ac.refl _) (bQ (by rw[ak];omega)) ⟨ts++[y'],tK ts y',by rw[bI,aF];rfl,λt ht=>(bY.mp ht).elim (aG t) λz=>by rw[bF.mp z];exact kU⟩
   intro oa bo H5 hD hd h5 pW;refine bq ?_;intro tT;obtain⟨os,rfl,Ba,az⟩:=pW;refine Mr ?_;intros;refine⟨⟨λm5=>?_⟩⟩;refine⟨(by show(0:Int)<3;decide),⟨by decide,by decide,by decide⟩,(by show(0:Int)<10 ^ (9:Int).toNat;decide),Ah,λq0 H6 n6 s6 e6=>?_⟩;refine⟨⟨λm6=>?_⟩⟩;obtain⟨rk,a',_⟩:=LL (ns:=[m5 % 3,a1 % 10 ^ (9:Int).toNat]) (r:=m6 % 2) (sq _ (by omega)) (by show m6 % 2<2;omega);refine⟨(by show(0:Int)<2;decide),aa.of e6,a',?_⟩;refine⟨⟨⟨λm7=>?_⟩⟩⟩;refine⟨λm H7 ms n7 s7 e7 A7=>?_⟩;refine⟨AQ,λq1 H8 n8 s8 e8=>?_⟩;refine⟨AQ,λq2 H9 n9 s9 e9=>?_⟩;have yK:ac H4 H9:=h5.trans (s6.trans (s7.trans (s8.trans s9)));refine⟨?_⟩;dsimp only[List.set,dY];refine ajd (K:=K) (C:=G.C) (rk:=rk) (nm:=nm) (mk:=ms) (fs:=fs) (s9 _ _ (s8 _ _ e7)) (yK _ _ GN) (aq B2 λ_ _ z=>(z.same aQ).same yK) (s9 _ _ e8) e9 (s9 _ _ (s8 _ _ (s7 _ _ (s6 _ _ hd)))) (by omega) λx Rg bn b0 Rh=>?_;have GR:=yK.trans b0;have Ri:=GR _ _ uq;have GS:eF G.C Rg vs ps:=(v8.same (gP GR)).same aQ;refine⟨⟨_,aa.of Ri⟩,?_⟩;refine EB (σ0:=[none,some (.str nm)]) (aa.of Ri) (λZ=>∃v,Z=[v,some (.str nm)]) (λj zs _=>zs.length<=j/\∃gt,Paired (qb Rg) zs gt/\∀p∈ps.take j,p.nm=nm->p.ms∈gt) ⟨_,rfl⟩ (λ_ _=>⟨aK _,[],.nil,λ_ h=>nomatch h⟩) ?_ ?_
   . intro D j y zs Z yL k k' hD hy uc GU ut ud fJ jr;refine bq ?_;intro tT;obtain⟨v,rfl⟩:=uc;obtain⟨zl,gt,pr,pm⟩:=ud
     skip
     obtain⟨p,hp,b,dy,fl,B6,m',pf,pn,jL,po,ys,rfl,b1,b2,b3,b4,b5,b6⟩:=fc GS hy;have aT:=(cM.mp hp).1;have il:=J.len;refine⟨ut _ _ b1,G.TC.cl,G.TC.nN,b2.name,rfl,⟨?_⟩⟩;refine bv (λh=>?_) (λh=>?_)
     . refine⟨ut _ _ b1,G.TC.cl,G.TC.nM,b2.make,?_⟩;refine fJ _ _ _ ⟨_,rfl⟩ (ac.refl _) (bQ (by omega)) ⟨by rw[bI,jU];omega,gt++[p.ms],iD ⟨m',rfl,b3⟩ pr,λp' bX e=>?_⟩;rw[gY,hp]at bX
       rcases bY.mp bX with z | z
       . exact wG _ (pm p' z e)
       have z:p'=p:=bF.mp z;rw[z];exact ff _ (bF.mpr rfl)
     refine jr _ _ ⟨_,rfl⟩ (ac.refl _) ⟨by omega,gt,pr,λp' bX e=>?_⟩;rw[gY,hp]at bX
     rcases bY.mp bX with z | z
     . exact pm p' z e
     have z:p'=p:=bF.mp z;rw[z]at e;exact absurd (by rw[e];exact bE rfl) h
   intro D zs yL hD GU ut yu;refine bq ?_;intro tT;obtain⟨zl,gt,pr,pm⟩:=yu;refine mI ?_;intros;rw[bD GS,eI]at pm;have qf:=GR.trans ut;have il:=J.len;have bl:=bD GS;have keep:∀(a5 a6 a7 a8 a9 GV GW GX GY GZ:Option V),∃(t5 t6 t7 t8 t9 jC mJ mK mL mM:Option V) (vs:ae) (ps:Lp) (uk:List (ao×V)),[some (V.ref sc),some (.ref n),some (.int 3),some (.ref U),some (.ref O),a5,a6,a7,a8,a9,GV,GW,GX,GY,GZ]=[some (V.ref sc),some (.ref n),some (.int 3),some (.ref U),some (.ref O),t5,t6,t7,t8,t9,jC,mJ,mK,mL,mM]/\ac H yL/\yL U=some (.lst vs)/\yL O=some (.dK uk)/\eF G.C (msk [U,O] yL) vs ps/\uo ns ps uk (i+1)/\uk.length<=3 * (i+1):=
    λa5 a6 a7 a8 a9 GV GW GX GY GZ=>⟨a5,a6,a7,a8,a9,GV,GW,GX,GY,GZ,vs,ps,vY,rfl,s4.trans qf,qf _ _ uq,qf _ _ vZ,v8.same ((gP qf).trans (FM λb Y=>bR _ Y)),⟨J.nd,J.ok,J.used,J.txts,Nat.le_succ_of_le J.len,J.nms,J.offs,J.mks⟩,by omega⟩
   refine⟨D,_,rfl,.inl (aa.of GU),⟨⟨bv (λ_=>?_) (λ_=>cL (keep _ _ _ _ _ _ _ _ _ _))⟩⟩⟩;obtain⟨x',dx,fl,B6,m',pf,pn,jL,po,ys,ex,b1,b2,b3,b4,b5,b6⟩:=(Rh [] λ_ h=>nomatch h).same (aQ.trans ut);cases ex;refine⟨b1,G.TC.cl,G.TC.nM,b2.make,⟨?_⟩⟩;refine⟨D,zs,dI ms,gt.map dI,rfl,aa.of GU,GG b3,Q1 (aq pr λ_ _=>qb.same ut),B1 8 _,(λe he=>?_),λbb Y=>⟨bv (λRj=>?_) (λ_=>keep _ _ _ _ _ _ _ _ _ _)⟩⟩
   . obtain⟨oA,_,rfl⟩:=ca.mp he;exact B1 8 _
   have GI:ms∉gt:=λhm=>by
    have:bb=true:=Y.mpr (fq hm);rw[this]at Rj;cases Rj
   refine⟨.inl ⟨rfl,_,aa.of (qf _ _ uq)⟩,qf _ _ uq,bQ (by omega),?_⟩;refine⟨_,_,_,_,_,_,_,_,_,_,vs++[.ref x],ps++[⟨nm,ms,fs,os,rk⟩],vY,rfl,fj (s4.trans qf) na,aD,aC (qf _ _ vZ) fu.symm,?_,⟨?_,?_,?_,J.txts,?_,?_,?_,λp hp=>(bY.mp hp).elim (J.mks p) λz=>by rw[bF.mp z];exact A7⟩,by omega⟩
   . rw[q5 bH];refine iD ((Rh [U,O] λb Y=>?_).same (gP ut)) (v8.same ((gP qf).trans (FM λb Y=>bR _ Y)));simp only[bf,ft,fw]at Y
     rcases Y with rfl | rfl
     . exact⟨_,yK _ _ uq,by intro vs z;cases z⟩
     exact⟨_,yK _ _ vZ,by intro vs z;cases z⟩
   . rw[dq,qw];refine⟨J.nd,by simp,λa ha b Y=>?_⟩;have Y:b=gH ⟨nm,ms,fs,os,rk⟩:=bF.mp Y;rw[Y];intro e;obtain⟨p',bX,ep⟩:=ca.mp ha;rw[e]at ep;unfold gH at ep;injection ep with qU uu
     injection qU with qU
     injection qU with qU
     injection uu with uu _
     injection uu with uu
     have uu:p'.ms=ms:=(List.map_inj_right λx y z=>Sum.inl.inj z).mp uu;exact GI (uu▸pm p' bX qU)
   . intro p' bX
     rcases bY.mp bX with z | z
     . exact J.ok p' z
     rw[bF.mp z];exact⟨b8,jM.ok,jM.nd⟩
   . intro p' bX
     rcases bY.mp bX with z | z
     . exact J.used p' z
     rw[bF.mp z];exact jM.used
   . rw[bI,jU];omega
   . intro p' bX
     rcases bY.mp bX with z | z
     . exact J.nms p' z
     rw[bF.mp z];exact da a4
   intro p' bX
   rcases bY.mp bX with z | z
   . exact J.offs p' z
   rw[bF.mp z];exact⟨by show os.length<=2;omega,az⟩
 intro Z H2 yw;refine bq ?_;intro tT;obtain⟨t5,t6,t7,t8,t9,jC,mJ,mK,mL,mM,vs,ps,uk,rfl,s2,jJ,GJ,bM,a2,ul⟩:=yw;exact⟨q U H2 vs ps na s2 jJ (bM.same aQ) a2.apart⟩
open HT (At cr ic yc kin Bg tV)
def kk(p:cy):List At:=[.inl (-p.rk),.inr p.nm]
theorem B7(a b:cy):cr (kk a) (kk b)=true↔b.rk<a.rk\/(a.rk=b.rk/\a.nm.cps.toList<b.nm.cps.toList):=by
 unfold kk;rw[Bg]
 by_cases h:(Sum.inl (-a.rk):At)=Sum.inl (-b.rk)
 . have h':a.rk=b.rk:=by injection h with h;omega
   rw[am h,Bg]
   by_cases n:(Sum.inr a.nm:At)=Sum.inr b.nm
   . rw[am n];injection n with n
     constructor
     . intro z;cases z
     rintro(z | ⟨_,z⟩)
     . omega
     rw[n]at z;exact absurd z (V5 _)
   rw[ah n];show decide (a.nm.cps.toList<b.nm.cps.toList)=true↔_;rw[V6];constructor
   . exact λz=>.inr ⟨h',z⟩
   rintro(z | ⟨_,z⟩)
   . omega
   exact z
 rw[ah h];have h':a.rk≠b.rk:=λz=>h (by rw[z]);show decide (-a.rk < -b.rk)=true↔_;rw[V6];constructor
 . intro z;exact .inl (by omega)
 rintro(z | ⟨z,_⟩)
 . omega
 exact absurd z h'
theorem ajr(a b:cy):ic (kk a) (kk b):=by
 unfold kk;rw[tV];split
 . rw[tV];split
   . exact True.intro
   exact True.intro
 exact True.intro
theorem ajs(a:cy):cr (kk a) (kk a)=false:=by
 cases z:cr (kk a) (kk a) with
 | false=>rfl
 | true=>
  rcases(B7 a a).mp z with h | ⟨_,h⟩
  . omega
  exact absurd h (V5 _)
theorem ajt(a b c:cy)(h1:cr (kk a) (kk b)=true)(h2:cr (kk b) (kk c)=true):cr (kk a) (kk c)=true:=by
 rw[B7]at *
 rcases h1 with h1 | ⟨e1,h1⟩
 . rcases h2 with h2 | ⟨e2,h2⟩
   . exact .inl (by omega)
   exact .inl (by omega)
 rcases h2 with h2 | ⟨e2,h2⟩
 . exact .inl (by omega)
 exact .inr ⟨e1.trans e2,List.lt_trans h1 h2⟩
theorem aju(a b:cy)(h1:cr (kk a) (kk b)=false)(h2:cr (kk b) (kk a)=false):a.nm=b.nm:=by
 have n1:¬(b.rk<a.rk\/(a.rk=b.rk/\a.nm.cps.toList<b.nm.cps.toList)):=λz=>by rw[<-B7,h1]at z;cases z
 have n2:¬(a.rk<b.rk\/(b.rk=a.rk/\b.nm.cps.toList<a.nm.cps.toList)):=λz=>by rw[<-B7,h2]at z;cases z
 have e:a.rk=b.rk:=by
  have x1:¬b.rk<a.rk:=λz=>n1 (.inl z);have J:¬a.rk<b.rk:=λz=>n2 (.inl z);omega
 have j:¬a.nm.cps.toList<b.nm.cps.toList:=λz=>n1 (.inr ⟨e,z⟩);have G:¬b.nm.cps.toList<a.nm.cps.toList:=λz=>n2 (.inr ⟨e.symm,z⟩);have eq:a.nm.cps.toList=b.nm.cps.toList:=VZ G j;have ext:∀x y:Str,x.cps.toList=y.cps.toList->x=y:=λ⟨⟨x⟩⟩ ⟨⟨y⟩⟩ h=>by
  have h:x=y:=h;rw[h]
 exact ext _ _ eq
def B8(off:Lp)(p:cy):Prop:=p∈off/\∀q∈off,cr (kk q) (kk p)=false
theorem B8.eq{off z:Lp}{p j:cy}(h:B8 off p)(h':B8 z j)(m:∀q,q∈off↔q∈z):p.nm=j.nm:=
 aju p j (h'.2 p ((m p).mp h.1)) (h.2 j ((m j).mpr h'.1))
def NB(off:Lp)(told:Option Str)(r:Str):Prop:=(told=some r/\r∈off.map cy.nm)\/((∀x,told=some x->x∉off.map cy.nm)/\∃p,B8 off p/\r=p.nm)
theorem NB.eq{off z:Lp}{told:Option Str}{r U:Str}(h:NB off told r)(h':NB z told U)(m:∀q,q∈off↔q∈z):r=U:=by
 have O:∀x,x∈off.map cy.nm↔x∈z.map cy.nm:=λx=>by
  rw[ca,ca];exact⟨λY=>Y.elim λp a0=>a0.elim λa b=>⟨p,(m p).mp a,b⟩,λa1=>a1.elim λp a2=>a2.elim λa b=>⟨p,(m p).mpr a,b⟩⟩
 rcases h with⟨a,b⟩ | ⟨a,p,bp,e⟩
 . rcases h' with⟨j,b'⟩ | ⟨j,p',G,J⟩
   . rw[a]at j;exact gw j
   exact absurd ((O _).mp b) (j _ a)
 rcases h' with⟨j,b'⟩ | ⟨j,p',G,J⟩
 . exact absurd ((O _).mpr b') (a _ j)
 rw[e,J];exact bp.eq G m
theorem F8.ok{P:Program}{w:World}{mg:Mv}{base:Heap}{a_:Str}{st:Stmt}{N ps:Ls}{k:Nat}{sp:Sp}(F:F8 K x a_ st f c fd)(S:aP N ps (aA st))(len:∀vs H Q E,sp vs H Q E->vs.length=ps.length)
 (J:∀(A:Around) (outer:List Env) (s:Shared) (H:Hp) (vs:ae) (Q:VK) (E:XK),ce k (A.deeper (envOfC a_ (aA st) s.heap.objs.size f (.ref c)))->sp vs H Q E ->
  ∃t,bW (kZ aI P w K mg base N a_ (aA st) f (.ref c) A outer s H E).nox (gB st) t/\t { nx:=λ_ H'=>Q .non H',rt:=Q } (start N vs) H):aw P w K mg base aI (k+1) f fd ps sp:=by
 obtain⟨oc,od,kV,O,pm,an,ct,U,rfl,lk,z⟩:=F.ex;refine Eb lk z S len λA outer s H vs Q E j G=>?_;obtain⟨t,h,q⟩:=J A outer s H vs Q E j G;exact⟨t,h.nox,q⟩
inductive Rk (C:Addr):Sp where
 | mk {H:Hp}{Q:VK}{E:XK}{a:Addr}{xs:ae}{ps:Lp} (_:H a=some (.lst xs)) (_:eF C H xs ps) (_:ps.length<=6) (_:(∀p∈ps,p.os.length<=2)) (_:∀r H' (cs:Ls),H r=none->ac H H'->H' r=some (.lst (cs.map V.str))->cs.Nodup->(∀c,c∈cs↔∃p∈ps,c∈p.os)->cs.length<=12->Q (.ref r) H'):Rk C [.ref a] H Q E
theorem G0:aP [ass,"commons",asw] [ass] (aA OW):=aV
theorem ajz(J:Pg K mg base Pt):aw P w K mg base aI 1 J.Com.f J.Com.fd [ass] (Rk J.C):=by
 refine J.Com.u.okL G0 ?_;intro av A outer s H vs Q E hr h xX dX;obtain @⟨_,_,_,a,xs,ps,Y,U,h6,Fu,q⟩:=h;refine⟨_,(ai (aM (i:=1) G0.nd rfl (Or.inl rfl) (df dG))
  (ai (eO dQ rfl (cG (pv 0)) (be (i:=2) G0.nd rfl (Or.inl rfl))
  (aj (bB (db gZ qy qz nW (pv 1) (al (bG (pv 2) rfl))))))
  (aj (aX (cg (Fk rfl) (by rfl) J.B.sorted sG (al (dH (Nk rfl) (by rfl) J.B.set JI (al (pv 1))))))))),?_⟩
 refine jn ?_;intro dD sS gr dU;refine⟨AQ,λc H1 n1 s1 e1=>?_⟩;refine⟨⟨_,aa.of (s1 _ _ Y)⟩,?_⟩;refine hJ (xs:=xs) (λi Z H2=>∃u,Z=[some (.ref a),some (.ref c),u]/\ac H H2/\H2 c=some (.lst (((ps.take i).flatMap cy.os).map V.str))/\((ps.take i).flatMap cy.os).length<=2 * i) ⟨none,rfl,s1,e1,aK _⟩ ?_ ?_ ?_
 . intro i Z H2 hi fM;refine bq ?_;intro tT;obtain⟨u,rfl,G,_⟩:=fM;exact aa.of (G _ _ Y)
 . intro i x Z H2 hx gQ;refine bq ?_;intro tT;obtain⟨u,rfl,G,O,hl⟩:=gQ;obtain⟨p,j,b,dy,fl,rk,m,pf,pn,jL,po,ys,rfl,h1,h2,h3,h4,h5,G1,_⟩:=fc U hx;have hi:=(cM.mp j).1;have ho:=Fu p (da j);refine⟨.inl ⟨rfl,_,aa.of O⟩,G _ _ h1,J.TC.cl,J.TC.nO,h2.offers,O,G _ _ G1,j8 (by rw[ak,ak];omega),?_⟩;refine⟨_,rfl,fj G n1,?_,?_⟩
   . rw[aD,gY,j,Dw,dq];simp
   have e2:(List.flatMap cy.os (some p).toList)=p.os:=by simp
   rw[gY,j,Dw,bI,e2];omega
 intro Z H2 gR;refine bq ?_;intro tT;obtain⟨u,rfl,G,O,hl⟩:=gR;rw[bD U,eI]at O hl;refine⟨c,_,rfl,aa.of O,by omega,λr zs H3 n3 s3 e3 nd mem=>?_⟩;have lz:=iX nd λz hz=>(mem z).mp hz;refine⟨r,zs,rfl,e3,by omega,λbS j hs=>λl H4 n4 s4 e4=>?_⟩;refine q l H4 bS (G.free (s3.free n4)) (G.trans (s3.trans s4)) e4 (j.nodup_iff.mpr nd) (λz=>?_) (by rw[j.length_eq];omega);rw[j.mem_iff,mem z,uT]
end
section
open HT (At cr ic)
variable {H:Hp}{qu:Str}
theorem yM{z:Str}{xs:Ls}:nU (.str z) (xs.map V.str)=true↔z∈xs:=by
 unfold nU;rw[sk];constructor
 . rintro⟨v,hv,e⟩;obtain⟨y,j,rfl⟩:=ca.mp hv;have:y=z:=by simpa [lj]using e
   rw[<-this];exact j
 intro h;exact⟨.str z,fq h,by simp[lj]⟩
theorem ajA{xs:Ls}:nU .non (xs.map V.str)=false:=by
 unfold nU;rw[List.any_eq_false];intro v j;obtain⟨y,z,rfl⟩:=ca.mp j;simp[lj]
def rG(j:List (ao×V))(c:Str):Option Str:=match bi j (.inr c) with | some (.str y)=>some y | _=>none
def G2(j:List (ao×V)):Prop:=∀k v,bi j k=some v->∃y,v=.str y/\Ln y
theorem ajB{j:List (ao×V)}(h:G2 j)(c:Str):((bi j (.inr c)).getD .non=.non/\rG j c=none)\/∃y,(bi j (.inr c)).getD .non=.str y/\rG j c=some y/\Ln y:=by
 unfold rG;cases e:bi j (.inr c) with
 | none=>exact .inl ⟨rfl,rfl⟩
 | some v=>
  obtain⟨y,rfl,z⟩:=h _ _ e;exact .inr ⟨y,rfl,rfl,z⟩
def gU(c:Str)(ps:Lp):Lp:=ps.filter λp=>decide (c∈p.os)
theorem Rm{ps:Lp}{i:Nat}{p:cy}(h:ps[i]?=some p)(c:Str):gU c (ps.take (i+1))=gU c (ps.take i)++(if c∈p.os then [p] else []):=by
 unfold gU;rw[ai2 h]
 by_cases z:c∈p.os
 . simp[z]
 simp[z]
theorem Rn:∀{vs:ae}{ps:Lp},eF C H vs ps->∃as:List Addr,vs=as.map V.ref
 | _,_,.nil=>⟨[],rfl⟩
 | _,_,.cons r t=>by
  obtain⟨a,_,_,_,_,_,_,_,_,_,rfl,_⟩:=r;obtain⟨as,rfl⟩:=Rn t;exact⟨a::as,rfl⟩
def pz:cy:=⟨Str.empty,[],[],[],0⟩
theorem aH.at{lp:Pos}(h:aH H Pt lp qu):∃φ,H Pt=some (.ext φ):=by
 rcases h with z | ⟨c',z,_⟩
 . exact⟨_,z⟩
 exact⟨_,z⟩
theorem aH.ne{lp:Pos}(h:aH H Pt lp qu){o:HO}(e:H b=some o)(n:∀φ,o≠.ext φ):b≠Pt:=λz=>by
 obtain⟨φ,w⟩:=aH.at h;rw[z,w]at e;cases e;exact n _ rfl
theorem aH.new{lp:Pos}(h:aH H Pt lp qu)(e:H b=none):b≠Pt:=λz=>by
 obtain⟨φ,w⟩:=aH.at h;rw[z,w]at e;cases e
def cW:Pos:=match gB mV with
 | [_,_,_,.Return (some (.Attribute (.Call _ _ [⟨_,.Lambda _ _ _ p,_⟩] _) _ _)) _]=>p
 | _=>⟨0,0,0,0⟩
def cR:Str:="name_behind.<locals>.<lambda>"
inductive Ro (C Pt:Addr):Sp where
 | mk {H:Hp}{Q:VK}{E:XK}{a h:Addr}{c:Str}{xs:ae}{px:Lp}{j:List (ao×V)} (_:H a=some (.lst xs)) (_:eF C H xs px) (_:px.length<=6) (_:(∃p∈px,c∈p.os)) (_:H h=some (.dK j)) (_:G2 j) (_:(∀p∈px,Ln p.nm)) (_:aH H Pt cW cR) (_:∀r H',jo Pt H H'->aH H' Pt cW cR->Ln r->NB (gU c px) (rG j c) r->Q (.str r) H'):Ro C Pt [.str c,.ref a,.ref h] H Q E
theorem G5:aP [asN,ass,asD,"offering","told"] [asN,ass,asD] (aA mV):=aV
theorem ajC(G:Pg K mg base Pt):aw P w K mg base aI 3 G.NBe.f G.NBe.fd [asN,ass,asD] (Ro G.C Pt):=by
 refine G.NBe.FN.ok G5 (λvs H Q E h=>?_) (λA outer s H vs Q E hr h=>?_)
 . cases h;rfl
 refine tP ?_;intros;obtain @⟨_,_,_,a,h,J,xs,px,hk,ha,bM,h6,hex,hh,hok,a5,a1,q⟩:=h;have hu:=hr.units;have dv:ce 1 (A.deeper (envOfC asK (aA mV) s.heap.objs.size G.NBe.f (.ref G.NBe.c))).in1:=hr.in1;refine⟨_,(ai (qN (i:=3) [asw] [asN] [0] G5.nd rfl rfl dM rfl (cG (pv 1)) (λ_ _ _ _=>(be (i:=0) (show List.Nodup ([asw,asN]:Ls) by decide +kernel) rfl (Or.inl rfl))) (λ_ _ _ _=>pL (bL (Mf K) (pv 1) (iU K (pv 0) rfl) (by rfl))) (λ_ _ _ _=>(pv 0)))
  (ai (aM (i:=4) G5.nd rfl (Or.inl rfl) (Es hu (pv 2) (pv 0) ⟨rfl,rfl,rfl,rfl⟩))
  (ER (bN (bL K9 (pv 4) (fY [asw] [] [] dM rfl (cG (pv 3)) (λ_ _ _ _=>(be (i:=0) (show List.Nodup ([asw]:Ls) by decide +kernel) rfl (Or.inl rfl))) (λ_ _ _ _=>gj) (λ_ _ _ _=>(iU K (pv 0) rfl))) (by rfl))
  (aj (aX (pv 4))) cD)
  (aj (aX (bG (afO (c:=G.NBe.c) (P:=Pt) (x:=asw) (a_:=cR) (pv 3) ⟨rfl,rfl,rfl,by decide +kernel,rfl,by decide +kernel,by decide +kernel⟩ dv rfl rfl G.NBe.hN G.hB rfl G.B.min
   (λ_ _ _ _ _ _ _=>eT (aL (uY vc (iU K (pv 0) rfl)) (iU K (pv 0) rfl))) (λ_ _ _ _=>rfl)) rfl)))))),?_⟩
 refine jn ?_;intro dD sS gr dU;refine⟨⟨_,aa.of ha⟩,?_⟩;intro D hD;refine rF (σ0:=[none,some (.str J)]) hD (aa.of ha) (λZ=>∃v,Z=[v,some (.str J)]) (λj zs H3=>zs.length<=j/\eF G.C H zs (gU J (px.take j))) ⟨_,rfl⟩ ⟨aK _,.nil⟩ ?_ ?_
 . rintro j y zs Z H3 k k' hy ⟨v,rfl⟩ cZ h3 ⟨zl,Y⟩ fJ jr;obtain⟨p,O,hE⟩:=fc bM hy;obtain⟨b,dy,fl,rk,m,pf,pn,jL,po,ys,rfl,U,b2,b3,b4,b5,b6,b7⟩:=id hE;have aT:=(cM.mp O).1;refine⟨h3 _ _ U,G.TC.cl,G.TC.nO,b2.offers,.inl (aa.of (h3 _ _ b6)),rfl,yI _,⟨?_⟩⟩;refine bv (λh=>?_) (λh=>?_)
   . have jE:J∈p.os:=yM.mp h;refine⟨fJ _ _ _ ⟨_,rfl⟩ (ac.refl _) (bQ (by omega)) ⟨by rw[bI,jU];omega,?_⟩⟩;rw[Rm O,am jE];exact iD hE Y
   have jE:J∉p.os:=λz=>h (yM.mpr z);refine jr _ _ ⟨_,rfl⟩ (ac.refl _) ⟨by omega,?_⟩;rw[Rm O,ah jE,kM];exact Y
 rintro zs H3 cZ h3 ⟨zl,Y⟩;rw[bD bM,eI]at Y;have a9:zs.length<=6:=by have:=bD bM;omega
 have a8:0<(gU J px).length:=by
  obtain⟨p,O,hc⟩:=hex;exact aqL (lX.mpr ⟨O,bE hc⟩)
 have a2:∀p∈gU J px,Ln p.nm:=λp O=>a5 p (lX.mp O).1;refine⟨.inl ⟨_,.inl (h3 _ _ hh)⟩,_,ci.k (k:=.inr J) (h3 _ _ hh),?_⟩;refine⟨λσ5 H5=>(∃v,σ5=[some (.str J),some (.ref a),some (.ref h),some (.ref D),some v])/\ac H3 H5/\∀x,rG hk J=some x->x∉(gU J px).map cy.nm,?_,?_⟩
 . rcases ajB hok J with⟨e,et⟩ | ⟨y,e,et,hy⟩
   . rw[e];refine⟨⟨_,aa.of cZ⟩,?_⟩;refine xH (σ0:=[none]) (aa.of cZ) (λZ=>∃v,Z=[v]) (λj iH _=>iH=(((gU J px).take j).map cy.nm).map V.str) ⟨_,rfl⟩ (λ_ _=>rfl) ?_ ?_
     . rintro D2 j y' iH Z H4 k yN kU ⟨v,rfl⟩ uv h4 rfl d5;obtain⟨p,O,b,dy,fl,rk,m,pf,pn,jL,po,ys,rfl,U,b2,b3,b4,b5,b6,b7⟩:=fc Y kU;have aT:=(cM.mp kU).1;refine⟨h4 _ _ (h3 _ _ U),G.TC.cl,G.TC.nN,b2.name,d5 _ _ _ ⟨_,rfl⟩ (ac.refl _) (bQ (by rw[ak,ak,eW];omega)) ?_⟩;rw[gY,O,dq,dq];rfl
     rintro D2 iH H4 yN uv h4 rfl;rw[bD Y,eI]at uv;refine⟨.inl (aa.of uv),rfl,yI _,⟨?_⟩⟩;refine bv (λh=>?_) (λ_=>⟨⟨_,rfl⟩,h4,λx z=>by rw[et]at z;cases z⟩);have h:nU .non (((gU J px).map cy.nm).map V.str)=true:=h;rw[ajA]at h;cases h
   rw[e];refine⟨⟨_,aa.of cZ⟩,?_⟩;refine xH (σ0:=[none]) (aa.of cZ) (λZ=>∃v,Z=[v]) (λj iH _=>iH=(((gU J px).take j).map cy.nm).map V.str) ⟨_,rfl⟩ (λ_ _=>rfl) ?_ ?_
   . rintro D2 j y' iH Z H4 k yN kU ⟨v,rfl⟩ uv h4 rfl d5;obtain⟨p,O,b,dy,fl,rk,m,pf,pn,jL,po,ys,rfl,U,b2,b3,b4,b5,b6,b7⟩:=fc Y kU;have aT:=(cM.mp kU).1;refine⟨h4 _ _ (h3 _ _ U),G.TC.cl,G.TC.nN,b2.name,d5 _ _ _ ⟨_,rfl⟩ (ac.refl _) (bQ (by rw[ak,ak,eW];omega)) ?_⟩;rw[gY,O,dq,dq];rfl
   rintro D2 iH H4 yN uv h4 rfl;rw[bD Y,eI]at uv;refine⟨.inl (aa.of uv),rfl,yI _,⟨?_⟩⟩;have uw:=h3.trans h4;refine bv (λh=>?_) (λh=>⟨⟨_,rfl⟩,h4,λx z=>by
    rw[et]at z;cases z;exact λm=>h (yM.mpr m)⟩)
   exact⟨q y H4 (λx o ex _=>uw _ _ ex) (a1.same uw) hy (.inl ⟨et,yM.mp h⟩)⟩
 intro σ5 H5 fM;refine bq ?_;intro tT;obtain⟨⟨v,rfl⟩,s5,No⟩:=fM;obtain⟨as,G6⟩:=Rn Y;have oJ:ac H H5:=h3.trans s5;have a6:=Y.same oJ;have i7:aH H5 Pt cW cR:=a1.same oJ;have rH:H5 D=some (.lst (as.map V.ref)):=by rw[<-G6];exact s5 _ _ cZ
 have a4:=bD Y;rw[G6,ak]at a4;have a0:∀(i:Nat) (b:Addr),as[i]?=some b->∃p,(gU J px)[i]?=some p/\jp G.C H5 (.ref b) p:=λi b hi=>by
  have:zs[i]?=some (V.ref b):=by rw[G6,c8,hi];rfl
  exact fc a6 this
 have gd:∀(i:Nat) (p:cy),(gU J px)[i]?=some p->(gU J px).getD i pz=p:=λi p hi=>by
  rw[JD,hi];rfl
 refine⟨D,as,λi=>kk ((gU J px).getD i pz),rfl,aH.ne i7 rH (by intro φ z;cases z),rH,by omega,λi j=>ajr _ _,λi j l=>ajt _ _ _,λi=>ajs _,i7,λi b hi H2 kp=>?_,λi b H' hi a3 kp we=>?_⟩
 . obtain⟨p,O,hE⟩:=a0 i b hi;obtain⟨b',dy,fl,rk,m,pf,pn,jL,po,ys,eb,U,b2,b3,b4,b5,b6,b7⟩:=hE;cases eb;have B9:=kp _ _ U (aH.ne i7 U (by intro φ z;cases z));have Rp:=b2.rank;rw[b7.1]at Rp;refine⟨B9,G.TC.cl,G.TC.nR,Rp,_,rfl,B9,G.TC.cl,G.TC.nN,b2.name,Ah,λkt a7 n3 s3 e3=>⟨kt,rfl,s3,?_⟩⟩;rw[e3];dsimp only;rw[gd i p O];rfl
 obtain⟨p,O,hE⟩:=a0 i b hi;obtain⟨b',dy,fl,rk,m,pf,pn,jL,po,ys,eb,U,b2,b3,b4,b5,b6,b7⟩:=hE;cases eb;have B9:=kp _ _ U (aH.ne i7 U (by intro φ z;cases z));have pm:p∈gU J px:=da O;refine⟨B9,G.TC.cl,G.TC.nN,b2.name,q p.nm H' (λx o ex nx=>kp _ _ (oJ _ _ ex) nx) we (a2 p pm) (.inr ⟨No,p,⟨pm,λq' iu=>?_⟩,rfl⟩)⟩;obtain⟨j,hj⟩:=List.getElem?_of_mem iu;have:=a3 j (by have:=(cM.mp hj).1;omega);dsimp only at this;rw[gd j q' hj,gd i p O]at this;exact this
end
section
variable {β:Type}{kvs:List (ao×V)}{f:Str×Ls}{H:Hp}{ps:Ls}
theorem eG{Hk:Hp}{o o':HO}(h:Hk a=some o)(n:a≠p):ag Hk p o' a=some o:=by rw[bg n];exact h
def b8(d b:Addr)(v:V):List (Str×V):=[(asz,.ref d),("book",.ref b),("left",v)]
theorem ajH(d b:Addr):aB "left" .non (aB "book" (.ref b) (aB asz (.ref d) []))=b8 d b .non:=rfl
theorem ux(d b:Addr)(v:V):(b8 d b v).lookup (asz:Str)=some (.ref d):=rfl
theorem Rq(d b:Addr)(v:V):(b8 d b v).lookup ("book":Str)=some (.ref b):=rfl
theorem Ca(d b:Addr)(v:V):(b8 d b v).lookup ("left":Str)=some v:=rfl
inductive Rr (C:Addr):Sp where
 | mk {H:Hp}{Q:VK}{E:XK}{x dx d b:Addr} (_:H x=some (.ins C dx (b8 d b .non))) (_:Q .non H):Rr C [.ref x] H Q E
theorem Rs:aP [aso] [aso] (aA OA):=aV
theorem G7(j:Pg K mg base Pt):aw P w K mg base aI 1 j.DTk.f j.DTk.fd [aso] (Rr j.D):=by
 refine j.DTk.u.okL Rs ?_;intro G A outer s H vs Q E O h U J;obtain @⟨_,_,_,x,dx,d,b,z,q⟩:=h;refine⟨_,(ai (bN (bL Ky (bG (pv 0) rfl) iP (bC _)) (aj Ak) cD) xg),?_⟩;exact⟨z,j.UD.cl,j.UD.nL,Ca _ _ _,rfl,⟨dZ q⟩⟩
inductive G8 (C:Addr):Sp where
 | mk {H:Hp}{Q:VK}{E:XK}{x dx:Addr} (_:H x=some (.ins C dx [])) (_:∀d b H',H d=none->H b=none->H' x=some (.ins C dx (b8 d b .non))->H' d=some (.dK [])->H' b=some (.lst [])->(∀p o,H p=some o->p≠x->H' p=some o)->Q .non H'):G8 C [.ref x] H Q E
theorem ajI:aP [aso] [aso] (aA Oq):=aV
theorem ajJ(j:Pg K mg base Pt):aw P w K mg base aI 1 j.DIn.f j.DIn.fd [aso] (G8 j.D):=by
 refine j.DIn.u.okL ajI ?_;intro av A outer s H vs Q E hr h xX dX;obtain @⟨_,_,_,x,dx,hx,q⟩:=h;refine⟨_,(ai (hX (pv 0) lE rfl)
  (ai (hX (pv 0) (df dG) rfl)
  (aj (hX (pv 0) iP rfl)))),?_⟩
 refine λd H1 n1 O e1=>?_;have J:d≠x:=(aO hx n1).symm;refine⟨O _ _ hx,j.UD.cl,j.UD.nF,by show 0<1000;decide,?_⟩;refine⟨AQ,λb H2 n2 U e2=>?_⟩;have Y:=jl n2;have h2:=U _ _ (aD (H:=H1) (a:=x) (o:=.ins j.D dx (aB asz (.ref d) [])));have d2:=U _ _ (eG (p:=x) (o':=.ins j.D dx (aB asz (.ref d) [])) e1 J);have bx:b≠x:=Y.1;have bd:d≠b:=aU d2 e2 (by intro z;cases z);refine⟨h2,j.UD.cl,j.UD.nB,by show 1<1000;decide,?_⟩;refine⟨aD,j.UD.cl,j.UD.nL,by show 2<1000;decide,?_⟩;rw[ajH];refine q d b _ n1 (O.free Y.2) aD (eG (eG d2 J) J) (eG (eG e2 bx) bx) λp o e G=>eG (eG (U _ _ (eG (O _ _ e) G)) G) G
inductive Hd (K:Fg) (C:Addr):Sp where
 | mk {H:Hp}{Q:VK}{E:XK}{x dx d b l:Addr}{p:Str}{j:List (ao×V)}{ys:ae} (_:H x=some (.ins C dx (b8 d b .non))) (_:H d=some (.dK j)) (_:H l=some (.lst ys)) (_:j.length<=500) (_:∀q H',H q=none->H' d=some (.dK (cx j (.inr p) (.ref q)))->H' q=some (.lst ys)->(∀p o,H p=some o->p≠d->H' p=some o)->Q .non H'):Hd K C [.ref x,.str p,.ref l] H Q E
theorem Rt:aP [aso,asq,asF] [aso,asq,asF] (aA Ov):=aV
theorem He(j:Pg K mg base Pt):aw P w K mg base aI 2 j.DPt.f j.DPt.fd [aso,asq,asF] (Hd K j.D):=by
 refine j.DPt.u.okL Rt ?_;intro av A outer s H vs Q E U h xX dX;obtain @⟨_,_,_,x,dx,d,b,l,p,kd,ys,G,hd,Y,oK,q⟩:=h;have hu:=U.units;refine⟨_,(ai (bB (dr (pv 0) j.UD.cl j.DTk.mt (up (G7 j)) U j.DTk.b .nil bJ))
  (aj (iT hu (bG (pv 0) rfl) (pv 1) (dH lB (by rfl) j.B.list iO (al (pv 2))) rfl))),?_⟩
 refine⟨G,rfl,G,?_⟩;refine⟨l,_,rfl,.inl (aa.of Y),λq' H2 n2 J e2=>?_⟩;have O:=J _ _ hd;refine⟨J _ _ G,j.UD.cl,j.UD.nF,ux _ _ _,fX.k (k:=.inr p) O (bQ (by omega)),?_⟩;exact q q' _ n2 aD (eG e2 (aU e2 O (by intro z;cases z))) λp o e hp=>eG (J _ _ e) hp
inductive Ru (C:Addr):Sp where
 | mk {H:Hp}{Q:VK}{E:XK}{x dx d b:Addr}{p:Str}{j:List (ao×V)} (_:H x=some (.ins C dx (b8 d b .non))) (_:H d=some (.dK j)) (_:∀H',H' d=some (.dK (if (bi j (.inr p)).isSome=true then nX j (.inr p) else j))->(∀p o,H p=some o->p≠d->H' p=some o)->Q .non H'):Ru C [.ref x,.str p] H Q E
theorem Rv:aP [aso,asq] [aso,asq] (aA Ox):=aV
theorem Rw(j:Pg K mg base Pt):aw P w K mg base aI 2 j.DEr.f j.DEr.fd [aso,asq] (Ru j.D):=by
 refine j.DEr.u.okL Rv ?_;intro av A outer s H vs Q E J h xX dX;obtain @⟨_,_,_,x,dx,d,b,p,O,z,hd,q⟩:=h;have Y:=J.units;refine⟨_,(ai (bB (dr (pv 0) j.UD.cl j.DTk.mt (up (G7 j)) J j.DTk.b .nil bJ))
  (aj (bN (jy (pH Y (pv 1) (bG (pv 0) rfl)) (by rfl))
  (aj (bB (AE (bG (pv 0) rfl) (pv 1) ⟨rfl,rfl,rfl,rfl⟩))) cD))),?_⟩
 refine⟨z,rfl,z,?_⟩;refine⟨z,j.UD.cl,j.UD.nF,ux _ _ _,_,ci.k (k:=.inr p) hd,⟨?_⟩⟩;cases G:bi O (.inr p) with
 | none=>exact cL (q H (by rw[G];exact hd) λp o e _=>e)
 | some v=>
  refine dZ ⟨z,j.UD.cl,j.UD.nF,ux _ _ _,.inl ⟨_,.inl hd⟩,O,.inr p,v,hd,rfl,G,?_⟩;exact q _ (by rw[G];exact aD) λp o e U=>eG e U
inductive Hf (C:Addr):Sp where
 | mk {H:Hp}{Q:VK}{E:XK}{x dx d b:Addr}{y z:Str}{j:ae} (_:H x=some (.ins C dx (b8 d b .non))) (_:H b=some (.lst j)) (_:j.length<=500) (_:∀t H',H' b=some (.lst (j++[.ref t]))->H' t=some (.tup [.str y,.str z])->(∀p o,H p=some o->p≠b->H' p=some o)->Q .non H'):Hf C [.ref x,.str y,.str z] H Q E
theorem ajK:aP [aso,atd,asC] [aso,atd,asC] (aA Oy):=aV
theorem Hg(j:Pg K mg base Pt):aw P w K mg base aI 2 j.DNt.f j.DNt.fd [aso,atd,asC] (Hf j.D):=by
 refine j.DNt.u.okL ajK ?_;intro av A outer s H vs Q E hr h xX dX;obtain @⟨_,_,_,x,dx,d,b,y,z,ts,G,J,oK,q⟩:=h;refine⟨_,(ai (bB (dr (pv 0) j.UD.cl j.DTk.mt (up (G7 j)) hr j.DTk.b .nil bJ))
  (aj (bB (db gZ qA qB mx (bG (pv 0) rfl) (al (eT (aL (pv 1) (pv 2)))))))),?_⟩
 refine⟨G,rfl,G,?_⟩;refine⟨G,j.UD.cl,j.UD.nB,Rq _ _ _,.inl ⟨rfl,_,aa.of J⟩,Ah,λt H2 n2 U e2=>?_⟩;have O:=U _ _ J;refine⟨O,bQ (by omega),?_⟩;exact q t _ aD (eG e2 (aU e2 O (by intro z;cases z))) λp o e Y=>eG (U _ _ e) Y
def kC(fs:List (Str×β))(p:Str):List (Str×β):=fs.filter λf=>decide (f.1≠p)
theorem Cb{G:ao×V->Str×β->Prop}(J:∀kv f,G kv f->kv.1=Sum.inr f.1){p:Str}{fs:List (Str×β)}(h:Paired G kvs fs):Paired G (nX kvs (.inr p)) (kC fs p):=by
 unfold nX kC
 induction h with
 | nil=>exact .nil
 | @cons kv f kvs fs r t j=>
  have e:=J _ _ r;rw[nw,nw]
  by_cases h:f.1=p
  . have h2:kv.1=Sum.inr p:=by rw[e,h]
    simp only[h,h2,ne_eq,not_true_eq_false,decide_false,qm,nv];exact j
  have h2:¬kv.1=Sum.inr p:=by rw[e];exact λz=>h (nu z)
  simp only[h,h2,ne_eq,not_false_eq_true,decide_true,uL];exact .cons r j
theorem Cc{fs:List (Str×β)}{p:Str}(h:p∉fs.map (·.1)):kC fs p=fs:=by
 unfold kC;rw[List.filter_eq_self];intro f j;exact bE λe=>h (by rw[<-e];exact fq (f:=(·.1)) j)
theorem ajL{fs:List (Str×β)}{p:Str}(h:(fs.map (·.1)).Nodup):((kC fs p).map (·.1)).Nodup:=h.sublist ((zY (l:=fs)).map _)
theorem ajM(fs:List (Str×β))(p:Str):(kC fs p).length<=fs.length:=zK _ _
theorem Cd{G:ao×V->Str×β->Prop}(z:∀kv f,G kv f->kv.1=Sum.inr f.1){fs:List (Str×β)}(h:Paired G kvs fs)(p:Str):(p∈fs.map (·.1)/\(bi kvs (.inr p)).isSome=true)\/(p∉fs.map (·.1)/\bi kvs (.inr p)=none):=by
 by_cases j:p∈fs.map (·.1)
 . obtain⟨v,ls,e,_⟩:=rc z h j;exact .inl ⟨j,by rw[e];rfl⟩
 exact .inr ⟨j,Bp z h j⟩
theorem Rx(h:∀y∈f.2,Ln y):W.kqdOk 9 (dS f.2)=true:=by
 simp only[dS,W.kqdOk,ip,ca];rintro d ⟨y,j,rfl⟩;exact(h y j).ok
theorem ajN{fs:Tr}(h:Paired (aY H) kvs fs)(nd:(fs.map (·.1)).Nodup):(kvs.map (·.1)).Nodup:=by
 have e:kvs.map (·.1)=(fs.map (·.1)).map Sum.inr:=oC (λkv f (z:aY H kv f)=>z.1) h;rw[e];exact List.Pairwise.map Sum.inr (λa b h e=>h (nu e)) nd
inductive Ry (C:Addr):Sp where
 | mk {H:Hp}{Q:VK}{E:XK}{x dx d b:Addr}{v:V}{j:List (ao×V)}{fs:Tr} (_:H x=some (.ins C dx (b8 d b v))) (_:H d=some (.dK j)) (_:Paired (aY H) j fs) (_:(fs.map (·.1)).Nodup) (_:fs.length<=500) (_:∀r H' z,H r=none->ac H H'->H' r=some (.dK z)->Paired (dw H H') z fs->Q (.ref r) H'):Ry C [.ref x] H Q E
theorem Ce:aP [aso,asz,asq,asF] [aso] (aA Ot):=aV
theorem uy(O:Pg K mg base Pt):aw P w K mg base aI 1 O.FNo.f O.FNo.fd [aso] (Ry O.D):=by
 refine O.FNo.u.okL Ce ?_;intro av A outer s H vs Q E hr h xX dX;obtain @⟨_,_,_,x,dx,o,b,v,kvs,ow,hx,ho,pr,nd,oK,q⟩:=h;have hu:=hr.units;refine⟨_,(ai (aM (i:=1) Ce.nd rfl (Or.inl rfl) lE)
  (ai (AW dQ rfl (bG (pv 0) rfl) (nJ rfl (fR (be (i:=2) Ce.nd rfl (Or.inl rfl)) (fR (be (i:=3) Ce.nd rfl (Or.inl rfl)) mq)))
  (aj (iT hu (pv 1) (pv 2) (dH lB (by rfl) O.B.list iO (al (pv 3))) rfl)))
  (aj (aX (pv 1))))),?_⟩
 have hk:∀(H':Hp) kv f,dw H H' kv f->kv.1=Sum.inr f.1:=λ_ kv f z=>z.1;refine λd H1 n1 s1 e1=>?_;have od:d≠o:=(aO ho n1).symm;refine⟨s1 _ _ hx,O.UD.cl,O.UD.nF,ux _ _ _,o,kvs,rfl,s1 _ _ ho,λob=>?_⟩;refine BK (λi Z G=>∃u v U,Z=[some (.ref x),some (.ref d),u,v]/\(∀b z,H b=some z->b≠o->G b=some z)/\(∀b,G b=none->H b=none)/\G o=some (.frz ob (.dK kvs))/\G d=some (.dK U)/\Paired (dw H G) U (ow.take i))
  ⟨none,none,[],rfl,λb x e J=>eG (s1 _ _ e) J,λb e=>s1.free (jl e).2,aD,eG e1 od,.nil⟩ ?_ ?_ ?_
 . rintro i Z G ⟨u,v,U,rfl,_,_,h,_⟩;exact h
 . rintro i k v p Z G hi ⟨u,v',U,rfl,k5,f5,h5,eh,fN⟩ hp;obtain⟨⟨y,ls⟩,hf,a1,l,a2,a4⟩:=fc pr hi;have a1:k=.inr y:=a1;have a2:v=.ref l:=a2;have a4:H l=some (.lst (ls.map V.str)):=a4;subst a1 a2;have aT:=(cM.mp hf).1;have sp:ac G (ag G p (.tup [kV (.inr y),.ref l])):=fC hp;have L5:=sp _ _ (k5 _ _ a4 (aU a4 ho (by intro z;cases z)));refine⟨bh.of aD,rfl,rfl,?_⟩;refine⟨l,_,rfl,.inl (aa.of L5),λq1 H6 n6 s6 e6=>?_⟩;have Y:=sp.trans s6;have pl:=bD fN;rw[eW]at pl;refine⟨fX.k (k:=.inr y) (Y _ _ eh) (bQ (by omega)),?_⟩;have Gg:y∉(ow.take i).map (·.1):=by
    rw[VA];intro hm;obtain⟨j,hj,ej⟩:=Jz.mp hm;rw[eW,ak]at hj;rw[List.getElem_take]at ej;have e1:(ow.map (·.1))[j]?=some y:=by rw[gX (by rw[ak];omega),ej]
    have e2:(ow.map (·.1))[i]?=some y:=by rw[c8,hf];rfl
    have:=(V1 (l:=ow.map (·.1)) (i:=j) (j:=i) (by rw[ak];omega) nd).mp (by rw[e1,e2]);omega
   refine⟨_,_,_,rfl,λb z e J=>?_,λb e=>f5 b (Y.free (jl e).2),eG (Y _ _ h5) od.symm,aD,?_⟩
   . rw[bg (λy=>by rw[y,n1]at e;cases e)];exact Y _ _ (k5 _ _ e J)
   rw[gY,hf];have:=iZ (F:=dw H H6) (hk H6) (x:=y) (ls:=ls) (v:=.ref q1) ⟨rfl,q1,rfl,f5 _ (sp.free n6),e6⟩ (aq fN λ_ _=>dw.same Y);rw[yr Gg]at this;exact aq this λ_ _=>dw.put (Y _ _ eh)
 rintro Z G ⟨u,v,U,rfl,k5,f5,h5,eh,fN⟩;rw[bD pr,eI]at fN;refine⟨q d _ U n1 (λb z e=>?_) (eG eh od) (aq fN λkv f z=>?_)⟩
 . by_cases J:b=o
   . subst J;rw[ho]at e;cases e;exact aD
   exact eG (k5 b z e J) J
 obtain⟨a,l,b,c,e⟩:=z;exact⟨a,l,b,c,eG e (λy=>by rw[y,ho]at c;cases c)⟩
inductive Rz (C:Addr):Sp where
 | mk {H:Hp}{Q:VK}{E:XK}{x dx d b:Addr}{v:V}{j:ae} (_:H x=some (.ins C dx (b8 d b v))) (_:H b=some (.lst j)) (_:dL H (.lst j) Q):Rz C [.ref x] H Q E
theorem ajO:aP [aso] [aso] (aA Ou):=aV
theorem Cf(j:Pg K mg base Pt):aw P w K mg base aI 1 j.BNo.f j.BNo.fd [aso] (Rz j.D):=by
 refine j.BNo.u.okL ajO ?_;intro J A outer s H vs Q E U h xX O;obtain @⟨_,_,_,x,dx,d,b,v,Y,G,z,q⟩:=h;refine⟨_,(aj (aX (dH lB (by rfl) j.B.list iO (al (bG (pv 0) rfl))))),?_⟩;exact⟨G,j.UD.cl,j.UD.nB,Rq _ _ _,b,_,rfl,.inl (aa.of z),q⟩
def look(tr:List (Str×β))(k:Str):Option β:=(tr.find? λf=>decide (f.1=k)).map (·.2)
theorem jN(f:Str×β)(tr:List (Str×β))(k:Str):look (f::tr) k=if f.1=k then some f.2 else look tr k:=by
 unfold look;rw[sf]
 by_cases h:f.1=k
 . rw[am h,bE h];rfl
 rw[ah h,cu h]
theorem fO{tr:List (Str×β)}{k:Str}:look tr k=none↔k∉tr.map (·.1):=by
 induction tr with
 | nil=>exact⟨(λ_ h=>nomatch h),λ_=>rfl⟩
 | cons f tr j=>
  rw[jN,bV,bf,ny,<-j]
  by_cases h:f.1=k
  . rw[am h];exact⟨(λz=>nomatch z),λz=>absurd h.symm z.1⟩
  rw[ah h];exact⟨λz=>⟨λe=>h e.symm,z⟩,λz=>z.2⟩
theorem kD{tr:List (Str×β)}{k:Str}{ls:β}(h:look tr k=some ls):(k,ls)∈tr:=by
 induction tr with
 | nil=>cases h
 | cons f tr j=>
  rw[jN]at h
  by_cases e:f.1=k
  . rw[am e]at h;cases h;rw[<-e];exact bH
  rw[ah e]at h;exact bR _ (j h)
theorem oM{tr:List (Str×β)}{k:Str}{ls:β}(nd:(tr.map (·.1)).Nodup)(h:(k,ls)∈tr):look tr k=some ls:=by
 cases e:look tr k with
 | none=>exact absurd (fq (f:=(·.1)) h) (fO.mp e)
 | some j=>rw[oE nd (kD e) h]
theorem ajP(tr:List (Str×β))(g:Str×β)(k:Str):look (tr++[g]) k=(look tr k).or (if g.1=k then some g.2 else none):=by
 induction tr with
 | nil=>rw[Aa,jN];rfl
 | cons f tr j=>
  rw[uP,jN,jN,j];split<;>rfl
theorem yO(tr:List (Str×β))(p:Str)(ls:β)(k:Str):look (bP tr p ls) k=if p=k then some ls else look tr k:=by
 unfold bP;split
 . rename_i h;have hp:=q9.mp h;clear h
   induction tr with
   | nil=>cases hp
   | cons f tr J=>
    rw[bV,jN,jN]
    by_cases G:f.1=p
    . rw[am G,G]
      by_cases j:p=k
      . rw[am j,am j]
      rw[ah j,ah j,ah j];clear J hp G
      induction tr with
      | nil=>rfl
      | cons g tr J=>
       rw[bV,jN,jN,J]
       by_cases O:g.1=p
       . rw[am O,O,ah j,ah j]
       rw[ah O]
    rw[ah G];rw[bV,bf]at hp
    rcases hp with hp | hp
    . exact absurd hp.symm G
    rw[J hp]
    by_cases j:f.1=k
    . rw[am j,am j,ah (λe=>G (j.trans e.symm))]
    rw[ah j,ah j]
 rename_i h;have hp:p∉tr.map (·.1):=λz=>h (q9.mpr z);rw[ajP];show(look tr k).or (if p=k then some ls else none)=_
 by_cases j:p=k
 . rw[am j,am j,<-j,fO.mpr hp];rfl
 rw[ah j,ah j];cases look tr k<;>rfl
theorem ajQ(tr:List (Str×β))(p k:Str):look (kC tr p) k=if p=k then none else look tr k:=by
 unfold kC
 induction tr with
 | nil=>
  show none=_;split<;>rfl
 | cons f tr z=>
  rw[nw]
  by_cases h:f.1=p
  . rw[ah (by simp[h]),z,jN]
    by_cases j:p=k
    . rw[am j,am j]
    rw[ah j,ah j,ah (λe=>j (h.symm.trans e))]
  rw[am (by simp[h]),jN,jN,z]
  by_cases j:p=k
  . rw[am j,am j,ah (λe=>h (e.trans j.symm))]
  rw[ah j,ah j]
def aZ(tr:List (Str×β))(fs:List (Str×β))(p:Str):List (Str×β):=match look tr p with
 | some ls=>bP fs p ls
 | none=>kC fs p
theorem ajR(tr fs:List (Str×β))(p k:Str):look (aZ tr fs p) k=if p=k then look tr k else look fs k:=by
 unfold aZ;split
 . rename_i ls e;rw[yO]
   by_cases h:p=k
   . rw[am h,am h,<-h,e]
   rw[ah h,ah h]
 rename_i e;rw[ajQ]
 by_cases h:p=k
 . rw[am h,am h,<-h,e]
 rw[ah h,ah h]
theorem Cg(tr:List (Str×β)):∀(ps:Ls) (fs:List (Str×β)) (k:Str),look (ps.foldl (aZ tr) fs) k=if k∈ps then look tr k else look fs k
 | [],fs,k=>by rw[ah (by simp)];rfl
 | p::ps,fs,k=>by
  rw[ma,Cg tr ps,ajR]
  by_cases h:k∈ps
  . rw[am h,am (bR _ h)]
  rw[ah h]
  by_cases e:p=k
  . rw[am e,am (by rw[e];exact bH)]
  rw[ah e,ah (by rw[bf,ny];exact⟨λz=>e z.symm,h⟩)]
theorem Hh{tr fs:List (Str×β)}{p:Str}(h:(fs.map (·.1)).Nodup):((aZ tr fs p).map (·.1)).Nodup:=by
 unfold aZ;split
 . exact lH h
 exact ajL h
theorem ajS(tr fs:List (Str×β))(p:Str):(aZ tr fs p).length<=fs.length+1:=by
 unfold aZ;split
 . exact lI _ _ _
 have:=ajM fs p;omega
theorem RA{tr:List (Str×β)}:∀{ps:Ls}{fs:List (Str×β)},(fs.map (·.1)).Nodup->((ps.foldl (aZ tr) fs).map (·.1)).Nodup
 | [],_,h=>h
 | _::ps,_,h=>RA (ps:=ps) (Hh h)
theorem Hi{tr:List (Str×β)}:∀(ps:Ls) (fs:List (Str×β)),(ps.foldl (aZ tr) fs).length<=fs.length+ps.length
 | [],_=>aK _
 | p::ps,fs=>by
  have:=Hi (tr:=tr) ps (aZ tr fs p);have:=ajS tr fs p;rw[ma,cq];omega
def bU(fs:Tr):Prop:=∀f∈fs,∀y∈f.2,Ln y
theorem RB{tr fs:Tr}{p:Str}(G:bU tr)(h:bU fs):bU (aZ tr fs p):=by
 unfold aZ;split
 . rename_i ls e;intro f j
   rcases kj j with z | z
   . rw[z];exact G _ (kD e)
   exact h f z
 exact λf j=>h f (lX.mp j).1
theorem RC{tr:Tr}(j:bU tr):∀{ps:Ls}{fs:Tr},bU fs->bU (ps.foldl (aZ tr) fs)
 | [],_,h=>h
 | _::ps,_,h=>RC j (ps:=ps) (RB j h)
abbrev Hl (l:Ls):Prop:=l.Pairwise (λa b=>a.cps.toList<=b.cps.toList)
theorem ajT{a b:Ls}(p:a.Perm b)(h1:Hl a)(h2:Hl b):a=b:=by
 refine aqP (λx y _ _ h h'=>?_) h1 h2 p;have e:=VZ h h';obtain⟨⟨x⟩⟩:=x;obtain⟨⟨y⟩⟩:=y;have e:x=y:=e;rw[e]
structure dz(fs tr:List (Str×β))(ps:Ls):Prop where
 srt:Hl ps
 nd:ps.Nodup
 mem:∀k,k∈ps↔look fs k≠look tr k
theorem ajU{α:Type}[DecidableEq α]{a b:List α}(j:a.Nodup)(G:b.Nodup)(h:∀z,z∈a↔z∈b):a.Perm b:=(List.perm_ext_iff_of_nodup j G).mpr h
theorem dz.eq{fs tr:List (Str×β)}{j:Ls}(x:dz fs tr ps)(y:dz fs tr j):ps=j:=ajT (ajU x.nd y.nd λz=>by rw[x.mem,y.mem]) x.srt y.srt
theorem dz.drop{fs tr:List (Str×β)}(x:dz fs tr ps)(m:Nat):dz ((ps.take m).foldl (aZ tr) fs) tr (ps.drop m) where
 srt:=x.srt.sublist (List.drop_sublist m ps)
 nd:=x.nd.sublist (List.drop_sublist m ps)
 mem:=λk=>by
  rw[Cg];have hd:ps=ps.take m++ps.drop m:=(V4 m ps).symm;have nd:=x.nd;rw[hd,qw]at nd
  by_cases h:k∈ps.take m
  . rw[am h];exact⟨λz=>absurd rfl (nd.2.2 k h k z),λz=>absurd rfl z⟩
  rw[ah h,<-x.mem k];exact⟨λz=>zP z,λz=>by
   rw[hd]at z
   rcases bY.mp z with z | z
   . exact absurd z h
   exact z⟩
theorem dz.len{fs tr:List (Str×β)}(x:dz fs tr ps):ps.length<=fs.length+tr.length:=by
 have:=iX (ys:=fs.map (·.1)++tr.map (·.1)) x.nd λz hz=>by
  refine bY.mpr ?_
  by_cases h1:z∈fs.map (·.1)
  . exact .inl h1
  by_cases h2:z∈tr.map (·.1)
  . exact .inr h2
  exact absurd ((fO.mpr h1).trans (fO.mpr h2).symm) ((x.mem z).mp hz)
 rw[bI,ak,ak]at this;exact this
theorem dz.all{fs tr:List (Str×β)}(x:dz fs tr ps)(k:Str):look (ps.foldl (aZ tr) fs) k=look tr k:=by
 rw[Cg]
 by_cases h:k∈ps
 . rw[am h]
 rw[ah h]
 by_cases e:look fs k=look tr k
 . exact e
 exact absurd ((x.mem k).mpr e) h
theorem RD{fs tr:List (Str×β)}(nd:(fs.map (·.1)).Nodup)(h:∀k,look fs k=look tr k):∀f∈fs,f∈tr:=λf j=>by
 obtain⟨k,ls⟩:=f;exact kD ((h k).symm.trans (oM nd j))
theorem ajV{fs tr:List (Str×β)}(nd:(fs.map (·.1)).Nodup)(G:(tr.map (·.1)).Nodup)(h:∀k,look fs k=look tr k):fs.length=tr.length:=by
 have a:=iX (xs:=fs.map (·.1)) (ys:=tr.map (·.1)) nd λz hz=>by
  obtain⟨f,j,rfl⟩:=ca.mp hz;exact fq (f:=(·.1)) (RD nd h f j)
 have b:=iX (xs:=tr.map (·.1)) (ys:=fs.map (·.1)) G λz hz=>by
  obtain⟨f,j,rfl⟩:=ca.mp hz;exact fq (f:=(·.1)) (RD G (λk=>(h k).symm) f j)
 rw[ak,ak]at a b;omega
theorem uz{fs:Tr}(h:Paired (aY H) kvs fs)(nd:(fs.map (·.1)).Nodup)(p:Str):(look fs p=none/\bi kvs (.inr p)=none)\/(∃ls l,look fs p=some ls/\bi kvs (.inr p)=some (.ref l)/\H l=some (.lst (ls.map V.str))/\(p,ls)∈fs):=by
 have G:∀kv f,aY H kv f->kv.1=Sum.inr f.1:=λkv f z=>z.1
 by_cases j:p∈fs.map (·.1)
 . obtain⟨v,ls,e,J,r⟩:=rc G h j;obtain⟨_,l,e2,e3⟩:=r;have e2:v=.ref l:=e2;exact .inr ⟨ls,l,oM nd J,by rw[e,e2],e3,J⟩
 exact .inl ⟨fO.mpr j,Bp G h j⟩
def Cj:Option (Ls)->W.Dat
 | none=>.none
 | some ls=>dS ls
theorem RE:∀{a b:Ls},a.map W.Dat.str=b.map W.Dat.str->a=b
 | [],[],_=>rfl
 | [],_::_,h=>nomatch h
 | _::_,[],h=>nomatch h
 | x::a,y::b,h=>by
  rw[bV,bV]at h;injection h with h1 h2
  injection h1 with h1
  rw[h1,RE h2]
theorem ajW{a b:Option (Ls)}(h:Cj a=Cj b):a=b:=by
 cases a with
 | none=>
  cases b with
  | none=>rfl
  | some y=>cases h
 | some x=>
  cases b with
  | none=>cases h
  | some y=>
   have h:W.Dat.list (x.map W.Dat.str)=W.Dat.list (y.map W.Dat.str):=h;injection h with h
   rw[RE h]
theorem ajX{K:Fg}{fs:Tr}(h:Paired (aY H) kvs fs)(nd:(fs.map (·.1)).Nodup)(ok:bU fs)(p:Str):DV K H ((bi kvs (.inr p)).getD .non) (Cj (look fs p))/\W.kqdOk 9 (Cj (look fs p))=true:=by
 rcases uz h nd p with⟨e1,e2⟩ | ⟨ls,l,e1,e2,e3,j⟩
 . rw[e1,e2];exact⟨.non,rfl⟩
 rw[e1,e2];exact⟨mH (aa.of e3),Rx (ok _ j)⟩
def oN(fs tr:List (Str×β)):Prop:=∃U:Ls,U.length<=63/\∀k,(k∈fs.map (·.1)\/k∈tr.map (·.1))->k∈U
theorem wf{fs tr:List (Str×β)}(h:fs.length+tr.length<=63):oN fs tr:=⟨fs.map (·.1)++tr.map (·.1),by rw[bI,ak,ak];exact h,λk z=>bY.mpr z⟩
theorem oN.fst{fs tr:List (Str×β)}(h:oN fs tr)(nd:(fs.map (·.1)).Nodup):fs.length<=63:=by
 obtain⟨U,j,m⟩:=h;have:=iX nd λz hz=>m z (.inl hz);rw[ak]at this;omega
theorem oN.snd{fs tr:List (Str×β)}(h:oN fs tr)(nd:(tr.map (·.1)).Nodup):tr.length<=63:=by
 obtain⟨U,j,m⟩:=h;have:=iX nd λz hz=>m z (.inr hz);rw[ak]at this;omega
inductive Ck (Fv:Hp->ao×V->Str×β->Prop) (OK:List (Str×β)->Prop):Sp where
 | mk {H:Hp}{Q:VK}{E:XK}{a b:Addr}{j z:List (ao×V)}{fs tr:List (Str×β)} (_:H a=some (.dK j)) (_:H b=some (.dK z)) (_:Paired (Fv H) j fs) (_:Paired (Fv H) z tr) (_:(fs.map (·.1)).Nodup) (_:(tr.map (·.1)).Nodup) (_:OK fs) (_:OK tr) (_:oN fs tr) (_:∀l H' ps,H l=none->ac H H'->H' l=some (.lst (ps.map V.str))->dz fs tr ps->Q (.ref l) H'):Ck Fv OK [.ref a,.ref b] H Q E
theorem ajY:aP [asY,asV] [asY,asV] (aA OL):=aV
theorem RF[DecidableEq β]{Fv:Hp->ao×V->Str×β->Prop}{OK:List (Str×β)->Prop}{dat:Option β->W.Dat}(Y:∀H kv f,Fv H kv f->kv.1=Sum.inr f.1)(hs:∀{H G:Hp}{kv:ao×V}{f:Str×β},ac H G->Fv H kv f->Fv G kv f)(hi:∀{a b:Option β},dat a=dat b->a=b)(hd:∀{H:Hp}{kvs:List (ao×V)}{fs:List (Str×β)},Paired (Fv H) kvs fs->(fs.map (·.1)).Nodup->OK fs->∀p,DV K H ((bi kvs (.inr p)).getD .non) (dat (look fs p))/\W.kqdOk 9 (dat (look fs p))=true)(J:Pg K mg base Pt):aw P w K mg base aI 1 J.KUn.f J.KUn.fd [asY,asV] (Ck Fv OK):=by
 refine J.KUn.u.okL ajY ?_;intro av A outer s H vs Q E hr h xX dX;obtain @⟨_,_,_,a,b,ka,kb,fs,tr,ha,hb,pa,pb,dE,jH,gW,uA,jt,q⟩:=h;have RG:=jt.fst dE;have RH:=jt.snd jH;have hu:=hr.units;refine⟨_,(aj (aX (fY ["key"] [asY,asV] [0,1] dM rfl (cG (cg (Fk rfl) (by rfl) J.B.sorted sG (al (aJ ae6 (dH Nl (by rfl) J.B.set JI (al (pv 0))) (dH Nl (by rfl) J.B.set JI (al (pv 1)))))))
  (λ_ _ _ _=>(be (i:=0) (show List.Nodup (["key",asY,asV]:Ls) by decide +kernel) rfl (Or.inl rfl))) (λ_ _ _ _=>pL (bL (adW K hu) (Es hu (pv 1) (pv 0) ⟨rfl,rfl,rfl,rfl⟩) (Es hu (pv 2) (pv 0) ⟨rfl,rfl,rfl,rfl⟩) (bC _))) (λ_ _ _ _=>(pv 0))))),?_⟩
 refine⟨a,ka,fs.map (·.1),rfl,ha,oC (Y H) pa,by rw[ak];omega,λr1 RI H1 n1 s1 e1 Hm m1=>?_⟩;refine⟨b,kb,tr.map (·.1),rfl,s1 _ _ hb,oC (Y H) pb,by rw[ak];omega,λr2 RJ H2 n2 s2 e2 yP m2=>?_⟩;have l1:RI.length<=fs.length:=by have:=iX Hm λz hz=>(m1 z).mp hz;rwa [ak]at this
 have l2:RJ.length<=tr.length:=by have:=iX yP λz hz=>(m2 z).mp hz;rwa [ak]at this
 refine⟨r1,r2,RI,RJ,rfl,rfl,aO e1 n2,s2 _ _ e1,e2,by omega,λr3 zs H3 n3 s3 e3 RK m3=>?_⟩;have l3:zs.length<=63:=by
  obtain⟨U,hU,mU⟩:=jt;have:=iX RK λz hz=>mU z ((bY.mp ((m3 z).mp hz)).imp (m1 z).mp (m2 z).mp);omega
 refine⟨r3,zs,rfl,e3,by omega,λys pm srt p H4 n4 s4 e4=>?_⟩;have rq:ac H H4:=(s1.trans s2).trans (s3.trans s4);have a1:ys.length<=63:=by rw[pm.length_eq];exact l3
 refine⟨⟨_,aa.of e4⟩,?_⟩;refine EB (K:=K) (xs:=ys.map V.str) (σ0:=[none,some (.ref a),some (.ref b)]) (aa.of e4) (λZ=>∃v,Z=[v,some (.ref a),some (.ref b)]) (λi ws _=>ws=((ys.take i).filter λk=>decide (look fs k≠look tr k)).map V.str) ⟨_,rfl⟩ (λ_ _=>rfl) ?_ ?_
 . rintro D i x ws Z H5 k k' hD O ⟨v,rfl⟩ eh s5 rfl Y d5;rw[c8]at O;cases hy:ys[i]? with
   | none=>rw[hy]at O;cases O
   | some y=>
    rw[hy]at O;cases O;have j:=rq.trans s5;obtain⟨d1,o1⟩:=hd (aq pa λ_ _=>hs j) dE gW y;obtain⟨d2,o2⟩:=hd (aq pb λ_ _=>hs j) jH uA y;refine⟨.inl ⟨_,.inl (j _ _ ha)⟩,_,ci.k (k:=.inr y) (j _ _ ha),?_⟩;refine⟨.inl ⟨_,.inl (j _ _ hb)⟩,_,ci.k (k:=.inr y) (j _ _ hb),?_⟩;refine⟨_,_,d1,d2,o1,o2,λbb lC=>⟨?_⟩⟩;have e0:(ys.take (i+1)).filter (λk=>decide (look fs k≠look tr k))=(ys.take i).filter (λk=>decide (look fs k≠look tr k))++[y].filter (λk=>decide (look fs k≠look tr k)):=by
     rw[gY,hy,zX];rfl
    refine bv (λh=>?_) (λh=>?_)
    . have cU:look fs y≠look tr y:=λe=>by
       have:bb=true:=lC.mpr (by rw[e]);rw[this]at h;cases h
      refine⟨Y _ _ _ ⟨_,rfl⟩ (ac.refl _) (bQ ?_) ?_⟩
      . rw[ak];have:=zK (λk=>decide (look fs k≠look tr k)) (ys.take i);rw[eW]at this;omega
      rw[e0,nw,am (bE cU),dq];rfl
    have a0:look fs y=look tr y:=by
     cases bb with
     | true=>exact hi (lC.mp rfl)
     | false=>exact absurd rfl h
    refine d5 _ _ ⟨_,rfl⟩ (ac.refl _) ?_;rw[e0,nw,ah (by rw[cu (λz=>z a0)];exact cS),V7,kM]
 rintro D ws H5 hD eh s5 rfl;rw[ak,eI]at eh;have sr:=Bo srt;have Hn:ys.Nodup:=pm.nodup_iff.mpr RK;refine q D H5 _ (rq.free hD) (rq.trans s5) eh ⟨sr.sublist zY,Hn.sublist zY,λz=>?_⟩;rw[lX,wU];refine⟨λh=>h.2,λh=>⟨?_,h⟩⟩;rw[pm.mem_iff,m3,bY,m1,m2]
 by_cases z1:z∈fs.map (·.1)
 . exact .inl z1
 by_cases z2:z∈tr.map (·.1)
 . exact .inr z2
 exact absurd ((fO.mpr z1).trans (fO.mpr z2).symm) h
abbrev aj0:Sp:=Ck aY bU
theorem Ho(j:Pg K mg base Pt):aw P w K mg base aI 1 j.KUn.f j.KUn.fd [asY,asV] aj0:=RF (Fv:=aY) (OK:=bU) (λ_ _ _ z=>z.1) (λs z=>aY.same s z) ajW (λh nd ok p=>ajX h nd ok p) j
def Lu(g:Addr)(H:Hp)(kv:ao×V)(f:Str×Ls):Prop:=kv.1=.inr f.1/\∃l,kv.2=.ref l/\l≠g/\H l=some (.lst (f.2.map V.str))
theorem Lu.du{kv:ao×V}(h:Lu g H kv f):aY H kv f:=h.elim λa j=>j.elim λl z=>z.elim λb G=>G.elim λ_ c=>⟨a,l,b,c⟩
theorem Lu.kp{H':Hp}{O:List (ao×V)}(hd:H d=some (.dK O))(k:∀p o,H p=some o->p≠d->H' p=some o){kv:ao×V}(h:Lu g H kv f):Lu g H' kv f:=h.elim λa j=>j.elim λl G=>G.elim λb J=>J.elim λn c=>⟨a,l,b,n,k _ _ c (aU c hd (by intro z;cases z))⟩
structure Tn(g d:Addr)(fs:Tr)(H H':Hp):Prop where
 hd:∃kd,H' d=some (.dK kd)/\Paired (Lu g H') kd fs
 kp:∀p o,H p=some o->p≠d->H' p=some o
inductive Hq (C:Addr):Sp where
 | mk {H:Hp}{Q:VK}{E:XK}{x dx d b t g:Addr}{j z:List (ao×V)}{fs tr:Tr} (_:H x=some (.ins C dx (b8 d b .non))) (_:H d=some (.dK j)) (_:H t=some (.dK z)) (_:d≠t) (_:Paired (Lu g H) j fs) (_:Paired (aY H) z tr) (_:(fs.map (·.1)).Nodup) (_:(tr.map (·.1)).Nodup) (_:bU fs) (_:bU tr) (_:oN fs tr) (_:(∃o,H g=some o)) (_:∀ps H',dz fs tr ps->Tn g d (ps.foldl (aZ tr) fs) H H'->Q .non H'):Hq C [.ref x,.ref t] H Q E
theorem Cm:aP [asv,asM,asq] [asv,asM] (aA BA):=aV
theorem RL(j:Pg K mg base Pt):aw P w K mg base aI 3 j.Tur.f j.Tur.fd [asv,asM] (Hq j.D):=by
 refine j.Tur.u.okL Cm ?_;intro av A outer s H vs Q E hr h xX dX;obtain @⟨_,_,_,x,dx,d,b,t,g,kd,kt,fs,tr,hx,hd,ht,Cn,pd,pt,dE,jH,gW,uA,jt,⟨og,hg⟩,q⟩:=h;have RG:=jt.fst dE;have RH:=jt.snd jH;have hu:=hr.units;have dv:ce 1 (A.deeper (PyProof.Rows.envOfC "turn_to" (aA BA) s.heap.objs.size j.Tur.f av)):=hr.mono (by decide);refine⟨_,(aj (eO dQ rfl (cG (ay (Ho j) dv rfl (aL (dr (pv 0) j.UD.cl j.FNo.mt (up (uy j)) dv j.FNo.b .nil bJ) (pv 1)))) (be (i:=2) Cm.nd rfl (Or.inl rfl))
  (aj (bN (jy (pH hu (pv 2) (pv 1)) (by rfl))
   (aj (bB (gz (pv 0) j.UD.cl j.DPt.mt (up (He j)) hr j.DPt.b .nil bJ (aL (pv 2) (lm hu (pv 1) (pv 2) (λ_ _=>rfl)))))) (aj (bB (gz (pv 0) j.UD.cl j.DEr.mt (up (Rw j)) hr j.DEr.b .nil bJ (al (pv 2))))))))),?_⟩
 have xd:x≠d:=aU hx hd (by intro z;cases z);refine⟨hx,rfl,hx,hd,aq pd λ_ _=>Lu.du,dE,by omega,λr H1 kr n1 s1 e1 pr=>?_⟩;refine⟨e1,s1 _ _ ht,aq pr λ_ _ a0=>a0.elim λz1 a1=>a1.elim λl a2=>a2.elim λz2 a3=>a3.elim λ_ z3=>⟨z1,l,z2,z3⟩,aq pt λ_ _=>aY.same s1,dE,jH,gW,uA,jt,λl H2 ps n2 s2 e2 U=>?_⟩;have bZ:=s1.trans s2;have ld:l≠d:=(aO hd (s1.free n2)).symm;have B3:=U.len;refine⟨⟨_,aa.of e2⟩,?_⟩;refine hJ (xs:=ps.map V.str) (λi Z G=>∃v,Z=[some (.ref x),some (.ref t),v]/\G l=some (.lst (ps.map V.str))/\Tn g d ((ps.take i).foldl (aZ tr) fs) H G)
  ⟨none,rfl,e2,⟨kd,bZ _ _ hd,aq pd λ_ _=>Lu.kp hd λp o e _=>bZ _ _ e⟩,λp o e _=>bZ _ _ e⟩ ?_ ?_ ?_
 . rintro i Z G hi ⟨v,rfl,Y,_⟩;exact aa.of Y
 . intro i v0 Z G hv hQ;refine bq ?_;intro tT;obtain⟨v,rfl,Y,W⟩:=hQ;rw[c8]at hv;cases hy:ps[i]? with
   | none=>rw[hy]at hv;cases hv
   | some p=>
    rw[hy]at hv;cases hv;obtain⟨a9,J,mY⟩:=W.hd;have RM:=(cM.mp hy).1;have lQ:=W.kp _ _ ht (gy Cn);have Co:=W.kp _ _ hx xd;have Hr:Paired (aY G) kt tr:=aq pt λ_ _ a4=>a4.elim λz1 a5=>a5.elim λl' a6=>a6.elim λz2 z3=>⟨z1,l',z2,W.kp _ _ z3 (aU z3 hd (by intro z;cases z))⟩;have iy:(ps.take (i+1)).foldl (aZ tr) fs=aZ tr ((ps.take i).foldl (aZ tr) fs) p:=by
     rw[gY,hy,oZ];rfl
    have a7:=Hi (tr:=tr) (ps.take i) fs;have a8:(ps.take i).length<=ps.length:=by rw[eW];omega
    have QY:=bD mY;have yQ:∀kv f,Lu g G kv f->kv.1=Sum.inr f.1:=λkv f z=>z.1;refine⟨_,ci.k (k:=.inr p) lQ,⟨?_⟩⟩
    rcases uz Hr jH p with⟨g1,g2⟩ | ⟨ls,l',g1,g2,g3,_⟩
    . rw[g2];refine cL ?_;refine⟨Co,rfl,Co,J,λH6 h2 O=>?_⟩;refine⟨_,rfl,O _ _ Y ld,⟨_,h2,?_⟩,λq o z hq=>O _ _ (W.kp _ _ z hq) hq⟩;have fg:aZ tr ((ps.take i).foldl (aZ tr) fs) p=kC ((ps.take i).foldl (aZ tr) fs) p:=by unfold aZ;rw[g1]
      rw[iy,fg]
      rcases Cd yQ mY p with⟨hp,hs⟩ | ⟨hp,hs⟩
      . rw[am hs];exact aq (Cb yQ mY) λ_ _=>Lu.kp J O
      rw[hs,Cc hp];exact aq mY λ_ _=>Lu.kp J O
    rw[g2];refine dZ ?_;refine⟨Co,rfl,(by rw[<-g2];exact ci.k (k:=.inr p) lQ),?_⟩;refine⟨Co,J,g3,by omega,λqn H6 nq h2 O h4=>?_⟩;refine⟨_,rfl,h4 _ _ Y ld,⟨_,h2,?_⟩,λq o z hq=>h4 _ _ (W.kp _ _ z hq) hq⟩;have fg:aZ tr ((ps.take i).foldl (aZ tr) fs) p=bP ((ps.take i).foldl (aZ tr) fs) p ls:=by unfold aZ;rw[g1]
    rw[iy,fg];have qg:qn≠g:=λz=>by
     by_cases e:g=d
     . rw[z,e,J]at nq;cases nq
     rw[z,W.kp _ _ hg e]at nq;cases nq
    exact iZ (F:=Lu g H6) (λkv f z=>z.1) ⟨rfl,qn,rfl,qg,O⟩ (aq mY λ_ _=>Lu.kp J h4)
 rintro Z G ⟨v,rfl,Y,W⟩;rw[ak]at W;rw[eI]at W;exact q ps G U W
end
section
variable {l:Ls}{n:Nat}{β:Type}
open Lcp
inductive RN (K:Fg):Sp where
 | mk {H:Hp}{Q:VK}{E:XK}{a b:Addr}{xs ys:Ls} (_:aa K H a (xs.map V.str)) (_:aa K H b (ys.map V.str)) (_:Q (.int (gk xs ys)) H):RN K [.ref a,.ref b] H Q E
theorem Hs:aP [asF,ath,"many"] [asF,ath] (aA OC):=aV
theorem RO(j:Pg K mg base Pt):aw P w K mg base aI 1 j.Ali.f j.Ali.fd [asF,ath] (RN K):=by
 refine j.Ali.u.okL Hs ?_;intro av A outer s H vs Q E hr h xX dX;obtain @⟨_,_,_,a,b,xs,ys,U,Y,q⟩:=h;refine⟨_,(ai (aM (i:=2) Hs.nd rfl (Or.inl rfl) ar)
  (ai (Kg dQ (PW.pt (mn (bL qJ (pv 2) (cg fA (by rfl) j.B.len eX (al (pv 0))) (bC _)) (mn (bL qJ (pv 2) (cg fA (by rfl) j.B.len eX (al (pv 1))) (bC _)) (ph (bL fV (bO fW (pv 0) (pv 2) (λ_ _=>rfl)) (bO fW (pv 1) (pv 2) (λ_ _=>rfl)) (bC _)))))) (aj (aM (i:=2) Hs.nd rfl (Or.inl rfl) (aJ fU (pv 2) ar))))
  (aj (aX (pv 2))))),?_⟩
 refine jn ?_;intro dD sS gr dU;refine⟨λm Z H'=>∃i:Nat,m=xs.length - i/\i<=xs.length/\Z=[some (.ref a),some (.ref b),some (.int i)]/\H'=H/\gk xs ys=i+gk (xs.drop i) (ys.drop i),⟨_,0,rfl,dF _,rfl,rfl,(Dm _).symm⟩,?_⟩;intro m Z H' fM;refine bq ?_;intro tT;obtain⟨i,rfl,hi,rfl,rfl,G⟩:=fM
 first | (refine vv (g:=mo _) ?_;intro eQ sQ) | (refine vv (g:=sW _ _ _) ?_;intro eQ sQ) | skip
 have J:gk (xs.drop i) (ys.drop i)=0->mj 2 [some (V.ref a),some (V.ref b),some (V.int i)] H' Q:=λz=>by
  rw[z,Jw]at G;rw[G]at q;exact⟨q⟩
 refine⟨a,_,rfl,.inl U,⟨⟨?_⟩⟩⟩;refine bv (λh=>?_) (λh=>?_)
 . have h1:=cT h;rw[ak]at h1;refine⟨b,_,rfl,.inl Y,⟨⟨?_⟩⟩⟩;refine bv (λh=>?_) (λh=>?_)
   . have h2:=cT h;rw[ak]at h2;obtain⟨x,hx,ex⟩:=vn (xs:=xs) (r:=(i:Int)) (by omega) h1;obtain⟨y,hy,O⟩:=vn (xs:=ys) (r:=(i:Int)) (by omega) h2;rw[lY]at ex O;have es:=abX ex O;refine⟨U,hx,Y,hy,rfl,⟨?_⟩⟩;refine bv (λh=>?_) (λh=>?_)
     . have e:x=y:=by have:=cT h;injection this
       rw[am e]at es;refine⟨λσ' H2=>σ'=[some (.ref a),some (.ref b),some (.int ((i:Int)+1))]/\H2=H',?_,?_⟩
       . rintro σ' H2 ⟨rfl,rfl⟩;exact⟨_,(show xs.length - (i+1)<xs.length - i by omega),i+1,rfl,by omega,by rw[Int.natCast_add];rfl,rfl,by rw[G,es];omega⟩
       exact⟨rfl,rfl⟩
     have e:x≠y:=λe=>h (by rw[e];exact bE rfl);rw[ah e]at es;exact J es
   have h2:=JJ (sj.mpr h);rw[ak]at h2;exact J (LY (.inr (by omega)))
 have h1:=JJ (sj.mpr h);rw[ak]at h1;exact J (LY (.inl (by omega)))
structure Cp(H:Hp)(t l:Addr)(xs ys:Ls):Prop where
 tup:H t=some (.tup [.int (Lcp.fst xs ys),.int (iy xs ys),.ref l])
 lst:H l=some (.lst ((tJ xs ys).map V.str))
inductive RP (K:Fg):Sp where
 | mk {H:Hp}{Q:VK}{E:XK}{a b:Addr}{xs ys:Ls} (_:aa K H a (xs.map V.str)) (_:aa K H b (ys.map V.str)) (_:∀t l H',H t=none->H l=none->ac H H'->Cp H' t l xs ys->Q (.ref t) H'):RP K [.ref a,.ref b] H Q E
theorem Ht:aP [as5,asI,"start","behind"] [as5,asI] (aA OB):=aV
theorem RQ(j:Pg K mg base Pt):aw P w K mg base aI 2 j.Blk.f j.Blk.fd [as5,asI] (RP K):=by
 refine j.Blk.u.okL Ht ?_;intro av A outer s H vs Q E O h xX dX;obtain @⟨_,_,_,a,b,xs,ys,J,G,q⟩:=h;refine⟨_,(ai (aM (i:=2) Ht.nd rfl (Or.inl rfl) (ay (RO j) O rfl (aL (pv 0) (pv 1))))
  (ai (aM (i:=3) Ht.nd rfl (Or.inl rfl) (ay (RO j) O rfl (aL (LX (li qO (pv 0) (jz (pv 2)) nQ)) (LX (li qO (pv 1) (jz (pv 2)) nQ)))))
  (aj (aX (eT (dg (pv 2) (aJ uZ (cg fA (by rfl) j.B.len eX (al (pv 0))) (pv 3)) (li qO (pv 1) (jz (pv 2)) (jz (aJ uZ (cg fA (by rfl) j.B.len eX (al (pv 1))) (pv 3)))))))))),?_⟩
 refine jn ?_;intro dD sS gr dU;obtain⟨l1,l2⟩:=LZ xs ys;refine⟨J,G,?_⟩;refine⟨J,λp1 H1 n1 U e1=>?_⟩;rw[vm,ED (by omega),lY]at e1;refine⟨p1,_,rfl,aa.of e1,λp2 H2 n2 Y e2=>?_⟩;rw[L8]at e2;refine⟨ac.seq (U.trans Y) G,λp3 H3 n3 s3 e3=>?_⟩;rw[vm,ED (by omega),lY]at e3;refine⟨p3,_,rfl,aa.of e3,λp4 H4 n4 s4 e4=>?_⟩;rw[L8]at e4;have z:=((U.trans Y).trans s3).trans s4;refine⟨aa.of (s4 _ _ (s3 _ _ e2)),aa.of e4,?_⟩;refine⟨a,_,rfl,.inl (ac.seq z J),b,_,rfl,.inl (ac.seq z G),ac.seq z G,λp5 H5 n5 s5 e5=>?_⟩;refine⟨Al,λp6 H6 n6 s6 e6=>?_⟩;have sB:=z.trans s5;refine q p6 p5 H6 (sB.free n6) (z.free n5) (sB.trans s6) ⟨?_,?_⟩
 . rw[e6];have e:((xs.map V.str).length:Int) - (gk (xs.drop (gk xs ys)).reverse (ys.drop (gk xs ys)).reverse:Int)=(iy xs ys:Int):=by
    rw[ak];unfold iy;unfold pM Lcp.fst at *;omega
   try dsimp only
   rw[e];rfl
 rw[s6 _ _ e5];have e:((ys.map V.str).length:Int) - (gk (xs.drop (gk xs ys)).reverse (ys.drop (gk xs ys)).reverse:Int)=((ys.length - pM xs ys:Nat):Int):=by
  rw[ak];unfold pM Lcp.fst at *;omega
 rw[e,vm,L7 (by omega) (by omega),lY,lY];rfl
inductive RR:Sp where
 | mk {H:Hp}{Q:VK}{E:XK}{t1 t2:Addr}{G z j J:Int}{O U:V} (_:H t1=some (.tup [.int G,.int z,O])) (_:H t2=some (.tup [.int j,.int J,U])) (_:Q (.bl (decide (z<=j))) H):RR [.ref t1,.ref t2] H Q E
theorem akh:aP [asZ,asI] [asZ,asI] (aA OD):=aV
theorem Hu(j:Pg K mg base Pt):aw P w K mg base aI 1 j.IsA.f j.IsA.fd [asZ,asI] RR:=by
 refine j.IsA.u.okL akh ?_;intro J A outer s H vs Q E hr h xX Y;obtain @⟨_,_,_,t1,t2,z,O,G,U,v1,v2,h1,h2,q⟩:=h;refine⟨_,(aj (aX (mr Aq (bO fz (pv 0) ar (λ_ _=>rfl)) (bO fz (pv 1) ar (λ_ _=>rfl)) (bC _)))),?_⟩;exact⟨bh.of h1,rfl,bh.of h2,rfl,⟨q⟩⟩
inductive RS:Sp where
 | mk {H:Hp}{Q:VK}{E:XK}{t1:Addr}{j z:Int}{G:V} (_:H t1=some (.tup [.int j,.int z,G])) (_:Q (.bl (decide (j=z))) H):RS [.ref t1] H Q E
theorem aki:aP [asZ] [asZ] (aA OE):=aV
theorem RT(j:Pg K mg base Pt):aw P w K mg base aI 1 j.Tak.f j.Tak.fd [asZ] RS:=by
 refine j.Tak.u.okL aki ?_;intro J A outer s H vs Q E U h xX O;obtain @⟨_,_,_,t1,z,G,Y,h1,q⟩:=h;refine⟨_,(aj (aX (mr fV (bO fz (pv 0) ar (λ_ _=>rfl)) (bO fz (pv 0) ar (λ_ _=>rfl)) (bC _)))),?_⟩;rw[<-show decide (V.int z=V.int G)=decide (z=G) from wT.mpr ⟨λh=>by injection h,λh=>by rw[h]⟩]at q;exact⟨bh.of h1,rfl,bh.of h1,rfl,rfl,q⟩
inductive RU:Sp where
 | mk {H:Hp}{Q:VK}{E:XK}{t1 t2:Addr}{j G z J:Int}{O U:V} (_:H t1=some (.tup [.int j,.int G,O])) (_:H t2=some (.tup [.int z,.int J,U])) (_:Q (.bl (AN j G z J)) H):RU [.ref t1,.ref t2] H Q E
theorem akj:aP [asZ,asI] [asZ,asI] (aA OF):=aV
theorem akk(j:Pg K mg base Pt):aw P w K mg base aI 2 j.Apa.f j.Apa.fd [asZ,asI] RU:=by
 refine j.Apa.u.okL akj ?_;intro av A outer s H vs Q E G h xX dX;obtain @⟨_,_,_,t1,t2,J,b1,O,b2,v1,v2,h1,h2,q⟩:=h;refine⟨_,(AJ (λZ H'=>Z=[some (.ref t1),some (.ref t2)]/\H'=H/\¬((J=b1/\O=b2)/\J=O)) (bN (PW.pt (mn (jf (ay (RT j) G rfl (al (pv 0)))) (mn (jf (ay (RT j) G rfl (al (pv 1)))) (ph (bL fV (bO fz (pv 0) ar (λ_ _=>rfl)) (bO fz (pv 1) ar (λ_ _=>rfl)) (bC _))))))
  (aj (aX qG)) cD)
  (aj (aX (J4 (ay (Hu j) G rfl (aL (pv 0) (pv 1))) (sU (ay (Hu j) G rfl (aL (pv 1) (pv 0)))))))),?_⟩
 refine⟨?_,?_⟩
 . refine⟨h1,?_⟩;refine⟨bv (λU=>?_) (λU=>?_)⟩
   . refine⟨h2,?_⟩;refine⟨bv (λY=>?_) (λY=>?_)⟩
     . refine⟨bh.of h1,rfl,bh.of h2,rfl,rfl,⟨?_⟩⟩;refine bv (λz3=>?_) (λz3=>?_)
       . have e3:J=O:=by have:=cT z3;injection this
         unfold AN at q;rw[am ⟨⟨cT U,cT Y⟩,e3⟩]at q;exact q
       exact⟨rfl,rfl,λe=>z3 (bE (fo V.int e.2))⟩
     exact cL ⟨rfl,rfl,λe=>Y (bE e.1.2)⟩
   exact cL ⟨rfl,rfl,λe=>U (bE e.1.1)⟩
 rintro σ' H' ⟨rfl,rfl,hn⟩;unfold AN at q;rw[ah hn]at q;refine⟨h1,h2,?_⟩;refine⟨bv (λz=>?_) (λz=>?_)⟩
 . rw[z,Vu]at q;exact q
 rw[sj.mpr z,Bool.false_or]at q;exact⟨h2,h1,q⟩
inductive RV:Sp where
 | mk {H:Hp}{Q:VK}{E:XK}{a t1 j t2 z:Addr}{b x y:Ls} (_:H a=some (.lst (b.map V.str))) (_:Cp H t1 j b x) (_:Cp H t2 z b y) (_:b.length<=20) (_:x.length<=20) (_:y.length<=20) (_:dL H (.lst ((tL b x y).map V.str)) Q):RV [.ref a,.ref t1,.ref t2] H Q E
theorem akl:aP [as5,asY,asV] [as5,asY,asV] (aA OG):=aV
theorem lM(h:l.length<=n):(l.map V.str).length<=n:=by rw[ak];exact h
theorem lA{a b:Ls}{m:Nat}(j:a.length<=m)(z:b.length<=n):(a++b).length<=m+n:=by rw[bI];exact Nat.add_le_add j z
theorem lT{k:Nat}(h:l.length<=n):(l.take k).length<=n:=by rw[eW];exact cn (Nat.min_le_right _ _) h
theorem lD{k:Nat}(h:l.length<=n):(l.drop k).length<=n:=by rw[kP];exact cn (Nat.sub_le _ _) h
theorem wg{b x:Ls}(h:x.length<=n):(tJ b x).length<=n:=lT (lD h)
theorem lS{p q m k:Nat}(h1:p<=m)(h2:q<=n)(h:m+n<=k:=by decide):p+q<=k:=cn (Nat.add_le_add h1 h2) h
theorem RW(zZ:Pg K mg base Pt):aw P w K mg base aI 1 zZ.Bot.f zZ.Bot.fd [as5,asY,asV] RV:=by
 refine zZ.Bot.u.okL akl ?_;intro av A outer s H vs Q E hr h xX dX;obtain @⟨_,_,_,a,t1,l1,t2,l2,b,x,y,O,⟨wj,a0⟩,⟨J,a1⟩,j,G,RX,q⟩:=h;refine⟨_,(aj (aX (aJ tI (aJ tI (aJ tI (aJ tI (li qO (pv 0) nQ (jz (bO fz (pv 1) ar (λ_ _=>rfl)))) (bO fz (pv 1) ar (λ_ _=>rfl))) (li qO (pv 0) (jz (bO fz (pv 1) ar (λ_ _=>rfl))) (jz (bO fz (pv 2) ar (λ_ _=>rfl))))) (bO fz (pv 2) ar (λ_ _=>rfl))) (li qO (pv 0) (jz (bO fz (pv 2) ar (λ_ _=>rfl))) nQ)))),?_⟩;have m1:=L0 b x;have m2:=L0 b y;refine⟨bh.of wj,rfl,aa.of O,λp1 H1 n1 U e1=>?_⟩;rw[vm,abY (by omega),lY]at e1;refine⟨bh.of (U _ _ wj),rfl,e1,U _ _ a0,j8 (lS (lM (lT j)) (lM (wg G))),λp2 H2 n2 s2 e2=>?_⟩;rw[AM]at e2;have z:=U.trans s2;refine⟨bh.of (z _ _ wj),rfl,bh.of (z _ _ J),rfl,aa.of (z _ _ O),λp3 H3 n3 s3 e3=>?_⟩;rw[vm,L7 (by omega) (by omega),lY,lY]at e3;refine⟨s3 _ _ e2,e3,j8 (lS (lM (lA (lT j) (wg G))) (lM (lT (lD j)))),λp4 H4 n4 s4 e4=>?_⟩;rw[AM]at e4;have Y:=(z.trans s3).trans s4;refine⟨bh.of (Y _ _ J),rfl,e4,Y _ _ a1,j8 (lS (lM (lA (lA (lT j) (wg G)) (lT (lD j)))) (lM (wg RX))),λp5 H5 n5 s5 e5=>?_⟩;rw[AM]at e5;have sD:=Y.trans s5;refine⟨bh.of (sD _ _ J),rfl,aa.of (sD _ _ O),λp6 H6 n6 s6 e6=>?_⟩;rw[vm,ED (by omega),lY]at e6;refine⟨s6 _ _ e5,e6,j8 (lS (lM (lA (lA (lA (lT j) (wg G)) (lT (lD j))) (wg RX))) (lM (lD j))),λp7 H7 n7 s7 e7=>?_⟩;rw[AM]at e7;have sE:=sD.trans s6;exact q p7 H7 (sE.free n7) (sE.trans s7) e7
inductive RY:Sp where
 | mk {H:Hp}{Q:VK}{E:XK}{a o n:Addr}{b x y:Ls} (_:H a=some (.lst (b.map V.str))) (_:H o=some (.lst (x.map V.str))) (_:H n=some (.lst (y.map V.str))) (_:mG b) (_:mG x) (_:mG y) (_:∀t l r H',H t=none->H l=none->(∀j,r=.ref j->H j=none/\j≠l)->ac H H'->aca H' t l r (merge b x y)->Q (.ref t) H'):RY [.ref a,.ref o,.ref n] H Q E
theorem Hw:aP [as5,asP,"new","own_block","new_block"] [as5,asP,"new"] (aA OH):=aV
theorem ako(j:Pg K mg base Pt):aw P w K mg base aI 3 j.Put.f j.Put.fd [as5,asP,"new"] RY:=by
 refine j.Put.u.okL Hw ?_;intro av A outer s H vs Q E hr h xX dX;obtain @⟨_,_,_,a,o,n,b,x,y,O,hO,hN,lb,lx,ly,q⟩:=h;have dv:ce 1 _:=hr.mono (by decide);have hu:=hr.units;refine⟨_,(ai (bN (bL (xF hu) (pv 1) (pv 0) (bC _))
  (aj (aX (eT (aL (dH lB (by rfl) j.B.list iO (al (pv 2))) iP)))) cD)
  (AJ (λZ H'=>Z=[some (.ref a),some (.ref o),some (.ref n),none,none]/\H'=H/\¬(y=b\/x=y)) (bN (PW.pt (sP (bL (xF hu) (pv 2) (pv 0) (bC _)) (sO (bL (xF hu) (pv 1) (pv 2) (bC _)))))
  (aj (aX (eT (aL (dH lB (by rfl) j.B.list iO (al (pv 1))) iP)))) cD)
  (ai (aM (i:=3) Hw.nd rfl (Or.inl rfl) (ay (RQ j) hr rfl (aL (pv 0) (pv 1))))
  (ai (aM (i:=4) Hw.nd rfl (Or.inl rfl) (ay (RQ j) hr rfl (aL (pv 0) (pv 2))))
  (ai (bN (qH (jf (ay (akk j) hr rfl (aL (pv 3) (pv 4)))))
  (aj (aX (eT (aL (dH lB (by rfl) j.B.list iO (al (pv 2))) (dH lB (by rfl) j.B.list iO (al (pv 1))))))) cD)
  (ai (bN (jf (ay (Hu j) dv rfl (aL (pv 3) (pv 4))))
  (aj (aX (eT (aL (ay (RW j) dv rfl (dg (pv 0) (pv 3) (pv 4))) iP)))) cD)
  (aj (aX (eT (aL (ay (RW j) dv rfl (dg (pv 0) (pv 4) (pv 3))) iP)))))))))),?_⟩
 refine mI ?_;intro dD sS dU;have oB:=xI 8 lb.all;have oX:=xI 8 lx.all;have oY:=xI 8 ly.all;have one:∀(m:Ls) (p1:Addr) (H0 H1:Hp),merge b x y=(m,none)->ac H H0->H0 p1=none->ac H0 H1->H1 p1=some (.lst (m.map V.str))->[V.ref p1,V.non].length<=sizeLine/\dL H1 (.tup [.ref p1,.non]) Q:=λm p1 H0 H1 em s0 n1 z e1=>by
  refine⟨by show 2<=sizeLine;decide,λp2 H2 n2 U e2=>?_⟩;refine q p2 p1 .non H2 ((s0.trans z).free n2) (s0.free n1) (λl2 e=>by cases e) ((s0.trans z).trans U) ?_;rw[em];exact⟨e2,U _ _ e1,rfl⟩
 refine⟨dS x,dS b,mH (aa.of hO),mH (aa.of O),oX,oB,λb1 Hy=>?_⟩;rw[EE Hy];refine⟨bv (λh=>?_) (λh=>?_)⟩
 . refine⟨n,_,rfl,.inl (aa.of hN),λp1 H1 n1 z e1=>?_⟩;exact one y p1 H H1 (ab1 (cT h)) (ac.refl _) n1 z e1
 have Cq:x≠b:=JJ (sj.mpr h);refine⟨?_,?_⟩
 . refine⟨dS y,dS b,mH (aa.of hN),mH (aa.of O),oY,oB,λb2 iY=>?_⟩;rw[EE iY];have a0:(y=b\/x=y)->mj 1 [some (V.ref a),some (.ref o),some (.ref n),none,none] H (λv H=>∃p ys,([v]:ae)=[.ref p]/\(aa K H p ys\/bh K H p ys)/\dL H (.lst ys) λv H1=>[v,V.non].length<=sizeLine/\dL H1 (.tup [v,.non]) Q):=λhc=>
    ⟨o,_,rfl,.inl (aa.of hO),λp1 H1 n1 z e1=>one x p1 H H1 (ab2 Cq hc) (ac.refl _) n1 z e1⟩
   refine⟨bv (λh2=>?_) (λh2=>?_)⟩
   . exact dZ (a0 (.inl (cT h2)))
   refine⟨dS x,dS y,mH (aa.of hO),mH (aa.of hN),oX,oY,λb3 rK=>?_⟩;rw[EE rK];refine⟨bv (λh3=>?_) (λh3=>?_)⟩
   . exact a0 (.inr (cT h3))
   exact⟨rfl,rfl,λe=>e.elim (λe=>h2 (bE e)) (λe=>h3 (bE e))⟩
 rintro σ' H' ⟨rfl,rfl,hc⟩;refine⟨aa.of O,aa.of hO,λt1 l1 H1 a3 a1 z J=>?_⟩;refine⟨aa.of (z _ _ O),aa.of (z _ _ hN),λt2 l2 H2 a4 a2 U Cr=>?_⟩;have G:=z.trans U;have J:Cp H2 t1 l1 b x:=⟨U _ _ J.tup,U _ _ J.lst⟩;refine⟨J.tup,Cr.tup,?_⟩;refine⟨bv (λh4=>?_) (λh4=>?_)⟩
 . have ap:apart b x y=false:=by unfold apart;simpa using h4
   refine⟨n,_,rfl,.inl (aa.of (G _ _ hN)),λp5 H5 n5 s5 e5=>?_⟩;refine⟨o,_,rfl,.inl (aa.of (s5 _ _ (G _ _ hO))),λp6 H6 n6 s6 e6=>?_⟩;refine⟨Ah,λp7 H7 n7 s7 e7=>?_⟩;have sB:=(G.trans s5).trans s6;refine q p7 p5 (.ref p6) H7 (sB.free n7) (G.free n5) (λl2 e=>?_) (sB.trans s7) ?_
   . cases e;exact⟨(G.trans s5).free n6,(aO e5 n6).symm⟩
   rw[ab3 Cq hc ap];exact⟨e7,s7 _ _ (s6 _ _ e5),_,rfl,s7 _ _ e6⟩
 have ap:apart b x y=true:=by unfold apart;simpa using h4
 refine⟨J.tup,Cr.tup,?_⟩;refine⟨bv (λY=>?_) (λY=>?_)⟩
 . have Y:=cT Y;refine⟨G _ _ O,J,Cr,lb.len,lx.len,ly.len,λp8 H8 n8 s8 e8=>?_⟩;exact one _ p8 H2 H8 (ab4 Cq hc ap (by omega)) G n8 s8 e8
 have Y:=JJ (sj.mpr Y);refine⟨G _ _ O,Cr,J,lb.len,ly.len,lx.len,λp8 H8 n8 s8 e8=>?_⟩;exact one _ p8 H2 H8 (ab5 Cq hc ap (by omega)) G n8 s8 e8
theorem dw.du{H H':Hp}{kv:ao×V}{f:Str×Ls}(h:dw H H' kv f):aY H' kv f:=h.elim λa j=>j.elim λl z=>z.elim λb G=>G.elim λ_ c=>⟨a,l,b,c⟩
def oO:Str:=".own"
def fP(o:Option (Ls))(p:Str)(b m:Ls):Tr:=
 match o with
 | none=>[(p,m)]
 | some j=>(p,(merge b m j).1)::(match (merge b m j).2 with | none=>[] | some z=>[(p++oO,z)])
def Look(tr:Tr)(p:Str):Option (Ls)->Prop
 | none=>p∉tr.map (·.1)
 | some ls=>(p,ls)∈tr
inductive RZ:Sp where
 | mk {H:Hp}{Q:VK}{E:XK}{p:Str}{t j z d:Addr}{kvs:List (ao×V)}{tr:Tr} (b m:Ls) (o:Option (Ls)) (_:H t=some (.tup [.ref j,.ref z])) (_:H j=some (.lst (b.map V.str))) (_:H z=some (.lst (m.map V.str))) (_:H d=some (.dK kvs)) (_:Paired (aY H) kvs tr) (_:(tr.map (·.1)).Nodup) (_:Look tr p o) (_:mG b) (_:mG m) (_:(∀ls,o=some ls->mG ls)) (_:p.length<=60) (_:∀e H' G,H e=none->ac H H'->H' e=some (.dK G)->Paired (dw H H') G (fP o p b m)->Q (.ref e) H'):RZ [.str p,.ref t,.ref d] H Q E
theorem Ct:aP [asq,asW,ate,"mine","together",asz] [asq,asW,ate] (aA OV):=aV
theorem aku(O:Pg K mg base Pt):aw P w K mg base aI 4 O.FoC.f O.FoC.fd [asq,asW,ate] RZ:=by
 refine O.FoC.u.okL Ct ?_;intro av A outer s H vs Q E hr h xX dX;obtain @⟨_,_,_,p,t,l1,U,d,kvs,tr,b,m,o,ht,hb,hm,hd,pr,nd,lo,Lb,Lm,Lo,a3,q⟩:=h;have hu:=hr.units;have hk:∀kv f,aY H kv f->kv.1=Sum.inr f.1:=λkv f z=>z.1;have z0:cI [V.ref l1,V.ref U] 0=some (V.ref l1):=rfl;have z1:cI [V.ref l1,V.ref U] 1=some (V.ref U):=rfl;have a1:oO.length=4:=by decide +kernel
 refine⟨_,(ai (aM (i:=3) Ct.nd rfl (Or.inl rfl) (bO fz (pv 1) ar (λ_ _=>rfl)))
  (ai (bN (jy (xC hu (pv 0) (pv 2)) (by rfl))
   (aj (aX (LB (Lz (pv 0) (dH lB (by rfl) O.B.list iO (al (pv 3))) Ly) rfl rfl (by intro z;cases z) (by decide)))) cD)
  (ai (aM (i:=4) Ct.nd rfl (Or.inl rfl) (ay (ako O) hr rfl (dg (bO fz (pv 1) ar (λ_ _=>rfl)) (pv 3) (lm hu (pv 2) (pv 0) (λ_ _=>rfl)))))
  (ai (aM (i:=5) Ct.nd rfl (Or.inl rfl) (LB (Lz (pv 0) (bO fz (pv 4) ar (λ_ _=>rfl)) Ly) rfl rfl (by intro z;cases z) (by decide)))
  (ai (bN (bL As (bO fz (pv 4) ar (λ_ _=>rfl)) iP (bC _))
   (aj (iT hu (pv 5) (xO (xN (pv 0)) bT) (bO fz (pv 4) ar (λ_ _=>rfl)) rfl)) cD)
  (aj (aX (pv 5)))))))),?_⟩
 refine vt ?_;intro dD sS Gr BS oH gr dU;refine⟨bh.of ht,z1,?_⟩;refine⟨_,ci.k (k:=.inr p) hd,⟨?_⟩⟩;cases o with
 | none=>
  rw[Bp hk pr lo];refine dZ ?_;refine λe j=>⟨U,_,rfl,.inl (aa.of (fC j _ _ hm)),λq1 H2 n2 s2 e2=>?_⟩;have sH:=(fC (o:=.dK []) j).trans s2;have ee:=s2 _ _ (aD (H:=H) (a:=e) (o:=.dK []));refine⟨ee,[(.inr p,.ref q1)],rfl,(by show 1<=15;decide),?_⟩;exact q e _ [(.inr p,.ref q1)] j (fj sH j) aD (.cons ⟨rfl,q1,rfl,(jl n2).2,aC e2 (jl n2).1⟩ .nil)
 | some ls=>
  obtain⟨v,wX,g1,g2,_,lb,rfl,g3⟩:=rc hk pr (fq (f:=(·.1)) lo);have a0:=oE nd lo g2;subst a0;rw[g1];refine cL ?_;refine⟨bh.of ht,z0,(by rw[<-g1];exact ci.k (k:=.inr p) hd),?_⟩;refine⟨hb,hm,g3,Lb,Lm,Lo ls rfl,λt2 l r H3 nt nl nr s3 pa=>?_⟩;refine λe j=>⟨bh.of (fC j _ _ pa.tup),(rfl:cI [V.ref l,r] 0=some (V.ref l)),?_⟩;refine⟨aD,[(.inr p,.ref l)],rfl,(by show 1<=15;decide),?_⟩;have J:=s3.free j;have sH:ac H (ag (ag H3 e (.dK [])) e (.dK (mC [] [(.inr p,.ref l)]))):=fj (fj s3 J) J;have qh:∀{b:Addr}{z:HO},H3 b=some z->(ag (ag H3 e (.dK [])) e (.dK (mC [] [(.inr p,.ref l)]))) b=some z:=λ{b z} h=>aC (aC h (aO h j)) (aO h j);have pt:=qh pa.tup;have pl:=qh pa.lst;have pe:(ag (ag H3 e (.dK [])) e (.dK (mC [] [(.inr p,.ref l)]))) e=some (.dK [(.inr p,.ref l)]):=aD;refine⟨bh.of pt,rfl,rfl,⟨?_⟩⟩;have G:=pa.bes
  revert G
  cases R0:(merge b m ls).2 with
  | none=>
   intro G;have G:r=.non:=G;subst G;refine aaO rfl ?_;refine⟨q e _ _ J sH pe ?_⟩;unfold fP;dsimp only;rw[R0];exact .cons ⟨rfl,l,rfl,nl,pl⟩ .nil
  | some z=>
   intro G;obtain⟨Y,rfl,hz⟩:=G;refine ab0 (λe=>by cases e) ?_;have pz:=qh hz;have ro:p++Str.ofString ".own"=p++oO:=rfl;have a2:(Str.ofString ".own").length=4:=a1;refine⟨bh.of pt,(rfl:cI [V.ref l,V.ref Y] 1=some (V.ref Y)),j6 (by omega),j6 (by omega),Str.ofString ".own",rfl,fit (by omega) (by omega),?_⟩;refine⟨fX.k (k:=.inr (p++oO)) pe (by show 1<sizeLine;decide),?_⟩;have cU:¬(Sum.inr p:ao)=Sum.inr (p++oO):=by
    intro z;have z:=fo Str.length (nu z);rw[jk]at z;omega
   refine⟨q e _ _ J (fj sH J) aD ?_⟩;rw[El _ (by rw[ji cU];rfl)];unfold fP;dsimp only;rw[R0];exact .cons ⟨rfl,l,rfl,nl,aC pl (aU pl pe (by intro z;cases z))⟩ (.cons ⟨rfl,Y,rfl,(nr Y rfl).1,aC pz (aU pz pe (by intro z;cases z))⟩ .nil)
def i8(tr:List (Str×β))(p:Str):Option β:=(tr.find? λf=>decide (f.1=p)).map (·.2)
theorem akx{tr:List (Str×β)}{p:Str}(h:i8 tr p=none):p∉tr.map (·.1):=by
 unfold i8 at h;rw[aqx,VD]at h;intro z;obtain⟨f,j,e⟩:=ca.mp z;exact h f j (bE e)
theorem Cu{tr:List (Str×β)}{p:Str}{y:β}(h:i8 tr p=some y):(p,y)∈tr:=by
 unfold i8 at h;rw[aqq]at h;obtain⟨f,j,e⟩:=h;have h1:=List.find?_some j;have h2:=List.mem_of_find?_eq_some j;have h1:f.1=p:=cT h1;rw[<-h1,<-e];exact h2
theorem aky(tr:Tr)(p:Str):Look tr p (i8 tr p):=by
 cases h:i8 tr p with
 | none=>exact akx h
 | some y=>exact Cu h
def putAll(tr z:Tr):Tr:=z.foldl (λj f=>bP j f.1 f.2) tr
theorem akz{F:ao×V->Str×Ls->Prop}(z:∀kv f,F kv f->kv.1=Sum.inr f.1){j:List (ao×V)}{ms:Tr}(h:Paired F j ms):∀{kvs:List (ao×V)}{tr:Tr},Paired F kvs tr->Paired F (mC kvs j) (putAll tr ms):=by
 induction h with
 | nil=>exact λh=>h
 | @cons kv f j ms r t J=>
  intro kvs tr G;have e:=z _ _ r;have:Paired F (cx kvs kv.1 kv.2) (bP tr f.1 f.2):=by
   rw[e];exact iZ z (by rw[<-e];exact r) G
  exact J this
theorem akA{j:Tr}:∀{tr:Tr},(tr.map (·.1)).Nodup->((putAll tr j).map (·.1)).Nodup:=by
 induction j with
 | nil=>exact λh=>h
 | cons f j z=>exact λh=>z (lH h)
theorem akB(o:Option (Ls))(p:Str)(b m:Ls):(fP o p b m).length<=2:=by
 unfold fP;cases o with
 | none=>exact qr 1
 | some j=>
  dsimp only;rw[cq];split
  . exact qr 1
  exact aK 2
def ij(bj:Tr)(ow:Ow):Tr:=ow.foldl (λtr e=>putAll tr (fP (i8 bj e.1) e.1 e.2.1 e.2.2)) bj
theorem akC(bj:Tr)(ow:Ow)(e:Str×(Ls×Ls)):ij bj (ow++[e])=putAll (ij bj ow) (fP (i8 bj e.1) e.1 e.2.1 e.2.2):=by
 unfold ij;rw[oZ];rfl
end
section
open HT (At cr ic)
def jO(c:Str):Str:=Str.ofString "="++c
theorem akD{a b:Str}(h:jO a=jO b):a=b:=by
 have e:=fo (λz:Str=>z.cps.toList) h;have e1:∀x:Str,(jO x).cps.toList=(Str.ofString "=").cps.toList++x.cps.toList:=λx=>by
  show((Str.ofString "=").cps++x.cps).toList=_;simp
 simp only[e1]at e;have e2:=List.append_cancel_left e;have ext:∀x y:Str,x.cps.toList=y.cps.toList->x=y:=λ⟨⟨x⟩⟩ ⟨⟨y⟩⟩ h=>by
  have h:x=y:=h;rw[h]
 exact ext _ _ e2
theorem jp.off{H:Hp}{v:V}{p:cy}{L:List Addr}(G:∀b∈L,∀o,H b=some o->(∀c d f,o≠.ins c d f)/\(∀vs,o≠.tup vs)/\∀vs,o≠.lst vs)(h:jp C H v p):jp C (msk L H) v p:=by
 obtain⟨a,dx,fl,rk,m,pf,pn,ps,po,xs,e,h1,h2,h3,h4,h5,h6,j⟩:=h;have t:∀{b:Addr}{vs:ae},H b=some (.tup vs)->msk L H b=some (.tup vs):=λe=>cj (λz=>(G _ z _ e).2.1 _ rfl) e;have l:∀{b:Addr}{vs:ae},H b=some (.lst vs)->msk L H b=some (.lst vs):=λe=>cj (λz=>(G _ z _ e).2.2 _ rfl) e;exact⟨a,dx,fl,rk,m,pf,pn,ps,po,xs,e,cj (λz=>(G _ z _ h1).1 _ _ _ rfl) h1,h2,t h3,l h4,aq h5 λ_ _ J=>J.elim λt' O=>O.elim λl' U=>U.elim λx1 Y=>Y.elim λx2 x3=>⟨t',l',x1,t x2,l x3⟩,l h6,j.1,l j.2.1,l j.2.2⟩
theorem aH.put{H:Hp}{lp:Pos}{qu:Str}{ks:List (ao×V)}{o:HO}(hd:H d=some (.dK ks))(h:aH H Pt lp qu):aH (ag H d o) Pt lp qu:=by
 have k:∀{b:Addr}{φ:Heap->Prop},H b=some (.ext φ)->ag H d o b=some (.ext φ):=λe=>aC e (aU e hd (by intro z;cases z))
 rcases h with z | ⟨c',j,G⟩
 . exact .inl (k z)
 exact .inr ⟨c',k j,k G⟩
def Hz(ow:Ow):Prop:=∀e∈ow,e.1.length<=60/\mG e.2.1/\mG e.2.2
end
section
variable {x p:Str}{b m ns:Ls}{o:Option (Ls)}{bj mZ:Tr}{ow:Ow}{ps px:Lp}{ch:Ch}{cs:Cs}
theorem lR{α:Type}{l:List α}{i:Nat}{x:α}(h:l[i]?=some x):l.take (i+1)=l.take i++[x]:=by rw[gY,h];rfl
theorem akI(h:dC x):∀c∈x.cps.toList,c≠46:=λc j=>by
 obtain⟨ps,rfl,_,_,G⟩:=h
 rcases BC j with z | ⟨p,J,z⟩
 . intro e;rw[e]at z;exact absurd z (by decide +kernel)
 have:=(G p J).az c z;omega
theorem HH{y:Str}(h:dC x):x≠y++oO:=λe=>by
 refine akI h 46 ?_ rfl;rw[e,mS];exact ff _ (by decide +kernel)
theorem akJ{a b:Str}(h:a++oO=b++oO):a=b:=by
 have e:=fo (λz:Str=>z.cps.toList) h;simp only[mS]at e;have e2:=List.append_cancel_right e;have ext:∀x y:Str,x.cps.toList=y.cps.toList->x=y:=λ⟨⟨x⟩⟩ ⟨⟨y⟩⟩ h=>by
  have h:x=y:=h;rw[h]
 exact ext _ _ e2
theorem R1:∀(j tr:Tr) (k:Str),(j.map (·.1)).Nodup->look (putAll tr j) k=(look j k).or (look tr k)
 | [],tr,k,_=>rfl
 | f::j,tr,k,nd=>by
  rw[bV,qt]at nd;have z:=R1 j (bP tr f.1 f.2) k nd.2;show look (putAll (bP tr f.1 f.2) j) k=_;rw[z,yO,jN]
  by_cases e:f.1=k
  . rw[am e,am e,fO.mpr (by rw[<-e];exact nd.1)];rfl
  rw[ah e,ah e]
theorem HL{k:Str}(h:k∈(fP o p b m).map (·.1)):k=p\/k=p++oO:=by
 unfold fP at h;cases o with
 | none=>exact .inl (bF.mp h)
 | some j=>
  dsimp only at h;rw[bV]at h
  rcases bf.mp h with z | z
  . exact .inl z
  split at z
  . cases z
  exact .inr (bF.mp z)
theorem R3(j:dC p):((fP o p b m).map (·.1)).Nodup:=by
 unfold fP;cases o with
 | none=>simp
 | some G=>
  dsimp only;rw[bV,qt];split
  . simp
  refine⟨λz=>HH j (bF.mp z),by simp⟩
theorem HN(g:Str×(Ls×Ls)->Tr):∀(ow:Ow) (c:Tr),(∀e∈ow,((g e).map (·.1)).Nodup)->look (ow.foldl (λtr e=>putAll tr (g e)) c)=ow.foldl (fun(φ:Str->Option (Ls)) e k=>(look (g e) k).or (φ k)) (look c)
 | [],c,_=>rfl
 | e::ow,c,h=>by
  rw[ma,ma,HN g ow _ λx j=>h x (bR _ j)]
  congr 1
  funext k
  exact R1 _ _ _ (h e bH)
theorem akK{β:Type}{l j:List (Str×β)}(p:l.Perm j)(nd:(l.map (·.1)).Nodup)(k:Str):look l k=look j k:=by
 have G:(j.map (·.1)).Nodup:=(p.map _).nodup_iff.mp nd;cases e:look l k with
 | none=>exact(fO.mpr λz=>fO.mp e ((p.map _).mem_iff.mpr z)).symm
 | some v=>exact(oM G (p.mem_iff.mp (kD e))).symm
theorem akL(h:look bj=look mZ){ow':Ow}(p:ow.Perm ow')(nd:(ow.map (·.1)).Nodup)(pt:∀e∈ow,dC e.1):look (ij bj ow)=look (ij mZ ow'):=by
 have e1:∀(t:Tr) (o:Ow),ij t o=o.foldl (λtr e=>putAll tr (fP (look t e.1) e.1 e.2.1 e.2.2)) t:=λ_ _=>rfl;rw[e1,e1,HN _ _ _ λe j=>R3 (pt e j),HN _ _ _ λe j=>R3 (pt e (p.mem_iff.mpr j)),<-h];refine List.Perm.foldl_eq' p (λx G y J φ=>?_) _
 funext k
 by_cases e:x=y
 . rw[e]
 have n1:x.1≠y.1:=λz=>e (by
  have:=oE nd (x:=x.1) (a:=x.2) (b:=y.2) G (by rw[z];exact J);exact Prod.ext z this)
 cases a:look (fP (look bj x.1) x.1 x.2.1 x.2.2) k with
 | none=>simp only[a,Option.none_or]
 | some u=>
  cases b:look (fP (look bj y.1) y.1 y.2.1 y.2.2) k with
  | none=>simp only[a,b,Option.none_or]
  | some v=>
   have ka:=HL (fq (f:=(·.1)) (kD a));have kb:=HL (fq (f:=(·.1)) (kD b))
   rcases ka with ka | ka<;>rcases kb with kb | kb
   . exact absurd (ka.symm.trans kb) n1
   . exact absurd (ka.symm.trans kb) (HH (pt x G))
   . exact absurd (kb.symm.trans ka) (HH (pt y J))
   exact absurd (akJ (ka.symm.trans kb)) n1
theorem R5(h:(ps.map gH).Nodup){p q:cy}(hp:p∈ps)(hq:q∈ps)(e:gH p=gH q):p=q:=by
 induction ps with
 | nil=>cases hp
 | cons r ps j=>
  rw[bV,qt]at h
  rcases bf.mp hp with ep | hp
  . rcases bf.mp hq with eq | hq
    . rw[ep,eq]
    exact absurd (fq (f:=gH) hq) (by rw[<-e,ep];exact h.1)
  rcases bf.mp hq with eq | hq
  . exact absurd (fq (f:=gH) hp) (by rw[e,eq];exact h.1)
  exact j h.2 hp hq
structure HP(ps:Lp)(ch:Ch)(px:Lp):Prop where
 nm:(px.map (·.nm)).Perm (ch.map (·.1))
 mm:∀p∈px,p∈ps/\(p.nm,p.ms)∈ch
theorem HP.iff(h:HP ps ch px)(Y:(ps.map gH).Nodup)(nd:(ch.map (·.1)).Nodup)(p:cy):p∈px↔p∈ps/\(p.nm,p.ms)∈ch:=by
 refine⟨h.mm p,λJ=>J.elim λh1 h2=>?_⟩;have:p.nm∈px.map (·.nm):=h.nm.mem_iff.mpr (fq (f:=(·.1)) h2);obtain⟨r,G,j⟩:=ca.mp this;obtain⟨U,z⟩:=h.mm r G;rw[j]at z;have O:=oE nd z h2;have:r=p:=R5 Y U h1 (by unfold gH;rw[j,O]);rw[<-this];exact G
theorem R6{rL:Lp}(J:Apart ns ps)(nd:(ch.map (·.1)).Nodup)(j:∀p∈px,p∈ps/\(p.nm,p.ms)∈ch)(m:∀p,p∈px↔p∈rL)(g:lO (gc px) bj)(g':lO (gc rL) mZ){k:Str}{l:Ls}(h:look bj k=some l):look mZ k=some l:=by
 obtain⟨p,z,O⟩:=uT.mp (g.sub _ (kD h));have hk:k∈mZ.map (·.1):=g'.key (k,l) (uT.mpr ⟨p,(m p).mp z,O⟩);obtain⟨f,ur,e⟩:=ca.mp hk;have e:f.1=k:=e;obtain⟨q,G,Y⟩:=uT.mp (g'.sub f ur);have G:=(m q).mpr G;have U:=J.one p (j p z).1 q (j q G).1 k (fq (f:=(·.1)) O) (by rw[<-e];exact fq (f:=(·.1)) Y);have em:p.ms=q.ms:=oE nd (j p z).2 (by rw[U];exact(j q G).2);have ep:p=q:=R5 J.nd (j p z).1 (j q G).1 (by unfold gH;rw[U,em]);subst ep;have el:l=f.2:=oE (J.ok p (j p z).1).2.2 O (by rw[<-e];exact Y);rw[el,<-e];exact oM g'.nd ur
theorem akN{G:Lp}(j:Apart ns ps)(nd:(ch.map (·.1)).Nodup)(z:∀p∈px,p∈ps/\(p.nm,p.ms)∈ch)(m:∀p,p∈px↔p∈G)(g:lO (gc px) bj)(g':lO (gc G) mZ):look bj=look mZ:=by
 funext k
 cases e:look bj k with
 | some l=>exact(R6 j nd z m g g' e).symm
 | none=>
  cases J:look mZ k with
  | none=>rfl
  | some l=>rw[R6 j nd (λp O=>z p ((m p).mpr O)) (λp=>(m p).symm) g' g J]at e;cases e
def ju(ps:Lp)(ch:Ch)(cs:Cs)(ow:Ow)(tr:Tr):Prop:=∃(px:Lp) (bj:Tr),HP ps ch px/\lO (gc px) bj /\
 (∀k,(∀c,(∃p∈px,c∈p.os)->k≠jO c)->look tr k=look (ij bj ow) k)/\∀c,(∃p∈px,c∈p.os)->∃r,look tr (jO c)=some [r]/\NB (gU c px) (look cs c) r
theorem HQ{ch':Ch}{cs':Cs}{ow':Ow}{tr J:Tr}(z:Apart ns ps)(p1:ch.Perm ch')(p2:cs.Perm cs')(p3:ow.Perm ow')(d1:(ch.map (·.1)).Nodup)(d2:(cs.map (·.1)).Nodup)(d3:(ow.map (·.1)).Nodup)(pt:∀e∈ow,dC e.1)
 (h:ju ps ch cs ow tr) (h':ju ps ch' cs' ow' J):look tr=look J:=by
 obtain⟨px,bj,x,g,a,b⟩:=h;obtain⟨Y,mZ,x',g',a',b'⟩:=h';have a4:(ch'.map (·.1)).Nodup:=(p1.map _).nodup_iff.mp d1;have m:∀p,p∈px↔p∈Y:=λp=>by rw[x.iff z.nd d1,x'.iff z.nd a4,p1.mem_iff]
 have t0:=akN z d1 x.mm m g g';have O:∀c,(∃p∈px,c∈p.os)↔∃p∈Y,c∈p.os:=λc=>⟨λa0=>a0.elim λp a1=>a1.elim λh1 h2=>⟨p,(m p).mp h1,h2⟩,λa2=>a2.elim λp a3=>a3.elim λh1 h2=>⟨p,(m p).mpr h1,h2⟩⟩
 funext k
 by_cases G:∃c,(∃p∈px,c∈p.os)/\k=jO c
 . obtain⟨c,j,rfl⟩:=G;obtain⟨r,e,n⟩:=b c j;obtain⟨r',e',U⟩:=b' c ((O c).mp j);rw[<-akK p2 d2]at U;rw[e,e',n.eq U λq=>by unfold gU;rw[lX,lX,m q]]
 rw[a k λc j e=>G ⟨c,j,e⟩,a' k λc j e=>G ⟨c,(O c).mpr j,e⟩,akL t0 p3 d3 pt]
theorem akT{kvs:List (ao×V)}(h:Paired pY kvs cs)(c:Str):rG kvs c=look cs c:=by
 induction h with
 | nil=>rfl
 | @cons kv e kvs cs r t j=>
  rw[jN];unfold rG bi at j ⊢;rw[sf]
  by_cases z:e.1=c
  . rw[am z,bE (show kv.1=Sum.inr c by rw[r.1,z])];show(match Option.map (λx=>x.snd) (some kv) with | some (V.str y)=>some y | _=>none)=some e.2;rw[si,r.2]
  rw[ah z,cu (show kv.1≠Sum.inr c by rw[r.1];intro y;exact z (nu y))];exact j
open HT (At cr ic)
open Lcp
seal PE PS bW PA PT PW PG eY PI eS
structure R7(ns:Ls)(p:cy):Prop where
 n3:p.fs.length<=3
 ls:∀f∈p.fs,mG f.2
 o2:p.os.length<=2
 nm:Ln p.nm
 os:∀t∈p.os,(Ln t/\t.length<=20)/\t∈ns
theorem akU{kvs:List (ao×V)}(h:Paired pY kvs cs)(ok:∀e∈cs,Ln e.2):G2 kvs:=λk v j=>by
 obtain⟨e,G,e1,e2⟩:∃e∈cs,k=.inr e.1/\v=.str e.2:=by
  induction h with
  | nil=>cases j
  | @cons kv e kvs cs r t O=>
   unfold bi at j;rw[sf]at j;split at j
   . rename_i z;have z:=cT z;cases j;exact⟨e,bH,z▸r.1,r.2⟩
   obtain⟨J,h1,h2⟩:=O (λe G=>ok e (bR _ G)) j;exact⟨J,bR _ h1,h2⟩
 exact⟨_,e2,ok e G⟩
theorem Cv{tr:Tr}{ls:Ls}(h:bU tr)(j:∀y∈ls,Ln y):bU (bP tr x ls):=λf hf=>by
 rcases kj hf with e | hf
 . rw[e];exact j
 exact h f hf
theorem akV{G:Tr}(h:bU G)(U:∀x∈b,Ln x)(J:∀x∈m,Ln x)(Y:∀ls,o=some ls->∀x∈ls,Ln x):bU (putAll G (fP o p b m)):=by
 unfold fP;cases o with
 | none=>exact Cv (tr:=G) h J
 | some j=>
  dsimp only;have h1:=Cv (x:=p) (ls:=(merge b m j).1) h (ab8 U J (Y j rfl));cases e:(merge b m j).2 with
  | none=>exact h1
  | some z=>
   have O:z=m:=by
    rcases ab7 b m j with q | q
    . rw[q]at e;cases e
    rw[q]at e;exact(gw e).symm
   subst O;exact Cv h1 J
theorem akW(h:bU bj)(j:Hz ow):bU (ij bj ow):=by
 have a0:∀(ow:Ow) (c:Tr),bU c->(∀e∈ow,(∀x∈e.2.1,Ln x)/\∀x∈e.2.2,Ln x)->bU (ow.foldl (λtr e=>putAll tr (fP (i8 bj e.1) e.1 e.2.1 e.2.2)) c):=by
  intro ow
  induction ow with
  | nil=>exact λc z _=>z
  | cons e ow U=>
   intro c z j;rw[ma];have h1:=j e bH;exact U _ (akV z h1.1 h1.2 λls O=>h _ (Cu O)) λJ Y=>j J (bR _ Y)
 exact a0 ow bj h λe G=>⟨(j e G).2.1.all,(j e G).2.2.all⟩
theorem akX{tr:Tr}{k:Str}{ls:Ls}(h:k∈tr.map (·.1)):(bP tr k ls).length=tr.length:=by
 obtain⟨f,j,e⟩:=ca.mp h;unfold bP;rw[am (sk.mpr ⟨f,j,bE e⟩),ak]
theorem R8(bj:Tr)(ow:Ow):(ij bj ow).length<=bj.length+ow.length:=by
 have U:∀(ow:Ow) (c:Tr),(∀k∈bj.map (·.1),k∈c.map (·.1))->(ow.foldl (λtr e=>putAll tr (fP (i8 bj e.1) e.1 e.2.1 e.2.2)) c).length<=c.length+ow.length:=by
  intro ow
  induction ow with
  | nil=>exact λc _=>aK _
  | cons e ow O=>
   intro c j;have keep:∀{c:Tr}{x:Str}{l:Ls},(∀k∈bj.map (·.1),k∈c.map (·.1))->∀k∈bj.map (·.1),k∈(bP c x l).map (·.1):=λ{c x l} j k J=>by
    have:=j k J;cases z:look c k with
    | none=>exact absurd this (fO.mp z)
    | some v=>
     refine V8 λn=>?_;have:=fO.mpr n;rw[yO]at this;split at this
     . cases this
     rw[z]at this;cases this
   rw[ma,cq];have Y:∃c',putAll c (fP (i8 bj e.1) e.1 e.2.1 e.2.2)=c'/\c'.length<=c.length+1/\∀k∈bj.map (·.1),k∈c'.map (·.1):=by
    unfold fP;cases z:i8 bj e.1 with
    | none=>exact⟨_,rfl,lI c _ _,keep j⟩
    | some G=>
     dsimp only;have h1:e.1∈c.map (·.1):=j _ (fq (f:=(·.1)) (Cu z));have h2:=akX (ls:=(merge e.2.1 e.2.2 G).1) h1;cases (merge e.2.1 e.2.2 G).2 with
     | none=>exact⟨_,rfl,cn (wJ h2) (qr _),keep j⟩
     | some o=>exact⟨_,rfl,cn (lI (bP c e.1 (merge e.2.1 e.2.2 G).1) (e.1++oO) o) (by rw[h2];exact aK _),keep (keep j)⟩
   obtain⟨c',e1,l1,k1⟩:=Y;rw[e1];have:=O c' k1;omega
 exact U ow bj λk h=>h
theorem akY(h:(bj.map (·.1)).Nodup)(ow:Ow):((ij bj ow).map (·.1)).Nodup:=by
 have G:∀(ow:Ow) (c:Tr),(c.map (·.1)).Nodup->((ow.foldl (λtr e=>putAll tr (fP (i8 bj e.1) e.1 e.2.1 e.2.2)) c).map (·.1)).Nodup:=by
  intro ow
  induction ow with
  | nil=>exact λc j=>j
  | cons e ow z=>
   intro c j;rw[ma];exact z _ (akA j)
 exact G ow bj h
inductive R9 (C S T Pt:Addr):Sp where
 | mk {H:Hp}{Q:VK}{E:XK}{j tv:V}{xs:ae}{ps:Lp}{ch:Ch}{cs:Cs}{ow:Ow}{ns:Ls} (_:jq S H j xs ps) (_:eF C H xs ps) (_:(∀p∈ps,R7 ns p)) (_:ns.length<=4) (_:gG T H tv ch cs ow) (_:qa xs ps ch) (_:ch.length<=4) (_:ow.length<=8) (_:Hz ow) (_:(∀e∈cs,Ln e.2)) (_:aH H Pt cW cR) (_:∀d H' kvs (tr:Tr),H d=none->jo Pt H H'->aH H' Pt cW cR->H' d=some (.dK kvs)->Paired (dw H H') kvs tr->(tr.map (·.1)).Nodup->tr.length<=24->bU tr->ju ps ch cs ow tr->Q (.ref d) H'):R9 C S T Pt [j,tv] H Q E
theorem uC:aP [asp,asO,ass,ate,asM,asq,asW,asN] [asp,asO] (aA Bz):=aV
theorem yT(j:Pg K mg base Pt):aw P w K mg base aI 5 j.Tre.f j.Tre.fd [asp,asO] (R9 j.C j.S j.T Pt):=by
 refine j.Tre.u.okL uC ?_;intro av A outer s H vs Q E hr h xX dX;obtain @⟨_,_,_,sv,tv,xs,ps,ch,cs,ow,ns,hS,hP,h3,aE,hT,hV,h4,o2,okO,a7,a0,q⟩:=h;have hu:=hr.units;have az:ce 2 (A.deeper (PyProof.Rows.envOfC "tree_of" (aA Bz) s.heap.objs.size j.Tre.f av)):=hr.mono (by decide);have dv:ce 1 (A.deeper (PyProof.Rows.envOfC "tree_of" (aA Bz) s.heap.objs.size j.Tre.f av)):=hr.mono (by decide);refine⟨_,(ai (aM (i:=2) uC.nd rfl (Or.inl rfl) (ay (QV j) az rfl (aL (pv 0) (bG (pv 1) rfl))))
  (ai (aM (i:=3) uC.nd rfl (Or.inl rfl) (ay (aiU j) dv rfl (al (pv 2))))
  (ai (aM (i:=4) uC.nd rfl (Or.inl rfl) (dH xK (by rfl) j.B.dict Dv (al (pv 3))))
  (ai (AW dQ rfl (bG (pv 1) rfl) (nJ rfl (fR (be (i:=5) uC.nd rfl (Or.inl rfl)) (fR (be (i:=6) uC.nd rfl (Or.inl rfl)) mq)))
  (aj (bB (db zM aqC PySem.F.type_dict_update adr (pv 4) (al (ay (aku j) hr rfl (dg (pv 5) (pv 6) (pv 3))))))))
  (ai (eO dQ rfl (cG (ay (ajz j) dv rfl (al (pv 2)))) (be (i:=7) uC.nd rfl (Or.inl rfl))
  (aj (iT hu (pv 4) (xO bT (xN (pv 7))) (df (al (ay (ajC j) hr rfl (dg (pv 7) (pv 2) (bG (pv 1) rfl))))) rfl)))
  (aj (aX (pv 4)))))))),?_⟩
 refine vt ?_;intro dD sS Gr BS oH gr dU;obtain⟨a,dx,fl,c,h,o,rfl,t1,t2,t3,t4,t5,⟨hk,t6,Sa⟩,ko,t7,t8⟩:=hT;have hok:=akU Sa a7;refine⟨t1,j.UT.cl,j.UT.nC,t2,?_⟩;refine⟨hS,t5,hV,by omega,λD H1 lF px n1 s1 e1 pr pn pc=>?_⟩;have wk:=QZ (hP.same s1) pr;have pm:=Q0 pr;have eR:px.length<=4:=by
  have e:=pn.length_eq;rw[ak,ak]at e;omega
 have hl:(gc px).length<=12:=by
  have:=aiX (b:=3) (ps:=px) λp G=>(h3 p (pm p G)).n3;omega
 refine⟨e1,wk,by omega,λd H2 kvs bj n2 s2 e2 Sb g2=>?_⟩;refine⟨d,_,rfl,e2,λd3 H3 n3 s3 e3=>?_⟩;have gT:=s1.trans (s2.trans s3);have rM:H d3=none:=s1.free (s2.free n3);have cZ:=s3 _ _ e2;have o3:=gT _ _ t7;have od:d≠o:=(aO (s1 _ _ t7) n2).symm;have HR:d3≠o:=(aO t7 rM).symm;have ab:d3≠d:=(aO e2 n3).symm;have b2:=g2.len;have Sc:∀f∈bj,mG f.2:=λf hf=>by
  obtain⟨p,G,hf⟩:=uT.mp (g2.sub f hf);exact(h3 p (pm p G)).ls f hf
 have HS:Paired (aY H3) kvs bj:=aq Sb λ_ _ z=>(z.du).same s3;have ky:Paired (dw H H3) kvs bj:=aq Sb λkv f z=>by
  obtain⟨z1,l,z2,J,z4⟩:=z;exact⟨z1,l,z2,s1.free J,s3 _ _ z4⟩
 have tk:∀(H':Hp) kv f,dw H H' kv f->kv.1=Sum.inr f.1:=λ_ kv f z=>z.1;refine⟨gT _ _ t1,j.UT.cl,j.UT.nO,t4,o,ko,rfl,o3,λob=>?_⟩;refine BK (λi Z O=>∃u v kt,Z=[some sv,some (.ref a),some (.ref D),some (.ref d),some (.ref d3),u,v,none]/\(∀b z,H3 b=some z->b≠o->b≠d3->O b=some z)/\(∀b,O b=none->H3 b=none)/\O o=some (.frz ob (.dK ko))/\O d3=some (.dK kt)/\Paired (dw H O) kt (ij bj (ow.take i)))
  ⟨none,none,kvs,rfl,λb z e hb _=>aC e hb,λb e=>(jl e).2,aD,aC e3 HR,aq ky λkv f z=>?_⟩ ?_ ?_ ?_
 . obtain⟨z1,l,z2,J,z4⟩:=z;exact⟨z1,l,z2,J,aC z4 (aU z4 o3 (by intro z;cases z))⟩
 . intro i Z O fM;refine bq ?_;intro tT;obtain⟨u,v,kt,rfl,_,_,h,_⟩:=fM;exact h
 . intro i k v p Z O hi gQ G;refine bq ?_;intro tT;obtain⟨u,v',kt,rfl,k5,f5,h5,lQ,fN⟩:=gQ;obtain⟨⟨x,b1,m1⟩,hf,a1,t,l1,l2,a2,a3,a4,a5⟩:=fc t8 hi;have a1:k=.inr x:=a1;have a2:v=.ref t:=a2;subst a1 a2;have hm:=da hf;have sp:ac O (ag O p (.tup [kV (.inr x),.ref t])):=fC G;have K5:∀{b:Addr}{z:HO},H b=some z->(∀ks,z≠.dK ks)->(ag O p (.tup [kV (.inr x),.ref t])) b=some z:=λ{b z} e hz=>sp _ _ (k5 _ _ (gT _ _ e) (aU e t7 (hz _)) (λy=>by rw[y,rM]at e;cases e));have D5:=sp _ _ (k5 _ _ cZ od ab.symm);refine⟨bh.of aD,rfl,rfl,?_⟩;refine⟨.inr (.inr (.inl ⟨rfl,.inl ⟨_,sp _ _ lQ⟩⟩)),⟨⟨⟨?_⟩⟩⟩⟩;refine⟨b1,m1,i8 bj x,K5 a3 (by intro ks z;cases z),K5 a4 (by intro ks z;cases z),K5 a5 (by intro ks z;cases z),D5,?_,g2.nd,aky bj x,(okO _ hm).2.1,(okO _ hm).2.2,?_,(okO _ hm).1,λe U a' n6 s6 e6 Sd=>?_⟩
   . exact aq HS λkv f z=>by
      obtain⟨z1,l,z2,J⟩:=z;exact⟨z1,l,z2,sp _ _ (k5 _ _ J (aU J o3 (by intro z;cases z)) (aU J e3 (by intro z;cases z)))⟩
   . intro ls e;exact Sc _ (Cu e)
   have wm:=sp.trans s6;have ap:d3≠e:=aO (sp _ _ lQ) n6;have pl:=bD fN;have ml:=bD Sd;have h1:=R8 bj (ow.take i);have h2:=akB (i8 bj x) x b1 m1;have b3:(ow.take i).length<=8:=by rw[eW];omega
   refine⟨d3,e,kt,a',rfl,rfl,ap,wm _ _ lQ,e6,j8 (by omega),?_⟩;refine⟨_,_,_,rfl,λb z e hb rK=>aC (wm _ _ (k5 _ _ e hb rK)) rK,λb e=>f5 b (wm.free (jl e).2),aC (wm _ _ h5) HR.symm,aD,?_⟩;rw[gY,hf];show Paired _ _ (ij bj (ow.take i++[(x,b1,m1)]));rw[akC];refine aq (akz (F:=dw H U) (tk U) (aq Sd λkv f z=>?_) (aq fN λ_ _=>dw.same wm)) λkv f=>dw.put (wm _ _ lQ);obtain⟨z1,l,z2,J,z4⟩:=z;exact⟨z1,l,z2,gT.free (f5 _ (sp.free J)),z4⟩
 intro Z O gR;refine bq ?_;intro tT;obtain⟨u,v,kt,rfl,k5,f5,h5,lQ,fN⟩:=gR;rw[bD t8,eI]at fN;have sF:∀b z,H3 b=some z->b≠d3->(ag O o (.dK ko)) b=some z:=λb z e hb=>by
  by_cases ho:b=o
  . subst ho;rw[o3]at e;cases e;exact aD
  exact aC (k5 b z e ho hb) ho
 have sH:ac H (ag O o (.dK ko)):=λb z e=>sF b z (gT _ _ e) (λy=>by rw[y,rM]at e;cases e);have Cw:ac H1 (ag O o (.dK ko)):=λb z e=>sF b z (s3 _ _ (s2 _ _ e)) (λy=>by rw[y,s2.free n3]at e;cases e);refine⟨Cw _ _ e1,wk.same Cw,by omega,λp G=>(h3 p (pm p G)).o2,λr U cm n6 s6 e6 a9 yU cl=>?_⟩;refine⟨⟨_,aa.of e6⟩,?_⟩;have Cy:=sH.trans s6;have Se:d3≠Pt:=aH.new a0 rM;have rN:aH U Pt cW cR:=a0.same Cy;have rP:r≠Pt:=aH.ne rN e6 (by intro φ z;cases z);have a8:∀x∈cm,Ln x/\x.length<=20:=λx Y=>by
  obtain⟨p,G,Y⟩:=(yU x).mp Y;exact((h3 p (pm p G)).os x Y).1
 have dd:∀{b:Addr}{o:HO},U b=some o->b≠Pt->b≠d3->msk [Pt,d3] U b=some o:=λe n1 n2=>cj (by simp[n1,n2]) e;have HU:=s6 _ _ (aC (p:=o) (o':=.dK ko) lQ HR);have ax:eF j.C (msk [Pt,d3] U) lF px:=aq (wk.same (Cw.trans s6)) λ_ _ z=>z.off λb hb o eo=>by
  rcases bf.mp hb with e | e
  . obtain⟨φ,w⟩:=aH.at rN;rw[e,w]at eo;cases eo;exact⟨(by intro _ _ _ z;cases z),(by intro _ z;cases z),(by intro _ z;cases z)⟩
  rw[bF.mp e,HU]at eo;cases eo;exact⟨(by intro _ _ _ z;cases z),(by intro _ z;cases z),(by intro _ z;cases z)⟩
 have Sf:∀{b:Addr}{o:HO},H b=some o->(∀φ,o≠.ext φ)->msk [Pt,d3] U b=some o:=λe n=>dd (Cy _ _ e) (aH.ne a0 e n) (aO e rM);have a6:=Sf t1 (by intro φ z;cases z);have G1:=Sf t6 (by intro φ z;cases z);have D6:msk [Pt,d3] U D=some (.lst lF):=dd (s6 _ _ (Cw _ _ e1)) (aH.new a0 n1) (aO (s2 _ _ e1) n3);have r6:msk [Pt,d3] U r=some (.lst (cm.map V.str)):=dd e6 rP (aU e6 HU (by intro z;cases z));have tl:=R8 bj ow;have aG:Paired (dw H U) kt (ij bj ow):=aq fN λkv f z=>by
  obtain⟨z1,l,z2,J,z4⟩:=z;exact⟨z1,l,z2,J,s6 _ _ (aC z4 (aU z4 h5 (by intro z;cases z)))⟩
 have aF:bU (ij bj ow):=akW (λf hf=>(Sc f hf).all) okO;have b0:cm.length<=4:=cn (iX a9 λx Y=>by
  obtain⟨p,G,Y⟩:=(yU x).mp Y;exact((h3 p (pm p G)).os x Y).2) aE
 refine hJ (xs:=cm.map V.str) (λi Z H7=>∃u' kvs tr,Z=[some sv,some (.ref a),some (.ref D),some (.ref d),some (.ref d3),u,v,u']/\ac (msk [Pt,d3] U) H7/\aH H7 Pt cW cR/\H7 d3=some (.dK kvs)/\Paired (dw H H7) kvs tr/\(tr.map (·.1)).Nodup/\tr.length<=20+i/\bU tr/\(∀k,(∀c∈cm.take i,k≠jO c)->look tr k=look (ij bj ow) k)/\∀c∈cm.take i,∃r,look tr (jO c)=some [r]/\NB (gU c px) (rG hk c) r)
  ⟨none,kt,ij bj ow,rfl,aQ,rN,HU,aG,akY g2.nd ow,by omega,aF,λ_ _=>rfl,λc hc=>nomatch hc⟩ ?_ ?_ ?_
 . intro i Z H7 hi fM;obtain⟨u',kvs,tr,rfl,sm,_⟩:=fM;exact aa.of (sm _ _ r6)
 . intro i v0 Z H7 hv gQ;refine bq ?_;intro tT;obtain⟨u',kvs,tr,rfl,sm,Cz,rO,wn,HV,l7,HX,yV,yW⟩:=gQ;obtain⟨x,Y,rfl⟩:∃x,cm[i]?=some x/\v0=.str x:=by
    rw[c8]at hv;cases e:cm[i]? with
    | none=>rw[e]at hv;cases hv
    | some x=>rw[e]at hv;cases hv;exact⟨x,rfl,rfl⟩
   have xm:=da Y;obtain⟨xl,yR⟩:=a8 x xm;have b4:=bD wn;have aT:i<cm.length:=(cM.mp Y).1;refine⟨sm _ _ a6,j.UT.cl,j.UT.nH,t3,?_⟩;refine⟨sm _ _ D6,ax.same sm,by omega,(yU x).mp xm,sm _ _ G1,hok,λp G=>(h3 p (pm p G)).nm,Cz,λr' H8 kp Sg lr nb=>?_⟩;refine⟨AU,λl H9 n9 s9 e9=>?_⟩;have Sh:=s9 _ _ (kp _ _ rO Se);have aR:aH H9 Pt cW cR:=Sg.same s9;have HY:(Str.ofString "=").length<=sizeLine:=j6 (by decide +kernel);refine⟨HY,j6 (by omega),x,rfl,fit (by decide +kernel) (by omega),?_⟩;refine⟨fX.k (k:=.inr (jO x)) Sh (bQ (by omega)),?_⟩;have l9:l≠d3:=(aO (kp _ _ rO Se) n9).symm;refine⟨_,cx kvs (.inr (jO x)) (.ref l),bP tr (jO x) [r'],rfl,λb o eb=>?_,aH.put Sh aR,aD,?_,lH HV,cn (lI tr _ _) (by omega),Cv HX (λy hy=>by rw[bF.mp hy];exact lr),λk hk=>?_,λc hc=>?_⟩
   . have yJ:b∉[Pt,d3]:=λz=>by
      unfold msk at eb;rw[am z]at eb;cases eb
     simp only[bf,ft,fw,ny]at yJ;exact aC (s9 _ _ (kp _ _ (sm _ _ eb) yJ.1)) yJ.2
   . have l0:H l=none:=by
      cases hz:H l with
      | none=>rfl
      | some o=>
       have lP:l≠Pt:=λz=>by
        obtain⟨φ,w⟩:=aH.at Sg;rw[z,w]at n9;cases n9
       rw[kp _ _ (sm _ _ (dd (Cy _ _ hz) lP (aO hz rM))) lP]at n9;cases n9
     refine iZ (tk _) ⟨rfl,l,rfl,l0,aC e9 l9⟩ (aq wn λkv f z=>?_);obtain⟨z1,l',z2,z0,J⟩:=z;exact⟨z1,l',z2,z0,aC (s9 _ _ (kp _ _ J (aH.ne Cz J (by intro φ z;cases z)))) (aU J rO (by intro z;cases z))⟩
   . rw[lR Y]at hk;rw[yO,ah λz=>hk x (ff _ (bF.mpr rfl)) z.symm];exact yV k λc hc=>hk c (wG _ hc)
   rw[yO]
   by_cases z:jO x=jO c
   . rw[am z,<-akD z];exact⟨r',rfl,nb⟩
   rw[ah z];rw[lR Y]at hc
   rcases bY.mp hc with hc | hc
   . exact yW c hc
   exact absurd (by rw[bF.mp hc]) z
 intro Z H7 gR;obtain⟨u',kvs,tr,rfl,sm,Cz,rO,wn,HV,l7,HX,yV,yW⟩:=gR;rw[ak]at l7 yV yW;rw[eI]at yV yW;exact⟨q d3 H7 kvs tr rM (λb o eb nb=>sm _ _ (dd (Cy _ _ eb) nb (aO eb rM))) Cz rO wn HV (by omega) HX ⟨px,bj,⟨pn,λp G=>⟨pm p G,pc p G⟩⟩,g2,λk hk=>yV k λc hc=>hk c ((yU c).mp hc),λc hc=>by rw[<-akT Sa];exact yW c ((yU c).mpr hc)⟩⟩
end
section
seal PE PS bW PA PT PW PG eY PI eS
theorem Si{K:Fg}{g:TG}{tb:TS}{D:Ends}{Z:L2.St}{H:Hp}(G:aa K H a [])(hd:D.nx Z H) :
 ∃W:Nat->Nat->L2.St->Hp->Prop,(∃m,W 0 m Z H)/\∀i m Z H,W i m Z H ->
  ((ya K a).stop i H/\D.nx Z H)\/((ya K a).go i H/\∃N:L2.St->Hp->Prop,(∀σ' H',N σ' H'->∃m',m'<m/\W (i+1) m' σ' H')/\∀x H',(ya K a).yld i H x H'->g x Z H' λσ2 H2=>tb { D with nx:=N,ct:=N,bk:=D.nx } σ2 H2):=
 ⟨λi m σ' H'=>i=0/\σ'=Z/\H'=H,⟨0,rfl,rfl,rfl⟩,λi m σ' H' j=>j.elim λe1 z=>z.elim λe2 e3=>by subst e1 e2 e3;exact .inl ⟨⟨[],G,aK _⟩,hd⟩⟩
theorem Sj{X:Cx}(K:Fg){es:List Expr}{k:Nat}{pos:Pos}{t:nI}{n:Nat}(G:X.calm=true)(h:eY X es t)(z:X.K=K:=by rfl)
 (J:(assignEach es X.env).length=n:=by rfl) (j:(assignEach es X.env).findIdx? (·.1)=none:=by rfl):PG X (.Tuple es k pos) (sW K n t):=z▸nJ G h J j
theorem rR{H H2:Hp}{o:HO}(n:H p=none)(s:ac H H2):ac H (ag H2 p o):=λb u e=>aC (s _ _ e) (aO e n)
abbrev rS (p:cy):Ls:=p.fs.map (·.1)
inductive Sk (C:Addr):Sp where
 | mk {H:Hp}{Q:VK}{E:XK}{v:V}{p:cy} (_:jp C H v p) (_:p.fs.length<=100) (_:dL H (.lst ((rS p).map V.str)) Q):Sk C [v] H Q E
theorem alc:aP [asw] [asw] (aA OS):=aV
theorem Sl(z:Pg K mg base Pt):aw P w K mg base aI 1 z.PaO.f z.PaO.fd [asw] (Sk z.C):=by
 refine z.PaO.u.okL alc ?_;intro av A outer s H vs Q E hr h xX dX;obtain @⟨_,_,_,v,p,⟨a,dx,fl,rk,m,pf,pn,ps,po,xs,rfl,hA,hF,hM,Y,lN,_⟩,BZ,q⟩:=h;have hl:=bD lN;refine⟨_,(aj (aX (fY [asq,asF] [] [] dM rfl (cG (bG (pv 0) rfl)) (λ_ _ _ _=>(Sj (n:=2) K rfl (fR (be (i:=0) (show List.Nodup ([asq,asF]:Ls) by decide +kernel) rfl (Or.inl rfl)) (fR (be (i:=1) (show List.Nodup ([asq,asF]:Ls) by decide +kernel) rfl (Or.inl rfl)) mq)))) (λ_ _ _ _=>gj) (λ_ _ _ _=>(pv 0))))),?_⟩;refine⟨hA,z.TC.cl,z.TC.nF,hF.files,⟨_,aa.of Y⟩,?_⟩;intro D O;refine GF (σ0:=[none,none]) O (aa.of Y) (λZ=>∃u v,Z=[u,v]) (λj zs _=>zs=((rS p).take j).map V.str) ⟨_,_,rfl⟩ rfl ?_ ?_
 . rintro j y zs Z H3 k hy ⟨u,v,rfl⟩ G J rfl fJ;obtain⟨f,U,t,l,rfl,f1,f2⟩:=fc lN hy;have aT:=(cM.mp U).1;have Fe:(rS p)[j]?=some f.1:=by rw[c8,U];rfl
   refine⟨bh.of (J _ _ f1),rfl,rfl,?_⟩;refine⟨fJ _ _ _ ⟨_,_,rfl⟩ (ac.refl _) (bQ (by rw[ak,eW];omega)) ?_⟩;rw[lR Fe,dq];rfl
 rintro zs H3 G J rfl;have e:(rS p).take xs.length=rS p:=Jr (by rw[ak];omega);rw[e]at G;exact q D H3 O J G
inductive yX (C:Addr):Sp where
 | mk {H:Hp}{Q:VK}{E:XK}{v:V}{a:Addr}{xs:ae}{p:cy}{ps:Lp} (_:jp C H v p) (_:H a=some (.lst xs)) (_:eF C H xs ps) (_:ps.length<=9) (_:p.fs.length<=9) (_:(∀o∈ps,o.fs.length<=9)) (_:(∀o∈ps,o.nm≠p.nm->∀x∈rS p,x∉rS o)) (_:dL H (.lst []) Q):yX C [v,.ref a] H Q E
theorem CA:aP [asw,ass,"faults",asU,"claim"] [asw,ass] (aA OP):=aV
theorem ald(j:Pg K mg base Pt):aw P w K mg base aI 1 j.NFa.f j.NFa.fd [asw,ass] (yX j.C):=by
 refine j.NFa.u.okL CA ?_;intro U A outer s H vs Q E hr h xX dX;obtain @⟨_,_,_,v,a,xs,p,ps,⟨b,dx,fl,rk,m,pf,pn,jL,po,fx,rfl,J,O,hM,jJ,lN,hO,hR,G,_⟩,ha,Y,l1,l2,l3,l4,q⟩:=h;refine⟨_,(ai (aM (i:=2) CA.nd rfl (Or.inl rfl) (df dG))
  (ai (eO dQ rfl (NC (by rfl) j.B.enumerate (al (bG (pv 0) rfl))) (nJ rfl (fR (be (i:=3) CA.nd rfl (Or.inl rfl)) (fR (be (i:=4) CA.nd rfl (Or.inl rfl)) mq)))
  xg)
  (aj (aX (pv 2))))),?_⟩
 refine jn ?_
 intros
 refine⟨AQ,λp1 H1 n1 z e1=>?_⟩;refine⟨z _ _ J,j.TC.cl,j.TC.nE,O.needs,pn,rfl,⟨_,aa.of (z _ _ G)⟩,?_⟩;exact Si (aa.of (z _ _ G)) ⟨q p1 H1 n1 z e1⟩
theorem yZ:aP [asw,ass,ath,"faults",asU,"claim"] [asw,ass] (aA OQ):=aV
theorem ale(z:Pg K mg base Pt):aw P w K mg base aI 1 z.SFa.f z.SFa.fd [asw,ass] (yX z.C):=by
 refine z.SFa.u.okL yZ ?_;intro av A outer s H vs Q E hr h xX dX;obtain @⟨_,_,_,v,a,xs,p,ps,⟨b,dx,fl,rk,m,pf,pn,jL,po,fx,rfl,U,Y,hM,jJ,lN,hO,hR,_,yY⟩,ha,O,l1,l2,l3,l4,q⟩:=h;have a0:=bD O;refine⟨_,(ai (qN (i:=2) [asI] [asw] [0] yZ.nd rfl rfl dM rfl (cG (pv 1)) (λ_ _ _ _=>(be (i:=0) (show List.Nodup ([asI,asw]:Ls) by decide +kernel) rfl (Or.inl rfl))) (λ_ _ _ _=>pL (bL Kw (iU K (pv 0) rfl) (iU K (pv 1) rfl) (bC _))) (λ_ _ _ _=>(pv 0)))
  (ai (aM (i:=3) yZ.nd rfl (Or.inl rfl) (df dG))
  (ai (eO dQ rfl (NC (by rfl) z.B.enumerate (al (bG (pv 0) rfl))) (nJ rfl (fR (be (i:=4) yZ.nd rfl (Or.inr rfl)) (fR (be (i:=5) yZ.nd rfl (Or.inl rfl)) mq)))
  xg)
  (aj (aX (pv 3)))))),?_⟩
 refine lG ?_
 intros
 refine⟨⟨_,aa.of ha⟩,?_⟩;intro D hD;refine rF (σ0:=[none,some (.ref b)]) hD (aa.of ha) (λZ=>∃v,Z=[v,some (.ref b)]) (λj zs _=>zs.length<=j) ⟨_,rfl⟩ (aK _) ?_ ?_
 . rintro j y zs Z H3 k k' hy ⟨v,rfl⟩ cZ G zl fJ jr;obtain⟨o,ho,hE⟩:=fc O hy;have aT:=(cM.mp ho).1;obtain⟨b',kB,qZ,B6,m',CB,Sm,Sn,So,Sq,rfl,CC,CD,_⟩:=id hE;refine⟨G _ _ CC,z.TC.cl,z.TC.nN,CD.name,G _ _ U,z.TC.cl,z.TC.nN,Y.name,rfl,⟨?_⟩⟩;refine bv (λh=>?_) (λh=>?_)
   . exact⟨fJ _ _ _ ⟨_,rfl⟩ (ac.refl _) (bQ (by omega)) (by rw[bI,jU];omega)⟩
   exact jr _ _ ⟨_,rfl⟩ (ac.refl _) (by omega)
 rintro zs H3 cZ G zl;refine bq ?_;intro tT;refine⟨AQ,λp1 H1 n1 s1 e1=>?_⟩;have J:=G.trans s1;refine⟨J _ _ U,z.TC.cl,z.TC.nS,Y.shuts,jL,rfl,⟨_,aa.of (J _ _ yY)⟩,?_⟩;exact Si (aa.of (J _ _ yY)) ⟨q p1 H1 (G.free n1) J e1⟩
theorem y7:aP [asw,ass,ath,"faults",asI,"paths"] [asw,ass] (aA OR):=aV
theorem alf(G:Pg K mg base Pt):aw P w K mg base aI 2 G.CFa.f G.CFa.fd [asw,ass] (yX G.C):=by
 refine G.CFa.u.okL y7 ?_;intro av A outer s H vs Q E hr h xX dX;obtain @⟨_,_,_,v,a,xs,p,ps,hP,ha,bM,l1,l2,l3,l4,q⟩:=h;obtain⟨b,dx,fl,rk,m,pf,pn,jL,po,fx,rfl,hA,hF,_⟩:=id hP;have a2:=bD bM;refine⟨_,(ai (qN (i:=2) [asI] [asw] [0] y7.nd rfl rfl dM rfl (cG (pv 1)) (λ_ _ _ _=>(be (i:=0) (show List.Nodup ([asI,asw]:Ls) by decide +kernel) rfl (Or.inl rfl))) (λ_ _ _ _=>pL (bL ND (iU K (pv 0) rfl) (iU K (pv 1) rfl) (bC _))) (λ_ _ _ _=>(pv 0)))
  (ai (aM (i:=3) y7.nd rfl (Or.inl rfl) (df dG))
  (ai (eO dQ rfl (cG (pv 2)) (be (i:=4) y7.nd rfl (Or.inr rfl))
  (ai (aM (i:=5) y7.nd rfl (Or.inr rfl) (ay (Sl G) hr rfl (al (pv 4))))
   (aj (bB (db gZ qy qz nW (pv 3) (al (fY [asq] [asw,asI,"paths"] [0,4,5] dM rfl (cG (ay (Sl G) hr rfl (al (pv 0)))) (λ_ _ _ _=>(be (i:=0) (show List.Nodup ([asq,asw,asI,"paths"]:Ls) by decide +kernel) rfl (Or.inl rfl))) (λ_ _ _ _=>pL (bL (Mf K) (pv 0) (pv 3) (by rfl))) (λ_ _ _ _=>(eT (AY bT (iU K (pv 1) rfl) (iU K (pv 2) rfl) (pv 0)))))))))))
  (aj (aX (pv 3)))))),?_⟩
 refine lG ?_
 intros
 refine⟨⟨_,aa.of ha⟩,?_⟩;intro D hD;refine rF (σ0:=[none,some (.ref b)]) hD (aa.of ha) (λZ=>∃v,Z=[v,some (.ref b)]) (λj zs _=>zs.length<=j/\∃os,eF G.C H zs os/\∀o∈os,o∈ps/\o.nm≠p.nm) ⟨_,rfl⟩ ⟨aK _,[],.nil,λ_ h=>nomatch h⟩ ?_ ?_
 . rintro j y zs Z H3 k k' J ⟨v,rfl⟩ cZ h3 ⟨zl,os,zp,zo⟩ fJ jr;obtain⟨o,Y,U⟩:=fc bM J;have aT:=(cM.mp Y).1;obtain⟨b',kB,qZ,B6,m',CB,Sm,Sn,So,Sq,rfl,CC,CD,_⟩:=id U;refine⟨h3 _ _ CC,G.TC.cl,G.TC.nN,CD.name,h3 _ _ hA,G.TC.cl,G.TC.nN,hF.name,_,_,rfl,rfl,⟨?_⟩⟩;refine bv (λh=>?_) (λh=>?_)
   . refine⟨fJ _ _ _ ⟨_,rfl⟩ (ac.refl _) (bQ (by omega)) ⟨by rw[bI,jU];omega,os++[o],iD U zp,λo' ir=>?_⟩⟩
     rcases bY.mp ir with z | z
     . exact zo o' z
     rw[bF.mp z];refine⟨da Y,λe=>?_⟩;have h:=cT h;rw[e]at h;exact V5 _ h
   exact jr _ _ ⟨_,rfl⟩ (ac.refl _) ⟨by omega,os,zp,zo⟩
 rintro oz H0 d0 s0 ⟨zl,os,a1,zo⟩;refine bq ?_;intro tT;refine⟨AQ,λp1 H1 n1 s1 e1=>?_⟩;refine⟨⟨_,aa.of (s1 _ _ d0)⟩,?_⟩;have y6:=s0.trans s1;refine hJ (xs:=oz) (λi Z H2=>∃u v,Z=[some (.ref b),some (.ref a),some (.ref D),some (.ref p1),u,v]/\ac H0 H2/\H2 p1=some (.lst [])) ⟨none,none,rfl,s1,e1⟩ ?_ ?_ ?_
 . rintro i Z H2 hi ⟨u,v,rfl,O,e2⟩;exact aa.of (O _ _ d0)
 . intro i z Z H2 hz hQ;refine bq ?_;intro tT;obtain⟨u,v,rfl,O,e2⟩:=hQ;obtain⟨o,Y,U⟩:=fc a1 hz;obtain⟨om,on⟩:=zo o (da Y);have lo:=l3 o om;obtain⟨b',kB,qZ,B6,m',CB,Sm,Sn,So,Sq,rfl,CC,CD,_⟩:=id U;have wo:=s0.trans O;refine⟨U.same wo,by omega,λl5 H5 n5 s5 e5=>?_⟩;have wp:=wo.trans s5;refine⟨.inl ⟨rfl,_,aa.of (s5 _ _ e2)⟩,hP.same wp,by omega,λl6 H6 n6 s6 e6=>⟨⟨_,aa.of e6⟩,?_⟩⟩;intro D7 rT;refine rF (σ0:=[none,some (.ref b),some (.ref b'),some (.ref l5)]) rT (aa.of e6) (λZ=>∃v,Z=[v,some (.ref b),some (.ref b'),some (.ref l5)]) (λj iH H7=>iH=[]) ⟨_,rfl⟩ rfl ?_ ?_
   . rintro j y iH Z H7 k k' J ⟨v,rfl⟩ rO h7 rfl fJ jr;rw[c8]at J;cases hx:(rS p)[j]? with
     | none=>rw[hx]at J;cases J
     | some x=>
      rw[hx]at J;cases J;refine⟨.inl (aa.of (h7 _ _ (s6 _ _ e5))),rfl,yI _,⟨?_⟩⟩;refine bv (λh=>?_) (λh=>?_)
      . exact absurd (yM.mp h) (l4 o om on x (da hx))
      exact jr _ _ ⟨_,rfl⟩ (ac.refl _) rfl
   rintro iH H7 rO h7 rfl;have uD:=s5.trans (s6.trans h7);have a0:=uD _ _ e2;refine⟨a0,rO,by decide,?_⟩;exact⟨_,_,rfl,rR n1 (O.trans uD),aD⟩
 rintro Z H2 ⟨u,v,rfl,O,e2⟩;exact⟨q p1 H2 (s0.free n1) (s0.trans O) e2⟩
inductive Sr (C S:Addr):Sp where
 | mk {H:Hp}{Q:VK}{E:XK}{j:V}{c:Addr}{xs:ae}{ps:Lp}{ch:Ch}{ns:Ls} (_:jq S H j xs ps) (_:eF C H xs ps) (_:Apart ns ps) (_:dj H c ch) (_:qa xs ps ch) (_:ch.length<=4) (_:dL H (.lst []) Q):Sr C S [j,.ref c] H Q E
theorem CF:aP [asp,asy,ass,"faults",asw] [asp,asy] (aA ON):=aV
theorem ali(j:Pg K mg base Pt):aw P w K mg base aI 3 j.FaO.f j.FaO.fd [asp,asy] (Sr j.C j.S):=by
 refine j.FaO.u.okL CF ?_;intro av A outer s H vs Q E J h xX dX;obtain @⟨_,_,_,sv,c,xs,ps,ch,ns,hS,hP,y8,hc,hV,h4,q⟩:=h;refine⟨_,(ai (aM (i:=2) CF.nd rfl (Or.inl rfl) (ay (QV j) J rfl (aL (pv 0) (pv 1))))
  (ai (aM (i:=3) CF.nd rfl (Or.inl rfl) (df dG))
  (ai (eO dQ rfl (cG (pv 2)) (be (i:=4) CF.nd rfl (Or.inl rfl))
  (ai (bB (db gZ qy qz nW (pv 3) (al (ay (ald j) J rfl (aL (pv 4) (pv 2))))))
   (ai (bB (db gZ qy qz nW (pv 3) (al (ay (ale j) J rfl (aL (pv 4) (pv 2))))))
   (aj (bB (db gZ qy qz nW (pv 3) (al (ay (alf j) J rfl (aL (pv 4) (pv 2))))))))))
  (aj (aX (cg acD (by rfl) j.B.sorted sG (al (pv 3)))))))),?_⟩
 refine lG ?_
 intros
 refine⟨hS,hc,hV,by omega,λD H1 lF px n1 s1 e1 pr pn pc=>?_⟩;have wk:=QZ (hP.same s1) pr;have pm:=Q0 pr;have eR:px.length<=4:=by
  have e:=pn.length_eq;rw[ak,ak]at e;omega
 refine⟨AQ,λp1 H2 n2 s2 e2=>?_⟩;refine⟨⟨_,aa.of (s2 _ _ e1)⟩,?_⟩;refine hJ (xs:=lF) (λi Z H3=>∃u,Z=[some sv,some (.ref c),some (.ref D),some (.ref p1),u]/\ac H1 H3/\H3 p1=some (.lst [])) ⟨none,rfl,s2,e2⟩ ?_ ?_ ?_
 . rintro i Z H3 hi ⟨u,rfl,s3,e3⟩;exact aa.of (s3 _ _ e1)
 . intro i z Z H3 hz hQ;refine bq ?_;intro tT;obtain⟨u,rfl,s3,e3⟩:=hQ;obtain⟨p,hp,hE⟩:=fc wk hz;have pp:=pm p (da hp);have Y:∀{G:Hp}{Q:VK},ac H1 G->dL G (.lst []) Q->yX j.C [z,.ref D] G Q E0:=λ{G Q} sx q=>⟨hE.same sx,sx _ _ e1,wk.same sx,by omega,by have:=(y8.ok p pp).1;omega,λo ho=>by have:=(y8.ok o (pm o ho)).1;omega,λo ho ne x hx jc=>ne (y8.one o (pm o ho) p pp x jc hx),q⟩;refine⟨.inl ⟨rfl,_,aa.of e3⟩,⟨⟨Y s3 λD4 U n4 O e4=>?_⟩⟩⟩;have m4:ac H1 (ag U p1 (.lst ([]++[]))):=rR n2 (s3.trans O);refine⟨O _ _ e3,e4,by decide,?_⟩;refine⟨.inl ⟨rfl,_,aa.of aD⟩,⟨⟨Y m4 λD5 H5 n5 s5 e5=>?_⟩⟩⟩;have m5:ac H1 (ag H5 p1 (.lst (([]++[])++[]))):=rR n2 (m4.trans s5);refine⟨s5 _ _ aD,e5,by decide,?_⟩;refine⟨.inl ⟨rfl,_,aa.of aD⟩,⟨⟨Y m5 λD6 H6 n6 s6 e6=>?_⟩⟩⟩;refine⟨s6 _ _ aD,e6,by decide,?_⟩;exact⟨_,rfl,rR n2 (m5.trans s6),aD⟩
 rintro Z H3 ⟨u,rfl,s3,e3⟩;refine⟨p1,[],rfl,aa.of e3,by decide,λbS a0 srt p4 U n4 O e4=>?_⟩;have ey:bS=[]:=a0.eq_nil;subst ey;exact q p4 U (s1.free (s3.free n4)) (s1.trans (s3.trans O)) e4
inductive Ss (C S:Addr):Sp where
 | mk {H:Hp}{Q:VK}{E:XK}{j:V}{c:Addr}{xs:ae}{ps:Lp}{ch:Ch}{ns:Ls} (_:jq S H j xs ps) (_:eF C H xs ps) (_:Apart ns ps) (_:dj H c ch) (_:qa xs ps ch) (_:ch.length<=4) (_:∀H',ac H H'->Q (.bl true) H'):Ss C S [j,.ref c] H Q E
theorem alk:aP [asp,asy] [asp,asy] (aA OO):=aV
theorem alm(j:Pg K mg base Pt):aw P w K mg base aI 4 j.Sou.f j.Sou.fd [asp,asy] (Ss j.C j.S):=by
 refine j.Sou.u.okL alk ?_;intro av A outer s H vs Q E Y h xX dX;obtain @⟨_,_,_,sv,c,xs,ps,ch,ns,J,G,y8,U,O,z,q⟩:=h;refine⟨_,(aj (aX (mr fV (cg fA (by rfl) j.B.len eX (al (ay (ali j) Y rfl (aL (pv 0) (pv 1))))) ar (bC _)))),?_⟩;exact⟨J,G,y8,U,O,z,λr H1 n1 s1 e1=>⟨r,_,rfl,.inl (aa.of e1),rfl,q H1 s1⟩⟩
variable {H:Hp}{xs:ae}{ps:Lp}{ns:Ls}{v:V}{A:List Addr}{n:Str}
structure kF(C S:Addr)(H:Hp)(sv:V)(xs:ae)(ps:Lp)(ns:Ls):Prop where
 sh:jq S H sv xs ps
 pc:eF C H xs ps
 ap:Apart ns ps
 n4:ns.length<=4
 nm:∀n∈ns,cJ n
theorem kF.same{H':Hp}{j:V}(h:kF C S H j xs ps ns)(s:ac H H'):kF C S H' j xs ps ns:=⟨h.sh.same s,h.pc.same s,h.ap,h.n4,h.nm⟩
theorem kF.pcok{O:V}(h:kF C S H O xs ps ns):∀p∈ps,R7 ns p:=λp j=>by
 obtain⟨a,b,c⟩:=h.ap.ok p j;obtain⟨d,e⟩:=h.ap.offs p j;exact⟨a,λf G=>⟨by have:=(b f G).2.2;omega,λx J=>((b f G).2.1 x J).ln⟩,d,(h.nm _ (h.ap.nms p j)).ln,λt z=>⟨⟨(h.nm t (e t z)).ln,by have:=(h.nm t (e t z)).hi;omega⟩,e t z⟩⟩
structure fe(xs:ae)(ps:Lp)(ch:Ch):Prop where
 nd:(ch.map (·.1)).Nodup
 va:qa xs ps ch
theorem HZ{p:cy}(h:um xs ps v p):p∈ps:=h.elim λ_ j=>j.elim λa _=>da a
theorem fe.len{ch:Ch}(h:fe xs ps ch)(a:Apart ns ps)(G:ns.length<=4):ch.length<=4:=by
 have:=iX h.nd λx z=>by
  obtain⟨e,j,rfl⟩:=ca.mp z;obtain⟨v,p,hi,e1,_⟩:=h.va e j;exact e1▸a.nms p (HZ hi)
 rw[ak]at this;omega
theorem Su{β:Type}{j now:List (Str×β)}{x:Str}{e:Str×β}(h:e∈aZ j now x):e∈now\/e∈j:=by
 unfold aZ at h;split at h
 . rename_i m G
   rcases kj h with z | z
   . right;rw[z];exact kD G
   exact .inl z
 exact .inl (lX.mp h).1
theorem fe.step{now j:Ch}(h:fe xs ps now)(g:fe xs ps j)(x:Str):fe xs ps (aZ j now x):=⟨Hh h.nd,λe z=>(Su z).elim (h.va e) (g.va e)⟩
theorem fe.steps{j:Ch}(g:fe xs ps j):∀{us:Ls}{now:Ch},fe xs ps now->fe xs ps (us.foldl (aZ j) now)
 | [],_,h=>h
 | x::us,_,h=>fe.steps g (us:=us) (h.step g x)
theorem dj.mut{zs U:ae}{ch:Ch}(j:H D=some (.lst zs))(h:dj H c ch):dj (ag H D (.lst U)) c ch:=by
 obtain⟨kvs,h1,h2⟩:=h;exact⟨kvs,aC h1 (aU h1 j (by intro z;cases z)),aq h2 λkv e G=>G.elim λa J=>J.elim λm O=>O.elim λb c=>⟨a,m,b,aC c (aU c j (by intro z;cases z))⟩⟩
theorem Ia{kvs:List (ao×V)}{fs:Ch}(h:Paired (dN H) kvs fs)(nd:(fs.map (·.1)).Nodup)(p:Str):(look fs p=none/\bi kvs (.inr p)=none)\/(∃m t,look fs p=some m/\bi kvs (.inr p)=some (.ref t)/\H t=some (.tup (m.map V.int))):=by
 have G:∀kv f,dN H kv f->kv.1=Sum.inr f.1:=λkv f z=>z.1
 by_cases j:p∈fs.map (·.1)
 . obtain⟨v,m,e,J,r⟩:=rc G h j;obtain⟨_,t,e2,e3⟩:=r;have e2:v=.ref t:=e2;exact .inr ⟨m,t,oM nd J,by rw[e,e2],e3⟩
 exact .inl ⟨fO.mpr j,Bp G h j⟩
def Ib:Oi->W.Dat
 | none=>.none
 | some m=>dI m
theorem alr{a b:Oi}(h:Ib a=Ib b):a=b:=by
 cases a with
 | none=>
  cases b with
  | none=>rfl
  | some y=>cases h
 | some x=>
  cases b with
  | none=>cases h
  | some y=>rw[ai0.mp h]
def iI(A:List Addr)(H:Hp)(v:V)(n:Str):Prop:=∃l,v=.ref l/\l∉A/\H l=some (.lst [.str n])
theorem iI.same{H':Hp}(s:ac H H')(h:iI A H v n):iI A H' v n:=h.elim λl j=>j.elim λa z=>z.elim λb c=>⟨l,a,b,s _ _ c⟩
theorem iI.mut(j:D∈A){o:HO}(h:iI A H v n):iI A (ag H D o) v n:=by
 obtain⟨l,a,b,c⟩:=h;exact⟨l,a,b,by rw[bg (show l≠D from λz=>b (by rw[z];exact j))];exact c⟩
theorem iI.sub{B:List Addr}(hs:∀x∈B,x∈A)(h:iI A H v n):iI B H v n:=h.elim λl j=>j.elim λa G=>G.elim λb c=>⟨l,a,λz=>b (hs l z),c⟩
abbrev alw:Sp:=Ck dN λ_=>True
theorem Sv(j:Pg K mg base Pt):aw P w K mg base aI 1 j.KUn.f j.KUn.fd [asY,asV] alw:=
 RF (Fv:=dN) (OK:=λ_=>True) (dat:=Ib) (λ_ _ _ z=>z.1) (λs z=>dN.same s z) alr (λh nd _ p=>by
  rcases Ia h nd p with⟨e1,e2⟩ | ⟨m,t,e1,e2,e3⟩
  . rw[e1,e2];exact⟨.non,rfl⟩
  rw[e1,e2];exact⟨GG e3,B1 8 m⟩) j
inductive Sw:Sp where
 | mk {H:Hp}{Q:VK}{E:XK}{a b c:Addr}{now j:Ch}{x:Str} (_:dj H a now) (_:dj H b j) (_:(now.map (·.1)).Nodup) (_:(j.map (·.1)).Nodup) (_:H c=some (.lst [.str x])) (_:now.length<=50) (_:∀r H',H r=none->ac H H'->dj H' r (aZ j now x)->Q (.ref r) H'):Sw [.ref a,.ref b,.ref c] H Q E
theorem Ic:aP [as1,asH,as3,"behind",asu] [as1,asH,as3] (aA O2):=aV
theorem Ie(O:Pg K mg base Pt):aw P w K mg base aI 1 O.Beh.f O.Beh.fd [as1,asH,as3] Sw:=by
 refine O.Beh.u.okL Ic ?_;intro av A outer s H vs Q E hr h xX dX;obtain @⟨_,_,_,a,b,c,now,Y,x,⟨kn,hn,pn⟩,⟨kg,hg,pg⟩,Hm,yP,hc,hl,q⟩:=h;have J:=hr.units;refine⟨_,(ai (aM (i:=3) Ic.nd rfl (Or.inl rfl) (dH xK (by rfl) O.B.dict Dv (al (pv 0))))
  (ai (eO dQ rfl (cG (pv 2)) (be (i:=4) Ic.nd rfl (Or.inl rfl))
  (aj (bN (jy (pH J (pv 4) (pv 1)) (by rfl))
   (aj (iT J (pv 3) (pv 4) (lm J (pv 1) (pv 4) (λ_ _=>rfl)) rfl)) (aj (bN (jy (pH J (pv 4) (pv 3)) (by rfl))
    (aj (bB (AE (pv 3) (pv 4) ⟨rfl,rfl,rfl,rfl⟩))) cD)))))
  (aj (aX (pv 3))))),?_⟩
 refine jn ?_;intro dD sS gr dU;have pl:=bD pn;have hk:∀kv f,dN H kv f->kv.1=Sum.inr f.1:=λkv f z=>z.1;refine⟨a,_,rfl,hn,λp1 H1 n1 s1 e1=>?_⟩;refine⟨⟨_,aa.of (s1 _ _ hc)⟩,?_⟩;refine hJ (xs:=[.str x]) (λi Z H2=>∃u kvs,Z=[some (.ref a),some (.ref b),some (.ref c),some (.ref p1),u]/\ac H H2/\H2 p1=some (.dK kvs)/\Paired (dN H) kvs (if i=0 then now else aZ Y now x)) ⟨none,kn,rfl,s1,e1,pn⟩ ?_ ?_ ?_
 . rintro i Z H2 hi ⟨u,kvs,rfl,j,_⟩;exact aa.of (j _ _ hc)
 . intro i x' Z H2 hx hQ;refine bq ?_;intro tT;obtain⟨u,kvs,rfl,j,e2,p2⟩:=hQ;have i0:i=0:=by have:=(cM.mp hx).1;simpa using this
   subst i0;cases hx;rw[am rfl]at p2;have kl:=bD p2;have CG:=j _ _ hg;refine⟨_,ci.k (k:=.inr x) CG,⟨?_⟩⟩
   rcases Ia pg yP x with⟨U,G⟩ | ⟨m,t,U,G,g3⟩
   . rw[G];refine cL ?_;have es:aZ Y now x=kC now x:=by unfold aZ;rw[U]
     refine⟨_,ci.k (k:=.inr x) e2,⟨?_⟩⟩
     rcases Ia p2 Hm x with⟨k1,k2⟩ | ⟨m,t,k1,k2,k3⟩
     . rw[k2];refine cL ⟨_,kvs,rfl,j,e2,?_⟩;rw[ah (by decide),es,Cc (fO.mp k1)];exact p2
     rw[k2];refine dZ ⟨.inl ⟨_,.inl e2⟩,kvs,.inr x,.ref t,e2,rfl,k2,?_⟩;refine⟨_,_,rfl,rR n1 j,aD,?_⟩;rw[ah (by decide),es];exact Cb hk p2
   rw[G];refine dZ ⟨by rw[<-G];exact ci.k (k:=.inr x) CG,fX.k (k:=.inr x) e2 (bQ (by omega)),?_⟩;refine⟨_,_,rfl,rR n1 j,aD,?_⟩;have es:aZ Y now x=bP now x m:=by unfold aZ;rw[U]
   rw[ah (by decide),es];exact iZ hk ⟨rfl,t,rfl,g3⟩ p2
 rintro Z H2 ⟨u,kvs,rfl,j,e2,p2⟩;rw[ah (by simp)]at p2;exact⟨q p1 H2 n1 j ⟨kvs,e2,aq p2 λ_ _=>dN.same j⟩⟩
inductive Sx:Sp where
 | mk {H:Hp}{Q:VK}{E:XK}{a b z:Addr}{names:Ls} (_:H a=some (.lst [.ref z])) (_:H z=some (.lst [])) (_:H b=some (.lst (names.map V.str))) (_:names.length<=50) (_:∀l ys H',H l=none->ac H H'->H' l=some (.lst ys)->Paired (iI [] H') ys names->Q (.ref l) H'):Sx [.ref a,.ref b] H Q E
theorem Ig:aP [ati,atc,"larger",as3] [ati,atc] (aA O4):=aV
theorem alx(zZ:Pg K mg base Pt):aw P w K mg base aI 1 zZ.Wom.f zZ.Wom.fd [ati,atc] Sx:=by
 refine zZ.Wom.u.okL Ig ?_;intro av A outer s H vs Q E hr h xX dX;obtain @⟨_,_,_,a,b,z,names,ha,hz,hb,n1,q⟩:=h;refine⟨_,(ai (aM (i:=2) Ig.nd rfl (Or.inl rfl) (df dG))
  (ai (eO dQ rfl (cG (pv 0)) (be (i:=3) Ig.nd rfl (Or.inr rfl))
  (aj (bB (db gZ qy qz nW (pv 2) (al (fY [asu] [as3] [3] dM rfl (cG (pv 1)) (λ_ _ _ _=>(be (i:=0) (show List.Nodup ([asu,as3]:Ls) by decide +kernel) rfl (Or.inl rfl))) (λ_ _ _ _=>pL (PW.pt (sP (bL fV (cg (ace K) (by rfl) zZ.B.len eX (al (pv 1))) ar (bC _)) (sO (bL ND (pv 0) (bO (EF K) (pv 1) (uY vc ar) (λ_ _=>rfl)) (bC _)))))) (λ_ _ _ _=>(aJ tI (pv 1) (df (al (pv 0)))))))))))
  (aj (aX (pv 2))))),?_⟩
 refine jn ?_;intro dD sS gr dU;refine⟨AQ,λp1 H1 vX s1 e1=>?_⟩;refine⟨⟨_,aa.of (s1 _ _ ha)⟩,?_⟩;refine hJ (xs:=[.ref z]) (λi Z H2=>∃u ys,Z=[some (.ref a),some (.ref b),some (.ref p1),u]/\ac H H2/\H2 p1=some (.lst ys)/\Paired (iI [p1] H2) ys (if i=0 then [] else names)) ⟨none,[],rfl,s1,e1,.nil⟩ ?_ ?_ ?_
 . rintro i Z H2 hi ⟨u,ys,rfl,G,_⟩;exact aa.of (G _ _ ha)
 . intro i x Z H2 hx hQ;refine bq ?_;intro tT;obtain⟨u,ys,rfl,G,e2,p2⟩:=hQ;have i0:i=0:=by have:=(cM.mp hx).1;simpa using this
   subst i0;cases hx;cases p2;refine⟨.inl ⟨rfl,_,aa.of e2⟩,⟨_,aa.of (G _ _ hb)⟩,?_⟩;intro D hD;have nD:p1≠D:=λz=>by rw[<-z,e2]at hD;cases hD
   refine rF (σ0:=[none,some (.ref z)]) hD (aa.of (G _ _ hb)) (λZ=>∃v,Z=[v,some (.ref z)]) (λj ws H3=>Paired (iI [D,p1] H3) ws (names.take j)) ⟨_,rfl⟩ .nil ?_ ?_
   . rintro j y ws Z H3 k k' U ⟨v,rfl⟩ cZ O J fJ jr;rw[c8]at U;cases hn:names[j]? with
     | none=>rw[hn]at U;cases U
     | some n=>
      rw[hn]at U;cases U;have Sy:=O _ _ (G _ _ hz);have wl:=bD J;rw[eW]at wl;refine⟨z,_,rfl,.inl (aa.of Sy),rfl,⟨dZ (dZ ⟨AU,λp5 H5 n5 s5 e5=>?_⟩)⟩⟩;refine⟨s5 _ _ Sy,e5,(show 0+1<=sizeLine by decide),λp6 H6 n6 s6 e6=>?_⟩;have Sz:=s5.trans s6;refine fJ _ _ _ ⟨_,rfl⟩ Sz (bQ (by omega)) ?_;rw[lR hn];refine iD (iI.mut (by simp) ⟨p6,rfl,?_,e6⟩) (aq J λ_ _ z=>(z.same Sz).mut (by simp));intro z;have Y:H3 p6=none:=s5.free n6
      rcases bf.mp z with e | e
      . rw[e,cZ]at Y;cases Y
      rw[bF.mp e]at Y;have:=O _ _ e2;rw[this]at Y;cases Y
   rintro ws H3 cZ O J;rw[ak,eI]at J;have wl:=bD J;have a0:=O _ _ e2;refine⟨a0,cZ,j8 (by simp;omega),?_⟩;refine⟨_,_,rfl,rR vX (G.trans O),aD,?_⟩;rw[ah (by decide)];exact aq J λ_ _ z=>(z.mut (D:=p1) (by simp)).sub (by simp)
 rintro Z H2 ⟨u,ys,rfl,G,e2,p2⟩;rw[ah (by simp)]at p2;exact⟨q p1 ys H2 vX G e2 (aq p2 λ_ _ z=>z.sub (by simp))⟩
inductive SA (C S:Addr):Sp where
 | mk {H:Hp}{Q:VK}{E:XK}{z:V}{a b c:Addr}{xs:ae}{ps:Lp}{ns:Ls}{now j:Ch}{x:Str}{names:Ls} (_:kF C S H z xs ps ns) (_:dj H a now) (_:dj H b j) (_:fe xs ps now) (_:fe xs ps j) (_:H c=some (.lst ((x::names).map V.str))) (_:names.length<=40) (_:∀l H',ac H H'->H' l=some (.lst [.str x])->Q (.ref l) H'):SA C S [z,.ref a,.ref b,.ref c] H Q E
theorem za:aP [asp,as1,asH,atc,ati,"many",as3] [asp,as1,asH,atc] (aA O3):=aV
theorem alz(G:Pg K mg base Pt):aw P w K mg base aI 5 G.Fst.f G.Fst.fd [asp,as1,asH,atc] (SA G.C G.S):=by
 refine G.Fst.u.okL za ?_;intro av A outer s H vs Q E hr h xX dX;obtain @⟨_,_,_,sv,a,b,c,xs,ps,ns,now,a0,x,names,O,hA,hB,k1,k2,Y,a1,q⟩:=h;refine⟨_,(ai (aM (i:=4) za.nd rfl (Or.inl rfl) (df (al (df dG))))
  (ai (eO dQ rfl (DH rfl G.B.range (aL ar (cg fA (by rfl) G.B.len eX (al (pv 3))))) (be (i:=5) za.nd rfl (Or.inl rfl))
  (ai (aM (i:=4) za.nd rfl (Or.inl rfl) (ay (alx G) hr rfl (aL (pv 4) (pv 3))))
   (aj (eO dQ rfl (cG (pv 4)) (be (i:=6) za.nd rfl (Or.inl rfl))
   (aj (bN (jf (ay (alm G) hr rfl (aL (pv 0) (ay (Ie G) hr rfl (dg (pv 1) (pv 2) (pv 6))))))
    (aj (aX (pv 6))) cD))))))
  (aj (aX (pv 3))))),?_⟩
 refine jn ?_;intro dD sS gr dU;refine⟨AQ,λp1 H1 n1 s1 e1=>?_⟩;refine⟨AU,λp2 H2 n2 s2 e2=>?_⟩;have J:=s1.trans s2;have el:(((x::names).map V.str).length:Int)=1+(names.length:Int):=by rw[ak,cq];omega
 refine⟨c,_,rfl,.inl (aa.of (J _ _ Y)),⟨by omega,by omega,by omega,by omega⟩,?_⟩;refine uX (λi Z H3=>i=0/\Z=[some sv,some (.ref a),some (.ref b),some (.ref c),some (.ref p2),none,none]/\H3=H2) ⟨rfl,rfl,rfl⟩ ?_ ?_
 . rintro i Z H3 hi ⟨rfl,rfl,rfl⟩;refine bq ?_;intro tT;refine⟨e2,s2 _ _ e1,J _ _ Y,by rw[cq];omega,λl ys H4 n4 s4 e4 pr=>?_⟩;refine⟨⟨_,aa.of e4⟩,?_⟩;cases pr with
   | @cons y _ bS _ hy a2=>
   obtain⟨yl,rfl,_,SD⟩:=hy;refine hJ (xs:=.ref yl::bS) (λj Z U=>j=0/\Z=[some sv,some (.ref a),some (.ref b),some (.ref c),some (.ref l),some (.int (1+(0:Nat))),none]/\U=H4) ⟨rfl,rfl,rfl⟩ ?_ ?_ ?_
   . rintro j Z U hj ⟨rfl,rfl,rfl⟩;exact aa.of e4
   . rintro j z Z U hz ⟨rfl,rfl,rfl⟩;cases hz;have uw:=J.trans s4;have l4:=k1.len O.ap O.n4;refine⟨hA.same uw,hB.same uw,k1.nd,k2.nd,SD,by omega,λr H6 n6 s6 c6=>?_⟩;have k3:=k1.step k2 x;have W6:=O.same (uw.trans s6);refine⟨W6.sh,W6.pc,W6.ap,c6,k3.va,k3.len O.ap O.n4,λH7 s7=>⟨dZ ?_⟩⟩;exact⟨q yl H7 ((uw.trans s6).trans s7) ((s6.trans s7) _ _ SD)⟩
   rintro Z U ⟨h,_⟩;exact absurd h (by simp)
 rintro Z H3 ⟨h,rfl,rfl⟩;have n0:names=[]:=wP.mp (by omega);rw[n0]at Y;exact⟨q c _ J (J _ _ Y)⟩
inductive SE (C S:Addr):Sp where
 | mk {H:Hp}{Q:VK}{E:XK}{z:V}{a b:Addr}{xs:ae}{ps:Lp}{ns:Ls}{now j:Ch} (_:kF C S H z xs ps ns) (_:dj H a now) (_:dj H b j) (_:fe xs ps now) (_:fe xs ps j) (_:∀l zs us H',H l=none->ac H H'->H' l=some (.lst zs)->dz now j us->Paired (iI [l] H') zs us->Q (.ref l) H'):SE C S [z,.ref a,.ref b] H Q E
theorem uE:aP [asp,as1,asH,ati,"reached","left",as3] [asp,as1,asH] (aA O1):=aV
theorem alA(G:Pg K mg base Pt):aw P w K mg base aI 6 G.Gro.f G.Gro.fd [asp,as1,asH] (SE G.C G.S):=by
 refine G.Gro.u.okL uE ?_;intro av A outer s H vs Q E hr h xX dX;obtain @⟨_,_,_,sv,a,b,xs,ps,ns,now,Y,J,hA,hB,cA,cB,q⟩:=h;have dv:=hr.mono (j:=1) (by decide);have nl:=cA.len J.ap J.n4;have gl:=cB.len J.ap J.n4;refine⟨_,(ai (aM (i:=3) uE.nd rfl (Or.inl rfl) (df dG))
  (ai (aM (i:=4) uE.nd rfl (Or.inl rfl) (pv 1))
  (ai (aM (i:=5) uE.nd rfl (Or.inl rfl) (ay (Sv G) dv rfl (aL (pv 4) (pv 2))))
  (ai (Kg dQ (bL Kx (cg fA (by rfl) G.B.len eX (al (pv 5))) ar (bC _)) (ai (aM (i:=6) uE.nd rfl (Or.inl rfl) (ay (alz G) hr rfl (AY (pv 0) (pv 4) (pv 2) (pv 5))))
   (ai (bB (db gZ qA qB mx (pv 3) (al (pv 6))))
   (ai (aM (i:=4) uE.nd rfl (Or.inl rfl) (ay (Ie G) dv rfl (dg (pv 4) (pv 2) (pv 6))))
   (aj (aM (i:=5) uE.nd rfl (Or.inl rfl) (ay (Sv G) dv rfl (aL (pv 4) (pv 2)))))))))
  (aj (aX (pv 3))))))),?_⟩
 refine Mr ?_;intro dD sS BS oH gr dU;refine⟨AQ,λp1 H1 n1 s1 e1=>?_⟩;refine⟨?_⟩;obtain⟨ka,a3,a4⟩:=hA.same s1;obtain⟨kb,Hy,iY⟩:=hB.same s1;refine⟨a3,Hy,a4,iY,cA.nd,cB.nd,trivial,trivial,wf (by omega),λl2 H2 us n2 s2 e2 U=>?_⟩;have bZ:=s1.trans s2;have ul:=U.len;refine⟨λm Z H3=>∃i re O u zs,m=us.length - i/\i<=us.length/\Z=[some sv,some (.ref a),some (.ref b),some (.ref p1),some (.ref re),some (.ref O),u]/\ac H H3/\H3 p1=some (.lst zs)/\Paired (iI [p1] H3) zs (us.take i)/\dj H3 re ((us.take i).foldl (aZ Y) now)/\O≠p1/\H3 O=some (.lst ((us.drop i).map V.str)),
  ⟨_,0,a,l2,none,[],rfl,dF _,rfl,bZ,s2 _ _ e1,.nil,hA.same bZ,(aO e1 n2).symm,e2⟩,?_⟩
 intro m Z H3 hQ;refine bq ?_;intro tT;obtain⟨i,re,O,u,zs,rfl,hi,rfl,s3,e3,p3,c3,a8,el⟩:=hQ;have zl:=bD p3;rw[eW]at zl;have k3:fe xs ps ((us.take i).foldl (aZ Y) now):=cB.steps cA;refine⟨O,_,rfl,.inl (aa.of el),⟨⟨?_⟩⟩⟩;refine bv (λh=>?_) (λh=>?_)
 . have pP:(0:Int)<(((us.drop i).map V.str).length:Int):=cT h;rw[ak,kP]at pP;have aT:i<us.length:=by omega
   have hx:us[i]?=some us[i]:=gX aT;have ed:us.drop i=us[i]::us.drop (i+1):=Jp aT;rw[ed]at el;refine⟨λσ' H'=>∃m',m'<us.length - i/\∃i re O u zs,m'=us.length - i/\i<=us.length/\σ'=[some sv,some (.ref a),some (.ref b),some (.ref p1),some (.ref re),some (.ref O),u]/\ac H H'/\H' p1=some (.lst zs)/\Paired (iI [p1] H') zs (us.take i)/\dj H' re ((us.take i).foldl (aZ Y) now)/\O≠p1/\H' O=some (.lst ((us.drop i).map V.str)),λσ' H' h=>h,?_⟩;refine lG ?_
   intros
   refine⟨J.same s3,c3,hB.same s3,k3,cB,el,by rw[kP];omega,λl4 H4 s4 e4=>?_⟩;have CH:=s4 _ _ e3;have n4:l4≠p1:=λz=>by
    rw[z,CH]at e4;injection e4 with e4
    injection e4 with e4
    rw[e4]at p3;obtain⟨_,_,l,hl,_⟩:=fc (i:=0) p3 rfl;cases hl
   refine⟨.inl ⟨rfl,_,aa.of CH⟩,CH,bQ (by omega),?_⟩;have m5:ac H (ag H4 p1 (.lst (zs++[.ref l4]))):=rR n1 (s3.trans s4);have cc:dj (ag H4 p1 (.lst (zs++[.ref l4]))) re ((us.take i).foldl (aZ Y) now):=dj.mut CH (c3.same s4);have e5:ag H4 p1 (.lst (zs++[.ref l4])) l4=some (.lst [.str us[i]]):=by rw[bg n4];exact e4
   have cl:=k3.len J.ap J.n4;refine⟨cc,hB.same m5,k3.nd,cB.nd,e5,by omega,λr6 H6 n6 s6 c6=>?_⟩;have st:aZ Y ((us.take i).foldl (aZ Y) now) us[i]=(us.take (i+1)).foldl (aZ Y) now:=by rw[lR hx,oZ];rfl
   rw[st]at c6;have k6:fe xs ps ((us.take (i+1)).foldl (aZ Y) now):=cB.steps cA;have a7:=k6.len J.ap J.n4;obtain⟨kr,a0,a1⟩:=id c6;obtain⟨kg,a5,CG⟩:=hB.same (m5.trans s6);refine⟨a0,a5,a1,CG,k6.nd,cB.nd,trivial,trivial,wf (by omega),λl7 H7 a6 n7 s7 e7 U7=>?_⟩;have eu:a6=us.drop (i+1):=U7.eq (U.drop (i+1));subst eu;have uD:=s6.trans s7;have a2:=uD _ _ (aD (H:=H4) (a:=p1) (o:=.lst (zs++[.ref l4])));refine⟨_,(show us.length - (i+1)<us.length - i by omega),i+1,r6,l7,_,_,rfl,aT,rfl,m5.trans uD,a2,?_,c6.same s7,(aO (s6 _ _ aD) n7).symm,e7⟩;rw[lR hx];exact iD ⟨l4,rfl,by simpa using n4,uD _ _ e5⟩ (aq p3 λ_ _ z=>((z.same s4).mut (by simp)).same uD)
 have l0:i=us.length:=V8 λz=>h (bE (by
  show(0:Int)<(((us.drop i).map V.str).length:Int);rw[ak,kP];omega))
 subst l0;rw[eI]at p3;exact⟨q p1 zs us H3 n1 s3 e3 U p3⟩
end
section
variable {H:Hp}{ch ch':Ch}{cs cs':Cs}{ow ow':Ow}{c b a:Nat}{v:V}{xs:ae}{ps:Lp}{Q:VK}
variable {H H2 H3:Hp}{dc dh dO:Addr}{ch:Ch}{cs:Cs}{ow:Ow}
theorem dN.put{H1:Hp}{ks J:List (ao×V)}(hd:H1 d=some (.dK ks)){kv:ao×V}{e:Str×List Int}(h:dN H1 kv e):dN (ag H1 d (.dK J)) kv e:=h.elim λa j=>j.elim λm G=>G.elim λb c=>⟨a,m,b,aC c (aU c hd (by intro z;cases z))⟩
theorem i6.put{H1:Hp}{ks nz:List (ao×V)}(hd:H1 d=some (.dK ks)){kv:ao×V}{e:Str×(Ls×Ls)}(h:i6 H1 kv e):i6 (ag H1 d (.dK nz)) kv e:=
 h.elim λa j=>j.elim λt G=>G.elim λl1 J=>J.elim λl2 O=>O.elim λb U=>U.elim λc Y=>Y.elim λd' f=>⟨a,t,l1,l2,b,aC c (aU c hd (by intro z;cases z)),aC d' (aU d' hd (by intro z;cases z)),aC f (aU f hd (by intro z;cases z))⟩
structure m9(ch:Ch)(cs:Cs)(ow:Ow):Prop where
 ok:vP ch cs ow
 d1:(ch.map (·.1)).Nodup
 d2:(cs.map (·.1)).Nodup
 d3:(ow.map (·.1)).Nodup
 n1:ch.length<=4
 n2:cs.length<=4
 n3:ow.length<=8
 ln:∀e∈ow,e.2.1.length<=20/\e.2.2.length<=20
structure lU(H H2:Hp)(dc dh dO:Addr)(ch:Ch)(cs:Cs)(ow:Ow):Prop where
 old:ac H H2
 nc:H dc=none
 nh:H dh=none
 no:H dO=none
 d1:dc≠dh
 d2:dc≠dO
 d3:dh≠dO
 ch:dj H2 dc ch
 cs:ue H2 dh cs
 ow:pX H2 dO ow
theorem lU.same(N:lU H H2 dc dh dO ch cs ow)(s:ac H2 H3):lU H H3 dc dh dO ch cs ow:=⟨N.old.trans s,N.nc,N.nh,N.no,N.d1,N.d2,N.d3,N.ch.same s,N.cs.same s,N.ow.same s⟩
theorem lU.putH(N:lU H H2 dc dh dO ch cs ow){G:List (ao×V)}(hh:H2 dh=some (.dK G)){c n:Str}:lU H (ag H2 dh (.dK (cx G (.inr c) (.str n)))) dc dh dO ch (bP cs c n) ow:=by
 obtain⟨Y,J,O⟩:=N.ch;obtain⟨a0,j,U⟩:=N.cs;rw[hh]at j;cases j;obtain⟨ko,o1,o2⟩:=N.ow;exact⟨λb z e=>aC (N.old b z e) (aO e N.nh),N.nc,N.nh,N.no,N.d1,N.d2,N.d3,⟨Y,aC J N.d1,aq O λ_ _=>dN.put hh⟩,⟨_,aD,iZ (F:=pY) (λkv f z=>z.1) (x:=c) (ls:=n) (v:=.str n) ⟨rfl,rfl⟩ U⟩,⟨ko,aC o1 N.d3.symm,aq o2 λ_ _=>i6.put hh⟩⟩
theorem lU.putO(N:lU H H2 dc dh dO ch cs ow){O:List (ao×V)}(j:H2 dO=some (.dK O)){p:Str}{b m:Ls}{t G J:Addr}(ht:H2 t=some (.tup [.ref G,.ref J]))(h1:H2 G=some (.lst (b.map V.str)))(h2:H2 J=some (.lst (m.map V.str))):lU H (ag H2 dO (.dK (cx O (.inr p) (.ref t)))) dc dh dO ch cs (bP ow p (b,m)):=by
 obtain⟨kc,Y,a2⟩:=N.ch;obtain⟨kh,b1,b2⟩:=N.cs;obtain⟨Gj,U,o2⟩:=N.ow;rw[j]at U;cases U;exact⟨λb z e=>aC (N.old b z e) (aO e N.no),N.nc,N.nh,N.no,N.d1,N.d2,N.d3,⟨kc,aC Y N.d2,aq a2 λ_ _=>dN.put j⟩,⟨kh,aC b1 N.d3,b2⟩,⟨_,aD,aq (iZ (F:=i6 H2) (λkv f z=>z.1) (x:=p) (ls:=(b,m)) (v:=.ref t) ⟨rfl,t,G,J,rfl,ht,h1,h2⟩ o2) λ_ _=>i6.put j⟩⟩
structure lV(ch:Ch)(cs:Cs)(ow:Ow)(a b c:Nat):Prop where
 ok:vP ch cs ow
 d1:(ch.map (·.1)).Nodup
 d2:(cs.map (·.1)).Nodup
 d3:(ow.map (·.1)).Nodup
 n1:ch.length<=a
 n2:cs.length<=b
 n3:ow.length<=c
 ln:∀e∈ow,e.2.1.length<=4/\e.2.2.length<=4
theorem lV.putH(o:lV ch cs ow a b c){n m:Str}(h1:cJ n)(h2:cJ m):lV ch (bP cs n m) ow a (b+1) c:=
 ⟨⟨o.ok.ch,λe j=>(kj j).elim (λz=>by rw[z];exact⟨h1,h2⟩) (o.ok.cs e),o.ok.ow⟩,o.d1,lH o.d2,o.d3,o.n1,cn (lI _ _ _) (V3 o.n2),o.n3,o.ln⟩
theorem lV.putO(o:lV ch cs ow a b c){p:Str}{x y:Ls}(h1:dC p)(h2:∀z∈x,i4 z)(G:∀z∈y,i4 z)(J:x.length<=4)(O:y.length<=4):lV ch cs (bP ow p (x,y)) a b (c+1):=
 ⟨⟨o.ok.ch,o.ok.cs,λe j=>(kj j).elim (λz=>by rw[z];exact⟨h1,h2,G⟩) (o.ok.ow e)⟩,o.d1,o.d2,lH o.d3,o.n1,o.n2,cn (lI _ _ _) (V3 o.n3),λe j=>(kj j).elim (λz=>by rw[z];exact⟨J,O⟩) (o.ln e)⟩
theorem lV.mono{j b' c':Nat}(o:lV ch cs ow a b c)(h1:a<=j)(h2:b<=b')(z:c<=c'):lV ch cs ow j b' c':=⟨o.ok,o.d1,o.d2,o.d3,cn o.n1 h1,cn o.n2 h2,cn o.n3 z,o.ln⟩
theorem m9.bnd(h:m9 ch cs ow):BO ch cs ow where
 nch:=by have:=h.n1;omega
 ncs:=by have:=h.n2;omega
 now:=by have:=h.n3;omega
 dch:=h.d1
 dcs:=h.d2
 dow:=h.d3
 ch:=λe j=>⟨by have:=(h.ok.ch e j).1.hi;omega,(h.ok.ch e j).2.ok⟩
 cs:=λe j=>⟨by have:=(h.ok.cs e j).1.hi;omega,by have:=(h.ok.cs e j).2.hi;omega⟩
 ow:=λe j=>by
  obtain⟨⟨ps,e1,p1,p2,U⟩,J,O⟩:=h.ok.ow e j;obtain⟨k1,k2⟩:=h.ln e j;refine⟨?_,by omega,by omega,λx z=>(J x z).hi,λx z=>(O x z).hi⟩;rw[e1];have:=Gk (sep:=lK) (b:=8) (λp G=>(U p G).hi) (by rw[FQ];decide);omega
theorem cJ.ok{x:Str}(h:cJ x):fk x:=vi.mpr λc j=>by have:=h.az c j;omega
theorem m9.perm(h:m9 ch cs ow)(p1:ch'.Perm ch)(p2:cs'.Perm cs)(z:ow'.Perm ow):m9 ch' cs' ow' where
 ok:=⟨λe j=>h.ok.ch e (p1.mem_iff.mp j),λe j=>h.ok.cs e (p2.mem_iff.mp j),λe j=>h.ok.ow e (z.mem_iff.mp j)⟩
 d1:=(p1.map _).nodup_iff.mpr h.d1
 d2:=(p2.map _).nodup_iff.mpr h.d2
 d3:=(z.map _).nodup_iff.mpr h.d3
 n1:=by have:=p1.length_eq;have:=h.n1;omega
 n2:=by have:=p2.length_eq;have:=h.n2;omega
 n3:=by have:=z.length_eq;have:=h.n3;omega
 ln:=λe j=>h.ln e (z.mem_iff.mp j)
theorem m9.rows(h:m9 ch cs ow):(f8 ch cs ow).length<=336:=by
 have:∀(l:Ow),(∀e∈l,e∈ow)->(l.flatMap d8).length<=l.length * 41:=by
  intro l
  induction l with
  | nil=>intro _;exact dF _
  | cons e l O=>
   intro j;have h1:=O λx J=>j x (bR _ J);obtain⟨h2,z⟩:=h.ln e (j e bH);rw[Du,bI,cq];have:(d8 e).length<=41:=by
    unfold d8;simp only[bI,ak,cq,kQ];omega
   omega
 have z:=this ow λe G=>G;have:=h.n1;have:=h.n2;have:=h.n3;have U:ow.length * 41<=8 * 41:=JH _ (by omega);unfold f8;rw[bI,bI,ak,ak];omega
theorem alQ:m9 [] [] []:=⟨⟨(λ_ h=>nomatch h),(λ_ h=>nomatch h),(λ_ h=>nomatch h)⟩,kR,kR,kR,by decide,by decide,by decide,(λ_ h=>nomatch h)⟩
theorem wq{β:Type}:cV ([]:List (Str×β)) []:=⟨.nil,rfl⟩
seal PE PS bW PA PT PW PG eY PI eS
abbrev Bk:=List (Str×Str)
def dP(H:Hp)(v:V)(e:Str×Str):Prop:=∃t,v=.ref t/\H t=some (.tup [.str e.1,.str e.2])
theorem dP.same{H':Hp}(s:ac H H'){e:Str×Str}(h:dP H v e):dP H' v e:=h.elim λt j=>j.elim λa b=>⟨t,a,s _ _ b⟩
def uF(bk:Bk):Prop:=∀e∈bk,fk e.1/\fk e.2
def qi:Str×Str:=("end","")
def ik:Str:="begin"
def uG(bk:Bk):Bool:=match bk.getLast? with
 | none=>true
 | some e=>decide (e=qi)
theorem alS{tb:ae}{bk:Bk}(h:Paired (dP H) tb bk):(tb=[]/\bk=[])\/∃z t j e,tb=z++[.ref t]/\bk=j++[e]/\H t=some (.tup [.str e.1,.str e.2]):=by
 induction h with
 | nil=>exact .inl ⟨rfl,rfl⟩
 | @cons v e tb bk r t O=>
  rcases O with⟨e1,e2⟩ | ⟨z,t',j,G,e1,e2,e3⟩
  . subst e1 e2;obtain⟨t,rfl,J⟩:=r;exact .inr ⟨[],t,[],e,rfl,rfl,J⟩
  subst e1 e2;exact .inr ⟨v::z,t',e::j,G,rfl,rfl,e3⟩
theorem SF(r:ae)(v:V):cI (r++[v]) (-1)=some v:=by
 unfold cI;have e:pC (r++[v]).length (-1)=some r.length:=by
  unfold pC;rw[bI,jU,ah (by omega),am (by omega)]
  congr 1
  omega
 rw[e];show(r++[v])[r.length]?=_;rw[Df (aK _),Nat.sub_self];rfl
inductive SG (D:Addr):Sp where
 | mk {H:Hp}{Q:VK}{E:XK}{x dx d b:Addr}{v:V}{tb:ae}{bk:Bk} (_:H x=some (.ins D dx (b8 d b v))) (_:H b=some (.lst tb)) (_:Paired (dP H) tb bk) (_:uF bk) (_:∀H',ac H H'->Q (.bl (uG bk)) H'):SG D [.ref x] H Q E
theorem SH:aP [asv,"book"] [asv] (aA O5):=aV
theorem SI(j:Pg K mg base Pt):aw P w K mg base aI 2 j.IUp.f j.IUp.fd [asv] (SG j.D):=by
 refine j.IUp.u.okL SH ?_;intro av A outer s H vs Q E J h xX dX;obtain @⟨_,_,_,x,dx,d,b,v,tb,bk,O,hb,pb,ok,q⟩:=h;have hu:=J.units;refine⟨_,(ai (aM (i:=1) SH.nd rfl (Or.inl rfl) (dr (pv 0) j.UD.cl j.BNo.mt (up (Cf j)) J j.BNo.b .nil bJ))
  (aj (aX (J4 (mr fV (cg fA (by rfl) j.B.len eX (al (pv 1))) ar (bC _)) (sU (mr (xF hu) (bO fW (pv 1) (uY vc ar) (λ_ _=>rfl)) (eT (aL bT bT)) (bC _))))))),?_⟩
 refine⟨O,rfl,O,hb,λr H1 n1 z e1=>?_⟩;refine⟨r,_,rfl,.inl (aa.of e1),rfl,⟨?_⟩⟩
 rcases alS pb with⟨rfl,rfl⟩ | ⟨we,t,rV,e,rfl,rfl,ht⟩
 . exact dZ (q H1 z)
 refine bv (λh=>?_) (λh=>?_)
 . have h:=cT h;injection h with h
   rw[bI,jU]at h;omega
 refine⟨_,rfl,aa.of e1,SF _ _,Ah,λp2 H2 n2 U e2=>?_⟩;obtain⟨o1,o2⟩:=ok e (ff _ (bF.mpr rfl));refine⟨.tuple [.str e.1,.str e.2],.tuple [.str qi.1,.str qi.2],.tup (bh.of ((z.trans U) _ _ ht)) (.cons (.str _) (.cons (.str _) .nil)),.tup (bh.of e2) (.cons (.str _) (.cons (.str _) .nil)),?_,?_,λG lC=>?_⟩
 . simp only[W.kqdOk,Dg,V9,Wa,io];exact⟨o1,o2⟩
 . simp only[W.kqdOk,Dg,V9,Wa,io];exact⟨by decide +kernel,by decide +kernel⟩
 have Y:G=uG (rV++[e]):=by
  unfold uG;rw[Wb,aqV,Option.some_or];show G=decide (e=qi);rw[wI,lC,V6];refine⟨λh=>?_,λh=>by rw[h]⟩;injection h with h
  injection h with h1 h2
  injection h1 with h1
  injection h2 with h2
  injection h2 with h2
  exact Prod.ext h1 h2
 rw[Y];exact q H2 (z.trans U)
def de(bk:Bk):Ls:=(bk.filter λe=>decide (e.1=ik)).map (·.2)
theorem Ih(bk:Bk)(e:Str×Str):de (bk++[e])=if e.1=ik then de bk++[e.2] else de bk:=by
 unfold de;rw[zX,dq]
 by_cases h:e.1=ik
 . rw[am h,nw,am (bE h)];rfl
 rw[ah h,nw,ah (by rw[cu h];decide)];exact kM _
inductive SJ (D:Addr):Sp where
 | mk {H:Hp}{Q:VK}{E:XK}{x dx d b:Addr}{v:V}{tb:ae}{bk:Bk} (_:H x=some (.ins D dx (b8 d b v))) (_:H b=some (.lst tb)) (_:Paired (dP H) tb bk) (_:bk.length<=500) (_:dL H (.lst ((Str.empty::de bk).map V.str)) Q):SJ D [.ref x] H Q E
theorem alT:aP [asv] [asv] (aA O6):=aV
theorem SK(G:Pg K mg base Pt):aw P w K mg base aI 2 G.TxB.f G.TxB.fd [asv] (SJ G.D):=by
 refine G.TxB.u.okL alT ?_;intro av A outer s H vs Q E hr h xX dX;obtain @⟨_,_,_,x,dx,d,b,v,tb,bk,hx,hb,pb,oK,q⟩:=h;refine⟨_,(aj (aX (aJ tI (df (al bT)) (fY [atd,asC] [] [] dM rfl (cG (dr (pv 0) G.UD.cl G.BNo.mt (up (Cf G)) hr G.BNo.b .nil bJ)) (λ_ _ _ _=>(Sj (n:=2) K rfl (fR (be (i:=0) (show List.Nodup ([atd,asC]:Ls) by decide +kernel) rfl (Or.inl rfl)) (fR (be (i:=1) (show List.Nodup ([atd,asC]:Ls) by decide +kernel) rfl (Or.inl rfl)) mq)))) (λ_ _ _ _=>pL (bL fV (pv 0) bT (bC _))) (λ_ _ _ _=>(pv 1)))))),?_⟩;refine⟨AU,λp1 H1 n1 O e1=>?_⟩;have pl:=bD pb;refine⟨O _ _ hx,rfl,O _ _ hx,O _ _ hb,λr H2 n2 s2 e2=>⟨⟨_,aa.of e2⟩,?_⟩⟩;have U:=O.trans s2;intro D' uH;refine rF (σ0:=[none,none]) uH (aa.of e2) (λZ=>∃u v,Z=[u,v]) (λj zs _=>zs=(de (bk.take j)).map V.str) ⟨_,_,rfl⟩ rfl ?_ ?_
 . rintro j y zs Z H3 k k' hy ⟨u,v,rfl⟩ Y J rfl fJ jr;obtain⟨e,he,t,rfl,ht⟩:=fc pb hy;have aT:=(cM.mp he).1;refine⟨bh.of ((U.trans J) _ _ ht),rfl,rfl,?_⟩;have bs:=Ih (bk.take j) e;rw[<-lR he]at bs;have bl:(de (bk.take j)).length<=500:=by
    unfold de;rw[ak];exact cn (zK _ _) (by rw[eW];omega)
   refine⟨rfl,⟨?_⟩⟩;refine bv (λh=>?_) (λh=>?_)
   . have h:=cT h;injection h with h
     rw[am (show e.1=ik from h)]at bs;refine⟨fJ _ _ _ ⟨_,_,rfl⟩ (ac.refl _) (bQ (by rw[ak];omega)) ?_⟩;rw[bs,dq];rfl
   rw[ah (λz=>h (by rw[z];exact bE rfl))]at bs;refine jr _ _ ⟨_,_,rfl⟩ (ac.refl _) ?_;rw[bs]
 rintro zs H3 Y J rfl;rw[pl,eI]at Y;have bl:(de bk).length<=500:=by
  unfold de;rw[ak];exact cn (zK _ _) oK
 refine⟨(s2.trans J) _ _ e1,Y,j8 (by rw[ak,jU];omega),λp4 H4 n4 s4 e4=>?_⟩;exact q p4 H4 ((U.trans J).free n4) ((U.trans J).trans s4) e4
structure iJ(xs:ae)(ps:Lp)(ch:Ch)(cs:Cs)(ow:Ow):Prop where
 ok:m9 ch cs ow
 va:qa xs ps ch
 o2:ow.length<=8
structure gu(xs:ae)(ps:Lp)(t:Str)(ch:Ch)(cs:Cs)(ow:Ow):Prop where
 so:iJ xs ps ch cs ow
 s1:cV ch ch
 s2:cV cs cs
 s3:cV ow ow
 tx:t=Str.join lJ (f8 ch cs ow)
theorem iJ.perm(h:iJ xs ps ch cs ow)(p1:ch'.Perm ch)(p2:cs'.Perm cs)(j:ow'.Perm ow):iJ xs ps ch' cs' ow':=⟨h.ok.perm p1 p2 j,λe z=>h.va e (p1.mem_iff.mp z),by have:=j.length_eq;have:=h.o2;omega⟩
theorem iJ.tx(h:iJ xs ps ch cs ow)(p1:cV ch ch')(p2:cV cs cs')(j:cV ow ow'):gu xs ps (Str.join lJ (f8 ch' cs' ow')) ch' cs' ow':=⟨h.perm p1.pm p2.pm j.pm,p1.self,p2.self,j.self,rfl⟩
theorem CI:gu xs ps Str.empty [] [] []:=⟨⟨alQ,(λ_ h=>nomatch h),by decide⟩,wq,wq,wq,rfl⟩
theorem gu.uniq{t:Str}(h:gu xs ps t ch cs ow)(k:gu xs ps t ch' cs' ow'):ch=ch'/\cs=cs'/\ow=ow':=by
 have e1:rowsOf t=f8 ch cs ow:=by rw[h.tx];exact F2 (F1 h.so.ok.ok)
 have e2:rowsOf t=f8 ch' cs' ow':=by rw[k.tx];exact F2 (F1 k.so.ok.ok)
 obtain⟨a,b,c,n1⟩:=F3 h.so.ok.ok h.so.ok.d1 h.so.ok.d2 h.so.ok.d3;obtain⟨j,b',c',n2⟩:=F3 k.so.ok.ok k.so.ok.d1 k.so.ok.d2 k.so.ok.d3;rw[<-e1,e2,n2]at n1;injection n1 with n1 n2 n3
 exact⟨n1.symm,n2.symm,n3.symm⟩
theorem gu.not{t:Str}(h:gu xs ps t ch cs ow){T:Addr}(q:∀v H',ac H H'->(∀L,gD H L->gG T (msk L H') v ch cs ow)->Q v H'):Gq T [.str t] H Q E0:=by
 have ok:=h.so.ok;have j:rowsOf t=f8 ch cs ow:=by rw[h.tx];exact F2 (F1 ok.ok)
 have J:=ok.rows;obtain⟨_,z⟩:=Qp ok.bnd (.refl _) (.refl _) (.refl _);have U:=Gk (sep:=lJ) z (by rw[FP];decide);obtain⟨ck,b,m,G⟩:=F3 ok.ok ok.d1 ok.d2 ok.d3;refine⟨?_,?_,?_,?_⟩
 . have O:(f8 ch cs ow).length * (140+1)<=336 * 141:=JH _ J;rw[h.tx];omega
 . rw[j];omega
 . rw[j];exact agH ok.ok
 rw[j,G];exact q
theorem gu.sho{t:Str}(h:gu xs ps t ch cs ow){T:Addr}(hs:gG T H v ch cs ow)(q:∀H',ac H H'->Q (.str t) H'):BP T [v] H Q E0:=by
 refine⟨hs,h.so.ok.bnd,λch' cs' ow' H' j z G s'=>?_⟩;rw[cV.eq h.so.ok.d1 j h.s1,cV.eq h.so.ok.d2 z h.s2,cV.eq h.so.ok.d3 G h.s3,<-h.tx];exact q H' s'
theorem iJ.sho(h:iJ xs ps ch cs ow){T:Addr}(hs:gG T H v ch cs ow)(q:∀t ch' cs' ow' H',cV ch ch'->cV cs cs'->cV ow ow'->gu xs ps t ch' cs' ow'->ac H H'->Q (.str t) H'):BP T [v] H Q E0:=
 ⟨hs,h.ok.bnd,λch' cs' ow' H' j z G s'=>q _ ch' cs' ow' H' j z G (h.tx j z G) s'⟩
def qj(xs:ae)(ps:Lp)(j:Ls):Prop:=∀t∈j,∃ch cs ow,gu xs ps t ch cs ow
theorem alV(j:Ls)(t:Str):cI ((j++[t]).map V.str) (-1)=some (.str t):=by
 rw[dq];exact SF _ _
inductive SM (D T:Addr):Sp where
 | mk {H:Hp}{Q:VK}{E:XK}{x dx d b:Addr}{v:V}{tb:ae}{bk:Bk}{xs:ae}{ps:Lp}{t:Str}{ch:Ch}{cs:Cs}{ow:Ow} (_:H x=some (.ins D dx (b8 d b v))) (_:H b=some (.lst tb)) (_:Paired (dP H) tb bk) (_:bk.length<=500) (_:(Str.empty::de bk).getLast?=some t) (_:gu xs ps t ch cs ow) (_:∀v H',ac H H'->(∀L,gD H L->gG T (msk L H') v ch cs ow)->Q v H'):SM D T [.ref x] H Q E
theorem alW:aP [asv] [asv] (aA O7):=aV
theorem Ii(j:Pg K mg base Pt):aw P w K mg base aI 5 j.StO.f j.StO.fd [asv] (SM j.D j.T):=by
 refine j.StO.u.okL alW ?_;intro av A outer s H vs Q E G h xX dX;obtain @⟨_,_,_,x,dx,d,b,v,tb,bk,xs,ps,t,ch,cs,ow,hx,z,pb,oK,hl,ht,q⟩:=h;refine⟨_,(aj (aX (ay (QB j) G rfl (al (bO fW (ay (SK j) G rfl (al (pv 0))) (uY vc ar) (λ_ _=>rfl)))))),?_⟩;refine⟨hx,z,pb,oK,λr H1 n1 J e1=>?_⟩;obtain⟨ts,U⟩:=List.getLast?_eq_some_iff.mp hl;rw[U]at e1;refine⟨_,rfl,aa.of e1,alV ts t,?_⟩;exact ht.not λv H' s' hv=>q v H' (J.trans s') λL Y=>hv L λb z=>(Y b z).elim λo O=>O.elim λe n=>⟨o,J _ _ e,n⟩
def uI(xs:ae)(ps:Lp)(T:Addr)(H:Hp)(v:V)(t:Str):Prop:=∃ch cs ow,gG T H v ch cs ow/\gu xs ps t ch cs ow
theorem uI.same{H':Hp}(s:ac H H'){t:Str}(h:uI xs ps T H v t):uI xs ps T H' v t:=h.elim λch G=>G.elim λcs j=>j.elim λow z=>z.elim λa b=>⟨ch,cs,ow,a.same s,b⟩
end
section
variable {H H':Hp}
seal PE PS bW PA PT PW PG eY PI eS
structure Dk(D x dx d b g:Addr)(fs:Tr)(bk:Bk)(H:Hp):Prop where
 ob:H x=some (.ins D dx (b8 d b .non))
 fi:∃kd,H d=some (.dK kd)/\Paired (Lu g H) kd fs
 bo:∃tb,H b=some (.lst tb)/\Paired (dP H) tb bk
 nd:(fs.map (·.1)).Nodup
 ok:bU fs
 bz:bk=[]->fs=[]
 bt:uF bk
 go:∃o,H g=some o
theorem Dk.keep{fs:Tr}{bk:Bk}(h:Dk D x dx d b g fs bk H)(k:∀q o,H q=some o->(∀φ,o≠.ext φ)->H' q=some o)(kg:∃o,H' g=some o):Dk D x dx d b g fs bk H':=by
 obtain⟨kd,d1,d2⟩:=h.fi;obtain⟨tb,b1,b2⟩:=h.bo;exact⟨k _ _ h.ob (by intro φ z;cases z),⟨kd,k _ _ d1 (by intro φ z;cases z),aq d2 λ_ _ J=>J.elim λj O=>O.elim λl U=>U.elim λG Y=>Y.elim λn z3=>⟨j,l,G,n,k _ _ z3 (by intro φ z;cases z)⟩⟩,⟨tb,k _ _ b1 (by intro φ z;cases z),aq b2 λ_ _ a0=>a0.elim λt a1=>a1.elim λj G=>⟨t,j,k _ _ G (by intro φ z;cases z)⟩⟩,h.nd,h.ok,h.bz,h.bt,kg⟩
theorem Dk.same{fs:Tr}{bk:Bk}(h:Dk D x dx d b g fs bk H)(s:ac H H'):Dk D x dx d b g fs bk H':=h.keep (λq o e _=>s q o e) (h.go.elim λo e=>⟨o,s _ _ e⟩)
def cz(x d b Pt:Addr)(H H':Hp):Prop:=∀q o,H q=some o->q≠x->q≠d->q≠b->q≠Pt->H' q=some o
theorem cz.trans{H1 H2:Hp}(a:cz x d b Pt H H1)(c:cz x d b Pt H1 H2):cz x d b Pt H H2:=λq o e n1 n2 n3 j=>c q o (a q o e n1 n2 n3 j) n1 n2 n3 j
theorem cz.of(s:ac H H'):cz x d b Pt H H':=λq o e _ _ _ _=>s q o e
theorem cz.ofT(s:jo Pt H H'):cz x d b Pt H H':=λq o e _ _ _ n=>s q o e n
theorem cz.msk(k:cz x d b Pt H H'):ac (msk [x,d,b,Pt] H) (msk [x,d,b,Pt] H'):=λq o e=>by
 have n:q∉[x,d,b,Pt]:=λz=>by unfold K73.msk at e;rw[am z]at e;cases e
 have j:=aQ q o e;simp only[bf,ft,fw,ny]at n;exact cj (by simp[n]) (k q o j n.1 n.2.1 n.2.2.1 n.2.2.2)
theorem Dk.keepT{fs:Tr}{bk:Bk}{lp:Pos}{qu:Str}(h:Dk D x dx d b g fs bk H)(t:aH H Pt lp qu)(t':aH H' Pt lp qu)(k:jo Pt H H'):Dk D x dx d b g fs bk H':=by
 refine h.keep (λq o e n=>k _ _ e (aH.ne t e n)) ?_;obtain⟨o,e⟩:=h.go
 by_cases z:g=Pt
 . obtain⟨φ,w⟩:=aH.at t';exact⟨_,z▸w⟩
 exact⟨o,k _ _ e z⟩
theorem SN{tb:ae}{bk:Bk}{ls:Ls}(J:H b=some (.lst tb))(G:Paired (dP H) tb bk)(n:bk≠[]\/ls≠[])(j:H l=some (.lst (ls.map V.str))):l≠b:=λe=>by
 rw[e,J]at j;injection j with j
 injection j with j
 subst j;cases ls with
 | nil=>
  cases G
  rcases n with z | z<;>exact z rfl
 | cons y ls=>
  cases G with
  | cons r t=>
   obtain⟨t,z,_⟩:=r;cases z
theorem aH.kp{lp:Pos}{qu:Str}(h:aH H Pt lp qu)(k:∀q φ,H q=some (.ext φ)->H' q=some (.ext φ)):aH H' Pt lp qu:=by
 rcases h with z | ⟨c',j,G⟩
 . exact .inl (k _ _ z)
 exact .inr ⟨c',k _ _ j,k _ _ G⟩
theorem SO{d:Addr}{o':HO}(h:∃o,H g=some o)(hd:H' d=some o')(k:∀p o,H p=some o->p≠d->H' p=some o):∃o,H' g=some o:=by
 obtain⟨o,e⟩:=h
 by_cases z:g=d
 . exact⟨o',z▸hd⟩
 exact⟨o,k _ _ e z⟩
inductive SQ (D:Addr):Sp where
 | mk {H:Hp}{Q:VK}{E:XK}{x dx d b g t:Addr}{fs:Tr}{bk:Bk}{j:List (ao×V)}{tr:Tr} (_:Dk D x dx d b g fs bk H) (_:bk≠[]) (_:H t=some (.dK j)) (_:d≠t) (_:Paired (aY H) j tr) (_:(tr.map (·.1)).Nodup) (_:bU tr) (_:oN fs tr) (_:∀eL H',Dk D x dx d b g eL bk H'->look eL=look tr->eL.length=tr.length->(∀p o,H p=some o->p≠d->H' p=some o)->Q .non H'):SQ D [.ref x,.ref t] H Q E
theorem SR{k:Nat}(G:aw P w K mg base aI k f fd [asv,asM] (Hq D)):aw P w K mg base aI k f fd [asv,asM] (SQ D):=by
 refine G.imp λvs H Q E h=>?_;obtain @⟨_,_,_,x,dx,d,b,g,t,fs,bk,kt,tr,j,bn,ht,dt,pt,J,O,Y,q⟩:=h;obtain⟨kd,d1,d2⟩:=id j.fi;obtain⟨tb,b1,b2⟩:=id j.bo;refine⟨j.ob,d1,ht,dt,d2,pt,j.nd,J,j.ok,O,Y,j.go,λus H' U T=>?_⟩;have nd:=RA (tr:=tr) (ps:=us) j.nd;obtain⟨SS,e1,e2⟩:=id T.hd;have k:∀{q:Addr}{o:HO},H q=some o->(∀k,o≠.dK k)->H' q=some o:=λe n=>T.kp _ _ e (aU e d1 (n _));exact q _ H' ⟨k j.ob (by intro _ z;cases z),T.hd,⟨tb,k b1 (by intro _ z;cases z),aq b2 λ_ _ a0=>a0.elim λt' a1=>a1.elim λz1 z2=>⟨t',z1,k z2 (by intro _ z;cases z)⟩⟩,nd,RC O j.ok,λz=>absurd z bn,j.bt,SO j.go e1 T.kp⟩ (funext λk=>U.all k) (ajV nd J λk=>U.all k) T.kp
inductive SU (D:Addr):Sp where
 | mk {H:Hp}{Q:VK}{E:XK}{x dx d b g:Addr}{fs:Tr}{bk:Bk}{y z:Str} (_:Dk D x dx d b g fs bk H) (_:bk.length<=400) (_:fk y) (_:fk z) (_:∀H',Dk D x dx d b g fs (bk++[(y,z)]) H'->(∀p o,H p=some o->p≠b->H' p=some o)->Q .non H'):SU D [.ref x,.str y,.str z] H Q E
theorem Ik{k:Nat}(G:aw P w K mg base aI k f fd [aso,atd,asC] (Hf D)):aw P w K mg base aI k f fd [aso,atd,asC] (SU D):=by
 refine G.imp λvs H Q E h=>?_;obtain @⟨_,_,_,x,dx,d,b,g,fs,bk,y,z,j,l4,oy,oz,q⟩:=h;obtain⟨kd,d1,d2⟩:=id j.fi;obtain⟨tb,J,O⟩:=id j.bo;have pl:=bD O;refine⟨j.ob,J,by omega,λt H' ki vV kp=>?_⟩;have k:∀{q:Addr}{o:HO},H q=some o->(∀k,o≠.lst k)->H' q=some o:=λe n=>kp _ _ e (aU e J (n _));refine q H' ⟨k j.ob (by intro _ z;cases z),⟨kd,k d1 (by intro _ z;cases z),?_⟩,⟨_,ki,iD ⟨t,rfl,vV⟩ (aq O λ_ _ a0=>a0.elim λt' a1=>a1.elim λU Y=>⟨t',U,k Y (by intro _ z;cases z)⟩)⟩,j.nd,j.ok,λz=>by simp at z,?_,SO j.go ki kp⟩ kp
 . by_cases bn:bk=[]
   . have f0:=j.bz bn;subst f0;cases d2;exact .nil
   exact aq d2 λkv f a2=>a2.elim λU a3=>a3.elim λl a4=>a4.elim λY a5=>a5.elim λn z3=>⟨U,l,Y,n,kp _ _ z3 (SN J O (.inl bn) z3)⟩
 intro e he
 rcases bY.mp he with z | z
 . exact j.bt e z
 rw[bF.mp z];exact⟨oy,oz⟩
inductive SV (D:Addr):Sp where
 | mk {H:Hp}{Q:VK}{E:XK}{x dx d b g t:Addr}{fs:Tr}{bk:Bk}{j:List (ao×V)}{tr:Tr} (_:Dk D x dx d b g fs bk H) (_:bk≠[]) (_:bk.length<=400) (_:H t=some (.dK j)) (_:d≠t) (_:Paired (aY H) j tr) (_:(tr.map (·.1)).Nodup) (_:bU tr) (_:oN fs tr) (_:∀eL H',Dk D x dx d b g eL (bk++[qi]) H'->look eL=look tr->eL.length=tr.length->(∀p o,H p=some o->p≠d->p≠b->H' p=some o)->Q .non H'):SV D [.ref x,.ref t] H Q E
theorem amg:aP [asv,asM] [asv,asM] (aA O8):=aV
theorem amh(j:Pg K mg base Pt):aw P w K mg base aI 4 j.Fin.f j.Fin.fd [asv,asM] (SV j.D):=by
 refine j.Fin.u.okL amg ?_;intro av A outer s H vs Q E G h xX dX;obtain @⟨_,_,_,x,dx,d,b,g,t,fs,bk,kt,tr,hD,Y,l4,ht,dt,pt,nt,ot,J,q⟩:=h;refine⟨_,(ai (bB (ay (SR (RL j)) G rfl (aL (pv 0) (pv 1))))
  (aj (bB (gz (pv 0) j.UD.cl j.DNt.mt (up (Ik (Hg j))) G j.DNt.b .nil bJ (aL bT bT))))),?_⟩
 refine⟨hD,Y,ht,dt,pt,nt,ot,J,λeL H1 z lk el kp=>?_⟩;exact⟨z.ob,rfl,z,l4,(by decide +kernel),(by decide +kernel),λH2 yN a0=>q eL H2 yN lk el λp o e O U=>a0 p o (kp p o e O) U⟩
end
section
variable {H:Hp}{qu:Str}
seal PE PS bW PA PT PW PG eY PI eS
theorem jo.msk{H':Hp}(k:jo Pt H H'):ac (msk [Pt] H) (msk [Pt] H'):=λq o e=>by
 have n:q∉[Pt]:=λz=>by unfold K73.msk at e;rw[am z]at e;cases e
 exact cj n (k q o (aQ q o e) (by simpa using n))
theorem off{o:HO}{lp:Pos}(t:aH H Pt lp qu)(e:H q=some o)(n:∀φ,o≠.ext φ):msk [Pt] H q=some o:=cj (by simpa using aH.ne t e n) e
theorem dj.off{ch:Ch}{lp:Pos}(t:aH H Pt lp qu)(h:dj H c ch):dj (msk [Pt] H) c ch:=by
 obtain⟨kvs,h1,h2⟩:=h;exact⟨kvs,K73.off t h1 (by intro φ z;cases z),aq h2 λ_ _ j=>j.elim λa G=>G.elim λm J=>J.elim λb c=>⟨a,m,b,K73.off t c (by intro φ z;cases z)⟩⟩
theorem Il{Pt:Addr}{H':Hp}{lp:Pos}(s:ac (msk [Pt] H) (msk [Pt] H'))(t:aH H' Pt lp qu)(n:H' q=none):H q=none:=by
 cases e:H q with
 | none=>rfl
 | some o=>
  have j:q≠Pt:=λz=>by
   obtain⟨φ,w⟩:=aH.at t;rw[z,w]at n;cases n
  have:=aQ _ _ (s q o (cj (by simpa using j) e));rw[n]at this;cases this
theorem m9.okO{ch:Ch}{cs:Cs}{ow:Ow}(h:m9 ch cs ow):Hz ow:=λe z=>by
 obtain⟨a,b,c⟩:=h.ok.ow e z;obtain⟨d,f⟩:=h.ln e z;exact⟨by have:=a.len;omega,⟨by omega,λx j=>(b x j).ln⟩,⟨by omega,λx j=>(c x j).ln⟩⟩
def zc(H R:Hp)(v:V)(e:Str×Tr):Prop:=∃j g t kvs,v=.ref j/\H j=none/\R j=some (.tup [.ref g,.ref t])/\R g=some (.lst [.str e.1])/\cJ e.1/\H t=none/\R t=some (.dK kvs)/\Paired (dw H R) kvs e.2/\(e.2.map (·.1)).Nodup/\e.2.length<=24/\bU e.2
theorem zc.kp{R j:Hp}(k:∀b o,R b=some o->(∀φ,o≠.ext φ)->j b=some o){v:V}{e:Str×Tr}(h:zc H R v e):zc H j v e:=by
 obtain⟨tp,g,t,kvs,h1,h2,Y,h4,h5,h6,h7,h8,h9⟩:=h;exact⟨tp,g,t,kvs,h1,h2,k _ _ Y (by intro φ z;cases z),k _ _ h4 (by intro φ z;cases z),h5,h6,k _ _ h7 (by intro φ z;cases z),aq h8 λ_ _ G=>G.elim λz1 J=>J.elim λl O=>O.elim λz2 U=>U.elim λz3 z4=>⟨z1,l,z2,z3,k _ _ z4 (by intro φ z;cases z)⟩,h9⟩
inductive SX (C S T Pt:Addr):Sp where
 | mk {H:Hp}{Q:VK}{E:XK}{z j:V}{a:Addr}{xs:ae}{ps:Lp}{ns:Ls}{now ch:Ch}{cs:Cs}{ow:Ow} (_:kF C S (msk [Pt] H) z xs ps ns) (_:dj (msk [Pt] H) a now) (_:fe xs ps now) (_:gG T (msk [Pt] H) j ch cs ow) (_:iJ xs ps ch cs ow) (_:aH H Pt cW cR) (_:∀l zs es H',H l=none->jo Pt H H'->aH H' Pt cW cR->H' l=some (.lst zs)->Paired (zc H (msk [l] H')) zs es->es.length<=8->Q (.ref l) H'):SX C S T Pt [z,.ref a,j] H Q E
theorem zd:aP [asp,as1,asH,"steps","reached",as3] [asp,as1,asH] (aA Pa):=aV
theorem amq(j:Pg K mg base Pt):aw P w K mg base aI 7 j.StT.f j.StT.fd [asp,as1,asH] (SX j.C j.S j.T Pt):=by
 refine j.StT.u.okL zd ?_;intro av A outer s H vs Q E hr h xX dX;obtain @⟨_,_,_,sv,gv,a,xs,ps,ns,now,ch,cs,ow,G,hA,cA,hG,iK,a9,q⟩:=h;refine⟨_,(ai (aM (i:=3) zd.nd rfl (Or.inl rfl) (df dG))
  (ai (aM (i:=4) zd.nd rfl (Or.inl rfl) (pv 1))
  (ai (eO dQ rfl (cG (ay (alA j) hr rfl (dg (pv 0) (pv 1) (bG (pv 2) rfl)))) (be (i:=5) zd.nd rfl (Or.inl rfl))
  (ai (aM (i:=4) zd.nd rfl (Or.inl rfl) (ay (Ie j) hr rfl (dg (pv 4) (bG (pv 2) rfl) (pv 5))))
   (aj (bB (db gZ qA qB mx (pv 3) (al (eT (aL (pv 5) (ay (yT j) hr rfl (aL (pv 0) (tu j.MTIn (up (BM j)) hr rfl j.UT.mgC j.TIn.b .nil bJ (dg (pv 4) (bG (pv 2) rfl) (bG (pv 2) rfl)))))))))))))
  (aj (aX (pv 3)))))),?_⟩
 refine lG ?_;intro dD sS u4 u3 u2;obtain⟨ga,a',aE,c,h,o,rfl,t1,t2,t3,t4,t5,t6,t7⟩:=id hG;have cB:fe xs ps ch:=⟨iK.ok.d1,iK.va⟩;refine⟨AQ,λp1 H1 n1 s1 e1=>?_⟩;refine⟨?_⟩;have m1:=gP (L:=[Pt]) s1;refine⟨s1 _ _ (aQ _ _ t1),j.UT.cl,j.UT.nC,t2,?_⟩;refine⟨G.same (aQ.trans s1),hA.same (aQ.trans s1),t5.same (aQ.trans s1),cA,cB,λl zg us H2 n2 s2 e2 U pr=>⟨⟨_,aa.of e2⟩,?_⟩⟩;have m2:=m1.trans (gP (L:=[Pt]) s2);have ni:=(a9.same s1).same s2;have nl:=cA.len G.ap G.n4;have gl:=cB.len G.ap G.n4;have ul:=U.len;have SY:H p1=none:=n1;have ax:∀z∈us,cJ z:=λz hz=>by
  have cU:=(U.mem z).mp hz;have a0:∀{c:Ch},fe xs ps c->z∈c.map (·.1)->cJ z:=λk hz=>by
   obtain⟨e,he,rfl⟩:=ca.mp hz;obtain⟨v,p,hi,e1,_⟩:=k.va e he;exact e1▸G.nm _ (G.ap.nms p (HZ hi))
  by_cases z1:z∈now.map (·.1)
  . exact a0 cA z1
  by_cases z2:z∈ch.map (·.1)
  . exact a0 cB z2
  exact absurd ((fO.mpr z1).trans (fO.mpr z2).symm) cU
 have aG:=bD pr;refine hJ (xs:=zg) (λi Z H3=>∃u re zs es,Z=[some sv,some (.ref a),some (.ref ga),some (.ref p1),some (.ref re),u]/\ac (msk [Pt] H) (msk [Pt] H3)/\aH H3 Pt cW cR/\H3 l=some (.lst zg)/\Paired (iI [l] H3) zg us/\H3 p1=some (.lst zs)/\Paired (zc H (msk [p1] H3)) zs es/\es.length=i/\dj (msk [Pt] H3) re ((us.take i).foldl (aZ ch) now))
  ⟨none,a,[],[],rfl,m2,ni,e2,pr,s2 _ _ e1,.nil,rfl,hA.same m2⟩ ?_ ?_ ?_
 . rintro i Z H3 hi ⟨u,re,zs,es,rfl,_,_,e3,_⟩;exact aa.of e3
 . intro i z Z H3 hz hQ;refine bq ?_;intro tT;obtain⟨u,re,zs,es,rfl,m3,jP,Ta,ky,wt,wu,il,c3⟩:=hQ;obtain⟨n,hn,g,rfl,aF,Y⟩:=fc ky hz;have aT:=(cM.mp hn).1;have k3:fe xs ps ((us.take i).foldl (aZ ch) now):=cB.steps cA;have az:=k3.len G.ap G.n4;have G3:=hG.same m3;have zl:=bD wu;have gp:g≠p1:=λz=>by
    rw[z,wt]at Y;injection Y with Y
    injection Y with Y
    subst Y;cases wu with
    | cons r t=>obtain⟨_,_,_,_,z,_⟩:=r;cases z
   refine⟨aQ _ _ (m3 _ _ t1),j.UT.cl,j.UT.nC,t2,⟨?_⟩⟩;refine⟨c3.same aQ,(t5.same m3).same aQ,k3.nd,cB.nd,Y,by omega,λr H4 n4 s4 c4=>?_⟩;have m4:=m3.trans (gP (L:=[Pt]) s4);have jQ:=jP.same s4;have st:aZ ch ((us.take i).foldl (aZ ch) now) n=(us.take (i+1)).foldl (aZ ch) now:=by rw[lR hn,oZ];rfl
   rw[st]at c4;have k4:fe xs ps ((us.take (i+1)).foldl (aZ ch) now):=cB.steps cA;have Tb:=s4 _ _ wt;refine⟨.inl ⟨rfl,_,aa.of Tb⟩,aQ _ _ (m4 _ _ t1),j.UT.cl,j.UT.nH,t3,aQ _ _ (m4 _ _ t1),j.UT.cl,j.UT.nO,t4,?_⟩;refine BN (T:=j.T) c4 ((t6.same m4).same aQ) ((t7.same m4).same aQ) iK.ok.d3 (by have:=iK.o2;omega) λx H5 n5 s5 eM=>?_;have m5:=m4.trans (gP (L:=[Pt]) s5);have i7:=jQ.same s5;have W5:=(G.same m5).same aQ;have Tc:=eM [] (λb hb=>nomatch hb);rw[uh]at Tc;refine⟨W5.sh,W5.pc,W5.pcok,G.n4,Tc,k4.va,k4.len G.ap G.n4,iK.o2,iK.ok.okO,λe he=>(iK.ok.ok.cs e he).2.ln,i7,λt H6 kvs tr n6 kT rN e6 qk gJ jt fL _=>?_⟩;refine⟨Ah,λtp H7 n7 s7 e7=>?_⟩;have m6:=m5.trans (jo.msk kT);have m7:=m6.trans (gP (L:=[Pt]) s7);have wv:=rN.same s7;have go:∀{b:Addr}{o:HO},H3 b=some o->(∀φ,o≠.ext φ)->H7 b=some o:=λe ne=>s7 _ _ (kT _ _ (s5 _ _ (s4 _ _ e)) (aH.ne i7 (s5 _ _ (s4 _ _ e)) ne));have Td:∀{b:Addr}{o:HO},H5 b=some o->(∀φ,o≠.ext φ)->H7 b=some o:=λe ne=>s7 _ _ (kT _ _ e (aH.ne i7 e ne));have CJ:=go wt (by intro φ z;cases z);have CK:=s5 _ _ Tb;have lp:l≠p1:=(aO e1 n2).symm;refine⟨CJ,bQ (by omega),?_⟩;have hu:∀{b:Addr}{o o':HO},H7 b=some o->b≠p1->ag H7 p1 o' b=some o:=λe ne=>aC e ne;have ab:tp≠p1:=λz=>by rw[z,kT _ _ CK (aH.ne i7 CK (by intro φ z;cases z))]at n7;cases n7
   have a8:t≠p1:=λz=>by rw[z,CK]at n6;cases n6
   refine⟨_,r,zs++[.ref tp],es++[(n,tr)],rfl,?_,?_,hu (go Ta (by intro φ z;cases z)) lp,aq ky λ_ _ yy=>?_,aD,?_,by rw[bI,il];rfl,?_⟩
   . refine λb ob O=>?_;have:=m7 b ob O;have nb:b∉[Pt]:=λz=>by unfold K73.msk at this;rw[am z]at this;cases this
     exact cj nb (hu (aQ _ _ this) λz=>by have:=aQ _ _ O;rw[z,SY]at this;cases this)
   . exact K73.aH.kp wv λb φ e=>hu e (aU e CJ (by intro z;cases z))
   . obtain⟨l',y1,y2,J⟩:=yy;refine⟨l',y1,y2,hu (go J (by intro φ z;cases z)) λz=>?_⟩;rw[z,wt]at J;injection J with J
     injection J with J
     subst J;cases wu with
     | cons r t=>obtain⟨_,_,_,_,z,_⟩:=r;cases z
   . rw[q5 bH];refine iD ?_ (aq wu λ_ _ z=>z.kp λb ob O ne=>?_)
     . have q1:∀{b:Addr}{o:HO},H7 b=some o->b≠p1->msk [p1] H7 b=some o:=λe ne=>cj (by simpa using ne) e;refine⟨tp,g,t,kvs,rfl,Il m6 rN n7,q1 e7 ab,q1 (go Y (by intro φ z;cases z)) gp,ax n (da hn),Il m5 i7 n6,q1 (s7 _ _ e6) a8,aq qk λ_ _ a2=>a2.elim λy1 a3=>a3.elim λl' a4=>a4.elim λy2 a5=>a5.elim λJ y4=>⟨y1,l',y2,Il m5 i7 J,q1 (s7 _ _ y4) λz=>by rw[z,CK]at J;cases J⟩,gJ,jt,fL⟩
     have nb:b∉[p1]:=λz=>by unfold K73.msk at O;rw[am z]at O;cases O
     exact cj nb (go (aQ _ _ O) ne)
   have c7:dj H7 r ((us.take (i+1)).foldl (aZ ch) now):=by
    obtain⟨kr,r1,r2⟩:=c4.same s5;exact⟨kr,Td r1 (by intro φ z;cases z),aq r2 λ_ _ a6=>a6.elim λa a7=>a7.elim λm a1=>a1.elim λb c=>⟨a,m,b,Td c (by intro φ z;cases z)⟩⟩
   refine dj.off (K73.aH.kp wv λb φ e=>hu e (aU e CJ (by intro z;cases z))) (dj.mut CJ c7)
 rintro Z H3 ⟨u,re,zs,es,rfl,m3,jP,Ta,ky,wt,wu,il,c3⟩;refine⟨q p1 zs es H3 SY (λb ob O nb=>aQ _ _ (m3 b ob (cj (by simpa using nb) O))) jP wt wu (by omega)⟩
end
section
variable {xs:ae}{ps:Lp}{ch:Ch}{cs:Cs}{ow:Ow}
seal PE PS bW PA PT PW PG eY PI eS
def CL:Str:="step"
def iL(st:Ls):Bk:=st.map λz=>(CL,z)
theorem gu.txt{t:Str}(h:gu xs ps t ch cs ow):fk t:=by
 rw[h.tx,<-ug];refine EG (by decide +kernel) λr G=>?_;have l:∀{ys:Ls},(∀y∈ys,fk y)->fk (Str.join spS ys):=λh=>by rw[<-ug];exact EG (by decide +kernel) h
 rcases F0 h.so.ok.ok G with⟨e,a,b,rfl⟩ | ⟨e,a,b,rfl⟩ | ⟨p,a,rfl⟩ | ⟨x,a,rfl⟩ | ⟨x,a,rfl⟩
 . refine l λy j=>?_;simp only[bf,ft,fw]at j
   rcases j with rfl | rfl | rfl
   . decide +kernel
   . exact a.ok
   exact vi.mpr λc z=>by have:=b.signs c z;omega
 . refine l λy j=>?_;simp only[bf,ft,fw]at j
   rcases j with rfl | rfl | rfl
   . decide +kernel
   . exact a.ok
   exact b.ok
 . refine l λy j=>?_;simp only[bf,ft,fw]at j
   rcases j with rfl | rfl
   . decide +kernel
   exact a.ln.ok
 . exact vj (by decide +kernel) a.ln.ok
 exact vj (by decide +kernel) a.ln.ok
def ww(xs:ae)(ps:Lp)(ch:Ch)(cs:Cs)(ow:Ow)(t:Str):Prop:=∃ch' cs' ow',cV ch ch'/\cV cs cs'/\cV ow ow'/\gu xs ps t ch' cs' ow'
theorem ww.ok{t:Str}(h:ww xs ps ch cs ow t):∃ch cs ow,gu xs ps t ch cs ow:=h.elim λa j=>j.elim λb z=>z.elim λc G=>G.elim λ_ J=>J.elim λ_ O=>O.elim λ_ h=>⟨a,b,c,h⟩
def zf(xs:ae)(ps:Lp)(t:Str)(fs:Tr):Prop:=∃ch cs ow tr,ww xs ps ch cs ow t/\iJ xs ps ch cs ow/\ju ps ch cs ow tr/\look fs=look tr
theorem iJ.pt(h:iJ xs ps ch cs ow):∀e∈ow,dC e.1:=λe j=>(h.ok.ok.ow e j).1
theorem zf.look{ns:Ls}{t:Str}{fs tr:Tr}(h:zf xs ps t fs)(z:Apart ns ps)(k:gu xs ps t ch cs ow)(g:ju ps ch cs ow tr):K73.look fs=K73.look tr:=by
 obtain⟨a,b,c,jv,⟨a',b',c',O,U,Y,G⟩,j,J,e⟩:=h;obtain⟨rfl,rfl,rfl⟩:=G.uniq k;rw[e];exact HQ z O.pm.symm U.pm.symm Y.pm.symm j.ok.d1 j.ok.d2 j.ok.d3 j.pt J g
def CM(R:Hp)(v:V)(e:Str×Tr):Prop:=∃j g t kvs,v=.ref j/\R j=some (.tup [.ref g,.ref t])/\R g=some (.lst [.str e.1])/\cJ e.1/\R t=some (.dK kvs)/\Paired (aY R) kvs e.2/\(e.2.map (·.1)).Nodup/\e.2.length<=24/\bU e.2
theorem CM.same{R j:Hp}(s:ac R j){v:V}{e:Str×Tr}(h:CM R v e):CM j v e:=by
 obtain⟨Y,g,t,kvs,h1,h2,z,G,J,O,U⟩:=h;exact⟨Y,g,t,kvs,h1,s _ _ h2,s _ _ z,G,s _ _ J,aq O λ_ _=>aY.same s,U⟩
theorem Dk.busy{fs:Tr}{bk:Bk}{H:Hp}{lp:Pos}{qu:Str}(h:Dk D x dx d b g fs bk H)(t:aH H Pt lp qu):gD H [x,d,b,Pt]:=λq j=>by
 obtain⟨J,d1,_⟩:=h.fi;obtain⟨tb,G,_⟩:=h.bo;obtain⟨φ,w⟩:=aH.at t;simp only[bf,ft,fw]at j
 rcases j with rfl | rfl | rfl | rfl
 . exact⟨_,h.ob,by intro vs z;cases z⟩
 . exact⟨_,d1,by intro vs z;cases z⟩
 . exact⟨_,G,by intro vs z;cases z⟩
 exact⟨_,w,by intro vs z;cases z⟩
theorem aH.kx{fs:Tr}{bk:Bk}{H H':Hp}{lp:Pos}{qu:Str}(h:Dk D x dx d b g fs bk H)(t:aH H Pt lp qu)(k:∀p o,H p=some o->p≠x->p≠d->p≠b->H' p=some o):aH H' Pt lp qu:=by
 obtain⟨G,d1,_⟩:=h.fi;obtain⟨tb,j,_⟩:=h.bo;exact K73.aH.kp t λq φ e=>k _ _ e (aU e h.ob (by intro z;cases z)) (aU e d1 (by intro z;cases z)) (aU e j (by intro z;cases z))
inductive Im (C S T D Pt:Addr):Sp where
 | mk {H:Hp}{Q:VK}{E:XK}{z j:V}{x dx d b g:Addr}{fs:Tr}{bk:Bk}{xs:ae}{ps:Lp}{ns:Ls}{ch:Ch}{cs:Cs}{ow:Ow} (_:kF C S (msk [x,d,b,Pt] H) z xs ps ns) (_:gG T (msk [x,d,b,Pt] H) j ch cs ow) (_:iJ xs ps ch cs ow) (_:Dk D x dx d b g fs bk H) (_:fs.length<=24) (_:bk.length<=300) (_:qj xs ps (Str.empty::de bk)) (_:aH H Pt cW cR) (_:(∀t H',ww xs ps ch cs ow t->(Str.empty::de bk).getLast?=some t->Dk D x dx d b g fs bk H'->cz x d b Pt H H'->aH H' Pt cW cR->Q .non H')) (_:∀t eL st H',ww xs ps ch cs ow t->Dk D x dx d b g eL (bk++(ik,t)::iL st++[qi]) H'->eL.length<=24->zf xs ps t eL->st.length<=8->cz x d b Pt H H'->aH H' Pt cW cR->Q .non H'):Im C S T D Pt [z,.ref x,j] H Q E
theorem oP:aP [asp,asv,asH,asO,asC,"steps",asM,as3,"between"] [asp,asv,asH] (aA O9):=aV
theorem amG(j:Pg K mg base Pt):aw P w K mg base aI 8 j.DoD.f j.DoD.fd [asp,asv,asH] (Im j.C j.S j.T j.D Pt):=by
 refine j.DoD.u.okL oP ?_;intro av A outer s H vs Q E G h xX dX;obtain @⟨_,_,_,sv,gv,x,dx,d,b,g0,fs,bk,xs,ps,ns,ch,cs,ow,hW,hG,J,hD,jt,bd,tok,a0,q1,q2⟩:=h;refine⟨_,(ai (aM (i:=3) oP.nd rfl (Or.inl rfl) (ay (Ii j) G rfl (al (pv 1))))
  (ai (aM (i:=4) oP.nd rfl (Or.inl rfl) (ay (BQ j) G rfl (al (pv 2))))
  (ai (bN (bL fV (ay (BQ j) G rfl (al (pv 3))) (pv 4) (bC _))
  (aj Ak) cD)
  (ai (aM (i:=5) oP.nd rfl (Or.inl rfl) (ay (amq j) G rfl (dg (pv 0) (bG (pv 3) rfl) (pv 2))))
  (ai (aM (i:=6) oP.nd rfl (Or.inl rfl) (ay (yT j) G rfl (aL (pv 0) (pv 2))))
  (ai (bB (gz (pv 1) j.UD.cl j.DNt.mt (up (Ik (Hg j))) G j.DNt.b .nil bJ (aL bT (pv 4))))
  (ai (eO dQ rfl (cG (pv 5)) (nJ rfl (fR (be (i:=7) oP.nd rfl (Or.inl rfl)) (fR (be (i:=8) oP.nd rfl (Or.inl rfl)) mq)))
  (ai (bB (ay (SR (RL j)) G rfl (aL (pv 1) (pv 8))))
   (aj (bB (gz (pv 1) j.UD.cl j.DNt.mt (up (Ik (Hg j))) G j.DNt.b .nil bJ (aL bT (db me wV wW vo bT (al (pv 7)))))))))
  (aj (bB (ay (amh j) G rfl (aL (pv 1) (pv 6)))))))))))),?_⟩
 refine Ms ?_;intro dD sS u8 u7 u6 u5 u4 u3 u2;obtain⟨tb,b1,b2⟩:=id hD.bo;obtain⟨t0,Io⟩:∃t0,(Str.empty::de bk).getLast?=some t0:=⟨_,List.getLast?_eq_getLast (Dt _ _)⟩;obtain⟨Iq,Ir,Iu,CN⟩:=tok t0 (List.mem_of_getLast? Io);have ax:gD H [Pt]:=λq hq=>(hD.busy a0) q (by rw[bF.mp hq];simp);refine⟨hD.ob,b1,b2,by omega,Io,CN,λv0 H1 s1 ie=>?_⟩;refine⟨?_⟩;dsimp only[dY,uP,Aa];refine J.sho ((hG.same aQ).same s1) λt ch' cs' ow' H2 r1 r2 r3 hT s2=>?_;have hg:ww xs ps ch cs ow t:=⟨ch',cs',ow',r1,r2,r3,hT⟩;have Te:=ie [Pt] ax;obtain⟨va,Iw,Ix,c0,h0,o0,rfl,w1,w2,w3,w4,w5,w6,w7⟩:=id Te;refine⟨?_⟩;dsimp only[dY,uP,Aa];refine CN.sho ((Te.same aQ).same s2) λH3 s3=>⟨rfl,⟨?_⟩⟩;have gT:=s2.trans s3;have nj:=s1.trans gT;refine bv (λh=>?_) (λh=>?_)
 . have e:=cT h;injection e with e
   exact q1 t H3 hg (e▸Io) (hD.same nj) (.of nj) (a0.same nj)
 have m3:=gP (L:=[Pt]) nj;have less:∀{Hx:Hp},ac (msk [x,d,b,Pt] Hx) (msk [Pt] Hx):=FM (by simp);have jP:=a0.same nj;have Tf:=hD.same nj;refine⟨gT _ _ (aQ _ _ w1),j.UT.cl,j.UT.nC,w2,⟨?_⟩⟩;refine⟨(hW.same less).same m3,w5.same (gP gT),⟨CN.so.ok.d1,CN.so.va⟩,(hG.same less).same m3,J,jP,λl zs es U nl kT jQ el bb e8=>?_⟩;have b5:cz x d b Pt H3 U:=.ofT kT;have Iy:cz x d b Pt H U:=(cz.of nj).trans b5;have rW:=Tf.keepT jP jQ kT;have W4:=(hW.same Iy.msk).same aQ;have G4:=(hG.same Iy.msk).same aQ;have cB:fe xs ps ch:=⟨J.ok.d1,J.va⟩;refine⟨W4.sh,W4.pc,W4.pcok,W4.n4,G4,J.va,cB.len W4.ap W4.n4,J.o2,J.ok.okO,λe he=>(J.ok.ok.cs e he).2.ln,jQ,λt5 H5 kvs tr n5 Tg i7 e5 qk gJ lT fL iM=>?_⟩;have Th:cz x d b Pt U H5:=.ofT Tg;have b4:=Iy.trans Th;have rH:=rW.keepT jQ i7 Tg;have az:=Tf.busy jP;have a1:=rW.busy jQ;have nb:∀{q:Addr},H3 q=none->q∉[x,d,b,Pt]:=λe=>az.free e;have R4:∀{q:Addr}{o:HO},U q=some o->H3 q=none->msk [x,d,b,Pt] U q=some o:=λe n=>cj (nb n) e;obtain⟨bm,c1,c2⟩:=id rW.bo;obtain⟨bl,c3,_⟩:=id rW.fi;have vU:Paired (CM (msk [x,d,b,Pt] U)) zs es:=aq bb λv e z=>by
  obtain⟨tp,g,tt,kk,z1,z2,z3,z4,z5,z6,z7,z8,z9⟩:=z;have O:=aQ _ _ z4;obtain⟨φ,wφ⟩:=aH.at jQ;have gn:g∉[x,d,b,Pt]:=λm=>by
   simp only[bf,ft,fw]at m
   rcases m with m | m | m | m
   . rw[m,rW.ob]at O;cases O
   . rw[m,c3]at O;cases O
   . exact SN (ls:=[e.1]) c1 c2 (.inr (by simp)) O m
   rw[m,wφ]at O;cases O
  exact⟨tp,g,tt,kk,z1,R4 (aQ _ _ z3) z2,cj gn O,z5,R4 (aQ _ _ z7) z6,aq z8 λ_ _ a3=>a3.elim λy1 a4=>a4.elim λl' a5=>a5.elim λy2 a6=>a6.elim λy3 y4=>⟨y1,l',y2,R4 (aQ _ _ y4) y3⟩,z9⟩
 have l4:msk [x,d,b,Pt] U l=some (.lst zs):=R4 el nl;have Ti:t5∉[x,d,b,Pt]:=a1.free n5;have fN:Paired (aY (msk [x,d,b,Pt] H5)) kvs tr:=aq qk λ_ _ a7=>a7.elim λy1 a8=>a8.elim λl' a9=>a9.elim λy2 ab=>ab.elim λy3 y4=>⟨y1,l',y2,cj (a1.free y3) y4⟩;have aF:msk [x,d,b,Pt] H5 t5=some (.dK kvs):=cj Ti e5;have a':d≠t5:=λz=>Ti (by rw[<-z];simp);refine⟨rH.ob,rfl,rH,by omega,(by decide +kernel),hT.txt,λH6 b0 Tj=>?_⟩;have Iz:cz x d b Pt H5 H6:=λq o e _ _ n3 _=>Tj q o e n3;have rN:aH H6 Pt cW cR:=K73.aH.kx rH i7 λp o e _ _ n3=>Tj p o e n3;have IA:=(Th.trans Iz).msk;have b7:=Iz.msk;have zl:=bD vU;refine⟨⟨_,aa.of (aQ _ _ (IA _ _ l4))⟩,?_⟩;refine hJ (xs:=zs) (λi Z H7=>∃u v zi st,Z=[some sv,some (.ref x),some gv,some (.ref va),some (.str t),some (.ref l),some (.ref t5),u,v]/\cz x d b Pt H6 H7/\aH H7 Pt cW cR/\Dk j.D x dx d b g0 zi (bk++(ik,t)::iL st) H7/\st.length=i/\zi.length<=24)
  ⟨none,none,fs,[],rfl,.of (ac.refl _),rN,b0,rfl,jt⟩ ?_ ?_ ?_
 . rintro i Z H7 hi ⟨u,v,zi,st,rfl,Y,_⟩;exact aa.of (aQ _ _ ((IA.trans Y.msk) _ _ l4))
 . intro i z Z H7 hz hQ;refine bq ?_;intro tT;obtain⟨u,v,zi,st,rfl,Y,wv,rT,il,aR⟩:=hQ;obtain⟨e,he,hE⟩:=fc vU hz;have aT:=(cM.mp hz).1;obtain⟨tp,g,tt,kk,rfl,z2,z3,z4,z5,z6,z7,z8,z9⟩:=hE.same (IA.trans Y.msk);have bn:bk++(ik,t)::iL st≠[]:=by simp
   have lb:(bk++(ik,t)::iL st).length<=309:=by
    rw[bI,cq];unfold iL;rw[ak];omega
   have aE:d≠tt:=λz=>by
    obtain⟨kd,d1,_⟩:=id rT.fi;have:=z5;unfold msk at this;rw[am (by rw[<-z];simp)]at this;cases this
   refine⟨bh.of (aQ _ _ z2),rfl,rfl,?_⟩;refine mI ?_
   intros
   refine⟨rT,bn,aQ _ _ z5,aE,aq z6 λ_ _=>aY.same aQ,z7,z9,wf (by omega),λIB H8 tG Tk aG zj=>?_⟩;have CO:cz x d b Pt H7 H8:=λq o e _ n2 _ _=>zj q o e n2;have g8:=aQ _ _ (CO.msk _ _ z3);have a2:aH H8 Pt cW cR:=K73.aH.kx rT wv λp o e _ n2 _=>zj p o e n2;refine⟨tG.ob,rfl,rfl,[e.1],aa.of g8,?_,?_⟩
   . have:=z4.hi;show e.1.length+0+1 * (Str.ofString " ").length<=16777216;have:(Str.ofString " ").length=1:=by decide +kernel
     omega
   refine⟨tG,by omega,(by decide +kernel),EG (by decide +kernel) (λy hy=>by rw[bF.mp hy];exact z4.ok),λH9 b3 Tl=>?_⟩;have b6:cz x d b Pt H8 H9:=λq o e _ _ n3 _=>Tl q o e n3;refine⟨_,_,IB,st++[Txt.join " " [e.1]],rfl,Y.trans (CO.trans b6),K73.aH.kx tG a2 λp o e _ _ n3=>Tl p o e n3,?_,by rw[bI,il];rfl,by omega⟩;have eb:bk++(ik,t)::iL st++[(CL,Txt.join " " [e.1])]=bk++(ik,t)::iL (st++[Txt.join " " [e.1]]):=by unfold iL;rw[dq,kS];rfl
   rw[<-eb];exact b3
 rintro Z H7 ⟨u,v,zi,st,rfl,Y,wv,rT,il,aR⟩;have bn:bk++(ik,t)::iL st≠[]:=by simp
 have lb:(bk++(ik,t)::iL st).length<=309:=by
  rw[bI,cq];unfold iL;rw[ak];omega
 have To:=b7.trans Y.msk;refine⟨rT,bn,by omega,aQ _ _ (To _ _ aF),a',aq fN λ_ _ z=>(aY.same To z).same aQ,gJ,fL,wf (by omega),λIB H8 tG Tk aG zj=>?_⟩;have CO:cz x d b Pt H7 H8:=λq o e _ n2 n3 _=>zj q o e n2 n3;exact q2 t IB st H8 hg tG (by omega) ⟨ch,cs,ow,tr,hg,J,iM,Tk⟩ (by omega) (b4.trans (Iz.trans (Y.trans CO))) (K73.aH.kx rT wv λp o e _ n2 n3=>zj p o e n2 n3)
end
section
seal PE PS bW PA PT PW PG eY PI eS
inductive Tp (C T:Addr):Sp where
 | mk {H:Hp}{Q:VK}{E:XK}{a n:Addr}{j:Int}{xs:ae}{ps:Lp}{ns:Ls} (_:H a=some (.lst xs)) (_:eF C H xs ps) (_:ps.length<=100) (_:(∀p∈ps,cJ p.nm/\f9 p.ms)) (_:H n=some (.lst (ns.map V.str))) (_:1<=ns.length) (_:ns.length<=4) (_:(∀n∈ns,cJ n)) (_:∀v ch cs ow H',ac H H'->(∀L,gD H L->gG T (msk L H') v ch cs ow)->iJ xs ps ch cs ow->(∀e∈ow,e.2.1.length<=4/\e.2.2.length<=4)->ow.length<=2->(∀e∈ow,e.1.length≠13)->Q v H'):Tp C T [.ref a,.ref n,.int j] H Q E
theorem ql:aP [asL,asA,asx,"_law_chosen_here","_law_choices","_law_own",asE,"_law_common",asr,"_law_base"] [asL,asA,asx] (aA Pl):=aV
theorem am4(j:Pg K mg base Pt):aw P w K mg base aI 4 j.LSt.f j.LSt.fd [asL,asA,asx] (Tp j.C j.T):=by
 refine j.LSt.u.okL ql ?_;intro av A outer s H vs Q E G h xX dX;obtain @⟨_,_,_,a,n,a0,xs,ps,ns,ha,bM,vT,pok,hn,n1,n4,a5,q⟩:=h;have hu:=G.units;refine⟨_,(ai (aM (i:=3) ql.nd rfl (Or.inl rfl) (ay (ai3 j) G rfl (dg (pv 0) (pv 1) (ay (gF j) G rfl (aL (pv 2) ar)))))
  (ai (aM (i:=4) ql.nd rfl (Or.inl rfl) lE)
  (ai (aM (i:=5) ql.nd rfl (Or.inl rfl) lE)
  (ai (eO dQ rfl (pq rfl j.B.range (al (aJ cH (ay (gF j) G rfl (aL (pv 2) ar)) ar))) (be (i:=6) ql.nd rfl (Or.inl rfl))
  (ai (aM (i:=7) ql.nd rfl (Or.inl rfl) (bO fW (pv 1) (aJ cH (ay (gF j) G rfl (aL (pv 2) (aJ fU ar (pv 6)))) (cg fA (by rfl) j.B.len eX (al (pv 1)))) (λ_ _=>rfl)))
   (aj (iT hu (pv 4) (pv 7) (bO fW (pv 1) (aJ cH (ay (gF j) G rfl (aL (pv 2) (aJ fU ar (pv 6)))) (cg fA (by rfl) j.B.len eX (al (pv 1)))) (λ_ _=>rfl)) rfl))))
  (ai (eO dQ rfl (pq rfl j.B.range (al (aJ cH (ay (gF j) G rfl (aL (pv 2) ar)) ar))) (be (i:=6) ql.nd rfl (Or.inl rfl))
  (ai (aM (i:=8) ql.nd rfl (Or.inl rfl) (ay (gF j) G rfl (aL (pv 2) (aJ fU ar (pv 6)))))
   (ai (aM (i:=9) ql.nd rfl (Or.inl rfl) (ay (BH j) G rfl (al (ay (gF j) G rfl (aL (pv 2) (aJ fU ar (pv 6)))))))
   (aj (iT hu (pv 5) (ay (Ge j) G rfl (al (pv 8))) (eT (aL (pv 9) (ay (BH j) G rfl (al (ay (gF j) G rfl (aL (pv 2) (aJ fU ar (pv 6)))))))) rfl)))))
  (aj (aX (tu j.MTIn (up (BM j)) G rfl j.UT.mgC j.TIn.b .nil bJ (dg (pv 3) (pv 4) (pv 5)))))))))),?_⟩
 refine vt ?_;intro dD sS u6 u5 u4 u3 u2;have name:∀r:Int,∃z,cI (ns.map V.str) (r % ((ns.map V.str).length:Int))=some (V.str z)/\cJ z:=λr=>by
  have hl:((ns.map V.str).length:Int)=ns.length:=by rw[ak]
  rw[hl];have h0:=sq r (show(ns.length:Int)≠0 by omega);have h1:=uQ r (show(0:Int)<ns.length by omega);obtain⟨z,hz,zm⟩:=vn (xs:=ns) (r:=r % (ns.length:Int)) h0 h1;exact⟨z,hz,a5 z (da zm)⟩
 have Tq:(0:Int)<((ns.map V.str).length:Int):=by rw[ak];omega
 refine⟨⟨⟨⟨λm0=>?_⟩⟩⟩⟩;refine⟨ha,bM,vT,hn,n4,λdc H1 ch nc s1 hc hv nd c4=>?_⟩;refine λdh H2 nh Y e2=>?_;refine λdO H3 no s3 e3=>?_;have gT:=s1.trans (Y.trans s3);obtain⟨kc,fJ,jr⟩:=id hc;have P0:lU H H3 dc dh dO ch [] []:=⟨gT,nc,s1.free nh,(s1.trans Y).free no,aO fJ nh,aO (Y _ _ fJ) no,aO e2 no,hc.same (Y.trans s3),⟨[],s3 _ _ e2,.nil⟩,⟨[],e3,.nil⟩⟩;have o0:lV ch [] [] 4 0 0:=⟨⟨λe O=>?_,(λ_ h=>nomatch h),(λ_ h=>nomatch h)⟩,nd,kR,kR,c4,aK _,aK _,(λ_ h=>nomatch h)⟩
 rotate_left
 . obtain⟨v,p,hi,e1,e2⟩:=hv e O;obtain⟨a1,a2⟩:=pok p (HZ hi);exact⟨e1▸a1,e2▸a2⟩
 refine⟨⟨λm1=>?_⟩⟩;refine⟨(by show(0:Int)<3;decide),by omega,by omega,?_⟩;refine uX (λi Z H4=>∃u v cs,Z=[some (.ref a),some (.ref n),some (.int a0),some (.ref dc),some (.ref dh),some (.ref dO),u,v,none,none]/\lU H H4 dc dh dO ch cs []/\lV ch cs [] 4 i 0) ⟨none,none,[],rfl,P0,o0⟩ ?_ ?_
 . intro i Z H4 hi J;refine bq ?_;intro tT;obtain⟨u,v,cs,rfl,N,ok⟩:=J;have U:=N.old _ _ hn;refine⟨⟨⟨⟨⟨λm2=>?_⟩⟩⟩⟩⟩;obtain⟨z1,B5,a6⟩:=name m2;refine⟨n,_,rfl,.inl (aa.of U),Tq,aa.of U,B5,?_⟩;refine⟨⟨⟨⟨⟨λm3=>?_⟩⟩⟩⟩⟩;obtain⟨z2,a4,a7⟩:=name m3;obtain⟨kh,c1,c2⟩:=id N.cs;have lc:=bD c2;have:=ok.n2;refine⟨n,_,rfl,.inl (aa.of U),Tq,aa.of U,a4,fX.k (k:=.inr z1) c1 (bQ (by omega)),?_⟩;exact⟨_,_,_,rfl,N.putH c1,ok.putH a6 a7⟩
 intro Z H4 J;refine bq ?_;intro tT;obtain⟨u,v,cs,rfl,N4,a8⟩:=J;refine⟨⟨λm5=>?_⟩⟩;refine⟨(by show(0:Int)<3;decide),by omega,by omega,?_⟩;refine uX (λi Z H5=>∃u x8 x9 ow,Z=[some (.ref a),some (.ref n),some (.int a0),some (.ref dc),some (.ref dh),some (.ref dO),u,v,x8,x9]/\lU H H5 dc dh dO ch cs ow/\lV ch cs ow 4 4 i/\∀e∈ow,e.1.length≠13) ⟨u,none,none,[],rfl,N4,a8.mono (aK _) (by omega) (aK _),λ_ h=>nomatch h⟩ ?_ ?_
 . intro i Z H5 hi J;refine bq ?_;intro tT;obtain⟨u,x8,x9,ow,rfl,N,ok,zk⟩:=J;refine⟨⟨⟨⟨λm6=>?_⟩⟩⟩⟩;refine⟨⟨⟨⟨λm7=>⟨λl1 H6 a9 ab s6 e6 k6 o6=>?_⟩⟩⟩⟩⟩;refine⟨⟨⟨⟨⟨λm8=>⟨λl2 H7 Ts ap s7 e7 k7 o7=>?_⟩⟩⟩⟩⟩⟩;refine⟨Ah,λt H8 nt s8 e8=>?_⟩;refine⟨⟨⟨λpt H9 Tt s9=>?_⟩⟩⟩;have N9:=N.same (s6.trans (s7.trans (s8.trans s9)));obtain⟨ko,c1,c2⟩:=id N9.ow;have lc:=bD c2;have:=ok.n3;refine⟨fX.k (k:=.inr pt) c1 (bQ (by omega)),?_⟩;exact⟨_,_,_,_,rfl,N9.putO c1 (s9 _ _ e8) ((s7.trans (s8.trans s9)) _ _ e6) ((s8.trans s9) _ _ e7),ok.putO Tt.1 o6 o7 k6 k7,λe O=>(kj O).elim (λz=>by rw[z];exact Tt.2) (zk e)⟩
 intro Z H5 J;refine bq ?_;intro tT;obtain⟨u,x8,x9,ow,rfl,N,ok,zk⟩:=J;have o2:ow.length<=2:=cn ok.n3 (by omega);refine⟨⟨⟨?_⟩⟩⟩;refine BN (T:=j.T) N.ch N.cs N.ow ok.d3 (by omega) λx H6 nx s6 eM=>?_;refine q (.ref x) ch cs ow H6 (N.old.trans s6) (λL hL=>eM L λb hb=>(hL b hb).elim λo a3=>a3.elim λe n=>⟨o,N.old b o e,n⟩) ⟨⟨ok.ok,ok.d1,ok.d2,ok.d3,ok.n1,ok.n2,by omega,λe O=>by have:=ok.ln e O;omega⟩,hv,by omega⟩ ok.ln o2 zk
inductive Tu:Sp where
 | mk {H:Hp}{Q:VK}{E:XK}{x:Str} (_:x.length<=90000) (_:∀H',ac H H'->Q (.bl (mT x)) H'):Tu [.str x] H Q E
theorem anb:aP [asC] [asC] (aA Pm):=aV
theorem Tv(j:Pg K mg base Pt):aw P w K mg base aI 1 j.IsN.f j.IsN.fd [asC] Tu:=by
 obtain⟨t8,O⟩:=j.K0.let8;refine j.IsN.u.okL anb ?_;intro av A outer s H vs Q E hr h xX dX;obtain @⟨_,_,_,x,hx,q⟩:=h;refine⟨_,(aj (aX (sV (DR qJ Aq ar (cg Eg (by rfl) j.B.len eX (al (pv 0))) (JX (v:=.int 8) (by rfl) O ⟨_,rfl⟩))
  (sU (cg (Ny K) (by rfl) j.B.all aqW (al (fY ["sign"] [] [] dM rfl (afn (pv 0)) (λ_ _ _ _=>(be (i:=0) (show List.Nodup (["sign"]:Ls) by decide +kernel) rfl (Or.inl rfl))) (λ_ _ _ _=>gj) (λ_ _ _ _=>(DR Nu Nu bT (pv 0) bT))))))))),?_⟩
 refine⟨_,rfl,eg (by omega),⟨⟨?_⟩⟩⟩;refine bv (λh1=>?_) (λh1=>?_)
 . refine⟨⟨?_⟩⟩;refine bv (λh2=>?_) (λh2=>?_)
   . refine⟨x,rfl,?_⟩;refine afA (σ0:=[none]) (λZ=>∃v,Z=[v]) (λc=>.bl (rf aS zS c)) (eg (by show x.length<=_;omega)) ⟨_,rfl⟩ ?_ ?_
     . intro c Z H2 k hc U hs Y;obtain⟨v,rfl⟩:=U;refine⟨_,_,rfl,rfl,⟨?_⟩⟩;have G:=Y [some (.str (qV c))] H2 ⟨_,rfl⟩ (ac.refl _);refine bv (λJ=>?_) (λJ=>?_)
       . refine⟨_,_,rfl,rfl,?_⟩;rw[show rf aS zS c=ym (qV c) zS from am J]at G;exact G
       rw[show rf aS zS c=false from ah J]at G;exact G
     intro D H2 hD hd hs;refine⟨D,_,rfl,aa.of (by rw[hd,ag6]),?_⟩;have:=q H2 hs;unfold mT at this;rw[P8];rw[bE ⟨by have:=cT h1;omega,by have:=cT h2;omega⟩,wN]at this;exact this
   have:=q H (ac.refl _);unfold mT at this;rw[cu (λz=>h2 (bE (by have:=z.2;omega))),Dd]at this;exact this
 refine⟨?_⟩;have:=q H (ac.refl _);unfold mT at this;rw[cu (λz=>h1 (bE (by have:=z.1;omega))),Dd]at this;exact this
inductive Tw:Sp where
 | mk {H:Hp}{Q:VK}{E:XK}{x:Str} (_:x.length<=80000) (_:∀H',ac H H'->Q (.bl (ri x)) H'):Tw [.str x] H Q E
theorem Tx:aP [asC,"parts"] [asC] (aA Pn):=aV
theorem anc(j:Pg K mg base Pt):aw P w K mg base aI 2 j.IsP.f j.IsP.fd [asC] Tw:=by
 obtain⟨t4,Y⟩:=j.K0.pw4;refine j.IsP.u.okL Tx ?_;intro av A outer s H vs Q E hr h xX dX;obtain @⟨_,_,_,x,hx,q⟩:=h;refine⟨_,(ai (aM (i:=1) Tx.nd rfl (Or.inl rfl) (db me JF JG Be (pv 0) (al bT)))
  (aj (aX (sV (mr Aq (cg fA (by rfl) j.B.len eX (al (pv 1))) (JX (v:=.int 4) (by rfl) Y ⟨_,rfl⟩) (bC _))
  (sU (cg (Ny K) (by rfl) j.B.all aqW (al (fY ["part"] [] [] dM rfl (cG (pv 1)) (λ_ _ _ _=>(be (i:=0) (show List.Nodup (["part"]:Ls) by decide +kernel) rfl (Or.inl rfl))) (λ_ _ _ _=>gj) (λ_ _ _ _=>(ay (Tv j) hr rfl (al (pv 0)))))))))))),?_⟩
 refine mI ?_;intro dD sS dU;refine⟨rfl,x,lK,rfl,rfl,by decide +kernel,eg (by omega),λl H1 n1 U e1=>?_⟩;refine⟨l,_,rfl,.inl (aa.of e1),⟨⟨?_⟩⟩⟩;refine bv (λh1=>?_) (λh1=>?_)
 . refine⟨⟨_,aa.of e1⟩,?_⟩;refine vG (σ0:=[none]) (aa.of e1) (λZ=>∃v,Z=[v]) (((Txt.split x lK).map mT).map V.bl) (by rw[ak,ak,ak]) (eg (by rw[ak];have:=split_le x lK;omega)) ⟨_,rfl⟩ ?_ ?_
   . intro i z y Z H2 k hz O hQ hs hk;obtain⟨v,rfl⟩:=hQ;obtain⟨p,J,rfl⟩:=i5 hz;rw[md]at O;obtain⟨p',G,rfl⟩:=i5 O;rw[J]at G;cases G;refine⟨?_,λH' s'=>hk _ _ ⟨_,rfl⟩ s'⟩;have:=Gf (da J);omega
   intro D H2 hD hd hs;refine⟨D,_,rfl,aa.of hd,?_⟩;have:=q H2 (U.trans hs);unfold ri at this;rw[P8];rw[bE (by have:=cT h1;rw[ak]at this;omega),wN]at this;exact this
 have:=q H1 U;unfold ri at this;rw[cu (λz=>h1 (bE (by rw[ak];omega))),Dd]at this;exact this
inductive Tz:Sp where
 | mk {H:Hp}{Q:VK}{E:XK}{x:Str} (_:x.length<=1000) (_:ri x=true) (_:∀H',ac H H'->Q .non H'):Tz [.str x] H Q E
theorem and:aP [asq] [asq] (aA Pp):=aV
theorem ane(j:Pg K mg base Pt):aw P w K mg base aI 3 j.AsP.f j.AsP.fd [asq] Tz:=by
 refine j.AsP.u.okL and ?_;intro J A outer s H vs Q E z h U O;obtain @⟨_,_,_,x,l,e,q⟩:=h;refine⟨_,(aj (bN (PW.pt (sP (qH (jf (cg AH (by rfl) j.B.isinstance JK (aL (pv 0) (Ai (v:=.ty "str") rfl j.B.str V0 rfl))))) (sO (qH (jf (ay (anc j) z rfl (al (pv 0))))))))
  (aj xf) cD)),?_⟩
 refine⟨_,_,_,_,rfl,.str _,rfl,⟨?_⟩⟩;refine cL ?_;refine⟨by omega,λH1 G=>⟨?_⟩⟩;rw[e];exact cL (q H1 G)
inductive TB:Sp where
 | mk {H:Hp}{Q:VK}{E:XK}{x:Str} (_:x.length<=1000) (_:mT x=true) (_:∀H',ac H H'->Q .non H'):TB [.str x] H Q E
theorem anf:aP [asu] [asu] (aA Ps):=aV
theorem TD(j:Pg K mg base Pt):aw P w K mg base aI 3 j.AsN.f j.AsN.fd [asu] TB:=by
 refine j.AsN.u.okL anf ?_;intro J A outer s H vs Q E z h U O;obtain @⟨_,_,_,x,l,e,q⟩:=h;refine⟨_,(aj (bN (PW.pt (sP (qH (jf (cg AH (by rfl) j.B.isinstance JK (aL (pv 0) (Ai (v:=.ty "str") rfl j.B.str V0 rfl))))) (sO (qH (jf (ay (Tv j) z rfl (al (pv 0))))))))
  (aj xf) cD)),?_⟩
 refine⟨_,_,_,_,rfl,.str _,rfl,⟨?_⟩⟩;refine cL ?_;refine⟨by omega,λH1 G=>⟨?_⟩⟩;rw[e];exact cL (q H1 G)
inductive TF:Sp where
 | mk {H:Hp}{Q:VK}{E:XK}{d:Addr}{k:Str}{e:V}{kvs:List (ao×V)} (_:H d=some (.dK kvs)) (_:kvs.length<=500) (_:(e=.non->∀d' H',H d'=none->ac H H'->H' d'=some (.dK (if (bi kvs (.inr k)).isSome=true then nX kvs (.inr k) else kvs))->Q (.ref d') H')) (_:(e≠.non->∀d' H',H d'=none->ac H H'->H' d'=some (.dK (cx kvs (.inr k) e))->Q (.ref d') H')):TF [.ref d,.str k,e] H Q E
theorem TH:aP ["entries","key","entry","changed"] ["entries","key","entry"] (aA Pu):=aV
theorem TJ(G:Pg K mg base Pt):aw P w K mg base aI 1 G.WEn.f G.WEn.fd ["entries","key","entry"] TF:=by
 refine G.WEn.u.okL TH ?_;intro av A outer s H vs Q E hr h xX dX;obtain @⟨_,_,_,d,k,e,kvs,hd,l,j,q2⟩:=h;have U:=hr.units;refine⟨_,(ai (aM (i:=3) TH.nd rfl (Or.inl rfl) (dH xK (by rfl) G.B.dict Dv (al (pv 0))))
  (ai (bN (bL As (pv 2) iP (bC _))
  (aj (iT U (pv 3) (pv 1) (pv 2) rfl)) (aj (bN (jy (pH U (pv 1) (pv 3)) (by rfl))
   (aj (bB (AE (pv 3) (pv 1) ⟨rfl,rfl,rfl,rfl⟩))) cD)))
  (aj (aX (pv 3))))),?_⟩
 refine⟨d,_,rfl,hd,λp1 H1 n1 O e1=>?_⟩;refine⟨rfl,⟨?_⟩⟩;refine bv (λh=>?_) (λh=>?_)
 . have ne:e≠.non:=λz=>by rw[z]at h;cases h
   refine⟨fX.k (k:=.inr k) e1 (bQ (by omega)),?_⟩;exact⟨q2 ne p1 _ n1 (fj O n1) aD⟩
 have Y:e=.non:=V8 λz=>h (by rw[cu z];rfl);have j:=j Y;refine⟨_,ci.k (k:=.inr k) e1,⟨?_⟩⟩;cases J:bi kvs (.inr k) with
 | none=>
  refine cL ⟨j p1 H1 n1 O (by rw[J];exact e1)⟩
 | some v=>
  refine dZ ?_;refine⟨.inl ⟨_,.inl e1⟩,kvs,.inr k,v,e1,rfl,J,?_⟩;exact⟨j p1 _ n1 (fj O n1) (by rw[J];exact aD)⟩
variable {xs:ae}{ps:Lp}
theorem ang(bk:Bk):∀st:Ls,de (bk++iL st)=de bk:=λst=>by
 unfold de iL;rw[zX,dq];have e:(st.map λz=>(CL,z)).filter (λe=>decide (e.1=ik))=[]:=by
  rw[List.filter_eq_nil_iff];intro e j;obtain⟨z,_,rfl⟩:=ca.mp j;exact λh=>absurd (cT h) (show CL≠ik by decide +kernel)
 rw[e];exact kM _
theorem TK(bk:Bk)(t:Str)(st:Ls):de (bk++(ik,t)::iL st++[qi])=de bk++[t]:=by
 have e:bk++(ik,t)::iL st=(bk++[(ik,t)])++iL st:=by rw[kS];rfl
 rw[Ih,ah (show qi.1≠ik by decide +kernel),e,ang,Ih,am rfl]
theorem anh(bk:Bk):uG (bk++[qi])=true:=by
 unfold uG;rw[Wb,aqV,Option.some_or];exact bE rfl
theorem qj.snoc{bk:Bk}{t:Str}(h:qj xs ps (Str.empty::de bk))(k:∃ch cs ow,gu xs ps t ch cs ow):qj xs ps (Str.empty::(de bk++[t])):=λy j=>by
 rcases bf.mp j with z | z
 . exact h y (by rw[z];exact bH)
 rcases bY.mp z with z | z
 . exact h y (bR _ z)
 rw[bF.mp z];exact k
theorem ani(a:Str)(l:Ls)(t:Str):(a::(l++[t])).getLast?=some t:=by
 rw[<-uP,Wb];rfl
structure DU(D x dx d b gg Pt:Addr)(xs:ae)(ps:Lp)(t:Str)(ch:Ch)(cs:Cs)(ow:Ow)(fs:Tr)(bk:Bk)(H:Hp):Prop where
 dk:Dk D x dx d b gg fs bk H
 la:(Str.empty::de bk).getLast?=some t
 tx:gu xs ps t ch cs ow
 tk:qj xs ps (Str.empty::de bk)
 up:uG bk=true
 fu:zf xs ps t fs
 ln:fs.length<=24
 tb:aH H Pt cW cR
theorem DU.same{t:Str}{ch:Ch}{cs:Cs}{ow:Ow}{fs:Tr}{bk:Bk}{H H':Hp}(h:DU D x dx d b gg Pt xs ps t ch cs ow fs bk H)(s:ac H H'):DU D x dx d b gg Pt xs ps t ch cs ow fs bk H':=⟨h.dk.same s,h.la,h.tx,h.tk,h.up,h.fu,h.ln,h.tb.same s⟩
theorem DU.busy{t:Str}{ch:Ch}{cs:Cs}{ow:Ow}{fs:Tr}{bk:Bk}{H:Hp}(h:DU D x dx d b gg Pt xs ps t ch cs ow fs bk H):gD H [x,d,b,Pt]:=h.dk.busy h.tb
def jR(j:V)(x:Addr):List (Str×V):=[(asp,j),(asv,.ref x)]
structure HW(Hc C S h hdx x:Addr)(sv:V)(xs:ae)(ps:Lp)(ns:Ls)(R:Hp):Prop where
 ob:R h=some (.ins Hc hdx (jR sv x))
 wl:kF C S R sv xs ps ns
theorem HW.same{G:V}{ns:Ls}{R j:Hp}(z:HW Hc C S h hdx x G xs ps ns R)(s:ac R j):HW Hc C S h hdx x G xs ps ns j:=⟨s _ _ z.ob,z.wl.same s⟩
inductive TL (C S T D Pt:Addr):Sp where
 | mk {H:Hp}{Q:VK}{E:XK}{J z:V}{x dx d b j:Addr}{fs:Tr}{bk:Bk}{xs:ae}{ps:Lp}{ns:Ls}{t:Str}{O ch:Ch}{U cs:Cs}{Y ow:Ow} (_:kF C S (msk [x,d,b,Pt] H) J xs ps ns) (_:gG T (msk [x,d,b,Pt] H) z ch cs ow) (_:iJ xs ps ch cs ow) (_:DU D x dx d b j Pt xs ps t O U Y fs bk H) (_:bk.length<=300) (_:∀t' ch' cs' ow' eL G H',cV ch ch'->cV cs cs'->cV ow ow'->DU D x dx d b j Pt xs ps t' ch' cs' ow' eL G H'->G.length<=bk.length+10->cz x d b Pt H H'->Q .non H'):TL C S T D Pt [J,.ref x,z] H Q E
theorem anj{k:Nat}(G:aw P w K mg base aI k f fd [asp,asv,asH] (Im C S T D Pt)):aw P w K mg base aI k f fd [asp,asv,asH] (TL C S T D Pt):=by
 refine G.imp λvs H Q E h=>?_;obtain @⟨_,_,_,sv,gv,x,dx,d,b,gg,fs,bk,xs,ps,ns,t,Iq,ch,Ir,cs,Iu,ow,hW,hG,so,h,l3,q⟩:=h;refine⟨hW,hG,so,h.dk,h.ln,l3,h.tk,h.tb,λt' H' j hl z k tb=>?_,λt' eL st H' j z IC fu l8 k tb=>?_⟩
 . obtain⟨ch',cs',ow',O,U,Y,J⟩:=j;rw[h.la]at hl;cases hl;exact q t ch' cs' ow' fs bk H' O U Y ⟨z,h.la,J,h.tk,h.up,h.fu,h.ln,tb⟩ (Nat.le_add_right _ _) k
 obtain⟨ch',cs',ow',O,U,Y,J⟩:=id j;refine q t' ch' cs' ow' eL _ H' O U Y ⟨z,by rw[TK];exact ani _ _ _,J,by rw[TK];exact qj.snoc h.tk j.ok,anh _,fu,IC,tb⟩ ?_ k;rw[bI,bI,cq,jU];unfold iL;rw[ak];omega
inductive ID (Hc:Addr):Sp where
 | mk {H:Hp}{Q:VK}{E:XK}{h j x:Addr}{z:V} (_:H h=some (.ins Hc j [])) (_:∀H',H' h=some (.ins Hc j (jR z x))->(∀p o,H p=some o->p≠h->H' p=some o)->Q .non H'):ID Hc [.ref h,z,.ref x] H Q E
theorem ank:aP [aso,asp,asv] [aso,asp,asv] (aA Pw):=aV
theorem anl(j:Pg K mg base Pt):aw P w K mg base aI 1 j.HIn.f j.HIn.fd [aso,asp,asv] (ID j.Hc):=by
 refine j.HIn.u.okL ank ?_;intro G z outer s H vs Q E U h xX J;obtain @⟨_,_,_,h,O,x,Y,hh,q⟩:=h;refine⟨_,(ai (hX (pv 0) (pv 1) rfl)
  (aj (hX (pv 0) (pv 2) rfl))),?_⟩
 refine⟨hh,j.UH.cl,j.UH.nS,by decide,?_⟩;refine⟨aD,j.UH.cl,j.UH.nD,by show 1<1000;decide,?_⟩;exact q _ aD λp o e n=>aC (aC e n) n
end
section
seal PE PS bW PA PT PW PG eY PI eS
theorem TM(d b:Addr)(v w:V):aB "left" w (b8 d b v)=b8 d b w:=by unfold b8 aB;rfl
def lv:Option Int->V
 | none=>.non
 | some n=>.int n
def lW:Option Int->Option (Option Int)
 | none=>some none
 | some n=>if 1<=n then some (some (n - 1)) else none
theorem TN{n:Int}(h:n<1):lW (some n)=none:=ah (by omega)
theorem IE{n:Int}(h:¬n<1):lW (some n)=some (some (n - 1)):=am (by omega)
inductive TQ (D z:Addr):Sp where
 | mk {H:Hp}{Q:VK}{E:XK}{x dx d b:Addr}{j:Option Int} (_:H x=some (.ins D dx (b8 d b (lv j)))) (_:∀G,lW j=some G->∀H',H' x=some (.ins D dx (b8 d b (lv G)))->(∀p o,H p=some o->p≠x->H' p=some o)->(∀p,H' p=none->H p=none)->Q .non H') (_:lW j=none->E (.ref z) none H):TQ D z [.ref x] H Q E
theorem TR(j:Pg K mg base Pt):aw P w K mg base (mP P w) 1 j.DTk.f j.DTk.fd [aso] (TQ j.D j.Fa):=by
 refine j.DTk.u.okR Rs (λvs H Q E h=>?_) (λav A outer s H vs Q E hr h=>?_)
 . cases h;rfl
 obtain @⟨_,_,_,x,dx,d,b,U,G,J,Y⟩:=h;refine⟨_,(ai (bN (bL Ky (bG (pv 0) rfl) iP (bC _))
  (aj Ak) cD)
  (ai (bN (bL qJ (bG (pv 0) rfl) ar (bC _))
  (aj (adK j.R.xc j.R.mF bT)) cD)
  (aj (hX (pv 0) (aJ uZ (bG (pv 0) rfl) ar) rfl)))),?_⟩
 refine⟨G,j.UD.cl,j.UD.nL,Ca _ _ _,rfl,⟨?_⟩⟩;cases U with
 | none=>
  refine dZ ?_;exact J none rfl H G (λ_ _ e _=>e) λ_ e=>e
 | some n=>
  refine cL ?_;refine⟨G,j.UD.cl,j.UD.nL,Ca _ _ _,⟨⟨?_⟩⟩⟩;refine bv (λh=>?_) (λh=>?_)
  . exact⟨aK 1,Y (TN (cT h))⟩
  have h':¬n<1:=λz=>h (bE z);refine⟨G,j.UD.cl,j.UD.nL,Ca _ _ _,G,j.UD.cl,j.UD.nL,by show 3<1000;decide,?_⟩;rw[TM];exact J (some (n - 1)) (IE h') _ aD (λp o e O=>aC e O) λp e=>(jl e).2
inductive TU (D G:Addr):Sp where
 | mk {H:Hp}{Q:VK}{E:XK}{x dx d b l:Addr}{z:Option Int}{p:Str}{j:List (ao×V)}{ys:ae} (_:H x=some (.ins D dx (b8 d b (lv z)))) (_:H d=some (.dK j)) (_:H l=some (.lst ys)) (_:j.length<=500) (_:∀J,lW z=some J->∀q H',H q=none->H' x=some (.ins D dx (b8 d b (lv J)))->H' d=some (.dK (cx j (.inr p) (.ref q)))->H' q=some (.lst ys)->(∀p o,H p=some o->p≠x->p≠d->H' p=some o)->Q .non H') (_:lW z=none->E (.ref G) none H):TU D G [.ref x,.str p,.ref l] H Q E
theorem anm(j:Pg K mg base Pt):aw P w K mg base (mP P w) 2 j.DPt.f j.DPt.fd [aso,asq,asF] (TU j.D j.Fa):=by
 refine j.DPt.u.okR Rt (λvs H Q E h=>?_) (λav A outer s H vs Q E hr h=>?_)
 . cases h;rfl
 obtain @⟨_,_,_,x,dx,d,b,l,lf,p,kd,ys,G,hd,Y,oK,q1,q2⟩:=h;have hu:=hr.units;refine⟨_,(ai (bB (dr (pv 0) j.UD.cl j.DTk.mt (up (TR j)) hr j.DTk.b .nil xP))
  (aj (iT hu (bG (pv 0) rfl) (pv 1) (dH lB (by rfl) j.B.list iO (al (pv 2))) rfl))),?_⟩
 have kB:d≠x:=aU hd G (by intro z;cases z);have lx:l≠x:=aU Y G (by intro z;cases z);refine⟨G,rfl,G,λge e H1 h1 k1 f1=>?_,q2⟩;refine⟨l,_,rfl,.inl (aa.of (k1 _ _ Y lx)),λq H2 n2 J e2=>?_⟩;have O:=J _ _ h1;have U:=J _ _ (k1 _ _ hd kB);refine⟨O,j.UD.cl,j.UD.nF,ux _ _ _,fX.k (k:=.inr p) U (bQ (by omega)),?_⟩;exact q1 ge e q _ (f1 _ n2) (aC O kB.symm) aD (aC e2 (aU e2 U (by intro z;cases z))) λp o e hp IF=>aC (J _ _ (k1 _ _ e hp)) IF
inductive TV (D G:Addr):Sp where
 | mk {H:Hp}{Q:VK}{E:XK}{x dx d b:Addr}{z:Option Int}{p:Str}{j:List (ao×V)} (_:H x=some (.ins D dx (b8 d b (lv z)))) (_:H d=some (.dK j)) (_:∀J,lW z=some J->∀H',H' x=some (.ins D dx (b8 d b (lv J)))->H' d=some (.dK (if (bi j (.inr p)).isSome=true then nX j (.inr p) else j))->(∀p o,H p=some o->p≠x->p≠d->H' p=some o)->Q .non H') (_:lW z=none->E (.ref G) none H):TV D G [.ref x,.str p] H Q E
theorem ann(j:Pg K mg base Pt):aw P w K mg base (mP P w) 2 j.DEr.f j.DEr.fd [aso,asq] (TV j.D j.Fa):=by
 refine j.DEr.u.okR Rv (λvs H Q E h=>?_) (λav A outer s H vs Q E hr h=>?_)
 . cases h;rfl
 obtain @⟨_,_,_,x,dx,d,b,lf,p,kd,U,hd,q1,q2⟩:=h;have hu:=hr.units;refine⟨_,(ai (bB (dr (pv 0) j.UD.cl j.DTk.mt (up (TR j)) hr j.DTk.b .nil xP))
  (aj (bN (jy (pH hu (pv 1) (bG (pv 0) rfl)) (by rfl))
  (aj (bB (AE (bG (pv 0) rfl) (pv 1) ⟨rfl,rfl,rfl,rfl⟩))) cD))),?_⟩
 have kB:d≠x:=aU hd U (by intro z;cases z);refine⟨U,rfl,U,λY e H1 h1 k1 f1=>?_,q2⟩;have G:=k1 _ _ hd kB;refine⟨h1,j.UD.cl,j.UD.nF,ux _ _ _,_,ci.k (k:=.inr p) G,⟨?_⟩⟩;cases O:bi kd (.inr p) with
 | none=>
  refine cL ?_;exact q1 Y e H1 h1 (by rw[O];exact G) λp o e J _=>k1 _ _ e J
 | some v=>
  refine dZ ?_;refine⟨h1,j.UD.cl,j.UD.nF,ux _ _ _,.inl ⟨_,.inl G⟩,kd,.inr p,v,G,rfl,O,?_⟩;exact q1 Y e _ (aC h1 kB.symm) (by rw[O];exact aD) λp o e J IF=>aC (k1 _ _ e J) IF
def oQ(j:Option Int)(n:Nat):Option Int:=j.map λm=>m - n
structure CS(D x dx d b:Addr)(lf:Option Int)(fs:Tr)(H H':Hp):Prop where
 ob:H' x=some (.ins D dx (b8 d b (lv lf)))
 hd:∃kd,H' d=some (.dK kd)/\Paired (aY H') kd fs
 kp:∀p o,H p=some o->p≠x->p≠d->H' p=some o
inductive TW (D G:Addr):Sp where
 | mk {H:Hp}{Q:VK}{E:XK}{x dx d b t:Addr}{z:Option Int}{J O:List (ao×V)}{fs tr:Tr} (_:H x=some (.ins D dx (b8 d b (lv z)))) (_:H d=some (.dK J)) (_:H t=some (.dK O)) (_:d≠t) (_:Paired (aY H) J fs) (_:Paired (aY H) O tr) (_:(fs.map (·.1)).Nodup) (_:(tr.map (·.1)).Nodup) (_:bU fs) (_:bU tr) (_:oN fs tr) (_:∀m,z=some m->0<=m)
  (_:∀ps H',dz fs tr ps->(∀m,z=some m->(ps.length:Int)<=m)->CS D x dx d b (oQ z ps.length) (ps.foldl (aZ tr) fs) H H'->Q .non H') (_:∀ps (j:Nat) H',dz fs tr ps->z=some (j:Int)->j<ps.length->CS D x dx d b (some 0) ((ps.take j).foldl (aZ tr) fs) H H'->E (.ref G) none H'):TW D G [.ref x,.ref t] H Q E
theorem ano(j:Pg K mg base Pt):aw P w K mg base (mP P w) 3 j.Tur.f j.Tur.fd [asv,asM] (TW j.D j.Fa):=by
 refine j.Tur.u.okR Cm (λvs H Q E h=>?_) (λav A outer s H vs Q E hr h=>?_)
 . cases h;rfl
 obtain @⟨_,_,_,x,dx,d,b,t,J,kd,kt,fs,tr,hx,hd,ht,Cn,pd,pt,dE,jH,gW,uA,jt,pos,q1,q2⟩:=h;have RG:=jt.fst dE;have RH:=jt.snd jH;have hu:=hr.units;have dv:ce 1 (A.deeper (PyProof.Rows.envOfC "turn_to" (aA BA) s.heap.objs.size j.Tur.f av)):=hr.mono (by decide);refine⟨_,(aj (eO PassesOwn.leaving rfl (cG (ay (Ho j) dv rfl (aL (dr (pv 0) j.UD.cl j.FNo.mt (up (uy j)) dv j.FNo.b .nil bJ) (pv 1)))) (be (i:=2) Cm.nd rfl (Or.inl rfl))
  (aj (bN (jy (pH hu (pv 2) (pv 1)) (by rfl))
   (aj (bB (gz (pv 0) j.UD.cl j.DPt.mt (up (anm j)) hr j.DPt.b .nil xP (aL (pv 2) (lm hu (pv 1) (pv 2) (λ_ _=>rfl)))))) (aj (bB (gz (pv 0) j.UD.cl j.DEr.mt (up (ann j)) hr j.DEr.b .nil xP (al (pv 2))))))))),?_⟩
 have kB:d≠x:=aU hd hx (by intro z;cases z);have tx:t≠x:=aU ht hx (by intro z;cases z);refine⟨hx,rfl,hx,hd,pd,dE,by omega,λr H1 kr n1 s1 e1 pr=>?_⟩;refine⟨e1,s1 _ _ ht,aq pr λ_ _ a0=>a0.elim λz1 a1=>a1.elim λl a2=>a2.elim λz2 a3=>a3.elim λ_ O=>⟨z1,l,z2,O⟩,aq pt λ_ _=>aY.same s1,dE,jH,gW,uA,jt,λl H2 ps n2 s2 e2 U=>?_⟩;have bZ:=s1.trans s2;have nl:H l=none:=s1.free n2;have lx:l≠x:=(aO hx nl).symm;have ld:l≠d:=(aO hd nl).symm;have B3:=U.len;refine⟨⟨_,aa.of e2⟩,?_⟩;refine hJ (xs:=ps.map V.str) (λi Z G=>∃v,Z=[some (.ref x),some (.ref t),v]/\G l=some (.lst (ps.map V.str))/\(∀m,J=some m->(i:Int)<=m)/\CS j.D x dx d b (oQ J i) ((ps.take i).foldl (aZ tr) fs) H G)
  ⟨none,rfl,e2,pos,by
   have:oQ J 0=J:=by cases J with | none=>rfl | some m=>simp[oQ]
   rw[this];exact bZ _ _ hx,⟨kd,bZ _ _ hd,aq pd λ_ _=>aY.same bZ⟩,λp o e _ _=>bZ _ _ e⟩ ?_ ?_ ?_
 . rintro i Z G hi ⟨v,rfl,hl,_⟩;exact aa.of hl
 . rintro i v0 Z G hv ⟨v,rfl,hl,CT,W⟩;rw[c8]at hv;cases hy:ps[i]? with
   | none=>rw[hy]at hv;cases hv
   | some p=>
    rw[hy]at hv;cases hv;obtain⟨ax,eh,mY⟩:=W.hd;have RM:=(cM.mp hy).1;have lQ:=W.kp _ _ ht tx (gy Cn);have Hr:Paired (aY G) kt tr:=aq pt λ_ _ a4=>a4.elim λz1 a5=>a5.elim λl' a6=>a6.elim λz2 O=>⟨z1,l',z2,W.kp _ _ O (aU O hx (by intro z;cases z)) (aU O hd (by intro z;cases z))⟩;have iy:(ps.take (i+1)).foldl (aZ tr) fs=aZ tr ((ps.take i).foldl (aZ tr) fs) p:=by
     rw[gY,hy,oZ];rfl
    have ab:=Hi (tr:=tr) (ps.take i) fs;have ap:(ps.take i).length<=ps.length:=by rw[eW];omega
    have QY:=bD mY;have yQ:∀kv f,aY G kv f->kv.1=Sum.inr f.1:=λkv f z=>z.1;have dn:∀Y,lW (oQ J i)=some Y->Y=oQ J (i+1)/\∀m,J=some m->((i+1:Nat):Int)<=m:=λY e=>by
     cases J with
     | none=>cases e;exact⟨rfl,λm z=>nomatch z⟩
     | some m=>
      have e:lW (some (m - i))=some Y:=e
      by_cases z:m - (i:Int)<1
      . rw[TN z]at e;cases e
      rw[IE z]at e;cases e;refine⟨?_,λm' z'=>by cases z';omega⟩;show some (m - (i:Int) - 1)=some (m - ((i+1:Nat):Int))
      congr 1
      omega
    have TX:lW (oQ J i)=none->E (.ref j.Fa) none G:=λe=>by
     have e2:J=some (i:Int):=by
      cases J with
      | none=>cases e
      | some m=>
       have e:lW (some (m - i))=none:=e
       by_cases z:m - (i:Int)<1
       . have:=CT m rfl
         congr 1
         omega
       rw[IE z]at e;cases e
     refine q2 ps i G U e2 RM ⟨?_,W.hd,W.kp⟩;have:=W.ob;rw[e2,show oQ (some (i:Int)) i=some 0 by simp[oQ]]at this;exact this
    have kk:∀{H6:Hp},(∀p o,G p=some o->p≠x->p≠d->H6 p=some o)->∀kv f,aY G kv f->aY H6 kv f:=λh3 kv f a7=>a7.elim λz1 a8=>a8.elim λl3 a9=>a9.elim λz2 O=>⟨z1,l3,z2,h3 _ _ O (aU O W.ob (by intro z;cases z)) (aU O eh (by intro z;cases z))⟩;refine⟨_,ci.k (k:=.inr p) lQ,⟨?_⟩⟩
    rcases uz Hr jH p with⟨g1,g2⟩ | ⟨ls,l',g1,g2,g3,_⟩
    . rw[g2];refine cL ?_;refine⟨W.ob,rfl,W.ob,eh,λY e H6 h1 h2 h3=>?_,TX⟩;obtain⟨rfl,IG⟩:=dn Y e;refine⟨_,rfl,h3 _ _ hl lx ld,IG,h1,⟨_,h2,?_⟩,λq o z zn tY=>h3 _ _ (W.kp _ _ z zn tY) zn tY⟩;have fg:aZ tr ((ps.take i).foldl (aZ tr) fs) p=kC ((ps.take i).foldl (aZ tr) fs) p:=by unfold aZ;rw[g1]
      rw[iy,fg]
      rcases Cd yQ mY p with⟨hp,hs⟩ | ⟨hp,hs⟩
      . rw[am hs];exact aq (Cb yQ mY) (kk h3)
      rw[hs,Cc hp];exact aq mY (kk h3)
    rw[g2];refine dZ ?_;refine⟨W.ob,rfl,(by rw[<-g2];exact ci.k (k:=.inr p) lQ),?_⟩;refine⟨W.ob,eh,g3,by omega,λY e qn H6 nq h1 h2 h3 h4=>?_,TX⟩;obtain⟨rfl,IG⟩:=dn Y e;refine⟨_,rfl,h4 _ _ hl lx ld,IG,h1,⟨_,h2,?_⟩,λq o z zn tY=>h4 _ _ (W.kp _ _ z zn tY) zn tY⟩;have fg:aZ tr ((ps.take i).foldl (aZ tr) fs) p=bP ((ps.take i).foldl (aZ tr) fs) p ls:=by unfold aZ;rw[g1]
    rw[iy,fg];exact iZ (F:=aY H6) (λkv f z=>z.1) ⟨rfl,qn,rfl,h3⟩ (aq mY (kk h4))
 rintro Z G ⟨v,rfl,hl,CT,W⟩;rw[ak]at CT W;rw[eI]at W;exact q1 ps G U CT W
structure QD(D x dx d b:Addr)(v:V)(xs:ae)(ps:Lp)(t:Str)(ch:Ch)(cs:Cs)(ow:Ow)(bk:Bk)(H:Hp):Prop where
 ob:H x=some (.ins D dx (b8 d b v))
 bo:∃tb,H b=some (.lst tb)/\Paired (dP H) tb bk
 la:(Str.empty::de bk).getLast?=some t
 tx:gu xs ps t ch cs ow
 tk:qj xs ps (Str.empty::de bk)
 up:uG bk=true
 bt:uF bk
 ln:bk.length<=300
theorem QD.same{v:V}{xs:ae}{ps:Lp}{t:Str}{ch:Ch}{cs:Cs}{ow:Ow}{bk:Bk}{H H':Hp}(h:QD D x dx d b v xs ps t ch cs ow bk H)(s:ac H H'):QD D x dx d b v xs ps t ch cs ow bk H':=⟨s _ _ h.ob,h.bo.elim λtb j=>j.elim λa c=>⟨tb,s _ _ a,aq c λ_ _=>dP.same s⟩,h.la,h.tx,h.tk,h.up,h.bt,h.ln⟩
theorem anB{β:Type}{cs:List (Str×β)}{c:Str}{n:β}(nd:(cs.map (·.1)).Nodup)(h:(c,n)∈cs):bP cs c n=cs:=by
 unfold bP;rw[am (sk.mpr ⟨_,h,bE rfl⟩)];have:cs.map (λf=>if f.1=c then(f.1,n) else f)=cs.map id:=by
  refine zV λf j=>?_
  by_cases e:f.1=c
  . rw[am e];have e1:look cs c=some f.2:=oM nd (by rw[<-e];exact j);rw[oM nd h]at e1;exact Prod.ext rfl (gw e1)
  rw[ah e];rfl
 rw[this,List.map_id]
inductive TY (Hc D:Addr):Sp where
 | mk {H:Hp}{Q:VK}{E:XK}{h j x dx d b:Addr}{z v:V}{xs:ae}{ps:Lp}{t:Str}{ch:Ch}{cs:Cs}{ow:Ow}{bk:Bk} (_:H h=some (.ins Hc j (jR z x))) (_:QD D x dx d b v xs ps t ch cs ow bk H) (_:∀H',ac H H'->Q (.bl true) H'):TY Hc D [.ref h] H Q E
theorem anC:aP [aso] [aso] (aA Px):=aV
theorem anD(j:Pg K mg base Pt):aw P w K mg base aI 6 j.HUp.f j.HUp.fd [aso] (TY j.Hc j.D):=by
 refine j.HUp.u.okL anC ?_;intro Y U outer s H vs Q E O h xX dX;obtain @⟨_,_,_,h,a0,x,dx,d,b,sv,v,xs,ps,t,ch,cs,ow,bk,hh,z,q⟩:=h;obtain⟨tb,G,J⟩:=id z.bo;exact⟨_,(aj (aX (ay (SI j) O rfl (al (bG (pv 0) rfl))))),hh,j.UH.cl,j.UH.nD,rfl,z.ob,G,J,z.bt,λH' s'=>by rw[z.up];exact q H' s'⟩
inductive IH (Hc T D:Addr):Sp where
 | mk {H:Hp}{Q:VK}{E:XK}{h j x dx d b:Addr}{z v:V}{xs:ae}{ps:Lp}{t:Str}{ch:Ch}{cs:Cs}{ow:Ow}{bk:Bk} (_:H h=some (.ins Hc j (jR z x))) (_:QD D x dx d b v xs ps t ch cs ow bk H) (_:∀v H',ac H H'->(∀L,gD H L->gG T (msk L H') v ch cs ow)->Q v H'):IH Hc T D [.ref h] H Q E
theorem anE:aP [aso] [aso] (aA Py):=aV
theorem TZ(j:Pg K mg base Pt):aw P w K mg base aI 6 j.HSt.f j.HSt.fd [aso] (IH j.Hc j.T j.D):=by
 refine j.HSt.u.okL anE ?_;intro Y U outer s H vs Q E O h xX dX;obtain @⟨_,_,_,h,a0,x,dx,d,b,sv,v,xs,ps,t,ch,cs,ow,bk,hh,z,q⟩:=h;obtain⟨tb,G,J⟩:=id z.bo;exact⟨_,(aj (aX (ay (Ii j) O rfl (al (bG (pv 0) rfl))))),hh,j.UH.cl,j.UH.nD,rfl,z.ob,G,J,by have:=z.ln;omega,z.la,z.tx,q⟩
theorem anF:aP [aso] [aso] (aA PD):=aV
theorem CU(j:Pg K mg base Pt):aw P w K mg base aI 7 j.HSK.f j.HSK.fd [aso] (IH j.Hc j.T j.D):=by
 refine j.HSK.u.okL anF ?_;intro av Ar outer s H vs Q E J h xX dX;obtain @⟨_,_,_,h,a0,x,dx,d,b,sv,v,xs,ps,t,ch,cs,ow,bk,hh,G,q⟩:=h;refine⟨_,(ai (bN (qH (jf (dr (pv 0) j.UH.cl j.HUp.mt (up (anD j)) J j.HUp.b .nil bJ)))
  (aj xf) cD)
  (aj (aX (dr (pv 0) j.UH.cl j.HSt.mt (up (TZ j)) J j.HSt.b .nil bJ)))),?_⟩
 refine⟨hh,rfl,hh,G,λH1 z=>⟨cL ?_⟩⟩;exact⟨z _ _ hh,rfl,z _ _ hh,G.same z,λv H' s' hv=>q v H' (z.trans s') λL U=>hv L λb Y=>(U b Y).elim λo O=>O.elim λe n=>⟨o,z _ _ e,n⟩⟩
inductive T0 (T D:Addr):Sp where
 | mk {H:Hp}{Q:VK}{E:XK}{x dx d b:Addr}{z j v:V}{xs:ae}{ps:Lp}{t:Str}{ch ch':Ch}{cs cs':Cs}{ow ow':Ow}{bk:Bk} (_:QD D x dx d b v xs ps t ch cs ow bk H) (_:gG T H j ch' cs' ow') (_:iJ xs ps ch' cs' ow') (_:cV ch' ch) (_:cV cs' cs) (_:cV ow' ow) (_:∀H',ac H H'->Q .non H'):T0 T D [z,.ref x,j] H Q E
theorem T1(j:Pg K mg base Pt):aw P w K mg base aI 8 j.DoD.f j.DoD.fd [asp,asv,asH] (T0 j.T j.D):=by
 refine j.DoD.u.okL oP ?_;intro av A outer s H vs Q E U h xX dX;obtain @⟨_,_,_,x,dx,d,b,sv,gv,v,xs,ps,t,ch,ch',cs,cs',ow,ow',bk,G,hG,O,r1,r2,r3,q⟩:=h;refine⟨_,(ai (aM (i:=3) oP.nd rfl (Or.inl rfl) (ay (Ii j) U rfl (al (pv 1))))
  (ai (aM (i:=4) oP.nd rfl (Or.inl rfl) (ay (BQ j) U rfl (al (pv 2))))
  (ai (bN (bL fV (ay (BQ j) U rfl (al (pv 3))) (pv 4) (bC _))
  (aj Ak) cD) xg))),?_⟩
 obtain⟨tb,b1,b2⟩:=id G.bo;refine⟨G.ob,b1,b2,by have:=G.ln;omega,G.la,G.tx,λv0 H1 Y J=>?_⟩;refine⟨?_⟩;dsimp only[dY,uP,Aa];refine O.sho (hG.same Y) λt1 c1 c2 c3 H2 y1 y2 y3 hT s2=>?_;have et:t1=t:=by
  rw[hT.tx,G.tx.tx,cV.eq O.ok.d1 y1 r1,cV.eq O.ok.d2 y2 r2,cV.eq O.ok.d3 y3 r3]
 have J:=J [] λb z=>nomatch z
 rw[uh]at J;refine⟨?_⟩;dsimp only[dY,uP,Aa];refine G.tx.sho (J.same s2) λH3 s3=>⟨rfl,⟨?_⟩⟩;exact bv (λ_=>q H3 (Y.trans (s2.trans s3))) (λz=>absurd (by rw[et];exact bE rfl) z)
inductive T2 (Hc T D:Addr):Sp where
 | mk {H:Hp}{Q:VK}{E:XK}{h j x dx d b c g o:Addr}{z v:V}{xs:ae}{ps:Lp}{t:Str}{ch ch':Ch}{cs cs':Cs}{ow ow':Ow}{bk:Bk} (_:H h=some (.ins Hc j (jR z x))) (_:QD D x dx d b v xs ps t ch cs ow bk H) (_:dj H c ch') (_:ue H g cs') (_:pX H o ow') (_:iJ xs ps ch' cs' ow') (_:cV ch' ch) (_:cV cs' cs) (_:cV ow' ow) (_:∀H',ac H H'->Q .non H'):T2 Hc T D [.ref h,.ref c,.ref g,.ref o] H Q E
theorem anH:aP [aso,asy,asD,asP] [aso,asy,asD,asP] (aA PF):=aV
theorem T3(j:Pg K mg base Pt):aw P w K mg base aI 9 j.HGo.f j.HGo.fd [aso,asy,asD,asP] (T2 j.Hc j.T j.D):=by
 refine j.HGo.u.okL anH ?_;intro av Ar outer s H vs Q E O h xX dX;obtain @⟨_,_,_,h,a0,x,dx,d,b,c,g,o,sv,v,xs,ps,t,ch,ch',cs,cs',ow,ow',bk,hh,Y,hc,hg,ho,J,r1,r2,r3,q⟩:=h;refine⟨_,(aj (bB (ay (T1 j) O rfl (dg (bG (pv 0) rfl) (bG (pv 0) rfl) (tu j.MTIn (up (BM j)) O rfl j.UT.mgC j.TIn.b .nil bJ (dg (pv 1) (pv 2) (pv 3))))))),?_⟩;refine⟨hh,j.UH.cl,j.UH.nS,rfl,hh,j.UH.cl,j.UH.nD,rfl,⟨⟨⟨?_⟩⟩⟩⟩;refine BN (T:=j.T) hc hg ho J.ok.d3 (by have:=J.o2;omega) λgx H1 ng U G=>?_;have G:=G [] λb z=>nomatch z
 rw[uh]at G;exact⟨Y.same U,G,J,r1,r2,r3,λH' s'=>q H' (U.trans s')⟩
inductive T4 (Hc T D:Addr):Sp where
 | mk {H:Hp}{Q:VK}{E:XK}{h j x dx d b:Addr}{z v:V}{xs:ae}{ps:Lp}{t:Str}{ch:Ch}{cs:Cs}{ow:Ow}{bk:Bk}{p:Str} (_:H h=some (.ins Hc j (jR z x))) (_:QD D x dx d b v xs ps t ch cs ow bk H) (_:p.length<=1000) (_:ri p=true) (_:p∉ow.map (·.1)) (_:∀H',ac H H'->Q .non H'):T4 Hc T D [.ref h,.str p] H Q E
theorem T6:aP [aso,asq,asO] [aso,asq] (aA PH):=aV
theorem anI(j:Pg K mg base Pt):aw P w K mg base aI 10 j.HFg.f j.HFg.fd [aso,asq] (T4 j.Hc j.T j.D):=by
 refine j.HFg.u.okL T6 ?_;intro av Ar outer s H vs Q E O h xX dX;obtain @⟨_,_,_,h,a0,x,dx,d,b,sv,v,xs,ps,t,ch,cs,ow,bk,p,hh,G,lp,hp,hn,q⟩:=h;refine⟨_,(ai (aM (i:=2) T6.nd rfl (Or.inl rfl) (dr (pv 0) j.UH.cl j.HSK.mt (up (CU j)) O j.HSK.b .nil bJ))
  (ai (bB (ay (ane j) O rfl (al (pv 1))))
  (aj (bB (gz (pv 0) j.UH.cl j.HGo.mt (up (T3 j)) O j.HGo.b .nil bJ (dg (bG (pv 2) rfl) (bG (pv 2) rfl) (ay (TJ j) O rfl (dg (bG (pv 2) rfl) (pv 1) iP)))))))),?_⟩
 refine⟨hh,rfl,hh,G,λv1 H1 s1 U=>⟨lp,hp,λH2 s2=>?_⟩⟩;have U:=U [] λb z=>nomatch z
 rw[uh]at U;obtain⟨va,Iw,Ix,c0,h0,o0,rfl,w1,w2,w3,w4,w5,w6,w7⟩:=U.same s2;have J:=s1.trans s2;obtain⟨ko,o1,Y⟩:=id w7;have lo:=bD Y;have so:=G.tx.so;have o8:=so.o2;refine⟨J _ _ hh,rfl,w1,j.UT.cl,j.UT.nC,w2,w1,j.UT.cl,j.UT.nH,w3,w1,j.UT.cl,j.UT.nO,w4,o1,by omega,λ_ o' H3 no s3 e3=>?_,λz=>absurd rfl z⟩
 rcases Cd (λkv e (z:i6 H2 kv e)=>z.1) Y p with⟨z,_⟩ | ⟨_,hs⟩
 . exact absurd z hn
 rw[hs]at e3;exact⟨(J.trans s3) _ _ hh,G.same (J.trans s3),w5.same s3,w6.same s3,⟨_,e3,aq Y λ_ _=>i6.same s3⟩,so,G.tx.s1,G.tx.s2,G.tx.s3,λH' s'=>q H' (J.trans (s3.trans s'))⟩
inductive T7 (Hc T D:Addr):Sp where
 | mk {H:Hp}{Q:VK}{E:XK}{h j x dx d b:Addr}{z v:V}{xs:ae}{ps:Lp}{t:Str}{ch:Ch}{cs:Cs}{ow:Ow}{bk:Bk}{c n:Str} (_:H h=some (.ins Hc j (jR z x))) (_:QD D x dx d b v xs ps t ch cs ow bk H) (_:(c,n)∈cs) (_:∀H',ac H H'->Q .non H'):T7 Hc T D [.ref h,.str c,.str n] H Q E
theorem T8:aP [aso,asN,asu,asO] [aso,asN,asu] (aA PJ):=aV
theorem anJ(j:Pg K mg base Pt):aw P w K mg base aI 10 j.HCh.f j.HCh.fd [aso,asN,asu] (T7 j.Hc j.T j.D):=by
 refine j.HCh.u.okL T8 ?_;intro av Ar outer s H vs Q E O h xX dX;obtain @⟨_,_,_,h,a0,x,dx,d,b,sv,v,xs,ps,t,ch,cs,ow,bk,c,n,hh,G,hm,q⟩:=h;have so:=G.tx.so;obtain⟨m1,m2⟩:=so.ok.ok.cs _ hm;have l1:c.length<=8:=m1.hi;have l2:n.length<=8:=m2.hi;refine⟨_,(ai (aM (i:=3) T8.nd rfl (Or.inl rfl) (dr (pv 0) j.UH.cl j.HSK.mt (up (CU j)) O j.HSK.b .nil bJ))
  (ai (bB (ay (TD j) O rfl (al (pv 1))))
  (ai (bN (bL As (pv 2) iP (bC _))
  (aj (bB (ay (TD j) O rfl (al (pv 2))))) cD)
  (aj (bB (gz (pv 0) j.UH.cl j.HGo.mt (up (T3 j)) O j.HGo.b .nil bJ (dg (bG (pv 3) rfl) (ay (TJ j) O rfl (dg (bG (pv 3) rfl) (pv 1) (pv 2))) (bG (pv 3) rfl)))))))),?_⟩
 refine⟨hh,rfl,hh,G,λv1 H1 s1 Y=>⟨by omega,m1.name,λH2 s2=>?_⟩⟩;refine⟨rfl,⟨bv (λ_=>?_) (λz=>absurd rfl z)⟩⟩;refine⟨by omega,m2.name,λH3 s3=>?_⟩;have Y:=Y [] λb z=>nomatch z
 rw[uh]at Y;obtain⟨va,Iw,Ix,c0,h0,o0,rfl,w1,w2,w3,w4,w5,w6,w7⟩:=Y.same (s2.trans s3);have U:=s1.trans (s2.trans s3);obtain⟨ko,o1,o2⟩:=id w6;have lo:=bD o2;have o8:=so.ok.n2;refine⟨U _ _ hh,rfl,w1,j.UT.cl,j.UT.nC,w2,w1,j.UT.cl,j.UT.nH,w3,o1,by omega,(λz=>nomatch z),λ_ d' H4 nd J e4=>?_⟩;have pr:Paired pY (cx ko (.inr c) (.str n)) cs:=by
  have:=iZ (F:=pY) (x:=c) (ls:=n) (v:=.str n) (λkv e z=>z.1) ⟨rfl,rfl⟩ o2
  rwa [anB so.ok.d2 hm]at this
 refine⟨J _ _ w1,j.UT.cl,j.UT.nO,w4,?_⟩;exact⟨(U.trans J) _ _ hh,G.same (U.trans J),w5.same J,⟨_,e4,pr⟩,w7.same J,so,G.tx.s1,G.tx.s2,G.tx.s3,λH' s'=>q H' (U.trans (J.trans s'))⟩
inductive T9 (D:Addr):Sp where
 | mk {H:Hp}{Q:VK}{E:XK}{x dx d b:Addr}{j v:V}{xs:ae}{ps:Lp}{t:Str}{ch:Ch}{cs:Cs}{ow:Ow}{bk:Bk} (_:QD D x dx d b v xs ps t ch cs ow bk H) (_:∀H',ac H H'->Q (.bl false) H'):T9 D [j,.ref x] H Q E
theorem anK:aP [asp,asv] [asp,asv] (aA rm):=aV
theorem anL(j:Pg K mg base Pt):aw P w K mg base aI 6 j.CoU.f j.CoU.fd [asp,asv] (T9 j.D):=by
 refine j.CoU.u.okL anK ?_;intro Y U outer s H vs Q E O h xX dX;obtain @⟨_,_,_,x,dx,d,b,sv,v,xs,ps,t,ch,cs,ow,bk,z,q⟩:=h;obtain⟨tb,G,J⟩:=id z.bo;exact⟨_,(ai (bN (jf (ay (SI j) O rfl (al (pv 1)))) (aj (aX qG)) cD) xg),z.ob,G,J,z.bt,λH' s'=>⟨by rw[z.up];exact dZ (q H' s')⟩⟩
inductive Ua (Hc D:Addr):Sp where
 | mk {H:Hp}{Q:VK}{E:XK}{h j x dx d b:Addr}{z v:V}{xs:ae}{ps:Lp}{t:Str}{ch:Ch}{cs:Cs}{ow:Ow}{bk:Bk} (_:H h=some (.ins Hc j (jR z x))) (_:QD D x dx d b v xs ps t ch cs ow bk H) (_:∀H',ac H H'->Q (.bl false) H'):Ua Hc D [.ref h] H Q E
theorem anM:aP [aso] [aso] (aA PB):=aV
theorem anN(j:Pg K mg base Pt):aw P w K mg base aI 7 j.HCo.f j.HCo.fd [aso] (Ua j.Hc j.D):=by
 refine j.HCo.u.okL anM ?_;intro O J outer s H vs Q E G h xX U;obtain @⟨_,_,_,h,Y,x,dx,d,b,sv,v,xs,ps,t,ch,cs,ow,bk,hh,z,q⟩:=h;exact⟨_,(aj (aX (D8 (up (anL j)) G rfl j.CoU.mB j.CoU.u.kp j.CoU.b .nil bJ (aL (bG (pv 0) rfl) (bG (pv 0) rfl))))),hh,j.UH.cl,j.UH.nS,rfl,hh,j.UH.cl,j.UH.nD,rfl,z,q⟩
inductive Ub (K:Fg):Sp where
 | mk {H:Hp}{Q:VK}{E:XK}{n:Int}{l:Addr}{zs:ae} (_:aa K H l zs) (_:Q (.bl (decide (0<=n/\n<zs.length))) H):Ub K [.int n,.ref l] H Q E
theorem anO:aP [asU,"things"] [asU,"things"] (aA Oe):=aV
theorem anP(j:Pg K mg base Pt):aw P w K mg base aI 1 j.IPl.f j.IPl.fd [asU,"things"] (Ub K):=by
 refine j.IPl.u.okL anO ?_;intro J A outer s H vs Q E U h Y O;obtain @⟨_,_,_,n,l,zs,G,q⟩:=h;refine⟨_,(aj (aX (sV (cg AH (by rfl) j.B.isinstance JK (aL (pv 0) (Ai (v:=.ty "int") rfl j.B.int aqS rfl))) (sV (W0 (cg AH (by rfl) j.B.isinstance JK (aL (pv 0) (Ai (v:=.ty "bool") rfl j.B.bool PyProof.Rows.boot_bool rfl)))) (sU (DR Aq qJ ar (pv 0) (cg fA (by rfl) j.B.len eX (al (pv 1))))))))),?_⟩;refine⟨_,_,_,_,rfl,.int _,rfl,⟨dZ ?_⟩⟩;refine⟨_,_,_,_,rfl,.int _,rfl,⟨⟨dZ ?_⟩⟩⟩;refine⟨⟨⟨bv (λh=>?_) (λh=>?_)⟩⟩⟩
 . have h:=cT h;refine⟨l,_,rfl,.inl G,⟨?_⟩⟩;have e:decide (0<=n/\n<zs.length)=decide (n<(zs.length:Int)):=wT.mpr ⟨λz=>z.2,λz=>⟨h,z⟩⟩;rw[e]at q;exact q
 have e:decide (0<=n/\n<zs.length)=false:=cu λz=>h (bE z.1);rw[e]at q;exact q
inductive Uc (D T:Addr):Sp where
 | mk {H:Hp}{Q:VK}{E:XK}{x dx d b:Addr}{v:V}{tb:ae}{bk:Bk}{xs:ae}{ps:Lp} (_:H x=some (.ins D dx (b8 d b v))) (_:H b=some (.lst tb)) (_:Paired (dP H) tb bk) (_:bk.length<=500) (_:qj xs ps (Str.empty::de bk)) (_:∀l zs H',H l=none->ac H H'->H' l=some (.lst zs)->(∀L,gD H L->Paired (uI xs ps T (msk (l::L) H')) zs (Str.empty::de bk))->Q (.ref l) H'):Uc D T [.ref x] H Q E
theorem anQ:aP [asv] [asv] (aA Of):=aV
theorem anR(G:Pg K mg base Pt):aw P w K mg base aI 5 G.FoO.f G.FoO.fd [asv] (Uc G.D G.T):=by
 refine G.FoO.u.okL anQ ?_;intro av A outer s H vs Q E hr h xX dX;obtain @⟨_,_,_,x,dx,d,b,v,tb,bk,xs,ps,hx,hb,pb,oK,tok,q⟩:=h;refine⟨_,(aj (aX (fY [asC] [] [] dM rfl (cG (ay (SK G) hr rfl (al (pv 0)))) (λ_ _ _ _=>(be (i:=0) (show List.Nodup ([asC]:Ls) by decide +kernel) rfl (Or.inl rfl))) (λ_ _ _ _=>gj) (λ_ _ _ _=>(ay (QB G) hr rfl (al (pv 0))))))),?_⟩;refine⟨hx,hb,pb,oK,λr H1 n1 s1 e1=>⟨⟨_,aa.of e1⟩,?_⟩⟩;have bl:(de bk).length<=500:=by
  unfold de;rw[ak];exact cn (zK _ _) oK
 generalize a0:Str.empty::de bk=ts at e1 tok q;have tl:ts.length<=501:=by rw[<-a0,cq];omega
 intro Y uH;refine GF (σ0:=[none]) uH (aa.of e1) (λZ=>∃u,Z=[u]) (λj zs Hx=>zs.length=j/\∀L,gD H L->Paired (uI xs ps G.T (msk (Y::L) Hx)) zs (ts.take j)) ⟨_,rfl⟩ ⟨rfl,λ_ _=>.nil⟩ ?_ ?_
 . rintro j y zs Z H3 k O ⟨u,rfl⟩ cZ h3 ⟨zl,U⟩ hk;rw[c8]at O;cases J:ts[j]? with
   | none=>rw[J]at O;cases O
   | some t=>
    rw[J]at O;cases O;obtain⟨ch,cs,ow,hT⟩:=tok t (da J);have aT:=(cM.mp J).1;refine⟨hT.not λv H4 s4 hv=>?_⟩;refine hk _ _ _ ⟨_,rfl⟩ s4 (bQ (by omega)) ⟨by rw[bI,zl];rfl,λL hL=>?_⟩;rw[q5 bH,lR J];refine iD ⟨ch,cs,ow,hv (Y::L) λb hb=>?_,hT⟩ (aq (U L hL) λ_ _=>uI.same (gP s4))
    rcases bf.mp hb with e | hb
    . rw[e];exact⟨_,cZ,by intro vs z;cases z⟩
    obtain⟨o,eo,no⟩:=hL b hb;exact⟨o,(s1.trans h3) _ _ eo,no⟩
 rintro zs H3 cZ h3 ⟨_,U⟩;rw[ak,eI]at U;exact q Y zs H3 (s1.free uH) (s1.trans h3) cZ U
inductive Ud (Hc T D:Addr):Sp where
 | mk {H:Hp}{Q:VK}{E:XK}{h j x dx d b:Addr}{z v:V}{xs:ae}{ps:Lp}{t:Str}{ch:Ch}{cs:Cs}{ow:Ow}{bk:Bk} (_:H h=some (.ins Hc j (jR z x))) (_:QD D x dx d b v xs ps t ch cs ow bk H) (_:∀l zs H',H l=none->ac H H'->H' l=some (.lst zs)->(∀L,gD H L->Paired (uI xs ps T (msk (l::L) H')) zs (Str.empty::de bk))->Q (.ref l) H'):Ud Hc T D [.ref h] H Q E
theorem anT:aP [aso] [aso] (aA Pz):=aV
theorem Ue(j:Pg K mg base Pt):aw P w K mg base aI 6 j.HFo.f j.HFo.fd [aso] (Ud j.Hc j.T j.D):=by
 refine j.HFo.u.okL anT ?_;intro Y U outer s H vs Q E O h xX dX;obtain @⟨_,_,_,h,a0,x,dx,d,b,sv,v,xs,ps,t,ch,cs,ow,bk,hh,z,q⟩:=h;obtain⟨tb,G,J⟩:=id z.bo;exact⟨_,(aj (aX (ay (anR j) O rfl (al (bG (pv 0) rfl))))),hh,j.UH.cl,j.UH.nD,rfl,z.ob,G,J,by have:=z.ln;omega,z.tk,q⟩
inductive Uf (Hc T D:Addr):Sp where
 | mk {H:Hp}{Q:VK}{E:XK}{h j x dx d b:Addr}{z v:V}{xs:ae}{ps:Lp}{t:Str}{ch:Ch}{cs:Cs}{ow:Ow}{bk:Bk}{n:Int} (_:H h=some (.ins Hc j (jR z x))) (_:QD D x dx d b v xs ps t ch cs ow bk H) (_:n=(de bk).length) (_:∀H',ac H H'->Q .non H'):Uf Hc T D [.ref h,.int n] H Q E
theorem Ug:aP [aso,asU,"formers"] [aso,asU] (aA PL):=aV
theorem anU(j:Pg K mg base Pt):aw P w K mg base aI 10 j.HBa.f j.HBa.fd [aso,asU] (Uf j.Hc j.T j.D):=by
 refine j.HBa.u.okL Ug ?_;intro av Ar outer s H vs Q E O h xX dX;obtain @⟨_,_,_,h,a0,x,dx,d,b,sv,v,xs,ps,t,ch,cs,ow,bk,n,hh,G,en,q⟩:=h;refine⟨_,(ai (bB (dr (pv 0) j.UH.cl j.HSK.mt (up (CU j)) O j.HSK.b .nil bJ))
  (ai (aM (i:=2) Ug.nd rfl (Or.inl rfl) (dr (pv 0) j.UH.cl j.HFo.mt (up (Ue j)) O j.HFo.b .nil bJ))
  (ai (bN (qH (jf (ay (anP j) O rfl (aL (pv 1) (pv 2)))))
  (aj xf) cD)
  (aj (bB (ay (T1 j) O rfl (dg (bG (pv 0) rfl) (bG (pv 0) rfl) (bO fW (pv 2) (pv 1) (λ_ _=>rfl))))))))),?_⟩
 refine lG ?_;intro dD sS u4 u3 u2;refine⟨hh,rfl,hh,G,λv1 H1 Y hv=>?_⟩;refine⟨Y _ _ hh,rfl,Y _ _ hh,G.same Y,λl zs H2 n2 s2 e2 U=>?_⟩;have wo:=Y.trans s2;have U:=U [] λb z=>nomatch z
 have pl:=bD U;rw[cq]at pl;refine⟨aa.of e2,⟨?_⟩⟩;rw[show decide (0<=n/\n<zs.length)=true from bE ⟨by omega,by omega⟩];refine cL ?_;have la:(Str.empty::de bk)[(de bk).length]?=some t:=by
  have:=G.la;rw[List.getLast?_eq_getElem?,cq]at this;exact this
 obtain⟨fv,hz,ch',cs',ow',eM,J⟩:=yi U la;obtain⟨rfl,rfl,rfl⟩:=J.uniq G.tx;have at':cI zs n=some fv:=by rw[en];exact AB hz
 have jS:=wo _ _ hh;refine⟨jS,j.UH.cl,j.UH.nS,rfl,jS,j.UH.cl,j.UH.nD,rfl,aa.of e2,at',?_⟩;exact⟨G.same wo,eM.same aQ,J.so,J.s1,J.s2,J.s3,λH' s'=>q H' (wo.trans s')⟩
def CV(a b:Bool):Str:=if a=true then(if b=true then "unlike" else "strange") else "gone"
inductive Uh:Sp where
 | mk {H:Hp}{Q:VK}{E:XK}{p:Str}{f t:Addr}{j z:List (ao×V)} (_:H f=some (.dK j)) (_:H t=some (.dK z)) (_:Q (.str (CV (bi j (.inr p)).isSome (bi z (.inr p)).isSome)) H):Uh [.str p,.ref f,.ref t] H Q E
theorem anV:aP [asq,asz,asM] [asq,asz,asM] (aA Og):=aV
theorem anW(j:Pg K mg base Pt):aw P w K mg base aI 1 j.WFo.f j.WFo.fd [asq,asz,asM] Uh:=by
 refine j.WFo.u.okL anV ?_;intro av Ar outer s H vs Q E O h xX dX;obtain @⟨_,_,_,p,f,t,Y,kt,J,U,q⟩:=h;have G:=O.units;refine⟨_,(ai (bN (jy (xC G (pv 0) (pv 1)) (by rfl)) (aj (aX bT)) cD)
  (aj (aX (Ka (jy (pH G (pv 0) (pv 2)) (by rfl)) bT bT)))),?_⟩
 refine⟨_,ci.k (k:=.inr p) J,⟨?_⟩⟩;cases e:(bi Y (.inr p)).isSome with
 | false=>rw[e]at q;exact dZ q
 | true=>
  rw[e]at q;refine cL ?_;refine⟨_,ci.k (k:=.inr p) U,⟨?_⟩⟩;cases z:(bi kt (.inr p)).isSome with
  | false=>rw[z]at q;exact cL q
  | true=>rw[z]at q;exact dZ q
end
end K73
namespace L2
theorem anX{X:Cx}:cw X (compareOp .Is) (λx y H Q=>∃c d,x=.bl c/\y=.bl d/\Q (.bl (c == d)) H):=by
 intro ad s Z H x y v u Q I j z h;obtain⟨c,d,rfl,rfl,q⟩:=h;cases j;cases z;exact is_bool ⟨.bl _,H,I,rfl,q⟩
end L2
namespace K73
section
seal PE PS bW PA PT PW PG eY PI eS
def gK(fs tr:Tr)(p:Str):Str×Str:=(p,CV (look fs p).isSome (look tr p).isSome)
def jw(H H':Hp)(v:V)(e:Str×Str):Prop:=∃t,v=.ref t/\H t=none/\H' t=some (.tup [.str e.1,.str e.2])
theorem jw.same{H H' j:Hp}(s:ac H' j){v:V}{e:Str×Str}(h:jw H H' v e):jw H j v e:=h.elim λt z=>z.elim λa G=>G.elim λb c=>⟨t,a,b,s _ _ c⟩
theorem Ui{H:Hp}{kvs:List (ao×V)}{fs:Tr}(h:Paired (aY H) kvs fs)(nd:(fs.map (·.1)).Nodup)(p:Str):(bi kvs (.inr p)).isSome=(look fs p).isSome:=by
 rcases uz h nd p with⟨a,b⟩ | ⟨ls,l,a,b,_⟩
 . rw[a,b];rfl
 rw[a,b];rfl
inductive II (Hc C S D Pt:Addr):Sp where
 | mk {H:Hp}{Q:VK}{E:XK}{h G x dx d b:Addr}{z v:V}{xs:ae}{ps:Lp}{ns:Ls}{t:Str}{ch:Ch}{cs:Cs}{ow:Ow}{bk:Bk}{j:List (ao×V)}{fs:Tr} (_:H h=some (.ins Hc G (jR z x))) (_:kF C S H z xs ps ns) (_:QD D x dx d b v xs ps t ch cs ow bk H) (_:H d=some (.dK j)) (_:Paired (aY H) j fs) (_:(fs.map (·.1)).Nodup) (_:bU fs) (_:fs.length<=36) (_:aH H Pt cW cR)
  (_:∀l zs tr us H',jo Pt H H'->aH H' Pt cW cR->ju ps ch cs ow tr->(tr.map (·.1)).Nodup->tr.length<=24->bU tr->dz fs tr us->H l=none->H' l=some (.lst zs)->Paired (jw H H') zs (us.map (gK fs tr))->Q (.ref l) H'):II Hc C S D Pt [.ref h] H Q E
theorem IJ:aP [aso,asM,asz] [aso] (aA PM):=aV
theorem zr(G:Pg K mg base Pt):aw P w K mg base aI 9 G.HLo.f G.HLo.fd [aso] (II G.Hc G.C G.S G.D Pt):=by
 refine G.HLo.u.okL IJ ?_;intro av Ar outer s H vs Q E hr h xX dX;obtain @⟨_,_,_,h,a9,x,dx,d,b,sv,v,xs,ps,ns,t,ch,cs,ow,bk,kd,fs,hh,hW,hD,hd,pd,dE,gW,nn,a0,q⟩:=h;refine⟨_,(ai (aM (i:=1) IJ.nd rfl (Or.inr rfl) (ay (yT G) hr rfl (aL (bG (pv 0) rfl) (dr (pv 0) G.UH.cl G.HSK.mt (up (CU G)) hr G.HSK.b .nil bJ))))
  (ai (aM (i:=2) IJ.nd rfl (Or.inr rfl) (dr (bG (pv 0) rfl) G.UD.cl G.FNo.mt (up (uy G)) hr G.FNo.b .nil bJ))
  (aj (aX (fY [asq] [asz,asM] [2,1] dM rfl (cG (ay (Ho G) hr rfl (aL (pv 2) (pv 1)))) (λ_ _ _ _=>(be (i:=0) (show List.Nodup ([asq,asz,asM]:Ls) by decide +kernel) rfl (Or.inl rfl))) (λ_ _ _ _=>gj) (λ_ _ _ _=>(eT (aL (pv 0) (ay (anW G) hr rfl (dg (pv 0) (pv 1) (pv 2))))))))))),?_⟩
 refine jn ?_;intro dD sS u3 u2;refine⟨hh,G.UH.cl,G.UH.nS,rfl,hh,rfl,hh,hD,λv1 H1 J hv=>?_⟩;have hv:=hv [] λb z=>nomatch z
 rw[uh]at hv;have O:=hW.same J;have so:=hD.tx.so;have cB:fe xs ps ch:=⟨so.ok.d1,so.va⟩;refine⟨O.sh,O.pc,O.pcok,O.n4,hv,so.va,cB.len O.ap O.n4,so.o2,so.ok.okO,λe he=>(so.ok.ok.cs e he).2.ln,a0.same J,λt5 H2 kvs tr n5 kT ni e5 qk gJ lT fL iM=>?_⟩;have kH:=a0.same J;have k2:∀{q:Addr}{o:HO},H q=some o->(∀φ,o≠.ext φ)->H2 q=some o:=λe n=>kT _ _ (J _ _ e) (aH.ne kH (J _ _ e) n);have jS:=k2 hh (by intro φ z;cases z);have fZ:=k2 hD.ob (by intro φ z;cases z);have a8:=k2 hd (by intro φ z;cases z);have wx:Paired (aY H2) kd fs:=aq pd λ_ _ a1=>a1.elim λz1 a2=>a2.elim λl a3=>a3.elim λz2 z3=>⟨z1,l,z2,k2 z3 (by intro φ z;cases z)⟩;have pw:Paired (aY H2) kvs tr:=aq qk λ_ _ z=>z.du;refine⟨jS,G.UH.cl,G.UH.nD,rfl,fZ,rfl,fZ,a8,wx,dE,by omega,λr H3 kr nr s3 e3 ky=>?_⟩;have Uj:Paired (aY H3) kr fs:=aq ky λ_ _ a4=>a4.elim λz1 a5=>a5.elim λl a6=>a6.elim λz2 a7=>a7.elim λ_ z3=>⟨z1,l,z2,z3⟩;refine⟨e3,s3 _ _ e5,Uj,aq pw λ_ _=>aY.same s3,dE,gJ,gW,fL,wf (by omega),λlk H4 us n4 s4 e4 U=>⟨⟨_,aa.of e4⟩,?_⟩⟩;have ul:=U.len;have qh:=s3.trans s4;intro D' uH;have fr:∀{q:Addr},H4 q=none->H q=none:=λ{q} e=>by
  cases hq:H q with
  | none=>rfl
  | some o=>
   by_cases z:q=Pt
   . obtain⟨φ,w⟩:=aH.at ni;rw[z,qh _ _ w]at e;cases e
   rw[qh _ _ (kT _ _ (J _ _ hq) z)]at e;cases e
 refine GF (σ0:=[none,some (.ref r),some (.ref t5)]) uH (aa.of e4) (λZ=>∃u,Z=[u,some (.ref r),some (.ref t5)]) (λj zs Hx=>zs.length=j/\Paired (jw H (msk [D'] Hx)) zs ((us.take j).map (gK fs tr))) ⟨_,rfl⟩ ⟨rfl,.nil⟩ ?_ ?_
 . rintro j y zs Z H5 k hy ⟨u,rfl⟩ eh Y ⟨zl,pr⟩ hk;rw[c8]at hy;cases hp:us[j]? with
   | none=>rw[hp]at hy;cases hy
   | some p=>
    rw[hp]at hy;cases hy;have aT:=(cM.mp hp).1;refine⟨Y _ _ (s4 _ _ e3),Y _ _ (qh _ _ e5),Ah,λtp H6 n6 s6 e6=>?_⟩;rw[Ui Uj dE p,Ui pw gJ p]at e6;refine hk _ _ _ ⟨_,rfl⟩ s6 (bQ (by omega)) ⟨by rw[bI,zl];rfl,?_⟩;rw[q5 bH,lR hp,dq];refine iD ⟨tp,rfl,fr (Y.free n6),cj (λm=>?_) e6⟩ (aq pr λ_ _=>jw.same (gP s6));rw[bF.mp m,eh]at n6;cases n6
 rintro zs H5 eh Y ⟨_,pr⟩;rw[ak,eI]at pr;exact q D' zs tr us H5 (λb o e n=>(qh.trans Y) _ _ (kT _ _ (J _ _ e) n)) (ni.same (qh.trans Y)) iM gJ lT fL U (fr uH) eh (aq pr λ_ _=>jw.same aQ)
variable {H H':Hp}
theorem IK{fs tr j:Tr}(h:look tr=look j):gK fs tr=gK fs j:=funext λp=>by unfold gK;rw[h]
theorem dz.of{fs tr j:Tr}{us:Ls}(h:look tr=look j)(u:dz fs tr us):dz fs j us:=⟨u.srt,u.nd,λk=>by rw[u.mem,h]⟩
structure DL(D x dx d b:Addr)(lf:Option Int)(fs:Tr)(H:Hp):Prop where
 ob:H x=some (.ins D dx (b8 d b (lv lf)))
 hd:∃kd,H d=some (.dK kd)/\Paired (aY H) kd fs
def jx(H H':Hp):Prop:=∀q o,H q=some o->(∀φ,o≠.ext φ)->H' q=some o
theorem jx.ofT{lp:Pos}{qu:Str}(t:aH H Pt lp qu)(k:jo Pt H H'):jx H H':=λq o e n=>k q o e (aH.ne t e n)
theorem jx.trans{j:Hp}(a:jx H H')(b:jx H' j):jx H j:=λq o e n=>b q o (a q o e n) n
theorem jx.of(s:ac H H'):jx H H':=λq o e _=>s q o e
theorem aY.kpe(k:jx H H'){kv:ao×V}{f:Str×Ls}(h:aY H kv f):aY H' kv f:=h.elim λa j=>j.elim λl G=>G.elim λb c=>⟨a,l,b,k _ _ c (by intro φ z;cases z)⟩
theorem QD.kpe{v:V}{xs:ae}{ps:Lp}{t:Str}{ch:Ch}{cs:Cs}{ow:Ow}{bk:Bk}(h:QD D x dx d b v xs ps t ch cs ow bk H)(k:jx H H'):QD D x dx d b v xs ps t ch cs ow bk H':=⟨k _ _ h.ob (by intro φ z;cases z),h.bo.elim λtb j=>j.elim λa c=>⟨tb,k _ _ a (by intro φ z;cases z),aq c λ_ _ G=>G.elim λt J=>J.elim λy z=>⟨t,y,k _ _ z (by intro φ w;cases w)⟩⟩,h.la,h.tx,h.tk,h.up,h.bt,h.ln⟩
inductive CW (Hc C S D Pt G:Addr):Sp where
 | mk {H:Hp}{Q:VK}{E:XK}{h J x dx d b:Addr}{O:V}{z:Option Int}{xs:ae}{ps:Lp}{ns:Ls}{t:Str}{ch:Ch}{cs:Cs}{ow:Ow}{bk:Bk}{fs:Tr} (_:HW Hc C S h J x O xs ps ns (msk [x,d,b,Pt] H)) (_:QD D x dx d b (lv z) xs ps t ch cs ow bk H) (_:DL D x dx d b z fs H) (_:(fs.map (·.1)).Nodup) (_:bU fs) (_:fs.length<=36) (_:aH H Pt cW cR) (_:∀m,z=some m->0<=m)
  (_:∀l zs tr us H',ju ps ch cs ow tr->(tr.map (·.1)).Nodup->tr.length<=24->bU tr->dz fs tr us->(∀m,z=some m->(us.length:Int)<=m)->H l=none->H' l=some (.lst zs)->Paired (jw H H') zs (us.map (gK fs tr))->DL D x dx d b (oQ z us.length) (us.foldl (aZ tr) fs) H'->cz x d b Pt H H'->H' b=H b->aH H' Pt cW cR->Q (.ref l) H')
  (_:∀tr us (j:Nat) H',ju ps ch cs ow tr->(tr.map (·.1)).Nodup->tr.length<=24->bU tr->dz fs tr us->z=some (j:Int)->j<us.length->DL D x dx d b (some 0) ((us.take j).foldl (aZ tr) fs) H'->cz x d b Pt H H'->H' b=H b->aH H' Pt cW cR->E (.ref G) none H'):CW Hc C S D Pt G [.ref h] H Q E
theorem Uk:aP [aso,"told"] [aso] (aA PN):=aV
theorem Ul(G:Pg K mg base Pt):aw P w K mg base (mP P w) 10 G.HMe.f G.HMe.fd [aso] (CW G.Hc G.C G.S G.D Pt G.Fa):=by
 refine G.HMe.u.okR Uk (λvs H Q E h=>?_) (λav Ar outer s H vs Q E hr h=>?_)
 . cases h;rfl
 refine tP ?_;intros;obtain @⟨_,_,_,h,a7,x,dx,d,b,sv,lf,xs,ps,ns,t,ch,cs,ow,bk,fs,hW,hD,hL,dE,gW,nn,a0,pos,q1,q2⟩:=h;obtain⟨kd,hd,pd⟩:=hL.hd;obtain⟨tb,hb,pb⟩:=hD.bo;refine⟨_,(ai (aM (i:=1) Uk.nd rfl (Or.inl rfl) (dr (pv 0) G.UH.cl G.HLo.mt (up (zr G)) hr G.HLo.b .nil bJ))
  (ai (bB (agL (ano G) hr rfl xP (aL (bG (pv 0) rfl) (ay (yT G) hr rfl (aL (bG (pv 0) rfl) (dr (pv 0) G.UH.cl G.HSt.mt (up (TZ G)) hr G.HSt.b .nil bJ))))))
  (aj (aX (pv 1))))),?_⟩
 refine jn ?_;intro dD sS u3 u2;have hh:=aQ _ _ hW.ob;refine⟨hh,rfl,hh,hW.wl.same aQ,hD,hd,pd,dE,gW,nn,a0,λl zs tr us H1 k1 kH iM gJ lT fL U nl el uJ=>?_⟩;have Um:cz x d b Pt H H1:=.ofT k1;have IL:=jx.ofT a0 k1;have CY:=aQ _ _ ((hW.same Um.msk).ob);have D1:=hD.kpe IL;refine⟨CY,G.UH.cl,G.UH.nD,rfl,CY,G.UH.cl,G.UH.nS,rfl,CY,rfl,CY,D1,λv2 H2 s2 CZ=>?_⟩;have CZ:=CZ [] λb z=>nomatch z
 rw[uh]at CZ;have Uo:cz x d b Pt H H2:=Um.trans (.of s2);have Y:=(hW.wl.same Uo.msk).same aQ;have O:=hD.tx.so;have cB:fe xs ps ch:=⟨O.ok.d1,O.va⟩;have ni:=kH.same s2;refine⟨Y.sh,Y.pc,Y.pcok,Y.n4,CZ,O.va,cB.len Y.ap Y.n4,O.o2,O.ok.okO,λe he=>(O.ok.ok.cs e he).2.ln,ni,λt5 H3 kvs zt n5 kT jP e5 qk IM Up IN IP=>?_⟩;have a5:cz x d b Pt H H3:=Uo.trans (.ofT kT);have C0:jx H H3:=IL.trans ((jx.of s2).trans (.ofT ni kT));have IQ:=C0 _ _ hL.ob (by intro φ z;cases z);have cZ:=C0 _ _ hd (by intro φ z;cases z);have rK:=C0 _ _ hb (by intro φ z;cases z);have a6:Paired (aY H3) kd fs:=aq pd λ_ _=>aY.kpe C0;have pw:Paired (aY H3) kvs zt:=aq qk λ_ _ z=>z.du;have a4:d≠t5:=λz=>by
  have:=s2 _ _ (IL _ _ hd (by intro φ z;cases z));rw[z,n5]at this;cases this
 have lk:look tr=look zt:=HQ Y.ap (.refl _) (.refl _) (.refl _) O.ok.d1 O.ok.d2 O.ok.d3 O.pt iM IP;have U':=U.of lk;have rest:∀{J:Hp}{m:Option Int}{gs:Tr},CS G.D x dx d b m gs H3 J->cz x d b Pt H J/\J b=H b/\aH J Pt cW cR/\DL G.D x dx d b m gs J:=λ{J m gs} T=>by
  refine⟨a5.trans λq o e n1 n2 _ _=>T.kp q o e n1 n2,?_,K73.aH.kp jP λq φ e=>T.kp _ _ e (aU e IQ (by intro z;cases z)) (aU e cZ (by intro z;cases z)),T.ob,T.hd⟩;rw[T.kp _ _ rK (aU rK IQ (by intro z;cases z)) (aU rK cZ (by intro z;cases z)),hb]
 refine⟨IQ,cZ,e5,a4,a6,pw,dE,IM,gW,IN,wf (by omega),pos,λUq J U2 hm T=>?_,λUq j J U2 ej hj T=>?_⟩
 . cases U2.eq U';obtain⟨k4,eb,jQ,L4⟩:=rest T;have nP:∀{q:Addr},H q=none->q≠x/\q≠d/\q≠Pt:=λe=>⟨(aO hL.ob e).symm,(aO hd e).symm,aH.new a0 e⟩;have Ur:∀{q:Addr}{o:HO},H q=none->H1 q=some o->J q=some o:=λn e=>T.kp _ _ (kT _ _ (s2 _ _ e) (nP n).2.2) (nP n).1 (nP n).2.1;refine⟨q1 l zs zt us J IP IM Up IN U' hm nl (Ur nl el) ?_ L4 k4 eb jQ⟩;rw[<-IK lk];exact aq uJ λ_ _ a1=>a1.elim λt a2=>a2.elim λy1 a3=>a3.elim λy2 y3=>⟨t,y1,y2,Ur y2 y3⟩
 cases U2.eq U';obtain⟨k4,eb,jQ,L4⟩:=rest T;exact q2 zt us j J IP IM Up IN U' ej hj L4 k4 eb jQ
end
section
seal PE PS bW PA PT PW PG eY PI eS
def fQ(fs:Tr):Prop:=∀f∈fs,fk f.1
inductive Us (D:Addr):Sp where
 | mk {H:Hp}{Q:VK}{E:XK}{x dx d b t:Addr}{c:Int}{fs tr:Tr}{j:List (ao×V)} (_:DL D x dx d b none fs H) (_:(fs.map (·.1)).Nodup) (_:bU fs) (_:fs.length<=400) (_:H t=some (.dK j)) (_:d≠t) (_:Paired (aY H) j tr) (_:(tr.map (·.1)).Nodup) (_:bU tr) (_:tr.length<=24) (_:fQ fs) (_:fQ tr)
  (_:∀eL p H',DL D x dx d b none eL H'->(eL.map (·.1)).Nodup->bU eL->fQ eL->(∀f∈eL,f.1=p\/f∈fs)->(∀q o,H q=some o->q≠d->H' q=some o)->Q .non H'):Us D [.ref x,.ref t,.int c] H Q E
theorem IR:aP [asG,asT,asx,atk] [asG,asT,asx] (aA Oh):=aV
theorem aoi(j:Pg K mg base Pt):aw P w K mg base aI 4 j.LSp.f j.LSp.fd [asG,asT,asx] (Us j.D):=by
 refine j.LSp.u.ok IR (λvs H Q E h=>?_) (λav Ar outer s H vs Q E J h=>?_)
 . cases h;rfl
 have hu:=J.units;have DB:=J.units0;refine tP ?_;intros;obtain @⟨_,_,_,x,dx,d,b,t,c,fs,tr,U,hL,dE,gW,a9,ht,Cn,pt,gJ,fL,lT,Ut,zu,q⟩:=h;refine⟨_,(ai (aM (i:=3) IR.nd rfl (Or.inl rfl) (ay (Ge j) J rfl (al (ay (gF j) J rfl (aL (pv 2) ar)))))
  (ER (bN (PW.pt (mn (bL fV (aJ cH (pv 2) ar) ar (bC _)) (ph (bL (adv DB) (pv 1) lE (bC _)))))
  (aj (aM (i:=3) IR.nd rfl (Or.inl rfl) (bO fW (cg (acG rfl) (by rfl) j.B.sorted sG (al (Zn zM aqz PySem.F.type_dict_keys acF (pv 1)))) (aJ cH (ay (gF j) J rfl (aL (pv 2) ar)) (cg aaN (by rfl) j.B.len eX (al (pv 1)))) (λ_ _=>rfl)))) cD)
  (aj (bN (bL fV (aJ cH (aJ iQ (pv 2) ar) ar) ar (bC _))
  (aj (bB (gz (pv 0) j.UD.cl j.DEr.mt (up (Rw j)) J j.DEr.b .nil bJ (al (pv 3))))) (aj (bN (PW.pt (mn (bL fV (aJ cH (aJ iQ (pv 2) ar) ar) ar (bC _)) (ph (jy (pH hu (pv 3) (pv 1)) (by rfl)))))
   (aj (bB (gz (pv 0) j.UD.cl j.DPt.mt (up (He j)) J j.DPt.b .nil bJ (aL (pv 3) (lm hu (pv 1) (pv 3) (λ_ _=>rfl)))))) (aj (bB (gz (pv 0) j.UD.cl j.DPt.mt (up (He j)) J j.DPt.b .nil bJ (aL (pv 3) (ay (BH j) J rfl (al (ay (gF j) J rfl (aL (pv 2) ar)))))))))))))),?_⟩
 have C1:∀{R:Hp} kv f,aY R kv f->kv.1=Sum.inr f.1:=λkv f z=>z.1;have lk:=bD pt;refine⟨⟨λm1=>⟨λp0 H1 Uu s1=>?_⟩⟩⟩;refine⟨λσ' H'=>∃p,σ'=[some (.ref x),some (.ref t),some (.int c),some (.str p)]/\ac H H'/\fk p,?_,?_⟩
 . refine⟨(by show(0:Int)<2;decide),rfl,⟨bv (λ_=>?_) (λ_=>cL ⟨p0,rfl,s1,Uu.1.ln.ok⟩)⟩⟩;refine⟨λz H5 n5 s5 e5=>?_⟩;have yC:=s1.trans s5;have dh:=yC _ _ ht;refine⟨t,z,U,rfl,rfl,dh,e5,⟨bv (λcU=>?_) (λ_=>⟨p0,rfl,yC,Uu.1.ln.ok⟩)⟩⟩;refine⟨.inr (.inr (.inl ⟨rfl,.inl ⟨_,dh⟩⟩)),t,_,rfl,rfl,dh,λv6 H6 n6 s6 e6=>?_⟩;refine⟨v6,t,U,_,rfl,e6,s6 _ _ dh,oC C1 pt,by omega,λzs zp _ l7 H7 n7 s7 e7=>?_⟩;refine⟨⟨λm2=>?_⟩⟩;have pP:0<U.length:=by
    cases U with
    | nil=>cases cU
    | cons a b=>simp
   have zl:zs.length=U.length:=by rw[zp.length_eq,ak,lk]
   obtain⟨y,a5,a6⟩:=vn (xs:=zs) (r:=m2 % (U.length:Int)) (sq _ (by omega)) (by rw[zl];exact uQ _ (by omega));refine⟨t,U,rfl,s7 _ _ (s6 _ _ dh),(by show(0:Int)<(U.length:Int);omega),aa.of e7,a5,?_⟩;have my:y∈tr.map (·.1):=zp.mem_iff.mp (da a6);obtain⟨f,mf,rfl⟩:=ca.mp my;exact⟨f.1,rfl,yC.trans (s6.trans s7),zu f mf⟩
 rintro σ' H2 ⟨p,rfl,s2,a7⟩;have O:=s2 _ _ hL.ob;obtain⟨kd,hd,pd⟩:=hL.hd;have a0:=s2 _ _ hd;have Uv:=s2 _ _ ht;have a8:Paired (aY H2) U tr:=aq pt λ_ _=>aY.same s2;have wx:Paired (aY H2) kd fs:=aq pd λ_ _=>aY.same s2;have kl:=bD pd;have kk:∀{H3:Hp},(∀p o,H2 p=some o->p≠d->H3 p=some o)->∀kv f,aY H2 kv f->aY H3 kv f:=λh3 kv f a2=>a2.elim λz1 a3=>a3.elim λl3 a4=>a4.elim λz2 z3=>⟨z1,l3,z2,h3 _ _ z3 (aU z3 a0 (by intro z;cases z))⟩;have xd:x≠d:=aU O a0 (by intro z;cases z);have pu:∀{H3 Y:Hp}{l qn:Addr}{ls:Ls},ac H2 H3->(∀y∈ls,Ln y)->H3 qn=none->Y d=some (.dK (cx kd (.inr p) (.ref qn)))->Y qn=some (.lst (ls.map V.str))->(∀p o,H3 p=some o->p≠d->Y p=some o)->Q .non Y:=λ{H3 Y l qn ls} s3 ok nq e1 e2 k=>by
  have k':∀p o,H2 p=some o->p≠d->Y p=some o:=λp o e n=>k _ _ (s3 _ _ e) n;refine q (bP fs p ls) p Y ⟨k' _ _ O xd,_,e1,iZ (F:=aY Y) C1 ⟨rfl,qn,rfl,e2⟩ (aq wx (kk k'))⟩ (lH dE) (λf G=>(kj G).elim (λz=>by rw[z];exact ok) (gW f)) (λf G=>(kj G).elim (λz=>by rw[z];exact a7) (Ut f)) (λf G=>(kj G).elim (λz=>.inl (by rw[z])) .inr) λq o e n=>k' _ _ (s2 _ _ e) n
 refine⟨⟨by omega,by omega⟩,(by show(0:Int)<4;decide),rfl,⟨?_⟩⟩;refine bv (λ_=>?_) (λ_=>?_)
 . refine⟨O,rfl,O,a0,λH3 e1 k=>?_⟩;refine q (kC fs p) p H3 ⟨k _ _ O xd,_,e1,?_⟩ (dE.sublist (zY.map _)) (λf G=>gW f (lX.mp G).1) (λf G=>Ut f (lX.mp G).1) (λf G=>.inr (lX.mp G).1) λq o e n=>k _ _ (s2 _ _ e) n
   rcases Cd C1 wx p with⟨_,hs⟩ | ⟨hn,hs⟩
   . rw[am hs];exact aq (Cb C1 wx) (kk k)
   rw[hs,Cc hn];exact aq wx (kk k)
 have a1:Kb (Ax j.D "put" (Hd K j.D) [] E0 (mj 0) (eP (mj 3) (eP (xq Ga [] E0 (eP (xq F9 [] E0 (eP (mj 2) (eP (tC (.int 3)) dY))) dY)) dY))) ⟨λ_ H'=>Q .non H',Q,λ_ _=>False,λ_ _=>False⟩ [some (.ref x),some (.ref t),some (.int c),some (.str p)] H2:=by
  refine⟨O,rfl,⟨⟨⟨λm2=>⟨λl1 H5 ls nl s5 e6 k6 o6=>?_⟩⟩⟩⟩⟩;exact⟨s5 _ _ O,s5 _ _ a0,e6,by omega,λqn H6 nq h2 h3 h4=>pu (l:=l1) s5 (λy hy=>(o6 y hy).ln) nq h2 h3 h4⟩
 refine⟨⟨by omega,by omega⟩,(by show(0:Int)<4;decide),rfl,⟨?_⟩⟩;refine bv (λ_=>?_) (λ_=>cL a1);refine⟨_,ci.k (k:=.inr p) Uv,⟨?_⟩⟩
 rcases uz a8 gJ p with⟨_,g2⟩ | ⟨ls,l',_,g2,g3,g4⟩
 . rw[g2];exact cL a1
 rw[g2];refine dZ ?_;refine⟨O,rfl,(by rw[<-g2];exact ci.k (k:=.inr p) Uv),?_⟩;exact⟨O,a0,g3,by omega,λqn H6 nq h2 h3 h4=>pu (l:=l') (ac.refl _) (fL _ g4) nq h2 h3 h4⟩
inductive Uw:Sp where
 | mk {H:Hp}{Q:VK}{E:XK}{f t:Addr}{j z:List (ao×V)}{fs tr:Tr} (_:H f=some (.dK j)) (_:H t=some (.dK z)) (_:Paired (aY H) j fs) (_:Paired (aY H) z tr) (_:(fs.map (·.1)).Nodup) (_:(tr.map (·.1)).Nodup) (_:bU fs) (_:bU tr) (_:fs.length<=36) (_:tr.length<=24)
  (_:∀l zs us H',H l=none->ac H H'->H' l=some (.lst zs)->dz fs tr us->Paired (jw H H') zs (us.map (gK fs tr))->Q (.ref l) H'):Uw [.ref f,.ref t] H Q E
theorem IS:aP [as6,asT,"_law_due_here",atk] [as6,asT] (aA Oj):=aV
theorem aoq(zZ:Pg K mg base Pt):aw P w K mg base aI 1 zZ.LDu.f zZ.LDu.fd [as6,asT] Uw:=by
 refine zZ.LDu.u.ok IS (λvs H Q E h=>?_) (λav Ar outer s H vs Q E hr h=>?_)
 . cases h;rfl
 have hu:=hr.units;refine tP ?_;intros;obtain @⟨_,_,_,f,t,kf,kt,fs,tr,hf,ht,pf,pt,dE,jH,gW,uA,nn,IC,q⟩:=h;refine⟨_,(ai (aM (i:=2) IS.nd rfl (Or.inl rfl) (df dG))
  (ai (eO dQ rfl (cG (cg (Fk rfl) (by rfl) zZ.B.sorted sG (al (dH (Nk rfl) (by rfl) zZ.B.set JI (al (aJ tI (dH (Mi rfl) (by rfl) zZ.B.list iO (al (pv 0))) (dH (Mi rfl) (by rfl) zZ.B.list iO (al (pv 1))))))))) (be (i:=3) IS.nd rfl (Or.inl rfl))
  (aj (bN (jy (xC hu (pv 3) (pv 0)) (by rfl))
   (aj (bB (db gZ qA qB mx (pv 2) (al (eT (aL (pv 3) bT)))))) (aj (bN (jy (xC hu (pv 3) (pv 1)) (by rfl))
    (aj (bB (db gZ qA qB mx (pv 2) (al (eT (aL (pv 3) bT)))))) (aj (bN (bL (AI hu) (lm hu (pv 0) (pv 3) (λ_ _=>rfl)) (lm hu (pv 1) (pv 3) (λ_ _=>rfl)) (bC _))
     (aj (bB (db gZ qA qB mx (pv 2) (al (eT (aL (pv 3) bT)))))) cD)))))))
  (aj (aX (pv 2))))),?_⟩
 have hk:∀{R:Hp} kv g,aY R kv g->kv.1=Sum.inr g.1:=λkv g z=>z.1;refine jn ?_;intro dD sS u3 u2;refine⟨AQ,λc H1 n1 s1 e1=>?_⟩;refine⟨f,kf,fs.map (·.1),rfl,s1 _ _ hf,oC hk pf,λp2 H2 n2 s2 e2=>?_⟩;refine⟨t,kt,tr.map (·.1),rfl,s2 _ _ (s1 _ _ ht),oC hk pt,λp3 H3 n3 s3 e3=>?_⟩;refine⟨s3 _ _ e2,e3,(by (have l1:((fs.map (·.1)).map V.str).length=fs.length:=by rw[ak,ak]);(have l2:((tr.map (·.1)).map V.str).length=tr.length:=by rw[ak,ak]);(have l3:((fs.map (·.1)).map V.str).length+((tr.map (·.1)).map V.str).length<=1000:=by rw[l1,l2];omega);exact rY (bQ l3)),λp4 H4 n4 s4 e4=>?_⟩;rw[<-dq]at e4;refine⟨p4,fs.map (·.1)++tr.map (·.1),rfl,aa.of e4,by rw[bI,ak,ak];omega,λr5 IT H5 n5 s5 e5 Ux m5=>?_⟩;have l5:IT.length<=60:=by
  have:=iX Ux λz hz=>(m5 z).mp hz;rw[bI,ak,ak]at this;omega
 refine⟨r5,IT,rfl,e5,by omega,λys pm srt p6 H6 n6 s6 e6=>⟨⟨_,aa.of e6⟩,?_⟩⟩;have Uy:ac H1 H6:=s2.trans (s3.trans (s4.trans (s5.trans s6)));have a7:ys.length<=60:=by rw[pm.length_eq];exact l5
 have cp:c≠p6:=aO ((s2.trans (s3.trans (s4.trans s5))) _ _ e1) n6;have Uz:H c=none:=n1;refine hJ (xs:=ys.map V.str) (λi Z H'=>∃u zs,Z=[some (.ref f),some (.ref t),some (.ref c),u]/\ac H H'/\H' p6=some (.lst (ys.map V.str))/\H' c=some (.lst zs)/\zs.length<=i/\Paired (jw H (msk [c] H')) zs (((ys.take i).filter λk=>decide (look fs k≠look tr k)).map (gK fs tr)))
  ⟨none,[],rfl,s1.trans Uy,e6,Uy _ _ e1,aK _,.nil⟩ ?_ ?_ ?_
 . rintro i Z H' hi ⟨u,zs,rfl,_,h6,_⟩;exact aa.of h6
 . intro i y Z H' hy hQ;refine bq ?_;intro tT;obtain⟨u,zs,rfl,U,h6,J,zl,pr⟩:=hQ;rw[c8]at hy;cases hp:ys[i]? with
   | none=>rw[hp]at hy;cases hy
   | some p=>
    rw[hp]at hy;cases hy;have aT:=(cM.mp hp).1;have ur:=U _ _ hf;have vV:=U _ _ ht;have CB:Paired (aY H') kf fs:=aq pf λ_ _=>aY.same U;have a6:Paired (aY H') kt tr:=aq pt λ_ _=>aY.same U;have a5:p∈fs.map (·.1)\/p∈tr.map (·.1):=bY.mp ((m5 p).mp (pm.mem_iff.mp (da hp)));have a0:∀{wd:Str}{G:Addr}{H7:Hp},gK fs tr p=(p,wd)->look fs p≠look tr p->H' G=none->ac H' H7->H7 G=some (.tup [.str p,.str wd])->∃u iH,[some (V.ref f),some (V.ref t),some (V.ref c),some (V.str p)]=[some (V.ref f),some (V.ref t),some (V.ref c),u]/\ac H (ag H7 c (.lst (zs++[.ref G])))/\ag H7 c (.lst (zs++[.ref G])) p6=some (.lst (ys.map V.str))/\ag H7 c (.lst (zs++[.ref G])) c=some (.lst iH)/\iH.length<=i+1/\Paired (jw H (msk [c] (ag H7 c (.lst (zs++[.ref G]))))) iH (((ys.take (i+1)).filter λk=>decide (look fs k≠look tr k)).map (gK fs tr)):=λ{wd G H7} ew ne nt j Y=>by
     refine⟨_,zs++[.ref G],rfl,fj (U.trans j) Uz,aC (j _ _ h6) cp.symm,aD,by rw[bI,jU];omega,?_⟩;rw[q5 bH,lR hp,zX,nw,am (bE ne),V7,dq];refine iD ⟨G,rfl,U.free nt,?_⟩ (aq pr λ_ _=>jw.same (gP j));rw[ew];exact cj (λm=>by rw[bF.mp m,J]at nt;cases nt) Y
    refine⟨_,ci.k (k:=.inr p) ur,⟨?_⟩⟩
    rcases uz CB dE p with⟨O,a2⟩ | ⟨ls,l1,O,a2,a3,a4⟩
    . rw[a2];refine dZ ?_;refine⟨.inl ⟨rfl,_,aa.of J⟩,Ah,λG H7 n7 j Y=>?_⟩;refine⟨j _ _ J,bQ (by omega),a0 (by unfold gK;rw[O];rfl) (λz=>?_) n7 j Y⟩
      rcases a5 with k | k
      . exact fO.mp O k
      rw[O]at z;exact fO.mp z.symm k
    rw[a2];refine cL ?_;refine⟨_,ci.k (k:=.inr p) vV,⟨?_⟩⟩
    rcases uz a6 jH p with⟨b1,b2⟩ | ⟨Ts,l2,b1,b2,b3,b4⟩
    . rw[b2];refine dZ ?_;refine⟨.inl ⟨rfl,_,aa.of J⟩,Ah,λG H7 n7 j Y=>?_⟩;exact⟨j _ _ J,bQ (by omega),a0 (by unfold gK;rw[O,b1];rfl) (by rw[O,b1];exact λz=>nomatch z) n7 j Y⟩
    rw[b2];refine cL ?_;refine⟨(by rw[<-a2];exact ci.k (k:=.inr p) ur),(by rw[<-b2];exact ci.k (k:=.inr p) vV),dS ls,dS Ts,mH (aa.of a3),mH (aa.of b3),xI 8 (gW _ a4),xI 8 (uA _ b4),λbb lC=>⟨?_⟩⟩;rw[L9]at lC;cases bb with
    | true=>
     refine cL ⟨_,zs,rfl,U,h6,J,by omega,?_⟩;have e:look fs p=look tr p:=by rw[O,b1,lC.mp rfl]
     rw[lR hp,zX,nw,ah (by rw[cu λz=>z e];exact cS),V7,kM];exact pr
    | false=>
     refine dZ ?_;refine⟨.inl ⟨rfl,_,aa.of J⟩,Ah,λG H7 n7 j Y=>?_⟩;exact⟨j _ _ J,bQ (by omega),a0 (by unfold gK;rw[O,b1];rfl) (by rw[O,b1];exact λz=>by have:=lC.mpr (gw z);cases this) n7 j Y⟩
 rintro Z H' ⟨u,zs,rfl,U,h6,J,zl,pr⟩;rw[ak,eI]at pr;have Hn:ys.Nodup:=pm.nodup_iff.mpr Ux;refine⟨q c zs _ H' Uz U J ⟨(Bo srt).sublist zY,Hn.sublist zY,λz=>?_⟩ (aq pr λ_ _=>jw.same aQ)⟩;rw[lX,wU];refine⟨λh=>h.2,λh=>⟨?_,h⟩⟩;rw[pm.mem_iff,m5,bY]
 by_cases z1:z∈fs.map (·.1)
 . exact .inl z1
 by_cases z2:z∈tr.map (·.1)
 . exact .inr z2
 exact absurd ((fO.mpr z1).trans (fO.mpr z2).symm) h
end
end K73
namespace L2
open PySem.W (KeqHits)
section
variable {X:Cx}
def rQ(K:Fg)(r:Bool)(x y:V)(H:Hp)(Q:VK):Prop:=∃a b kvs j hZ,x=.ref a/\y=.ref b/\H a=some (.dK kvs)/\H b=some (.dK hZ)/\Paired (EX K H) kvs j/\(∀p∈j,p∈hZ)/\kvs.length=hZ.length/\(hZ.map (·.1)).Nodup/\Q (.bl r) H
theorem UA(hu:X.A.units+65<cLine):cw X (compareOp .Eq) (rQ X.K true):=by
 intro ad s Z H x y v u Q I rx ry h;obtain⟨a,b,kvs,kb,hZ,rfl,rfl,G,J,pr,Y,U,nd,q⟩:=h;cases rx;cases ry;obtain⟨_,hd,vs,j,dd⟩:=iS I.hok G;obtain⟨_,jd,ws,z,O⟩:=iS I.hok J;refine W.keq_eq (knd:=cf X.prog X.w) (r:=true) hd jd dd O (by omega) (λ_=>MC I hu nd z pr j Y) ⟨.bl true,H,I,?_,q⟩;have e:vs.length=ws.length:=by rw[<-j.length,<-z.length,U]
 rw[e];simp[RelV]
end
end L2
namespace K73
variable {K:Fg}{H:Hp}
seal PE PS bW PA PT PW PG eY PI eS
theorem aot{hZ:List (ao×V)}{tr:Tr}(hw:Paired (aY H) hZ tr){kvs:List (ao×V)}{fs:Tr}(ok:bU fs)(hs:∀f∈fs,f∈tr)(h:Paired (aY H) kvs fs):∃j,Paired (EX K H) kvs j/\∀p∈j,p∈hZ:=by
 induction h with
 | nil=>exact⟨[],.nil,λ_ h=>nomatch h⟩
 | @cons kv f kvs fs r t ih=>
  obtain⟨j,h1,h2⟩:=ih (λg z=>ok g (bR _ z)) (λg z=>hs g (bR _ z));obtain⟨i,hi⟩:=List.mem_iff_getElem?.mp (hs f bH);obtain⟨kw,Y,J,l2,U,c2⟩:=yi hw hi;obtain⟨G,l1,O,c1⟩:=r;refine⟨kw::j,.cons ⟨G.trans J.symm,dS f.2,?_,?_,Rx (ok f bH)⟩ h1,λp hp=>?_⟩
  . rw[O];exact mH (aa.of c1)
  . rw[U];exact mH (aa.of c2)
  rcases bf.mp hp with e | hp
  . rw[e];exact da Y
  exact h2 p hp
theorem UB{k1 k2:List (ao×V)}{fs j:Tr}{Q:VK}(h1:H a=some (.dK k1))(h2:H b=some (.dK k2))(p1:Paired (aY H) k1 fs)(p2:Paired (aY H) k2 j)(ok:bU fs)(z:(fs.map (·.1)).Nodup)(nd:(j.map (·.1)).Nodup)(lk:look fs=look j)(ln:fs.length=j.length)(q:Q (.bl true) H):rQ K true (.ref a) (.ref b) H Q:=by
 obtain⟨J,e1,e2⟩:=aot (K:=K) p2 ok (λf G=>kD (by rw[<-lk];exact oM z G)) p1;refine⟨a,b,k1,J,k2,rfl,rfl,h1,h2,e1,e2,by rw[bD p1,bD p2,ln],?_,q⟩;exact ajN p2 nd
theorem QD.kp{v j:V}{xs:ae}{ps:Lp}{t:Str}{ch:Ch}{cs:Cs}{ow:Ow}{bk:Bk}{H':Hp}(h:QD D x dx d b v xs ps t ch cs ow bk H)(e:H' x=some (.ins D dx (b8 d b j)))(k:∀q o,H q=some o->(∀ks,o≠.dK ks)->(∀c dx fl,o≠.ins c dx fl)->H' q=some o):QD D x dx d b j xs ps t ch cs ow bk H':=
 ⟨e,h.bo.elim λtb G=>G.elim λa c=>⟨tb,k _ _ a (by intro _ z;cases z) (by intro _ _ _ z;cases z),aq c λ_ _ J=>J.elim λt O=>O.elim λy z=>⟨t,y,k _ _ z (by intro _ z;cases z) (by intro _ _ _ z;cases z)⟩⟩,h.la,h.tx,h.tk,h.up,h.bt,h.ln⟩
inductive UC (D:Addr):Sp where
 | mk {H:Hp}{Q:VK}{E:XK}{x dx d b:Addr}{v j:V} (_:H x=some (.ins D dx (b8 d b v))) (_:Q .non (ag H x (.ins D dx (b8 d b j)))):UC D [.ref x,j] H Q E
theorem aoy:aP [aso,"many"] [aso,"many"] (aA Oz):=aV
theorem C2(j:Pg K mg base Pt):aw P w K mg base aI 1 j.DAl.f j.DAl.fd [aso,"many"] (UC j.D):=by
 refine j.DAl.u.okL aoy ?_;intro J G outer s H vs Q E U h xX O;obtain @⟨_,_,_,x,dx,d,b,v,Y,z,q⟩:=h;refine⟨_,(aj (hX (pv 0) (pv 1) rfl)),?_⟩;refine⟨z,j.UD.cl,j.UD.nL,by show 3<1000;decide,?_⟩;rw[TM];exact q
inductive UG (Hc T D:Addr):Sp where
 | mk {H:Hp}{Q:VK}{E:XK}{h z x dx d b:Addr}{G j:V}{xs:ae}{ps:Lp}{t:Str}{ch ch':Ch}{cs cs':Cs}{ow ow':Ow}{bk:Bk}{fs:Tr} (_:H h=some (.ins Hc z (jR G x))) (_:QD D x dx d b .non xs ps t ch cs ow bk H) (_:DL D x dx d b none fs H) (_:(fs.map (·.1)).Nodup) (_:bU fs) (_:fs.length<=500) (_:gG T H j ch' cs' ow') (_:∀e∈cs',e∈cs) (_:cs'.length<=10) (_:("nobody/has/it":Str)∉ow.map (·.1)) (_:(∀H',ac H H'->Q (.bl true) H')):UG Hc T D [.ref h,.ref x,j] H Q E
theorem zv:aP [asR,asG,asX,as6,atj,"_law_common",as8] [asR,asG,asX] (aA F5):=aV
theorem aoz(j:Pg K mg base Pt):aw P w K mg base aI 11 j.LUn.f j.LUn.fd [asR,asG,asX] (UG j.Hc j.T j.D):=by
 refine j.LUn.u.ok zv (λvs H Q E h=>?_) (λav Ar outer s H vs Q E J h=>?_)
 . cases h;rfl
 have IU:(Ar.deeper (PyProof.Rows.envOfC "_law_untouched" (aA F5) s.heap.objs.size j.LUn.f av)).units+65<cLine:=by have:=J.un;omega
 refine tP ?_;intros;obtain @⟨_,_,_,h,aF,x,dx,d,b,sv,gv,xs,ps,t,ch,ch',cs,cs',ow,ow',bk,fs,hh,hD,hL,dE,gW,l5,hG,sub,aR,hn,q⟩:=h;refine⟨_,(ai (aM (i:=3) zv.nd rfl (Or.inl rfl) (dr (pv 1) j.UD.cl j.FNo.mt (up (uy j)) J j.FNo.b .nil bJ))
  (ai (bB (gz (pv 1) j.UD.cl j.DAl.mt (up (C2 j)) J j.DAl.b .nil bJ (al ar)))
  (ai (aM (i:=4) zv.nd rfl (Or.inl rfl) (dr (pv 0) j.UH.cl j.HCo.mt (up (anN j)) J j.HCo.b .nil bJ))
  (ai (bB (gz (pv 0) j.UH.cl j.HBa.mt (up (anU j)) J j.HBa.b .nil bJ (al (aJ uZ (cg fA (by rfl) j.B.len eX (al (dr (pv 0) j.UH.cl j.HFo.mt (up (Ue j)) J j.HFo.b .nil bJ))) ar))))
  (ai (bB (gz (pv 0) j.UH.cl j.HFg.mt (up (anI j)) J j.HFg.b .nil bJ (al bT)))
  (ai (AW dQ rfl (bG (pv 2) rfl) (nJ rfl (fR (be (i:=5) zv.nd rfl (Or.inl rfl)) (fR (be (i:=6) zv.nd rfl (Or.inl rfl)) mq)))
  (aj (bB (gz (pv 0) j.UH.cl j.HCh.mt (up (anJ j)) J j.HCh.b .nil bJ (aL (pv 5) (pv 6))))))
  (ai (bB (gz (pv 1) j.UD.cl j.DAl.mt (up (C2 j)) J j.DAl.b .nil bJ (al iP)))
  (aj (aX (sV (mr anX (pv 4) qG (bC _)) (sU (mr (UA IU) (dr (pv 1) j.UD.cl j.FNo.mt (up (uy j)) J j.FNo.b .nil bJ) (pv 3) (bC _))))))))))))),?_⟩
 refine Ms ?_;intro dD sS u8 u7 u6 u5 u4 u3 u2;have G:=hD.ob;obtain⟨kd,hd,pd⟩:=hL.hd;refine⟨G,rfl,G,hd,pd,dE,l5,λr H1 kr nr s1 e1 IV=>?_⟩;have a0:Paired (aY H1) kr fs:=aq IV λ_ _ a3=>a3.elim λz1 a4=>a4.elim λl a5=>a5.elim λz2 a6=>a6.elim λ_ U=>⟨z1,l,z2,U⟩;have rx:r≠x:=(aO G nr).symm;refine⟨s1 _ _ G,rfl,s1 _ _ G,?_⟩;generalize e2:ag H1 x (.ins j.D dx (b8 d b (.int 0)))=H2;have k2:∀q o,H1 q=some o->q≠x->H2 q=some o:=λq o e n=>by rw[<-e2];exact eG e n
 have f2:∀q,H2 q=none->H1 q=none:=λq e=>by rw[<-e2]at e;exact(jl e).2
 have x2:H2 x=some (.ins j.D dx (b8 d b (.int 0))):=by rw[<-e2];exact aD
 obtain⟨va,Iw,Ix,c0,g,o0,rfl,Y,w2,w3,w4,w5,w6,w7⟩:=hG;obtain⟨kg,g1,pg⟩:=w6;have gx:g≠x:=aU g1 G (by intro z;cases z);have vx:va≠x:=λz=>by
  rw[z,G]at Y;injection Y with Y
  injection Y with _ _ Y
  rw[<-Y]at w2;cases w2
 have hx:h≠x:=λz=>by
  rw[z,G]at hh;injection hh with hh
  injection hh with _ _ hh
  cases hh
 have IW:∀q o,H q=some o->q≠x->H2 q=some o:=λq o e n=>k2 _ _ (s1 _ _ e) n;have nx:∀{q:Addr}{o:HO},H q=some o->(∀c dx fl,o≠.ins c dx fl)->q≠x:=λe n z=>by
  rw[z,G]at e;cases e;exact n _ _ _ rfl
 have D2:QD j.D x dx d b (.int 0) xs ps t ch cs ow bk H2:=hD.kp x2 λq o e _ n=>IW q o e (nx e n);have O:=IW _ _ hh hx;refine⟨O,rfl,O,D2,λH3 s3=>?_⟩;refine⟨s3 _ _ O,rfl,s3 _ _ O,rfl,s3 _ _ O,D2.same s3,λl zs H4 n4 s4 e4 vU=>?_⟩;have pl:=bD (vU [] λb z=>nomatch z);rw[cq]at pl;have IX:=s3.trans s4;refine⟨l,_,rfl,.inl (aa.of e4),?_⟩;refine⟨IX _ _ O,D2.same IX,by omega,λH5 s5=>?_⟩;have wp:=IX.trans s5;refine⟨wp _ _ O,rfl,wp _ _ O,D2.same wp,by decide,by decide +kernel,hn,λH6 s6=>?_⟩;have zw:=wp.trans s6;have zx:∀q o,H q=some o->q≠x->H6 q=some o:=λq o e n=>zw _ _ (IW _ _ e n);refine⟨zx _ _ Y vx,j.UT.cl,j.UT.nH,w3,g,kg,rfl,zx _ _ g1 gx,λob=>?_⟩;refine BK (λi Z H7=>∃u v,Z=[some (.ref h),some (.ref x),some (.ref va),some (.ref r),some (.bl false),u,v]/\(∀b z,H6 b=some z->b≠g->H7 b=some z)/\H7 g=some (.frz ob (.dK kg)))
  ⟨none,none,rfl,λb z e n=>eG e n,aD⟩ ?_ ?_ ?_
 . rintro i Z H7 ⟨u,v,rfl,_,h7⟩;exact h7
 . rintro i k v p Z H7 hi ⟨u,v',rfl,k7,h7⟩ hp;obtain⟨⟨c,n⟩,hf,a1,a2⟩:=fc pg hi;have a1:k=.inr c:=a1;have a2:v=.str n:=a2;subst a1 a2;have sp:ac H7 (ag H7 p (.tup [kV (.inr c),.str n])):=fC hp;have gh:h≠g:=aU hh g1 (by intro z;cases z);have C3:∀q o,H6 q=some o->q≠g->ag H7 p (.tup [kV (.inr c),.str n]) q=some o:=λq o e n=>sp _ _ (k7 _ _ e n);have g6:=zx _ _ g1 gx;have D6:=D2.same zw;have UI:=C3 _ _ (zw _ _ O) gh;refine⟨bh.of aD,rfl,rfl,?_⟩;refine⟨UI,rfl,UI,D6.kp (C3 _ _ D6.ob gx.symm) λq o e n _=>C3 q o e (λz=>by rw[z,g6]at e;cases e;exact n _ rfl),sub _ (da hf),λH8 s8=>?_⟩;exact⟨_,_,rfl,λb z e n=>s8 _ _ (C3 b z e n),s8 _ _ (sp _ _ h7)⟩
 rintro Z H7 ⟨u,v,rfl,k7,h7⟩;have k8:∀q o,H6 q=some o->ag H7 g (.dK kg) q=some o:=λq o e=>by
  by_cases z:q=g
  . subst z;rw[zx _ _ g1 gx]at e;cases e;exact aD
  exact eG (k7 _ _ e z) z
 generalize ag H7 g (.dK kg)=H8 at k8;have x8:=k8 _ _ (zw _ _ x2);refine⟨x8,rfl,x8,?_⟩;have s9:ac H (ag H8 x (.ins j.D dx (b8 d b .non))):=λq o e=>by
  by_cases z:q=x
  . subst z;rw[G]at e;cases e;exact aD
  exact eG (k8 _ _ (zx _ _ e z)) z
 have IY:∀q o,H1 q=some o->q≠x->ag H8 x (.ins j.D dx (b8 d b .non)) q=some o:=λq o e z=>eG (k8 _ _ (zw _ _ (k2 _ _ e z))) z;generalize ag H8 x (.ins j.D dx (b8 d b .non))=H9 at s9 IY;refine⟨_,_,rfl,rfl,⟨dZ ?_⟩⟩;have a':Paired (aY H9) kd fs:=aq pd λ_ _=>aY.same s9;refine⟨s9 _ _ G,rfl,s9 _ _ G,s9 _ _ hd,a',dE,l5,λr2 HA aG aT sA eA aE=>?_⟩;refine⟨?_⟩;show rQ K true (.ref r2) (.ref r) HA Q;refine UB eA (sA _ _ (IY _ _ e1 rx)) (aq aE λ_ _ a7=>a7.elim λz1 a8=>a8.elim λl a9=>a9.elim λz2 ab=>ab.elim λ_ U=>⟨z1,l,z2,U⟩) (aq a0 λ_ _ ap=>ap.elim λz1 ax=>ax.elim λl az=>az.elim λz2 U=>⟨z1,l,z2,sA _ _ (IY _ _ U λz=>(by rw[z,s1 _ _ G]at U;injection U with U;cases U))⟩) gW dE dE rfl rfl (q HA (s9.trans sA))
end K73
namespace L2
section
variable {X:Cx}{CX:gN}{k:Nat}{f C:Addr}{fd:Fy}{ps:Ls}{sp:Sp}{cY:ae}{ds:Lw}{E:L2.St->XK}{m:Str}{pos apos:Pos}{o:Expr}{ta:TE}
theorem aoO{pl:Sem Bool}(Y:PE X o ta)(c:iR X.K C)(z:xp X.K C m f)(F:aw X.prog X.w X.K X.mg X.base CX k f fd ps sp)(hr:ce k X.A)(U:Binds X.K fd ps ds)(hd:bc cY ds)(hx:EW CX X E)
 (ht:eval (.Call (.Attribute o m apos) [] [] pos) X.env=(do
  let G <-eval o X.env
  standAt apos.atName
  let (f,first) <-holding [G] (getMethod G m pl)
  callWith pos f first (backTo pos (starEach [] X.env)) (backToKw pos (keywordEach [] X.env))):=by rfl) :
 PE X (.Call (.Attribute o m apos) [] [] pos) (adN C m sp cY E ta dY):=by
 intro ad s Z H Q I h;refine Vm (pl:=pl) (thn (Y ad s Z H _ I h) λu s1 J=>ba J λx H1 j rx zz=>?_) ht;obtain @⟨a,dx,fs,O,l,q⟩:=zz;obtain rfl:u=Value.ref a:=rx;refine DY j O c z l ?_;exact Vn (first:=[.ref a]) j.kIn z.kp (adM (us:=[.ref a]) (vs:=[.ref a]) F hr U hd hx j (.cons rfl .nil) q)
end
end L2
namespace K73
section
variable {us:Ls}
seal PE PS bW PA PT PW PG eY PI eS
inductive IZ (Hc C S D Pt:Addr):Sp where
 | mk {H:Hp}{Q:VK}{E:XK}{h z x dx d b:Addr}{G:V}{n:Int}{xs:ae}{ps:Lp}{ns:Ls}{t:Str}{ch:Ch}{cs:Cs}{ow:Ow}{bk:Bk}{fs:Tr} (_:HW Hc C S h z x G xs ps ns (msk [x,d,b,Pt] H)) (_:QD D x dx d b .non xs ps t ch cs ow bk H) (_:DL D x dx d b none fs H) (_:(fs.map (·.1)).Nodup) (_:bU fs) (_:fs.length<=36) (_:aH H Pt cW cR) (_:0<=n)
  (_:∀l zs tr us H',ju ps ch cs ow tr->(tr.map (·.1)).Nodup->tr.length<=24->bU tr->dz fs tr us->(us.length:Int)<=n->H l=none->H' l=some (.lst zs)->Paired (jw H H') zs (us.map (gK fs tr))->DL D x dx d b none (us.foldl (aZ tr) fs) H'->cz x d b Pt H H'->H' b=H b->aH H' Pt cW cR->Q (.ref l) H')
  (_:∀tr us (j:Nat) H',ju ps ch cs ow tr->(tr.map (·.1)).Nodup->tr.length<=24->bU tr->dz fs tr us->n=(j:Int)->j<us.length->DL D x dx d b none ((us.take j).foldl (aZ tr) fs) H'->cz x d b Pt H H'->H' b=H b->aH H' Pt cW cR->Q .non H'):IZ Hc C S D Pt [.ref h,.ref x,.int n] H Q E
theorem C4:aP [asR,asG,as7,atj] [asR,asG,as7] (aA Ol):=aV
theorem UJ(G:Pg K mg base Pt):aw P w K mg base aI 11 G.LMe.f G.LMe.fd [asR,asG,as7] (IZ G.Hc G.C G.S G.D Pt):=by
 refine G.LMe.u.okL C4 ?_;intro av Ar outer s H vs Q E hr h xX dX;obtain @⟨_,_,_,h,ap,x,dx,d,b,sv,n,xs,ps,ns,t,ch,cs,ow,bk,fs,hW,hD,hL,dE,gW,nn,ab,n0,q1,q2⟩:=h;refine⟨_,(ai (aM (i:=3) C4.nd rfl (Or.inl rfl) iP)
  (ai (bB (gz (pv 1) G.UD.cl G.DAl.mt (up (C2 G)) hr G.DAl.b .nil bJ (al (pv 2))))
  (ER (adQ rfl rfl G.R.mF rfl (λXE pn E hp=>aj (aM (i:=3) C4.nd rfl (Or.inl rfl) (aoO (pv 0) G.UH.cl G.HMe.mt (up (Ul G)) hr G.HMe.b .nil hp))) (λa=>aj (aM (i:=3) C4.nd rfl (Or.inl rfl) iP)))
  (ai (bB (gz (pv 1) G.UD.cl G.DAl.mt (up (C2 G)) hr G.DAl.b .nil bJ (al iP)))
  (aj (aX (pv 3))))))),?_⟩
 have gC:=hD.ob;obtain⟨kd,hd,pd⟩:=hL.hd;refine⟨gC,rfl,gC,?_⟩;have UL:msk [x,d,b,Pt] (ag H x (.ins G.D dx (b8 d b (.int n))))=msk [x,d,b,Pt] H:=q5 bH;have k1:∀q o,H q=some o->q≠x->ag H x (.ins G.D dx (b8 d b (.int n))) q=some o:=λq o e z=>eG e z;have f1:∀q,ag H x (.ins G.D dx (b8 d b (.int n))) q=none->H q=none:=λq e=>(jl e).2;have x1:ag H x (.ins G.D dx (b8 d b (.int n))) x=some (.ins G.D dx (b8 d b (.int n))):=aD;generalize ag H x (.ins G.D dx (b8 d b (.int n)))=H1 at UL k1 f1 x1;have nx:∀{q:Addr}{o:HO},H q=some o->(∀c dx fl,o≠.ins c dx fl)->q≠x:=λe n z=>by
  rw[z,gC]at e;cases e;exact n _ _ _ rfl
 have D1:QD G.D x dx d b (lv (some n)) xs ps t ch cs ow bk H1:=hD.kp x1 λq o e _ z=>k1 q o e (nx e z);have L1:DL G.D x dx d b (some n) fs H1:=⟨x1,kd,k1 _ _ hd (nx hd (by intro _ _ _ z;cases z)),aq pd λ_ _ a0=>a0.elim λz1 a1=>a1.elim λl a2=>a2.elim λz2 Y=>⟨z1,l,z2,k1 _ _ Y (nx Y (by intro _ _ _ z;cases z))⟩⟩;have kH:aH H1 Pt cW cR:=K73.aH.kp ab λq φ e=>k1 _ _ e (nx e (by intro _ _ _ z;cases z));obtain⟨tb,J,pb⟩:=hD.bo;have b1:H1 b=H b:=by rw[k1 _ _ J (nx J (by intro _ _ _ z;cases z)),J]
 have kx:∀{H':Hp},cz x d b Pt H1 H'->cz x d b Pt H H':=λk q o e n1 n2 n3 O=>k q o (k1 _ _ e n1) n1 n2 n3 O;refine⟨λσ' H'=>∃v lf gs,σ'=[some (.ref h),some (.ref x),some (.int n),some v]/\DL G.D x dx d b lf gs H'/\∀H2,DL G.D x dx d b none gs H2->(∀q o,H' q=some o->q≠x->H2 q=some o)->Q v H2,?_,?_⟩
 . refine⟨k1 _ _ (aQ _ _ hW.ob) (λz=>?_),rfl,?_⟩
   . have e:=aQ _ _ hW.ob;rw[z,gC]at e;injection e with e
     injection e with _ _ e
     cases e
   refine⟨by rw[UL];exact hW,D1,L1,dE,gW,nn,kH,(λm e=>by cases e;exact n0),λl zs tr us H2 hT gJ lT fL U hm nl el pr zy k2 eb ni=>?_,λtr us j H2 hT gJ lT fL U ej hj zy k2 eb ni=>?_⟩
   . refine⟨.ref l,_,_,rfl,zy,λH3 L3 k3=>?_⟩;refine q1 l zs tr us H3 hT gJ lT fL U (hm _ rfl) (f1 _ nl) (k3 _ _ el (λz=>by rw[z,x1]at nl;cases nl)) (aq pr λ_ _ a3=>a3.elim λt a4=>a4.elim λy1 a5=>a5.elim λy2 y3=>⟨t,y1,f1 _ y2,k3 _ _ y3 (λz=>by rw[z,x1]at y2;cases y2)⟩) L3 (λq o e n1 n2 n3 O=>k3 _ _ (kx k2 q o e n1 n2 n3 O) n1) ?_ ?_
     . have e:H2 b=H b:=eb.trans b1;rw[J]at e;rw[k3 _ _ e (nx J (by intro _ _ _ z;cases z)),J]
     exact K73.aH.kp ni λq φ e=>k3 _ _ e (λz=>by rw[z,zy.ob]at e;cases e)
   refine⟨G.R.ex,.non,_,_,rfl,zy,λH3 L3 k3=>?_⟩;refine q2 tr us j H3 hT gJ lT fL U (by cases ej;rfl) hj L3 (λq o e n1 n2 n3 O=>k3 _ _ (kx k2 q o e n1 n2 n3 O) n1) ?_ ?_
   . have e:H2 b=H b:=eb.trans b1;rw[J]at e;rw[k3 _ _ e (nx J (by intro _ _ _ z;cases z)),J]
   exact K73.aH.kp ni λq φ e=>k3 _ _ e (λz=>by rw[z,zy.ob]at e;cases e)
 rintro σ' H' ⟨v,lf,gs,rfl,L',qq⟩;refine⟨L'.ob,rfl,L'.ob,⟨qq _ ⟨aD,?_⟩ λq o e z=>eG e z⟩⟩;have UM:∀{q:Addr}{o:HO},H' q=some o->(∀c dx fl,o≠.ins c dx fl)->q≠x:=λe n z=>by
  rw[z,L'.ob]at e;cases e;exact n _ _ _ rfl
 obtain⟨SS,jd,a9⟩:=L'.hd;exact⟨SS,eG jd (UM jd (by intro _ _ _ z;cases z)),aq a9 λ_ _ a6=>a6.elim λz1 a7=>a7.elim λl a8=>a8.elim λz2 Y=>⟨z1,l,z2,eG Y (UM Y (by intro _ _ _ z;cases z))⟩⟩
def dB(bk:Bk):W.Dat:=.list (bk.map λe=>.tuple [.str e.1,.str e.2])
theorem C5{K:Fg}{H:Hp}{tb:ae}{bk:Bk}(j:H r=some (.lst tb))(h:Paired (dP H) tb bk):DV K H (.ref r) (dB bk):=by
 refine .lst (aa.of j) ?_;clear j
 induction h with
 | nil=>exact .nil
 | cons r t G=>
  obtain⟨a,e,z⟩:=r;rw[e];exact .cons (.tup (bh.of z) (.cons (.str _) (.cons (.str _) .nil))) G
theorem C6(n:Nat){bk:Bk}(h:uF bk):W.kqdOk (n+2) (dB bk)=true:=by
 show(bk.map λe=>W.Dat.tuple [.str e.1,.str e.2]).all (W.kqdOk (n+1))=true;rw[ip];intro d hd;obtain⟨e,j,rfl⟩:=ca.mp hd;have:=h e j;show [W.Dat.str e.1,.str e.2].all (W.kqdOk n)=true;simp only[Dg,V9,Wa,W.kqdOk,io];exact this
theorem dz.told{fs tr:Tr}(x:dz fs tr us)(m:Nat):(us.drop m).map (gK ((us.take m).foldl (aZ tr) fs) tr)=(us.map (gK fs tr)).drop m:=by
 rw[<-List.map_drop];refine zV λp j=>?_;have nd:=x.nd;rw[<-V4 m us,qw]at nd;unfold gK;rw[Cg,ah λz=>nd.2.2 p z p j rfl]
theorem ao0{fs tr:Tr}(h:look fs=look tr):dz fs tr []:=⟨.nil,.nil,λk=>⟨(λz=>nomatch z),λz=>absurd (congrFun h k) z⟩⟩
theorem dz.none{fs tr:Tr}(x:dz fs tr us)(h:look fs=look tr):us=[]:=x.eq (ao0 h)
theorem ao1{fs j:Tr}(G:(fs.map (·.1)).Nodup)(J:(j.map (·.1)).Nodup)(h:look fs=look j):fs.length=j.length:=by
 have le:∀{a b:Tr},(a.map (·.1)).Nodup->look a=look b->a.length<=b.length:=λ{a b} nd e=>by
  have:=iX (ys:=b.map (·.1)) nd λz hz=>by
   obtain⟨f,O,rfl⟩:=ca.mp hz;exact ca.mpr ⟨f,kD (by rw[<-e];exact oM nd O),rfl⟩
  rwa [ak,ak]at this
 exact VS (le G h) (le J h.symm)
theorem ao2{fs tr:Tr}(x:dz fs tr us)(z:fQ fs)(G:fQ tr):uF (us.map (gK fs tr)):=λe J=>by
 obtain⟨p,O,rfl⟩:=ca.mp J;refine⟨?_,?_⟩
 . show fk p
   by_cases h1:p∈fs.map (·.1)
   . obtain⟨f,j,rfl⟩:=ca.mp h1;exact z f j
   by_cases h2:p∈tr.map (·.1)
   . obtain⟨f,j,rfl⟩:=ca.mp h2;exact G f j
   exact absurd ((fO.mpr h1).trans (fO.mpr h2).symm) ((x.mem p).mp O)
 show fk (CV _ _);unfold CV;split
 . split<;>decide +kernel
 decide +kernel
end
section
variable {K:Fg}{ow:Ow}{ps:Lp}{ch:Ch}{cs:Cs}{H H':Hp}{xs:ae}{Q:Addr->Hp->Prop}{E:XK}
seal PE PS bW PA PT PW PG eY PI eS
theorem fQ.put{tr:Tr}{x:Str}{ls:Ls}(h:fQ tr)(G:fk x):fQ (bP tr x ls):=λf j=>(kj j).elim (λz=>by rw[z];exact G) (h f)
theorem fQ.putAll{j:Tr}:∀{tr:Tr},fQ tr->fQ j->fQ (putAll tr j):=by
 induction j with
 | nil=>exact λh _=>h
 | cons f j G=>exact λh k=>G (h.put (k f bH)) λg z=>k g (bR _ z)
theorem ao3{o:Option (Ls)}{p:Str}{b m:Ls}(h:fk p):fQ (fP o p b m):=λf j=>by
 rcases HL (fq (f:=(·.1)) j) with z | z
 . rw[z];exact h
 rw[z];exact vj h (by decide +kernel)
theorem ao4{bj:Tr}(h:fQ bj)(pt:∀e∈ow,dC e.1):fQ (ij bj ow):=by
 have O:∀(ow:Ow) (c:Tr),fQ c->(∀e∈ow,dC e.1)->fQ (ow.foldl (λtr e=>K73.putAll tr (fP (i8 bj e.1) e.1 e.2.1 e.2.2)) c):=by
  intro ow
  induction ow with
  | nil=>exact λc j _=>j
  | cons e ow G=>exact λc j pt=>G _ (j.putAll (ao3 (pt e bH).ln.ok)) λz J=>pt z (bR _ J)
 exact O ow bj h pt
theorem UN{tr:Tr}{f:Str×Ls}(h:f∈tr):look tr f.1≠none:=λz=>fO.mp z (fq (f:=(·.1)) h)
theorem fQ.alike{fs tr:Tr}(h:fQ tr)(e:look fs=look tr):fQ fs:=λf j=>by
 cases z:look tr f.1 with
 | none=>rw[<-e]at z;exact absurd z (UN j)
 | some l=>have:=h _ (kD z);exact this
theorem ju.pok{ns:Ls}{tr:Tr}(h:ju ps ch cs ow tr)(O:Apart ns ps)(nm:∀n∈ns,cJ n)(pt:∀e∈ow,dC e.1):fQ tr:=by
 obtain⟨px,bj,x,g,a,b⟩:=h;intro f G
 by_cases U:∃c,(∃p∈px,c∈p.os)/\f.1=jO c
 . obtain⟨c,⟨p,J,j⟩,e⟩:=U;rw[e];exact vj (by decide +kernel) (nm c ((O.offs p (x.mm p J).1).2 c j)).ln.ok
 have e:=a f.1 λc j e=>U ⟨c,j,e⟩;have p0:fQ bj:=λg' Y=>by
  obtain⟨p,J,G⟩:=uT.mp (g.sub g' Y);exact((O.ok p (x.mm p J).1).2.1 _ G).1.ln.ok
 cases z:look (ij bj ow) f.1 with
 | none=>rw[z]at e;exact absurd e (UN G)
 | some l=>have:=ao4 p0 pt _ (kD z);exact this
theorem UO{tr j:Tr}(h:look tr=look j):aZ tr=aZ j:=funext λfs=>funext λp=>by unfold aZ;rw[h]
structure Stp(tr fs gs:Tr):Prop where
 nd:(gs.map (·.1)).Nodup
 ok:bU gs
 mm:∀e∈gs,e∈fs\/e∈tr
theorem wy{tr:Tr}(j:bU tr):∀(us:Ls) {fs:Tr},(fs.map (·.1)).Nodup->bU fs->Stp tr fs (us.foldl (aZ tr) fs)
 | [],fs,nd,ok=>⟨nd,ok,λ_=>.inl⟩
 | u::us,fs,nd,ok=>by
  have z:=wy j us (fs:=aZ tr fs u) (Hh nd) (RB j ok);exact⟨z.nd,z.ok,λe G=>(z.mm e G).elim (λy=>Su y) .inr⟩
theorem ao6{tr j:Tr}(nd:(tr.map (·.1)).Nodup)(h:look tr=look j):∀f∈tr,f∈j:=λf z=>kD (by rw[<-h];exact oM nd z)
theorem zA{L:Ls}{fs:Tr}{n:Nat}(nd:(fs.map (·.1)).Nodup)(h:∀f∈fs,f.1∈L)(l:L.length<=n):fs.length<=n:=by
 have:=iX nd λz hz=>by
  obtain⟨f,j,rfl⟩:=ca.mp hz;exact h f j
 rw[ak]at this;omega
theorem UP{zs:ae}{m:Nat}:pB zs (some (m:Int)) none=zs.drop m:=by
 unfold pB;rw[HT.xu,HT.Ed]
 by_cases h:m<=zs.length
 . rw[VB h,Jr (by rw[kP];omega)]
 rw[Nat.min_eq_right (by omega),Nat.sub_self,V2,List.drop_of_length_le (by omega)]
theorem ao7{L:List Addr}{o:HO}(e:msk L H q=some o):q∉L:=λz=>by
 unfold msk at e;rw[am z]at e;cases e
def UQ(K:Fg):V->V->Hp->VK->Prop:=λx y H Q=>∃d e,DV K H x d/\DV K H y e/\W.kqdOk 9 d=true/\W.kqdOk 9 e=true/\∀b:Bool,(b=true↔d=e)->Q (.bl b) H
theorem UR{X:Cx}(j:X.A.units+64<cLine)(h:X.K=K):cw X (compareOp .Eq) (UQ K):=h▸xF j
theorem wz{X:Cx}(j:X.A.units+64<cLine)(h:X.K=K):cw X (compareOp .NotEq) (E2 K):=h▸AI j
section
variable {p q:Addr}{ys:ae}{bs:Bk}{Q:VK}(h1:H p=some (.lst xs)) (p1:Paired (dP H) xs bs) (h2:H q=some (.lst ys)) (p2:Paired (dP H) ys bs) (ok:uF bs)
include h1 p1 h2 p2 ok
theorem wA(z:Q (.bl false) H):E2 K (.ref p) (.ref q) H Q:=⟨dB bs,dB bs,C5 h1 p1,C5 h2 p2,C6 7 ok,C6 7 ok,λb j=>by cases j.mpr rfl;exact z⟩
theorem UU(z:Q (.bl true) H):UQ K (.ref p) (.ref q) H Q:=⟨dB bs,dB bs,C5 h1 p1,C5 h2 p2,C6 7 ok,C6 7 ok,λb j=>by cases j.mpr rfl;exact z⟩
end
theorem UV{α β:Type}{F:α->β->Prop}{xs:List α}{ys:List β}(h:Paired F xs ys):∀n,Paired F (xs.drop n) (ys.drop n):=by
 induction h with
 | nil=>intro n;rw[List.drop_nil,List.drop_nil];exact .nil
 | cons r t j=>
  intro n;cases n with
  | zero=>exact .cons r t
  | succ n=>exact j n
theorem DU.qd{t:Str}{fs:Tr}{bk:Bk}(h:DU D x dx d b gg Pt xs ps t ch cs ow fs bk H)(l:bk.length<=300):QD D x dx d b .non xs ps t ch cs ow bk H:=⟨h.dk.ob,h.dk.bo,h.la,h.tx,h.tk,h.up,h.dk.bt,l⟩
theorem DU.dl{t:Str}{fs:Tr}{bk:Bk}(h:DU D x dx d b gg Pt xs ps t ch cs ow fs bk H):DL D x dx d b none fs H:=⟨h.dk.ob,h.dk.fi.elim λz j=>j.elim λa c=>⟨z,a,aq c λ_ _=>Lu.du⟩⟩
theorem DL.same{j:Option Int}{fs:Tr}(h:DL D x dx d b j fs H)(s:ac H H'):DL D x dx d b j fs H':=⟨s _ _ h.ob,h.hd.elim λG z=>z.elim λa c=>⟨G,s _ _ a,aq c λ_ _=>aY.same s⟩⟩
theorem DL.kpe{j:Option Int}{fs:Tr}(h:DL D x dx d b j fs H)(s:jx H H'):DL D x dx d b j fs H':=⟨s _ _ h.ob (by intro φ z;cases z),h.hd.elim λJ G=>G.elim λa c=>⟨J,s _ _ a (by intro φ z;cases z),aq c λ_ _=>aY.kpe s⟩⟩
structure Nm where
 Hc:Addr
 C:Addr
 S:Addr
 T:Addr
 D:Addr
 h:Addr
 hdx:Addr
 x:Addr
 dx:Addr
 d:Addr
 b:Addr
 t5:Addr
 Pt:Addr
 sv:V
 hv:V
 xs:ae
 ps:Lp
 ns:Ls
 t:Str
 ch:Ch
 cs:Cs
 ow:Ow
 ch':Ch
 cs':Cs
 ow':Ow
 bk:Bk
 tr:Tr
abbrev Nm.R (N:Nm) (H:Hp):Hp:=msk [N.x,N.d,N.b,N.Pt] H
abbrev Nm.Kp (N:Nm) (H H':Hp):Prop:=cz N.x N.d N.b N.Pt H H'
abbrev Nm.DL (N:Nm) (fs:Tr) (H:Hp):Prop:=K73.DL N.D N.x N.dx N.d N.b none fs H
structure Lv(N:Nm)(fs:Tr)(H:Hp):Prop where
 hw:HW N.Hc N.C N.S N.h N.hdx N.x N.sv N.xs N.ps N.ns (N.R H)
 qd:QD N.D N.x N.dx N.d N.b .non N.xs N.ps N.t N.ch' N.cs' N.ow' N.bk H
 dl:N.DL fs H
 tb:aH H N.Pt cW cR
 st:gG N.T (N.R H) N.hv N.ch N.cs N.ow
 tt:∃kt,N.R H N.t5=some (.dK kt)/\Paired (aY (N.R H)) kt N.tr
 nd:(fs.map (·.1)).Nodup
 ok:bU fs
 to:ju N.ps N.ch N.cs N.ow N.tr
 nT:(N.tr.map (·.1)).Nodup
 lT:N.tr.length<=24
 oT:bU N.tr
 p1:N.ch'.Perm N.ch
 p2:N.cs'.Perm N.cs
 p3:N.ow'.Perm N.ow
section
variable {N:Nm}{fs:Tr}
theorem Lv.busy(v:Lv N fs H):gD H [N.x,N.d,N.b,N.Pt]:=λq j=>by
 obtain⟨O,hd,_⟩:=v.dl.hd;obtain⟨tb,G,_⟩:=v.qd.bo;obtain⟨φ,J⟩:=aH.at v.tb;simp only[bf,ft,fw]at j
 rcases j with rfl | rfl | rfl | rfl
 . exact⟨_,v.qd.ob,by intro _ z;cases z⟩
 . exact⟨_,hd,by intro _ z;cases z⟩
 . exact⟨_,G,by intro _ z;cases z⟩
 exact⟨_,J,by intro _ z;cases z⟩
theorem Lv.hh(v:Lv N fs H):H N.h=some (.ins N.Hc N.hdx (jR N.sv N.x)):=aQ _ _ v.hw.ob
theorem Lv.lk{tr:Tr}(v:Lv N fs H)(h:ju N.ps N.ch' N.cs' N.ow' tr):look tr=look N.tr:=by
 have j:=v.qd.tx.so;exact HQ v.hw.wl.ap v.p1 v.p2 v.p3 j.ok.d1 j.ok.d2 j.ok.d3 j.pt h v.to
theorem Lv.kx{j:Tr}(v:Lv N fs H)(L:N.DL j H')(nd:(j.map (·.1)).Nodup)(ok:bU j)(tb:aH H' N.Pt cW cR)(k:N.Kp H H')(O:H' N.b=H N.b):Lv N j H':=by
 have s:=k.msk;refine⟨v.hw.same s,⟨L.ob,?_,v.qd.la,v.qd.tx,v.qd.tk,v.qd.up,v.qd.bt,v.qd.ln⟩,L,tb,v.st.same s,?_,nd,ok,v.to,v.nT,v.lT,v.oT,v.p1,v.p2,v.p3⟩
 . obtain⟨Y,a,c⟩:=v.qd.bo;refine⟨Y,O.trans a,aq c λ_ _ G=>G.elim λt J=>J.elim λy z=>⟨t,y,?_⟩⟩;have n:=v.busy.tup z;simp only[bf,ft,fw,ny]at n;exact k _ _ z n.1 n.2.1 n.2.2.1 n.2.2.2
 obtain⟨U,a,c⟩:=v.tt;exact⟨U,s _ _ a,aq c λ_ _=>aY.same s⟩
theorem Lv.same(v:Lv N fs H)(s:ac H H'):Lv N fs H':=by
 obtain⟨j,a,_⟩:=v.qd.bo;exact v.kx (v.dl.same s) v.nd v.ok (v.tb.same s) (.of s) (by rw[s _ _ a,a])
theorem Lv.keepT(v:Lv N fs H)(s:jo N.Pt H H')(tb:aH H' N.Pt cW cR):Lv N fs H':=by
 obtain⟨G,a,_⟩:=v.qd.bo;have j:=jx.ofT v.tb s;exact v.kx (v.dl.kpe j) v.nd v.ok tb (.ofT s) (by rw[j _ _ a (by intro φ z;cases z),a])
theorem Lv.new(v:Lv N fs H){l:Addr}{o:HO}(n:H l=none)(e:H' l=some o):N.R H' l=some o:=cj (v.busy.free n) e
theorem Lv.rows(v:Lv N fs H){zs:ae}{bs:Bk}(h:Paired (jw H H') zs bs):Paired (dP (N.R H')) zs bs:=aq h λ_ _ j=>j.elim λt z=>z.elim λa G=>G.elim λn c=>⟨t,a,v.new n c⟩
variable {Q:VK}
theorem Lv.look(v:Lv N fs H)(O:fs.length<=36)(q:∀l zs us tr H',ju N.ps N.ch' N.cs' N.ow' tr->Lv N fs H'->N.Kp H H'->dz fs N.tr us->N.R H' l=some (.lst zs)->Paired (dP (N.R H')) zs (us.map (gK fs N.tr))->Q (.ref l) H'):II N.Hc N.C N.S N.D N.Pt [.ref N.h] H Q E:=by
 obtain⟨kd,hd,Y⟩:=v.dl.hd;refine⟨v.hh,v.hw.wl.same aQ,v.qd,hd,Y,v.nd,v.ok,O,v.tb,λl zs tr us H1 k1 G j _ _ _ U J z uJ=>?_⟩;have e:=v.lk j;refine q l zs us tr H1 j (v.keepT k1 G) (.ofT k1) (U.of e) (v.new J z) ?_;rw[<-IK e];exact v.rows uJ
theorem Lv.mend(v:Lv N fs H){j:Addr}(nn:fs.length<=36)(e:K73.look fs=K73.look N.tr)(q:∀l H',Lv N fs H'->N.Kp H H'->H' l=some (.lst [])->Q (.ref l) H'):CW N.Hc N.C N.S N.D N.Pt j [.ref N.h] H Q E:=by
 refine @CW.mk _ _ _ _ _ _ H Q E N.h N.hdx N.x N.dx N.d N.b N.sv none N.xs N.ps N.ns N.t N.ch' N.cs' N.ow' N.bk fs v.hw v.qd v.dl v.nd v.ok nn v.tb (λ_ z=>nomatch z) (λl zs tr us H1 Y _ _ _ U _ nl O uJ G k1 J kH=>?_) (λ_ _ _ _ _ _ _ _ _ z=>nomatch z);have e1:=v.lk Y;cases U.none (e.trans e1.symm);cases uJ;exact q l H1 (v.kx G v.nd v.ok kH k1 J) k1 O
theorem Lv.mended(v:Lv N fs H){us:Ls}{n:Int}(nn:fs.length<=36)(U:dz fs N.tr us)(n0:0<=n)(q1:(us.length:Int)<=n->∀l zs H',Lv N (us.foldl (aZ N.tr) fs) H'->N.Kp H H'->N.R H' l=some (.lst zs)->Paired (dP (N.R H')) zs (us.map (gK fs N.tr))->Q (.ref l) H')
 (q2:∀j:Nat,n=(j:Int)->j<us.length->∀H',Lv N ((us.take j).foldl (aZ N.tr) fs) H'->N.Kp H H'->Q .non H'):IZ N.Hc N.C N.S N.D N.Pt [.ref N.h,.ref N.x,.int n] H Q E:=by
 refine⟨v.hw,v.qd,v.dl,v.nd,v.ok,nn,v.tb,n0,λl zs tr a0 H1 Y _ _ _ J ln nl el uJ G k1 O kH=>?_,λtr a0 j H1 Y _ _ _ J ej hj G k1 O kH=>?_⟩
 . have e:=v.lk Y;cases (J.of e).eq U;rw[UO e]at G;have z:=wy v.oT us v.nd v.ok;refine q1 ln l zs H1 (v.kx G z.nd z.ok kH k1 O) k1 (v.new nl el) ?_;rw[<-IK e];exact v.rows uJ
 have e:=v.lk Y;cases (J.of e).eq U;rw[UO e]at G;have z:=wy v.oT (us.take j) v.nd v.ok;exact q2 j ej hj H1 (v.kx G z.nd z.ok kH k1 O) k1
end
theorem aph{t:Addr}:msk [t] H t=none:=by
 unfold msk;rw[am bH]
theorem C7{t:Addr}(n:q≠t):msk [t] H q=H q:=by
 unfold msk;rw[ah (by simpa using n)]
theorem api(n:∃φ,H Pt=some (.ext φ))(h:aa K H a xs):aa K (msk [Pt] H) a xs:=by
 obtain⟨φ,n⟩:=n
 rcases h with(h | ⟨o,h⟩) | h
 . exact .inl (.inl (by rw[C7 (aU h n (by intro z;cases z))];exact h))
 . exact .inl (.inr ⟨o,by rw[C7 (aU h n (by intro z;cases z))];exact h⟩)
 exact .inr h
theorem apj:zf xs ps Str.empty []:=⟨[],[],[],[],⟨[],[],[],wq,wq,wq,CI⟩,CI.so,⟨[],[],⟨.refl _,λp j=>nomatch j⟩,QT,λ_ _=>rfl,λc z=>z.elim λp G=>G.elim λj _=>nomatch j⟩,rfl⟩
theorem DU.keepT{t:Str}{fs:Tr}{bk:Bk}(h:DU D x dx d b gg Pt xs ps t ch cs ow fs bk H)(k:jo Pt H H')(tb:aH H' Pt cW cR):DU D x dx d b gg Pt xs ps t ch cs ow fs bk H':=⟨h.dk.keepT h.tb tb k,h.la,h.tx,h.tk,h.up,h.fu,h.ln,tb⟩
theorem apm(U:H a=some (.lst xs))(J:eF C H xs ps)(G:ps.length<=100)(rD:(ps.map gH).Nodup)(q:∀x H',H x=none->ac H H'->jq S H' (.ref x) xs ps->Q x H') :
 ∀x dx,H x=none->H dx=none->dx≠x->GA K C S (.ref x::([.ref a]++[])) (ag (ag H dx (.own x)) x (.ins S dx [])) (λv H2=>v=.non/\Q x H2) E:=by
 intro x dx j Y nx;have z:ac H (ag (ag H dx (.own x)) x (.ins S dx [])):=fj (fC Y) j;refine⟨aD,z _ _ U,J.same z,G,rD,λH' keep O=>⟨rfl,q x H' j (λb o e=>keep b o (z _ _ e) (aO e j)) O⟩⟩
theorem apn(q:∀x dx d b H',H x=none->H d=none->H b=none->ac H H'->Dk C x dx d b x [] [] H'->Q x H') :
 ∀x dx,H x=none->H dx=none->dx≠x->G8 C [.ref x] (ag (ag H dx (.own x)) x (.ins C dx [])) (λv H2=>v=.non/\Q x H2) E:=by
 intro x dx j O nx;have G:ac H (ag (ag H dx (.own x)) x (.ins C dx [])):=fj (fC O) j;exact⟨aD,λd b H' nd U h1 h2 J k=>⟨rfl,q x dx d b H' j (G.free nd) (G.free U) (λp o e=>k p o (G _ _ e) (aO e j)) ⟨h1,⟨[],h2,.nil⟩,⟨[],J,.nil⟩,kR,(λf z=>nomatch z),λ_=>rfl,(λe z=>nomatch z),⟨_,h1⟩⟩⟩⟩
theorem jq.off{v:V}(n:∃φ,H Pt=some (.ext φ))(h:jq S H v xs ps):jq S (msk [Pt] H) v xs ps:=by
 obtain⟨φ,n⟩:=n;obtain⟨a,dx,fl,d,kvs,e,h1,h2,G,j,J⟩:=h;exact⟨a,dx,fl,d,kvs,e,by rw[C7 (aU h1 n (by intro z;cases z))];exact h1,h2,G,by rw[C7 (aU j n (by intro z;cases z))];exact j,J⟩
theorem apo{G:V}(q:∀h j H',H h=none->ac H H'->H' h=some (.ins Hc j (jR G x))->Q h H') :
 ∀h j,H h=none->H j=none->j≠h->ID Hc (.ref h::([G,.ref x]++[])) (ag (ag H j (.own h)) h (.ins Hc j [])) (λv H2=>v=.non/\Q h H2) E:=by
 intro h j hh hd nx;have J:ac H (ag (ag H j (.own h)) h (.ins Hc j [])):=fj (fC hd) hh;exact⟨aD,λH' e k=>⟨rfl,q h j H' hh (λp o z=>k p o (J _ _ z) (aO z hh)) e⟩⟩
end
section
seal PE PS bW PA PT PW PG eY PI eS
inductive zB (K:Fg) (Pt:Addr):Sp where
 | mk {H:Hp}{Q:VK}{E:XK}{a:Addr}{ns:List Int} (_:aa K H a (ns.map V.int)) (_:ns.length<=63) (_:aH H Pt cW cR) (_:∀H',aH H' Pt cW cR->Q (.bl true) H'):zB K Pt [.ref a] H Q E
theorem kL:aP [ast,asA,asL,"_law_shelf",asG,asX,asR,asT,asx,"_law_book","_law_due_here",as7,atj] [ast] (aA F7):=aV
theorem app(G:Pg K mg base Pt):aw P w K mg base aI 13 G.Law.f G.Law.fd [ast] (zB K Pt):=by
 refine G.Law.u.ok kL (λvs H Q E h=>?_) (λav Ar outer s H vs Q E J h=>?_)
 . cases h;rfl
 have hu:=J.units;have IU:(Ar.deeper (PyProof.Rows.envOfC "law" (aA F7) s.heap.objs.size G.Law.f av)).units+65<cLine:=by have:=J.un;omega
 refine tP ?_;intros;obtain @⟨_,_,_,a,is,hS,cP,co,q⟩:=h;refine⟨_,(ai (qN (i:=1) [atf] [ast] [0] kL.nd rfl rfl dM rfl (pq rfl G.B.range (al (aJ fU ar (aJ cH (ay (vS G) J rfl (aL (pv 0) ar)) ar)))) (λ_ _ _ _=>(be (i:=0) (show List.Nodup ([atf,ast]:Ls) by decide +kernel) rfl (Or.inl rfl))) (λ_ _ _ _=>gj) (λ_ _ _ _=>(ay (agV G) J rfl (aL (ay (vS G) J rfl (aL (pv 1) ar)) (pv 0)))))
  (ai (aM (i:=2) kL.nd rfl (Or.inl rfl) (ay (aje G) J rfl (dg (pv 0) (pv 1) ar)))
  (ai (aM (i:=3) kL.nd rfl (Or.inl rfl) (tu G.MSIn (up (aiI G)) J rfl G.US.mgC G.SIn.b .nil bJ (al (pv 2))))
  (ai (aM (i:=4) kL.nd rfl (Or.inl rfl) (YV G.MDIn (up (ajJ G)) J rfl G.UD.mgC G.DIn.b .nil bJ))
  (ai (aM (i:=5) kL.nd rfl (Or.inl rfl) (ay (am4 G) J rfl (dg (pv 2) (pv 1) (ay (vS G) J rfl (aL (pv 0) ar)))))
  (ai (bB (ay (anj (amG G)) J rfl (dg (pv 3) (pv 4) (pv 5))))
  (ai (aM (i:=6) kL.nd rfl (Or.inl rfl) (tu G.MHIn (up (anl G)) J rfl G.UH.mgC G.HIn.b .nil bJ (aL (pv 3) (pv 4))))
  (ai (aM (i:=7) kL.nd rfl (Or.inl rfl) (ay (yT G) J rfl (aL (pv 3) (pv 5))))
  (ai (bN (PW.pt (sP (bL (wz (K:=K) hu rfl) (dr (pv 6) G.UH.cl G.HLo.mt (up (zr G)) J G.HLo.b .nil bJ) (df dG) (bC _)) (sO (bL (wz (K:=K) hu rfl) (dr (pv 6) G.UH.cl G.HMe.mt (up (Ul G)) J G.HMe.b .nil adP) (df dG) (bC _)))))
  (aj (aX qG)) cD)
  (ai (eO dQ rfl (cG (fY [asE] [ast] [0] dM rfl (DH rfl G.B.range (aL ar ar)) (λ_ _ _ _=>(be (i:=0) (show List.Nodup ([asE,ast]:Ls) by decide +kernel) rfl (Or.inl rfl))) (λ_ _ _ _=>gj) (λ_ _ _ _=>(ay (vS G) J rfl (aL (pv 1) (pv 0)))))) (be (i:=8) kL.nd rfl (Or.inl rfl))
  (aj (bB (ay (aoi G) J rfl (dg (pv 4) (pv 7) (pv 8))))))
  (ai (aM (i:=9) kL.nd rfl (Or.inl rfl) (dr (pv 4) G.UD.cl G.BNo.mt (up (Cf G)) J G.BNo.b .nil bJ))
  (ai (aM (i:=10) kL.nd rfl (Or.inl rfl) (ay (aoq G) J rfl (aL (dr (pv 4) G.UD.cl G.FNo.mt (up (uy G)) J G.FNo.b .nil bJ) (pv 7))))
  (ai (aM (i:=11) kL.nd rfl (Or.inl rfl) (aJ cH (ay (vS G) J rfl (aL (pv 0) ar)) (aJ fU (cg fA (by rfl) G.B.len eX (al (pv 10))) ar)))
  (ai (bN (PW.pt (sP (bL (wz (K:=K) hu rfl) (dr (pv 6) G.UH.cl G.HLo.mt (up (zr G)) J G.HLo.b .nil bJ) (pv 10) (bC _)) (sO (qH (jf (ay (aoz G) J rfl (dg (pv 6) (pv 4) (pv 5))))))))
  (aj (aX qG)) cD)
  (ai (aM (i:=12) kL.nd rfl (Or.inl rfl) (ay (UJ G) J rfl (dg (pv 6) (pv 4) (pv 11))))
  (ai (bN (PW.pt (mn (bL qJ (pv 11) (cg fA (by rfl) G.B.len eX (al (pv 10))) (bC _)) (ph (PW.pt (sP (bL As (pv 12) iP (bC _)) (sO (bL (wz (K:=K) hu rfl) (dr (pv 6) G.UH.cl G.HLo.mt (up (zr G)) J G.HLo.b .nil bJ) (li qO (pv 10) (jz (pv 11)) nQ) (bC _))))))))
  (aj (aX qG)) cD)
  (ai (bN (PW.pt (mn (bL fV (pv 11) (cg fA (by rfl) G.B.len eX (al (pv 10))) (bC _)) (ph (bL (wz (K:=K) hu rfl) (pv 12) (pv 10) (bC _)))))
  (aj (aX qG)) cD)
  (ai (bN (bL (wz (K:=K) hu rfl) (ay (UJ G) J rfl (dg (pv 6) (pv 4) (aJ uZ (cg fA (by rfl) G.B.len eX (al (pv 10))) (pv 11)))) (li qO (pv 10) (jz (pv 11)) nQ) (bC _))
  (aj (aX qG)) cD)
  (aj (aX (sV (mr (UR (K:=K) hu rfl) (dr (pv 6) G.UH.cl G.HLo.mt (up (zr G)) J G.HLo.b .nil bJ) (df dG) (bC _)) (sV (mr (UA IU) (dr (pv 4) G.UD.cl G.FNo.mt (up (uy G)) J G.FNo.b .nil bJ) (pv 7) (bC _)) (sU (mr (UR (K:=K) hu rfl) (dr (pv 4) G.UD.cl G.BNo.mt (up (Cf G)) J G.BNo.b .nil bJ) (pv 9) (bC _))))))))))))))))))))))))),?_⟩
 refine adF ?_;intro dD sS ES Mt Mu Mw Mx u9 u8 u7 u6 u5 u4 u3 u2;refine⟨by omega,hS,λc0=>?_⟩;refine⟨(by show(0:Int)<4;decide),by omega,by omega,?_⟩;refine vk (σ0:=[none,some (.ref a)]) (λZ=>∃v,Z=[v,some (.ref a)]) (λi ys _=>∃xs:Ls,ys=xs.map V.str/\xs.length=i/\∀x∈xs,cJ x) ⟨_,rfl⟩ (λ_ _=>⟨[],rfl,rfl,λx hx=>nomatch hx⟩) ?_ ?_
 . intro D0 i ys Z H2 k hD hi fM hd hs gQ hk;refine bq ?_;intro tT;obtain⟨v,rfl⟩:=fM;obtain⟨xs,rfl,hx,br⟩:=gQ;refine⟨by omega,hs.seq hS,λc1=>⟨⟨λx H3 lx s3=>?_⟩⟩⟩;refine hk _ _ _ ⟨_,rfl⟩ s3 (bQ (by rw[ak];omega)) ⟨xs++[x],tK xs x,by rw[bI,hx];rfl,λy hy=>?_⟩
   rcases bY.mp hy with z | z
   . exact br y z
   rw[bF.mp z];exact lx
 intro nA ys H1 nD hn s1 gR;refine bq ?_;intro tT;obtain⟨ns,rfl,nl,j7⟩:=gR;have n1:1<=ns.length:=by omega
 have n4:ns.length<=4:=by omega
 refine⟨a,nA,is,ns,rfl,s1.seq hS,hn,n1,n4,λfa H2 xs ps _ s2 e2 bM ap=>?_⟩;have p6:=ap.len;refine⟨?_⟩;dsimp only[List.set,dY];refine apm (K:=K) (C:=G.C) (S:=G.S) e2 bM (by omega) ap.nd λsh H3 n3 s3 bb=>?_;have UW:=bM.same s3
 try dsimp only[List.set,dY]
 refine apn (Q:=λx H1=>_) λx dx d b H4 nx nd nb O rW=>?_;have nj:ac H H3:=s1.trans (s2.trans s3);have jP:aH H3 Pt cW cR:=co.same nj;have pok:∀p∈ps,cJ p.nm/\f9 p.ms:=λp hp=>⟨j7 _ (ap.nms p hp),ap.mks p hp⟩;have f4:=O _ _ (s3 _ _ e2);have Q7:=O _ _ (s3 _ _ (s2 _ _ hn));have jQ:=jP.same O;refine⟨by omega,(nj.trans O).seq hS,λc9=>?_⟩;refine⟨f4,UW.same O,by omega,pok,Q7,n1,n4,j7,λhv ch cs ow H5 s5 bm so dd o2 zk=>?_⟩;have h5:=bm [x,d,b,Pt] (rW.busy jQ);have rH:=rW.same s5;have i7:=jQ.same s5;have sR:ac (msk [Pt] H3) (msk [x,d,b,Pt] H5):=λq o e=>by
  have e3:=aQ q o e;have np:q≠Pt:=λz=>by rw[z,aph]at e;cases e
  refine cj (λz=>?_) (s5 _ _ (O q o e3));simp only[bf,ft,fw]at z
  rcases z with z | z | z | z
  . rw[z,nx]at e3;cases e3
  . rw[z,nd]at e3;cases e3
  . rw[z,nb]at e3;cases e3
  exact np z
 have az:∀{v:V}{p:cy},jp G.C H3 v p->jp G.C (msk [Pt] H3) v p:=λz=>z.off λb' hb o eo=>by
  obtain⟨φ,w⟩:=aH.at jP;rw[bF.mp hb,w]at eo;cases eo;exact⟨(by intro _ _ _ z;cases z),(by intro _ z;cases z),(by intro _ z;cases z)⟩
 have W5:kF G.C G.S (msk [x,d,b,Pt] H5) (.ref sh) xs ps ns:=⟨(jq.off (aH.at jP) bb).same sR,eF.same sR (aq UW λ_ _=>az),ap,n4,j7⟩;have aR:aa K (msk [x,d,b,Pt] H5) a (is.map V.int):=sR.seq (api (aH.at jP) (nj.seq hS));have cp:qj xs ps [Str.empty]:=λt ht=>⟨[],[],[],by rw[bF.mp ht];exact CI⟩;refine⟨W5,h5,so,⟨rH,rfl,CI,cp,rfl,apj,by decide,i7⟩,by decide,λt0 ch' cs' ow' UX zC H6 r1 r2 r3 D6 l0 k6=>?_⟩;have d4:zC.length<=0+10:=l0;refine⟨⟨?_⟩⟩;dsimp only[List.set,dY,uP,Aa];refine apo (Hc:=G.Hc) λh a0 H9 nh s9 e9=>?_;have k9:cz x d b Pt H5 H9:=k6.trans (.of s9);have D9:=D6.same s9;have W9:HW G.Hc G.C G.S h a0 x (.ref sh) xs ps ns (msk [x,d,b,Pt] H9):=⟨cj (D6.busy.free nh) e9,W5.same k9.msk⟩;have wB:=W9.wl.same aQ;have cB:fe xs ps ch:=⟨so.ok.d1,so.va⟩;refine⟨wB.sh,wB.pc,wB.pcok,wB.n4,(h5.same k9.msk).same aQ,so.va,cB.len wB.ap wB.n4,so.o2,so.ok.okO,λe he=>(so.ok.ok.cs e he).2.ln,D9.tb,λt5 HA kt tr nt kT UY eA qk gJ lT fL iM=>?_⟩;have kA:cz x d b Pt H5 HA:=k9.trans (.ofT kT);have DA:=D9.keepT kT UY;have v0:Lv ⟨G.Hc,G.C,G.S,G.T,G.D,h,a0,x,dx,d,b,t5,Pt,.ref sh,hv,xs,ps,ns,t0,ch,cs,ow,ch',cs',ow',zC,tr⟩ UX HA:=⟨W9.same (cz.ofT kT).msk,DA.qd (by omega),DA.dl,UY,h5.same kA.msk,⟨kt,cj (D9.busy.free nt) eA,aq qk λ_ _ a'=>a'.elim λz1 aT=>aT.elim λl b0=>b0.elim λz2 b1=>b1.elim λz3 z4=>⟨z1,l,z2,cj (D9.busy.free z3) z4⟩⟩,DA.dk.nd,DA.dk.ok,iM,gJ,lT,fL,r1.pm,r2.pm,r3.pm⟩;have IC:=DA.ln;refine⟨v0.hh,rfl,v0.look (by omega) λl1 d' dt di HB wj v1 k1 U1 e1 IV=>?_⟩;have C8:=(DA.fu.look ap DA.tx wj).trans (v0.lk wj);cases U1.none C8;cases IV;have bn:uF []:=λ_ h=>nomatch h
 refine⟨AQ,λp1 HC vX I8 HY=>?_⟩;refine wA (I8 _ _ (aQ _ _ e1)) .nil HY .nil bn ⟨cL ?_⟩;have UZ:=v1.same I8;refine⟨UZ.hh,rfl,UZ.mend (by omega) C8 λl2 HD v2 k2 e2=>?_⟩;refine⟨AQ,λp2 HE G9 I9 b7=>?_⟩;refine wA (I9 _ _ e2) .nil b7 .nil bn ⟨cL ?_⟩;have U0:=v2.same I9;have kE:cz x d b Pt H5 HE:=kA.trans (k1.trans ((cz.of I8).trans (k2.trans (.of I9))));have aE:=aQ.seq (kE.msk.seq aR);refine⟨⟨by omega,by omega,by omega,by omega⟩,?_⟩;refine vk (σ0:=[none,some (.ref a)]) (λZ=>∃v,Z=[v,some (.ref a)]) (λi ys _=>ys.length=i/\∀y∈ys,∃n:Int,y=.int n) ⟨_,rfl⟩ (λ_ _=>⟨rfl,λ_ h=>nomatch h⟩) ?_ ?_
 . rintro D0 i ys Z H2 k hD hi ⟨v,rfl⟩ cU hs ⟨hx,hy⟩ d5;refine⟨by omega,hs.seq aE,λn=>?_⟩;refine d5 _ _ _ ⟨_,rfl⟩ (ac.refl _) (bQ (by omega)) ⟨by rw[bI,hx];rfl,λy hm=>?_⟩
   rcases bY.mp hm with hm | hm
   . exact hy y hm
   exact⟨n,bF.mp hm⟩
 rintro cl ys HF nc mQ sF ⟨hl,hy⟩;have c_:ys.length=8:=hl;have vF:=U0.same sF;have aF:=(kE.trans (.of sF)).msk.seq aR;have U3:=U0.new nc mQ;have zu:=iM.pok ap j7 so.pt;refine⟨⟨_,aa.of mQ⟩,?_⟩;generalize eN:(⟨G.Hc,G.C,G.S,G.T,G.D,h,a0,x,dx,d,b,t5,Pt,.ref sh,hv,xs,ps,ns,t0,ch,cs,ow,ch',cs',ow',zC,tr⟩:Nm)=N at vF U3;refine hJ (xs:=ys) (λi Z H'=>∃u fs L,Z=[some (.ref a),some (.ref nA),some (.ref fa),some (.ref sh),some (.ref x),some hv,some (.ref h),some (.ref t5),u,none,none,none,none]/\Lv N fs H'/\fQ fs/\(∀f∈fs,f.1∈L)/\(∀f∈tr,f.1∈L)/\L.length<=24+i/\N.Kp HF H')
  ⟨none,UX,tr.map (·.1),rfl,vF,zu.alike C8,λf Y=>fq (f:=(·.1)) (ao6 DA.dk.nd C8 f Y),λf Y=>fq (f:=(·.1)) Y,by rw[ak];omega,.of (ac.refl _)⟩ ?_ ?_ ?_
 . rintro i Z H' hi ⟨u,fs,L,rfl,_,_,_,_,_,k⟩;exact aa.of (aQ _ _ (k.msk _ _ U3))
 . intro i y Z H' U4 hQ;refine bq ?_;intro tT;obtain⟨u,fs,L,rfl,v,pk,sb,sT,ll,k⟩:=hQ;obtain⟨cA,rfl⟩:=hy y (da U4);have cZ:=(cM.mp U4).1;subst eN;obtain⟨bz,ht,pt⟩:=v.tt;have U6:=ao7 ht;simp only[bf,ft,fw,ny]at U6;obtain⟨kd,hd,_⟩:=v.dl.hd;obtain⟨tb,hb,_⟩:=v.qd.bo;have lf:=zA v.nd sb ll;refine⟨v.dl,v.nd,v.ok,by omega,aQ _ _ ht,(λz=>U6.2.1 z.symm),aq pt λ_ _=>aY.same aQ,gJ,fL,lT,pk,zu,λeL p H2 L2 yP bS c3 sub keep=>?_⟩;have yh:aH H2 Pt cW cR:=K73.aH.kp v.tb λq φ e=>keep _ _ e (aU e hd (by intro z;cases z));refine⟨_,eL,p::L,rfl,v.kx L2 yP bS yh (λq o e _ n _ _=>keep q o e n) (by rw[keep _ _ hb (aU hb hd (by intro z;cases z)),hb]),c3,λf Y=>(sub f Y).elim (λz=>by rw[z];exact bH) (λz=>bR _ (sb f z)),λf Y=>bR _ (sT f Y),by rw[cq];omega,k.trans λq o e _ n _ _=>keep q o e n⟩
 rintro Z HG ⟨u,fs,L,rfl,v,pk,sb,sT,ll,kG⟩;subst eN;have aG:=kG.msk.seq aF;have C9:L.length<=32:=by omega
 have lf:=zA v.nd sb C9;obtain⟨ts,hb,pb⟩:=id v.qd.bo;refine⟨v.qd.ob,rfl,v.qd.ob,hb,λbA HB nB sB eB=>?_⟩;have vB:=v.same sB;have b2:=v.new nB eB;have bZ:Paired (dP (msk [x,d,b,Pt] HB)) ts zC:=aq pb λ_ _ a3=>a3.elim λt a4=>a4.elim λy z=>⟨t,y,cj (vB.busy.tup (sB _ _ z)) (sB _ _ z)⟩;obtain⟨kd,hd,pd⟩:=id vB.dl.hd;refine⟨vB.qd.ob,rfl,vB.qd.ob,hd,pd,vB.nd,by omega,λr HC kr nr sC eC c4=>?_⟩;have vC:=vB.same sC;obtain⟨bz,ht,pt⟩:=id vC.tt;refine⟨eC,aQ _ _ ht,aq c4 λ_ _ a5=>a5.elim λz1 a6=>a6.elim λl a7=>a7.elim λz2 a8=>a8.elim λ_ z3=>⟨z1,l,z2,z3⟩,aq pt λ_ _=>aY.same aQ,vC.nd,gJ,vC.ok,fL,by omega,lT,λdu zs us HD nD sD eD U HS=>?_⟩;have vD:=vC.same sD;have uK:=vC.new nD eD;have zD:=vC.rows HS;have U8:cz x d b Pt HB HD:=.of (sC.trans sD);have b3:=U8.msk _ _ b2;have b_:=aq bZ λ_ _=>dP.same U8.msk;have zl:zs.length=us.length:=by rw[bD zD,ak]
 have tok:=ao2 U pk zu;refine⟨by omega,aQ.seq ((cz.of (sB.trans (sC.trans sD))).msk.seq aG),λJa=>?_⟩;refine⟨du,zs,rfl,.inl (aa.of eD),?_⟩;refine⟨by omega,?_⟩;have n0:0<=Ja % ((zs.length:Int)+1):=sq _ (by omega);have vX:Ja % ((zs.length:Int)+1)<(zs.length:Int)+1:=uQ _ (by omega);show ES dD _ HD;dsimp only[List.set];generalize Ja % ((zs.length:Int)+1)=n at n0 vX;obtain⟨m,rfl⟩:=aqR n0;have hm:m<=us.length:=by omega
 refine vt ?_;intro d6 s6 w6 w5 w4 w3 w2;have a1:∀(fv:V) (H2:Hp),Lv ⟨G.Hc,G.C,G.S,G.T,G.D,h,a0,x,dx,d,b,t5,Pt,.ref sh,hv,xs,ps,ns,t0,ch,cs,ow,ch',cs',ow',zC,tr⟩ ((us.take m).foldl (aZ tr) fs) H2->cz x d b Pt HD H2->w5 d6 [some (.ref a),some (.ref nA),some (.ref fa),some (.ref sh),some (.ref x),some hv,some (.ref h),some (.ref t5),u,some (.ref bA),some (.ref du),some (.int m),some fv] H2:=by
  intro fv H2 v2 k2;have st:=wy fL (us.take m) vD.nd vD.ok;have l2:=zA v2.nd (λf Y=>(st.mm f Y).elim (sb f) (sT f)) C9;have U2:=U.drop m;have b4:=k2.msk _ _ uK;have d9:(us.drop m).length=us.length - m:=kP;refine⟨du,zs,rfl,.inl (aa.of (aQ _ _ b4)),?_⟩;refine⟨⟨v2.mended (by omega) U2 (by omega) (λ_ l3 z3 H3 v3 k3 e3 ky=>?_) (λj ej hj H3 v3 k3=>?_)⟩⟩
  . have ck:=U.told m;rw[ck]at ky;have Jb:=k2.trans k3;have b5:=Jb.msk _ _ uK;refine⟨⟨⟨aa.of (aQ _ _ b5),λp4 H4 n4 O e4=>?_⟩⟩⟩;rw[UP]at e4;refine wA (O _ _ (aQ _ _ e3)) (aq ky λ_ _=>dP.same (aQ.trans O)) e4 (aq (UV zD m) λ_ _=>dP.same (Jb.msk.trans (aQ.trans O))) (λe he=>tok e (zP he)) ⟨cL ?_⟩;have v4:=v3.same O;have bx:=Jb.trans (.of O);have py:=wy fL (us.drop m) v2.nd v2.ok;have d7:=zA v4.nd (λf Y=>(py.mm f Y).elim (λz=>(st.mm f z).elim (sb f) (sT f)) (sT f)) C9;have Jc:=funext U2.all;refine⟨v4.hh,rfl,v4.look (by omega) λl5 IT dy dn cv _ v5 k5 U5 e5 fN=>?_⟩;cases U5.none Jc;cases fN;refine⟨AQ,λp6 H6 n6 s6 e6=>?_⟩;refine UU (s6 _ _ (aQ _ _ e5)) .nil e6 .nil bn ⟨dZ ?_⟩;have v6:=v5.same s6;obtain⟨d0,bl,c2⟩:=id v6.dl.hd;refine⟨v6.qd.ob,rfl,v6.qd.ob,bl,c2,v6.nd,by omega,λr7 H7 d2 n7 s7 e7 wn=>?_⟩;have v7:=v6.same s7;obtain⟨d3,bp,cc⟩:=id v7.tt;refine⟨UB e7 (aQ _ _ bp) (aq wn λ_ _ a9=>a9.elim λz1 ab=>ab.elim λl ax=>ax.elim λz2 a2=>a2.elim λ_ z3=>⟨z1,l,z2,z3⟩) (aq cc λ_ _=>aY.same aQ) v7.ok v7.nd gJ Jc (ao1 v7.nd gJ Jc) ⟨dZ ?_⟩⟩;obtain⟨dp,bd,bX⟩:=id v7.qd.bo;refine⟨v7.qd.ob,rfl,v7.qd.ob,bd,λp8 H8 n8 s8 e8=>?_⟩;have U9:=bx.trans (k5.trans (.of (s6.trans (s7.trans s8))));exact⟨UU e8 (aq bX λ_ _=>dP.same s8) (aQ _ _ (U9.msk _ _ b3)) (aq b_ λ_ _=>dP.same (U9.msk.trans aQ)) v7.qd.bt (q H8 (v7.tb.same s8))⟩
  exact absurd hj (by omega)
 refine⟨vD.hh,rfl,vD.look (by omega) λl2 dE Uq zt HE _ vE kE UE eE c6=>?_⟩;cases UE.eq U;refine⟨wA (aQ _ _ eE) (aq c6 λ_ _=>dP.same aQ) (aQ _ _ (kE.msk _ _ uK)) (aq zD λ_ _=>dP.same (kE.msk.trans aQ)) tok ⟨cL ?_⟩⟩;refine⟨vE.hh,vE.qd,vE.dl,vE.nd,vE.ok,by omega,vE.st.same aQ,(λe he=>r2.pm.mem_iff.mpr he),(cn so.ok.n2 (by decide)),(λz=>?_),λHI sI=>⟨cL ?_⟩⟩
 . obtain⟨e,he,ee⟩:=ca.mp z;exact zk e (r3.pm.mem_iff.mp he) (by rw[ee];decide +kernel)
 have vI:=vE.same sI;have kI:cz x d b Pt HD HI:=kE.trans (.of sI);refine⟨⟨⟨vI.mended (by omega) U (by omega) (λln l3 z3 HJ vJ kJ eJ c7=>?_) (λj ej hj HJ vJ kJ=>?_)⟩⟩⟩
 . have em:m=us.length:=by omega
   have wC:=kI.trans kJ;have zE:=wC.msk _ _ uK;refine⟨⟨du,zs,rfl,.inl (aa.of (aQ _ _ zE)),⟨⟨bv (λz=>absurd (cT z) (by omega)) (λ_=>cL ?_)⟩⟩⟩⟩;refine⟨⟨du,zs,rfl,.inl (aa.of (aQ _ _ zE)),rfl,⟨bv (λ_=>?_) (λz=>absurd (bE (fo V.int (show(m:Int)=(zs.length:Int) by omega))) z)⟩⟩⟩;refine⟨⟨wA (aQ _ _ eJ) (aq c7 λ_ _=>dP.same aQ) (aQ _ _ zE) (aq zD λ_ _=>dP.same (wC.msk.trans aQ)) tok ⟨cL ?_⟩⟩⟩;exact a1 _ HJ (by rw[em,eI];exact vJ) wC
 have em:j=m:=by omega
 subst em;have wC:=kI.trans kJ;have zE:=wC.msk _ _ uK;have st:=wy fL (us.take j) vD.nd vD.ok;have l2:=zA vJ.nd (λf Y=>(st.mm f Y).elim (sb f) (sT f)) C9;refine⟨⟨du,zs,rfl,.inl (aa.of (aQ _ _ zE)),⟨⟨bv (λ_=>?_) (λz=>absurd (bE (show(j:Int)<(zs.length:Int) by omega)) z)⟩⟩⟩⟩;refine⟨rfl,⟨cL ?_⟩⟩;refine⟨vJ.hh,rfl,vJ.look (by omega) λl4 dK dv dm HK _ vK kK UK eK Va=>?_⟩;cases UK.eq (U.drop j);have cm:=U.told j;rw[cm]at Va;have Jd:=wC.trans kK;have b6:=Jd.msk _ _ uK;refine⟨⟨⟨aa.of (aQ _ _ b6),λp4 HM n4 O e4=>?_⟩⟩⟩;rw[UP]at e4;refine wA (O _ _ (aQ _ _ eK)) (aq Va λ_ _=>dP.same (aQ.trans O)) e4 (aq (UV zD j) λ_ _=>dP.same (Jd.msk.trans (aQ.trans O))) (λe he=>tok e (zP he)) ⟨cL ?_⟩;have Vb:=Jd.trans (.of O);refine⟨⟨du,zs,rfl,.inl (aa.of (aQ _ _ (Vb.msk _ _ uK))),rfl,⟨bv (λz=>absurd (V.int.inj (cT z)) (by omega)) (λ_=>cL ?_)⟩⟩⟩;exact a1 _ HM (vK.same O) Vb
end
end K73
set_option maxHeartbeats 8000000
namespace K73
variable {K:Fg}{h:Heap}{mg:Mv}{p0 p1 p2:Str}
def ap7{f c Pt:Addr}{od an:Oa}{sl:Array (Option Value)}{oc kV dc pm ct:Value}(X:K.In h)(G:h.Ns mainGlobals mg)(a:W.nsIn K mainGlobals asK=some (some (.ref f)))(l:K.lookup f=some ⟨oc,od,.func (W.fnOf asK asK (jA mV) (gB mV) (aA mV) .none kV dc pm an (.ref c) ct),sl⟩)(j:W.codeIn K (.ref c) asK=true)(k:W.keepIn K (.ref f)=true)(b:Binds K (W.fnOf asK asK (jA mV) (gB mV) (aA mV) .none kV dc pm an (.ref c) ct) [asN,ass,asD] [])(hd:W.codeHdIn K c Pt=true)(z:K.lookup Pt=none):PQ K mg Pt:=⟨bw X G a l j k b,c,⟨⟨_,_,_,_,_,_,_,_,rfl,l,j⟩,k⟩,hd,z⟩
def ap8{f:Addr}{od an:Oa}{sl:Array (Option Value)}{oc kV dc pm cd ct:Value}(X:K.In h)(G:h.Ns mainGlobals mg)(a:W.nsIn K mainGlobals as4=some (some (.ref f)))(j:W.nsIn K mainGlobals "come_up_books"=some (some (.ref f)))(l:K.lookup f=some ⟨oc,od,.func (W.fnOf as4 as4 (jA rm) (gB rm) (aA rm) .none kV dc pm an cd ct),sl⟩)(z:W.codeIn K cd as4=true)(k:W.keepIn K (.ref f)=true)(b:Binds K (W.fnOf as4 as4 (jA rm) (gB rm) (aA rm) .none kV dc pm an cd ct) [asp,asv] []):PR K mg:=⟨bw X G a l z k b,zW X G j⟩
theorem im{n:Nat}{us:Lw}(h:us.length=n+1):∃u r,us=u::r/\r.length=n:=by
 cases us with
 | nil=>cases h
 | cons u r=>exact⟨u,r,rfl,Nat.succ.inj h⟩
theorem bn1(h:∀j:Value,bindArgs fd ⟨[j],[]⟩=pure ([p0].zip [j])):Binds K fd [p0] []:=.all λus e=>by
 obtain⟨j,vs,rfl,z⟩:=im e;cases Dx z;exact h j
theorem bn2(h:∀j z:Value,bindArgs fd ⟨[j,z],[]⟩=pure ([p0,p1].zip [j,z])):Binds K fd [p0,p1] []:=.all λus e=>by
 obtain⟨j,vs,rfl,G⟩:=im e;obtain⟨z,us,rfl,e1⟩:=im G;cases Dx e1;exact h j z
theorem bn3(h:∀j z G:Value,bindArgs fd ⟨[j,z,G],[]⟩=pure ([p0,p1,p2].zip [j,z,G])):Binds K fd [p0,p1,p2] []:=.all λus e=>by
 obtain⟨j,vs,rfl,J⟩:=im e;obtain⟨z,us,rfl,e1⟩:=im J;obtain⟨G,vs,rfl,e2⟩:=im e1;cases Dx e2;exact h j z G
theorem bn4{O:Str}(h:∀j z G J:Value,bindArgs fd ⟨[j,z,G,J],[]⟩=pure ([p0,p1,p2,O].zip [j,z,G,J])):Binds K fd [p0,p1,p2,O] []:=.all λus e=>by
 obtain⟨j,vs,rfl,U⟩:=im e;obtain⟨z,us,rfl,e1⟩:=im U;obtain⟨G,vs,rfl,e2⟩:=im e1;obtain⟨J,us,rfl,e3⟩:=im e2;cases Dx e3;exact h j z G J
theorem bn8{p3 p4 p5 p6 p7:Str}(h:∀j z G J O U Y u7:Value,bindArgs fd ⟨[j,z,G,J,O,U,Y,u7],[]⟩=pure ([p0,p1,p2,p3,p4,p5,p6,p7].zip [j,z,G,J,O,U,Y,u7])):Binds K fd [p0,p1,p2,p3,p4,p5,p6,p7] []:=.all λus e=>by
 obtain⟨j,vs,rfl,e0⟩:=im e;obtain⟨z,us,rfl,e1⟩:=im e0;obtain⟨G,vs,rfl,e2⟩:=im e1;obtain⟨J,us,rfl,e3⟩:=im e2;obtain⟨O,vs,rfl,e4⟩:=im e3;obtain⟨U,us,rfl,e5⟩:=im e4;obtain⟨Y,vs,rfl,e6⟩:=im e5;obtain⟨u7,us,rfl,e7⟩:=im e6;cases Dx e7;exact h j z G J O U Y u7
theorem aqe{j t1:Tok}(X:K.In h)(G:h.Ns mainGlobals mg)(z:W.nsIn K mainGlobals "MOST_LETTERS"=some (some (.int 8 j)))(J:W.nsIn K mainGlobals "MOST_PATH_WORDS"=some (some (.int 4 t1))):Od mg:=⟨⟨j,zW X G z⟩,⟨t1,zW X G J⟩⟩
theorem aqf(X:K.In h)(G:h.Ns mainGlobals mg)(Y:W.nsIn K mainGlobals "Fallen"=some (some (.ref N)))(j:W.excIn K N [.type "ValueError",.type "Exception",.type "BaseException",.type "object"] "ValueError.__new__"=true)(z:W.findIn K (.ref N) "__getattribute__"=some (some (.builtin "BaseException.__getattribute__")))(J:W.findIn K (.ref N) "__getattr__"=some none)(cls:W.findIn K (.ref N) "__class__"=some (some (.builtin "object.__class__")))(a0:W.specialIn K (.builtin "object.__class__") "__get__"=some (some (.builtin "getset_descriptor.__get__")))(a1:W.takesIn K (.builtin "object.__class__")=some true)(U:W.mroIn K N (.type "object")=some true)(O:W.mroIn K N (.type "BaseException")=some true)(ex:W.exmOne K (.ref N) (.ref N)=some true):PP K mg N:=⟨zW X G Y,⟨j,z,J,cls,a0,a1,U,O⟩,ex⟩
theorem aqg{P:Program}{w:World}(z:mg "law"=some (.ref fa))(p:Pq K mg Pt) :
 ∃(fd:Fy) (c:Addr),(∀(s:Shared) (v:Value),BindsTo s fd ⟨[v],[]⟩ [(ast,v)])/\W.codeHdIn K c Pt=true/\K.lookup Pt=none/\∀base:Heap,K.In base->base.Ns mainGlobals mg->base.BuiltinsAt mg Pt->aw P w K mg base aI 13 fa fd [ast] (zB K Pt):=by
 cases z.symm.trans p.Law.m;refine⟨p.Law.fd,p.NBe.c,λs v=>?_,p.NBe.hN,p.NBe.hP,λbase _ _ j=>app (⟨p,j⟩:Pg K mg base Pt)⟩;obtain⟨oc,od,kV,J,pm,an,G,ct,O,e,_⟩:=p.Law.u.ex;rw[e];exact .of_eq rfl
theorem aqh{l:W.OpenLaw}{q:Program}{a0:Ls}{J:(Mv)->Heap->Prop}{j:World->Heap->Prop}{d:DefRec}{K:Params->Fg}{Pt:Addr}(hn:l.most=some 63)(xD:d.params.defaults=[])
 (Y:∀(w:World) (h:Heap),j w h->(K w.params).In h/\h.get? Pt=some (W.tabObj #[]))
 (F:∀(w:World) (mg:Mv) (G:Addr) (h:Heap),(K w.params).In h->h.Ns mainGlobals mg->mg d.name=some (.ref G) ->
  ∃(fd:Fy) (c:Addr),(∀(s:Shared) (u:Value),BindsTo s fd ⟨[u],[]⟩ [(ast,u)])/\W.codeHdIn (K w.params) c Pt=true/\(K w.params).lookup Pt=none/\∀base:Heap,(K w.params).In base->base.Ns mainGlobals mg->base.BuiltinsAt mg Pt->aw l.prog w (K w.params) mg base aI 13 G fd [ast] (zB (K w.params) Pt)) :
 W.WalkO q a0 J j l.row.toRowW d [] (λf vs=>PySem.call f vs):=
 L2.agj (n:=63) (k:=13) (x:=ast) (a_:=cR) (lpos:=cW) (Pt:=Pt) (CX:=λ_=>aI) (sp:=λw=>zB (K w.params) Pt) hn (by decide) xD ⟨rfl,by decide,by decide,rfl⟩ Y F (λ_ _ a ns hl U O=>⟨O,hl,.inl U,λ_ t=>⟨rfl,t⟩⟩) λ_ _ _ _ _ z=>z
end K73
end
open PySem PySem.W PyProof.Rows
structure PySem.W.Fast where (tw15721673171532415209 tw2570913361623190628 tw9651259533674303483 tw9626747838346101844 tw3658339286242586468 tw15534044297517408531 tw16844179212391741557 tw10683327095706510717 tw9433438353579206042 tw13078219145223546185 tw12412631531223072490 tw10452728831165310874 tw13633069051896237787 tw5658964032421664510 tw12167065268305367210 tw6330950987723181503 tw14119428945841312399 tw16263965247363737546 tw10434023557247011271 tw2483439742118896168 tw15681085142797376131 tw10077091165853248383 tw14411262353842320926 tw2492086238523355275 tw8558593669672233494 tw12294569266236796483 tw14640976118356008065 tw16573796274778748451 tw5300198513403223990 tw12749837605861221490 tw3664891540936742285 tw2711437699735573678 tw11151207902055332890 tw6428865258727767112 tw4822523318259972815 tw2026166651402557625 tw5015723931192601492 tw6084688052509001293 tw14180624940996132906 tw13915854331430545106 tw14738723085830878667 tw6567474837808164483 tw4083597755057910220 tw6167444174430860038 tw4210418828665928616 tw11809176183573742501 tw5120310140541106809 tw17916711378450253566 tw1270995899036200521 tw3390275139955755268 tw8937332394794338175 tw2883259294379972188 tw13594596248677147139 tw3102172044878905054 tw15269841678728194389 tw5046338462430419295 tw3485279420773642705 tw4121947766001314831 tw14650403241925435519 tw10618111859440772438 tw8448527272430010816 tw1447833463203469308 tw9338507647034721423 tw10705956821613454917 tw8174227362525852024 tw7160732266365250406 tw17740656954497720569 tw5501739703465124656 tw96072968102396577 tw18439793683761632653 tw4450609123001805052 tw8721237359844174823 tw18114990916631005374 tw8904176408579797679 tw12517697204292609684 tw14749585088161691414 tw16740666404342321856 tw12761730304192536784 tw1662745235379222351 tw6567548262859636769 tw14542400494228673684 tw8047635979535894625 tw17253776784323695588 tw15887296587487852897 tw17570234858287349863 tw6758065155191283336 tw1737666242147613574 tw12250625089124600328 tw5384811226155457764 tw9600899712762967769 tw18263603911490649066 tw7250984286150158340 tw7976902186012836160 tw7708804515822658392 tw18262694630812416859 tw17149439893283578114 tw18280088692896419303 tw7695158415837344028 tw6601957466883567717 tw11262924436226291791 tw13172751577882064539 tw1395629968154612544 tw12785043310705200268 tw3832786744566636096 tw10322374972075247281 tw434005349401649682 tw8479711966611231279 tw3435423824799286528 tw6304553837189693718 tw3328629674978418649 tw969305387943437998 tw17247205272962819268 tw18285381064027039044 tw15994969590545921737 tw4801380967676264781 tw10685255787704445229 tw1233060168483769913 tw14617385218427246398 tw12386007366828478381 tw13969352812649770774 tw10792690520129596153 tw5334765771206492353 tw12437053500765847066 tw7428008302118416520 tw12227540894204748603 tw16737093504989008519 tw5029810713524024142 tw17726282612709922143 tw4523722967814126622 tw11236053194629191471 tw14934461964520229311 tw5509733116539716489 tw6057816719983971965 tw17016531201446542947 tw6040068314095532245 tw2868502099538747129 tw9776428064566744259 tw11448256806824456671 tw14328978987326853844 tw17019557699461568071 tw5093099423410230186 tw3856624751184360218 tw10274043609644407958 tw240869621809025810 tw11278626609825568545 tw6420258417675265666 tw16636241491950300602 tw3188163438230547378 tw14041334199589819724 tw15414558148315065343 tw15971188126447958681 tw13862744283509971896 tw1449148987401781450 tw592154694637268742 tw662449102244406377 tw12245575115713523402 tw771529888256166008 tw7972863122335614243 tw2183729656295560612 tw2451522710902045080 tw10207640451959112249 tw18127328746749921351 tw13203990565217108707 tw3213659047405779937 tw7540555110395714943 tw5203840047370999348 tw11388905773698905825 tw5910379019778178366 tw326438271618046525 tw2127746270405665857 tw17872160372159384804 tw12487440744940882239 tw9172624369880749876 tw6647708008044329264 tw17344644774103233720 tw14705691523208500211 tw9884702778629226195 tw989725034472095299 tw15985391228395684325 tw11198189960210502459 tw16338341163336341521 tw11311394852676815753 tw5269895150584164345 tw8091024583661380756 tw2716675372575890660 tw12345276031583652329 tw12357480820173128541 tw17615238307720757753 tw14062237601577408224 tw1501577951124256857 tw3566694817827095722 tw13500268745161010270 tw10921577136906324640 tw12563611655063692469 tw14460672377461132198 tw1493030931635362474 tw17127908193262101874 tw1577278952393367552 tw9617912137159590738 tw1256396780493367608 tw6512425111404833302 tw9809370358056418789 tw14382177192496726060 tw14253432725180684465 tw7239469273805021865 tw5406269360868160537 tw5211435728168894580 tw8394826246708488528 tw16825073302558380111 tw3559417425110040701 tw12113123852168966700 tw13541705666965689771 tw10857572085302189135 tw155124811234598233 tw16437730285176926500 tw3281560249671483665 tw5401168190789673772 tw13050887215383204454 tw4643336982527608661 tw14410831911038137787 tw4402341355490572889 tw2664611856731281928 tw10713816634053902510 tw5489618435596743980 tw13274982565887188356 tw11936722718783030216 tw71630557594556434 tw18050901543926117479 tw17054307151159954026 tw14992981076526952941 tw17967280873481078857 tw17233195672664279630 tw10986108823039640612 tw8055315585814477706 tw2775475558635443488 tw3293371150839107626 tw14340737063981883113 tw2945866972283582059 tw8800114273401451699 tw7054891787739596879 tw5227323376609059204 tw15527119306750937821 tw14066777562736631684 tw5311606658999431048 tw7026472166368069913 tw7488280318201719062 tw6019036154342475174 tw2041847402687453888 tw10273304067380288308 tw7131583246174459581 tw16083680961657075597 tw15311122951056601691 tw11673938267298187686 tw6631478838979240292 tw14067205440688319522 tw8425557853753801493 tw7821978735418187051 tw6943822959162521594 tw3374611067425576696 tw16949738404992158380 tw14796033855971847525 tw1153603315818591333 tw5065855838132697404 tw18360475483233066724 tw7910009760994957137 tw7656768289058843894 tw7243065952199034458 tw16576117475164052630 tw17510588925153873745 tw593249938194494203 tw16505356312920246821 tw13615504359246570604 tw9774302235925113026 tw9800307011965397950 tw9356916092553771802 tw17523866868401777723 tw14470591743885070212 tw13668686089162727753 tw13698274600314341360 tw5525447177820833228 tw15207043631723454342 tw4849623362836631151 tw15982090327592308898 tw14540860335425477257 tw10766649427062463573 tw8956547260719347673 tw5332950341747291743 tw4786985166659513498 tw2895694397842932771 tw1495113824165446196 tw8836499569427564716 tw8522471951611535556 tw16487337316944625112 tw17638744653092117111 tw930982069550012043 tw7342675618030860516 tw10777223282610713487 tw7831224835463397205 tw9325341261350067359 tw7218481394122093286 tw15732523066054826350 tw6026973425754281105 tw8783320453767015875 tw6638512054104638968 tw598056883333984232 tw427701811171140993 tw2978365695349285918 tw17406160476364630928 tw16580895502713163267 tw13582325435233693494 tw11590649037351368851 tw957548615646431792 tw12686548225298203547 tw12783220358064579452 tw11915697970433611617 tw9359516571108956198 tw5505954374045368373 tw4822383489564983805 tw18154509092876384408 tw6160877369184367343 tw16593209522819559 tw10506284625809597657 tw3136048478753023444 tw17732576662763549427 tw11592592515914887242 tw8532306529796915616 tw8055425677204429167 tw7872248267930656084 tw5220471940945084046 tw4876737753679939367 tw4441642631873966442 tw2687657865341874546 tw18346794117557100308 tw17874863768163143352 tw17373102036116791720 tw17181311058041812647 tw16947023622302378694 tw15553888306549630951 tw14948831499920380476 tw14797676807779289774 tw13335520384009002663 tw12683252968293910864 tw12680325451225629715 tw12528589006802441419 tw12487067980758592770 tw10843962762106972003 tw10517426031344913637 tw10482819673292178858 tw8770418523456369982 tw642254899893023711 tw15855568371632227800 tw9376202446573742772 tw9230206077188135964 tw898886066723814427 tw7946687508246139120 tw6073314769867668607 tw5457576702956424815 tw4426891587700633721 tw3837228162986553884 tw2374817247309938244 tw18371629767610657593 tw17629786908998680664 tw14724203490600965277 tw14697230096079874337 tw10808311393622502415 tw15247883042664338634 tw14704956118644529851 tw6410798157541821517 tw3910996510869303927 tw17597654118156139805 tw15907552189015129239 tw15846790253325373655 tw16196038306538229441 tw9301915323024556385 tw6309217484318382176 tw3842367300941675276 tw17124712587394933246 tw15175152425498100855 tw1406793847051704802 tw9997253062056970139 tw9200210302623287001 tw9010477969587688108 tw8992388974722333380 tw8829148664276675735 tw8579000388907014217 tw8452824168445000955 tw8166374936684370623 tw8160665023213417828 tw8106695949176276862 tw7764491730840986501 tw7584029856993607626 tw7057392183919687549 tw6672770356837388502 tw6441052388155629974 tw6265471342052565274 tw6045120280668957079 tw5834226027527565777 tw5419250004469683017 tw4643320041356163575 tw4620732610948299168 tw3698011418588220968 tw3549623273740097873 tw3415133735957143486 tw3401224284789926271 tw3244233738517718575 tw3055930359454553065 tw2176828449250936091 tw1924112258991647999 tw1855531333068428441 tw18214612745669781967 tw17956444872492595192 tw17688599934757185256 tw17379316881675069772 tw17055127152371958351 tw16792107409515304571 tw16764936937276507146 tw16525896015900215036 tw16438085344135073338 tw16114438692994769823 tw16066035438322234878 tw16033896811273379462 tw15969968589320714965 tw15652010409793826288 tw15320676518088745815 tw1486443366796995318 tw1462075723670976513 tw14424568992262693167 tw14288229921490828827 tw14216156681060989838 tw14071107347537508720 tw13848505741515912030 tw13648645603679428800 tw13577032739669251722 tw13173649006730016977 tw13065985418885016550 tw11899728349682005716 tw11824851818845358048 tw11549975054787417157 tw11423774760250662706 tw10990270251889211245 tw10915963591197824761 tw14381527548907872488 tw1523241669841662924 tw11989487384628708806 tw15655683335938623854 tw1088864653560790067 tw11598033323662173772 tw12532404677801685289 tw9682055321361577307 tw8355530792554488013 tw6181981374013535837 tw5992207052709860939 tw271771137695543419 tw18045784236360152753 tw17621105197118897579 tw16252261831276286907 tw1555700407697162937 tw10704330718446528514 tw10017126675945334351 tw7177111947717618269 tw17558562710861537494 tw16647721013020002625 tw1527939644597506767 tw14518001006828044196 tw12991589859367848787 tw11432300672127583960 tw1272274899301665888 tw6506293321199858983 tw5429144400707479952 tw14087221768076398247 tw14042899000496776825 tw10692116961875666759 tw2271563026310458573 tw9710246682204032600:True)
def PySem.W.Fast.tw1656555495989296768:PySem.Program:=PySem.Challenge.pw_parcelmend_k73_looked_through_and_mended
set_option maxRecDepth 100000 in
set_option maxHeartbeats 0 in
theorem PySem.Challenge.cw_parcelmend_k73_looked_through_and_mended_holds : PySem.Challenge.rw_parcelmend_k73_looked_through_and_mended.Holds := by
 w_on;o_law;k_head;(case hw=>w_witness2)
 k_fill
 refine K73.aqh (l:=PySem.Challenge.rw_parcelmend_k73_looked_through_and_mended) rfl rfl (λw h Y=>⟨PySem.W.km_in_of Y,PySem.W.km_tabs_of Y _ bH⟩) ?F
 case F=>
  intro w mg fa h KX G xE
  refine' K73.aqg xE (K73.Pq.mk ⟨?_,?_,?_,?_,?_,?_,?_,?_,?_,?_,?_,?_,?_,?_⟩ (K73.aqe KX G ..) _ _ _ _ _ ⟨?_,⟨?_,?_,?_,?_⟩,?_,?_,?_,?_,?_,?_,?_,?_,?_⟩ ⟨?_,⟨?_,?_,?_,?_⟩,?_,?_,?_⟩ ⟨?_,⟨?_,?_,?_,?_⟩,?_,?_,?_,?_,?_⟩ ⟨?_,⟨?_,?_,?_,?_⟩,?_,?_,?_,?_,?_⟩ ⟨?_,⟨?_,?_,?_,?_⟩,?_,?_,?_,?_⟩ (L2.fF ..) (L2.fF ..) (L2.fF ..) (L2.fF ..) (L2.fF ..) (L2.fF ..) (L2.fF ..) (L2.fF ..) (L2.fF ..) (L2.fF ..) (L2.fF ..) (L2.fF ..) (L2.fF ..) (L2.fF ..) (L2.fF ..) (L2.fF ..) (L2.fF ..) (L2.fF ..) (L2.fF ..) (L2.fF ..) (L2.fF ..) (L2.fF ..) (L2.fF ..) (L2.fF ..) (L2.bw KX G ..) (L2.bw KX G ..) (L2.bw KX G ..) (L2.bw KX G ..) (L2.bw KX G ..) (L2.bw KX G ..) (L2.bw KX G ..) (L2.bw KX G ..) (L2.bw KX G ..) (L2.bw KX G ..) (L2.bw KX G ..) (L2.bw KX G ..) (L2.bw KX G ..) (L2.bw KX G ..) (L2.bw KX G ..) (L2.bw KX G ..) (L2.bw KX G ..) (L2.bw KX G ..) (L2.bw KX G ..) (L2.bw KX G ..) (L2.bw KX G ..) (L2.bw KX G ..) (L2.bw KX G ..) (L2.bw KX G ..) (L2.bw KX G ..) (L2.bw KX G ..) (L2.bw KX G ..) (L2.bw KX G ..) (L2.bw KX G ..) (L2.bw KX G ..) (K73.ap7 KX G ..) (L2.bw KX G ..) (L2.bw KX G ..) (L2.bw KX G ..) (L2.bw KX G ..) (L2.bw KX G ..) (L2.bw KX G ..) (L2.bw KX G ..) (L2.bw KX G ..) (L2.bw KX G ..) (L2.bw KX G ..) (L2.bw KX G ..) (L2.bw KX G ..) (L2.bw KX G ..) (L2.bw KX G ..) (L2.bw KX G ..) (L2.bw KX G ..) (L2.bw KX G ..) (L2.bw KX G ..) (L2.bw KX G ..) (L2.bw KX G ..) (L2.bw KX G ..) (L2.bw KX G ..) (L2.bw KX G ..) (L2.bw KX G ..) (L2.bw KX G ..) (K73.ap8 KX G ..) (L2.bw KX G ..) (L2.bw KX G ..) (L2.bw KX G ..) (L2.bw KX G ..) (L2.bw KX G ..) _ (K73.aqf KX G ..))
  all_goals try first | exact K73.bn1 (λ_=>rfl) | exact K73.bn2 (λ_ _=>rfl) | exact K73.bn3 (λ_ _ _=>rfl) | exact K73.bn4 (λ_ _ _ _=>rfl) | exact K73.bn8 (λ_ _ _ _ _ _ _ _=>rfl) | k_is | (refine zW KX G ?_;k_is) | (refine PySem.W.mg_none_of KX G ?_;k_is) | (unfold L2.fH;k_is) | k_exc | kts_exm | kit_is | kernel_rfl
