import PyProof.Rows.All
import Wide.All
import OpenK.AllK
import Wide.FinOn
import Lean
import PyProof.EqAt
import PyProof.EqKinds
import PyProof.TupleCall
import KE.KRevSl
import KE.KDictSum
import KE.KEqDict
import PyProof.P3Eq
import KE.KTryMore
import KE.KSortTup
import PyProof.NeKinds
import KE.KLam
import PyProof.SetRoads
import KE.KIntText
import PyProof.DictValues
import PyProof.DictWalks
import KE.KItemsList
import PyProof.Toks
import PyProof.StrReplace2
import PyProof.StrLawsFirst
import KE.KMinKey
import PyProof.StrLawsTight
import PyProof.StrLawsIdx
import PyProof.Rows.StrSplitJoin
import PySem.Challenge.RW_parcelmend_k64_former_stands
import KE.RegKIsAll
import KE.RegKTryMore
noncomputable section
set_option Elab.async false
set_option linter.all false
set_option genInjectivity false
set_option genSizeOf false
set_option genSizeOfSpec false
set_option maxRecDepth 100000
section
open PyProof PyProof.Rows PySem PySem.AutoSeq1 PySem.Builtin PySem.Builtin.Getset_descriptor PySem.Builtin.ObjectAttr PySem.Builtin.Str PySem.Calls PySem.MeetsSeq PySem.MeetsSeq2 PySem.MeetsSeq3 PySem.SeqAt PySem.Spec PySem.W
def af:=@wpAny_bind
def ai:=@if_neg
def am:=@List.length_map
def aq:=@if_pos
def au:=@wpAny_pure
def aJ:=@Nat.le_refl
def aX:=@List.mem_cons
def bh:=@List.length_append
def bj:=@List.mem_singleton
def bv:=@Heap.lt_size
def bB:=@List.mem_cons_self
def bG:=@decide_eq_true
def bJ:=@List.mem_cons_of_mem
def bK:=@List.mem_append
def bL:=@List.map_cons
def bO:=@List.length_cons
def bR:=@Heap.get?_push_of_some
def ce:=@Nat.le_trans
def ci:=@List.getElem?_eq_some_iff
def cH:=@decide_eq_false
def cK:=@Bool.false_ne_true
def cL:=@List.mem_map
def cQ:=@List.map_append
def cV:=@Nat.ne_of_lt
def cZ:=@of_decide_eq_true
def db:=@List.getElem?_map
def dw:=@Nat.zero_le
def dG:=@List.mem_of_getElem?
def dW:=@Heap.get?_push_size
def dY:=@PassesOwn.never
def eg:=@wpAny_mono
def eh:=@List.length_take
def eR:=@Array.length_toList
def eS:=@List.mem_append_right
def eT:=@List.take_length
def fb:=@congrArg
def fc:=@List.size_toArray
def fe:=@List.not_mem_nil
def ff:=@or_false
def fX:=@Nat.lt_of_lt_of_le
def fY:=@Ne.symm
def fZ:=@PySem.boot_len
def gA:=@Option.some.inj
def gB:=@Bool.and_eq_true
def gC:=@List.take_add_one
def gD:=@PySem.F.plainAttrs_list
def g0:=@wpAny_setState_of
def iq:=@List.all_eq_true
def ir:=@List.getElem?_eq_getElem
def iW:=@List.length_singleton
def jA:=@wpAny_holding
def jB:=@List.append_assoc
def jC:=@PyProof.Rows.boot_list
def ke:=@Nat.ne_of_gt
def kf:=@beq_iff_eq
def ki:=@List.length_nil
def kj:=@List.nodup_nil
def lq:=@List.append_nil
def lw:=@Int.toNat_natCast
def lB:=@Heap.SameBut.update
def lC:=@not_or
def lE:=@List.mem_map_of_mem
def lF:=@PySem.W.mg_none_of
def mw:=@if_false
def mx:=@List.length_drop
def my:=@PySem.F.plainAttrs_str
def og:=@wpAny_rule
def oh:=@wpAny_isInstance
def oj:=@Nat.lt_irrefl
def oq:=@codeAny_mono
def ou:=@List.foldl_cons
def oA:=@List.map_map
def qA:=@Sum.inr.inj
def qB:=@Bool.false_eq_true
def qC:=@List.cons_append
def qD:=@List.filter_cons
def qE:=@Bool.eq_false_iff
def qF:=@Array.getElem?_eq_getElem
def qG:=@wpAny_askSetting
def qH:=@List.cons_ne_nil
def qI:=@List.foldl_append
def qJ:=@PySem.F.slot_list_extend
def qK:=@PySem.F.type_list_extend
def sT:=@wpAny_call_entry
def sU:=@Heap.size_push
def sV:=@Nat.le_succ
def sW:=@Bool.or_false
def sX:=@List.any_cons
def sY:=@List.nodup_append
def sZ:=@plainId_quiet
def tm:=@codeAny_builtin
def tq:=@List.cons.inj
def vJ:=@if_true
def vK:=@Nat.le_of_lt
def vL:=@Bool.and_false
def vM:=@List.find?_cons
def vN:=@Option.map_some
def vO:=@Array.getElem?_toList
def vP:=@Around.under_plainId
def vQ:=@PySem.F.called_set
def vS:=@List.flatMap_cons
def vT:=@List.flatMap_append
def vU:=@PySem.F.slot_list_append
def vV:=@PySem.F.type_list_append
def vW:=@List.nil_append
def yi:=@beq_eq_false_iff_ne
def yj:=@wpAny_forIn_list
def yk:=@wpAny_truthy_bool
def ym:=@wpAny_seqItems
def yn:=@List.mem_filter
def yo:=@wpAny_passesOwn
def yp:=@sizeLine_eq
def yq:=@Nat.lt_succ_self
def yr:=@wpAny_Call_Name_kw
def yt:=@List.getElem?_append_right
def yu:=@List.map_nil
def yw:=@Nat.lt_trans
def yx:=@PySem.W.mg_of
def yz:=@List.any_eq_true
def yA:=@Bool.and_eq_true_iff
def yB:=@Int.emod_nonneg
def yC:=@fits_of_scanBound
def yD:=@PySem.F.plain_min_loop
def yE:=@PySem.F.slot_str_join
def yF:=@PySem.F.type_str_join
def yG:=@PyProof.Rows.boot_sorted
def B6:=@wpAny_specialOf
def B7:=@Bool.not_true
def B8:=@List.mem_range
def B9:=@List.mem_append_left
def Ca:=@Bool.eq_iff_iff
def Cb:=@Nat.le_of_eq
def Cc:=@List.nodup_cons
def Cd:=@PySem.mem_of_lookup
def Ce:=@typeIs_str
def Cf:=@call_meets
def Cg:=@List.length_filter_le
def Ci:=@call_meetsIn
def Cj:=@PySem.W.kqd_eqv
def Ck:=@wpAny_newObj_type
def Cm:=@List.drop_eq_getElem_cons
def Cn:=@List.drop_eq_nil_iff
def Co:=@StrLaws.glued_eq_join
def Cp:=@Heap.get?_update_self
def Cq:=@List.length_eq_zero_iff
def Cr:=@Int.emod_lt_of_pos
def Ct:=@wpAny_storeSet_of
def Cu:=@wpAny_tryCatch
def Cv:=@decide_eq_decide
def Cw:=@decide_eq_true_eq
def GJ:=@List.filterMap_cons
def GK:=@wpAny_execs_nil
def GL:=@wpAny_call
def GN:=@List.getElem?_append_left
def GO:=@List.all_cons
def GP:=@Calls.callWith_builtin
def GQ:=@Heap.get?_update_other
def GR:=@PySem.F.plainAttrs_dict
def GS:=@Bool.true_and
def GU:=@Nat.zero_add
def GV:=@Nat.mod_lt
def GW:=@Heap.SameBut.refl
def GX:=@wpAny_updateSeq
def GY:=@List.filter_append
def GZ:=@List.getLast?_eq_getLast
def NH:=@F.slot_tuple_hash
def NJ:=@Nat.add_assoc
def NK:=@F.slot_tuple_eq
def NL:=@PyProof.Rows.callWith_type1
def NM:=@List.mem_filterMap
def NN:=@PySem.W.callWith_K
def NO:=@List.of_mem_zip
def NP:=@Option.isSome_iff_exists
def NQ:=@Subscript_
def NR:=@Calls.evalArgs_plain
def NS:=@List.mem_of_mem_drop
def NT:=@List.mem_of_mem_take
def NU:=@Nat.min_eq_left
def NW:=@wpAny_dictEntries
def NX:=@entryFor_alias
def NY:=@wpAny_typeOf
def NZ:=@Nat.add_zero
def N1:=@Nat.not_lt_zero
def N2:=@List.length_range
def N3:=@Array.getD_eq_getD_getElem?
def N5:=@List.getElem_mem
def N6:=@Obj.data_mapFields
def N7:=@Walks.list
def N8:=@Nat.not_lt
def Ob:=@wpAny_letGo
def Oc:=@List.map_congr_left
def Od:=@List.mem_flatMap
def Oe:=@PyProof.Rows.boot_dict
def Of:=@Nat.mul_le_mul_right
def Og:=@of_decide_eq_false
def VE:=@wpAny_tupleItemsOf
def VF:=@Array.forIn_toList
def VG:=@isSubtype_tuple_tuple
def VH:=@List.zip_cons_cons
def VI:=@Paired.length
def VJ:=@wpAny_execs_cons
def VL:=@wpAny_pyIter_list
def VM:=@PySem.W.plainGet_of
def VN:=@Calls.spliced_nil
def VO:=@Calls.spliced_cons
def VQ:=@wpAny_standAt
def VR:=@PySem.W.cellsFrom_some
def VS:=@List.length_replicate
def VT:=@evalPart_none
def VU:=@slot_list_getitem
def VW:=@Bool.true_or
def VX:=@Option.isSome_map
def VY:=@PySem.F.slot_dict_get
def VZ:=@Nat.lt_of_le_of_lt
def V0:=@List.lookup_cons
def V1:=@List.length_reverse
def V2:=@List.map_take
def V3:=@List.take_of_length_le
def V4:=@Nat.succ_mul
def V5:=@List.find?_eq_none
def V6:=@wpAny_newList
def V7:=@Array.toArray_toList
def V8:=@Nat.lt_succ_of_lt
def V9:=@StrsAre.length
def Wa:=@wpAny_pyIter_slot
def Wb:=@typeLookup_type
def Wc:=@builtinLookup_eq_fast
def Wd:=@isSubtype_type
def We:=@wpAny_ite_split
def Wf:=@List.mem_iff_getElem
def Wg:=@Array.getElem?_eq_none
def Wh:=@wpAny_setField
def Wi:=@Bool.and_self
def Wj:=@sub_set_self
def Wk:=@PyProof.Rows.F.plain_set_update_loop
def Wl:=@F.slot_str_split
def Wm:=@F.entry_str_split
def Wn:=@F.args_str_split_2
def Wo:=@ne_true_of_eq_false
def Wp:=@PySem.F.entry_min_loop
def Wq:=@PySem.F.slot_str_split
def Wr:=@PySem.F.type_str_split
def Ws:=@List.getElem?_inj
def Wt:=@List.flatMap_singleton
def Wu:=@Nat.succ_le_succ
def Wv:=@List.take_append_drop
def Ww:=@List.lt_irrefl
def Wx:=@decide_eq_true_iff
def Wy:=@PyProof.Rows.boot_set
def Wz:=@List.filter_sublist
def WA:=@List.all_nil
def WB:=@Bool.and_true
def WC:=@List.getLast?_eq_some_iff
def WD:=@List.mem_of_getLast?
def aB7:=@List.getElem?_set_self
def aB8:=@Calls.Name_function_global
def aB9:=@wpAny_isTrue_Compare1
def aCa:=@PySem.W.methodCall_KW
def aCb:=@List.getElem?_replicate
def aCc:=@wpAny_newFunctionEnv_cells
def aCd:=@subscriptTail_builtinR
def aCe:=@wpAny_getItem_list_slice
def aCf:=@wpAny_Call_method0_late
def aCg:=@Option.map_eq_some_iff
def aCh:=@PySem.F.slot_dict_pop
def aCi:=@PySem.F.entry_dict_get
def aCj:=@PySem.F.args_dict_get_2
def aCk:=@wpAny_comprehension_free
def aCl:=@List.take_eq_take_iff
def aCm:=@PySem.F.slot_dict_setdefault
def aCn:=@Option.map_eq_none_iff
def aCo:=@Calls.call_function_entry
def aCp:=@PySem.F.slot_dict_itemiterator_iter
def aCq:=@PySem.F.slot_dict_items
def aCr:=@PySem.F.slot_dict_update
def aCs:=@PySem.F.excBase_ValueError
def aCt:=@List.getElem?_eq_none
def aCu:=@List.length_eraseIdx_of_lt
def aCv:=@Obj.isFreed_of_fields
def aCw:=@PySem.F.slot_set_iter
def aCx:=@filterMap_getElem?_range
def aCy:=@PySem.F.plain_extend_loop
def aCz:=@PySem.F.plain_list_iadd
def aCA:=@List.length_pos_of_mem
def aCB:=@PySem.F.plain_set_new
def aCC:=@PyProof.Rows.F.entry_set_update_loop
def aCD:=@Array.mem_of_getElem?
def aCE:=@List.Perm.eq_of_pairwise
def aCF:=@PySem.toDigits_len_ge
def aCG:=@PyProof.Rows.boot_int
def aCH:=@PySem.F.slot_str_startswith
def aCI:=@PySem.F.type_str_startswith
def aCJ:=@Classical.byContradiction
def aCK:=@List.getLast?_singleton
def aCL:=@List.getElem?_cons_succ
def aCM:=@Nat.add_sub_cancel_left
end
abbrev Fg:=PySem.W.Frag
abbrev VP:=PySem.Value->PySem.Shared->Prop
abbrev Po:=List (PySem.Addr×PySem.Obj)
abbrev Mv:=PySem.Str->Option PySem.Value
abbrev Oi:=Option (List Int)
abbrev Ll:=List (List Int)
abbrev Ls:=List PySem.Str
abbrev Lw:=List PySem.Value
abbrev Av:=Array PySem.Value
abbrev Oa:=Option PySem.Addr
abbrev Fy:=PySem.FuncData
namespace L2
open PySem PySem.Spec PyProof.Rows
abbrev aw:=Sum Int Str
def oC:aw->Value->Bool
 | .inl k,v=>Value.isInt k v
 | .inr x,v=>Value.isStrOf x v
def lG(w:World):aw->Int
 | .inl k=>hashInt k
 | .inr x=>hashStr w x
theorem iu:∀{k:aw}{v:Value},oC k v=true->(∃i t,k=Sum.inl i/\v=Value.int i t)\/(∃x t,k=Sum.inr x/\v=Value.str x t)
 | .inl i,v,h=>by
  obtain⟨t,e⟩:=Value.isInt_shape (k:=i) (v:=v) h;exact .inl ⟨i,t,rfl,e⟩
 | .inr x,v,h=>by
  obtain⟨t,e⟩:=Value.isStrOf_shape (x:=x) (v:=v) h;exact .inr ⟨x,t,rfl,e⟩
theorem WE(i:Int)(t:Tok):oC (.inl i) (.int i t)=true:=by simp[oC,Value.isInt]
theorem WF(x:Str)(t:Tok):oC (.inr x) (.str x t)=true:=by simp[oC,Value.isStrOf]
theorem WG(a b:Int):decide ((Sum.inl a:aw)=Sum.inl b)=(a == b):=by
 by_cases e:a=b
 . subst e;simp
 . have h:¬(Sum.inl a:aw)=Sum.inl b:=fun q=>e (Sum.inl.inj q);rw[cH h];exact(yi.mpr e).symm
theorem WH(a b:Str):decide ((Sum.inr a:aw)=Sum.inr b)=decide (a=b):=by
 by_cases e:a=b
 . subst e;simp
 . have h:¬(Sum.inr a:aw)=Sum.inr b:=fun q=>e (qA q);rw[cH h,cH e]
theorem WI(a:Int)(b:Str):decide ((Sum.inl a:aw)=Sum.inr b)=false:=cH (fun q=>nomatch q)
theorem WJ(a:Str)(b:Int):decide ((Sum.inr a:aw)=Sum.inl b)=false:=cH (fun q=>nomatch q)
def cj(prog:Program)(w:World):PySem.KeyKind prog w aw where
 is:=oC
 hash:=lG w
 inj:=fun v a b ha hb=>by
  rcases iu ha with⟨i,t,rfl,rfl⟩ | ⟨x,t,rfl,rfl⟩
  . rcases iu hb with⟨j,u,rfl,e⟩ | ⟨y,u,rfl,e⟩
    . injection e with e1 _;rw[e1]
    . exact nomatch e
  . rcases iu hb with⟨j,u,rfl,e⟩ | ⟨y,u,rfl,e⟩
    . exact nomatch e
    . injection e with e1 _;rw[e1]
 byValue:=fun k v h=>by
  rcases iu h with⟨i,t,rfl,rfl⟩ | ⟨x,t,rfl,rfl⟩<;>rfl
 pyHash:=fun hv h=>by
  rcases iu hv with⟨i,t,rfl,rfl⟩ | ⟨x,t,rfl,rfl⟩
  . exact wpAny_pyHash_int h
  . exact wpAny_pyHash_str h
 eqBool:=fun hu hv h=>by
  rcases iu hu with⟨i,t,rfl,rfl⟩ | ⟨x,t,rfl,rfl⟩
  . rcases iu hv with⟨j,u,rfl,rfl⟩ | ⟨y,u,rfl,rfl⟩
    . rw[WG]at h;exact wpAny_eqBool_int h
    . rw[WI]at h;exact SeqAt.EqAt.int_str i t y u _ _ _ _ h
  . rcases iu hv with⟨j,u,rfl,rfl⟩ | ⟨y,u,rfl,rfl⟩
    . rw[WJ]at h;exact SeqAt.EqAt.str_int x t j u _ _ _ _ h
    . rw[WH]at h;exact wpAny_eqBool_str h
 «strs»:=fun k x t v h=>by
  rcases iu h with⟨i,u,rfl,e⟩ | ⟨y,u,rfl,e⟩
  . exact nomatch e
  . injection e with e1 _
    subst e1;cases v<;>rfl
theorem WK(prog:Program)(w:World)(i:Int)(t:Tok):(cj prog w).is (.inl i) (.int i t)=true:=WE i t
theorem tu(prog:Program)(w:World)(x:Str)(t:Tok):(cj prog w).is (.inr x) (.str x t)=true:=WF x t
abbrev NI:=Sum aw (List aw)
section
variable {P:Program}{w:World}
def lH(P:Program)(w:World)(h:Heap):NI->Value->Prop
 | .inl k,v=>oC k v=true
 | .inr ls,v=>∃b,v=.ref b/\IsTupleKey (cj P w) h ls b
inductive iw (P:Program) (w:World) (h:Heap):List NI->Lw->Prop
 | nil:iw P w h [] []
 | cons {i:NI}{v:Value}{ks:List NI}{vs:Lw}:lH P w h i v->iw P w h ks vs->iw P w h (i::ks) (v::vs)
def ix(P:Program)(w:World)(h:Heap)(ks:List NI)(a:Addr):Prop:=∃o items n,h.get? a=some o/\o.cls=.type "tuple"/\o.data=.seq items n/\iw P w h ks items.toList
def Cy(P:Program)(w:World):NI->Int
 | .inl k=>lG w k
 | .inr ls=>tupleKeyHash (cj P w) ls
def G0:NI->Nat
 | .inl _=>1
 | .inr ls=>ls.length+1
def G1(P:Program)(w:World)(ks:List NI):Int:=reduceHash (Builtin.Tuple.tupleHashOf (ks.map (Cy P w)))
def Cz(ks:List NI):Nat:=(ks.map G0).sum+1
theorem lH.inj{h:Heap}{i j:NI}{v:Value}(a:lH P w h i v)(b:lH P w h j v):i=j:=by
 cases i with
 | inl k=>
  cases j with
  | inl l=>rw[(cj P w).inj v k l a b]
  | inr l=>
   obtain⟨c,rfl,_⟩:=b
   rcases iu a with⟨_,_,_,e⟩ | ⟨_,_,_,e⟩<;>cases e
 | inr k=>
  obtain⟨c,rfl,hc⟩:=a;cases j with
  | inl l=>rcases iu b with⟨_,_,_,e⟩ | ⟨_,_,_,e⟩<;>cases e
  | inr l=>
   obtain⟨d,e,hd⟩:=b;cases e;rw[hc.inj hd]
theorem iw.inj{h:Heap}{x y:List NI}{vs:Lw}(a:iw P w h x vs)(b:iw P w h y vs):x=y:=by
 induction a generalizing y with
 | nil=>cases b;rfl
 | cons p _ ih=>
  cases b with
  | cons q r=>rw[p.inj q,ih r]
theorem ix.typeIs{s:Shared}{ks:List NI}{a:Addr}(x:ix P w s.heap ks a):s.TypeIs (.ref a) "tuple":=x.elim fun o WL=>WL.elim fun _ WM=>WM.elim fun _ WN=>WN.elim fun ho WO=>WO.elim fun hc _=>⟨o,ho,hc⟩
theorem ix.inj{h:Heap}{a:Addr}{x y:List NI}(p:ix P w h x a)(q:ix P w h y a):x=y:=by
 obtain⟨o,its,n,e,_,d,i⟩:=p;obtain⟨o',its',n',e',_,d',i'⟩:=q;rw[e]at e';cases e';rw[d]at d';injection d' with d1 _
 subst d1;exact i.inj i'
theorem iw.keeps{h h':Heap}{ks:List NI}{vs:Lw}(k:∀ls b,IsTupleKey (cj P w) h ls b->IsTupleKey (cj P w) h' ls b)(x:iw P w h ks vs):iw P w h' ks vs:=by
 induction x with
 | nil=>exact .nil
 | @cons i v ks vs p _ ih=>
  refine .cons ?_ ih;cases i with
  | inl l=>exact p
  | inr l=>
   obtain⟨b,e,hb⟩:=p;exact⟨b,e,k _ _ hb⟩
theorem ix.keeps{h h':Heap}{ks:List NI}{a d:Addr}{o:Obj}{es:Array DictEntry}{ep:Nat}(x:ix P w h ks a)(ho:h.get? d=some o)(hd:o.data=.dict es ep)(hs:Heap.SameBut d h h'):ix P w h' ks a:=by
 obtain⟨oa,its,n,e,c,e2,i⟩:=x;have ne:a≠d:=by
  intro z;rw[z,ho]at e;cases e;rw[hd]at e2;cases e2
 exact⟨oa,its,n,(hs.2 a ne).trans e,c,e2,i.keeps fun ls b hb=>hb.keeps ho hd hs⟩
variable {A:Around}{E:VP}{s:Shared}
theorem lH.hash{i:NI}{v:Value}{Q:Int->Shared->Prop}(hu:A.units<cLine)(x:lH P w s.heap i v)(h:Q (Cy P w i) { s with toks:=s.toks+G0 i }):wpAny (model P w) A (pyHash v) Q E s:=by
 cases i with
 | inl k=>exact(cj P w).pyHash (k:=k) x h
 | inr ls=>
  obtain⟨b,rfl,hb⟩:=x;exact wpAny_pyHash_tuple hu hb h
theorem lH.eq{i j:NI}{u v:Value}{Q:Bool->Shared->Prop}(hu:A.units<cLine)(x:lH P w s.heap i u)(y:lH P w s.heap j v)(h:Q (decide (i=j)) s):wpAny (model P w) A (eqBool u v) Q E s:=by
 cases i with
 | inl k=>
  cases j with
  | inl l=>
   have e:decide ((Sum.inl k:NI)=Sum.inl l)=decide (k=l):=by
    by_cases q:k=l
    . rw[q];simp
    . rw[cH q,cH (fun z=>q (Sum.inl.inj z))]
   rw[e]at h;exact(cj P w).eqBool (a:=k) (b:=l) x y h
  | inr l=>
   rw[cH (fun z=>nomatch z)]at h;obtain⟨b,rfl,o,its,n,e,c,d,_⟩:=y
   rcases iu x with⟨a,t,_,rfl⟩ | ⟨a,t,_,rfl⟩
   . exact SeqAt.EqAt.int_tuple a t ⟨o,e,c,n,d⟩ hu _ _ _ _ h
   . exact SeqAt.EqAt.str_tuple a t ⟨o,e,c,n,d⟩ hu _ _ _ _ h
 | inr k=>
  obtain⟨a,rfl,ha⟩:=x;cases j with
  | inl l=>
   rw[cH (fun z=>nomatch z)]at h;obtain⟨o,its,n,e,c,d,_⟩:=ha
   rcases iu y with⟨b,t,_,rfl⟩ | ⟨b,t,_,rfl⟩
   . exact SeqAt.EqAt.tuple_int b t ⟨o,e,c,n,d⟩ hu _ _ _ _ h
   . exact SeqAt.EqAt.tuple_str b t ⟨o,e,c,n,d⟩ hu _ _ _ _ h
  | inr l=>
   obtain⟨b,rfl,hb⟩:=y;have e:decide ((Sum.inr k:NI)=Sum.inr l)=decide (k=l):=by
    by_cases q:k=l
    . rw[q];simp
    . rw[cH q,cH (fun z=>q (qA z))]
   rw[e]at h;exact wpAny_eqBool_tuple hu ha hb h
theorem WP{ks:List NI}{a:Addr}{Q:Int->Shared->Prop}(hu:A.units+8<cLine)(hk:ix P w s.heap ks a)(h:Q (G1 P w ks) { s with toks:=s.toks+Cz ks }):wpAny (model P w) A (pyHash (.ref a)) Q E s:=by
 have hT:=hk.typeIs;obtain⟨o,its,n,ho,_,hd,hi⟩:=hk;have WQ:A.units<cLine:=by omega
 unfold pyHash
 first | unfold pyHashByItsType | skip
 first | refine af (wpAny_cRoomFor_or (.inr WQ) ?_) | skip
 refine af (B6 hT NH.lookup ?_);show wpAny _ _ (if (some (Value.builtin "tuple.__hash__") == some Value.none)=true then _ else _) Q E s;rw[ai (by rw[beq_builtin_none];exact cK)];refine af (B6 hT NH.lookup ?_);show wpAny _ _ (callSpecialIfBoundUnlessNone? (.ref a) "__hash__" _ >>= _) Q E s;refine af (wpAny_callSpecialIfBoundUnlessNone?_slot hT NH (sT NH hT F.entry_tuple_hash ?_ (F.args_tuple_hash_1 _)));show wpAny _ _ (Builtin.Tuple.tupleItemsOf (.ref a) >>= _) _ _ s;refine af (VE ho hd ?_);refine af ?_;rw[←VF];refine yj _
  (fun rest (b:Array Int) s'=>∃done left,ks=done++left/\iw P w s.heap left rest/\b.toList=done.map (Cy P w)/\s'={ s with toks:=s.toks+(done.map G0).sum })
  _ ?_ ?_ _ _ ⟨[],ks,rfl,hi,rfl,rfl⟩
 . rintro x rest b s' ⟨done,left,rfl,hl,hb,rfl⟩;cases hl with
   | @cons k _ mz _ h1 qL=>
    refine af (lH.hash (i:=k) (show A.units+1<cLine by omega) h1 ?_)
    first
     | exact au ⟨done++[k],mz,by simp,qL,by simp[hb],by simp[NJ]⟩
     | exact af (au (au ⟨done++[k],mz,by simp,qL,by simp[hb],by simp[NJ]⟩))
 . rintro b s' ⟨done,left,rfl,hl,hb,rfl⟩;cases hl;rw[lq]at h;show wpAny _ _ (retInt (Builtin.Tuple.tupleHashOf b.toList)) _ _ _;rw[hb];refine wpAny_ret_mkInt ?_;generalize hz:Builtin.Tuple.tupleHashOf (done.map (Cy P w))=z at h ⊢;show wpAny _ _ (if (decide (-(2:Int) ^ 63<=z) && decide (z<2 ^ 63))=true then _ else _) Q E _;unfold G1 reduceHash at h;rw[hz]at h
   by_cases hr:(decide (-(2:Int) ^ 63<=z) && decide (z<2 ^ 63))=true
   . rw[aq hr];rw[aq hr]at h;exact au (by simpa [NJ,Cz]using h)
   . rw[ai hr];rw[ai hr]at h;exact af (og (au (by simpa [NJ,Cz]using h)))
theorem WR{x y:List NI}{a b:Addr}{R:PySem.Fin->Shared->Prop}(hu:A.units<cLine)(hx:ix P w s.heap x a)(hy:ix P w s.heap y b)(h:R (.done (.ret (.bool (decide (x=y))))) s) :
 wpAny (model P w) A (Builtin.«tuple.__eq__» ⟨[.ref a,.ref b],[]⟩) R E s:=by
 have WS:=hy.typeIs;obtain⟨oa,xs,na,G2,_,WT,WU⟩:=hx;obtain⟨ob,ys,nb,qM,_,iy,WV⟩:=hy;show wpAny _ _ (isInstance (.ref b) (.type "tuple") >>= _) _ _ s;refine af (oh WS VG ?_);simp only[B7,qB,mw];refine af (VE G2 WT ?_);refine af (VE qM iy ?_);refine af ?_;refine yj _
  (fun rest r s'=>r.1=none/\s'=s/\∃x' y' jD bP,rest=List.zip jD bP/\iw P w s.heap x' jD/\iw P w s.heap y' bP/\decide (x'=y')=decide (x=y)/\(jD.length == bP.length)=(xs.size == ys.size))
  _ ?_ ?_ _ _ ⟨rfl,rfl,x,y,xs.toList,ys.toList,rfl,WU,WV,rfl,by simp⟩
 . rintro⟨u,v⟩ rest r s' ⟨hr,rfl,x',y',jD,bP,hz,gE,km,CA,hlen⟩;cases gE with
   | nil=>simp at hz
   | @cons k1 u' Oh WW h1 WX=>
    cases km with
    | nil=>simp at hz
    | @cons k2 v' Oj WY h2 WZ=>
     simp only[VH,List.cons.injEq,Prod.mk.injEq]at hz;obtain⟨⟨rfl,rfl⟩,rfl⟩:=hz;refine af (lH.eq (i:=k1) (j:=k2) hu h1 h2 ?_)
     by_cases hk:k1=k2
     . subst hk;rw[bG rfl];simp only[B7,qB,mw];refine au ⟨rfl,rfl,Oh,Oj,WW,WY,rfl,WX,WZ,?_,by simpa using hlen⟩;rw[←CA]
       by_cases Ol:Oh=Oj
       . simp[Ol]
       . simp[Ol]
     . rw[cH hk];simp only[Bool.not_false,vJ];have hf:decide (x=y)=false:=by rw[←CA];simp[hk]
       rw[hf]at h;exact af (au (au (au h)))
 . rintro⟨r1,r2⟩ s' ⟨hr,rfl,x',y',jD,bP,hz,gE,km,CA,hlen⟩;simp only at hr;subst hr;refine au ?_;have W0:(xs.size == ys.size)=decide (x=y):=by
    rw[←CA,←hlen];cases gE with
    | nil=>
     cases km with
     | nil=>simp
     | cons _ _=>simp
    | cons _ _=>
     cases km with
     | nil=>simp
     | cons _ _=>simp at hz
   show R (.done (.ret (.bool (xs.size == ys.size)))) s';rw[W0];exact h
theorem W1{x y:List NI}{a b:Addr}{Q:Bool->Shared->Prop}(hu:A.units+8<cLine)(hx:ix P w s.heap x a)(hy:ix P w s.heap y b)(h:Q (decide (x=y)) s) :
 wpAny (model P w) A (eqBool (.ref a) (.ref b)) Q E s:=by
 unfold eqBool
 try with_reducible refine jA ?_
 show wpAny _ _ (if (Value.ref a == Value.ref b)=true then _ else _) Q E s
 by_cases jE:(Value.ref a == Value.ref b)=true
 . rw[aq jE];have e:a=b:=by have:=eq_of_beq jE;injection this
   subst e;obtain rfl:=hx.inj hy;exact af (og (au (by simpa using h)))
 . rw[ai jE];exact af (wpAny_richCompare_same_room (op:=.Eq) hx.typeIs hy.typeIs NK
    (sT NK hx.typeIs F.entry_tuple_eq (WR (show A.units+1<cLine by omega) hx hy ⟨_,rfl,(fun e=>nomatch e),yk h⟩) (F.args_tuple_eq_2 _ _)) (by omega))
theorem W3{M:Model}{ls:List aw}{a:Addr}{n:Nat}{Q:Bool->Shared->Prop}(hk:IsTupleKey (cj P w) s.heap ls a)(h:Q true s):wpAny M A (eqIsQuiet (n+1) (.ref a)) Q E s:=by
 have hT:=hk.typeIs;obtain⟨o,its,m,ho,_,hd,hi⟩:=hk;unfold eqIsQuiet;refine af (B6 hT NK.lookup ?_);show wpAny _ _ (isInstance (.ref a) (.type "tuple") >>= _) _ _ s;refine af (oh hT VG ?_);simp only[B7,qB,mw];refine af (ym ho hd ?_);refine af ?_;show wpAny _ _ (forIn its _ _) _ _ s;rw[←VF];refine yj _ (fun rest r s'=>r.1=none/\s'=s/\∀v∈rest,carriedByValue v=true) _ ?_ ?_ _ _ ⟨rfl,rfl,hi.byValue⟩
 . rintro v rest r s' ⟨hr,rfl,qN⟩;rw[eqIsQuiet_byValue _ (qN v bB)];refine af (au ?_);simp only[B7,qB,mw];exact au ⟨rfl,rfl,fun u W7=>qN u (bJ _ W7)⟩
 . rintro⟨r1,r2⟩ s' ⟨hr,rfl,_⟩;simp only at hr;subst hr;exact au h
theorem W8{M:Model}{ks:List NI}{a:Addr}{Q:Bool->Shared->Prop}(hk:ix P w s.heap ks a)(h:Q true s):wpAny M A (eqIsQuiet 8 (.ref a)) Q E s:=by
 have hT:=hk.typeIs;obtain⟨o,its,m,ho,_,hd,hi⟩:=hk;unfold eqIsQuiet;refine af (B6 hT NK.lookup ?_);show wpAny _ _ (isInstance (.ref a) (.type "tuple") >>= _) _ _ s;refine af (oh hT VG ?_);simp only[B7,qB,mw];refine af (ym ho hd ?_);refine af ?_;show wpAny _ _ (forIn its _ _) _ _ s;rw[←VF];refine yj _ (fun rest r s'=>r.1=none/\s'=s/\∃ls,iw P w s.heap ls rest) _ ?_ ?_ _ _ ⟨rfl,rfl,ks,hi⟩
 . rintro v rest r s' ⟨hr,rfl,ls,CB⟩;cases CB with
   | @cons i _ yH _ h1 h2=>
    have fin:∀{R:Bool->Shared->Prop},R true s'->wpAny M A (eqIsQuiet 7 v) R E s':=fun {R} q=>by
     cases i with
     | inl k=>
      rw[eqIsQuiet_byValue _ ((cj P w).byValue k v h1)];exact au q
     | inr l=>
      obtain⟨b,rfl,hb⟩:=h1;exact W3 hb q
    refine af (fin ?_);simp only[B7,qB,mw];exact au ⟨rfl,rfl,yH,h2⟩
 . rintro⟨r1,r2⟩ s' ⟨hr,rfl,_⟩;simp only at hr;subst hr;exact au h
end
def tw(P:Program)(w:World):HeapKind P w (List NI) where
 is:=ix P w
 hash:=G1 P w
 draws:=Cz
 room:=fun A=>A.units+8<cLine
 inj:=fun a b=>a.inj b
 keeps:=fun x ho hd hs=>x.keeps ho hd hs
 pyHash:=fun hu hk h=>WP hu hk h
 eqBool:=fun hu hx hy h=>W1 hu hx hy h
 quiet:=fun hk h=>W8 hk h
theorem yI{P:Program}{w:World}{A:Around}(hu:A.units+64<cLine):(tw P w).room A.in1:=show A.units+1+8<cLine by omega
set_option genInjectivity true in
inductive V where
 | non | bl (b:Bool) | int (i:Int) | str (x:Str) | byt (b:Array UInt8) | flt (b:UInt64) | ref (a:Addr) | ty (n:String)
 deriving DecidableEq
abbrev Lv:=List V
def RelV:V->Value->Prop
 | .non,u=>u=Value.none
 | .bl b,u=>u=Value.bool b
 | .int i,u=>∃t,u=Value.int i t
 | .str x,u=>∃t,u=Value.str x t
 | .byt b,u=>∃t,u=Value.bytes b t
 | .flt b,u=>∃t,u=Value.float b t
 | .ref a,u=>u=Value.ref a
 | .ty n,u=>u=Value.type n
abbrev aQ:Lv->Lw->Prop:=Paired RelV
theorem aQ.length{xs:Lv}{us:Lw}(r:aQ xs us):xs.length=us.length:=VI r
theorem aQ.get:∀{xs:Lv}{us:Lw}{i:Nat}{x:V},aQ xs us->xs[i]?=some x->∃u,us[i]?=some u/\RelV x u
 | _,_,_,_,.nil,e=>by simp at e
 | _,_,0,_,.cons r _,e=>by simp at e;subst e;exact⟨_,rfl,r⟩
 | _,_,i+1,x,.cons _ t,e=>by
  obtain⟨u,h1,h2⟩:=aQ.get (i:=i) (x:=x) t (by simpa using e);exact⟨u,by simpa using h1,h2⟩
theorem aQ.append:∀{xs ys:Lv}{us ws:Lw},aQ xs us->aQ ys ws->aQ (xs++ys) (us++ws)
 | _,_,_,_,.nil,s=>s
 | _,_,_,_,.cons r t,s=>.cons r (aQ.append t s)
theorem aQ.take:∀{xs:Lv}{us:Lw} (n:Nat),aQ xs us->aQ (xs.take n) (us.take n)
 | _,_,0,_=>.nil
 | _,_,_+1,.nil=>.nil
 | _,_,n+1,.cons r t=>.cons r (aQ.take n t)
theorem aQ.drop:∀{xs:Lv}{us:Lw} (n:Nat),aQ xs us->aQ (xs.drop n) (us.drop n)
 | _,_,0,r=>r
 | _,_,_+1,.nil=>.nil
 | _,_,n+1,.cons _ t=>aQ.drop n t
def f8:Option V->Option Value->Prop
 | some v,some u=>RelV v u
 | none,none=>True
 | _,_=>False
def KV{κ:Type}:List (κ×V)->List (κ×Value)->Prop:=Paired fun(p:κ×V) (q:κ×Value)=>p.1=q.1/\RelV p.2 q.2
def kV:aw->V
 | .inl i=>.int i
 | .inr x=>.str x
inductive HO where
 | lst (xs:Lv)
 | tup (xs:Lv)
 | dK (kvs:List (aw×V)) | dT (kvs:List (List NI×V))
 | set (S:Int->Bool) (n:Nat)
 | ins (C dx:Addr) (fs:List (Str×V))
 | own (x:Addr)
 | xd (fs:List (Str×V))
 | met (f x:Addr)
 | rng (lo hi:Int)
 | frz (o:Obj) (u:HO)
 | tbl (ps:Av)
 | ext (φ:Heap->Prop)
abbrev Hp:=Addr->Option HO
def ah(H:Hp)(a:Addr)(o:HO):Hp:=fun b=>if b=a then some o else H b
theorem aI{H:Hp}{a:Addr}{o:HO}:ah H a o a=some o:=by unfold ah;rw[aq rfl]
theorem aV{H:Hp}{a b:Addr}{o:HO}(h:b≠a):ah H a o b=H b:=by unfold ah;rw[ai h]
theorem aO{H:Hp}{a b:Addr}{o u:HO}(h:H a=some o)(h':H b=some u)(d:o≠u):a≠b:=by
 intro e;subst e;rw[h]at h';exact d (gA h')
theorem aL{H:Hp}{a b:Addr}{o:HO}(h:H a=some o)(h':H b=none):a≠b:=by
 intro e;subst e;rw[h]at h';cases h'
def NV(H:Hp):NI->V->Prop
 | .inl k,v=>v=kV k
 | .inr ls,v=>∃b,v=.ref b/\H b=some (.tup (ls.map kV))
abbrev Om (H:Hp):List NI->Lv->Prop:=Paired (NV H)
def ku(H:Hp)(ks:List NI)(a:Addr):Prop:=∃vs,H a=some (.tup vs)/\Om H ks vs
theorem aK{α β:Type}{F G:α->β->Prop}:∀{l₁:List α}{l₂:List β},Paired F l₁ l₂->(∀a b,F a b->G a b)->Paired G l₁ l₂
 | _,_,.nil,_=>.nil
 | _,_,.cons r t,f=>.cons (f _ _ r) (aK t f)
theorem ku.keeps{H H':Hp}{ks:List NI}{a:Addr}(x:ku H ks a)(ht:∀b xs,H b=some (.tup xs)->H' b=some (.tup xs)):ku H' ks a:=by
 obtain⟨vs,e,r⟩:=x;refine⟨vs,ht _ _ e,aK r fun i v z=>?_⟩;cases i with
 | inl k=>exact z
 | inr l=>
  obtain⟨b,e1,e2⟩:=z;exact⟨b,e1,ht _ _ e2⟩
section
variable (P:Program)(w:World)
def b8(H:Hp)(h:Heap)(a:Addr):HO->Prop
 | .lst xs=>xs.length<=sizeLine/\∃(its:Lw) (n:Nat),aQ xs its/\h.get? a=some { cls:=.type "list",data:=.seq its.toArray n }
 | .tup xs=>xs.length<=sizeLine/\∃its:Lw,aQ xs its/\IsTup h a its.toArray
 | .dK kvs=>kvs.length<=sizeLine/\(a == sysModules)=false/\∃vs,KV kvs vs/\h.DictOf (cj P w) a vs
 | .dT kvs=>kvs.length<=sizeLine/\(a == sysModules)=false/\∃xs:List (List NI×Addr×Value),
  Paired (fun(p:List NI×V) (q:List NI×Addr×Value)=>p.1=q.1/\ku H p.1 q.2.1/\RelV p.2 q.2.2) kvs xs /\
  ∃o es ep,h.get? a=some o/\o.ExactDict/\o.data=.dict es ep/\es.toList=xs.map (entryOfKey (tw P w))/\(xs.map (·.1)).Nodup
 | .set S n=>h.SetOf (intKind P w) a S n
 | .ins C dx fs=>H dx=some (.own a)/\fs.length<=1000/\dx≠a/\h.get? a=some (PySem.W.instObj C dx) /\
  ∃mA,h.Ns1 dx mA/\(∀f,f8 (fs.lookup f) (mA f))/\PySem.Within mA (fs.map (·.1))
 | .own _=>∃o,h.get? a=some o
 | .xd fs=>∃mA,h.Ns1 a mA/\∀f,f8 (fs.lookup f) (mA f)
 | .rng lo hi=>∃t u v,h.get? a=some { cls:=.type "range",data:=.fields #[.int lo t,.int hi u,.int 1 v] }
 | .frz o u=>h.get? a=some o/\b8 H h a u
 | .tbl ps=>h.get? a=some { cls:=.none,data:=.fields ps }
 | .met f x=>h.get? a=some (PySem.W.methodObj (.ref f) (.ref x))
 | .ext φ=>φ h/\(∃o,h.get? a=some o)/\∀h1 h2:Heap,φ h1->(∀o,h1.get? a=some o->h2.get? a=some o)->φ h2
def bY(H:Hp)(h:Heap):Prop:=∀a o,H a=some o->b8 P w H h a o
end
section
variable {P:Program}{w:World}{H H':Hp}{h h':Heap}{a:Addr}{o:HO}
theorem b8.lt(x:b8 P w H h a o):a<h.objs.size:=by
 cases o with
 | lst xs=>obtain⟨_,_,_,_,e⟩:=x;exact bv e
 | tup xs=>obtain⟨_,_,_,p⟩:=x;exact p.lt
 | dK kvs=>obtain⟨_,_,_,_,o,_,_,e,_⟩:=x;exact bv e
 | dT kvs=>obtain⟨_,_,_,_,o,_,_,e,_⟩:=x;exact bv e
 | set S n=>obtain⟨o,_,_,_,e,_⟩:=x;exact bv e
 | ins C dx fs=>obtain⟨_,_,_,e,_⟩:=x;exact bv e
 | own y=>obtain⟨_,e⟩:=x;exact bv e
 | xd fs=>obtain⟨_,⟨_,_,_,e,_⟩,_⟩:=x;exact bv e
 | rng lo hi=>obtain⟨_,_,_,e⟩:=x;exact bv e
 | frz ob u=>obtain⟨e,_⟩:=x;exact bv e
 | tbl ps=>exact bv (show h.get? a=some _ from x)
 | met f y=>exact bv (show h.get? a=some _ from x)
 | ext φ=>obtain⟨_,⟨_,e⟩,_⟩:=x;exact bv e
theorem Paired.mapP{α β:Type}{F G:α->β->Prop}:∀{l₁:List α}{l₂:List β},Paired F l₁ l₂->(∀a b,F a b->G a b)->Paired G l₁ l₂
 | _,_,.nil,_=>.nil
 | _,_,.cons r t,f=>.cons (f _ _ r) (Paired.mapP t f)
theorem b8.stay(x:b8 P w H h a o)(k:∀b u,(b=a\/H b=some (.own a))->h.get? b=some u->h'.get? b=some u)
 (ho:∀b,H b=some (.own a)->H' b=some (.own a)) (ht:∀b xs,H b=some (.tup xs)->H' b=some (.tup xs)):b8 P w H' h' a o:=by
 induction o with
 | lst xs=>obtain⟨z,its,n,r,e⟩:=x;exact⟨z,its,n,r,k _ _ (.inl rfl) e⟩
 | tup xs=>obtain⟨z,its,r,ob,e,c⟩:=x;exact⟨z,its,r,ob,k _ _ (.inl rfl) e,c⟩
 | dK kvs=>obtain⟨z,y,vs,r,ob,es,ep,e,c⟩:=x;exact⟨z,y,vs,r,ob,es,ep,k _ _ (.inl rfl) e,c⟩
 | dT kvs=>
  obtain⟨z,y,xs,r,ob,es,ep,e,c⟩:=x;exact⟨z,y,xs,Paired.mapP r fun p q z=>⟨z.1,z.2.1.keeps ht,z.2.2⟩,ob,es,ep,k _ _ (.inl rfl) e,c⟩
 | set S n=>obtain⟨ob,es,ep,t,e,c⟩:=x;exact⟨ob,es,ep,t,k _ _ (.inl rfl) e,c⟩
 | ins C dx fs=>
  obtain⟨d,z,ne,e,mA,⟨od,es,ep,e2,c⟩,r⟩:=x;exact⟨ho _ d,z,ne,k _ _ (.inl rfl) e,mA,⟨od,es,ep,k _ _ (.inr d) e2,c⟩,r⟩
 | own y=>obtain⟨ob,e⟩:=x;exact⟨ob,k _ _ (.inl rfl) e⟩
 | xd fs=>obtain⟨mA,⟨od,es,ep,e,c⟩,r⟩:=x;exact⟨mA,⟨od,es,ep,k _ _ (.inl rfl) e,c⟩,r⟩
 | rng lo hi=>obtain⟨t,u,v,e⟩:=x;exact⟨t,u,v,k _ _ (.inl rfl) e⟩
 | frz ob u ih=>obtain⟨e,q⟩:=x;exact⟨k _ _ (.inl rfl) e,ih q⟩
 | tbl ps=>
  have e:h.get? a=some { cls:=.none,data:=.fields ps }:=x;show h'.get? a=some { cls:=.none,data:=.fields ps };exact k a _ (.inl rfl) e
 | met f y=>
  have e:h.get? a=some (PySem.W.methodObj (.ref f) (.ref y)):=x;show h'.get? a=some (PySem.W.methodObj (.ref f) (.ref y));exact k a _ (.inl rfl) e
 | ext φ=>obtain⟨p,⟨o,e⟩,st⟩:=x;exact⟨st _ _ p fun o q=>k _ _ (.inl rfl) q,⟨o,k _ _ (.inl rfl) e⟩,st⟩
theorem bY.lt(x:bY P w H h)(e:H a=some o):a<h.objs.size:=(x a o e).lt
theorem bY.fresh(x:bY P w H h)(e:h.objs.size<=a):H a=none:=by
 cases q:H a with
 | none=>rfl
 | some u=>exact absurd (fX (x.lt q) e) (oj _)
theorem bY.kept(x:bY P w H h)(k:∀b u,h.get? b=some u->h'.get? b=some u):bY P w H h':=fun a o e=>
 (x a o e).stay (fun b u _ q=>k b u q) (fun _ q=>q) fun _ _ q=>q
theorem bY.laid(x:bY P w H h)(k:∀b u,h.get? b=some u->h'.get? b=some u)(hp:h.objs.size<=a)(new:b8 P w (ah H a o) h' a o):bY P w (ah H a o) h':=fun b u e=>by
 have hn:=x.fresh hp
 by_cases hb:b=a
 . subst hb;rw[aI]at e;cases e;exact new
 . rw[aV hb]at e;exact(x b u e).stay (fun c v _ q=>k c v q) (fun c q=>by rw[aV (aL q hn)];exact q) fun c xs q=>by rw[aV (aL q hn)];exact q
end
def Rd(H:Hp)(a:Addr)(u:HO):Prop:=H a=some u\/∃o,H a=some (.frz o u)
theorem Rd.ok{P:Program}{w:World}{H:Hp}{h:Heap}{a:Addr}{u:HO}(r:Rd H a u)(x:bY P w H h):b8 P w H h a u:=by
 rcases r with r | ⟨o,r⟩
 . exact x a u r
 . obtain⟨_,q⟩:=x a _ r;exact q
def yJ:Option HO->Prop
 | some (.lst _)=>True
 | some (.dK _)=>True
 | some (.dT _)=>True
 | some (.set _ _)=>True
 | some (.ins _ _ _)=>True
 | some (.ext _)=>True
 | _=>False
section
variable {P:Program}{w:World}{H:Hp}{h h':Heap}{x e:Addr}{o':HO}
theorem bY.write(ok:bY P w H h)(mu:yJ (H x))(he:e=x\/H e=some (.own x))(k:∀b u,b≠e->h.get? b=some u->h'.get? b=some u)(vX:∃u,h'.get? e=some u)
 (new:b8 P w (ah H x o') h' x o'):bY P w (ah H x o') h':=fun b u q=>by
 have Oo:∀c y,H c=some (.own y)->c≠x:=fun c y r z=>by subst z;rw[r]at mu;exact mu
 have W9:∀c xs,H c=some (.tup xs)->c≠x:=fun c xs r z=>by subst z;rw[r]at mu;exact mu
 by_cases hb:b=x
 . subst hb;rw[aI]at q;cases q;exact new
 . rw[aV hb]at q
   by_cases tz:b=e
   . have q':H b=some (.own x):=by
      rcases he with z | z
      . exact absurd (tz.trans z) hb
      . rw[tz];exact z
     rw[q]at q';cases q';obtain⟨v,hv⟩:=vX;exact⟨v,by rw[tz];exact hv⟩
   . refine(ok b u q).stay (fun c v hc r=>k c v ?_ r) (fun c r=>by rw[aV (Oo c b r)];exact r) fun c xs r=>by rw[aV (W9 c xs r)];exact r
     rcases hc with rfl | hc
     . exact tz
     . rintro rfl
       rcases he with z | z
       . exact Oo c b hc z
       . rw[hc]at z;cases z;exact hb rfl
end
structure Un(fs ex:List Addr)(H H':Hp)(h h':Heap):Prop where
 keep:∀b o,h.get? b=some o->H b=none->b∉fs->b∉ex->h'.get? b=some o
 slot:∀b o,h.get? b=some o->H b=none->b∈fs->b∉ex->∃sl,h'.get? b=some { o with slots:=sl }
 free:∀b o,h.get? b=some o->H b=none->b∉ex->H' b=none
 there:∀b o,h.get? b=some o->b∉ex->∃o',h'.get? b=some o'
 tups:∀b xs,H b=some (.tup xs)->H' b=some (.tup xs)
 frzs:∀b o u,H b=some (.frz o u)->H' b=some (.frz o u)
 tbls:∀b ps,H b=some (.tbl ps)->∃more,H' b=some (.tbl (ps++more))
section
variable {fs bC ex ex':List Addr}{H H1 H2:Hp}{h h1 h2 h':Heap}{a x e:Addr}{o:HO}
theorem Un.any(u:Un fs ex H H1 h h1){b:Addr}{ob:Obj}(q:h.get? b=some ob)(n:H b=none)(hx:b∉ex):∃sl,h1.get? b=some { ob with slots:=sl }:=by
 by_cases hb:b∈fs
 . exact u.slot b ob q n hb hx
 . exact⟨ob.slots,u.keep b ob q n hb hx⟩
theorem Un.trans(a:Un fs ex H H1 h h1)(b:Un fs ex H1 H2 h1 h2):Un fs ex H H2 h h2 where
 keep:=fun c ob q n hc hx=>b.keep c ob (a.keep c ob q n hc hx) (a.free c ob q n hx) hc hx
 slot:=fun c ob q n hc hx=>by
  obtain⟨sl,e1⟩:=a.slot c ob q n hc hx;obtain⟨tD,e2⟩:=b.slot c _ e1 (a.free c ob q n hx) hc hx;exact⟨tD,e2⟩
 free:=fun c ob q n hx=>by
  obtain⟨o',e1⟩:=a.there c ob q hx;exact b.free c o' e1 (a.free c ob q n hx) hx
 there:=fun c ob q hx=>by
  obtain⟨o',e1⟩:=a.there c ob q hx;exact b.there c o' e1 hx
 tups:=fun c xs q=>b.tups c xs (a.tups c xs q)
 frzs:=fun c ob xs q=>b.frzs c ob xs (a.frzs c ob xs q)
 tbls:=fun c ps q=>by
  obtain⟨m1,e1⟩:=a.tbls c ps q;obtain⟨m2,e2⟩:=b.tbls c _ e1;exact⟨m1++m2,by rw[e2,Array.append_assoc]⟩
theorem Un.kept(k:∀b u,h.get? b=some u->h'.get? b=some u):Un fs ex H H h h':=
 ⟨fun b ob q _ _ _=>k b ob q,fun b ob q _ _ _=>⟨ob.slots,k b ob q⟩,fun _ _ _ n _=>n,fun b ob q _=>⟨ob,k b ob q⟩,fun _ _ q=>q,fun _ _ _ q=>q,fun _ ps q=>⟨#[],by rw[q];simp⟩⟩
theorem Un.refl:Un fs ex H H h h:=Un.kept fun _ _ q=>q
theorem Un.laid(k:∀b u,h.get? b=some u->h'.get? b=some u)(hp:h.objs.size<=a)(hn:H a=none):Un fs ex H (ah H a o) h h' where
 keep:=fun b u q _ _ _=>k b u q
 slot:=fun b u q _ _ _=>⟨u.slots,k b u q⟩
 free:=fun b u q n _=>by rw[aV (cV (fX (bv q) hp))];exact n
 there:=fun b u q _=>⟨u,k b u q⟩
 tups:=fun b xs q=>by rw[aV (aL q hn)];exact q
 frzs:=fun b u xs q=>by rw[aV (aL q hn)];exact q
 tbls:=fun b ps q=>⟨#[],by rw[aV (aL q hn),q];simp⟩
theorem Un.write(mu:yJ (H x))(he:e=x\/H e=some (.own x))(k:∀b u,b≠e->h.get? b=some u->h'.get? b=some u)(vX:∃u,h'.get? e=some u):Un fs ex H (ah H x o) h h':=by
 have hx:∀b,H b=none->b≠x:=fun b n z=>by subst z;rw[n]at mu;exact mu
 have hb:∀b,H b=none->b≠e:=fun b n z=>by
  subst z
  rcases he with r | r
  . exact hx b n r
  . rw[n]at r;cases r
 have hm:∀b u,H b=some u->¬yJ (some u)->b≠x:=fun b u q nm z=>by subst z;rw[q]at mu;exact nm mu
 refine⟨fun b u q n _ _=>k b u (hb b n) q,fun b u q n _ _=>⟨u.slots,k b u (hb b n) q⟩,fun b u q n _=>by rw[aV (hx b n)];exact n,fun b u q _=>?_,
  fun b xs q=>by rw[aV (hm b _ q fun z=>z)];exact q,fun b u xs q=>by rw[aV (hm b _ q fun z=>z)];exact q,fun b ps q=>⟨#[],by rw[aV (hm b _ q fun z=>z),q];simp⟩⟩
 by_cases tz:b=e
 . subst tz;exact vX
 . exact⟨u,k b u tz q⟩
end
def CF(h:Heap)(H:Hp):List Addr:=(List.range h.objs.size).filter fun a=>(H a).isSome
def mB(h:Heap)(H:Hp):Heap:=PySem.W.hideAll h (CF h H)
theorem Xa(h:Heap)(H:Hp):(mB h H).objs.size=h.objs.size:=PySem.W.hideAll_size _ _
theorem Xb{h:Heap}{H:Hp}{b:Addr}{o:Obj}(e:h.get? b=some o)(n:H b=none):(mB h H).get? b=some o:=
 PySem.W.hideAll_get _ e fun hm=>by
  have q:(H b).isSome=true:=(yn.mp hm).2;rw[n]at q;simp at q
theorem Xc{h:Heap}{H:Hp}{b:Addr}{o:Obj}(e:(mB h H).get? b=some o):h.get? b=some o/\H b=none:=by
 have e':h.get? b=some o:=PySem.W.of_hideAll (CF h H) e;refine⟨e',?_⟩;cases q:H b with
 | none=>rfl
 | some x=>
  have hm:b∈CF h H:=yn.mpr ⟨B8.mpr (bv e'),by simp[q]⟩;have z:(mB h H).get? b=none:=PySem.W.hideAll_none (CF h H) hm;rw[z]at e;cases e
structure Mod(K:Fg)(mg:Mv)(base:Heap):Prop where
 kin:K.In base
 glob:base.Ns mainGlobals mg
 blt:∃mb,base.Ns builtinsNs mb/\∀x:Str,x≠"__name__"->mb x=bootBuiltins x
 nolimit:base.NoLimit
structure Cx where
 prog:Program
 w:World
 K:Fg
 mg:Mv
 base:Heap
 A:Around
 N:Ls
 s₀:Shared
 H₀:Hp
 env:Env
 outer:List Env
 stack:List Env
 ex:List Addr
 fn:Str->Bool
 calm:Bool
 pn:Po
 xe:VP
def cn(l:List Env):List Addr:=l.filterMap (·.frame)
abbrev Cx.fs (X:Cx):List Addr:=cn X.outer
def CG(sc:Scope)(x:Str):Prop:=sc.names.lookup x=some .local\/sc.names.lookup x=some .cell\/sc.names.lookup x=some .free
def Loc(sc:Scope)(x:Str):Prop:=sc.names.lookup x=some .local\/sc.names.lookup x=some .cell
def Look(env:Env)(h:Heap)(m:Mv)(x:Str)(u:Value):Prop:=
 (env.kindOf x=some .local/\m x=some u)\/((env.kindOf x=some .cell\/env.kindOf x=some .free)/\∃c,env.cells.lookup x=some c/\h.IsCell c (some u))
structure Cx.Ok(X:Cx):Prop where
 mod:Mod X.K X.mg X.base
 kind:X.env.scope.kind=.function
 glob:X.env.globals=mainGlobals
 blt:X.env.builtins=builtinsNs
 above:X.s₀.heap.objs.size<=X.env.locals
 inj:∀x y c,X.env.cells.lookup x=some c->X.env.cells.lookup y=some c->x=y
 has:∀x,(X.env.kindOf x=some .cell\/X.env.kindOf x=some .free)->∃c,X.env.cells.lookup x=some c
 cab:∀x c,X.fn x=true->X.env.cells.lookup x=some c->X.s₀.heap.objs.size<=c
 hd:X.calm=true->X.A.handled=none
 frames:X.A.frames=some X.stack
 stk:X.stack=X.outer\/(X.stack=X.env::X.outer/\X.env.frame=some X.env.locals)
 exf:∀b∈X.ex,b≠X.env.locals/\∀x c,X.env.cells.lookup x=some c->c≠b
 bs:∀b o,X.base.get? b=some o->X.s₀.heap.get? b=some o/\X.H₀ b=none
 bsz:X.base.objs.size<=X.s₀.heap.objs.size
 noex:∀b o,X.base.get? b=some o->b∉X.ex
 exfs:∀b∈X.ex,b∉X.fs
 funs:X.s₀.heap.FunFrames X.base X.outer
 frf:∀b∈X.fs,X.H₀ b=none
structure Inv(X:Cx)(pins:Po)(σ:List (Option V))(H:Hp)(s:Shared):Prop where
 ok:X.Ok
 os:s.os=X.s₀.os
 bare:AllBare s.gens
 base:Un X.fs X.ex X.H₀ H X.s₀.heap s.heap
 loc:∃m,s.heap.Ns X.env.locals m/\∀(i:Nat) (x:Str) (v:V),X.N[i]?=some x->σ[i]?=some (some v)->CG X.env.scope x->∃u,RelV v u/\Look X.env s.heap m x u
 cell:∀x c,X.env.cells.lookup x=some c->∃v,s.heap.IsCell c v
 free:H X.env.locals=none
 freeC:∀x c,X.env.cells.lookup x=some c->H c=none
 pin:∀p∈X.pn++pins,s.heap.get? p.1=some p.2/\H p.1=none/\p.1≠X.env.locals/\p.1∉X.fs/\∀v,p.2.data≠.cell v
 hok:bY X.prog X.w H s.heap
 len:σ.length=X.N.length
section
variable {X:Cx}{pins:Po}{σ:List (Option V)} {H H':Hp}{s:Shared}{h':Heap}
theorem Cx.Ok.nofr(ok:X.Ok){b:Addr}{o:Obj}(e:X.base.get? b=some o):b∉X.fs:=fun hb=>by
 have:=(ok.funs.mem hb).1;rw[e]at this;cases this
theorem Inv.bs(I:Inv X pins σ H s):∀b o,X.base.get? b=some o->s.heap.get? b=some o/\H b=none:=fun b o e=>
 ⟨I.base.keep b o (I.ok.bs b o e).1 (I.ok.bs b o e).2 (I.ok.nofr e) (I.ok.noex b o e),I.base.free b o (I.ok.bs b o e).1 (I.ok.bs b o e).2 (I.ok.noex b o e)⟩
theorem Inv.bk(I:Inv X pins σ H s):∀b o,X.base.get? b=some o->s.heap.get? b=some o:=fun b o e=>(I.bs b o e).1
theorem Inv.mod(I:Inv X pins σ H s):Mod X.K X.mg X.base:=I.ok.mod
theorem Inv.kIn(I:Inv X pins σ H s):X.K.In s.heap:=I.ok.mod.kin.keeps I.bk
theorem Inv.lt(I:Inv X pins σ H s):X.env.locals<s.heap.objs.size:=I.loc.elim fun _ Xd=>Xd.elim fun hn _=>hn.lt
theorem Inv.sz(I:Inv X pins σ H s):X.s₀.heap.objs.size<=s.heap.objs.size:=ce I.ok.above (vK I.lt)
theorem Inv.nofs(I:Inv X pins σ H s){a:Addr}(h:s.heap.objs.size<=a):a∉X.fs:=fun hb=>by
 obtain⟨_,o,ho,_⟩:=I.ok.funs.mem hb;exact absurd (fX (bv ho) (ce I.sz h)) (oj _)
theorem Inv.cne(I:Inv X pins σ H s):∀x c,X.env.cells.lookup x=some c->c≠X.env.locals:=fun x c e z=>by
 obtain⟨v,o,ho,hd⟩:=I.cell x c e;obtain⟨m,⟨o',es,ep,iz,qO,_⟩,_⟩:=I.loc;rw[z,iz]at ho;cases ho;rw[qO]at hd;cases hd
theorem Inv.funs(I:Inv X pins σ H s):s.heap.FunFrames X.base X.outer:=by
 have all:∀(l:List Env),(∀b∈cn l,b∈X.fs)->X.s₀.heap.FunFrames X.base l->s.heap.FunFrames X.base l:=by
  intro l
  induction l with
  | nil=>intro _ _;trivial
  | cons env r ih=>
   intro hs hl;obtain⟨hk,⟨L,o,hf,hn,ho,hd⟩,hr⟩:=hl;have hL:L∈X.fs:=hs L (by unfold cn;rw[GJ,hf];exact bB);obtain⟨sl,e⟩:=I.base.slot L o ho (I.ok.frf L hL) hL fun z=>I.ok.exfs L z hL;exact⟨hk,⟨L,_,hf,hn,e,hd⟩,ih (fun b hb=>hs b (by unfold cn;rw[GJ,hf];exact bJ _ hb)) hr⟩
 exact all X.outer (fun _ hb=>hb) I.ok.funs
theorem Inv.stack(I:Inv X pins σ H s):s.heap.FunFrames X.base X.stack:=by
 rcases I.ok.stk with e | ⟨e,hf⟩
 . rw[e];exact I.funs
 . rw[e];obtain⟨m,hn,_⟩:=I.loc;refine .cons (by rw[I.ok.kind];decide) hf hn ?_ I.funs;exact Heap.get?_none_of_le (ce I.ok.bsz I.ok.above)
theorem Inv.stkSub(I:Inv X pins σ H s):∀b∈cn X.stack,b∈X.env.locals::X.fs:=fun b hb=>by
 rcases I.ok.stk with e | ⟨e,hf⟩
 . rw[e]at hb;exact bJ _ hb
 . rw[e]at hb;unfold cn at hb;rw[GJ,hf]at hb;exact hb
theorem Inv.stkFree(I:Inv X pins σ H s):∀b∈cn X.stack,H b=none:=fun b hb=>by
 rcases aX.mp (I.stkSub b hb) with e | hb
 . rw[e];exact I.free
 . obtain⟨_,o,ho,_⟩:=I.ok.funs.mem hb;exact I.base.free b o ho (I.ok.frf b hb) fun z=>I.ok.exfs b z hb
theorem Inv.step{g':Array GenState}{t':Nat}{d':Drawn}{ch:List Addr}(I:Inv X pins σ H s)
 (ky:∀b∈ch,(b∈X.ex\/X.s₀.heap.objs.size<=b)/\b≠X.env.locals/\(∀x c,X.env.cells.lookup x=some c->c≠b)/\∀p∈X.pn++pins,p.1≠b)
 (keep:∀b o,b≠X.env.locals->b∉X.fs->b∉ch->s.heap.get? b=some o->H b=none->h'.get? b=some o)
 (slot:∀b o,b≠X.env.locals->b∈X.fs->b∉ch->s.heap.get? b=some o->H b=none->∃sl,h'.get? b=some { o with slots:=sl }) (free:∀b o,b∉ch->s.heap.get? b=some o->H b=none->H' b=none)
 (there:∀b o,b∉ch->s.heap.get? b=some o->∃o',h'.get? b=some o')
 (tups:∀b xs,H b=some (.tup xs)->H' b=some (.tup xs)) (frzs:∀b o u,H b=some (.frz o u)->H' b=some (.frz o u)) (tbls:∀b ps,H b=some (.tbl ps)->∃more,H' b=some (.tbl (ps++more)))
 (ns:∀m,s.heap.Ns X.env.locals m->h'.Ns X.env.locals m) (hok:bY X.prog X.w H' h') (hg:AllBare g') :
 Inv X pins σ H' { s with heap:=h',gens:=g',drawn:=d',toks:=t' }:=by
 have Op:∀b o,X.s₀.heap.get? b=some o->b≠X.env.locals:=fun b o e=>cV (fX (bv e) I.ok.above);have CH:∀b o,X.s₀.heap.get? b=some o->b∉X.ex->b∉ch:=fun b o e hx hb=>by
  rcases(ky b hb).1 with z | z
  . exact hx z
  . exact absurd (fX (bv e) z) (oj _)
 have cellK:∀x c,X.env.cells.lookup x=some c->∀v,s.heap.IsCell c v->h'.IsCell c v:=fun x c e v Xe=>Xe.elim fun o Xf=>Xf.elim fun ho hd=>by
  have nch:c∉ch:=fun z=>(ky c z).2.2.1 x c e rfl
  by_cases hc:c∈X.fs
  . obtain⟨sl,q⟩:=slot c o (I.cne x c e) hc nch ho (I.freeC x c e);exact⟨_,q,hd⟩
  . exact⟨o,keep c o (I.cne x c e) hc nch ho (I.freeC x c e),hd⟩
 refine⟨I.ok,I.os,hg,⟨fun b o e n hb hx=>?_,fun b o e n hb hx=>?_,fun b o e n hx=>?_,fun b o e hx=>?_,fun b xs e=>tups b xs (I.base.tups b xs e),fun b o xs e=>frzs b o xs (I.base.frzs b o xs e),fun b ps e=>?_⟩,?_,fun x c e=>?_,?_,fun x c e=>?_,fun p hp=>?_,hok,I.len⟩
 . exact keep b o (Op b o e) hb (CH b o e hx) (I.base.keep b o e n hb hx) (I.base.free b o e n hx)
 . obtain⟨sl,e1⟩:=I.base.slot b o e n hb hx;obtain⟨tD,e2⟩:=slot b _ (Op b o e) hb (CH b o e hx) e1 (I.base.free b o e n hx);exact⟨tD,e2⟩
 . obtain⟨o',e1⟩:=I.base.there b o e hx;exact free b o' (CH b o e hx) e1 (I.base.free b o e n hx)
 . obtain⟨o',e1⟩:=I.base.there b o e hx;exact there b o' (CH b o e hx) e1
 . obtain⟨m1,e1⟩:=I.base.tbls b ps e;obtain⟨m2,e2⟩:=tbls b _ e1;exact⟨m1++m2,by rw[e2,Array.append_assoc]⟩
 . obtain⟨m,hn,hl⟩:=I.loc;refine⟨m,ns m hn,fun i x v e1 e2 e3=>?_⟩;obtain⟨u,r,l⟩:=hl i x v e1 e2 e3;refine⟨u,r,?_⟩
   rcases l with l | ⟨k,c,e,z⟩
   . exact .inl l
   . exact .inr ⟨k,c,e,cellK x c e _ z⟩
 . obtain⟨v,z⟩:=I.cell x c e;exact⟨v,cellK x c e v z⟩
 . obtain⟨m,⟨o,_,_,ho,_⟩,_⟩:=I.loc;exact free _ o (fun z=>(ky _ z).2.1 rfl) ho I.free
 . obtain⟨v,o,ho,hd⟩:=I.cell x c e;exact free c o (fun z=>(ky c z).2.2.1 x c e rfl) ho (I.freeC x c e)
 . obtain⟨e,n,ne,nf,d⟩:=I.pin p hp;have nch:p.1∉ch:=fun z=>(ky p.1 z).2.2.2 p hp rfl;exact⟨keep p.1 p.2 ne nf nch e n,free p.1 p.2 nch e n,ne,nf,d⟩
theorem Inv.un{t':Nat}(I:Inv X pins σ H s)(u:Un X.fs [] H H' s.heap h')(hok:bY X.prog X.w H' h'):Inv X pins σ H' { s with heap:=h',toks:=t' }:=by
 obtain⟨m,⟨o,es,ep,ho,r⟩,_⟩:=id I.loc;obtain⟨sl,hL⟩:=u.any ho I.free (by simp);exact I.step (g':=s.gens) (d':=s.drawn) (ch:=[]) (fun _ z=>nomatch z) (fun b o _ hb _ e n=>u.keep b o e n hb (by simp)) (fun b o _ hb _ e n=>u.slot b o e n hb (by simp)) (fun b o _ e n=>u.free b o e n (by simp)) (fun b o _ e=>u.there b o e (by simp)) u.tups u.frzs u.tbls (fun m' hm=>by
  obtain⟨o',es',vY,iz,r'⟩:=hm;rw[ho]at iz;cases iz;exact⟨_,es',vY,hL,r'⟩) hok I.bare
theorem Inv.call{g':Array GenState}{t':Nat}{d':Drawn}{ch:List Addr}(I:Inv X pins σ H s)(u:Un (cn X.stack) ch H H' s.heap h')(hok:bY X.prog X.w H' h')(hg:AllBare g')
 (ky:∀b∈ch,(b∈X.ex\/X.s₀.heap.objs.size<=b)/\b≠X.env.locals/\(∀x c,X.env.cells.lookup x=some c->c≠b)/\∀p∈X.pn++pins,p.1≠b) :
 Inv X pins σ H' { s with heap:=h',gens:=g',drawn:=d',toks:=t' }:=by
 obtain⟨m,⟨o,es,ep,ho,r⟩,_⟩:=id I.loc;obtain⟨sl,hL⟩:=u.any ho I.free fun z=>(ky _ z).2.1 rfl;exact I.step (ch:=ch) ky (fun b o hL hb hc e n=>u.keep b o e n (fun z=>(aX.mp (I.stkSub b z)).elim hL hb) hc) (fun b o _ _ hc e n=>u.any e n hc) (fun b o hc e n=>u.free b o e n hc) (fun b o hc e=>u.there b o e hc) u.tups u.frzs u.tbls (fun m' hm=>by
  obtain⟨o',es',vY,iz,r'⟩:=hm;rw[ho]at iz;cases iz;exact⟨_,es',vY,hL,r'⟩) hok hg
theorem Inv.turned{t':Nat}{it:Addr}(I:Inv X pins σ H s)(k:∀b o,b≠it->s.heap.get? b=some o->h'.get? b=some o)(hn:H it=none)(hL:it≠X.env.locals)
 (h1:it∈X.ex\/X.s₀.heap.objs.size<=it) (h2:∀x c,X.env.cells.lookup x=some c->c≠it) (h3:∀p∈X.pn++pins,p.1≠it):Inv X pins σ H { s with heap:=h',toks:=t' }:=by
 have yK:∀b u,H b=some u->b≠it:=fun b u e z=>by rw[z,hn]at e;cases e
 refine I.step (g':=s.gens) (d':=s.drawn) (ch:=[it]) (fun b hb=>?_) (fun b o _ _ hc e _=>k b o (fun z=>hc (by simp[z])) e) (fun b o _ _ hc e _=>⟨o.slots,k b o (fun z=>hc (by simp[z])) e⟩) (fun _ _ _ _ n=>n)
  (fun b o hc e=>⟨o,k b o (fun z=>hc (by simp[z])) e⟩) (fun _ _ e=>e) (fun _ _ _ e=>e) (fun b ps e=>⟨#[],by rw[e];simp⟩) (fun m hm=>?_) (fun b u e=>?_) I.bare
 . have e:b=it:=by simpa using hb
   subst e;exact⟨h1,hL,h2,h3⟩
 . obtain⟨o,es,ep,ho,r⟩:=hm;exact⟨o,es,ep,k _ o (fY hL) ho,r⟩
 . refine(I.hok b u e).stay (fun c v hc q=>k c v ?_ q) (fun _ q=>q) fun _ _ q=>q
   rcases hc with z | z
   . rw[z];exact yK b u e
   . exact yK c _ z
theorem Inv.tok(I:Inv X pins σ H s)(t:Nat):Inv X pins σ H { s with toks:=t }:=I.un (h':=s.heap) (t':=t) Un.refl I.hok
theorem Inv.kept{t':Nat}(I:Inv X pins σ H s)(k:∀b u,s.heap.get? b=some u->h'.get? b=some u):Inv X pins σ H { s with heap:=h',toks:=t' }:=I.un (Un.kept k) (I.hok.kept k)
theorem Inv.laid{a:Addr}{o:HO}{t':Nat}(I:Inv X pins σ H s)(k:∀b u,s.heap.get? b=some u->h'.get? b=some u)(hp:s.heap.objs.size<=a)(new:b8 X.prog X.w (ah H a o) h' a o) :
 Inv X pins σ (ah H a o) { s with heap:=h',toks:=t' }:=I.un (Un.laid k hp (I.hok.fresh hp)) (I.hok.laid k hp new)
theorem Inv.write{x e:Addr}{o:HO}{t':Nat}(I:Inv X pins σ H s)(mu:yJ (H x))(he:e=x\/H e=some (.own x))(k:∀b u,b≠e->s.heap.get? b=some u->h'.get? b=some u)(vX:∃u,h'.get? e=some u)
 (new:b8 X.prog X.w (ah H x o) h' x o):Inv X pins σ (ah H x o) { s with heap:=h',toks:=t' }:=I.un (Un.write mu he k vX) (I.hok.write mu he k vX new)
theorem Inv.pins_of{G5:Po}(I:Inv X pins σ H s)(h:∀p∈G5,s.heap.get? p.1=some p.2/\H p.1=none/\p.1≠X.env.locals/\p.1∉X.fs/\∀v,p.2.data≠.cell v):Inv X G5 σ H s:=
 ⟨I.ok,I.os,I.bare,I.base,I.loc,I.cell,I.free,I.freeC,fun p hp=>(bK.mp hp).elim (fun z=>I.pin p (B9 _ z)) (h p),I.hok,I.len⟩
theorem Oq{N:Ls}(hN:N.Nodup){i j:Nat}{x:Str}(a:N[i]?=some x)(b:N[j]?=some x):i=j:=by
 obtain⟨h1,e1⟩:=ci.mp a;obtain⟨h2,e2⟩:=ci.mp b;exact(List.getElem_inj hN).mp (e1.trans e2.symm)
theorem Ot{M:Model}{A:Around}{E:VP}{i:Nat}{x:Str}{v:V}{u:Value}{Q:Unit->Shared->Prop}(I:Inv X pins σ H s)(hN:X.N.Nodup)(hi:X.N[i]?=some x)(hx:Loc X.env.scope x)(r:RelV v u)
 (h:∀s',Inv X pins (σ.set i (some v)) H s'->(∃a,Heap.SameBut a s.heap s'.heap/\(a=X.env.locals\/X.env.cells.lookup x=some a))->Q () s') (hf:X.fn x=true\/X.env.scope.names.lookup x=some .local:=by first | exact .inl rfl | exact .inr rfl | assumption):wpAny M A (storeName X.env x u) Q E s:=by
 obtain⟨m,hn,hl⟩:=id I.loc;have Xg:(X.env.scope.kind == .class || (X.env.scope.kind == .module && X.env.locals != X.env.globals))=false:=by rw[I.ok.kind];rfl
 have Ou:i<σ.length:=by rw[I.len];exact(ci.mp hi).1
 have cne:=I.cne;have tracked:∀{a:Addr}{h':Heap},(∃o,s.heap.get? a=some o/\H a=none)->Heap.SameBut a s.heap h'->bY X.prog X.w H h':=fun {a h'} ha hs b ob e=>by
  obtain⟨_,_,Ov⟩:=ha;refine(I.hok b ob e).stay (fun c w' hc q=>(hs.2 c ?_).trans q) (fun _ q=>q) fun _ _ q=>q;rintro rfl
  rcases hc with rfl | hc
  . rw[Ov]at e;cases e
  . rw[Ov]at hc;cases hc
 rcases hx with hk | hk
 . refine wpAny_storeName_local hk hn (fun h' jF hs=>?_) Xg;obtain⟨oL,_,_,oE,_⟩:=id hn;refine h _ ⟨I.ok,I.os,I.bare,⟨fun b o e n hb hx=>?_,fun b o e n hb hx=>?_,I.base.free,fun b o e hx=>?_,I.base.tups,I.base.frzs,I.base.tbls⟩,⟨_,jF,fun j y v' e1 e2 e3=>?_⟩,fun y c e=>?_,I.free,I.freeC,fun p hp=>?_,tracked ⟨oL,oE,I.free⟩ hs,by simpa using I.len⟩ ⟨_,hs,.inl rfl⟩
   . exact(hs.2 b (cV (fX (bv e) I.ok.above))).trans (I.base.keep b o e n hb hx)
   . obtain⟨sl,e1⟩:=I.base.slot b o e n hb hx;exact⟨sl,(hs.2 b (cV (fX (bv e) I.ok.above))).trans e1⟩
   . obtain⟨o',e1⟩:=I.base.there b o e hx;exact⟨o',(hs.2 b (cV (fX (bv e) I.ok.above))).trans e1⟩
   . by_cases hj:j=i
     . subst hj;rw[hi]at e1;cases e1;rw[aB7 Ou]at e2;cases e2;exact⟨u,r,.inl ⟨hk,by simp⟩⟩
     . rw[List.getElem?_set_ne (fY hj)]at e2;obtain⟨u',r',q⟩:=hl j y v' e1 e2 e3;refine⟨u',r',?_⟩
       rcases q with⟨k,e⟩ | ⟨k,c,e,z⟩
       . refine .inl ⟨k,?_⟩;have:y≠x:=fun e=>hj (Oq hN e1 (e▸hi));simp[this,e]
       . exact .inr ⟨k,c,e,z.sameBut hs (cne y c e)⟩
   . obtain⟨w',z⟩:=I.cell y c e;exact⟨w',z.sameBut hs (cne y c e)⟩
   . obtain⟨e,n,ne,nf,d⟩:=I.pin p hp;exact⟨(hs.2 p.1 ne).trans e,n,ne,nf,d⟩
 . have vZ:X.fn x=true:=by
    rcases hf with z | z
    . exact z
    . rw[z]at hk;cases hk
   obtain⟨c,hc⟩:=I.ok.has x (.inl hk);obtain⟨w',z⟩:=I.cell x c hc;refine wpAny_storeName_cell I.ok.kind hk hc z (fun h' jG hs=>?_);obtain⟨oc,oF,Xh⟩:=id z;refine h { s with heap:=h' } ⟨I.ok,I.os,I.bare,⟨fun b o e n hb hx=>?_,fun b o e n hb hx=>?_,I.base.free,fun b o e hx=>?_,I.base.tups,I.base.frzs,I.base.tbls⟩,⟨m,hn.sameBut hs (fY (cne x c hc)),fun j y v' e1 e2 e3=>?_⟩,fun y c' e=>?_,I.free,I.freeC,fun p hp=>?_,tracked ⟨oc,oF,I.freeC x c hc⟩ hs,by simpa using I.len⟩ ⟨c,hs,.inr hc⟩
   . exact(hs.2 b (cV (fX (bv e) (I.ok.cab x c vZ hc)))).trans (I.base.keep b o e n hb hx)
   . obtain⟨sl,e1⟩:=I.base.slot b o e n hb hx;exact⟨sl,(hs.2 b (cV (fX (bv e) (I.ok.cab x c vZ hc)))).trans e1⟩
   . obtain⟨o',e1⟩:=I.base.there b o e hx;exact⟨o',(hs.2 b (cV (fX (bv e) (I.ok.cab x c vZ hc)))).trans e1⟩
   . by_cases hj:j=i
     . subst hj;rw[hi]at e1;cases e1;rw[aB7 Ou]at e2;cases e2;exact⟨u,r,.inr ⟨.inl hk,c,hc,jG⟩⟩
     . rw[List.getElem?_set_ne (fY hj)]at e2;obtain⟨u',r',q⟩:=hl j y v' e1 e2 e3;refine⟨u',r',?_⟩
       rcases q with q | ⟨k,c',e,z'⟩
       . exact .inl q
       . refine .inr ⟨k,c',e,z'.sameBut hs ?_⟩;rintro rfl;exact hj (Oq hN e1 (I.ok.inj _ _ _ e hc▸hi))
   . by_cases Ox:c'=c
     . subst Ox;exact⟨_,jG⟩
     . obtain⟨w2,z2⟩:=I.cell y c' e;exact⟨w2,z2.sameBut hs Ox⟩
   . obtain⟨e,n,ne,nf,d⟩:=I.pin p hp;refine⟨(hs.2 p.1 ?_).trans e,n,ne,nf,d⟩;intro q;rw[q,oF]at e;have q':oc=p.2:=gA e;exact d w' (by rw[←q'];exact Xh)
theorem Oy{M:Model}{A:Around}{E:VP}{i:Nat}{x:Str}{v:V}{u:Value}{Q:Unit->Shared->Prop}(I:Inv X pins σ H s)(hN:X.N.Nodup)(hi:X.N[i]?=some x)(hx:Loc X.env.scope x)(r:RelV v u)
 (h:∀s',Inv X pins (σ.set i (some v)) H s'->Q () s') (hf:X.fn x=true\/X.env.scope.names.lookup x=some .local:=by first | exact .inl rfl | exact .inr rfl | assumption):wpAny M A (storeName X.env x u) Q E s:=
 Ot I hN hi hx r (fun s' I' _=>h s' I') hf
theorem Inv.call'{s':Shared}{ch:List Addr}(I:Inv X pins σ H s)(ho:s'.os=s.os)(u:Un (cn X.stack) ch H H' s.heap s'.heap)(hok:bY X.prog X.w H' s'.heap)(hg:AllBare s'.gens)
 (ky:∀b∈ch,(b∈X.ex\/X.s₀.heap.objs.size<=b)/\b≠X.env.locals/\(∀x c,X.env.cells.lookup x=some c->c≠b)/\∀p∈X.pn++pins,p.1≠b):Inv X pins σ H' s':=by
 obtain⟨h',g',d',t',o'⟩:=s';have e:o'=s.os:=ho;subst e;exact I.call (g':=g') (t':=t') (d':=d') u hok hg ky
end
abbrev XK:=Value->Oa->Hp->Prop
abbrev St:=List (Option V)
abbrev VK:=V->Hp->Prop
abbrev TE:=St->Hp->VK->Prop
abbrev TT:=St->Hp->(Bool->Hp->Prop)->Prop
abbrev TA:=St->Hp->(Lv->Hp->Prop)->Prop
structure Ends where
 nx:St->Hp->Prop
 rt:VK
 bk:St->Hp->Prop:=fun _ _=>False
 ct:St->Hp->Prop:=fun _ _=>False
abbrev TS:=Ends->St->Hp->Prop
def EP(X:Cx)(pins:Po)(σ:St)(Q:VK)(u:Value)(s':Shared):Prop:=∃v H',Inv X pins σ H' s'/\RelV v u/\Q v H'
def TP(X:Cx)(pins:Po)(σ:St)(Q:Bool->Hp->Prop)(b:Bool)(s':Shared):Prop:=∃H',Inv X pins σ H' s'/\Q b H'
def AP(X:Cx)(pins:Po)(σ:St)(Q:Lv->Hp->Prop)(us:Lw)(s':Shared):Prop:=∃vs H',Inv X pins σ H' s'/\aQ vs us/\Q vs H'
def SP(X:Cx)(pins:Po)(D:Ends)(f:Flow)(s':Shared):Prop:=
 match f with
 | .next=>∃σ' H',Inv X pins σ' H' s'/\D.nx σ' H'
 | .brk=>∃σ' H',Inv X pins σ' H' s'/\D.bk σ' H'
 | .cont=>∃σ' H',Inv X pins σ' H' s'/\D.ct σ' H'
 | .ret u=>∃v σ' H',Inv X pins σ' H' s'/\RelV v u/\D.rt v H'
def PE(X:Cx)(e:Expr)(t:TE):Prop:=
 ∀(pins:Po) (s:Shared) (σ:St) (H:Hp) (Q:VK),Inv X pins σ H s->t σ H Q->wpAny (model X.prog X.w) X.A (eval e X.env) (EP X pins σ Q) X.xe s
def PT(X:Cx)(e:Expr)(t:TT):Prop:=
 ∀(pins:Po) (s:Shared) (σ:St) (H:Hp) (Q:Bool->Hp->Prop),Inv X pins σ H s->t σ H Q->wpAny (model X.prog X.w) X.A (isTrue e X.env (eval e X.env)) (TP X pins σ Q) X.xe s
def PW(X:Cx)(e:Expr)(t:TT):Prop:=
 ∀(whole:Sem Value) (pins:Po) (s:Shared) (σ:St) (H:Hp) (Q:Bool->Hp->Prop),Inv X pins σ H s->t σ H Q->wpAny (model X.prog X.w) X.A (isTrue e X.env whole) (TP X pins σ Q) X.xe s
theorem PW.pt{X:Cx}{e:Expr}{t:TT}(h:PW X e t):PT X e t:=h _
def PA(X:Cx)(es:List Expr)(t:TA):Prop:=
 ∀(pos:Pos) (pins:Po) (s:Shared) (σ:St) (H:Hp) (Q:Lv->Hp->Prop),Inv X pins σ H s->t σ H Q->wpAny (model X.prog X.w) X.A (spliced (backTo pos (starEach es X.env))) (AP X pins σ Q) X.xe s
def PS(X:Cx)(st:Stmt)(t:TS):Prop:=
 ∀(pins:Po) (s:Shared) (σ:St) (H:Hp) (D:Ends),Inv X pins σ H s->t D σ H->wpAny (model X.prog X.w) X.A (exec st X.env) (SP X pins D) X.xe s
def c8(X:Cx)(st:List Stmt)(t:TS):Prop:=
 ∀(pins:Po) (s:Shared) (σ:St) (H:Hp) (D:Ends),Inv X pins σ H s->t D σ H->wpAny (model X.prog X.w) X.A (execs st X.env) (SP X pins D) X.xe s
theorem thn{α:Type}{t:Sem α}{Q Q':α->Shared->Prop}{M:Model}{A:Around}{E:VP}{s:Shared}(h:wpAny M A t Q E s)(hQ:∀a s,Q a s->Q' a s):wpAny M A t Q' E s:=eg h hQ fun _ _ x=>x
section
variable {X:Cx}
def v3(i:Nat):TE:=fun σ H Q=>∃v,σ[i]?=some (some v)/\Q v H
def tC(v:V):TE:=fun _ H Q=>Q v H
theorem Xi{i:Nat}{x:Str}{pos:Pos}(hN:X.N[i]?=some x)(hv:CG X.env.scope x)(hd:(x == ("__debug__":Str))=false:=by decide)(g9:(x == ("__classdict__":Str))=false:=by decide):PE X (.Name x pos) (v3 i):=by
 intro pins s σ H Q I h;obtain⟨v,e,h⟩:=h;obtain⟨m,hn,hl⟩:=I.loc;obtain⟨u,r,l⟩:=hl i x v hN e hv;have fin:EP X pins σ Q u s:=⟨v,H,I,r,h⟩
 rcases l with⟨hk,hm⟩ | ⟨hk,c,hc,G6⟩
 . exact wpAny_Name (wpAny_loadName_local I.ok.kind hk hn hm fin) hd
 . rcases hk with hk | hk
   . exact wpAny_Name (wpAny_loadName_cell I.ok.kind hk hc G6 fin) hd
   . exact wpAny_Name (wpAny_loadName_free I.ok.kind hk hc G6 fin g9) hd
theorem ar{i j pos}:PE X (.Constant (.int i) j pos) (tC (.int i)):=fun _ _ _ H _ I h=>wpAny_Constant_int ⟨.int i,H,I.tok _,⟨_,rfl⟩,h⟩
theorem kz{b j pos}:PE X (.Constant (.bool b) j pos) (tC (.bl b)):=fun _ _ _ H _ I h=>Constant_bool ⟨.bl b,H,I,rfl,h⟩
theorem oG{j pos}:PE X (.Constant .none j pos) (tC .non):=fun _ _ _ H _ I h=>Constant_none ⟨.non,H,I,rfl,h⟩
theorem bH{x j pos}:PE X (.Constant (.str x) j pos) (tC (.str x)):=fun _ _ _ H _ I h=>Calls.Constant_str ⟨.str x,H,I.tok _,⟨_,rfl⟩,h⟩
def Gl(X:Cx)(x:Str):Prop:=X.env.kindOf x=some .globalImplicit
theorem v4{E:VP}{pins:Po}{s:Shared}{σ:St}{H:Hp}{x:Str}{u:Value}{pos:Pos}{Q:VP}(I:Inv X pins σ H s)(hg:Gl X x)(hm:X.mg x=some u)(h:Q u s)
 (hd:(x == ("__debug__":Str))=false:=by decide):wpAny (model X.prog X.w) X.A (eval (.Name x pos) X.env) Q E s:=
 aB8 I.ok.kind hg (Calls.loadGlobal_global (by rw[I.ok.glob];exact I.mod.glob.keeps I.bk) hm h) hd
theorem v5{E:VP}{pins:Po}{s:Shared}{σ:St}{H:Hp}{x:Str}{u:Value}{pos:Pos}{Q:VP}(I:Inv X pins σ H s)(hg:Gl X x)(hm:X.mg x=none)(hv:bootBuiltins x=some u)(h:Q u s)
 (hn:x≠"__name__":=by decide) (hd:(x == ("__debug__":Str))=false:=by decide):wpAny (model X.prog X.w) X.A (eval (.Name x pos) X.env) Q E s:=by
 obtain⟨mb,h1,h2⟩:=I.mod.blt;exact aB8 I.ok.kind hg (Calls.loadGlobal_builtin (by rw[I.ok.glob];exact I.mod.glob.keeps I.bk) hm (by rw[I.ok.blt];exact h1.keeps I.bk) ((h2 x hn).trans hv) h) hd
variable {a b:Expr}{ta tb:TE}{pos:Pos}
def PC(X:Cx)(op:CmpOp)(a b:Expr)(t:TE):Prop:=
 ∀(pins:Po) (s:Shared) (σ:St) (H:Hp) (Q:VK),Inv X pins σ H s->t σ H Q ->
  wpAny (model X.prog X.w) X.A (eval a X.env) (fun v s₁=>wpAny (model X.prog X.w) X.A (eval b X.env) (fun u s₂=>wpAny (model X.prog X.w) X.A (compareOp op v u) (EP X pins σ Q) X.xe s₂) X.xe s₁) X.xe s
def tB(t:TE):TT:=fun σ H Q=>t σ H fun x H1=>∃c,x=.bl c/\Q c H1
theorem v8{op:CmpOp}{t:TE}(h:PC X op a b t)(h1:behindInMarks op b=false:=by first | exact nobehind _ (by decide) (by decide) | rfl):PT X (.Compare a [op] [b] pos) (tB t):=by
 intro pins s σ H Q I hw;refine aB9 (thn (h pins s σ H _ I hw) fun v s1 h1=>thn h1 fun u s2 h2=>thn h2 fun c s3 Xj=>Xj.elim fun x Xk=>Xk.elim fun H1 Xl=>Xl.elim fun I1 Xm=>Xm.elim fun r1 q1=>?_) h1;obtain⟨d,rfl,q⟩:=q1;cases r1;exact yk ⟨H1,I1,q⟩
theorem mC{e:Expr}{t:TE}(h:PE X e t)(he:∀whole,isTrue e X.env whole=(do let v ←whole;standAt e.pos;holding [v] (truthy v)):=by intro _;rfl):PT X e (tB t):=by
 intro pins s σ H Q I hw;refine isTrue_plain (thn (h pins s σ H _ I hw) fun v s1 Xn=>Xn.elim fun x Xo=>Xo.elim fun H1 Xp=>Xp.elim fun I1 Xq=>Xq.elim fun r1 q1=>?_) (he _);obtain⟨d,rfl,q⟩:=q1;cases r1;exact yk ⟨H1,I1,q⟩
variable {tA CI:TT}{rest:List Expr}
def Xr(t u:TT):TT:=fun σ H Q=>t σ H fun c H1=>if c=true then u σ H1 Q else Q false H1
def Xs(t u:TT):TT:=fun σ H Q=>t σ H fun c H1=>if c=true then Q true H1 else u σ H1 Q
def Xt(t:TT):TT:=fun σ H Q=>t σ H fun c H1=>Q (!c) H1
theorem v9(ha:PT X a tA):PW X (.BoolOp .And [a] pos) tA:=by
 intro wh pins s σ H Q I h;refine isTrue_and (thn (ha pins s σ H Q I h) fun c s1 e=>?_);cases c with
 | true=>exact isTrue_and_nil e
 | false=>exact e
theorem G7(ha:PT X a tA):PW X (.BoolOp .Or [a] pos) tA:=by
 intro wh pins s σ H Q I h;refine isTrue_or (thn (ha pins s σ H Q I h) fun c s1 e=>?_);cases c with
 | false=>exact isTrue_or_nil e
 | true=>exact e
theorem qQ(ha:PT X a tA)(hb:PW X (.BoolOp .And (b::rest) pos) CI):PW X (.BoolOp .And (a::b::rest) pos) (Xr tA CI):=by
 intro wh pins s σ H Q I h;refine isTrue_and (thn (ha pins s σ H _ I h) fun c s1 Xu=>Xu.elim fun H1 Xv=>Xv.elim fun I1 q1=>?_);cases c with
 | true=>exact hb wh pins s1 σ H1 Q I1 q1
 | false=>exact⟨H1,I1,q1⟩
theorem CJ(ha:PT X a tA)(hb:PW X (.BoolOp .Or (b::rest) pos) CI):PW X (.BoolOp .Or (a::b::rest) pos) (Xs tA CI):=by
 intro wh pins s σ H Q I h;refine isTrue_or (thn (ha pins s σ H _ I h) fun c s1 Xw=>Xw.elim fun H1 Xx=>Xx.elim fun I1 q1=>?_);cases c with
 | true=>exact⟨H1,I1,q1⟩
 | false=>exact hb wh pins s1 σ H1 Q I1 q1
theorem G8(ha:PT X a tA):PT X (.UnaryOp .Not a pos) (Xt tA):=by
 intro pins s σ H Q I h;exact isTrue_not (ha pins s σ H (fun c H1=>Q (!c) H1) I h)
def Xy(ta tb:TE):TE:=fun σ H Q=>ta σ H fun x H1=>∃c,x=.bl c/\if c=true then tb σ H1 Q else Q (.bl false) H1
def Xz(ta tb:TE):TE:=fun σ H Q=>ta σ H fun x H1=>∃c,x=.bl c/\if c=true then Q (.bl true) H1 else tb σ H1 Q
theorem CK{op}{t:TE}(h:PE X a t):PE X (.BoolOp op [a] pos) t:=fun pins s σ H Q I hw=>BoolOp_one (h pins s σ H Q I hw)
theorem Oz(ha:PE X a ta)(hb:PE X (.BoolOp .And (b::rest) pos) tb):PE X (.BoolOp .And (a::b::rest) pos) (Xy ta tb):=by
 intro pins s σ H Q I h;refine BoolOp_and (thn (ha pins s σ H _ I h) fun v s1 XA=>XA.elim fun x XB=>XB.elim fun H1 XC=>XC.elim fun I1 XD=>XD.elim fun r1 q1=>?_);obtain⟨c,rfl,q1⟩:=q1;cases r1;refine yk ?_;cases c with
 | true=>exact hb pins s1 σ H1 Q I1 q1
 | false=>exact⟨.bl false,H1,I1,rfl,q1⟩
theorem OA(ha:PE X a ta)(hb:PE X (.BoolOp .Or (b::rest) pos) tb):PE X (.BoolOp .Or (a::b::rest) pos) (Xz ta tb):=by
 intro pins s σ H Q I h;refine BoolOp_or (thn (ha pins s σ H _ I h) fun v s1 XF=>XF.elim fun x XG=>XG.elim fun H1 XH=>XH.elim fun I1 XI=>XI.elim fun r1 q1=>?_);obtain⟨c,rfl,q1⟩:=q1;cases r1;refine yk ?_;cases c with
 | false=>exact hb pins s1 σ H1 Q I1 q1
 | true=>exact⟨.bl true,H1,I1,rfl,q1⟩
def XJ(t:TT)(ta tb:TE):TE:=fun σ H Q=>t σ H fun c H1=>if c=true then ta σ H1 Q else tb σ H1 Q
theorem XM{c:Expr}(hc:PT X c tA)(ha:PE X a ta)(hb:PE X b tb):PE X (.IfExp c a b pos) (XJ tA ta tb):=by
 intro pins s σ H Q I h;refine wpAny_IfExp (thn (hc pins s σ H _ I h) fun d s1 XN=>XN.elim fun H1 XO=>XO.elim fun I1 q1=>?_);cases d with
 | true=>exact ha pins s1 σ H1 Q I1 q1
 | false=>exact hb pins s1 σ H1 Q I1 q1
end
def ae(K:Fg)(H:Hp)(a:Addr)(xs:Lv):Prop:=
 Rd H a (.lst xs) \/
  ∃(o:Obj) (its:Av) (n:Nat),K.lookup a=some o/\o.cls=.type "list"/\o.dict=none/\o.data=.seq its n/\its.size<=sizeLine/\aQ xs its.toList
def aW(K:Fg)(H:Hp)(a:Addr)(xs:Lv):Prop:=
 Rd H a (.tup xs) \/
  ∃(o:Obj) (its:Av) (n:Nat),K.lookup a=some o/\o.cls=.type "tuple"/\o.data=.seq its n/\its.size<=sizeLine/\aQ xs its.toList
def XQ:Value->Option V
 | .none=>some .non
 | .bool b=>some (.bl b)
 | .int i _=>some (.int i)
 | .str x _=>some (.str x)
 | .bytes b _=>some (.byt b)
 | .float b _=>some (.flt b)
 | .ref a=>some (.ref a)
 | .type n=>some (.ty n)
 | _=>none
theorem RelV.abs{x:V}{u:Value}(r:RelV x u):XQ u=some x:=by
 cases x with
 | non=>cases r;rfl
 | bl _=>cases r;rfl
 | int _=>obtain⟨t,rfl⟩:=r;rfl
 | str _=>obtain⟨t,rfl⟩:=r;rfl
 | byt _=>obtain⟨t,rfl⟩:=r;rfl
 | flt _=>obtain⟨t,rfl⟩:=r;rfl
 | ref _=>cases r;rfl
 | ty _=>cases r;rfl
theorem RelV.inj{x y:V}{u:Value}(r:RelV x u)(q:RelV y u):x=y:=gA (r.abs.symm.trans q.abs)
theorem aQ.inj:∀{xs ys:Lv}{us:Lw},aQ xs us->aQ ys us->xs=ys
 | _,_,_,.nil,.nil=>rfl
 | _,_,_,.cons r t,.cons r' t'=>by rw[r.inj r',aQ.inj t t']
section
variable {X:Cx}{pins:Po}{σ:St}{H:Hp}{s:Shared}{a:Addr}{xs ys:Lv}
theorem ae.of{K:Fg}(h:H a=some (.lst xs)):ae K H a xs:=.inl (.inl h)
theorem aW.of{K:Fg}(h:H a=some (.tup xs)):aW K H a xs:=.inl (.inl h)
theorem Inv.list(I:Inv X pins σ H s)(h:ae X.K H a xs):∃its:Lw,aQ xs its/\PlainL s.heap a its.toArray/\xs.length<=sizeLine:=by
 rcases h with h | ⟨o,its,n,hk,hc,hd,hs,hz,r⟩
 . obtain⟨z,its,n,r,e⟩:=h.ok I.hok;exact⟨its,r,⟨_,n,e,rfl,rfl,rfl⟩,z⟩
 . refine⟨its.toList,r,⟨o,n,I.kIn a o hk,hc,hd,by simpa using hs⟩,?_⟩;have e:=r.length;simp only[eR]at e;omega
theorem Inv.tuple(I:Inv X pins σ H s)(h:aW X.K H a xs):∃its:Lw,aQ xs its/\IsTup s.heap a its.toArray/\xs.length<=sizeLine:=by
 rcases h with h | ⟨o,its,n,hk,hc,hs,hz,r⟩
 . obtain⟨z,its,r,p⟩:=h.ok I.hok;exact⟨its,r,p,z⟩
 . refine⟨its.toList,r,⟨o,I.kIn a o hk,hc,n,by simpa using hs⟩,?_⟩;have e:=r.length;simp only[eR]at e;omega
theorem Inv.list_inj(I:Inv X pins σ H s)(h:ae X.K H a xs)(h':ae X.K H a ys):xs=ys:=by
 obtain⟨its,r,⟨o,n,e,_,_,d⟩,_⟩:=I.list h;obtain⟨its',r',⟨o',n',e',_,_,d'⟩,_⟩:=I.list h';rw[e]at e';cases e';rw[d]at d';injection d' with d1 _
 have:its=its':=by simpa using fb Array.toList d1
 subst this;exact r.inj r'
theorem Inv.tuple_inj(I:Inv X pins σ H s)(h:aW X.K H a xs)(h':aW X.K H a ys):xs=ys:=by
 obtain⟨its,r,⟨o,e,_,n,d⟩,_⟩:=I.tuple h;obtain⟨its',r',⟨o',e',_,n',d'⟩,_⟩:=I.tuple h';rw[e]at e';cases e';rw[d]at d';injection d' with d1 _
 have:its=its':=by simpa using fb Array.toList d1
 subst this;exact r.inj r'
end
abbrev Cx.wish (X:Cx) (E:VP):Cx:={ X with xe:=E }
abbrev Cx.nox (X:Cx):Cx:=X.wish fun _ _=>False
theorem Cx.Ok.wish{X:Cx}(ok:X.Ok)(E:VP):(X.wish E).Ok:=
 ⟨ok.mod,ok.kind,ok.glob,ok.blt,ok.above,ok.inj,ok.has,ok.cab,ok.hd,ok.frames,ok.stk,ok.exf,ok.bs,ok.bsz,ok.noex,ok.exfs,ok.funs,ok.frf⟩
theorem Cx.Ok.unwish{X:Cx}{E:VP}(ok:(X.wish E).Ok):X.Ok:=
 ⟨ok.mod,ok.kind,ok.glob,ok.blt,ok.above,ok.inj,ok.has,ok.cab,ok.hd,ok.frames,ok.stk,ok.exf,ok.bs,ok.bsz,ok.noex,ok.exfs,ok.funs,ok.frf⟩
section
variable {X:Cx}{pins:Po}{σ:St}{H:Hp}{s:Shared}{E:VP}
theorem Inv.wish(I:Inv X pins σ H s)(E:VP):Inv (X.wish E) pins σ H s:=⟨I.ok.wish E,I.os,I.bare,I.base,I.loc,I.cell,I.free,I.freeC,I.pin,I.hok,I.len⟩
theorem Inv.unwish(I:Inv (X.wish E) pins σ H s):Inv X pins σ H s:=⟨I.ok.unwish,I.os,I.bare,I.base,I.loc,I.cell,I.free,I.freeC,I.pin,I.hok,I.len⟩
theorem SP.unwish{D:Ends}{f:Flow}{s':Shared}(h:SP (X.wish E) pins D f s'):SP X pins D f s':=by
 cases f with
 | next=>obtain⟨σ',H',I,q⟩:=h;exact⟨σ',H',I.unwish,q⟩
 | brk=>obtain⟨σ',H',I,q⟩:=h;exact⟨σ',H',I.unwish,q⟩
 | cont=>obtain⟨σ',H',I,q⟩:=h;exact⟨σ',H',I.unwish,q⟩
 | ret u=>obtain⟨v,σ',H',I,r,q⟩:=h;exact⟨v,σ',H',I.unwish,r,q⟩
theorem c8.nox{st:List Stmt}{t:TS}(h:c8 X.nox st t):c8 X st t:=fun pins s σ H D I hw=>
 eg (h pins s σ H D (I.wish _) hw) (fun _ _ q=>q.unwish) fun _ _ z=>False.elim z
end
section
variable {X:Cx}{st:Stmt}{rest:List Stmt}{t u:TS}{e:Expr}{te:TE}{pos:Pos}
def XR:TS:=fun D σ H=>D.nx σ H
def aM(t u:TS):TS:=fun D σ H=>t { D with nx:=u D } σ H
theorem dq:c8 X [] XR:=fun _ _ σ H _ I h=>GK ⟨σ,H,I,h⟩
theorem ao(h1:PS X st t)(h2:c8 X rest u):c8 X (st::rest) (aM t u):=by
 intro pins s σ H D I h;refine VJ (thn (h1 pins s σ H { D with nx:=u D } I h) fun f s1 q=>?_);cases f with
 | next=>
  obtain⟨σ',H',I',q⟩:=q;exact h2 pins s1 σ' H' D I' q
 | ret v=>exact q
 | brk=>exact q
 | cont=>exact q
theorem av(h1:PS X st t):c8 X [st] t:=by
 intro pins s σ H D I h;refine VJ (thn (h1 pins s σ H D I h) fun f s1 q=>?_);cases f with
 | next=>exact GK q
 | ret v=>exact q
 | brk=>exact q
 | cont=>exact q
theorem Inv.quiet{pins:Po}{σ:St}{H:Hp}{s:Shared}(I:Inv X pins σ H s):interactive X.env=false:=by simp[interactive,I.ok.kind]
def XS(te:TE):TS:=fun D σ H=>te σ H fun _ H1=>D.nx σ H1
theorem cI(he:PE X e te)(hs:swapsWith e none pos.line X.env=pure false:=by rfl):PS X (.Expr e pos) (XS te):=by
 intro pins s σ H D I h;exact wpAny_Expr_any (thn (he pins s σ H _ I h) fun v s1 XT=>XT.elim fun x XU=>XU.elim fun H1 XV=>XV.elim fun I1 XW=>XW.elim fun r1 q1=>⟨σ,H1,I1,q1⟩) I.quiet hs
def XX(te:TE):TS:=fun D σ H=>te σ H D.rt
theorem aU(he:PE X e te):PS X (.Return (some e) pos) (XX te):=by
 intro pins s σ H D I h;exact wpAny_Return_some (thn (he pins s σ H _ I h) fun v s1 XY=>XY.elim fun x XZ=>XZ.elim fun H1 X2=>X2.elim fun I1 X3=>X3.elim fun r1 q1=>⟨x,σ,H1,I1,r1,q1⟩)
def X4:TS:=fun D _ H=>D.rt .non H
theorem OB:PS X (.Return none pos) X4:=fun _ _ σ H _ I h=>wpAny_Return_none ⟨.non,σ,H,I,rfl,h⟩
def X5(c:TT)(t u:TS):TS:=fun D σ H=>c σ H fun b H1=>if b=true then t D σ H1 else u D σ H1
theorem cJ{c:Expr}{a b:List Stmt}{tc:TT}(hc:PT X c tc)(ha:c8 X a t)(hb:c8 X b u):PS X (.If c a b pos) (X5 tc t u):=by
 intro pins s σ H D I h;refine wpAny_If (thn (hc pins s σ H _ I h) fun d s1 X6=>X6.elim fun H1 X7=>X7.elim fun I1 q1=>?_);cases d with
 | true=>exact ha pins s1 σ H1 D I1 q1
 | false=>exact hb pins s1 σ H1 D I1 q1
def OC:TS:=fun _ _ _=>False
theorem X8:PS X st OC:=fun _ _ _ _ _ _ h=>h.elim
theorem OD{CL:List Stmt}:c8 X CL OC:=fun _ _ _ _ _ _ h=>h.elim
end
abbrev TG:=V->St->Hp->(St->Hp->Prop)->Prop
abbrev qR:=Lv->St->Hp->(St->Hp->Prop)->Prop
def PG(X:Cx)(target:Expr)(t:TG):Prop:=
 ∀(pins:Po) (s:Shared) (σ:St) (H:Hp) (v:V) (u:Value) (Q:St->Hp->Prop),Inv X pins σ H s->RelV v u->t v σ H Q ->
  wpAny (model X.prog X.w) X.A (assign target X.env u) (fun _ s'=>∃σ' H',Inv X pins σ' H' s'/\Q σ' H') X.xe s
def oH(X:Cx)(ts:List Expr)(t:qR):Prop:=
 ∀(pins:Po) (s:Shared) (σ:St) (H:Hp) (vs:Lv) (us:Lw) (Q:St->Hp->Prop),Inv X pins σ H s->aQ vs us->t vs σ H Q ->
  wpAny (model X.prog X.w) X.A (assignInOrder ((assignEach ts X.env).map (·.2)) us) (fun _ s'=>∃σ' H',Inv X pins σ' H' s'/\Q σ' H') X.xe s
section
variable {X:Cx}{pos:Pos}
def lI(i:Nat):TG:=fun v σ H Q=>Q (σ.set i (some v)) H
theorem aY{i:Nat}{x:Str}(hN:X.N.Nodup)(hi:X.N[i]?=some x)(hx:Loc X.env.scope x)(hf:X.fn x=true\/X.env.scope.names.lookup x=some .local:=by first | exact .inl rfl | exact .inr rfl | assumption):PG X (.Name x pos) (lI i):=by
 intro pins s σ H v u Q I r h;exact wpAny_assign_Name (Oy I hN hi hx r (fun s' I'=>⟨_,H,I',h⟩) hf)
def G9:qR:=fun vs σ H Q=>vs=[]/\Q σ H
def yL(t:TG)(u:qR):qR:=fun vs σ H Q=>∃v r,vs=v::r/\t v σ H fun σ' H'=>u r σ' H' Q
theorem mD:oH X [] G9:=by
 intro pins s σ H vs us Q I r h;obtain⟨e,h⟩:=h;subst e;cases r;exact assignInOrder_nil ⟨σ,H,I,h⟩
theorem fG{e:Expr}{es:List Expr}{t:TG}{u:qR}(h1:PG X e t)(h2:oH X es u)
 (hs:(assignEach (e::es) X.env).map (·.2)=assign e X.env::(assignEach es X.env).map (·.2):=by rfl):oH X (e::es) (yL t u):=by
 intro pins s σ H vs us Q I r h;obtain⟨v,vr,e1,h⟩:=h;subst e1;cases r with
 | cons r rr=>
  rw[hs];refine assignInOrder_cons (thn (h1 pins s σ H _ _ _ I r h) fun _ s1 X9=>X9.elim fun σ1 Ya=>Ya.elim fun H1 Yb=>Yb.elim fun I1 q1=>?_);exact h2 pins s1 σ1 H1 _ _ Q I1 rr q1
def tE(K:Fg)(n:Nat)(t:qR):TG:=fun v σ H Q=>∃a xs,v=.ref a/\aW K H a xs/\xs.length=n/\t xs σ H Q
theorem oI{es:List Expr}{k:Nat}{t:qR}{n:Nat}(hc:X.calm=true)(h:oH X es t)
 (hn:(assignEach es X.env).length=n:=by rfl) (fg:(assignEach es X.env).findIdx? (·.1)=none:=by rfl):PG X (.Tuple es k pos) (tE X.K n t):=by
 intro pins s σ H v u Q I r hw;obtain⟨a,xs,e1,hq,hl,hw⟩:=hw;subst e1;cases r;obtain⟨its,rv,ht,hz⟩:=I.tuple hq;refine assign_Tuple_tuple (I.ok.hd hc) ht (by simp[hn,←hl,rv.length]) fg fun h' hx=>?_;have I1:Inv X pins σ H { s with heap:=h' }:=I.kept (t':=s.toks) fun b o e=>hx b o (cV (bv e)) e;exact h pins _ σ H xs _ Q I1 (by simpa using rv) hw
def OE(te:TE)(g:TG):TS:=fun D σ H=>te σ H fun x H1=>g x σ H1 D.nx
theorem aP{i:Nat}{x:Str}{e:Expr}{te:TE}{pos':Pos}(hN:X.N.Nodup)(hi:X.N[i]?=some x)(hx:Loc X.env.scope x)(he:PE X e te)(hs:swapsWith e (some (.Name x pos')) pos.line X.env=pure false:=by rfl)(hf:X.fn x=true\/X.env.scope.names.lookup x=some .local:=by first | exact .inl rfl | exact .inr rfl | assumption) :
 PS X (.Assign [.Name x pos'] e pos) (OE te (lI i)):=by
 intro pins s σ H D I h;refine wpAny_Assign_Name (thn (he pins s σ H _ I h) fun v s1 Yc=>Yc.elim fun y Yd=>Yd.elim fun H1 Ye=>Ye.elim fun I1 Yf=>Yf.elim fun r1 q1=>?_) hs;exact Oy I1 hN hi hx r1 (fun s2 I2=>⟨_,H1,I2,q1⟩) hf
def Yg(c:TT)(tb:TS):TS:=fun D σ H=>∃W:Nat->St->Hp->Prop,(∃m,W m σ H)/\∀m σ H,W m σ H ->
 c σ H fun b H1=>if b=true then∃N:St->Hp->Prop,(∀σ' H',N σ' H'->∃m',m'<m/\W m' σ' H')/\tb { D with nx:=N,ct:=N,bk:=D.nx } σ H1 else D.nx σ H1
theorem Hd{c:Expr}{body:List Stmt}{tc:TT}{tb:TS}(hp:PassesOwn (model X.prog X.w) X.A X.env X.xe)(hc:PT X c tc)(hb:c8 X body tb):PS X (.While c body [] pos) (Yg tc tb):=by
 intro pins s σ H D I h;obtain⟨W,⟨m0,w0⟩,turn⟩:=h;refine wpAny_While (codeAny_whileLoop (fun n s'=>∃σ' H',Inv X pins σ' H' s'/\W n σ' H') ?_ m0 ⟨σ,H,I,w0⟩);rintro n s1 ⟨σ1,H1,I1,w1⟩;refine yo hp (thn (hc pins s1 σ1 H1 _ I1 (turn n σ1 H1 w1)) fun b s2 Yh=>Yh.elim fun H2 Yi=>Yi.elim fun I2 q2=>?_);cases b with
 | true=>
  obtain⟨N,hN,q2⟩:=q2;rw[aq rfl];refine yo hp (thn (hb pins s2 σ1 H2 _ I2 q2) fun f s3 q3=>?_);cases f with
  | next=>
   obtain⟨σ3,H3,I3,n3⟩:=q3;obtain⟨m',hm,w3⟩:=hN σ3 H3 n3;exact⟨m',hm,σ3,H3,I3,w3⟩
  | cont=>
   obtain⟨σ3,H3,I3,n3⟩:=q3;obtain⟨m',hm,w3⟩:=hN σ3 H3 n3;exact⟨m',hm,σ3,H3,I3,w3⟩
  | brk=>exact q3
  | ret v=>exact q3
 | false=>
  rw[ai cK];exact GK ⟨σ1,H2,I2,q2⟩
end
structure It where
 go:Nat->Hp->Prop
 yld:Nat->Hp->V->Hp->Prop
 stop:Nat->Hp->Prop
def eU(X:Cx)(pins:Po)(H:Hp)(b:Addr):Prop:=
 H b=none/\b≠X.env.locals/\b∉X.fs/\(b∈X.ex\/X.s₀.heap.objs.size<=b)/\(∀x c,X.env.cells.lookup x=some c->c≠b)/\∀p∈X.pn++pins,p.1≠b
theorem Inv.fpOk{X:Cx}{pins:Po}{σ:St}{H H':Hp}{s:Shared}{b:Addr}(I:Inv X pins σ H s)(hb:s.heap.objs.size<=b)(hn:H' b=none):eU X pins H' b:=by
 refine⟨hn,ke (fX I.lt hb),I.nofs hb,.inr (ce I.sz hb),fun x c e z=>?_,fun p hp z=>?_⟩
 . obtain⟨v,q⟩:=I.cell x c e;exact absurd (fX q.lt (by rw[z];exact hb)) (oj _)
 . exact absurd (fX (bv (I.pin p hp).1) (by rw[z];exact hb)) (oj _)
structure qS(P:Program)(w:World)(K:Fg)(tg:Expr)(J:It)(fp:List Addr)(it:Addr)(tn:Nat->Heap->Prop):Prop where
 mem:it∈fp
 obj:∀i h,tn i h->∀b∈fp,∃o,h.get? b=some o/\∀v,o.data≠.cell v
 keep:∀i h h',tn i h->(∀b∈fp,∀o,h.get? b=some o->h'.get? b=some o)->tn i h'
 item:∀(X:Cx),X.prog=P->X.w=w->X.K=K->X.calm=true->∀(i:Nat) (pins:Po) (s:Shared) (σ:St) (H:Hp) (E:VP),Inv X pins σ H s->(∀b∈fp,eU X pins H b)->tn i s.heap->J.go i H ->
  wpAny (model P w) X.A (pyNext (.ref it)) (fun r s1=>∃u,r=some u /\
   wpAny (model P w) X.A (letOwnedTupleGo tg (.ref it) u) (fun _ s2=>∃x H',Inv X pins σ H' s2/\RelV x u/\J.yld i H x H'/\tn (i+1) s2.heap/\∀b∈fp,H' b=none) E s1) E s
 done:∀(X:Cx),X.prog=P->X.w=w->X.K=K->X.calm=true->∀(i:Nat) (pins:Po) (s:Shared) (σ:St) (H:Hp) (E:VP),Inv X pins σ H s->(∀b∈fp,eU X pins H b)->tn i s.heap->J.stop i H ->
  wpAny (model P w) X.A (pyNext (.ref it)) (fun r s1=>r=none/\Inv X pins σ H s1) E s
 self:∀(A:Around) (i:Nat) (s:Shared) (Q:VP) (E:VP),tn i s.heap->Q (.ref it) s->wpAny (model P w) A (pyIter (.ref it)) Q E s
abbrev TI:=St->Hp->(It->Hp->Prop)->Prop
def OF(X:Cx)(pins:Po)(σ:St)(tg:Expr)(R:It->Hp->Prop)(CM:Value)(s2:Shared):Prop:=
 ∃(it:Addr) (fp:List Addr) (tn:Nat->Heap->Prop) (J:It) (H':Hp),CM=.ref it/\Inv X pins σ H' s2/\qS X.prog X.w X.K tg J fp it tn/\tn 0 s2.heap/\(∀b∈fp,eU X pins H' b)/\R J H'
def PI(X:Cx)(tg iter:Expr)(wi:TI):Prop:=
 ∀(pins:Po) (s:Shared) (σ:St) (H:Hp) (R:It->Hp->Prop),Inv X pins σ H s->wi σ H R ->
  wpAny (model X.prog X.w) X.A (eval iter X.env) (fun v s1=>wpAny (model X.prog X.w) X.A (pyIter v) (OF X pins σ tg R) X.xe s1) X.xe s
theorem He{M:Model}{A:Around}{E:VP}{s:Shared}{tg:Expr}{it:Addr}{u:Value}{o:Obj}{n:String}{vs:Av}{Q:Unit->Shared->Prop}(ho:s.heap.get? it=some o)(hc:o.cls=.type n)(hd:o.data=.fields vs)
 (hn:["enumerate","zip","dict_itemiterator","dict_reverseitemiterator","odict_iterator","itertools.zip_longest","itertools.pairwise"].contains n=false) (hQ:Q () s):wpAny M A (letOwnedTupleGo tg (.ref it) u) Q E s:=by
 unfold letOwnedTupleGo;cases tg<;>first
  | exact au hQ
  | (cases u<;>first
   | exact au hQ
   | (refine af (wpAny_load ho ?_)
      rw[hc,hd];show wpAny M A (if (["enumerate","zip","dict_itemiterator","dict_reverseitemiterator","odict_iterator","itertools.zip_longest","itertools.pairwise"].contains n && vs[0]? == some (rawInt _))=true then _ else _) Q E s;rw[ai (by intro h;rw[hn,Bool.false_and]at h;cases h)];exact au hQ))
def mE(K:Fg)(a:Addr):It:=
 ⟨fun i H=>∃xs x,ae K H a xs/\xs[i]?=some x,fun i H x H'=>H'=H/\∀xs,ae K H a xs->xs[i]?=some x,fun i H=>∃xs,ae K H a xs/\xs.length<=i⟩
def Hf(K:Fg)(a:Addr):It:=
 ⟨fun i H=>∃xs x,aW K H a xs/\xs[i]?=some x,fun i H x H'=>H'=H/\∀xs,aW K H a xs->xs[i]?=some x,fun i H=>∃xs,aW K H a xs/\xs.length<=i⟩
def oJ(lo:Int)(n:Nat):It:=⟨fun i _=>i<n,fun i H x H'=>H'=H/\x=.int (lo+i),fun i _=>n<=i⟩
theorem Yj{P:Program}{w:World}{K:Fg}{tg:Expr}(a it:Addr):qS P w K tg (mE K a) [it] it (fun i h=>h.IsListIter it a i) where
 mem:=by simp
 obj:=fun i h st b hb=>by
  have e:b=it:=by simpa using hb
  subst e;obtain⟨o,e,c,d⟩:=st;exact⟨o,e,fun v z=>by rw[d]at z;cases z⟩
 keep:=fun i h h' st k=>st.at fun o e=>k it (by simp) o e
 item:=by
  intro X hP hw hK hc i pins s σ H E I hf st hg;subst hP hw hK;obtain⟨xs,x,hq,hx⟩:=hg;obtain⟨its,rv,p,hz⟩:=I.list hq;obtain⟨u,hu,ru⟩:=rv.get hx;obtain⟨f0,f1,f2,f3,f4,f5⟩:=hf it (by simp);refine wpAny_pyNext_list_item st p.isList (x:=u) (by simpa using hu) fun h' f9 sb=>?_;have I1:Inv X pins σ H { s with heap:=h' }:=I.turned (t':=s.toks) (fun b o hb e=>(sb.2 b hb).trans e) f0 f1 f3 f4 f5;obtain⟨o,e,c,d⟩:=id f9;exact⟨u,rfl,He (s:={ s with heap:=h' }) e c d (by decide) ⟨x,H,I1,ru,⟨rfl,fun ys hy=>by rw[I.list_inj hy hq];exact hx⟩,f9,fun b hb=>(hf b hb).1⟩⟩
 done:=by
  intro X hP hw hK hc i pins s σ H E I hf st hg;subst hP hw hK;obtain⟨xs,hq,hx⟩:=hg;obtain⟨its,rv,p,hz⟩:=I.list hq;obtain⟨f0,f1,f2,f3,f4,f5⟩:=hf it (by simp);have hl:=rv.length;exact wpAny_pyNext_list_end (I.ok.hd hc) st p.isList (by simp;omega) fun h' eb=>⟨rfl,I.turned (t':=s.toks) (fun b o hb e=>eb b o hb e) f0 f1 f3 f4 f5⟩
 self:=fun _ _ _ _ _ st h=>wpAny_pyIter_listiter st h
theorem Yk{P:Program}{w:World}{K:Fg}{tg:Expr}(a it:Addr):qS P w K tg (Hf K a) [it] it (fun i h=>h.IsTupleIter it a i) where
 mem:=by simp
 obj:=fun i h st b hb=>by
  have e:b=it:=by simpa using hb
  subst e;obtain⟨o,e,c,d⟩:=st;exact⟨o,e,fun v z=>by rw[d]at z;cases z⟩
 keep:=fun i h h' st k=>st.at fun o e=>k it (by simp) o e
 item:=by
  intro X hP hw hK hc i pins s σ H E I hf st hg;subst hP hw hK;obtain⟨xs,x,hq,hx⟩:=hg;obtain⟨its,rv,p,hz⟩:=I.tuple hq;obtain⟨u,hu,ru⟩:=rv.get hx;obtain⟨f0,f1,f2,f3,f4,f5⟩:=hf it (by simp);refine wpAny_pyNext_tuple_item st (show s.heap.IsTuple a its.toArray from p) (x:=u) (by simpa using hu) fun h' f9 sb=>?_;have I1:Inv X pins σ H { s with heap:=h' }:=I.turned (t':=s.toks) (fun b o hb e=>(sb.2 b hb).trans e) f0 f1 f3 f4 f5;obtain⟨o,e,c,d⟩:=id f9;exact⟨u,rfl,He (s:={ s with heap:=h' }) e c d (by decide) ⟨x,H,I1,ru,⟨rfl,fun ys hy=>by rw[I.tuple_inj hy hq];exact hx⟩,f9,fun b hb=>(hf b hb).1⟩⟩
 done:=by
  intro X hP hw hK hc i pins s σ H E I hf st hg;subst hP hw hK;obtain⟨xs,hq,hx⟩:=hg;obtain⟨its,rv,p,hz⟩:=I.tuple hq;obtain⟨f0,f1,f2,f3,f4,f5⟩:=hf it (by simp);have hl:=rv.length;exact wpAny_pyNext_tuple_end (I.ok.hd hc) st (show s.heap.IsTuple a its.toArray from p) (by simp;omega) fun h' eb=>⟨rfl,I.turned (t':=s.toks) (fun b o hb e=>eb b o hb e) f0 f1 f3 f4 f5⟩
 self:=fun _ _ _ _ _ st h=>wpAny_pyIter_tupleiter st h
theorem Yl{P:Program}{w:World}{K:Fg}{tg:Expr}(it:Addr)(lo:Int)(n:Nat):qS P w K tg (oJ lo n) [it] it (fun i h=>IsRangeIter h it (lo+(i:Nat) * 1) ((n:Int) - (i:Nat)) 1) where
 mem:=by simp
 obj:=fun i h st b hb=>by
  have e:b=it:=by simpa using hb
  subst e;exact⟨_,st,fun v z=>by
   have z':Data.fields _=Data.cell v:=z;cases z'⟩
 keep:=fun i h h' st k=>k it (by simp) _ st
 item:=by
  intro X hP hw hK hc i pins s σ H E I hf st hg;subst hP hw hK;obtain⟨f0,f1,f2,f3,f4,f5⟩:=hf it (by simp);have W:=Walks.range (prog:=X.prog) (w:=X.w) (I.ok.hd hc) it lo 1 n;refine W.item i s _ _ hg st fun v h' tk hv f9 kk=>?_;obtain⟨t,rfl⟩:=hv;have I1:Inv X pins σ H { s with heap:=h',toks:=tk }:=I.turned (fun b o hb e=>kk b o (by simpa using hb) e) f0 f1 f3 f4 f5;refine⟨_,rfl,He (s:={ s with heap:=h',toks:=tk }) (n:="range_iterator") f9 rfl rfl (by decide) ⟨.int (lo+i),H,I1,⟨t,?_⟩,⟨rfl,rfl⟩,f9,fun b hb=>(hf b hb).1⟩⟩;rw[Int.mul_one]
 done:=by
  intro X hP hw hK hc i pins s σ H E I hf st hg;subst hP hw hK;obtain⟨f0,f1,f2,f3,f4,f5⟩:=hf it (by simp);exact wpAny_pyNext_range_end (I.ok.hd hc) st (by have:n<=i:=hg;omega) fun h' eb=>⟨rfl,I.turned (t':=s.toks) (fun b o hb e=>eb b o hb e) f0 f1 f3 f4 f5⟩
 self:=fun _ _ _ _ _ st h=>wpAny_pyIter_rangeiter st h
section
variable {X:Cx}{tg:Expr}
def Ym(K:Fg)(tl:TE):TI:=fun σ H R=>tl σ H fun x H1=>∃a,x=.ref a/\(∃xs,ae K H1 a xs)/\R (mE K a) H1
def Yn(K:Fg)(tl:TE):TI:=fun σ H R=>tl σ H fun x H1=>∃a,x=.ref a/\(∃xs,aW K H1 a xs)/\R (Hf K a) H1
theorem cy{l:Expr}{tl:TE}(hl:PE X l tl):PI X tg l (Ym X.K tl):=by
 intro pins s σ H R I h;refine thn (hl pins s σ H _ I h) fun v s1 Yo=>Yo.elim fun x Yp=>Yp.elim fun H1 Yq=>Yq.elim fun I1 Yr=>Yr.elim fun r1 q1=>?_;obtain⟨a,e,⟨xs,hq⟩,q⟩:=q1;subst e;cases r1;obtain⟨its,rv,p,hz⟩:=I1.list hq;refine VL p.isList ?_;refine⟨s1.heap.objs.size,[s1.heap.objs.size],_,_,H1,rfl,I1.kept (t':=s1.toks) fun b o e=>bR _ e,Yj a _,⟨_,dW _ rfl,rfl,rfl⟩,fun b hb=>?_,q⟩;have e:b=s1.heap.objs.size:=by simpa using hb
 subst e;exact I1.fpOk (aJ _) (I1.hok.fresh (aJ _))
theorem Ys{l:Expr}{tl:TE}(hl:PE X l tl):PI X tg l (Yn X.K tl):=by
 intro pins s σ H R I h;refine thn (hl pins s σ H _ I h) fun v s1 Yt=>Yt.elim fun x Yu=>Yu.elim fun H1 Yv=>Yv.elim fun I1 Yw=>Yw.elim fun r1 q1=>?_;obtain⟨a,e,⟨xs,hq⟩,q⟩:=q1;subst e;cases r1;obtain⟨its,rv,p,hz⟩:=I1.tuple hq;refine wpAny_pyIter_tuple (show s1.heap.IsTuple a its.toArray from p) ?_;refine⟨s1.heap.objs.size,[s1.heap.objs.size],_,_,H1,rfl,I1.kept (t':=s1.toks) fun b o e=>bR _ e,Yk a _,⟨_,dW _ rfl,rfl,rfl⟩,fun b hb=>?_,q⟩;have e:b=s1.heap.objs.size:=by simpa using hb
 subst e;exact I1.fpOk (aJ _) (I1.hok.fresh (aJ _))
theorem OG{pins:Po}{σ:St}{H:Hp}{s:Shared}{R:It->Hp->Prop}{E:VP}{lo hi:Int}{t u v:Tok}{tk:Nat}(I:Inv X pins σ H s)(h1:-(2 ^ 62)<=lo)(h2:lo<2 ^ 62)(h3:-(2 ^ 62)<=hi)(h4:hi<2 ^ 62)
 (q:R (oJ lo (hi - lo).toNat) H):wpAny (model X.prog X.w) X.A (pyIter (.ref s.heap.objs.size)) (OF X pins σ tg R) E { s with heap:=s.heap.push { cls:=.type "range",data:=.fields #[.int lo t,.int hi u,.int 1 v] },toks:=tk }:=by
 refine wpAny_pyIter_range (IsRange.new ..) (small_one h1 h2 h3 h4) ?_;have I1:Inv X pins σ H { s with heap:=s.heap.push { cls:=.type "range",data:=.fields #[.int lo t,.int hi u,.int 1 v] },toks:=tk }:=I.kept fun b o e=>bR _ e;refine⟨(s.heap.push { cls:=.type "range",data:=.fields #[.int lo t,.int hi u,.int 1 v] }).objs.size,[(s.heap.push { cls:=.type "range",data:=.fields #[.int lo t,.int hi u,.int 1 v] }).objs.size],_,_,H,rfl,
  I1.kept (t':=tk) fun b o e=>bR _ e,Yl _ lo (hi - lo).toNat,?_,fun b hb=>?_,q⟩
 . have e1:lo+((0:Nat):Int) * 1=lo:=by simp
   have e2:(((hi - lo).toNat:Nat):Int) - ((0:Nat):Int)=Builtin.Range.rangeSize lo hi 1:=by rw[rangeSize_one];split<;>omega
   show IsRangeIter _ _ (lo+((0:Nat):Int) * 1) ((((hi - lo).toNat:Nat):Int) - ((0:Nat):Int)) 1;rw[e1,e2];exact dW _ rfl
 . have e:b=(s.heap.push { cls:=.type "range",data:=.fields #[.int lo t,.int hi u,.int 1 v] }).objs.size:=by simpa using hb
   subst e;exact I1.fpOk (aJ _) (I1.hok.fresh (aJ _))
def Yx(ta:TA):TI:=fun σ H R=>ta σ H fun vs H1=>∃j:Int,vs=[.int j]/\-(2 ^ 62)<=j/\j<2 ^ 62/\R (oJ 0 j.toNat) H1
def Yy(ta:TA):TI:=fun σ H R=>ta σ H fun vs H1=>∃i j:Int,vs=[.int i,.int j]/\(-(2 ^ 62)<=i/\i<2 ^ 62/\-(2 ^ 62)<=j/\j<2 ^ 62)/\R (oJ i (j - i).toNat) H1
theorem oK{a:Expr}{ta:TA}{p pos:Pos}(hg:Gl X "range")(hm:X.mg "range"=none)(ha:PA X [a] ta)(hs:starEach [a] X.env=[(false,eval a X.env)]:=by rfl):PI X tg (.Call (.Name "range" p) [a] [] pos) (Yx ta):=by
 intro pins s σ H R I h;refine Call_ (v5 I hg hm boot_range (NL (thn (ha pos pins s σ H _ I h) fun us s1 Yz=>Yz.elim fun vs YA=>YA.elim fun H1 YB=>YB.elim fun I1 YC=>YC.elim fun r1 q1=>?_) hs rfl));obtain⟨j,e,q1,q2,q⟩:=q1;subst e;cases r1 with
 | cons r rr=>
  cases rr;obtain⟨t,rfl⟩:=r;exact call_range_1 (OG I1 (by omega) (by omega) q1 q2 (by simpa using q))
theorem Hg{a b:Expr}{ta:TA}{p pos:Pos}(hg:Gl X "range")(hm:X.mg "range"=none)(ha:PA X [a,b] ta)(hs:starEach [a,b] X.env=[(false,eval a X.env),(false,eval b X.env)]:=by rfl)(tF:starEach [b] X.env=[(false,eval b X.env)]:=by rfl) :
 PI X tg (.Call (.Name "range" p) [a,b] [] pos) (Yy ta):=by
 intro pins s σ H R I h;refine Call_ (v5 I hg hm boot_range (NL (thn (ha pos pins s σ H _ I h) fun us s1 YD=>YD.elim fun vs YE=>YE.elim fun H1 YF=>YF.elim fun I1 YG=>YG.elim fun r1 q1=>?_) (by rw[hs,tF]) (by rw[tF];rfl)));obtain⟨i,j,e,⟨q1,q2,q3,q4⟩,q⟩:=q1;subst e;cases r1 with
 | cons r rr=>
  cases rr with
  | cons r' rr=>
   cases rr;obtain⟨t,rfl⟩:=r;obtain⟨t',rfl⟩:=r';exact call_range_2 (OG I1 q1 q2 q3 q4 q)
def YH(wi:TI)(g:TG)(tb:TS):TS:=fun D σ H=>wi σ H fun J H1=>∃W:Nat->Nat->St->Hp->Prop,(∃m,W 0 m σ H1)/\∀i m σ H,W i m σ H ->
 (J.stop i H/\D.nx σ H)\/(J.go i H/\∃N:St->Hp->Prop,(∀σ' H',N σ' H'->∃m',m'<m/\W (i+1) m' σ' H')/\∀x H',J.yld i H x H'->g x σ H' fun σ2 H2=>tb { D with nx:=N,ct:=N,bk:=D.nx } σ2 H2)
def tG(fp:List Addr)(h:Heap):Po:=fp.filterMap fun b=>(h.get? b).map fun o=>(b,o)
theorem qT{fp:List Addr}{h:Heap}{b:Addr}{o:Obj}(hb:b∈fp)(e:h.get? b=some o):(b,o)∈tG fp h:=NM.mpr ⟨b,hb,by rw[e];rfl⟩
theorem YI{fp:List Addr}{h:Heap}{p:Addr×Obj}(hp:p∈tG fp h):p.1∈fp/\h.get? p.1=some p.2:=by
 obtain⟨b,hb,e⟩:=NM.mp hp;cases q:h.get? b with
 | none=>rw[q]at e;cases e
 | some o=>
  rw[q]at e;have e':(b,o)=p:=gA e;subst e';exact⟨hb,q⟩
theorem Inv.pinned{pins:Po}{σ:St}{H:Hp}{s:Shared}{fp:List Addr}(I:Inv X pins σ H s)(hf:∀b∈fp,eU X pins H b)(ho:∀b∈fp,∃o,s.heap.get? b=some o/\∀v,o.data≠.cell v):Inv X (pins++tG fp s.heap) σ H s:=
 I.pins_of fun p hp=>(bK.mp hp).elim (fun z=>I.pin p (eS _ z)) fun z=>by
  obtain⟨hb,e⟩:=YI z;obtain⟨f0,f1,f2,_⟩:=hf p.1 hb;obtain⟨o,e',d⟩:=ho p.1 hb;rw[e]at e';cases e';exact⟨e,f0,f1,f2,d⟩
theorem Inv.unpinned{pins pl:Po}{σ:St}{H:Hp}{s:Shared}(I:Inv X (pins++pl) σ H s):Inv X pins σ H s:=I.pins_of fun p hp=>I.pin p (eS _ (B9 _ hp))
theorem eA{iter:Expr}{body:List Stmt}{wi:TI}{g:TG}{tb:TS}{pos:Pos}(hp:PassesOwn (model X.prog X.w) X.A X.env X.xe)(hc:X.calm=true)(hi:PI X tg iter wi)(hg:PG X tg g)(hb:c8 X body tb)
 (hs:∀x,foldedSetIterable iter X.env x=pure x:=by intro _;rfl):PS X (.For tg iter body [] pos) (YH wi g tb):=by
 intro pins s σ H D I h;refine wpAny_For (thn (hi pins s σ H _ I h) fun v s1 h1=>thn h1 fun CM s2 h2=>?_) hs;obtain⟨it,fp,tn,J,H2,e,I2,T,ft,f2,W,⟨m0,w0⟩,turn⟩:=h2;subst e;have Hh:∀{H':Hp},(∀b∈fp,H' b=none)->∀b∈fp,eU X pins H' b:=fun hn b hb=>⟨hn b hb,(f2 b hb).2⟩;refine codeAny_forLoop_any (fun n s'=>∃i σ' H',Inv X pins σ' H' s'/\tn i s'.heap/\(∀b∈fp,H' b=none)/\W i n σ' H') ?_ m0 ⟨0,σ,H2,I2,ft,fun b hb=>(f2 b hb).1,w0⟩;rintro n s3 ⟨i,σ3,H3,I3,tH,OH,w3⟩
 rcases turn i n σ3 H3 w3 with⟨stop,qn⟩ | ⟨go,N,hN,step⟩
 . refine yo hp (thn (T.done X rfl rfl rfl hc i pins s3 σ3 H3 X.xe I3 (Hh OH) tH stop) fun r s4 YJ=>YJ.elim fun hr I4=>?_);subst hr;exact GK ⟨σ3,H3,I4,qn⟩
 . refine yo hp (thn (T.item X rfl rfl rfl hc i pins s3 σ3 H3 X.xe I3 (Hh OH) tH go) fun r s4 YK=>YK.elim fun u YL=>YL.elim fun hr h4=>?_);subst hr;refine yo hp (thn h4 fun _ s5 YM=>YM.elim fun x YN=>YN.elim fun H5 YO=>YO.elim fun I5 YQ=>YQ.elim fun r5 YR=>YR.elim fun y5 YS=>YS.elim fun tI Hi=>?_);have YT:=I5.pinned (Hh Hi) (T.obj _ _ tI);refine yo hp (thn (hg _ s5 σ3 H5 x u _ YT r5 (step x H5 y5)) fun _ s6 YU=>YU.elim fun σ6 YV=>YV.elim fun H6 YW=>YW.elim fun I6 q6=>?_);refine yo hp (thn (hb _ s6 σ6 H6 _ I6 q6) fun f s7 q7=>?_);have again:∀{σ7:St}{H7:Hp},Inv X (pins++tG fp s5.heap) σ7 H7 s7->N σ7 H7->∃m,m<n/\∃i σ' H',Inv X pins σ' H' s7/\tn i s7.heap/\(∀b∈fp,H' b=none)/\W i m σ' H':=fun {σ7 H7} I7 n7=>by
    obtain⟨m',hm,w7⟩:=hN σ7 H7 n7;refine⟨m',hm,i+1,σ7,H7,I7.unpinned,T.keep _ _ _ tI fun b hb o e=>(I7.pin (b,o) (eS _ (eS _ (qT hb e)))).1,fun b hb=>?_,w7⟩;obtain⟨o,e,d⟩:=T.obj _ _ tI b hb;exact(I7.pin (b,o) (eS _ (eS _ (qT hb e)))).2.1
   cases f with
   | next=>obtain⟨σ7,H7,I7,n7⟩:=q7;exact again I7 n7
   | cont=>obtain⟨σ7,H7,I7,n7⟩:=q7;exact again I7 n7
   | brk=>obtain⟨σ7,H7,I7,q7⟩:=q7;exact⟨σ7,H7,I7.unpinned,q7⟩
   | ret v=>obtain⟨x7,σ7,H7,I7,r7,q7⟩:=q7;exact⟨x7,σ7,H7,I7.unpinned,r7,q7⟩
end
theorem gF{K:Fg}{a:Addr}{xs:Lv}{g:TG}{tb:TS}{D:Ends}{σ:St}{H:Hp}(Pv:Nat->St->Hp->Prop)(h0:Pv 0 σ H)(hl:∀i σ H,i<=xs.length->Pv i σ H->ae K H a xs)
 (hs:∀i x σ H,xs[i]?=some x->Pv i σ H->g x σ H fun σ2 H2=>tb { D with nx:=Pv (i+1),ct:=Pv (i+1),bk:=D.nx } σ2 H2) (hd:∀σ H,Pv xs.length σ H->D.nx σ H) :
 ∃W:Nat->Nat->St->Hp->Prop,(∃m,W 0 m σ H)/\∀i m σ H,W i m σ H ->
  ((mE K a).stop i H/\D.nx σ H)\/((mE K a).go i H/\∃N:St->Hp->Prop,(∀σ' H',N σ' H'->∃m',m'<m/\W (i+1) m' σ' H')/\∀x H',(mE K a).yld i H x H'->g x σ H' fun σ2 H2=>tb { D with nx:=N,ct:=N,bk:=D.nx } σ2 H2):=by
 refine⟨fun i m σ H=>m=xs.length - i/\i<=xs.length/\Pv i σ H,⟨xs.length,by simp,dw _,h0⟩,?_⟩;rintro i m σ H ⟨rfl,hi,p⟩;have q:=hl i σ H hi p
 by_cases aN:i<xs.length
 . refine .inr ⟨⟨xs,xs[i],q,by simp[aN]⟩,Pv (i+1),fun σ' H' p'=>⟨xs.length - (i+1),by omega,rfl,aN,p'⟩,fun x H' y=>?_⟩;obtain⟨e,y⟩:=y;subst e;exact hs i x σ _ (y xs q) p
 . have e:i=xs.length:=by omega
   subst e;exact .inl ⟨⟨xs,q,aJ _⟩,hd σ H p⟩
theorem wa{lo:Int}{n:Nat}{g:TG}{tb:TS}{D:Ends}{σ:St}{H:Hp}(Pv:Nat->St->Hp->Prop)(h0:Pv 0 σ H)
 (hs:∀i σ H,i<n->Pv i σ H->g (.int (lo+i)) σ H fun σ2 H2=>tb { D with nx:=Pv (i+1),ct:=Pv (i+1),bk:=D.nx } σ2 H2) (hd:∀σ H,Pv n σ H->D.nx σ H) :
 ∃W:Nat->Nat->St->Hp->Prop,(∃m,W 0 m σ H)/\∀i m σ H,W i m σ H ->
  ((oJ lo n).stop i H/\D.nx σ H)\/((oJ lo n).go i H/\∃N:St->Hp->Prop,(∀σ' H',N σ' H'->∃m',m'<m/\W (i+1) m' σ' H')/\∀x H',(oJ lo n).yld i H x H'->g x σ H' fun σ2 H2=>tb { D with nx:=N,ct:=N,bk:=D.nx } σ2 H2):=by
 refine⟨fun i m σ H=>m=n - i/\i<=n/\Pv i σ H,⟨n,by simp,dw _,h0⟩,?_⟩;rintro i m σ H ⟨rfl,hi,p⟩
 by_cases aN:i<n
 . refine .inr ⟨aN,Pv (i+1),fun σ' H' p'=>⟨n - (i+1),by omega,rfl,aN,p'⟩,fun x H' y=>?_⟩;obtain⟨e,y⟩:=y;subst e y;exact hs i σ _ aN p
 . have e:i=n:=by omega
   subst e;exact .inl ⟨aJ _,hd σ H p⟩
abbrev R2:=V->V->Hp->VK->Prop
def cR(X:Cx)(f:Value->Value->Sem Value)(r:R2):Prop:=
 ∀(pins:Po) (s:Shared) (σ:St) (H:Hp) (x y:V) (v u:Value) (Q:VK),Inv X pins σ H s->RelV x v->RelV y u->r x y H Q ->
  wpAny (model X.prog X.w) X.A (f v u) (EP X pins σ Q) X.xe s
def Hl(X:Cx)(f:Value->Sem Value)(r:V->Hp->VK->Prop):Prop:=
 ∀(pins:Po) (s:Shared) (σ:St) (H:Hp) (x:V) (v:Value) (Q:VK),Inv X pins σ H s->RelV x v->r x H Q ->
  wpAny (model X.prog X.w) X.A (f v) (EP X pins σ Q) X.xe s
def fv(X:Cx)(f:Value)(r:Lv->Hp->VK->Prop):Prop:=
 ∀(pins:Po) (s:Shared) (σ:St) (H:Hp) (xs:Lv) (us:Lw) (Q:VK),Inv X pins σ H s->aQ xs us->r xs H Q ->
  wpAny (model X.prog X.w) X.A (call f us) (EP X pins σ Q) X.xe s
def CN(r:R2)(ta tb:TE):TE:=fun σ H Q=>ta σ H fun x H1=>tb σ H1 fun y H2=>r x y H2 Q
def YX(r:V->Hp->VK->Prop)(ta:TE):TE:=fun σ H Q=>ta σ H fun x H1=>r x H1 Q
def rI(C:Int->Int->Prop)(g:Int->Int->V):R2:=fun x y H Q=>∃i j,x=.int i/\y=.int j/\C i j/\Q (g i j) H
def tJ(g:Int->Int->V):R2:=fun x y H Q=>∃i j,x=.int i/\y=.int j/\Q (g i j) H
def rU(g:Int->V):V->Hp->VK->Prop:=fun x H Q=>∃i,x=.int i/\Q (g i) H
section
variable {X:Cx}{a b c:Expr}{ta tb tc:TE}{pos:Pos}
theorem Hm(ha:PE X a ta)(hb:PE X b tb){pins:Po}{s:Shared}{σ:St}{H:Hp}{R:V->V->Hp->Prop}(I:Inv X pins σ H s)
 (h:ta σ H fun x H1=>tb σ H1 fun y H2=>R x y H2) {Q:VP}{f:Value->Value->Sem Value}
 (hf:∀v u s2 x y H2,Inv X pins σ H2 s2->RelV x v->RelV y u->R x y H2->wpAny (model X.prog X.w) X.A (f v u) Q X.xe s2) :
 wpAny (model X.prog X.w) X.A (eval a X.env) (fun v s₁=>wpAny (model X.prog X.w) X.A (eval b X.env) (fun u s₂=>wpAny (model X.prog X.w) X.A (f v u) Q X.xe s₂) X.xe s₁) X.xe s:=by
 refine thn (ha pins s σ H _ I h) fun v s1 YY=>YY.elim fun x YZ=>YZ.elim fun H1 Y0=>Y0.elim fun I1 Y1=>Y1.elim fun r1 q1=>?_;refine thn (hb pins s1 σ H1 _ I1 q1) fun u s2 Y2=>Y2.elim fun y Y3=>Y3.elim fun H2 Y4=>Y4.elim fun I2 Y5=>Y5.elim fun r2 q2=>?_;exact hf v u s2 x y H2 I2 r1 r2 q2
theorem aF{op:Operator}{r:R2}(ho:cR X (binaryOp op) r)(ha:PE X a ta)(hb:PE X b tb):PE X (.BinOp a op b pos) (CN r ta tb):=by
 intro pins s σ H Q I h;exact wpAny_BinOp (Hm ha hb I h fun v u s2 x y H2 I2 rx ry q=>ho pins s2 σ H2 x y v u Q I2 rx ry q)
theorem qU{op:UnaryOp}{r:V->Hp->VK->Prop}(ho:Hl X (unaryOp op) r)(ha:PE X a ta):PE X (.UnaryOp op a pos) (YX r ta):=by
 intro pins s σ H Q I h;exact UnaryOp_ (thn (ha pins s σ H _ I h) fun v s1 Y6=>Y6.elim fun x Y7=>Y7.elim fun H1 Y8=>Y8.elim fun I1 Y9=>Y9.elim fun r1 q1=>ho pins s1 σ H1 x v Q I1 r1 q1)
theorem CO{f:Value->Value->Sem Value}{C:Int->Int->Prop}{g:Int->Int->Int}
 (rule:∀(i j:Int) (t u:Tok) (s:Shared) (Q:VP) (E:VP),C i j->Q (.int (g i j) s.toks) { s with toks:=s.toks+1 }->wpAny (model X.prog X.w) X.A (f (.int i t) (.int j u)) Q E s) :
 cR X f (rI C fun i j=>.int (g i j)):=by
 intro pins s σ H x y v u Q I rx ry h;obtain⟨i,j,rfl,rfl,hc,q⟩:=h;obtain⟨t,rfl⟩:=rx;obtain⟨t',rfl⟩:=ry;exact rule i j t t' s _ _ hc ⟨.int (g i j),H,I.tok _,⟨_,rfl⟩,q⟩
theorem OI{f:Value->Value->Sem Value}{g:Int->Int->Int}
 (rule:∀(i j:Int) (t u:Tok) (s:Shared) (Q:VP) (E:VP),Q (.int (g i j) s.toks) { s with toks:=s.toks+1 }->wpAny (model X.prog X.w) X.A (f (.int i t) (.int j u)) Q E s) :
 cR X f (tJ fun i j=>.int (g i j)):=by
 intro pins s σ H x y v u Q I rx ry h;obtain⟨i,j,rfl,rfl,q⟩:=h;obtain⟨t,rfl⟩:=rx;obtain⟨t',rfl⟩:=ry;exact rule i j t t' s _ _ ⟨.int (g i j),H,I.tok _,⟨_,rfl⟩,q⟩
theorem Hn{f:Value->Value->Sem Value}{g:Int->Int->Bool}
 (rule:∀(i j:Int) (t u:Tok) (s:Shared) (Q:VP) (E:VP),Q (.bool (g i j)) s->wpAny (model X.prog X.w) X.A (f (.int i t) (.int j u)) Q E s) :
 cR X f (tJ fun i j=>.bl (g i j)):=by
 intro pins s σ H x y v u Q I rx ry h;obtain⟨i,j,rfl,rfl,q⟩:=h;obtain⟨t,rfl⟩:=rx;obtain⟨t',rfl⟩:=ry;exact rule i j t t' s _ _ ⟨.bl (g i j),H,I,rfl,q⟩
def Za(i j:Int):Prop:=0<j/\j<1073741824
def Zb(i j:Int):Prop:=0<=j/\j<=1000000/\i.natAbs<2 ^ 64
def Ho(i j:Int):Prop:=(-(2 ^ 64)<i/\i<2 ^ 64)\/(-(2 ^ 64)<j/\j<2 ^ 64)
theorem Ho.ok{i j:Int}(h:Ho i j):IntMulOk i j:=by
 rcases h with⟨h1,h2⟩ | ⟨h1,h2⟩
 . exact .of_left (intBits_le_64 h1 h2)
 . exact .of_right (intBits_le_64 h1 h2)
theorem dH:cR X (binaryOp .Add) (tJ fun i j=>.int (i+j)):=OI fun _ _ _ _ _ _ _ q=>add_int q
theorem CP:cR X (binaryOp .Sub) (tJ fun i j=>.int (i - j)):=OI fun _ _ _ _ _ _ _ q=>sub_int q
theorem wb:cR X (binaryOp .Mult) (rI Ho fun i j=>.int (i * j)):=CO fun _ _ _ _ _ _ _ hc q=>mul_int q hc.ok
theorem iA:cR X (binaryOp .FloorDiv) (rI Za fun i j=>.int (i / j)):=CO fun i j _ _ _ _ _ hc q=>by
 have h1:(0:Int)<j:=hc.1;have h2:j<1073741824:=hc.2;exact floordiv_int (by omega) (by rw[Int.fdiv_eq_ediv_of_nonneg i (by omega)];exact q) (.inl (PyProof.noPylong_small (by omega)))
theorem cz:cR X (binaryOp .Mod) (rI (fun _ j=>0<j) fun i j=>.int (i % j)):=CO fun i j _ _ _ _ _ hc q=>by
 have h1:(0:Int)<j:=hc;exact mod_int' (by omega) (by rw[Int.fmod_eq_emod_of_nonneg i (by omega)];exact q)
theorem Hq:cR X (binaryOp .Pow) (rI Zb fun i j=>.int (i ^ j.toNat)):=CO fun _ _ _ _ _ _ _ hc q=>pow_int_small hc.1 hc.2.1 hc.2.2 q
theorem Zc{f:Value->Sem Value}{g:Int->Int}
 (rule:∀(i:Int) (t:Tok) (s:Shared) (Q:VP) (E:VP),Q (.int (g i) s.toks) { s with toks:=s.toks+1 }->wpAny (model X.prog X.w) X.A (f (.int i t)) Q E s) :
 Hl X f (rU fun i=>.int (g i)):=by
 intro pins s σ H x v Q I rx h;obtain⟨i,rfl,q⟩:=h;obtain⟨t,rfl⟩:=rx;exact rule i t s _ _ ⟨.int (g i),H,I.tok _,⟨_,rfl⟩,q⟩
theorem qV:Hl X (unaryOp .USub) (rU fun i=>.int (-i)):=Zc fun _ _ _ _ _ q=>neg_int q
end
def OJ:V->V->Bool
 | .non,.non=>true | .non,.int _=>true | .int _,.non=>true | .non,.bl _=>true | .bl _,.non=>true | .non,.str _=>true | .str _,.non=>true
 | .int _,.int _=>true | .bl _,.bl _=>true | .str _,.str _=>true | .byt _,.byt _=>true
 | .int _,.str _=>true | .str _,.int _=>true | .bl _,.str _=>true | .str _,.bl _=>true
 | _,_=>false
def Zd:R2:=fun x y H Q=>OJ x y=true/\Q (.bl (decide (x=y))) H
def Ze:R2:=fun x y H Q=>OJ x y=true/\Q (.bl (!decide (x=y))) H
theorem OL{i j:Int}:decide (V.int i=V.int j)=(i == j):=by
 rw[Ca];simp
theorem OM{i j:Bool}:decide (V.bl i=V.bl j)=(i == j):=by
 rw[Ca];simp
theorem ON{i j:Str}:decide (V.str i=V.str j)=(i == j):=by
 rw[Ca];simp
theorem OO{i j:Array UInt8}:decide (V.byt i=V.byt j)=(i.toList == j.toList):=by
 rw[Ca];cases i;cases j;simp
section
variable {X:Cx}{a b c:Expr}{ta tb tc:TE}{pos:Pos}
theorem cS{pins:Po}{σ:St}{H:Hp}{s:Shared}{Q:VK}{k k':Bool}(I:Inv X pins σ H s)(q:Q (.bl k) H)(e:k=k'):EP X pins σ Q (.bool k') s:=by
 subst e;exact⟨.bl k,H,I,rfl,q⟩
theorem eV:cR X (compareOp .Eq) Zd:=by
 intro pins s σ H x y v u Q I rx ry h;obtain⟨hs,q⟩:=h;cases x with
 | non=>
  cases rx;cases y with
  | non=>cases ry;exact PySem.EqNone.eq_none_none (cS I q (by simp))
  | bl j=>cases ry;exact PySem.EqNone.eq_none_bool (cS I q (by simp))
  | int j=>obtain⟨t',rfl⟩:=ry;exact PySem.EqNone.eq_none_int (cS I q (by simp))
  | str j=>obtain⟨t',rfl⟩:=ry;exact PySem.EqNone.eq_none_str (cS I q (by simp))
  | _=>exact absurd (show false=true from hs) cK
 | bl i=>
  cases rx;cases y with
  | non=>cases ry;exact PySem.EqNone.eq_bool_none (cS I q (by simp))
  | bl j=>cases ry;exact eq_bool (cS I q OM)
  | str j=>obtain⟨t',rfl⟩:=ry;exact PySem.EqMixed.eq_bool_str (cS I q (by simp))
  | _=>exact absurd (show false=true from hs) cK
 | int i=>
  obtain⟨t,rfl⟩:=rx;cases y with
  | non=>cases ry;exact PySem.EqNone.eq_int_none (cS I q (by simp))
  | int j=>obtain⟨t',rfl⟩:=ry;exact eq_int (cS I q OL)
  | str j=>obtain⟨t',rfl⟩:=ry;exact PySem.EqMixed.eq_int_str (cS I q (by simp))
  | _=>exact absurd (show false=true from hs) cK
 | str i=>
  obtain⟨t,rfl⟩:=rx;cases y with
  | non=>cases ry;exact PySem.EqNone.eq_str_none (cS I q (by simp))
  | bl j=>cases ry;exact PySem.EqMixed.eq_str_bool (cS I q (by simp))
  | int j=>obtain⟨t',rfl⟩:=ry;exact PySem.EqMixed.eq_str_int (cS I q (by simp))
  | str j=>obtain⟨t',rfl⟩:=ry;exact eq_str (cS I q ON)
  | _=>exact absurd (show false=true from hs) cK
 | byt i=>
  obtain⟨t,rfl⟩:=rx;cases y with
  | byt j=>obtain⟨t',rfl⟩:=ry;exact PySem.W.eq_bytes (cS I q OO)
  | _=>exact absurd (show false=true from hs) cK
 | _=>cases y<;>exact absurd (show false=true from hs) cK
theorem yM:cR X (compareOp .NotEq) Ze:=by
 intro pins s σ H x y v u Q I rx ry h;obtain⟨hs,q⟩:=h;cases x with
 | non=>
  cases rx;cases y with
  | non=>cases ry;exact PySem.EqNone.ne_none_none (cS I q (by simp))
  | bl j=>cases ry;exact PySem.EqNone.ne_none_bool (cS I q (by simp))
  | int j=>obtain⟨t',rfl⟩:=ry;exact PySem.EqNone.ne_none_int (cS I q (by simp))
  | str j=>obtain⟨t',rfl⟩:=ry;exact PySem.EqNone.ne_none_str (cS I q (by simp))
  | _=>exact absurd (show false=true from hs) cK
 | bl i=>
  cases rx;cases y with
  | non=>cases ry;exact PySem.EqNone.ne_bool_none (cS I q (by simp))
  | bl j=>cases ry;exact ne_bool (cS I q (fb not OM))
  | str j=>obtain⟨t',rfl⟩:=ry;exact PySem.EqMixed.ne_bool_str (cS I q (by simp))
  | _=>exact absurd (show false=true from hs) cK
 | int i=>
  obtain⟨t,rfl⟩:=rx;cases y with
  | non=>cases ry;exact PySem.EqNone.ne_int_none (cS I q (by simp))
  | int j=>obtain⟨t',rfl⟩:=ry;exact ne_int (cS I q (fb not OL))
  | str j=>obtain⟨t',rfl⟩:=ry;exact PySem.EqMixed.ne_int_str (cS I q (by simp))
  | _=>exact absurd (show false=true from hs) cK
 | str i=>
  obtain⟨t,rfl⟩:=rx;cases y with
  | non=>cases ry;exact PySem.EqNone.ne_str_none (cS I q (by simp))
  | bl j=>cases ry;exact PySem.EqMixed.ne_str_bool (cS I q (by simp))
  | int j=>obtain⟨t',rfl⟩:=ry;exact PySem.EqMixed.ne_str_int (cS I q (by simp))
  | str j=>obtain⟨t',rfl⟩:=ry;exact ne_str (cS I q (fb not ON))
  | _=>exact absurd (show false=true from hs) cK
 | byt i=>
  obtain⟨t,rfl⟩:=rx;cases y with
  | byt j=>obtain⟨t',rfl⟩:=ry;exact PySem.W.ne_bytes (cS I q (fb not OO))
  | _=>exact absurd (show false=true from hs) cK
 | _=>cases y<;>exact absurd (show false=true from hs) cK
theorem yN:cR X (compareOp .Lt) (tJ fun i j=>.bl (decide (i<j))):=Hn fun _ _ _ _ _ _ _ q=>lt_int q
theorem Zf:cR X (compareOp .LtE) (tJ fun i j=>.bl (decide (i<=j))):=Hn fun _ _ _ _ _ _ _ q=>le_int q
theorem OP:cR X (compareOp .Gt) (tJ fun i j=>.bl (decide (j<i))):=Hn fun _ _ _ _ _ _ _ q=>gt_int q
theorem Zg:cR X (compareOp .Is) (fun x y H Q=>y=.non/\Q (.bl (decide (x=.non))) H):=by
 intro pins s σ H x y v u Q I rx ry h;obtain⟨rfl,q⟩:=h;cases ry;refine is_none_gen (cS I q ?_);cases x<;>first
  | (cases rx;rfl)
  | (obtain⟨t,rfl⟩:=rx;rfl)
theorem Zh:cR X (compareOp .IsNot) (fun x y H Q=>y=.non/\Q (.bl (!decide (x=.non))) H):=by
 intro pins s σ H x y v u Q I rx ry h;obtain⟨rfl,q⟩:=h;cases ry;refine isnot_none_gen (cS I q ?_);cases x<;>first
  | (cases rx;rfl)
  | (obtain⟨t,rfl⟩:=rx;rfl)
theorem bE(b:Expr){op:CmpOp}(h:op≠.In:=by decide)(h2:op≠.NotIn:=by decide):behindInMarks op b=false:=by
 have e1:(op == CmpOp.In)=false:=by cases op<;>first | rfl | exact absurd rfl h
 have e2:(op == CmpOp.NotIn)=false:=by cases op<;>first | rfl | exact absurd rfl h2
 cases b<;>simp[behindInMarks,e1,e2]
theorem mG{op:CmpOp}{r:R2}(ho:cR X (compareOp op) r)(ha:PE X a ta)(hb:PE X b tb)(hm:behindInMarks op b=false):PE X (.Compare a [op] [b] pos) (CN r ta tb):=by
 intro pins s σ H Q I h;exact wpAny_Compare1 (Hm ha hb I h fun v u s2 x y H2 I2 rx ry q=>ho pins s2 σ H2 x y v u Q I2 rx ry q) hm
def Zi(t:TE):TT:=fun σ H Q=>t σ H fun x H'=>∃k,x=.bl k/\Q k H'
theorem bM{op:CmpOp}{r:R2}(ho:cR X (compareOp op) r)(ha:PE X a ta)(hb:PE X b tb)(hm:behindInMarks op b=false):PT X (.Compare a [op] [b] pos) (Zi (CN r ta tb)):=by
 intro pins s σ H Q I h;refine aB9 (thn (ha pins s σ H _ I h) fun v s1 Zj=>Zj.elim fun x Zk=>Zk.elim fun H1 Zl=>Zl.elim fun I1 Zm=>Zm.elim fun r1 q1=>thn (hb pins s1 σ H1 _ I1 q1) fun u s2 Zn=>Zn.elim fun y Zo=>Zo.elim fun H2 Zp=>Zp.elim fun I2 Zq=>Zq.elim fun r2 q2=>
  thn (ho pins s2 σ H2 x y v u _ I2 r1 r2 q2) fun c s3 Zr=>Zr.elim fun z Zs=>Zs.elim fun H3 Zt=>Zt.elim fun I3 Zu=>Zu.elim fun r3 Zv=>Zv.elim fun k Zw=>Zw.elim fun e q3=>?_) hm
 subst e;cases r3;exact yk ⟨H3,I3,q3⟩
theorem yO:(sizeLine:Nat)<2 ^ 63:=by rw[yp];decide
theorem yP:cR X (binaryOp .Add) (fun x y H Q=>∃i j,x=.str i/\y=.str j/\i.length+j.length<=sizeLine/\Q (.str (i++j)) H):=by
 intro pins s σ H x y v u Q I rx ry h;obtain⟨i,j,rfl,rfl,hz,q⟩:=h;obtain⟨t,rfl⟩:=rx;obtain⟨t',rfl⟩:=ry;exact add_str (fun t' tk=>⟨.str (i++j),H,I.tok _,⟨_,rfl⟩,q⟩) hz
theorem vals1{x:V}{us:Lw}(r:aQ [x] us):∃u,us=[u]/\RelV x u:=by
 cases r with
 | cons r1 r2=>cases r2;exact⟨_,rfl,r1⟩
theorem vals2{x y:V}{us:Lw}(r:aQ [x,y] us):∃u w',us=[u,w']/\RelV x u/\RelV y w':=by
 cases r with
 | cons r1 r2=>
  cases r2 with
  | cons r3 r4=>cases r4;exact⟨_,_,rfl,r1,r3⟩
theorem Zx(hc:X.calm=true):fv X (.builtin "min") (fun xs H Q=>∃i j,xs=[.int i,.int j]/\Q (.int (if j<i then j else i)) H):=by
 intro pins s σ H xs us Q I r h;obtain⟨i,j,rfl,q⟩:=h;obtain⟨u,w',rfl,⟨t,rfl⟩,⟨t',rfl⟩⟩:=vals2 r;refine min_two_ints (I.ok.hd hc) fun h' tk k=>⟨_,H,I.kept k,?_,q⟩
 by_cases hj:j<i
 . rw[aq hj,aq hj];exact⟨_,rfl⟩
 . rw[ai hj,ai hj];exact⟨_,rfl⟩
theorem Zy:fv X (.type "int") (fun xs H Q=>(∃i,xs=[.int i]/\Q (.int i) H)\/∃k,xs=[.bl k]/\Q (.int (if k then 1 else 0)) H):=by
 intro pins s σ H xs us Q I r h
 rcases h with⟨i,rfl,q⟩ | ⟨k,rfl,q⟩
 . obtain⟨u,rfl,t,rfl⟩:=vals1 r;exact call_int_int ⟨.int i,H,I,⟨_,rfl⟩,q⟩
 . obtain⟨u,rfl,r1⟩:=vals1 r;cases r1;exact call_int_bool ⟨.int (if k then 1 else 0),H,I.tok _,⟨_,rfl⟩,q⟩
theorem Zz:fv X (.type "str") (fun xs H Q=>∃i,xs=[.int i]/\i.natAbs.log2<1920/\Q (.str (toString i)) H):=by
 intro pins s σ H xs us Q I r h;obtain⟨i,rfl,hz,q⟩:=h;obtain⟨u,rfl,t,rfl⟩:=vals1 r;exact PySem.P.str_of_int hz ⟨.str _,H,I.tok _,⟨_,rfl⟩,q⟩
end
structure tK(h:Heap)(x dx C:Addr)(mA:Mv):Prop where
 obj:h.get? x=some (PySem.W.instObj C dx)
 ns:h.Ns1 dx mA
 ne:dx≠x
theorem ZA{h:Heap}{dx:Addr}{mA:Mv}(n:h.Ns1 dx mA):∃od,h.get? dx=some od/\∀name,PySem.W.lookIn name od=some (mA name):=by
 obtain⟨o,es,ep,ho,hd,hk,_,hm⟩:=n;refine⟨o,ho,fun name=>?_⟩;have e:=hm name;unfold nsFind findBy at e;rw[←Array.find?_toList]at e;unfold PySem.W.lookIn;rw[hd];dsimp only;split
 . rename_i y q;rw[q]at e;exact fb some e
 . rename_i q;rw[q]at e;have a:es.toList.any (·.refKey)=false:=by
    rw[List.any_eq_false];intro y hy;obtain⟨z,t,kB⟩:=hk y (Array.mem_toList_iff.mp hy);simp[DictEntry.refKey,kB]
   have a':¬es.toList.any (·.refKey)=true:=by rw[a];exact cK
   rw[ai a'];exact fb some e
theorem tK.look{h:Heap}{x dx C:Addr}{mA:Mv}(I:tK h x dx C mA):∃od,PySem.W.InstAt h x (PySem.W.instObj C dx) C (some od)/\∀name,PySem.W.lookIn name od=some (mA name):=
 (ZA I.ns).elim fun od ZB=>ZB.elim fun ho hl=>⟨od,⟨I.obj,rfl,rfl,ho⟩,hl⟩
section
variable {prog:Program}{w:World}{A:Around}{E:VP}{s:Shared}{K:Fg}{x dx C f:Addr}{mA:Mv}{name:Str}{v:Value}
theorem ZC{expr:Bool}{Q:VP}(X:K.In s.heap)(I:tK s.heap x dx C mA)(hg:PySem.W.plainGet K C name=true)(hh:PySem.W.hasDictIn K C=true)
 (ha:PySem.W.findIn K (.ref C) name=some none) (hv:mA name=some v) (yQ:PySem.W.handedIn v=true) (h:Q v { s with toks:=s.toks+1 }) :
 wpAny (model prog w) A (getAttr (.ref x) name expr) Q E s:=by
 obtain⟨od,J,hl⟩:=I.look;exact PySem.W.get_value X J (VM hg).1 (PySem.W.findObj_own hh ha rfl (by rw[hl,hv])) yQ h
theorem ZD{pl:Sem Bool}{Q:Value×Lw->Shared->Prop}(X:K.In s.heap)(I:tK s.heap x dx C mA)(hg:PySem.W.plainGet K C name=true)
 (hf:PySem.W.findIn K (.ref C) name=some (some (.ref f))) (ht:PySem.W.isFn K (.ref f)=true) (hv:mA name=none) (h:Q (.ref f,[.ref x]) s) :
 wpAny (model prog w) A (getMethod (.ref x) name pl) Q E s:=by
 obtain⟨od,J,hl⟩:=I.look;exact PySem.W.method_fn X J (VM hg).1 (VM hg).2 hf (kf.mp ht) (by show(PySem.W.lookIn name od).map (·.isSome)=some false;rw[hl,hv];rfl) h
theorem ZE{ns:Ls}{Q:Unit->Shared->Prop}(X:K.In s.heap)(I:tK s.heap x dx C mA)
 (hs:PySem.W.findIn K (.ref C) "__setattr__"=some (some (.builtin "object.__setattr__"))) (hp:PySem.W.plainOver K C=true) (ht:PySem.W.takerIn K C name=some none) (hh:PySem.W.hasDictIn K C=true)
 (hw:PySem.Within mA ns) (hsz:ns.length<=sizeLine)
 (h:∀h',tK h' x dx C (fun y=>if y=name then some v else mA y)->Heap.SameBut dx s.heap h'->Q () { s with heap:=h',toks:=s.toks+2 }) :
 wpAny (model prog w) A (setAttr (.ref x) name v) Q E s:=by
 obtain⟨od,J,hl⟩:=I.look;refine PySem.W.set_plain X J hs (PySem.W.osa_open (s:={ s with toks:=s.toks+1 }) (r:=none) X J hp ht fun b=>?_);obtain⟨cd,hc,qO⟩:=PySem.W.any_some hh;have hx:s.heap.get? x=some ⟨.ref C,some dx,.plain,#[]⟩:=I.obj;refine af (au (af (af (wpAny_loadPart hx (af (PySem.W.Looks.here (s:={ s with toks:=s.toks+1 }) (PySem.W.looks_clsIn X hc) ?_))))));rw[qO];refine au (a:=some dx) (af (au (af ?_)));refine wpAny_nsSet1 (s:={ s with toks:=s.toks+1 }) I.ns fun h' yR tF=>?_;obtain⟨oD,esD,epD,ZF,ZG,ZH⟩:=yR.count (PySem.Within.cons name v hw);refine af (wpAny_lookBehind ZF (by rw[ZG];exact pastItsLine_dict (ce ZH (by rw[bO];omega))) ?_);exact au (h _ ⟨(tF.2 _ (fY I.ne)).trans I.obj,yR,I.ne⟩ tF)
theorem ZI{R:Result->Shared->Prop}{vs:Lw}{kw:List (Str×Value)}(X:K.In s.heap)(hm:PySem.W.makesIn K C=true)
 (hi:PySem.W.findIn K (.ref C) "__init__"=some (some (.ref f))) (hf:PySem.W.typeIn K (.ref f)=some (.type "function"))
 (h:codeAny (model prog w) (A.under (.builtin "type.__call__" ⟨.ref C::vs,kw⟩)) (.call (.ref f) ⟨.ref (s.heap.objs.size+1)::vs,kw⟩) (PySem.W.InitBack (s.heap.objs.size+1) R)
  { s with heap:=(s.heap.push PySem.W.emptyDict).push (PySem.W.instObj C s.heap.objs.size) }) :
 codeAny (model prog w) A (.call (.ref C) ⟨vs,kw⟩) R s:=by
 obtain⟨hh,g,d,t,os⟩:=s;exact PySem.W.make_core (PySem.W.makes_of X hm) (PySem.W.looks_findIn X hi) (fun self=>PySem.W.bind_fn X self hf) (.inl rfl) h
end
def aA(f:Str)(v:V):List (Str×V)->List (Str×V)
 | []=>[(f,v)]
 | (g,x)::r=>if g=f then(g,v)::r else(g,x)::aA f v r
theorem cp(f g:Str)(v:V):∀fs:List (Str×V),(aA f v fs).lookup g=if g=f then some v else fs.lookup g
 | []=>by
  show List.lookup g [(f,v)]=_
  by_cases h:g=f
  . have hb:(g == f)=true:=kf.mpr h;simp only[List.lookup,hb,aq h]
  . have hb:(g == f)=false:=yi.mpr h;simp only[List.lookup,hb,ai h]
 | (k,x)::r=>by
  have ih:=cp f g v r;rw[show aA f v ((k,x)::r)=(if k=f then(k,v)::r else(k,x)::aA f v r) from rfl]
  by_cases hk:k=f
  . rw[aq hk]
    by_cases h:g=k
    . have hb:(g == k)=true:=kf.mpr h;simp only[List.lookup,hb,aq (h.trans hk)]
    . have hb:(g == k)=false:=yi.mpr h;simp only[List.lookup,hb,ai (fun e:g=f=>h (e.trans hk.symm))]
  . rw[ai hk]
    by_cases h:g=k
    . have hb:(g == k)=true:=kf.mpr h;simp only[List.lookup,hb,ai (fun e:g=f=>hk (h.symm.trans e))]
    . have hb:(g == k)=false:=yi.mpr h;simp only[List.lookup,hb];exact ih
theorem Hr(f:Str)(v:V):∀fs:List (Str×V),f∈(aA f v fs).map (·.1)/\∀g,g∈fs.map (·.1)->g∈(aA f v fs).map (·.1)
 | []=>⟨by simp[aA],fun g h=>by simp at h⟩
 | (k,x)::r=>by
  obtain⟨i1,i2⟩:=Hr f v r;rw[show aA f v ((k,x)::r)=(if k=f then(k,v)::r else(k,x)::aA f v r) from rfl]
  by_cases hk:k=f
  . rw[aq hk];subst hk;exact⟨by simp,fun g h=>by simpa using h⟩
  . rw[ai hk];refine⟨?_,fun g h=>?_⟩
    . rw[bL];exact bJ _ i1
    . rw[bL]at h ⊢
      rcases aX.mp h with e | e
      . exact aX.mpr (.inl e)
      . exact bJ _ (i2 g e)
theorem Hs(f:Str)(v:V):∀fs:List (Str×V),(aA f v fs).length<=fs.length+1
 | []=>by simp[aA]
 | (k,x)::r=>by
  have ih:=Hs f v r;rw[show aA f v ((k,x)::r)=(if k=f then(k,v)::r else(k,x)::aA f v r) from rfl]
  by_cases hk:k=f
  . rw[aq hk,bO,bO];omega
  . rw[ai hk,bO,bO];omega
theorem f8.some_of{v:V}{o:Option Value}(r:f8 (some v) o):∃u,o=some u/\RelV v u:=by
 cases o with
 | none=>exact(show False from r).elim
 | some u=>exact⟨u,rfl,r⟩
theorem f8.none_of{o:Option Value}(r:f8 none o):o=none:=by
 cases o with
 | none=>rfl
 | some u=>exact(show False from r).elim
theorem ZJ{v:V}{u:Value}(r:RelV v u):PySem.W.handedIn u=true:=by
 cases v with
 | non=>cases (show u=Value.none from r);rfl
 | bl b=>cases (show u=Value.bool b from r);rfl
 | int i=>obtain⟨t,e⟩:=(show∃t,u=Value.int i t from r);cases e;rfl
 | str x=>obtain⟨t,e⟩:=(show∃t,u=Value.str x t from r);cases e;rfl
 | byt b=>obtain⟨t,e⟩:=(show∃t,u=Value.bytes b t from r);cases e;rfl
 | flt b=>obtain⟨t,e⟩:=(show∃t,u=Value.float b t from r);cases e;rfl
 | ref a=>cases (show u=Value.ref a from r);rfl
 | ty n=>cases (show u=Value.type n from r);rfl
section
variable {P:Program}{w:World}{H H':Hp}{h h':Heap}{a C dx:Addr}{fs bC:List (Str×V)}
theorem Ht(hok:bY P w H h)(e:H a=some (.ins C dx fs)):∃mA,tK h a dx C mA/\(∀f,f8 (fs.lookup f) (mA f))/\PySem.Within mA (fs.map (·.1))/\fs.length<=1000/\H dx=some (.own a):=by
 obtain⟨d,z,ne,ob,mA,n,r,q⟩:=(show b8 P w H h a (.ins C dx fs) from hok a _ e);exact⟨mA,⟨ob,n,ne⟩,r,q,z,d⟩
end
structure jH(K:Fg)(C:Addr):Prop where
 pg:PySem.W.plainGet K C Str.empty=true
 hd:PySem.W.hasDictIn K C=true
 po:PySem.W.plainOver K C=true
 sa:PySem.W.findIn K (.ref C) "__setattr__"=some (some (.builtin "object.__setattr__"))
theorem jH.get{K:Fg}{C:Addr}(c:jH K C)(f:Str):PySem.W.plainGet K C f=true:=c.pg
def fH(K:Fg)(C:Addr)(f:Str):Prop:=PySem.W.findIn K (.ref C) f=some none
theorem fH.taker{K:Fg}{C:Addr}{f:Str}(n:fH K C f):PySem.W.takerIn K C f=some none:=by
 unfold PySem.W.takerIn;rw[show PySem.W.findIn K (.ref C) f=some none from n];rfl
structure lJ(K:Fg)(C:Addr)(m:Str)(f:Addr):Prop where
 at_:PySem.W.findIn K (.ref C) m=some (some (.ref f))
 fn:PySem.W.isFn K (.ref f)=true
 kp:PySem.W.keepIn K (.ref f)=true
section
variable {X:Cx}{pins:Po}{σ:St}{H:Hp}{s:Shared}{a C dx:Addr}{fs:List (Str×V)} {f:Str}{v:V}{A:Around}{E:VP}
theorem ZK{b:Bool}{Q:VP}(I:Inv X pins σ H s)(e:H a=some (.ins C dx fs))(c:jH X.K C)(n:fH X.K C f)(l:fs.lookup f=some v)
 (h:∀u s',Inv X pins σ H s'->RelV v u->Q u s'):wpAny (model X.prog X.w) A (getAttr (.ref a) f b) Q E s:=by
 obtain⟨mA,O,r,_,_,_⟩:=Ht I.hok e;obtain⟨u,hu,ru⟩:=f8.some_of (v:=v) (o:=mA f) (by rw[←l];exact r f);exact ZC I.kIn O (c.get f) c.hd n hu (ZJ ru) (h u _ (I.tok _) ru)
theorem OQ{m:Str}{g:Addr}{pl:Sem Bool}{Q:Value×Lw->Shared->Prop}(I:Inv X pins σ H s)(e:H a=some (.ins C dx fs))(c:jH X.K C)(k:lJ X.K C m g)(l:fs.lookup m=none)
 (h:Q (.ref g,[.ref a]) s):wpAny (model X.prog X.w) A (getMethod (.ref a) m pl) Q E s:=by
 obtain⟨mA,O,r,_,_,_⟩:=Ht I.hok e;have hn:mA m=none:=f8.none_of (by rw[←l];exact r m);exact ZD I.kIn O (c.get m) k.at_ k.fn hn h
theorem ZL{y:V}{u:Value}{Q:Unit->Shared->Prop}(I:Inv X pins σ H s)(e:H a=some (.ins C dx fs))(c:jH X.K C)(n:fH X.K C f)(hl:fs.length<1000)(ry:RelV y u)
 (h:∀s',Inv X pins σ (ah H a (.ins C dx (aA f y fs))) s'->Q () s'):wpAny (model X.prog X.w) A (setAttr (.ref a) f u) Q E s:=by
 obtain⟨mA,O,r,wi,_,ho⟩:=Ht I.hok e;have hz:(fs.map (·.1)).length<=sizeLine:=by rw[am,yp];omega
 refine ZE I.kIn O c.sa c.po n.taker c.hd wi hz fun h' O' sb=>h _ ?_;have hd:∃o,h'.get? dx=some o:=O'.ns.elim fun o ZM=>ZM.elim fun _ ZN=>ZN.elim fun _ ZO=>ZO.elim fun e' _=>⟨o,e'⟩;refine I.write (x:=a) (e:=dx) (by rw[e];exact True.intro) (.inr ho) (fun b q hb z=>(sb.2 b hb).trans z) hd ?_;refine⟨by rw[aV O.ne];exact ho,?_,O.ne,O'.obj,_,O'.ns,fun g=>?_,fun g hg=>?_⟩
 . have:=Hs f y fs;omega
 . show f8 ((aA f y fs).lookup g) (if g=f then some u else mA g);rw[cp]
   by_cases q:g=f
   . rw[aq q,aq q];exact ry
   . rw[ai q,ai q];exact r g
 . by_cases q:g=f
   . rw[q];exact(Hr f y fs).1
   . refine(Hr f y fs).2 g (wi g fun z=>hg ?_);show(if g=f then some u else mA g)=none;rw[ai q];exact z
theorem Inv.made(I:Inv X pins σ H s):Inv X pins σ (ah (ah H s.heap.objs.size (.own (s.heap.objs.size+1))) (s.heap.objs.size+1) (.ins C s.heap.objs.size []))
 { s with heap:=(s.heap.push PySem.W.emptyDict).push (PySem.W.instObj C s.heap.objs.size) }:=by
 have e1:(s.heap.push PySem.W.emptyDict).get? s.heap.objs.size=some PySem.W.emptyDict:=dW s.heap rfl;have e2:((s.heap.push PySem.W.emptyDict).push (PySem.W.instObj C s.heap.objs.size)).get? (s.heap.objs.size+1)=some (PySem.W.instObj C s.heap.objs.size):=by
  have:=dW (s.heap.push PySem.W.emptyDict) (o:=PySem.W.instObj C s.heap.objs.size) rfl
  rwa [sU]at this
 have e3:(s.heap.push PySem.W.emptyDict).Ns s.heap.objs.size (fun _=>none):=⟨PySem.W.emptyDict,#[],_,e1,rfl,(fun e he=>absurd he (by simp)),fun _=>rfl⟩;have I1:=I.laid (a:=s.heap.objs.size) (o:=.own (s.heap.objs.size+1)) (h':=s.heap.push PySem.W.emptyDict) (t':=s.toks) (fun b u q=>bR _ q) (aJ _) ⟨_,e1⟩;refine I1.laid (a:=s.heap.objs.size+1) (o:=.ins C s.heap.objs.size []) (t':=s.toks) (fun b u q=>bR _ q) (Cb (sU _ _)) ?_;have ne:s.heap.objs.size≠s.heap.objs.size+1:=cV (yq _);refine⟨by rw[aV ne,aI],dw _,ne,e2,fun _=>none,(Heap.Ns1.of_empty e3).at fun o q=>bR _ q,fun _=>True.intro,fun y hy=>absurd rfl hy⟩
theorem ZP{prog:Program}{w:World}{env:Env}{e:Expr}{f:Str}{pos:Pos}{s:Shared}{Q:VP}(hb:attributeBase e f env (eval e env)=eval e env)
 (h:wpAny (model prog w) A (eval e env) (fun o s₁=>wpAny (model prog w) A (getAttr o f true) Q E s₁) E s):wpAny (model prog w) A (eval (.Attribute e f pos) env) Q E s:=
 Attribute_any_ h (by rw[arm_eval_Attribute,hb])
end
def OR(K:Fg)(ta:TE)(f:Str):TE:=fun σ H Q=>ta σ H fun x H1=>∃a C dx fs v,x=.ref a/\H1 a=some (.ins C dx fs)/\jH K C/\fH K C f/\fs.lookup f=some v/\Q v H1
def ZQ(K:Fg)(ta tv:TE)(f:Str):TS:=fun D σ H=>tv σ H fun y H1=>ta σ H1 fun x H2=>∃a C dx fs,x=.ref a/\H2 a=some (.ins C dx fs)/\jH K C/\fH K C f/\fs.length<1000 /\
 D.nx σ (ah H2 a (.ins C dx (aA f y fs)))
section
variable {X:Cx}{o e value:Expr}{f:Str}{pos pos' wc:Pos}{ta tv:TE}
theorem cW(he:PE X e ta)(hb:attributeBase e f X.env (eval e X.env)=eval e X.env):PE X (.Attribute e f pos) (OR X.K ta f):=by
 intro pins s σ H Q I h;refine ZP hb (thn (he pins s σ H _ I h) fun u s1 ZR=>ZR.elim fun x ZS=>ZS.elim fun H1 ZT=>ZT.elim fun I1 ZU=>ZU.elim fun rx ZV=>ZV.elim fun a ZW=>ZW.elim fun C ZX=>ZX.elim fun dx ZY=>ZY.elim fun fs ZZ=>ZZ.elim fun v Z0=>Z0.elim fun ex Z1=>Z1.elim fun ea Z3=>Z3.elim fun c Z4=>Z4.elim fun n Z5=>Z5.elim fun l q=>?_);subst ex;obtain rfl:u=Value.ref a:=rx;exact ZK I1 ea c n l fun u' s2 I2 ru=>⟨v,H1,I2,ru,q⟩
theorem hJ(ha:PE X o ta)(hv:PE X value tv)(hs:swapsWith value (some (.Attribute o f pos')) pos.line X.env=pure false):PS X (.Assign [.Attribute o f pos'] value pos) (ZQ X.K ta tv f):=by
 intro pins s σ H D I h;refine plainObj_wpAny_Assign_Attribute (thn (hv pins s σ H _ I h) fun u s1 Z6=>Z6.elim fun y Z7=>Z7.elim fun H1 Z8=>Z8.elim fun I1 Z9=>Z9.elim fun ry q=>thn (ha pins s1 σ H1 _ I1 q) fun ov s2 aaa=>aaa.elim fun x aab=>aab.elim fun H2 aac=>aac.elim fun I2 aad=>aad.elim fun rx aae=>aae.elim fun a aaf=>aaf.elim fun C aag=>aag.elim fun dx aah=>aah.elim fun fs aai=>aai.elim fun ex aaj=>aaj.elim fun ea aak=>aak.elim fun c aal=>aal.elim fun n aam=>aam.elim fun l q2=>?_) hs;subst ex;obtain rfl:ov=Value.ref a:=rx;exact ZL I2 ea c n l ry fun s3 I3=>⟨σ,_,I3,q2⟩
end
section
variable {X:Cx}{pins:Po}{σ:St}{H:Hp}{s:Shared}{A:Around}{E:VP}{Q:VP}{c:Value}{b:Bool}
end
structure b9(k:Nat)(A:Around):Prop where
 hd:A.handled=none
 dp:A.depth+3 * k+5<recursionLimit
 un:A.units+16 * k+200<cLine
 gd:A.guards=some []
theorem b9.mono{j k:Nat}{A:Around}(r:b9 k A)(h:j<=k):b9 j A:=⟨r.hd,by have:=r.dp;omega,by have:=r.un;omega,r.gd⟩
theorem b9.deeper{k:Nat}{A:Around}(r:b9 (k+1) A)(env:Env):b9 k (A.deeper env):=
 ⟨r.hd,by have:=r.dp;show A.depth+1+3 * k+5<_;omega,by have:=r.un;show A.units+3+16 * k+200<_;omega,r.gd⟩
theorem b9.in1{k:Nat}{A:Around}(r:b9 (k+1) A):b9 k A.in1:=
 ⟨r.hd,by have:=r.dp;show A.depth+3 * k+5<_;omega,by have:=r.un;show A.units+1+16 * k+200<_;omega,r.gd⟩
theorem aan{A:Around}{C:Addr}{us:Lw}{kw:List (Str×Value)}:(A.under (.builtin "type.__call__" ⟨.ref C::us,kw⟩)).depth=A.depth+1:=by
 first | rfl | simp[Around.under,Code.weight,Code.isCreation,Code.isGuard,Code.isCaller,Code.frames,Code.isFrame,guardIds]
theorem aao{A:Around}{C:Addr}{us:Lw}{kw:List (Str×Value)}:(A.under (.builtin "type.__call__" ⟨.ref C::us,kw⟩)).units=A.units+1:=by
 first | rfl | simp[Around.under,Code.cUnits,Code.frames,Code.isFrame]
theorem aap{A:Around}{C:Addr}{us:Lw}{kw:List (Str×Value)}:(A.under (.builtin "type.__call__" ⟨.ref C::us,kw⟩)).guards=A.guards:=by
 first | rfl | simp[Around.under,pushGuards,Code.guards,Code.isGuard,guardIds]
theorem b9.make{k:Nat}{A:Around}(r:b9 (k+1) A)(C:Addr)(us:Lw)(kw:List (Str×Value)):b9 k (A.under (.builtin "type.__call__" ⟨.ref C::us,kw⟩)):=
 ⟨r.hd,by have:=r.dp;rw[aan];omega,by have:=r.un;rw[aao];omega,aap.trans r.gd⟩
theorem b9.depth{k:Nat}{A:Around}(r:b9 k A):A.depth<recursionLimit:=by have:=r.dp;omega
theorem b9.units{k:Nat}{A:Around}(r:b9 k A):A.units+64<cLine:=by have:=r.un;omega
def fh:TA:=fun _ H Q=>Q [] H
def kC(ta:TE)(tr:TA):TA:=fun σ H Q=>ta σ H fun x H1=>tr σ H1 fun xs H2=>Q (x::xs) H2
section
variable {X:Cx}{e:Expr}{es:List Expr}{te:TE}{t:TA}{pos:Pos}
theorem ac:PA X [] fh:=fun _ _ _ _ H Q I h=>VN ⟨[],H,I,.nil,h⟩
theorem aa(ha:PE X e te)(hr:PA X es t)(hs:starEach (e::es) X.env=(false,eval e X.env)::starEach es X.env:=by rfl):PA X (e::es) (kC te t):=by
 intro pos pins s σ H Q I h;rw[hs];show wpAny _ _ (spliced ((false,eval e X.env)::backTo pos (starEach es X.env))) _ _ s;refine VO (thn (ha pins s σ H _ I h) fun u s1 aaq=>aaq.elim fun x aar=>aar.elim fun H1 aas=>aas.elim fun I1 aat=>aat.elim fun r1 q1=>?_);exact thn (hr pos pins s1 σ H1 _ I1 q1) fun us s2 aau=>aau.elim fun xs aav=>aav.elim fun H2 aaw=>aaw.elim fun I2 aax=>aax.elim fun r2 q2=>⟨x::xs,H2,I2,.cons r1 r2,q2⟩
def Hu(t:TA):TE:=fun σ H Q=>t σ H fun xs H1=>xs.length<=sizeLine/\∀p,H1 p=none->Q (.ref p) (ah H1 p (.tup xs))
def aay(t:TA):TE:=fun σ H Q=>t σ H fun xs H1=>xs.length<=sizeLine/\∀p,H1 p=none->Q (.ref p) (ah H1 p (.lst xs))
theorem OS{x1}(h:PA X es t):PE X (.Tuple es x1 pos) (Hu t):=by
 intro pins s σ H Q I hq;refine wpAny_Tuple_spliced (thn (h pos pins s σ H _ I hq) fun us s1 aaz=>aaz.elim fun xs aaA=>aaA.elim fun H1 aaB=>aaB.elim fun I1 aaC=>aaC.elim fun r aaD=>aaD.elim fun z q=>⟨by rw[←r.length];exact z,?_⟩);have hf:H1 s1.heap.objs.size=none:=I1.hok.fresh (aJ _);refine⟨.ref s1.heap.objs.size,ah H1 s1.heap.objs.size (.tup xs),I1.laid (t':=s1.toks) (fun b u e=>bR _ e) (aJ _) ?_,rfl,q _ hf⟩;exact⟨z,us,r,⟨_,dW _ rfl,rfl,_,rfl⟩⟩
theorem aaE(h:PA X es t):PE X (.List es pos) (aay t):=by
 intro pins s σ H Q I hq;refine wpAny_List_spliced (thn (h pos pins s σ H _ I hq) fun us s1 aaF=>aaF.elim fun xs aaG=>aaG.elim fun H1 aaH=>aaH.elim fun I1 aaI=>aaI.elim fun r aaJ=>aaJ.elim fun z q=>⟨by rw[←r.length];exact z,?_⟩);have hf:H1 s1.heap.objs.size=none:=I1.hok.fresh (aJ _);refine⟨.ref s1.heap.objs.size,ah H1 s1.heap.objs.size (.lst xs),I1.laid (t':=s1.toks) (fun b u e=>bR _ e) (aJ _) ?_,rfl,q _ hf⟩;exact⟨z,us,0,r,dW _ rfl⟩
end
abbrev Sp:=Lv->Hp->VK->XK->Prop
abbrev hU:=List Env->Hp->Shared->XK->Value->Shared->Prop
structure kD(P:Program)(w:World)(K:Fg)(mg:Mv)(base:Heap)(A:Around)(outer:List Env)(s:Shared)(H:Hp):Prop where
 frames:A.frames=some outer
 mod:Mod K mg base
 bs:∀b o,base.get? b=some o->s.heap.get? b=some o/\H b=none
 bsz:base.objs.size<=s.heap.objs.size
 funs:s.heap.FunFrames base outer
 frf:∀b∈cn outer,H b=none
 hok:bY P w H s.heap
 bare:AllBare s.gens
def CE(outer:List Env)(P:Program)(w:World)(H:Hp)(s:Shared)(Q:VK)(u:Value)(s':Shared):Prop:=
 ∃v H',s'.os=s.os/\AllBare s'.gens/\Un (cn outer) [] H H' s.heap s'.heap/\bY P w H' s'.heap/\RelV v u/\Q v H'
def CR(CX:hU)(outer:List Env)(P:Program)(w:World)(H:Hp)(s:Shared)(Q:VK)(E:XK)(r:Result)(s':Shared):Prop:=
 match r with
 | .ok (.ret u)=>CE outer P w H s Q u s'
 | .ok _=>False
 | .error e=>CX outer H s E e s'
structure aj(P:Program)(w:World)(K:Fg)(mg:Mv)(base:Heap)(CX:hU)(k:Nat)(f:Addr)(fd:Fy)(ps:Ls)(sp:Sp):Prop where
 len:∀vs H Q E,sp vs H Q E->vs.length=ps.length
 run:∀(A:Around) (outer:List Env) (s:Shared) (H:Hp) (args:Args) (us:Lw) (vs:Lv) (Q:VK) (E:XK),b9 k A->kD P w K mg base A outer s H->BindsTo s fd args (ps.zip us)->aQ vs us->sp vs H Q E ->
  codeAny (model P w) A (.call (.ref f) args) (CR CX outer P w H s Q E) s
theorem aj.mono{P:Program}{w:World}{K:Fg}{mg:Mv}{base:Heap}{CX:hU}{j k:Nat}{f:Addr}{fd:Fy}{ps:Ls}{sp:Sp}(F:aj P w K mg base CX j f fd ps sp)(h:j<=k) :
 aj P w K mg base CX k f fd ps sp:=⟨F.len,fun A outer s H args us vs Q E hr=>F.run A outer s H args us vs Q E (hr.mono h)⟩
theorem aj.imp{P:Program}{w:World}{K:Fg}{mg:Mv}{base:Heap}{CX:hU}{k:Nat}{f:Addr}{fd:Fy}{ps:Ls}{sp OT:Sp}(F:aj P w K mg base CX k f fd ps sp)
 (h:∀vs H Q E,OT vs H Q E->sp vs H Q E):aj P w K mg base CX k f fd ps OT:=
 ⟨fun vs H Q E q=>F.len vs H Q E (h _ _ _ _ q),fun A outer s H args us vs Q E hr he hb hv hs=>F.run A outer s H args us vs Q E hr he hb hv (h _ _ _ _ hs)⟩
theorem kD.make{P:Program}{w:World}{K:Fg}{mg:Mv}{base:Heap}{A:Around}{outer:List Env}{s:Shared}{H:Hp}(e:kD P w K mg base A outer s H)(C:Addr)(us:Lw)(kw:List (Str×Value)) :
 kD P w K mg base (A.under (.builtin "type.__call__" ⟨.ref C::us,kw⟩)) outer s H:=⟨by first | exact e.frames | (simpa [Around.under,Code.envs,Code.isFrame,pushEnvs]using e.frames),e.mod,e.bs,e.bsz,e.funs,e.frf,e.hok,e.bare⟩
theorem kD.in1{P:Program}{w:World}{K:Fg}{mg:Mv}{base:Heap}{A:Around}{outer:List Env}{s:Shared}{H:Hp}(e:kD P w K mg base A outer s H) :
 kD P w K mg base A.in1 outer s H:=⟨e.frames,e.mod,e.bs,e.bsz,e.funs,e.frf,e.hok,e.bare⟩
section
variable {X:Cx}{pins:Po}{σ:St}{H:Hp}{s s':Shared}
theorem Inv.env0(I:Inv X pins σ H s):kD X.prog X.w X.K X.mg X.base X.A X.stack s H:=
 ⟨I.ok.frames,I.ok.mod,I.bs,ce I.ok.bsz I.sz,I.stack,I.stkFree,I.hok,I.bare⟩
theorem Inv.after{Q:VK}{u:Value}(I:Inv X pins σ H s)(h:CE X.stack X.prog X.w H s Q u s'):EP X pins σ Q u s':=by
 obtain⟨v,H',os,bare,un,hok,r,q⟩:=h;obtain⟨hh,g,d,t,CQ⟩:=s';obtain rfl:CQ=s.os:=os;exact⟨v,H',I.call (h':=hh) (g':=g) (d':=d) (t':=t) (ch:=[]) un hok bare (fun b z=>absurd z (by simp)),r,q⟩
end
def OU(sp:Sp)(de:Lv)(E:XK)(t:TA):TE:=fun σ H Q=>t σ H fun vs H1=>sp (vs++de) H1 Q E
def OV(C:Addr)(m:Str)(sp:Sp)(de:Lv)(E:XK)(ta:TE)(t:TA):TE:=fun σ H Q=>ta σ H fun x H1=>∃a dx fs,x=.ref a/\H1 a=some (.ins C dx fs)/\fs.lookup m=none /\
 t σ H1 fun vs H2=>sp (x::(vs++de)) H2 Q E
def OW(C:Addr)(sp:Sp)(de:Lv)(E:XK)(t:TA):TE:=fun σ H Q=>t σ H fun vs H1=>∀x dx,H1 x=none->H1 dx=none->dx≠x ->
 sp (.ref x::(vs++de)) (ah (ah H1 dx (.own x)) x (.ins C dx [])) (fun v H2=>v=.non/\Q (.ref x) H2) E
def Binds(K:Fg)(fd:Fy)(ps:Ls)(ds:Lw):Prop:=
 ∀(s:Shared) (us:Lw),K.In s.heap->(us++ds).length=ps.length->BindsTo s fd ⟨us,[]⟩ (ps.zip (us++ds))
theorem Binds.all{K:Fg}{fd:Fy}{ps:Ls}(h:∀us:Lw,us.length=ps.length->bindArgs fd ⟨us,[]⟩=pure (ps.zip us)):Binds K fd ps []:=fun s us _ hl=>by
 rw[lq]at hl ⊢;exact .of_eq (h us hl)
def mH(CX:hU)(X:Cx)(E:XK):Prop:=∀(pins:Po) (σ:St) (H:Hp) (s:Shared) (e:Value) (s':Shared),Inv X pins σ H s->CX X.stack H s E e s'->X.xe e s'
section
variable {X:Cx}{CX:hU}{k:Nat}{f C:Addr}{fd:Fy}{ps:Ls}{sp:Sp}{de:Lv}{ds:Lw}{E:XK}{x m:Str}{p pos apos:Pos}{e o:Expr}{es:List Expr}{ta:TE}{t:TA}
theorem Hv{pins:Po}{σ:St}{H:Hp}{s:Shared}{Q:VK}{us:Lw}{vs:Lv}(F:aj X.prog X.w X.K X.mg X.base CX k f fd ps sp)(hr:b9 k X.A)(hb:Binds X.K fd ps ds)(hd:aQ de ds)(hx:mH CX X E)
 (I:Inv X pins σ H s) (r:aQ vs us) (h:sp (vs++de) H Q E):wpAny (model X.prog X.w) X.A (call (.ref f) us) (EP X pins σ Q) X.xe s:=by
 have r2:aQ (vs++de) (us++ds):=r.append hd;have hl:(us++ds).length=ps.length:=by rw[←r2.length];exact F.len _ _ _ _ h
 refine GL (oq (F.run X.A X.stack s H ⟨us,[]⟩ (us++ds) (vs++de) Q E hr I.env0 (hb s us I.kIn hl) r2 h) fun r s' hq=>?_);cases r with
 | error e=>exact hx pins σ H s e s' I hq
 | ok fl=>
  cases fl with
  | ret u=>exact I.after hq
  | next=>exact False.elim hq
  | brk=>exact False.elim hq
  | cont=>exact False.elim hq
theorem aG(F:aj X.prog X.w X.K X.mg X.base CX k f fd ps sp)(hr:b9 k X.A)(hg:Gl X x)(hm:X.mg x=some (.ref f))(hk:PySem.W.keepIn X.K (.ref f)=true)(hb:Binds X.K fd ps ds)(hd:aQ de ds)(hx:mH CX X E)
 (ha:PA X (e::es) t) (iy:(x == ("__debug__":Str))=false:=by decide) (he:starEach (e::es) X.env=(false,eval e X.env)::starEach es X.env:=by rfl) (eI:(backTo pos (starEach es X.env)).any (·.1)=false:=by rfl) :
 PE X (.Call (.Name x p) (e::es) [] pos) (OU sp de E t):=by
 intro pins s σ H Q I h;refine yr (v4 I hg hm ?_ iy);refine NN (h₀:=X.base) I.ok.mod.kin hk (thn (ha pos pins s σ H _ I h) fun us s1 aaK=>aaK.elim fun vs aaL=>aaL.elim fun H1 aaM=>aaM.elim fun I1 aaN=>aaN.elim fun r q=>⟨I1.kIn,?_⟩) he eI;exact Hv F hr hb hd hx I1 r q
theorem qW{pl:Sem Bool}(he:PE X o ta)(c:jH X.K C)(hm:lJ X.K C m f)(F:aj X.prog X.w X.K X.mg X.base CX k f fd ps sp)(hr:b9 k X.A)(hb:Binds X.K fd ps ds)(hd:aQ de ds)(hx:mH CX X E)(ha:PA X (e::es) t)
 (fg:starEach (e::es) X.env=(false,eval e X.env)::starEach es X.env:=by rfl) (eI:(backTo pos (starEach es X.env)).any (·.1)=false:=by rfl)
 (ht:eval (.Call (.Attribute o m apos) (e::es) [] pos) X.env=(do
  let ov ←eval o X.env
  standAt apos.atName
  let (f,first) ←holding [ov] (getMethod ov m pl)
  callWith pos f first (backTo pos (starEach (e::es) X.env)) (backToKw pos (keywordEach [] X.env))):=by rfl) :
 PE X (.Call (.Attribute o m apos) (e::es) [] pos) (OV C m sp de E ta t):=by
 intro pins s σ H Q I h;refine aCa (pl:=pl) (thn (he pins s σ H _ I h) fun u s1 aaO=>aaO.elim fun x aaP=>aaP.elim fun H1 aaQ=>aaQ.elim fun I1 aaR=>aaR.elim fun rx aaS=>aaS.elim fun a aaT=>aaT.elim fun dx aaU=>aaU.elim fun fs aaV=>aaV.elim fun ex aaW=>aaW.elim fun ea aaX=>aaX.elim fun l q=>?_) ht;subst ex;obtain rfl:u=Value.ref a:=rx;refine OQ I1 ea c hm l ?_;refine NN (first:=[.ref a]) (h₀:=X.base) I.ok.mod.kin hm.kp (thn (ha pos pins s1 σ H1 _ I1 q) fun us s2 aaY=>aaY.elim fun vs aaZ=>aaZ.elim fun H2 aa0=>aa0.elim fun I2 aa1=>aa1.elim fun r q2=>⟨I2.kIn,?_⟩) fg eI;exact Hv (us:=.ref a::us) (vs:=.ref a::vs) F hr hb hd hx I2 (.cons rfl r) q2
theorem tL{pl:Sem Bool}(he:PE X o ta)(c:jH X.K C)(hm:lJ X.K C m f)(F:aj X.prog X.w X.K X.mg X.base CX k f fd ps sp)(hr:b9 k X.A)(hb:Binds X.K fd ps ds)(hd:aQ de ds)(hx:mH CX X E)
 (ht:eval (.Call (.Attribute o m apos) [] [] pos) X.env=(do
  let ov ←eval o X.env
  standAt apos.atName
  let (f,first) ←holding [ov] (getMethod ov m pl)
  callWith pos f first (backTo pos (starEach [] X.env)) (backToKw pos (keywordEach [] X.env))):=by rfl) :
 PE X (.Call (.Attribute o m apos) [] [] pos) (OV C m sp de E ta fh):=by
 intro pins s σ H Q I h;refine aCa (pl:=pl) (thn (he pins s σ H _ I h) fun u s1 aa2=>aa2.elim fun x aa3=>aa3.elim fun H1 aa4=>aa4.elim fun I1 aa5=>aa5.elim fun rx aa6=>aa6.elim fun a aa7=>aa7.elim fun dx aa8=>aa8.elim fun fs aa9=>aa9.elim fun ex aba=>aba.elim fun ea abb=>abb.elim fun l q=>?_) ht;subst ex;obtain rfl:u=Value.ref a:=rx;refine OQ I1 ea c hm l ?_;exact PySem.W.callWith_K0 (first:=[.ref a]) I1.kIn hm.kp (Hv (us:=[.ref a]) (vs:=[.ref a]) F hr hb hd hx I1 (.cons rfl .nil) q)
structure Mk(K:Fg)(C f:Addr):Prop where
 makes:PySem.W.makesIn K C=true
 init:PySem.W.findIn K (.ref C) "__init__"=some (some (.ref f))
 fn:PySem.W.isFn K (.ref f)=true
 kp:PySem.W.keepIn K (.ref C)=true
theorem OX{pins:Po}{σ:St}{H:Hp}{s:Shared}{Q:VK}{us:Lw}{vs:Lv}(M:Mk X.K C f)(F:aj X.prog X.w X.K X.mg X.base CX k f fd ps sp)(hr:b9 (k+1) X.A)(hb:Binds X.K fd ps ds)(hd:aQ de ds)
 (hx:mH CX X E) (I:Inv X pins σ H s) (r:aQ vs us)
 (h:∀x dx,H x=none->H dx=none->dx≠x->sp (.ref x::(vs++de)) (ah (ah H dx (.own x)) x (.ins C dx [])) (fun v H2=>v=.non/\Q (.ref x) H2) E) :
 wpAny (model X.prog X.w) X.A (call (.ref C) us) (EP X pins σ Q) X.xe s:=by
 have hq:=h (s.heap.objs.size+1) s.heap.objs.size (I.hok.fresh (sV _)) (I.hok.fresh (aJ _)) (cV (yq _));have I2:=Inv.made (C:=C) I;have r2:aQ (V.ref (s.heap.objs.size+1)::(vs++de)) (Value.ref (s.heap.objs.size+1)::(us++ds)):=.cons rfl (r.append hd);have hl:(Value.ref (s.heap.objs.size+1)::us++ds).length=ps.length:=by
  have e:=r2.length;rw[F.len _ _ _ _ hq]at e;exact e.symm
 refine GL (ZI (f:=f) I.kIn M.makes M.init (kf.mp M.fn) (oq (F.run _ X.stack _ _ ⟨Value.ref (s.heap.objs.size+1)::us,[]⟩ (Value.ref (s.heap.objs.size+1)::(us++ds)) _ _ E (hr.make C us [])
  (I2.env0.make C us []) (hb _ (Value.ref (s.heap.objs.size+1)::us) I2.kIn hl) r2 hq) fun r s' kE=>?_))
 cases r with
 | error e=>exact hx pins σ _ _ e s' I2 kE
 | ok fl=>
  cases fl with
  | ret u=>
   obtain⟨v,H',I3,rv,ev,q3⟩:=I2.after kE;subst ev;exact⟨rv,⟨V.ref (s.heap.objs.size+1),H',I3,rfl,q3⟩⟩
  | next=>exact False.elim kE
  | brk=>exact False.elim kE
  | cont=>exact False.elim kE
theorem yS(M:Mk X.K C f)(F:aj X.prog X.w X.K X.mg X.base CX k f fd ps sp)(hr:b9 (k+1) X.A)(hg:Gl X x)(hm:X.mg x=some (.ref C))(hb:Binds X.K fd ps ds)(hd:aQ de ds)(hx:mH CX X E)
 (ha:PA X (e::es) t) (iy:(x == ("__debug__":Str))=false:=by decide) (he:starEach (e::es) X.env=(false,eval e X.env)::starEach es X.env:=by rfl) (eI:(backTo pos (starEach es X.env)).any (·.1)=false:=by rfl) :
 PE X (.Call (.Name x p) (e::es) [] pos) (OW C sp de E t):=by
 intro pins s σ H Q I h;refine yr (v4 I hg hm ?_ iy);refine NN (h₀:=X.base) I.ok.mod.kin M.kp (thn (ha pos pins s σ H _ I h) fun us s1 abc=>abc.elim fun vs abd=>abd.elim fun H1 abe=>abe.elim fun I1 abf=>abf.elim fun r q=>⟨I1.kIn,?_⟩) he eI;exact OX M F hr hb hd hx I1 r q
theorem abg(M:Mk X.K C f)(F:aj X.prog X.w X.K X.mg X.base CX k f fd ps sp)(hr:b9 (k+1) X.A)(hg:Gl X x)(hm:X.mg x=some (.ref C))(hb:Binds X.K fd ps ds)(hd:aQ de ds)(hx:mH CX X E)
 (iy:(x == ("__debug__":Str))=false:=by decide):PE X (.Call (.Name x p) [] [] pos) (OW C sp de E fh):=by
 intro pins s σ H Q I h;refine yr (v4 I hg hm ?_ iy);exact PySem.W.callWith_K0 I.kIn M.kp (OX (us:=[]) M F hr hb hd hx I .nil h)
end
def PK(X:Cx)(yT:List Keyword)(t:TA):Prop:=
 ∀(pos:Pos) (pins:Po) (s:Shared) (σ:St) (H:Hp) (Q:Lv->Hp->Prop),Inv X pins σ H s->t σ H Q->wpAny (model X.prog X.w) X.A (evalAll ((backToKw pos (keywordEach yT X.env)).map (·.2))) (AP X pins σ Q) X.xe s
section
variable {X:Cx}{CX:hU}{k:Nat}{f C:Addr}{fd:Fy}{ps ks:Ls}{sp:Sp}{E:XK}{x m:Str}{p pos apos yU:Pos}{e o:Expr}{es:List Expr}{yT:List Keyword}{te ta:TE}{t tk:TA}{nm:Option Str}
theorem abh:PK X [] fh:=fun _ _ _ _ H Q I h=>wpAny_evalAll_nil ⟨[],H,I,.nil,h⟩
theorem abi(ha:PE X e te)(hr:PK X yT t):PK X (⟨nm,e,yU⟩::yT) (kC te t):=by
 intro pos pins s σ H Q I h;show wpAny _ _ (evalAll ((do let v ←eval e X.env;standAt pos;pure v)::(backToKw pos (keywordEach yT X.env)).map (·.2))) _ _ s;refine wpAny_evalAll_cons (af (thn (ha pins s σ H _ I h) fun u s1 abj=>abj.elim fun x abk=>abk.elim fun H1 abl=>abl.elim fun I1 abm=>abm.elim fun r1 q1=>af (VQ (au ?_))));exact thn (hr pos pins s1 σ H1 _ I1 q1) fun us s2 abn=>abn.elim fun xs abo=>abo.elim fun H2 abp=>abp.elim fun I2 abq=>abq.elim fun r2 q2=>⟨x::xs,H2,I2,.cons r1 r2,q2⟩
variable {g:Lw->Lw->Lw}{gV:Lv->Lv->Lv}
end
structure aR(N P:Ls)(sc:Scope):Prop where
 kind:sc.kind=.function
 co:sc.isCoroutine=false
 gen:sc.isGenerator=false
 nd:N.Nodup
 pre:N.take P.length=P
 par:∀x∈P,sc.names.lookup x=some .local\/sc.names.lookup x=some .cell
 nofree:∀y∈sc.names,y.2≠.free
theorem OY{kindOf:Str->Option NameKind}{x:Str}:∀{binds:List (Str×Value)}{m:Mv},(∀v,(x,v)∉binds)->bindL kindOf binds m x=m x
 | [],_,_=>rfl
 | (n,v)::r,m,h=>by
  unfold bindL;rw[OY fun w hw=>h w (bJ _ hw)];split
  . have:x≠n:=by rintro rfl;exact h v bB
    simp[this]
  . rfl
theorem OZ{kindOf:Str->Option NameKind}{x:Str}:∀{binds:List (Str×Value)}{m:Mv},(∀v,(x,v)∉binds)->bindC kindOf binds m x=m x
 | [],_,_=>rfl
 | (n,v)::r,m,h=>by
  unfold bindC;rw[OZ fun w hw=>h w (bJ _ hw)];split
  . rfl
  . have:x≠n:=by rintro rfl;exact h v bB
    simp[this]
theorem O0{kindOf:Str->Option NameKind}{x:Str}{v:Value}:∀{P:Ls}{vs:Lw}{i:Nat}{m:Mv},P.Nodup->P[i]?=some x->vs[i]?=some v->kindOf x=some .local ->
 bindL kindOf (P.zip vs) m x=some v
 | [],_,_,_,_,h,_,_=>by simp at h
 | _::_,[],_,_,_,_,h,_=>by simp at h
 | p::P,w::vs,0,m,nd,h1,h2,hk=>by
  simp at h1 h2;subst h1;subst h2;show bindL kindOf ((p,w)::P.zip vs) m p=_;unfold bindL;rw[OY fun v hv=>(Cc.mp nd).1 (NO hv).1,aq hk];simp
 | p::P,w::vs,i+1,m,nd,h1,h2,hk=>by
  show bindL kindOf ((p,w)::P.zip vs) m x=_;unfold bindL;exact O0 (i:=i) (Cc.mp nd).2 (by simpa using h1) (by simpa using h2) hk
theorem O1{kindOf:Str->Option NameKind}{x:Str}{v:Value}:∀{P:Ls}{vs:Lw}{i:Nat}{m:Mv},P.Nodup->P[i]?=some x->vs[i]?=some v->kindOf x≠some .local ->
 bindC kindOf (P.zip vs) m x=some v
 | [],_,_,_,_,h,_,_=>by simp at h
 | _::_,[],_,_,_,_,h,_=>by simp at h
 | p::P,w::vs,0,m,nd,h1,h2,hk=>by
  simp at h1 h2;subst h1;subst h2;show bindC kindOf ((p,w)::P.zip vs) m p=_;unfold bindC;rw[OZ fun v hv=>(Cc.mp nd).1 (NO hv).1,ai hk];simp
 | p::P,w::vs,i+1,m,nd,h1,h2,hk=>by
  show bindC kindOf ((p,w)::P.zip vs) m x=_;unfold bindC;exact O1 (i:=i) (Cc.mp nd).2 (by simpa using h1) (by simpa using h2) hk
def start(N:Ls)(vs:Lv):St:=vs.map some++List.replicate (N.length - vs.length) none
def kF(CX:hU)(P:Program)(w:World)(K:Fg)(mg:Mv)(base:Heap)(N:Ls)(qual:Str)(scope:Scope)(f:Addr)(cd:Value)(A:Around)(outer:List Env)(s:Shared)(H:Hp)(E:XK):Cx where
 prog:=P
 w:=w
 K:=K
 mg:=mg
 base:=base
 A:=A.deeper (envOfC qual scope s.heap.objs.size f cd)
 N:=N
 s₀:=s
 H₀:=H
 env:=envOfC qual scope s.heap.objs.size f cd
 outer:=outer
 stack:=envOfC qual scope s.heap.objs.size f cd::outer
 ex:=[]
 calm:=true
 fn:=fun _=>true
 pn:=[]
 xe:=fun e s'=>wpAny (model P w) (A.deeper (envOfC qual scope s.heap.objs.size f cd)) (leaving (envOfC qual scope s.heap.objs.size f cd) e) (fun _ CU=>CX outer H s E e CU) (fun e' CU=>CX outer H s E e' CU) s'
theorem O2{sc:Scope}{n:Nat}{x:Str}(h:sc.names.lookup x=some .cell):∃c,(cellsFrom n sc.names []).lookup x=some c:=by
 have q:=VR sc.names n [] (.inl h);exact NP.mp q
theorem O3{CX:hU}{P:Program}{w:World}{K:Fg}{mg:Mv}{base:Heap}{N ps:Ls}{qual:Str}{scope:Scope}{f:Addr}{cd:Value}{A:Around}{outer:List Env}{s s1:Shared}{H:Hp}{E:XK}{us:Lw}{vs:Lv}
 (S:aR N ps scope) (hd:A.handled=none) (e0:kD P w K mg base A outer s H) (hl:vs.length=ps.length) (r:aQ vs us)
 (x:InCallC s s.heap.objs.size (bindL (envOfC qual scope s.heap.objs.size f cd).kindOf (ps.zip us) fun _=>none) (cellsFrom (s.heap.objs.size+1) scope.names []) (bindC (envOfC qual scope s.heap.objs.size f cd).kindOf (ps.zip us) fun _=>none) s1) :
 Inv (kF CX P w K mg base N qual scope f cd A outer s H E) [] (start N vs) H s1:=by
 have eI:ps.length<=N.length:=by have:=fb List.length S.pre;rw[eh]at this;omega
 obtain⟨h1,tk,rfl,hk⟩:=x.done;have Hw:∀b:Addr,b∉(kF CX P w K mg base N qual scope f cd A outer s H E).ex:=fun b z=>absurd (show b∈([]:List Addr) from z) (by simp);refine⟨⟨e0.mod,S.kind,rfl,rfl,aJ _,fun y z c h1 h2=>?_,fun y hy=>?_,fun y c _ h=>?_,fun _=>hd,Around.frames_deeper e0.frames,.inr ⟨rfl,rfl⟩,fun b z=>absurd z (Hw b),e0.bs,e0.bsz,fun b _ _=>Hw b,fun b z=>absurd z (Hw b),e0.funs,e0.frf⟩,
  rfl,e0.bare,Un.kept hk,⟨_,x.toInCall.ns,fun i y v h1 h2 h3=>?_⟩,fun y c h=>⟨_,x.cell y c h⟩,e0.hok.fresh (aJ _),fun y c h=>?_,fun p hp=>absurd (show p∈([]:Po) from hp) (by simp),e0.hok.kept hk,?_⟩
 . exact name_of_addr x.apart (Cd h1) (Cd h2)
 . have hy:scope.names.lookup y=some .cell\/scope.names.lookup y=some .free:=hy
   rcases hy with hy | hy
   . exact O2 hy
   . exact absurd rfl (S.nofree _ (Cd hy))
 . exact vK (x.above y c (Cd h))
 . have hi:i<vs.length:=by
    unfold start at h2
    by_cases hi:i<vs.length
    . exact hi
    . rw[yt (by simpa using hi)]at h2;rw[aCb]at h2;split at h2<;>cases h2
   have ha:vs[i]?=some v:=by
    unfold start at h2;rw[GN (by simpa using hi),db]at h2;cases e:vs[i]? with
    | none=>rw[e]at h2;cases h2
    | some a=>rw[e]at h2;cases h2;rfl
   obtain⟨u,hu,rv⟩:=r.get ha;have hp:ps[i]?=some y:=by
    rw[←S.pre,List.getElem?_take_of_lt (by omega)];exact h1
   have O4:ps.Nodup:=by rw[←S.pre];exact S.nd.sublist (List.take_sublist _ _)
   refine⟨u,rv,?_⟩
   rcases S.par y (dG hp) with k | k
   . exact .inl ⟨k,O0 O4 hp hu k⟩
   . obtain⟨c,e⟩:=O2 (n:=s.heap.objs.size+1) k;refine .inr ⟨.inl k,c,e,?_⟩;have q:=x.cell y c e;rw[O1 O4 hp hu (by show scope.names.lookup y≠_;rw[k];decide)]at q;exact q
 . exact e0.hok.fresh (vK (x.above y c (Cd h)))
 . unfold start;show _=N.length;rw[bh,am,VS];omega
theorem Hy{CX:hU}{P:Program}{w:World}{K:Fg}{mg:Mv}{base:Heap}{k:Nat}{f:Addr}{name qual:Str}{params:Arguments}{body:List Stmt}{scope:Scope}{dV kV doc pm ay ct oc:Value}{an od:Oa}
 {iB:Array (Option Value)}{N ps:Ls}{sp:Sp} (lk:K.lookup f=some ⟨oc,od,.func (PySem.W.fnOf name qual params body scope dV kV doc pm an ay ct),iB⟩) (g9:PySem.W.codeIn K ay qual=true) (S:aR N ps scope)
 (len:∀vs H Q E,sp vs H Q E->vs.length=ps.length)
 (oM:∀(A:Around) (outer:List Env) (s:Shared) (H:Hp) (vs:Lv) (Q:VK) (E:XK),b9 k (A.deeper (envOfC qual scope s.heap.objs.size f ay))->sp vs H Q E ->
  ∃t,c8 (kF CX P w K mg base N qual scope f ay A outer s H E) body t/\t { nx:=fun _ H'=>Q .non H',rt:=Q } (start N vs) H) :
 aj P w K mg base CX (k+1) f (PySem.W.fnOf name qual params body scope dV kV doc pm an ay ct) ps sp:=by
 refine⟨len,fun A outer s H args us vs Q E hr e0 hb r kG=>?_⟩;have hl:=len _ _ _ _ kG;have KX:K.In s.heap:=e0.mod.kin.keeps fun b o e=>(e0.bs b o e).1;have lim:s.heap.NoLimit:=e0.mod.nolimit.keeps fun b o e=>(e0.bs b o e).1;have Hz:∀y∈ps.zip us,scope.names.lookup y.1=some .local\/(scope.names.lookup y.1=some .cell/\((cellsFrom (s.heap.objs.size+1) scope.names []).lookup y.1).isSome=true):=fun⟨n,v⟩ hy=>by
  rcases S.par n (NO hy).1 with q | q
  . exact .inl q
  . exact .inr ⟨q,VR _ _ _ (.inl q)⟩
 refine codeAny_call_function hr.depth (KX _ _ lk) rfl S.co S.gen rfl (PySem.W.codeRec_of KX g9) (hb _ _ _ _ ?_);refine aCc S.kind Hz fun env he s1 x=>?_;subst he;refine⟨lim.keeps x.toInCall.keep,codeAny_func ?_⟩;obtain⟨t,ht,hq⟩:=oM A outer s H vs Q E (hr.deeper _) kG;have I:Inv (kF CX P w K mg base N qual scope f ay A outer s H E) [] (start N vs) H s1:=O3 S hr.hd e0 hl r x;refine eg (ht [] s1 (start N vs) H _ I hq) (fun fl s' hs=>?_) fun e s' hs=>hs;have fin:∀{σ':St}{H':Hp}{v:V}{u:Value},Inv (kF CX P w K mg base N qual scope f ay A outer s H E) [] σ' H' s'->RelV v u->Q v H'->CE outer P w H s Q u s':=
  fun {σ' H' v u} J rv q=>⟨v,H',J.os,J.bare,J.base,J.hok,rv,q⟩
 cases fl with
 | ret u=>
  obtain⟨v,σ',H',J,rv,q⟩:=hs;exact fin J rv q
 | next=>
  obtain⟨σ',H',J,q⟩:=hs;exact fin (v:=V.non) (u:=Value.none) J rfl q
 | brk=>
  obtain⟨_,_,_,q⟩:=hs;exact False.elim q
 | cont=>
  obtain⟨_,_,_,q⟩:=hs;exact False.elim q
section
variable {X:Cx}{x:Str}{p pos:Pos}{e:Expr}{es:List Expr}{t:TA}{id T:String}{r:Lv->Hp->VK->Prop}
def CV(r:Lv->Hp->VK->Prop)(t:TA):TE:=fun σ H Q=>t σ H fun vs H1=>r vs H1 Q
theorem dC(hc:fv X (.builtin id) r)(hg:Gl X x)(hm:X.mg x=none)(hv:bootBuiltins x=some (.builtin id))(ha:PA X (e::es) t)(hn:x≠"__name__":=by decide)(iy:(x == ("__debug__":Str))=false:=by decide)
 (he:starEach (e::es) X.env=(false,eval e X.env)::starEach es X.env:=by rfl) (eI:(backTo pos (starEach es X.env)).any (·.1)=false:=by rfl):PE X (.Call (.Name x p) (e::es) [] pos) (CV r t):=by
 intro pins s σ H Q I h;refine yr (v5 I hg hm hv ?_ hn iy);exact PyProof.Rows.callWith_builtin1 (thn (ha pos pins s σ H _ I h) fun us s1 abr=>abr.elim fun vs abt=>abt.elim fun H1 abu=>abu.elim fun I1 abv=>abv.elim fun r1 q1=>hc pins s1 σ H1 vs us Q I1 r1 q1) he eI
theorem eB(hc:fv X (.type T) r)(hg:Gl X x)(hm:X.mg x=none)(hv:bootBuiltins x=some (.type T))(ha:PA X (e::es) t)(hn:x≠"__name__":=by decide)(iy:(x == ("__debug__":Str))=false:=by decide)
 (he:starEach (e::es) X.env=(false,eval e X.env)::starEach es X.env:=by rfl) (eI:(backTo pos (starEach es X.env)).any (·.1)=false:=by rfl):PE X (.Call (.Name x p) (e::es) [] pos) (CV r t):=by
 intro pins s σ H Q I h;refine yr (v5 I hg hm hv ?_ hn iy);exact NL (thn (ha pos pins s σ H _ I h) fun us s1 abw=>abw.elim fun vs abx=>abx.elim fun H1 aby=>aby.elim fun I1 abz=>abz.elim fun r1 q1=>hc pins s1 σ H1 vs us Q I1 r1 q1) he eI
end
end L2
namespace HT
open PySem PyProof.Rows
theorem abA(A:Around)(s:Shared)(a:Int)(t:Tok)(c:Int)(u:Tok):∃e,SeqAt.EqAt A s (.int a t) (.int c u) e/\(e=true↔a=c):=
 ⟨(a == c),SeqAt.EqAt.int_int a t c u,by simp⟩
theorem abB(A:Around)(s:Shared)(a:Int)(t:Tok)(c:Int)(u:Tok)(prog:Program)(w:World)(E:VP)(Q:VP)(h:Q (.bool (decide (a<c))) s) :
 wpAny (model prog w) A (richCompare .Lt (.int a t) (.int c u)) Q E s:=
 (PyProof.Rows.lt_int h:wpAny (model prog w) A (compareOp .Lt (.int a t) (.int c u)) Q E s)
section
open PySem.SeqAt
open PySem.AutoSeq1 (wpAny_loadPart')
open PySem.MeetsSeq PySem.MeetsSeq2 PySem.MeetsSeq3
end
section
variable {prog:Program}{w:World}{A:Around}{E:VP}{s:Shared}
def fJ(n d:Nat):Option Int->Nat
 | none=>d
 | some v=>if v<0 then(v+(n:Int)).toNat else min v.toNat n
theorem O5(n d:Nat):fJ n d none=d:=rfl
theorem we(n d k:Nat):fJ n d (some (k:Int))=min k n:=by
 show(if (k:Int)<0 then((k:Int)+(n:Int)).toNat else min (k:Int).toNat n)=min k n;rw[ai (by omega),lw]
end
end HT
namespace L2
open PySem PySem.Spec PyProof.Rows
abbrev TO:=St->Hp->(Option Int->Hp->Prop)->Prop
def PO(X:Cx)(e:Option Expr)(t:TO):Prop:=
 ∀(pins:Po) (s:Shared) (σ:St) (H:Hp) (Q:Option Int->Hp->Prop),Inv X pins σ H s->t σ H Q ->
  wpAny (model X.prog X.w) X.A (evalPart e X.env) (fun u s'=>∃o H',Inv X pins σ H' s'/\IsPart u o/\Q o H') X.xe s
def abC:TO:=fun _ H Q=>Q none H
def abD(t:TE):TO:=fun σ H Q=>t σ H fun x H1=>∃i,x=.int i/\Q (some i) H1
section
variable {X:Cx}{e:Expr}{te:TE}{lo hi:Option Expr}{tl th:TO}{pos p2:Pos}
theorem oN:PO X none abC:=by
 intro pins s σ H Q I h;rw[VT];exact au ⟨none,H,I,.none,h⟩
theorem gb(h:PE X e te):PO X (some e) (abD te):=by
 intro pins s σ H Q I hw;rw[evalPart_some];refine thn (h pins s σ H _ I hw) fun u s1 abE=>abE.elim fun x abF=>abF.elim fun H1 abG=>abG.elim fun I1 abH=>abH.elim fun r1 q1=>?_;obtain⟨i,rfl,q⟩:=q1;obtain⟨t,rfl⟩:=r1;exact⟨some i,H1,I1,.int i t,q⟩
def tM(X:Cx)(r:V->Option Int->Option Int->Hp->VK->Prop):Prop:=
 ∀(pins:Po) (s:Shared) (σ:St) (H:Hp) (x:V) (v vl vu:Value) (lo hi:Option Int) (sl:Addr) (Q:VK),Inv X pins σ H s->RelV x v->s.heap.IsSliceOf sl vl vu .none->IsPart vl lo->IsPart vu hi->r x lo hi H Q ->
  ∃T id,typeLookup (.type T) "__getitem__"=pure (some (.builtin id))/\s.TypeIs v T/\wpAny (model X.prog X.w) X.A (getItem v (.ref sl)) (EP X pins σ Q) X.xe s
def tSl(r:V->Option Int->Option Int->Hp->VK->Prop)(te:TE)(tl th:TO):TE:=fun σ H Q=>te σ H fun x H1=>tl σ H1 fun l H2=>th σ H2 fun u H3=>r x l u H3 Q
theorem iX{r:V->Option Int->Option Int->Hp->VK->Prop}(hr:tM X r)(he:PE X e te)(hl:PO X lo tl)(hu:PO X hi th):PE X (.Subscript e (.Slice lo hi none p2) pos) (tSl r te tl th):=by
 intro pins s σ H Q I h;refine NQ (thn (he pins s σ H _ I h) fun v s1 abJ=>abJ.elim fun x abK=>abK.elim fun H1 abL=>abL.elim fun I1 abM=>abM.elim fun r1 q1=>?_);refine wpAny_Slice (thn (hl pins s1 σ H1 _ I1 q1) fun vl s2 abN=>abN.elim fun l abO=>abO.elim fun H2 abP=>abP.elim fun I2 abQ=>abQ.elim fun pl q2=>thn (hu pins s2 σ H2 _ I2 q2) fun vu s3 abR=>abR.elim fun u abS=>abS.elim fun H3 abT=>abT.elim fun I3 abU=>abU.elim fun pu q3=>?_);rw[VT];refine au ?_;have I4:Inv X pins σ H3 { s3 with heap:=s3.heap.push { cls:=.type "slice",data:=.fields #[vl,vu,.none] } }:=I3.kept (t':=s3.toks) fun b ob q=>bR _ q;obtain⟨T,id,hT,ht,hg⟩:=hr pins { s3 with heap:=s3.heap.push { cls:=.type "slice",data:=.fields #[vl,vu,.none] } } σ H3 x v vl vu l u s3.heap.objs.size Q I4 r1 (Heap.IsSliceOf.new ..) pl pu q3;show wpAny (model X.prog X.w) X.A (subscriptTail e (.Slice lo hi none p2) v (.ref s3.heap.objs.size)) (EP X pins σ Q) X.xe { s3 with heap:=s3.heap.push { cls:=.type "slice",data:=.fields #[vl,vu,.none] } };exact tail_any (ops:=[.ref s3.heap.objs.size,v]) ht hT hg (by with_unfolding_all rfl)
def oO(xs:Lv)(lo hi:Option Int):Lv:=(xs.drop (HT.fJ xs.length 0 lo)).take (HT.fJ xs.length xs.length hi - HT.fJ xs.length 0 lo)
theorem abV(xs:Lv)(lo hi:Option Int):(oO xs lo hi).length<=xs.length:=by
 unfold oO;rw[eh,mx];omega
end
def oP(n:Nat)(i:Int):Option Nat:=if 0<=i then(if i<n then some i.toNat else none) else if -(n:Int)<=i then some (i+n).toNat else none
def bZ{α:Type}(xs:List α)(i:Int):Option α:=(oP xs.length i).bind fun j=>xs[j]?
theorem abW{n:Nat}{i:Int}{j:Nat}(h:oP n i=some j):seqIndex? i n=some j/\j<n/\-(n:Int)<=i/\i<n:=by
 unfold oP at h
 by_cases h0:0<=i
 . rw[aq h0]at h
   by_cases h1:i<n
   . rw[aq h1]at h;have e:i.toNat=j:=gA h;exact⟨by rw[seqIndex_of h0 h1,e],by omega,by omega,h1⟩
   . rw[ai h1]at h;cases h
 . rw[ai h0]at h
   by_cases h1:-(n:Int)<=i
   . rw[aq h1]at h;have e:(i+n).toNat=j:=gA h;exact⟨by rw[seqIndex_neg (by omega) h1,e],by omega,h1,by omega⟩
   . rw[ai h1]at h;cases h
theorem CW{α:Type}{xs:List α}{i:Int}{v:α}(h:bZ xs i=some v):∃j,seqIndex? i xs.length=some j/\xs[j]?=some v/\j<xs.length/\-(xs.length:Int)<=i/\i<xs.length:=by
 unfold bZ at h;cases e:oP xs.length i with
 | none=>rw[e]at h;cases h
 | some j=>
  rw[e]at h;obtain⟨h1,h2,h3,h4⟩:=abW e;exact⟨j,h1,h,h2,h3,h4⟩
theorem yV{α:Type}{xs:List α}{j:Nat}{v:α}(h:xs[j]?=some v):bZ xs (j:Int)=some v:=by
 have hj:j<xs.length:=(ci.mp h).1;have e:oP xs.length (j:Int)=some j:=by
  unfold oP;rw[aq (by omega),aq (by omega)];simp
 unfold bZ;rw[e];exact h
def abX(b:Expr):Prop:=∀o i,subscripted b false o i=operate [o,i] (getItem o i)
def wf(X:Cx)(r:R2):Prop:=
 ∀(value slice:Expr) (pins:Po) (s:Shared) (σ:St) (H:Hp) (x y:V) (v u:Value) (Q:VK),Inv X pins σ H s->RelV x v->RelV y u->r x y H Q ->
  subscripted slice false v u=operate [v,u] (getItem v u)->wpAny (model X.prog X.w) X.A (subscriptTail value slice v u) (EP X pins σ Q) X.xe s
def HA(X:Cx)(id:String)(r:V->Lv->Hp->VK->Prop):Prop:=
 ∀(pins:Po) (s:Shared) (σ:St) (H:Hp) (x:V) (xs:Lv) (v:Value) (us:Lw) (Q:VK),Inv X pins σ H s->RelV x v->aQ xs us->r x xs H Q ->
  wpAny (model X.prog X.w) X.A (call (.builtin id) (v::us)) (EP X pins σ Q) X.xe s
section
variable {X:Cx}{a b:Expr}{ta tb:TE}{pos:Pos}
theorem bi{r:R2}(hr:wf X r)(ha:PE X a ta)(hb:PE X b tb)(hs:abX b):PE X (.Subscript a b pos) (CN r ta tb):=by
 intro pins s σ H Q I h;exact NQ (Hm ha hb I h fun v u s2 x y H2 I2 rx ry q=>hr a b pins s2 σ H2 x y v u Q I2 rx ry q (hs _ _))
def O6(K:Fg):R2:=fun x y H Q=>∃p xs i v,x=.ref p/\y=.int i/\ae K H p xs/\bZ xs i=some v/\Q v H
def O7(K:Fg):R2:=fun x y H Q=>∃p xs i v,x=.ref p/\y=.int i/\aW K H p xs/\bZ xs i=some v/\Q v H
def abY:R2:=fun x y H Q=>∃z i c,x=.str z/\y=.int i/\z.length<=sizeLine/\bZ z.cps.toList i=some c/\Q (.str ⟨#[c]⟩) H
theorem eL:wf X (O6 X.K):=by
 intro value slice pins s σ H x y v u Q I rx ry h hs;obtain⟨p,xs,i,z,rfl,rfl,hq,he,q⟩:=h;cases rx;obtain⟨t,rfl⟩:=ry;obtain⟨its,r,pl,hz⟩:=I.list hq;obtain⟨j,h1,h2,h3,h4,h5⟩:=CW he;obtain⟨w,ew,iC⟩:=r.get h2;have hl:=r.length;have hn:=yO;have fin:EP X pins σ Q w s:=⟨z,H,I,iC,q⟩
 by_cases h0:0<=i
 . have hj:i.toNat=j:=by
    rw[seqIndex_of h0 h5]at h1;exact gA h1
   exact item_listR pl.isList h0 (by omega) (by rw[hj];simpa using ew) fin hs
 . have hj:(i+(its.toArray.size:Int)).toNat=j:=by
    rw[seqIndex_neg (by omega) h4]at h1;rw[fc,←hl];exact gA h1
   exact aCd (x:=w) pl.isList.typeIs VU.lookup
    (wpAny_getItem_list_neg (Q:=fun r s'=>r=w/\EP X pins σ Q r s') pl.isList (by omega) (by rw[fc]<;>omega) (by omega) (by rw[hj];simpa using ew) ⟨rfl,fin⟩) hs
theorem eJ:wf X (O7 X.K):=by
 intro value slice pins s σ H x y v u Q I rx ry h hs;obtain⟨p,xs,i,z,rfl,rfl,hq,he,q⟩:=h;cases rx;obtain⟨t,rfl⟩:=ry;obtain⟨its,r,pl,hz⟩:=I.tuple hq;obtain⟨j,h1,h2,h3,h4,h5⟩:=CW he;obtain⟨w,ew,iC⟩:=r.get h2;have hl:=r.length;have hn:=yO;have fin:EP X pins σ Q w s:=⟨z,H,I,iC,q⟩;exact aCd (x:=w) pl.typeIs slot_tuple_getitem.lookup
  (getItem_tuple (j:=j) (Q:=fun r s'=>r=w/\EP X pins σ Q r s') pl (by omega) (by omega) (by rw[fc,←hl];exact h1) (by simpa using ew) ⟨rfl,fin⟩) hs
theorem yW:wf X abY:=by
 intro value slice pins s σ H x y v u Q I rx ry h hs;obtain⟨z,i,c,rfl,rfl,hz,he,q⟩:=h;obtain⟨t,rfl⟩:=rx;obtain⟨t',rfl⟩:=ry;obtain⟨j,h1,h2,h3,h4,h5⟩:=CW he;have hl:z.cps.toList.length=z.length:=by simp[Str.length]
 rw[hl]at h1 h4 h5;have hn:=yO;exact tail_any (Ce s z t) slot_str_getitem.lookup (getItem_str (c:=c) (by
  have e1:decide (i < -(2 ^ 63:Int))=false:=cH (by omega);have e2:decide (i >= 2 ^ 63)=false:=cH (by omega);rw[e1,e2,sW]) (by rw[h1];simpa using h2) ⟨.str ⟨#[c]⟩,H,I.tok _,⟨_,rfl⟩,q⟩) hs
theorem abZ(lo hi:Option Int)(n:Nat):(sliceBounds lo hi none n).1=((HT.fJ n 0 lo:Nat):Int)/\(sliceBounds lo hi none n).2.1=((HT.fJ n n hi:Nat):Int)/\(sliceBounds lo hi none n).2.2=1:=by
 refine⟨?_,?_,rfl⟩
 . cases lo with
   | none=>simp[sliceBounds,HT.fJ]
   | some i=>
    simp only[sliceBounds,HT.fJ,Option.getD_none,show(1:Int) > 0 by decide,vJ]
    by_cases h:i<0
    . simp only[h,vJ]<;>omega
    . simp only[h,mw]<;>omega
 . cases hi with
   | none=>simp[sliceBounds,HT.fJ]
   | some i=>
    simp only[sliceBounds,HT.fJ,Option.getD_none,show(1:Int) > 0 by decide,vJ]
    by_cases h:i<0
    . simp only[h,vJ]<;>omega
    . simp only[h,mw]<;>omega
theorem ab0(its:Lw)(lo hi:Option Int):slicePick its.toArray lo hi none=((its.drop (HT.fJ its.length 0 lo)).take (HT.fJ its.length its.length hi - HT.fJ its.length 0 lo)).toArray:=by
 obtain⟨h1,h2,h3⟩:=abZ lo hi its.toArray.size;unfold slicePick;rw[h1,h2,h3];simp only[sliceRange_one,pick_run,fc]<;>rfl
def ab1(K:Fg):V->Option Int->Option Int->Hp->VK->Prop:=fun x lo hi H Q=>∃a xs,x=.ref a/\ae K H a xs/\∀p,H p=none->Q (.ref p) (ah H p (.lst (oO xs lo hi)))
theorem ab2:tM X (ab1 X.K):=by
 intro pins s σ H x v vl vu lo hi sl Q I rx hs pl pu h;obtain⟨a,xs,rfl,hx,q⟩:=h;cases rx;obtain⟨its,r,ht,hz⟩:=I.list hx;have hlen:=r.length;refine⟨"list",_,VU.lookup,ht.isList.typeIs,?_⟩;refine aCe ht.isList hs pl pu .none (by simp) ?_ (by rw[fc]<;>omega);rw[ab0,←hlen];refine⟨.ref s.heap.objs.size,_,I.laid (t':=s.toks) (o:=.lst (oO xs lo hi)) (fun b ob q=>bR _ q) (aJ _) ?_,rfl,q _ (I.hok.fresh (aJ _))⟩;exact⟨ce (abV xs lo hi) hz,_,0,(r.drop (HT.fJ xs.length 0 lo)).take (HT.fJ xs.length xs.length hi - HT.fJ xs.length 0 lo),dW _ rfl⟩
def oQ:V->Bool
 | .non=>true
 | .bl _=>true
 | .int _=>true
 | .str _=>true
 | _=>false
def kH:V->V->Bool
 | .non,.non=>true
 | .bl a,.bl b=>a == b
 | .bl a,.int b=>(if a then 1 else 0) == b
 | .int a,.bl b=>a == (if b then 1 else 0)
 | .int a,.int b=>a == b
 | .str a,.str b=>a == b
 | _,_=>false
theorem ab3{A:Around}{s:Shared}{y x:V}{u v:Value}(ry:RelV y u)(rx:RelV x v)(fy:oQ y=true)(fx:oQ x=true):SeqAt.EqAt A s u v (kH y x):=by
 cases y with
 | non=>
  cases ry;cases x with
  | non=>cases rx;exact SeqAt.EqAt.same _
  | bl b=>cases rx;exact SeqAt.EqAt.none_bool b
  | int b=>obtain⟨t,rfl⟩:=rx;exact SeqAt.EqAt.none_int b t
  | str b=>obtain⟨t,rfl⟩:=rx;exact SeqAt.EqAt.none_str b t
  | _=>exact absurd (show false=true from fx) cK
 | bl a=>
  cases ry;cases x with
  | non=>cases rx;exact SeqAt.EqAt.bool_none a
  | bl b=>cases rx;exact SeqAt.EqAt.bool_bool a b
  | int b=>obtain⟨t,rfl⟩:=rx;exact SeqAt.EqAt.bool_int a b t
  | str b=>obtain⟨t,rfl⟩:=rx;exact SeqAt.EqAt.bool_str a b t
  | _=>exact absurd (show false=true from fx) cK
 | int a=>
  obtain⟨t',rfl⟩:=ry;cases x with
  | non=>cases rx;exact SeqAt.EqAt.int_none a t'
  | bl b=>cases rx;exact SeqAt.EqAt.int_bool a t' b
  | int b=>obtain⟨t,rfl⟩:=rx;exact SeqAt.EqAt.int_int a t' b t
  | str b=>obtain⟨t,rfl⟩:=rx;exact SeqAt.EqAt.int_str a t' b t
  | _=>exact absurd (show false=true from fx) cK
 | str a=>
  obtain⟨t',rfl⟩:=ry;cases x with
  | non=>cases rx;exact SeqAt.EqAt.str_none a t'
  | bl b=>cases rx;exact SeqAt.EqAt.str_bool a t' b
  | int b=>obtain⟨t,rfl⟩:=rx;exact SeqAt.EqAt.str_int a t' b t
  | str b=>obtain⟨t,rfl⟩:=rx;exact SeqAt.EqAt.str_str a t' b t
  | _=>exact absurd (show false=true from fx) cK
 | _=>exact absurd (show false=true from fy) cK
def iD(x:V)(u:Value):Bool:=match u with
 | .none=>kH .non x
 | .bool b=>kH (.bl b) x
 | .int i _=>kH (.int i) x
 | .str z _=>kH (.str z) x
 | _=>false
theorem O8{x y:V}{u:Value}(r:RelV y u)(f:oQ y=true):iD x u=kH y x:=by
 cases y with
 | non=>cases r;rfl
 | bl b=>cases r;rfl
 | int i=>obtain⟨t,rfl⟩:=r;rfl
 | str z=>obtain⟨t,rfl⟩:=r;rfl
 | _=>exact absurd (show false=true from f) cK
theorem yX{x:V}:∀{xs:Lv}{us:Lw},aQ xs us->xs.all oQ=true->us.any (iD x)=xs.any fun y=>kH y x
 | _,_,.nil,_=>rfl
 | y::xs,u::us,.cons r t,f=>by
  rw[GO,gB]at f;rw[sX,sX,O8 r f.1,yX t f.2]
theorem yY{A:Around}{s:Shared}{x:V}{v:Value}(rx:RelV x v)(fx:oQ x=true):∀{xs:Lv}{us:Lw},aQ xs us->xs.all oQ=true->∀u∈us,SeqAt.EqAt A s u v (iD x u)
 | _,_,.nil,_=>fun u hu=>by cases hu
 | y::xs,u::us,.cons r t,f=>fun u' hu=>by
  rw[GO,gB]at f
  rcases aX.mp hu with rfl | hu
  . rw[O8 r f.1];exact ab3 r rx f.1 fx
  . exact yY rx fx t f.2 u' hu
def mI(x:V)(xs:Lv):Bool:=xs.any fun y=>kH y x
def HB(K:Fg)(neg:Bool):R2:=fun x y H Q=>∃p xs,y=.ref p/\(ae K H p xs\/aW K H p xs)/\oQ x=true/\xs.all oQ=true/\Q (.bl (if neg then !mI x xs else mI x xs)) H
theorem O9:cR X (compareOp .In) (HB X.K false):=by
 intro pins s σ H x y v u Q I rx ry h;obtain⟨p,xs,rfl,hq,fx,fs,q⟩:=h;cases ry
 rcases hq with hq | hq
 . obtain⟨its,r,pl,hz⟩:=I.list hq;refine SeqAt.in_listAt (iD x) pl.isList (fun w hw=>yY rx fx r fs w (by simpa using hw)) ⟨.bl _,H,I,rfl,?_⟩;rw[show its.toArray.any (iD x)=its.any (iD x) by simp,yX r fs];exact q
 . obtain⟨its,r,pl,hz⟩:=I.tuple hq;refine SeqAt.in_tupleAt (iD x) pl (fun w hw=>yY rx fx r fs w (by simpa using hw)) ⟨.bl _,H,I,rfl,?_⟩;rw[show its.toArray.any (iD x)=its.any (iD x) by simp,yX r fs];exact q
theorem ab4:cR X (compareOp .NotIn) (HB X.K true):=by
 intro pins s σ H x y v u Q I rx ry h;obtain⟨p,xs,rfl,hq,fx,fs,q⟩:=h;cases ry
 rcases hq with hq | hq
 . obtain⟨its,r,pl,hz⟩:=I.list hq;refine SeqAt.notIn_listAt (iD x) pl.isList (fun w hw=>yY rx fx r fs w (by simpa using hw)) ⟨.bl _,H,I,rfl,?_⟩;rw[show its.toArray.any (iD x)=its.any (iD x) by simp,yX r fs];exact q
 . obtain⟨its,r,pl,hz⟩:=I.tuple hq;refine SeqAt.notIn_tupleAt (iD x) pl (fun w hw=>yY rx fx r fs w (by simpa using hw)) ⟨.bl _,H,I,rfl,?_⟩;rw[show its.toArray.any (iD x)=its.any (iD x) by simp,yX r fs];exact q
theorem gc:fv X (.builtin "len") (fun xs H Q=>∃p ys,xs=[.ref p]/\(ae X.K H p ys\/aW X.K H p ys)/\Q (.int ys.length) H):=by
 intro pins s σ H xs us Q I r h;obtain⟨p,ys,rfl,hq,q⟩:=h;obtain⟨u,rfl,rx⟩:=vals1 r;cases rx;have hn:=yO
 rcases hq with hq | hq
 . obtain⟨its,r',pl,hz⟩:=I.list hq;have hlen:=r'.length;exact Calls.call_len_list pl.isList (by simp only[fc]<;>omega) ⟨.int ys.length,H,I.tok _,⟨s.toks+1,by rw[fc,hlen]⟩,q⟩
 . obtain⟨its,r',pl,hz⟩:=I.tuple hq;have hlen:=r'.length;exact len_tuple pl (by simp only[fc]<;>omega) ⟨.int ys.length,H,I.tok _,⟨s.toks+1,by rw[fc,hlen]⟩,q⟩
theorem Pa:fv X (.builtin "len") (fun xs H Q=>∃z,xs=[.str z]/\z.length<=sizeLine/\Q (.int z.length) H):=by
 intro pins s σ H xs us Q I r h;obtain⟨z,rfl,hz,q⟩:=h;obtain⟨u,rfl,t,rfl⟩:=vals1 r;have hn:=yO;exact len_str (by omega) ⟨.int z.length,H,I.tok _,⟨_,rfl⟩,q⟩
theorem yZ:fv X (.type "list") (fun xs H Q=>∃p ys,xs=[.ref p]/\(ae X.K H p ys\/aW X.K H p ys)/\∀l,H l=none->Q (.ref l) (ah H l (.lst ys))):=by
 intro pins s σ H xs us Q I r h;obtain⟨p,ys,rfl,hq,q⟩:=h;obtain⟨u,rfl,rx⟩:=vals1 r;cases rx;have fin:∀(its:Lw),aQ ys its->ys.length<=sizeLine->∀(h':Heap) (c':Nat),(∀b o',s.heap.get? b=some o'->h'.get? b=some o') ->
  h'.get? s.heap.objs.size=some { cls:=.type "list",dict:=none,data:=.seq its.toArray c',slots:=#[] }->EP X pins σ Q (.ref s.heap.objs.size) { s with heap:=h' }:=fun its r' hz h' c' kp e=>
  ⟨.ref s.heap.objs.size,_,I.laid (t':=s.toks) kp (aJ _) (show b8 X.prog X.w _ h' _ (.lst ys) from ⟨hz,its,c',r',e⟩),rfl,q _ (I.hok.fresh (aJ _))⟩
 rcases hq with hq | hq
 . obtain⟨its,r',pl,hz⟩:=I.list hq;have hlen:=r'.length;obtain⟨o,ho,hc,n,hd⟩:=pl.isList;exact call_list_seq p (.inl rfl) ho hc hd (fun h' c' kp e=>fin its r' hz h' c' kp e) (by simp only[fc]<;>omega)
 . obtain⟨its,r',pl,hz⟩:=I.tuple hq;have hlen:=r'.length;obtain⟨o,ho,hc,n,hd⟩:=pl;exact call_list_seq p (.inr rfl) ho hc hd (fun h' c' kp e=>fin its r' hz h' c' kp e) (by simp only[fc]<;>omega)
theorem ab5:fv X (.type "tuple") (fun xs H Q=>∃p ys,xs=[.ref p]/\((ae X.K H p ys/\∀l,H l=none->Q (.ref l) (ah H l (.tup ys)))\/(aW X.K H p ys/\Q (.ref p) H))):=by
 intro pins s σ H xs us Q I r h;obtain⟨p,ys,rfl,h⟩:=h;obtain⟨u,rfl,rx⟩:=vals1 r;cases rx
 rcases h with⟨hq,q⟩ | ⟨hq,q⟩
 . obtain⟨its,r',pl,hz⟩:=I.list hq;have hlen:=r'.length;refine call_tuple_list pl.isList (fun h' kp=>?_) (by simp only[fc]<;>omega);have I1:Inv X pins σ H { s with heap:=h' }:=I.kept (t':=s.toks) kp;have I2:Inv X pins σ (ah H h'.objs.size (.tup ys)) { s with heap:=h'.push { cls:=.type "tuple",data:=.seq its.toArray } }:=
    I1.laid (t':=s.toks) (fun b o e=>bR _ e) (aJ _) (show b8 X.prog X.w _ _ _ (.tup ys) from ⟨hz,its,r',IsTup.new _ _⟩)
   exact⟨.ref h'.objs.size,_,I2,rfl,q _ (I1.hok.fresh (aJ _))⟩
 . obtain⟨its,r',pl,hz⟩:=I.tuple hq;exact call_tuple_same pl ⟨.ref p,H,I,rfl,q⟩
def HC(K:Fg)(T:String)(x:V)(H:Hp):Prop:=match x with
 | .str _=>T="str"
 | .int _=>T="int"
 | .ref p=>(T="list"/\∃xs,ae K H p xs)\/(T="tuple"/\∃o,K.lookup p=some o/\o.cls=.type "tuple"/\o.dict=none) \/
  (T="dict"/\((∃kvs,H p=some (.dK kvs))\/∃kvs,H p=some (.dT kvs)))\/(T="set"/\∃S n,H p=some (.set S n))
 | _=>False
theorem HD{pins:Po}{σ:St}{H:Hp}{s:Shared}{T:String}{x:V}{v:Value}(I:Inv X pins σ H s)(r:RelV x v)(ty:HC X.K T x H) :
 s.TypeIs v T/\∀a,v=.ref a->∃ob,s.heap.get? a=some ob/\ob.dict=none:=by
 cases x with
 | str z=>
  obtain⟨t,rfl⟩:=r;cases (show T="str" from ty);exact⟨Ce s z t,fun _ e=>nomatch e⟩
 | int i=>
  obtain⟨t,rfl⟩:=r;cases (show T="int" from ty);exact⟨typeIs_int s i t,fun _ e=>nomatch e⟩
 | ref p=>
  cases r
  rcases ty with⟨rfl,xs,hq⟩ | ⟨rfl,o,hk,hc,hd⟩ | ⟨rfl,hk⟩ | ⟨rfl,S,n,hk⟩
  . obtain⟨its,_,pl,_⟩:=I.list hq;refine⟨pl.isList.typeIs,fun a e=>?_⟩;cases e;obtain⟨o,n,e,c,hd,_⟩:=pl;exact⟨o,e,hd⟩
  . refine⟨⟨o,I.kIn p o hk,hc⟩,fun a e=>?_⟩;cases e;exact⟨o,I.kIn _ o hk,hd⟩
  . have z:∃o,s.heap.get? p=some o/\o.ExactDict:=by
     rcases hk with⟨kvs,hk⟩ | ⟨kvs,hk⟩
     . obtain⟨_,_,_,_,o,_,_,e,ex,_⟩:=I.hok p _ hk;exact⟨o,e,ex⟩
     . obtain⟨_,_,_,_,o,_,_,e,ex,_⟩:=I.hok p _ hk;exact⟨o,e,ex⟩
    obtain⟨o,e,ex⟩:=z;refine⟨⟨o,e,ex.1⟩,fun a e2=>?_⟩;cases e2;exact⟨o,e,ex.2.1⟩
  . obtain⟨o,_,_,_,e,ex,_⟩:=I.hok p _ hk;refine⟨⟨o,e,ex.1⟩,fun a e2=>?_⟩;cases e2;exact⟨o,e,ex.2.1⟩
 | _=>exact False.elim ty
def ab6(K:Fg)(T:String)(r:V->Lv->Hp->VK->Prop)(to:TE):TE:=fun σ H Q=>to σ H fun x H1=>HC K T x H1/\r x [] H1 Q
def Pb(K:Fg)(T:String)(r:V->Lv->Hp->VK->Prop)(to:TE)(t:TA):TE:=fun σ H Q=>to σ H fun x H1=>HC K T x H1/\t σ H1 fun xs H2=>r x xs H2 Q
variable {o e:Expr}{es:List Expr}{to:TE}{t:TA}{name:Str}{apos cC:Pos}{T id:String}{r:V->Lv->Hp->VK->Prop}
theorem ab7(pa:PlainAttrs T)(slot:Slot T name id)(y6:typeOf (.builtin id)=pure (.type "method_descriptor"))(hm:HA X id r)(ho:PE X o to)
 (oR:attributeBase o name X.env (eval o X.env)=eval o X.env:=by rfl) (oS:(apos.endLine == cC.line)=true:=by rfl):PE X (.Call (.Attribute o name apos) [] [] cC) (ab6 X.K T r to):=by
 intro pins s σ H Q I h;refine aCf oR oS (thn (ho pins s σ H _ I h) fun v s1 ab8=>ab8.elim fun x ab9=>ab9.elim fun H1 aca=>aca.elim fun I1 acb=>acb.elim fun r1 acd=>acd.elim fun ty q1=>?_);obtain⟨h1,h2⟩:=HD I1 r1 ty;exact⟨T,id,pa,slot,y6,h1,h2,GP rfl (PySem.evalArgs_none (hm pins s1 σ H1 x [] v [] Q I1 r1 .nil q1))⟩
theorem dr(pa:PlainAttrs T)(slot:Slot T name id)(y6:typeOf (.builtin id)=pure (.type "method_descriptor"))(hm:HA X id r)(ho:PE X o to)(ha:PA X (e::es) t)
 (oR:attributeBase o name X.env (eval o X.env)=eval o X.env:=by rfl)
 (HE:((backTo cC (starEach (e::es) X.env)).all (fun x=>!x.1) && (backToKw cC (keywordEach [] X.env)).all (fun x=>x.1.isSome)
  && decide ((e::es).length+([]:List Keyword).length+(if ([]:List Keyword).isEmpty then 0 else 1)<30))=true:=by rfl)
 (oS:(apos.endLine == cC.line)=true:=by rfl) (hs:starEach (e::es) X.env=(false,eval e X.env)::starEach es X.env:=by rfl) (HF:(backTo cC (starEach es X.env)).any (·.1)=false:=by rfl) :
 PE X (.Call (.Attribute o name apos) (e::es) [] cC) (Pb X.K T r to t):=by
 intro pins s σ H Q I h;refine wpAny_Call_method_late oR HE oS rfl (thn (ho pins s σ H _ I h) fun v s1 ace=>ace.elim fun x acf=>acf.elim fun H1 acg=>acg.elim fun I1 ach=>ach.elim fun r1 aci=>aci.elim fun ty q1=>?_);obtain⟨h1,h2⟩:=HD I1 r1 ty;refine⟨T,id,pa,slot,y6,h1,h2,?_⟩;have hA:=ha cC pins s1 σ H1 _ I1 q1;rw[hs]at hA ⊢;refine GP (by show(false || (backTo cC (starEach es X.env)).any (·.1))=false;rw[HF]<;>rfl) (NR ?_);exact thn hA fun us s2 acj=>acj.elim fun vs ack=>ack.elim fun H2 acl=>acl.elim fun I2 acm=>acm.elim fun r2 q2=>hm pins s2 σ H2 x vs v us Q I2 r1 r2 q2
end
def mJ(X:Cx)(id:String)(r:V->Lv->Hp->VK->Prop):Prop:=
 ∀(pins:Po) (s:Shared) (σ:St) (H:Hp) (x:V) (xs:Lv) (v:Value) (us:Lw) (Q:VK),Inv X pins σ H s->RelV x v->aQ xs us->r x xs H Q ->
  wpAny (model X.prog X.w) X.A (call (.builtin id) (v::us)) (EP X pins σ Q) X.xe s
theorem aQ.one:∀{x:V}{us:Lw},aQ [x] us->∃u,us=[u]/\RelV x u
 | _,_,.cons r .nil=>⟨_,rfl,r⟩
theorem aQ.zero:∀{us:Lw},aQ [] us->us=[]
 | _,.nil=>rfl
section
variable {X:Cx}{pins:Po}{σ:St}{H:Hp}{s:Shared}{l b:Addr}{xs ys zs:Lv}
theorem Inv.lset{its its':Lw}{n:Nat}{f:Av->Av}{t':Nat}(I:Inv X pins σ H s)(hH:H l=some (.lst xs))
 (e:s.heap.get? l=some { cls:=.type "list",data:=.seq its.toArray n }) (hf:f its.toArray=its'.toArray) (hv:aQ ys its') (hz:ys.length<=sizeLine) :
 Inv X pins σ (ah H l (.lst ys)) { s with heap:=s.heap.update l (Obj.mapSeq f),toks:=t' }:=by
 have q:=PySem.IsL.update e f;rw[hf]at q;refine I.write (x:=l) (e:=l) (by rw[hH];exact trivial) (.inl rfl) (fun b' u hb hu=>(GQ s.heap (Obj.mapSeq f) (fY hb)).trans hu) ⟨_,q⟩ ?_;exact⟨hz,its',_,hv,q⟩
theorem Inv.lnew{its:Lw}{t':Nat}(I:Inv X pins σ H s)(hv:aQ ys its)(hz:ys.length<=sizeLine) :
 Inv X pins σ (ah H s.heap.objs.size (.lst ys)) { s with heap:=s.heap.push { cls:=.type "list",data:=.seq its.toArray },toks:=t' }:=
 I.laid (fun _ _ q=>bR _ q) (aJ _) ⟨hz,its,0,hv,dW _ rfl⟩
theorem Inv.fresh(I:Inv X pins σ H s):H s.heap.objs.size=none:=I.hok.fresh (aJ _)
theorem Inv.lstM(I:Inv X pins σ H s)(hH:H l=some (.lst xs)):xs.length<=sizeLine/\∃(its:Lw) (n:Nat),aQ xs its/\xs.length=its.length/\s.heap.get? l=some { cls:=.type "list",data:=.seq its.toArray n }:=by
 obtain⟨z,its,n,r,e⟩:=I.hok l _ hH;exact⟨z,its,n,r,r.length,e⟩
theorem acn{n:Nat}(h:n<=sizeLine):Builtin.List.listTooLong n=false:=by
 unfold Builtin.List.listTooLong;exact cH (by omega)
end
section
variable {X:Cx}
def aco:V->Lv->Hp->VK->Prop:=fun x vs H Q=>∃l xs y,x=.ref l/\vs=[y]/\H l=some (.lst xs)/\xs.length<sizeLine/\Q .non (ah H l (.lst (xs++[y])))
theorem oU:mJ X "list.append" aco:=by
 intro pins s σ H x vs v us Q I rx rv h;obtain⟨l,xs,y,rfl,rfl,hH,hz,q⟩:=h;cases rx;obtain⟨u,rfl,ru⟩:=rv.one;obtain⟨z,its,n,r,hl,e⟩:=I.lstM hH;refine Cf F.slot_list_append ⟨_,e,rfl⟩ F.entry_list_append (F.args_list_append_2 _ _) (PySem.list_append l its.toArray n u (by rw[fc];omega)) ⟨e,?_⟩;refine⟨.non,_,I.lset (its':=its++[u]) hH e (by simp) (r.append (.cons ru .nil)) ?_,rfl,q⟩;rw[bh,iW];omega
def acp:V->Lv->Hp->VK->Prop:=fun x vs H Q=>∃l b xs zs,x=.ref l/\vs=[.ref b]/\H l=some (.lst xs)/\H b=some (.lst zs)/\xs.length+zs.length<=sizeLine/\Q .non (ah H l (.lst (xs++zs)))
theorem mK:mJ X "list.extend" acp:=by
 intro pins s σ H x vs v us Q I rx rv h;obtain⟨l,b,xs,zs,rfl,rfl,hH,hB,hz,q⟩:=h;cases rx;obtain⟨u,rfl,ru⟩:=rv.one;cases ru;obtain⟨z,its,n,r,hl,e⟩:=I.lstM hH;obtain⟨z2,tN,n2,r2,y7,e2⟩:=I.lstM hB;have hsz:its.toArray.size+tN.toArray.size<=sizeLine:=by rw[fc,fc];omega
 have acq:¬(!its.toArray.isEmpty && Builtin.List.listTooLong (its.toArray.size+tN.toArray.size))=true:=by
  rw[acn hsz,vL];exact cK
 refine Cf F.slot_list_extend ⟨_,e,rfl⟩ F.entry_list_extend (F.args_list_extend_2 _ _)
  (AutoSeq1.list_extend_list_list_0 l its.toArray n b tN.toArray n2 acq (by rw[fc];omega) (by omega)) ⟨e,e2,?_⟩
 refine⟨.non,_,I.lset (its':=its++tN) hH e (by simp) (r.append r2) ?_,rfl,q⟩;rw[bh];omega
def acr:V->Lv->Hp->VK->Prop:=fun x vs H Q=>∃l xs,x=.ref l/\vs=[]/\H l=some (.lst xs)/\Q .non (ah H l (.lst []))
theorem acs:mJ X "list.clear" acr:=by
 intro pins s σ H x vs v us Q I rx rv h;obtain⟨l,xs,rfl,rfl,hH,q⟩:=h;cases rx;have hus:=rv.zero;subst hus;obtain⟨z,its,n,r,hl,e⟩:=I.lstM hH;refine Cf F.slot_list_clear ⟨_,e,rfl⟩ F.entry_list_clear (F.args_list_clear_1 _) (AutoSeq1.list_clear_list_0 l its.toArray n (by rw[fc];omega)) ⟨e,?_⟩;exact⟨.non,_,I.lset (its':=[]) (ys:=[]) hH e rfl .nil (dw _),rfl,q⟩
def acu:R2:=fun x y H Q=>∃l b xs zs,x=.ref l/\y=.ref b/\H l=some (.lst xs)/\H b=some (.lst zs)/\xs.length+zs.length<=sizeLine/\∀p,H p=none->Q (.ref p) (ah H p (.lst (xs++zs)))
theorem acv:cR X (binaryOp .Add) acu:=by
 intro pins s σ H x y v u Q I rx ry h;obtain⟨l,b,xs,zs,rfl,rfl,hH,hB,hz,q⟩:=h;cases rx;cases ry;obtain⟨z,its,n,r,hl,e⟩:=I.lstM hH;obtain⟨z2,tN,n2,r2,y7,e2⟩:=I.lstM hB;refine PySem.P.add_list e e2 ?_ (by rw[fc,fc];omega);have ea:its.toArray++tN.toArray=(its++tN).toArray:=by simp
 rw[ea];exact⟨.ref _,_,I.lnew (t':=s.toks) (r.append r2) (by rw[bh];omega),rfl,q _ I.fresh⟩
end
section
variable {prog:Program}{w:World}{A:Around}{E:VP}{s:Shared}
set_option maxRecDepth 100000 in
end
section
variable {X:Cx}
end
section
variable {κ:Type} [DecidableEq κ]
def bg(kvs:List (κ×V))(k:κ):Option V:=(kvs.find? fun kv=>decide (kv.1=k)).map (·.2)
def cD(kvs:List (κ×V))(k:κ)(v:V):List (κ×V):=
 if (kvs.any fun kv=>decide (kv.1=k))=true then kvs.map (fun kv=>if kv.1=k then(kv.1,v) else kv) else kvs++[(k,v)]
def qX(kvs:List (κ×V))(k:κ):List (κ×V):=kvs.filter fun kv=>decide (kv.1≠k)
theorem kI{p:κ×V}{r:List (κ×V)}{k:κ}(e:p.1=k):bg (p::r) k=some p.2:=by simp[bg,vM,e]
theorem iY{p:κ×V}{r:List (κ×V)}{k:κ}(e:¬p.1=k):bg (p::r) k=bg r k:=by simp[bg,vM,e]
theorem y8(k:κ):∀kvs:List (κ×V),(kvs.any fun kv=>decide (kv.1=k))=(bg kvs k).isSome
 | []=>rfl
 | p::r=>by
  rw[sX]
  by_cases e:p.1=k
  . simp only[kI e,bG e,VW,Option.isSome_some]
  . rw[iY e,cH e,Bool.false_or];exact y8 k r
theorem Pc(k j:κ)(y:V):∀kvs:List (κ×V),bg (kvs.map fun kv=>if kv.1=k then(kv.1,y) else kv) j=(bg kvs j).map fun x=>if j=k then y else x
 | []=>rfl
 | p::r=>by
  have ih:=Pc k j y r;rw[bL]
  by_cases h:p.1=k
  . rw[aq h]
    by_cases e:p.1=j
    . rw[kI (p:=(p.1,y)) e,kI e,vN,aq (e.symm.trans h)]
    . rw[iY (p:=(p.1,y)) e,iY e,ih]
  . rw[ai h]
    by_cases e:p.1=j
    . rw[kI (p:=p) e,kI e,vN,ai (fun z=>h (e.trans z))]
    . rw[iY (p:=p) e,iY e,ih]
theorem Pd(k j:κ)(y:V):∀kvs:List (κ×V),bg kvs k=none->bg (kvs++[(k,y)]) j=if j=k then some y else bg kvs j
 | [],_=>by
  by_cases e:k=j
  . rw[aq e.symm];exact kI (p:=(k,y)) e
  . rw[ai (fun z=>e z.symm)];exact iY (p:=(k,y)) e
 | p::r,hn=>by
  rw[qC];have hk:¬p.1=k:=fun z=>by rw[kI z]at hn;cases hn
  rw[iY hk]at hn;have ih:=Pd k j y r hn
  by_cases e:p.1=j
  . rw[kI e,kI e,ai (fun z=>hk (e.trans z))]
  . rw[iY e,iY e,ih]
theorem CY(kvs:List (κ×V))(k j:κ)(y:V):bg (cD kvs k y) j=if j=k then some y else bg kvs j:=by
 unfold cD
 by_cases a:(kvs.any fun kv=>decide (kv.1=k))=true
 . rw[aq a,Pc];rw[y8]at a
   by_cases e:j=k
   . obtain⟨x,hx⟩:=NP.mp a;rw[aq e,e,hx,vN,aq rfl]
   . rw[ai e];cases bg kvs j with
     | none=>rfl
     | some x=>rw[vN,ai e]
 . rw[ai a];refine Pd k j y kvs ?_;rw[y8]at a;cases q:bg kvs k with
   | none=>rfl
   | some x=>rw[q]at a;exact(a rfl).elim
theorem y9(kvs:List (κ×V))(k:κ)(v:V):(cD kvs k v).length<=kvs.length+1:=by
 unfold cD;split
 . rw[am];omega
 . rw[bh,bO,ki];omega
theorem HG{kvs:List (κ×V)}{k:κ}(v:V)(h:bg kvs k=none):cD kvs k v=kvs++[(k,v)]:=by
 unfold cD;rw[y8,h];exact ai (by decide)
theorem f8.isSome_eq{o:Option V}{u:Option Value}(r:f8 o u):o.isSome=u.isSome:=by
 cases o with
 | none=>cases u with
  | none=>rfl
  | some _=>exact(show False from r).elim
 | some _=>cases u with
  | none=>exact(show False from r).elim
  | some _=>rfl
theorem f8.getD{o:Option V}{u:Option Value}{d:V}{d':Value}(r:f8 o u)(rd:RelV d d'):RelV (o.getD d) (u.getD d'):=by
 cases o with
 | none=>cases u with
  | none=>exact rd
  | some _=>exact(show False from r).elim
 | some _=>cases u with
  | none=>exact(show False from r).elim
  | some _=>exact r
theorem KV.val{kvs:List (κ×V)}{vs:List (κ×Value)}(r:KV kvs vs)(k:κ):f8 (bg kvs k) (valueAt vs k):=by
 unfold KV at r
 induction r with
 | nil=>exact True.intro
 | @cons p q ps qs h t ih=>
  obtain⟨h1,h2⟩:=h
  by_cases e:p.1=k
  . have e':q.1=k:=h1.symm.trans e;have b:valueAt (q::qs) k=some q.2:=by simp[valueAt,vM,e']
    rw[kI e,b];exact h2
  . have e':¬q.1=k:=fun z=>e (h1.trans z);have b:valueAt (q::qs) k=valueAt qs k:=by simp[valueAt,vM,e']
    rw[iY e,b];exact ih
theorem KV.any{kvs:List (κ×V)}{vs:List (κ×Value)}(r:KV kvs vs)(k:κ):(kvs.any fun kv=>decide (kv.1=k))=vs.any fun kv=>decide (kv.1=k):=by
 unfold KV at r
 induction r with
 | nil=>rfl
 | cons h t ih=>rw[sX,sX,ih,h.1]
theorem KV.repl{kvs:List (κ×V)}{vs:List (κ×Value)}(r:KV kvs vs)(k:κ){y:V}{u:Value}(ry:RelV y u) :
 KV (kvs.map fun kv=>if kv.1=k then(kv.1,y) else kv) (vs.map fun kv=>if kv.1=k then(kv.1,u) else kv):=by
 unfold KV at r ⊢
 induction r with
 | nil=>exact .nil
 | @cons p q ps qs h t ih=>
  rw[bL,bL];refine .cons ?_ ih;obtain⟨h1,h2⟩:=h
  by_cases e:p.1=k
  . rw[aq e,aq (h1.symm.trans e)];exact⟨h1,ry⟩
  . rw[ai e,ai (fun z=>e (h1.trans z))];exact⟨h1,h2⟩
theorem KV.put{kvs:List (κ×V)}{vs:List (κ×Value)}(r:KV kvs vs)(k:κ){y:V}{u:Value}(ry:RelV y u):KV (cD kvs k y) (stored vs k u):=by
 unfold cD stored;rw[r.any k]
 by_cases e:(vs.any fun kv=>decide (kv.1=k))=true
 . rw[aq e,aq e];exact r.repl k ry
 . rw[ai e,ai e];exact Paired.snoc r ⟨rfl,ry⟩
theorem KV.drop{kvs:List (κ×V)}{vs:List (κ×Value)}(r:KV kvs vs)(k:κ):KV (qX kvs k) (without vs k):=by
 unfold KV at r ⊢;unfold qX without
 induction r with
 | nil=>exact .nil
 | @cons p q ps qs h t ih=>
  obtain⟨h1,h2⟩:=h;rw[qD,qD]
  by_cases e:p.1=k
  . have a:¬decide (p.1≠k)=true:=by simp[e]
    have b:¬decide (q.1≠k)=true:=by simp[h1.symm.trans e]
    rw[ai a,ai b];exact ih
  . have e':¬q.1=k:=fun z=>e (h1.trans z);have a:decide (p.1≠k)=true:=by simp[e]
    have b:decide (q.1≠k)=true:=by simp[e']
    rw[aq a,aq b];exact .cons ⟨h1,h2⟩ ih
theorem KV.length{kvs:List (κ×V)}{vs:List (κ×Value)}(r:KV kvs vs):kvs.length=vs.length:=VI r
theorem acw(kvs:List (κ×V))(k:κ):(qX kvs k).length<=kvs.length:=Cg _ _
end
theorem mL{P:Program}{w:World}{k:aw}{u:Value}(r:RelV (kV k) u):(cj P w).is k u=true:=by
 cases k with
 | inl i=>obtain⟨t,e⟩:=(show∃t,u=Value.int i t from r);subst e;exact WK P w i t
 | inr x=>obtain⟨t,e⟩:=(show∃t,u=Value.str x t from r);subst e;exact tu P w x t
theorem Pe{P:Program}{w:World}:∀{ks:List aw}{us:Lw},aQ (ks.map kV) us->ItemsAre (cj P w) ks us
 | [],_,r=>by rw[yu]at r;cases r;exact .nil
 | k::ks,_,r=>by
  rw[bL]at r;cases r with
  | cons h t=>exact .cons (mL h) (Pe t)
abbrev KT (H:Hp):List (List NI×V)->List (List NI×Addr×Value)->Prop:=Paired fun p q=>p.1=q.1/\ku H p.1 q.2.1/\RelV p.2 q.2.2
theorem KT.val{H:Hp}{kvs:List (List NI×V)}{xs:List (List NI×Addr×Value)}(r:KT H kvs xs)(k:List NI):f8 (bg kvs k) ((atKey xs k).map (·.2)):=by
 induction r with
 | nil=>exact True.intro
 | @cons p q ps qs h t ih=>
  obtain⟨h1,_,h2⟩:=h
  by_cases e:p.1=k
  . have e':q.1=k:=h1.symm.trans e;have b:atKey (q::qs) k=some q.2:=by simp[atKey,vM,e']
    rw[kI e,b];exact h2
  . have e':¬q.1=k:=fun z=>e (h1.trans z);have b:atKey (q::qs) k=atKey qs k:=by simp[atKey,vM,e']
    rw[iY e,b];exact ih
theorem KT.repl{H:Hp}{kvs:List (List NI×V)}{xs:List (List NI×Addr×Value)}(r:KT H kvs xs)(k:List NI){y:V}{u:Value}(ry:RelV y u) :
 KT H (kvs.map fun kv=>if kv.1=k then(kv.1,y) else kv) (xs.map (putAt k u)):=by
 induction r with
 | nil=>exact .nil
 | @cons p q ps qs h t ih=>
  rw[bL,bL];refine .cons ?_ ih;obtain⟨h1,h2,h3⟩:=h;unfold putAt
  by_cases e:p.1=k
  . rw[aq e,aq (h1.symm.trans e)];exact⟨h1,h2,ry⟩
  . rw[ai e,ai (fun z=>e (h1.trans z))];exact⟨h1,h2,h3⟩
theorem KT.put{H:Hp}{kvs:List (List NI×V)}{xs:List (List NI×Addr×Value)}(r:KT H kvs xs)(k:List NI){b:Addr}{y:V}{u:Value}(hb:ku H k b)(ry:RelV y u) :
 KT H (cD kvs k y) (storedH xs k b u):=by
 have e:(kvs.any fun kv=>decide (kv.1=k))=(atKey xs k).isSome:=by
  rw[y8,(r.val k).isSome_eq,VX]
 unfold cD storedH;rw[e]
 by_cases q:(atKey xs k).isSome=true
 . rw[aq q,aq q];exact r.repl k ry
 . rw[ai q,ai q];exact Paired.snoc r ⟨rfl,hb,ry⟩
theorem KT.keeps{H H':Hp}{kvs:List (List NI×V)}{xs:List (List NI×Addr×Value)}(r:KT H kvs xs)(ht:∀b ys,H b=some (.tup ys)->H' b=some (.tup ys)):KT H' kvs xs:=
 Paired.mapP r fun _ _ z=>⟨z.1,z.2.1.keeps ht,z.2.2⟩
section
variable {P:Program}{w:World}{H:Hp}{h:Heap}{a:Addr}
theorem Pf{u:HO}(ok:bY P w H h)(e:Rd H a u):b8 P w H h a u:=e.ok ok
theorem qY{kvs:List (aw×V)}(ok:bY P w H h)(e:Rd H a (.dK kvs)):kvs.length<=sizeLine/\(a == sysModules)=false/\∃vs,KV kvs vs/\h.DictOf (cj P w) a vs:=
 show b8 P w H h a (.dK kvs) from Pf ok e
theorem oV{kvs:List (aw×V)}(ok:bY P w H h)(e:H a=some (.dK kvs)):kvs.length<=sizeLine/\(a == sysModules)=false/\∃vs,KV kvs vs/\h.DictOf (cj P w) a vs:=qY ok (.inl e)
theorem acx{ks:List NI}{vs:Lv}{us:Lw}(ok:bY P w H h)(x:Om H ks vs)(r:aQ vs us):iw P w h ks us:=by
 induction x generalizing us with
 | nil=>cases r;exact .nil
 | @cons i v ks vs p _ ih=>
  cases r with
  | cons rv rr=>
   refine .cons ?_ (ih rr);cases i with
   | inl k=>
    have p:v=kV k:=p;subst p;exact mL (P:=P) (w:=w) rv
   | inr l=>
    obtain⟨b,rfl,e⟩:=p;cases rv;obtain⟨_,its,r2,o,h1,h2,n,h3⟩:=(show b8 P w H h b (.tup (l.map kV)) from ok b _ e);exact⟨b,rfl,o,its.toArray,n,h1,h2,h3,by simpa using Pe r2⟩
theorem wg{ks:List NI}(ok:bY P w H h)(e:ku H ks a):(tw P w).is h ks a:=by
 obtain⟨vs,e,x⟩:=e;obtain⟨_,its,r,o,h1,h2,n,h3⟩:=(show b8 P w H h a (.tup vs) from ok a _ e);exact⟨o,its.toArray,n,h1,h2,h3,by simpa using acx ok x r⟩
theorem tO{kvs:List (List NI×V)}(ok:bY P w H h)(e:Rd H a (.dT kvs)):kvs.length<=sizeLine/\(a == sysModules)=false /\
 ∃xs,KT H kvs xs/\h.DictOfH (tw P w) a xs:=by
 obtain⟨z,y,xs,r,o,es,ep,h1,h2,h3,h4,h5⟩:=(show b8 P w H h a (.dT kvs) from Pf ok e);refine⟨z,y,xs,r,o,es,ep,h1,h2,h3,h4,fun x hx=>?_,h5⟩;have all:∀{l:List (List NI×V)}{m:List (List NI×Addr×Value)},KT H l m->∀x∈m,(tw P w).is h x.1 x.2.1:=by
  intro l m q
  induction q with
  | nil=>intro x hx;exact nomatch hx
  | @cons p q ps qs hq t ih=>
   intro x hx
   rcases aX.mp hx with e | hx
   . subst e;exact wg ok (by rw[←hq.1];exact hq.2.1)
   . exact ih x hx
 exact all r x hx
theorem acy{kvs:List (List NI×V)}(ok:bY P w H h)(e:H a=some (.dT kvs)):kvs.length<=sizeLine/\(a == sysModules)=false /\
 ∃xs,KT H kvs xs/\h.DictOfH (tw P w) a xs:=tO ok (.inl e)
end
def df(H:Hp)(a:Addr)(y:V)(r:Option V):Prop:=
 (∃kvs k,Rd H a (.dK kvs)/\y=kV k/\r=bg kvs k)\/∃kvs k b,Rd H a (.dT kvs)/\y=.ref b/\ku H k b/\r=bg kvs k
def fK(H:Hp)(a:Addr)(y v:V)(H':Hp):Prop:=
 (∃kvs k,H a=some (.dK kvs)/\y=kV k/\kvs.length<sizeLine/\H'=ah H a (.dK (cD kvs k v))) \/
 ∃kvs k b,H a=some (.dT kvs)/\y=.ref b/\ku H k b/\kvs.length<sizeLine/\H'=ah H a (.dT (cD kvs k v))
theorem df.k{H:Hp}{a:Addr}{kvs:List (aw×V)}{k:aw}(e:H a=some (.dK kvs)):df H a (kV k) (bg kvs k):=.inl ⟨kvs,k,.inl e,rfl,rfl⟩
theorem df.t{H:Hp}{a b:Addr}{kvs:List (List NI×V)}{k:List NI}(e:H a=some (.dT kvs))(eb:ku H k b):df H a (.ref b) (bg kvs k):=.inr ⟨kvs,k,b,.inl e,rfl,eb,rfl⟩
theorem fK.k{H:Hp}{a:Addr}{kvs:List (aw×V)}{k:aw}{v:V}(e:H a=some (.dK kvs))(hl:kvs.length<sizeLine):fK H a (kV k) v (ah H a (.dK (cD kvs k v))):=.inl ⟨kvs,k,e,rfl,hl,rfl⟩
theorem fK.t{H:Hp}{a b:Addr}{kvs:List (List NI×V)}{k:List NI}{v:V}(e:H a=some (.dT kvs))(eb:ku H k b)(hl:kvs.length<sizeLine) :
 fK H a (.ref b) v (ah H a (.dT (cD kvs k v))):=.inr ⟨kvs,k,b,e,rfl,eb,hl,rfl⟩
section
variable {X:Cx}{pins:Po}{σ:St}{H:Hp}{s:Shared}{a:Addr}{y v:V}{u r:Value}{o:Option V}{A:Around}{E:VP}
theorem Inv.big(I:Inv X pins σ H s):sysModules<s.heap.objs.size:=by
 have h:mainGlobals<s.heap.objs.size:=(I.mod.glob.keeps I.bk).lt;exact yw (by decide) h
theorem acz{Q:VP}(hu:A.units+64<cLine)(I:Inv X pins σ H s)(g:df H a y (some v))(ry:RelV y u)(h:∀w' s',Inv X pins σ H s'->RelV v w'->Q w' s') :
 wpAny (model X.prog X.w) A (getItem (.ref a) u) Q E s:=by
 rcases g with⟨kvs,k,e,ey,l⟩ | ⟨kvs,k,b,e,ey,eb,l⟩
 . subst ey;obtain⟨z,hd,vs,rel,dd⟩:=qY I.hok e;obtain⟨w',hw,iC⟩:=f8.some_of (v:=v) (o:=valueAt vs k) (by rw[l];exact rel.val k);exact wpAny_getItem_of (mL ry) dd.mapOf hw (h w' _ (I.tok _) iC)
 . subst ey;cases (show u=Value.ref b from ry);obtain⟨z,hd,xs,rel,dd⟩:=tO I.hok e;obtain⟨w',hw,iC⟩:=f8.some_of (v:=v) (o:=(atKey xs k).map (·.2)) (by rw[l];exact rel.val k);obtain⟨p,hp,HH⟩:=aCg.mp hw;refine wpAny_getItem_heap (yI hu) (wg I.hok eb) dd hp ?_;rw[HH];exact h w' _ (I.tok _) iC
theorem acA{Q:VP}(hu:A.units+64<cLine)(I:Inv X pins σ H s)(g:df H a y o)(ry:RelV y u)(h:∀s',Inv X pins σ H s'->Q (.bool o.isSome) s') :
 wpAny (model X.prog X.w) A (compareOp .In u (.ref a)) Q E s:=by
 rcases g with⟨kvs,k,e,ey,l⟩ | ⟨kvs,k,b,e,ey,eb,l⟩
 . subst ey;obtain⟨z,hd,vs,rel,dd⟩:=qY I.hok e;refine wpAny_in_of (mL ry) hd dd.mapOf ?_;rw[←(rel.val k).isSome_eq,←l];exact h _ (I.tok _)
 . subst ey;cases (show u=Value.ref b from ry);obtain⟨z,hd,xs,rel,dd⟩:=tO I.hok e;refine wpAny_in_heap (yI hu) (wg I.hok eb) hd dd ?_;have q:=(rel.val k).isSome_eq;rw[VX]at q;rw[←q,←l];exact h _ (I.tok _)
theorem acB{Q:VP}(hu:A.units+64<cLine)(I:Inv X pins σ H s)(g:df H a y o)(ry:RelV y u)(h:∀s',Inv X pins σ H s'->Q (.bool (!o.isSome)) s') :
 wpAny (model X.prog X.w) A (compareOp .NotIn u (.ref a)) Q E s:=by
 rcases g with⟨kvs,k,e,ey,l⟩ | ⟨kvs,k,b,e,ey,eb,l⟩
 . subst ey;obtain⟨z,hd,vs,rel,dd⟩:=qY I.hok e;refine wpAny_notIn_of (mL ry) hd dd.mapOf ?_;rw[←(rel.val k).isSome_eq,←l];exact h _ (I.tok _)
 . subst ey;cases (show u=Value.ref b from ry);obtain⟨z,hd,xs,rel,dd⟩:=tO I.hok e;refine wpAny_notIn_heap (yI hu) (wg I.hok eb) hd dd ?_;have q:=(rel.val k).isSome_eq;rw[VX]at q;rw[←q,←l];exact h _ (I.tok _)
theorem wj{h':Heap}{t':Nat}{ob:HO}(I:Inv X pins σ H s)(mu:yJ (H a))(hs:Heap.SameBut a s.heap h')(he:∃q,h'.get? a=some q)(new:b8 X.prog X.w (ah H a ob) h' a ob) :
 Inv X pins σ (ah H a ob) { s with heap:=h',toks:=t' }:=
 I.write (x:=a) (e:=a) mu (.inl rfl) (fun b q hb z=>(hs.2 b hb).trans z) he new
theorem wk{P:Program}{w:World}{H':Hp}{h':Heap}{kvs:List (aw×V)}{vs:List (aw×Value)}(z:kvs.length<=sizeLine)(hd:(a == sysModules)=false)(rel:KV kvs vs)(dd:h'.DictOf (cj P w) a vs) :
 b8 P w H' h' a (.dK kvs):=⟨z,hd,vs,rel,dd⟩
theorem acC{H':Hp}{Q:Unit->Shared->Prop}(hu:A.units+64<cLine)(I:Inv X pins σ H s)(g:fK H a y v H')(ry:RelV y u)(rv:RelV v r)(h:∀s',Inv X pins σ H' s'->Q () s') :
 wpAny (model X.prog X.w) A (setItem (.ref a) u r) Q E s:=by
 rcases g with⟨kvs,k,e,ey,l,eH⟩ | ⟨kvs,k,b,e,ey,eb,l,eH⟩
 . subst ey eH;obtain⟨z,hd,vs,rel,dd⟩:=oV I.hok e;have hz:vs.length<=sizeLine:=by rw[←rel.length];exact z
   have hl:(cD kvs k v).length<=sizeLine:=by have:=y9 kvs k v;omega
   refine wpAny_setItem_pairs (hsz:=hz) (mL ry) dd fun h' gG hs=>h _ ?_;have he:∃q,h'.get? a=some q:=gG.elim fun q acD=>acD.elim fun _ acE=>acE.elim fun _ acF=>acF.elim fun hq _=>⟨q,hq⟩;exact wj I (by rw[e];exact True.intro) hs he (wk hl hd (rel.put k rv) gG)
 . subst ey eH;cases (show u=Value.ref b from ry);obtain⟨z,hd,xs,rel,dd⟩:=acy I.hok e;have hz:xs.length<=sizeLine:=by rw[←VI rel];exact z
   have hl:(cD kvs k v).length<=sizeLine:=by have:=y9 kvs k v;omega
   refine wpAny_setItem_heap (hsz:=hz) (yI hu) (wg I.hok eb) dd fun h' gG hs=>h _ ?_;obtain⟨q,es,ep,hq,h2,h3,h4,_,h5⟩:=gG;refine wj I (by rw[e];exact True.intro) hs ⟨q,hq⟩ ⟨hl,hd,_,(rel.put k eb rv).keeps fun c ys ec=>?_,q,es,ep,hq,h2,h3,h4,h5⟩;rw[aV (aO ec e (fun z=>nomatch z))];exact ec
end
section
variable {X:Cx}{pins:Po}{σ:St}{H:Hp}{s:Shared}{a:Addr}{kvs:List (aw×V)} {k:aw}{u:Value}{A:Around}{E:VP}
theorem acG{v:V}{more:Lw}{Q:VP}(I:Inv X pins σ H s)(e:H a=some (.dK kvs))(ry:RelV (kV k) u)(l:bg kvs k=some v)(hm:more=[]\/∃x,more=[x])
 (h:∀w' s',Inv X pins σ (ah H a (.dK (qX kvs k))) s'->RelV v w'->Q w' s'):wpAny (model X.prog X.w) A (call (.builtin "dict.pop") (.ref a::u::more)) Q E s:=by
 obtain⟨z,hd,vs,rel,dd⟩:=oV I.hok e;obtain⟨w',hw,iC⟩:=f8.some_of (v:=v) (o:=valueAt vs k) (by rw[←l];exact rel.val k);have hp:(keyPart u).isSome=true:=by
  cases k with
  | inl i=>obtain⟨t,q⟩:=(show∃t,u=Value.int i t from ry);subst q;rfl
  | inr x=>obtain⟨t,q⟩:=(show∃t,u=Value.str x t from ry);subst q;rfl
 have ha:argsOk "dict.pop" ⟨.ref a::u::more,[]⟩:=by
  rcases hm with q | ⟨x,q⟩
  . subst q;exact PySem.F.args_dict_pop_2 _ _
  . subst q;exact PySem.F.args_dict_pop_3 _ _ _
 refine Ci aCh dd.typeIs PySem.F.entry_dict_pop ha (meets_dict_pop_there (cj X.prog X.w) a (mL ry) more hm hp)
  ⟨vs,w',dd,by rw[←rel.length];exact z,hw,fun h' gG hs=>h w' _ ?_ iC⟩
 have he:∃q,h'.get? a=some q:=gG.elim fun q acH=>acH.elim fun _ acI=>acI.elim fun _ acJ=>acJ.elim fun hq _=>⟨q,hq⟩;exact wj I (by rw[e];exact True.intro) hs he (wk (ce (acw kvs k) z) hd (rel.drop k) gG)
end
def Pg(i:Expr):Prop:=∀ov iv,subscripted i false ov iv=operate [ov,iv] (getItem ov iv)
theorem acK{prog:Program}{w:World}{A:Around}{E:VP}{s:Shared}{env:Env}{value slice:Expr}{pos:Pos}{T id:String}{Q:VP}
 (hl:typeLookup (.type T) "__getitem__"=pure (some (.builtin id))) (hs:Pg slice)
 (h:wpAny (model prog w) A (eval value env) (fun o s₁=>wpAny (model prog w) A (eval slice env) (fun i s₂=>s₂.TypeIs o T/\wpAny (model prog w) A (getItem o i) Q E s₂) E s₁) E s) :
 wpAny (model prog w) A (eval (.Subscript value slice pos) env) Q E s:=by
 refine NQ (eg h (fun o s₁ h₁=>eg h₁ (fun i s₂ h₂=>?_) fun _ _ x=>x) fun _ _ x=>x);obtain⟨hT,h₂⟩:=h₂;unfold subscriptTail;refine af ?_;rw[getitemInPython_of_ne hT.not_modules];refine af (B6 hT hl ?_);have fin:wpAny (model prog w) A (subscripted slice false o i) (fun r s₃=>wpAny (model prog w) A (letTemporaryGo value o r >>= fun _=>pure r) Q E s₃) E s₂:=by
  rw[hs o i];exact wpAny_operating (eg h₂ (fun r s₃ h₃=>af (wpAny_letTemporaryGo (au h₃))) fun _ _ x=>x)
 first
  | exact au (af fin)
  | exact af (au (af fin))
  | exact af fin
theorem acL{X:Cx}{pins:Po}{σ:St}{H:Hp}{s:Shared}{a:Addr}{y:V}{o:Option V}(I:Inv X pins σ H s)(g:df H a y o):s.TypeIs (.ref a) "dict":=by
 rcases g with⟨kvs,k,e,_,_⟩ | ⟨kvs,k,b,e,_,_,_⟩
 . obtain⟨_,_,vs,_,dd⟩:=qY I.hok e;exact dd.typeIs
 . obtain⟨_,_,xs,_,dd⟩:=tO I.hok e;exact dd.typeIs
def acM(td ty:TE):TE:=fun σ H Q=>td σ H fun x H1=>ty σ H1 fun y H2=>∃a v,x=.ref a/\df H2 a y (some v)/\Q v H2
def acN(ty td:TE):TE:=fun σ H Q=>ty σ H fun y H1=>td σ H1 fun x H2=>∃a o,x=.ref a/\df H2 a y o/\Q (.bl o.isSome) H2
def acO(ty td:TE):TE:=fun σ H Q=>ty σ H fun y H1=>td σ H1 fun x H2=>∃a o,x=.ref a/\df H2 a y o/\Q (.bl (!o.isSome)) H2
def acP(td ty tv:TE):TS:=fun D σ H=>tv σ H fun v H1=>td σ H1 fun x H2=>ty σ H2 fun y H3=>∃a H4,x=.ref a/\fK H3 a y v H4/\D.nx σ H4
section
variable {X:Cx}{o i e value:Expr}{pos pos' wc:Pos}{td ty tv:TE}
theorem qZ(hu:X.A.units+64<cLine)(ho:PE X o td)(hi:PE X i ty)(hs:Pg i):PE X (.Subscript o i pos) (acM td ty):=by
 intro pins s σ H Q I h;refine acK PySem.F.slot_dict_getitem.lookup hs (thn (ho pins s σ H _ I h) fun u s1 acQ=>acQ.elim fun x acR=>acR.elim fun H1 acS=>acS.elim fun I1 acT=>acT.elim fun rx q1=>thn (hi pins s1 σ H1 _ I1 q1) fun iv s2 acU=>acU.elim fun y acV=>acV.elim fun H2 acW=>acW.elim fun I2 acX=>acX.elim fun ry acY=>acY.elim fun a acZ=>acZ.elim fun v ac0=>ac0.elim fun ex ac1=>ac1.elim fun g q2=>?_);subst ex;obtain rfl:u=Value.ref a:=rx;exact⟨acL I2 g,acz hu I2 g ry fun w' s3 I3 iC=>⟨v,H2,I3,iC,q2⟩⟩
theorem CZ(hu:X.A.units+64<cLine)(hi:PE X i ty)(ho:PE X o td):PC X .In i o (acN ty td):=by
 intro pins s σ H Q I h;refine thn (hi pins s σ H _ I h) fun iv s1 ac2=>ac2.elim fun y ac3=>ac3.elim fun H1 ac4=>ac4.elim fun I1 ac5=>ac5.elim fun ry q1=>thn (ho pins s1 σ H1 _ I1 q1) fun u s2 ac6=>ac6.elim fun x ac7=>ac7.elim fun H2 ac8=>ac8.elim fun I2 ac9=>ac9.elim fun rx ada=>ada.elim fun a adb=>adb.elim fun ov adc=>adc.elim fun ex add=>add.elim fun g q2=>?_;subst ex;obtain rfl:u=Value.ref a:=rx;exact acA hu I2 g ry fun s3 I3=>⟨.bl ov.isSome,H2,I3,rfl,q2⟩
theorem Ph(hu:X.A.units+64<cLine)(hi:PE X i ty)(ho:PE X o td):PC X .NotIn i o (acO ty td):=by
 intro pins s σ H Q I h;refine thn (hi pins s σ H _ I h) fun iv s1 ade=>ade.elim fun y adf=>adf.elim fun H1 adg=>adg.elim fun I1 adh=>adh.elim fun ry q1=>thn (ho pins s1 σ H1 _ I1 q1) fun u s2 adi=>adi.elim fun x adj=>adj.elim fun H2 adk=>adk.elim fun I2 adl=>adl.elim fun rx adm=>adm.elim fun a adn=>adn.elim fun ov ado=>ado.elim fun ex adp=>adp.elim fun g q2=>?_;subst ex;obtain rfl:u=Value.ref a:=rx;exact acB hu I2 g ry fun s3 I3=>⟨.bl (!ov.isSome),H2,I3,rfl,q2⟩
theorem iZ(hu:X.A.units+64<cLine)(ho:PE X o td)(hi:PE X i ty)(hv:PE X value tv)(hs:swapsWith value (some (.Subscript o i pos')) pos.line X.env=pure false) :
 PS X (.Assign [.Subscript o i pos'] value pos) (acP td ty tv):=by
 intro pins s σ H D I h;refine wpAny_Assign_Subscript (thn (hv pins s σ H _ I h) fun r s1 adq=>adq.elim fun v adr=>adr.elim fun H1 ads=>ads.elim fun I1 adt=>adt.elim fun rv q1=>thn (ho pins s1 σ H1 _ I1 q1) fun u s2 adu=>adu.elim fun x adv=>adv.elim fun H2 adw=>adw.elim fun I2 adx=>adx.elim fun rx q2=>thn (hi pins s2 σ H2 _ I2 q2) fun iv s3 ady=>ady.elim fun y adz=>adz.elim fun H3 adA=>adA.elim fun I3 adB=>adB.elim fun ry adC=>adC.elim fun a adD=>adD.elim fun H4 adE=>adE.elim fun ex adF=>adF.elim fun g q3=>?_) hs;subst ex;obtain rfl:u=Value.ref a:=rx;exact acC hu I3 g ry rv fun s4 I4=>⟨σ,H4,I4,q3⟩
end
theorem Pj{P:Program}{w:World}{H:Hp}(h:Heap)(hb:sysModules<h.objs.size):b8 P w H (h.push { cls:=.type "dict",data:=.dict #[] }) h.objs.size (.dK []):=
 ⟨dw _,yi.mpr (fY (cV hb)),[],.nil,Heap.DictOf.new h⟩
theorem adG{P:Program}{w:World}{H:Hp}(h:Heap)(hb:sysModules<h.objs.size):b8 P w H (h.push { cls:=.type "dict",data:=.dict #[] }) h.objs.size (.dT []):=
 ⟨dw _,yi.mpr (fY (cV hb)),[],.nil,_,#[],0,dW _ rfl,⟨rfl,rfl,rfl⟩,rfl,rfl,kj⟩
def adH:TE:=fun _ H Q=>∀p,H p=none->Q (.ref p) (ah H p (.dK []))
def adI:TE:=fun _ H Q=>∀p,H p=none->Q (.ref p) (ah H p (.dT []))
section
variable {X:Cx}{pos:Pos}
theorem adJ:PE X (.Dict [] [] pos) adH:=fun pins s σ H Q I h=>
 wpAny_Dict_empty ⟨.ref s.heap.objs.size,_,I.laid (a:=s.heap.objs.size) (o:=.dK []) (t':=s.toks) (fun _ _ q=>bR _ q) (aJ _) (Pj s.heap I.big),rfl,h _ (I.hok.fresh (aJ _))⟩
theorem adK:PE X (.Dict [] [] pos) adI:=fun pins s σ H Q I h=>
 wpAny_Dict_empty ⟨.ref s.heap.objs.size,_,I.laid (a:=s.heap.objs.size) (o:=.dT []) (t':=s.toks) (fun _ _ q=>bR _ q) (aJ _) (adG s.heap I.big),rfl,h _ (I.hok.fresh (aJ _))⟩
end
def HI:List (TE×TE)->St->Hp->(List (V×V)->Hp->Prop)->Prop
 | [],_,H,Q=>Q [] H
 | (tk,tv)::r,σ,H,Q=>tk σ H fun x H1=>tv σ H1 fun y H2=>HI r σ H2 fun ps H3=>Q ((x,y)::ps) H3
abbrev VV:List (V×V)->List (Value×Value)->Prop:=Paired fun p q=>RelV p.1 q.1/\RelV p.2 q.2
def C0(X:Cx)(pos:Pos)(keys:List (Option Expr))(values:List Expr)(oW:List (TE×TE)):Prop:=
 ∀(pins:Po) (s:Shared) (σ:St) (H:Hp) (Q:List (V×V)->Hp->Prop),Inv X pins σ H s->HI oW σ H Q ->
  wpAny (model X.prog X.w) X.A (evalPairs (pairTrees keys values X.env pos)) (fun vs s'=>∃ps H',Inv X pins σ H' s'/\VV ps vs/\Q ps H') X.xe s
theorem Pk{X:Cx}{pos:Pos}:C0 X pos [] [] []:=fun pins s σ H Q I h=>pairTrees_nil_walk ⟨[],H,I,.nil,h⟩
theorem Pl{X:Cx}{pos:Pos}{k v:Expr}{ks:List (Option Expr)}{vs:List Expr}{tk tv:TE}{oW:List (TE×TE)}(hk:PE X k tk)(hv:PE X v tv)(hr:C0 X pos ks vs oW) :
 C0 X pos (some k::ks) (v::vs) ((tk,tv)::oW):=fun pins s σ H Q I h=>
 pairTrees_cons_walk (thn (hk pins s σ H _ I h) fun u s1 adL=>adL.elim fun x adM=>adM.elim fun H1 adN=>adN.elim fun I1 adO=>adO.elim fun rx q1=>thn (hv pins s1 σ H1 _ I1 q1) fun w2 s2 adP=>adP.elim fun y adQ=>adQ.elim fun H2 adR=>adR.elim fun I2 adS=>adS.elim fun ry q2=>
  thn (hr pins s2 σ H2 _ I2 q2) fun ws s3 adT=>adT.elim fun ps adU=>adU.elim fun H3 adV=>adV.elim fun I3 adW=>adW.elim fun rel q3=>⟨(x,y)::ps,H3,I3,.cons ⟨rx,ry⟩ rel,q3⟩)
def lK(kvs more:List (aw×V)):List (aw×V):=more.foldl (fun acc kv=>cD acc kv.1 kv.2) kvs
theorem KV.merge:∀{more:List (aw×V)}{rs:List (aw×Value)}{kvs:List (aw×V)}{vs:List (aw×Value)},KV more rs->KV kvs vs->KV (lK kvs more) (merged vs rs):=by
 intro more rs kvs vs r;unfold KV at r
 induction r generalizing kvs vs with
 | nil=>intro q;exact q
 | @cons p q ps qs h t ih=>
  intro r0;have e:KV (cD kvs p.1 p.2) (stored vs q.1 q.2):=by
   have:=r0.put p.1 h.2;rw[←h.1];exact this
  exact ih e
theorem HJ:∀(more kvs:List (aw×V)),(lK kvs more).length<=kvs.length+more.length
 | [],kvs=>by show kvs.length<=kvs.length+0;omega
 | p::r,kvs=>by
  have h1:=HJ r (cD kvs p.1 p.2);have h2:=y9 kvs p.1 p.2;show(lK (cD kvs p.1 p.2) r).length<=_;rw[bO];omega
theorem Pm{P:Program}{w:World}:∀{kvs:List (aw×V)}{ws:List (Value×Value)},VV (kvs.map fun kv=>(kV kv.1,kv.2)) ws->∃rs,Carries (cj P w) ws rs/\KV kvs rs
 | [],_,r=>by rw[yu]at r;cases r;exact⟨[],True.intro,.nil⟩
 | p::kvs,_,r=>by
  rw[bL]at r;cases r with
  | @cons a b as bs h t=>
   obtain⟨rs,c,q⟩:=Pm (P:=P) (w:=w) t;obtain⟨b1,b2⟩:=b;exact⟨(p.1,b2)::rs,⟨mL h.1,rfl,c⟩,.cons ⟨rfl,h.2⟩ q⟩
def adX(oW:List (TE×TE)):TE:=fun σ H Q=>∀p,H p=none->HI oW σ (ah H p (.dK [])) fun ps H2=>H2 p=some (.dK [])/\∃kvs:List (aw×V),ps=kvs.map (fun kv=>(kV kv.1,kv.2))/\kvs.length<=15/\Q (.ref p) (ah H2 p (.dK (lK [] kvs)))
theorem Pn{X:Cx}{pos:Pos}{keys:List (Option Expr)}{values:List Expr}{oW:List (TE×TE)}(h:C0 X pos keys values oW)(qN:keys.all (·.isSome)=true)(hl:keys.length=values.length)(h0:keys≠[])
 (h15:keys.length<=15):PE X (.Dict keys values pos) (adX oW):=by
 intro pins s σ H Q I q;have hn:=I.hok.fresh (aJ s.heap.objs.size);have I1:=I.laid (a:=s.heap.objs.size) (o:=.dK []) (h':=s.heap.push { cls:=.type "dict",data:=.dict #[] }) (t':=s.toks) (fun _ _ q=>bR _ q) (aJ _) (Pj s.heap I.big);refine wpAny_Dict_walk (knd:=cj X.prog X.w) qN hl h0 h15 (thn (h pins _ σ _ _ I1 (q _ hn)) fun ws s2 adZ=>adZ.elim fun ps ad0=>ad0.elim fun H2 ad1=>ad1.elim fun I2 ad2=>ad2.elim fun rel ad3=>ad3.elim fun e ad4=>ad4.elim fun kvs ad5=>ad5.elim fun ep ad6=>ad6.elim fun lk q2=>?_);subst ep;obtain⟨rs,c,rk⟩:=Pm (P:=X.prog) (w:=X.w) rel;obtain⟨z,hd,vs0,r0,dd⟩:=oV I2.hok e;cases r0;refine⟨rs,c,dd,fun h' gG hs=>⟨.ref s.heap.objs.size,_,?_,rfl,q2⟩⟩;have hz:(lK [] kvs).length<=sizeLine:=by
  have h1:=HJ kvs [];rw[ki]at h1;rw[yp];omega
 have he:∃q,h'.get? s.heap.objs.size=some q:=gG.elim fun q ad7=>ad7.elim fun _ ad8=>ad8.elim fun _ ad9=>ad9.elim fun hq _=>⟨q,hq⟩;exact wj I2 (by rw[e];exact True.intro) hs he (wk hz hd (rk.merge .nil) gG)
structure M1(X:Cx)(o:Expr)(m:Str)(apos:Pos)(e:Expr)(cC:Pos):Prop where
 base:attributeBase o m X.env (eval o X.env)=eval o X.env
 few:((backTo cC (starEach [e] X.env)).all (fun x=>!x.1) && (backToKw cC (keywordEach [] X.env)).all (fun x=>x.1.isSome)
  && decide (([e]:List Expr).length+([]:List Keyword).length+(if ([]:List Keyword).isEmpty then 0 else 1)<30))=true
 line:(apos.endLine == cC.line)=true
 trees:backTo cC (starEach [e] X.env)=[(false,eval e X.env)]
def HK(H:Hp)(a:Addr):Prop:=(∃kvs,Rd H a (.dK kvs))\/∃kvs,Rd H a (.dT kvs)
theorem Pp{X:Cx}{pins:Po}{σ:St}{H:Hp}{s:Shared}{a:Addr}(I:Inv X pins σ H s)(d:HK H a) :
 s.TypeIs (.ref a) "dict"/\(∀b,Value.ref a=.ref b->∃ob,s.heap.get? b=some ob/\ob.dict=none)/\(a == sysModules)=false:=by
 rcases d with⟨kvs,e⟩ | ⟨kvs,e⟩
 . obtain⟨_,hd,vs,_,dd⟩:=qY I.hok e;refine⟨dd.typeIs,fun b q=>?_,hd⟩;cases q;obtain⟨ob,_,_,h1,h2,_⟩:=dd;exact⟨ob,h1,h2.2.1⟩
 . obtain⟨_,hd,xs,_,dd⟩:=tO I.hok e;refine⟨dd.typeIs,fun b q=>?_,hd⟩;cases q;obtain⟨ob,_,_,h1,h2,_⟩:=dd;exact⟨ob,h1,h2.2.1⟩
section
variable {X:Cx}{pins:Po}{σ:St}{H:Hp}{s:Shared}{a:Addr}{y d:V}{u r:Value}{o:Option V}{A:Around}{E:VP}
theorem aea{Q:VP}(hu:A.units+64<cLine)(I:Inv X pins σ H s)(g:df H a y o)(ry:RelV y u)(h:∀w' s',Inv X pins σ H s'->RelV (o.getD .non) w'->Q w' s') :
 wpAny (model X.prog X.w) A (call (.builtin "dict.get") [.ref a,u]) Q E s:=by
 rcases g with⟨kvs,k,e,ey,l⟩ | ⟨kvs,k,b,e,ey,eb,l⟩
 . subst ey;obtain⟨z,hd,vs,rel,dd⟩:=qY I.hok e;refine Ci VY dd.typeIs aCi (aCj _ _) (meets_dict_get (cj X.prog X.w) a (mL ry) hd) ⟨_,dd.mapOf,h _ _ (I.tok _) ?_⟩;rw[l];exact(rel.val k).getD rfl
 . subst ey;cases (show u=Value.ref b from ry);obtain⟨z,hd,xs,rel,dd⟩:=tO I.hok e;refine Ci VY dd.typeIs aCi (aCj _ _) (meetsH_dict_get (tw X.prog X.w) a b hd) ⟨yI hu,k,xs,wg I.hok eb,dd,h _ _ (I.tok _) ?_⟩;rw[l];exact(rel.val k).getD rfl
end
def aeb(td ty:TE):TE:=fun σ H Q=>td σ H fun x H1=>∃a,x=.ref a/\HK H1 a/\ty σ H1 fun y H2=>∃o,df H2 a y o/\Q (o.getD .non) H2
def aec(td ty:TE):TE:=fun σ H Q=>td σ H fun x H1=>∃a,x=.ref a/\HK H1 a/\ty σ H1 fun y H2=>∃kvs k v,H2 a=some (.dK kvs)/\y=kV k/\bg kvs k=some v/\Q v (ah H2 a (.dK (qX kvs k)))
section
variable {X:Cx}{o e f:Expr}{apos cC:Pos}{td ty tx:TE}
theorem HL(hu:X.A.units+64<cLine)(ho:PE X o td)(he:PE X e ty)(m:M1 X o "get" apos e cC):PE X (.Call (.Attribute o "get" apos) [e] [] cC) (aeb td ty):=by
 intro pins s σ H Q I h;refine wpAny_Call_method m.base m.few m.line GR VY PySem.F.type_dict_get (thn (ho pins s σ H _ I h) fun u s1 aed=>aed.elim fun x aee=>aee.elim fun H1 aef=>aef.elim fun I1 aeg=>aeg.elim fun rx aeh=>aeh.elim fun a aei=>aei.elim fun ex aej=>aej.elim fun d q1=>?_);subst ex;obtain rfl:u=Value.ref a:=rx;obtain⟨t1,t2,_⟩:=Pp I1 d;refine⟨t1,t2,?_⟩;rw[m.trees];refine GP rfl (NR (VO (thn (he pins s1 σ H1 _ I1 q1) fun iv s2 aek=>aek.elim fun y ael=>ael.elim fun H2 aem=>aem.elim fun I2 aen=>aen.elim fun ry aeo=>aeo.elim fun ov aep=>aep.elim fun g q2=>VN ?_)));exact aea hu I2 g ry fun w' s3 I3 iC=>⟨_,H2,I3,iC,q2⟩
theorem Pq(ho:PE X o td)(he:PE X e ty)(m:M1 X o "pop" apos e cC):PE X (.Call (.Attribute o "pop" apos) [e] [] cC) (aec td ty):=by
 intro pins s σ H Q I h;refine wpAny_Call_method m.base m.few m.line GR aCh PySem.F.type_dict_pop (thn (ho pins s σ H _ I h) fun u s1 aeq=>aeq.elim fun x aer=>aer.elim fun H1 aes=>aes.elim fun I1 aet=>aet.elim fun rx aeu=>aeu.elim fun a aev=>aev.elim fun ex aew=>aew.elim fun d q1=>?_);subst ex;obtain rfl:u=Value.ref a:=rx;obtain⟨t1,t2,_⟩:=Pp I1 d;refine⟨t1,t2,?_⟩;rw[m.trees];refine GP rfl (NR (VO (thn (he pins s1 σ H1 _ I1 q1) fun iv s2 aex=>aex.elim fun y aey=>aey.elim fun H2 aez=>aez.elim fun I2 aeA=>aeA.elim fun ry aeB=>aeB.elim fun kvs aeC=>aeC.elim fun k aeD=>aeD.elim fun v aeE=>aeE.elim fun ea aeF=>aeF.elim fun ey aeG=>aeG.elim fun l q2=>VN ?_)));subst ey;exact acG I2 ea ry l (.inl rfl) fun w' s3 I3 iC=>⟨v,_,I3,iC,q2⟩
end
section
variable {X:Cx}{pins:Po}{σ:St}{H:Hp}{s:Shared}{a:Addr}{kvs:List (aw×V)} {A:Around}{E:VP}
theorem aeH{Q:VP}(I:Inv X pins σ H s)(e:Rd H a (.dK kvs))(h:∀p s',H p=none->Inv X pins σ (ah H p (.dK kvs)) s'->Q (.ref p) s'):wpAny (model X.prog X.w) A (call (.type "dict") [.ref a]) Q E s:=by
 obtain⟨z,hd,vs,rel,dd⟩:=qY I.hok e;refine kt_call_dict hd dd (by rw[←rel.length];exact z) fun h' gG hs=>?_;refine h _ _ (I.hok.fresh (aJ _)) (I.laid (a:=s.heap.objs.size) (o:=.dK kvs) (t':=s.toks) (fun b q hq=>?_) (aJ _) (wk z (yi.mpr (fY (cV I.big))) rel gG));exact(hs.2 b (cV (bv hq))).trans (bR _ hq)
end
section
variable {X:Cx}{pins:Po}{σ:St}{H:Hp}{s:Shared}{a:Addr}{y:V}{u:Value}{A:Around}{E:VP}
end
end L2
namespace Att
open PySem PySem.W PySem.Calls PyProof.Rows
theorem aeI{P:Params}{h:Heap}:∀(ns:List Int) (vs:Lw),WellAll P h vs (ns.map WData.int)->IntsAre vs ns:=by
 intro ns
 induction ns with
 | nil=>
  intro vs w;rw[yu]at w;cases w;exact .nil
 | cons n ns ih=>
  intro vs w;rw[bL]at w;cases w with
  | cons a b=>
   cases a;exact .cons _ _ (ih _ b)
theorem aeJ{l:OpenLaw}{n:Nat}(hn:l.most=some n){P:Params}{h:Heap}{args:List WData}{vals:Lw}
 (C1:l.row.toRowW.claim.pre args=true) (HM:WellAll P h vals args) :
 ∃a vs ns,vals=[Value.ref a]/\args=[WData.list (ns.map WData.int)]/\h.get? a=some { cls:=.type "list",data:=.seq vs.toArray }/\IntsAre vs ns/\ns.length<=n:=by
 have hsh:WShape.hasAll [] args [.list .int]=true:=(pre_splitW C1).1;have hc:l.pre.holds [] { args:=args } = true:=(pre_splitW C1).2;obtain⟨d,r,rfl,h1,h2⟩:=hasAllW_cons hsh;obtain rfl:=hasAllW_nil h2;obtain⟨xs,rfl,h3⟩:=hasW_list h1;obtain⟨ns,rfl⟩:=items_int h3;have hlen:ns.length<=n:=by
  unfold OpenLaw.pre at hc;have h4:(WTm.not (.lt (.lit (.int (n:Int))) (.len (.arg 0)))).holds [] { args:=[.list (ns.map .int)] } = true:=by
   have h4:=(holds_andW hc).1;rw[hn]at h4;exact h4
  have h5:=condW_of h4 (w_not (w_lt w_lit (w_len_list (w_arg rfl))));rw[am]at h5;refine Nat.le_of_not_lt fun q=>?_;have q':(n:Int)<((ns.length:Nat):Int):=by omega
  first
   | (rw[bG q']at h5;exact absurd h5 (by decide))
   | (simp at h5;omega)
 cases HM with
 | cons w1 w2=>
  cases w2;cases w1 with
  | list ho qN=>exact⟨_,_,ns,rfl,rfl,ho,aeI ns _ qN,hlen⟩
theorem aeL(l:OpenLaw)(args:List WData):l.row.toRowW.claim.post args (.bool true) args=true:=
 postW_of (r:=l.row.toRowW) (X:=(true == true))
  (show WShape.has [] (.bool true) .bool=true by first | rfl | decide | simp[WShape.has,WShape.arms,WShape.armsAll])
  (show(WTm.eq .res (.lit (.bool true))).value [] { args:=args,res:=some (.bool true),after:=args } = some (.bool (true == true)) from w_eq_bool (w_res rfl) w_lit) rfl
theorem aeM{l:OpenLaw}{n:Nat}{q:Program}{loose:Ls}{XP:(Mv)->Heap->Prop}{YP:World->Heap->Prop}{d:DefRec}
 (hn:l.most=some n) (za:d.params.defaults=[])
 (call:∀(w:World) (s₀ s₁:Shared) (mg mb:Mv) (fa:Addr) (o:Obj) (pm cd doc:Value) (a:Addr) (vs:Lw) (ns:List Int),
  Ground q loose [] XP w s₀ mg mb s₁.heap->YP w s₁.heap ->
  s₁.heap.get? fa=some o->o.data=.func (docDef d.name d.params d.body d.scope pm cd doc)->s₁.heap.CodeRec cd d.name->mg d.name=some (.ref fa) ->
  s₁.heap.get? a=some { cls:=.type "list",data:=.seq vs.toArray }->IntsAre vs ns->ns.length<=n->s₁.gens = #[] ->
  codeAny (model l.prog w) callerA (.call (.ref fa) ⟨[.ref a],[]⟩) (fun r s'=>r=.ok (.ret (.bool true))/\OldK s₁.heap s'.heap/\s'.os=s₁.os/\AllBare s'.gens) s₁) :
 WalkO q loose XP YP l.row.toRowW d [] (fun f vs=>PySem.call f vs):=by
 intro w s₀ s₁ mg mb G Y fa o pm cd doc dV kV ho hd g9 hD zc hg args vals as C1 aCR hrd HM hlo;obtain rfl:dV=.none:=Dflts.none hD za;obtain rfl:kV=.none:=Dflts.noKw hD;obtain⟨a,vs,ns,rfl,rfl,tP,hints,hlen⟩:=aeJ hn C1 HM;refine enter_call (oq (call w s₀ s₁ mg mb fa o pm cd doc a vs ns G Y ho (fd_plain hd) g9 zc tP hints hlen hg) fun r s' hq=>?_);obtain⟨rfl,h2,h3,h4⟩:=hq;exact⟨.inl ⟨.bool true,.bool true,[],rfl,fun _=>rfl,.bool true,aeL l _,fun _=>⟨List.Pairwise.nil,fun _ hm=>(nomatch hm)⟩⟩,h2,h3,h4⟩
section
variable {prog:Program}{w:World}{A:Around}{E:VP}{s:Shared}{K:Frag}
end
end Att
namespace L2
open PySem PySem.Spec PyProof.Rows
theorem Ps:∀{vs:Lw}{ns:List Int},IntsAre vs ns->aQ (ns.map V.int) vs
 | _,_,.nil=>.nil
 | _,_,.cons n t h=>.cons ⟨t,rfl⟩ (Ps h)
def kJ(s:Stmt)(j:Nat):Stmt:=match s with
 | .ClassDef _ _ _ body _ _ _ _ _ _ _=>body.getD j (.Pass ⟨0,0,0,0⟩)
 | _=>.Pass ⟨0,0,0,0⟩
def eD(s:Stmt):Arguments:=match s with
 | .FunctionDef _ a _ _ _ _ _ _ _ _=>a
 | _=>{ posonlyargs:=[],args:=[],vararg:=none,kwonlyargs:=[],kw_defaults:=[],kwarg:=none,defaults:=[] }
def dg(s:Stmt):List Stmt:=match s with
 | .FunctionDef _ _ b _ _ _ _ _ _ _=>b
 | _=>[]
def aE(s:Stmt):Scope:=match s with
 | .FunctionDef _ _ _ _ _ _ sc _ _ _=>sc
 | _=>{ kind:=.function,names:=[],isGenerator:=false,isCoroutine:=false }
abbrev al:hU:=fun _ _ _ _ _ _=>False
abbrev E0:XK:=fun _ _ _=>False
theorem aD{X:Cx}:mH al X E0:=fun _ _ _ _ _ _ _ h=>h.elim
structure ak(K:Fg)(x qual:Str)(st:Stmt)(f:Addr)(fd:Fy):Prop where
 ex:∃(oc:Value) (od:Oa) (kV doc pm:Value) (an:Oa) (ay ct:Value) (iB:Array (Option Value)),
  fd=PySem.W.fnOf x qual (eD st) (dg st) (aE st) .none kV doc pm an ay ct/\K.lookup f=some ⟨oc,od,.func fd,iB⟩/\PySem.W.codeIn K ay qual=true
 kp:PySem.W.keepIn K (.ref f)=true
section
variable {P:Program}{w:World}{K:Fg}{mg:Mv}{base:Heap}
theorem ak.ok{x qual:Str}{st:Stmt}{f:Addr}{fd:Fy}{N ps:Ls}{k:Nat}{sp:Sp}(F:ak K x qual st f fd)(S:aR N ps (aE st))(len:∀vs H Q E,sp vs H Q E->vs.length=ps.length)
 (oM:∀(ay:Value) (A:Around) (outer:List Env) (s:Shared) (H:Hp) (vs:Lv) (Q:VK) (E:XK),b9 k (A.deeper (envOfC qual (aE st) s.heap.objs.size f ay))->sp vs H Q E ->
  ∃t,c8 (kF al P w K mg base N qual (aE st) f ay A outer s H E).nox (dg st) t/\t { nx:=fun _ H'=>Q .non H',rt:=Q } (start N vs) H):aj P w K mg base al (k+1) f fd ps sp:=by
 obtain⟨oc,od,kV,doc,pm,an,ay,ct,iB,rfl,lk,g9⟩:=F.ex;refine Hy lk g9 S len fun A outer s H vs Q E hr kG=>?_;obtain⟨t,h,q⟩:=oM ay A outer s H vs Q E hr kG;exact⟨t,h.nox,q⟩
theorem ak.binds{x qual:Str}{st:Stmt}{f:Addr}{fd:Fy}{ps:Ls}(F:ak K x qual st f fd)
 (h:∀(kV doc pm:Value) (an:Oa) (ay ct:Value) (us:Lw),us.length=ps.length->bindArgs (PySem.W.fnOf x qual (eD st) (dg st) (aE st) .none kV doc pm an ay ct) ⟨us,[]⟩=pure (ps.zip us)):Binds K fd ps []:=by
 obtain⟨oc,od,kV,doc,pm,an,ay,ct,iB,rfl,lk,g9⟩:=F.ex;exact .all (h kV doc pm an ay ct)
theorem jI{x qual:Str}{st:Stmt}{f:Addr}{oc:Value}{od an:Oa}{iB:Array (Option Value)}{kV doc pm ay ct:Value}(l:K.lookup f=some ⟨oc,od,.func (PySem.W.fnOf x qual (eD st) (dg st) (aE st) .none kV doc pm an ay ct),iB⟩)
 (c:PySem.W.codeIn K ay qual=true) (k:PySem.W.keepIn K (.ref f)=true):ak K x qual st f (PySem.W.fnOf x qual (eD st) (dg st) (aE st) .none kV doc pm an ay ct):=⟨⟨oc,od,kV,doc,pm,an,ay,ct,iB,rfl,l,c⟩,k⟩
end
theorem bI{n:Nat}(h:n<=1000):n<sizeLine:=VZ h (by decide)
section
variable {X:Cx}
theorem pv(i:Nat){x:Str}{pos:Pos}(hN:X.N[i]?=some x:=by rfl)(hv:CG X.env.scope x:=by first | exact Or.inl rfl | exact Or.inr (Or.inl rfl) | exact Or.inr (Or.inr rfl))(hd:(x == ("__debug__":Str))=false:=by decide)
 (g9:(x == ("__classdict__":Str))=false:=by decide):PE X (.Name x pos) (v3 i):=Xi hN hv hd g9
end
theorem gH{A B:Prop}(h:B):if false=true then A else B:=by
 rw[ai cK];exact h
theorem gJ{A B:Prop}(h:A):if true=true then A else B:=by
 rw[aq rfl];exact h
theorem bw{c A B:Prop}[Decidable c](h1:c->A)(h2:¬c->B):if c then A else B:=by
 by_cases h:c
 . rw[aq h];exact h1 h
 . rw[ai h];exact h2 h
theorem aeN{c A B:Prop}[Decidable c](hc:c)(h:B):if (!decide c)=true then A else B:=by
 rw[bG hc];exact gH h
def ag(H H':Hp):Prop:=∀b o,H b=some o->H' b=some o
theorem ag.refl(H:Hp):ag H H:=fun _ _ h=>h
theorem ag.trans{H H1 H2:Hp}(a:ag H H1)(b:ag H1 H2):ag H H2:=fun c o h=>b c o (a c o h)
theorem ag.free{H H':Hp}(e:ag H H'){l:Addr}(h:H' l=Option.none):H l=Option.none:=by
 cases q:H l with
 | none=>rfl
 | some o=>
  rw[e l o q]at h;cases h
theorem ag.seq{K:Fg}{H H':Hp}{a:Addr}{xs:Lv}(e:ag H H')(h:ae K H a xs):ae K H' a xs:=by
 rcases h with(h | ⟨o,h⟩) | h
 . exact .inl (.inl (e _ _ h))
 . exact .inl (.inr ⟨o,e _ _ h⟩)
 . exact .inr h
section
variable {κ:Type} [DecidableEq κ]
end
section
variable {K:Fg}
theorem aCU {us : Lw} {n : Nat} (h : us.length = n + 1) : ∃ u r, us = u :: r ∧ r.length = n := by
  cases us with
  | nil=>cases h
  | cons u r=>exact⟨u,r,rfl,Nat.succ.inj h⟩
theorem aeO{us:Lw}{l:Ls}(hl:l.length=1)(h:us.length=l.length):∃u0,us=[u0]:=by
 rw[hl]at h
 match us,h with
 | [u0],_=>exact⟨u0,rfl⟩
theorem ak.binds1{x qual:Str}{st:Stmt}{f:Addr}{fd:Fy}{l:Ls}(F:ak K x qual st f fd)
 (h:∀(kV doc pm:Value) (an:Oa) (ay ct u0:Value),bindArgs (PySem.W.fnOf x qual (eD st) (dg st) (aE st) .none kV doc pm an ay ct) ⟨[u0],[]⟩=pure (l.zip [u0])) (hl:l.length=1:=by rfl):Binds K fd l []:=
 F.binds (ps:=l) fun kV doc pm an ay ct us e=>by
  obtain⟨u0,rfl⟩:=aeO hl e;exact h kV doc pm an ay ct u0
theorem aeP{us:Lw}{l:Ls}(hl:l.length=2)(h:us.length=l.length):∃u0 u1,us=[u0,u1]:=by
 rw[hl]at h
 match us,h with
 | [u0,u1],_=>exact⟨u0,u1,rfl⟩
theorem ak.binds2{x qual:Str}{st:Stmt}{f:Addr}{fd:Fy}{l:Ls}(F:ak K x qual st f fd)
 (h:∀(kV doc pm:Value) (an:Oa) (ay ct u0 u1:Value),bindArgs (PySem.W.fnOf x qual (eD st) (dg st) (aE st) .none kV doc pm an ay ct) ⟨[u0,u1],[]⟩=pure (l.zip [u0,u1])) (hl:l.length=2:=by rfl):Binds K fd l []:=
 F.binds (ps:=l) fun kV doc pm an ay ct us e=>by
  obtain⟨u0,u1,rfl⟩:=aeP hl e;exact h kV doc pm an ay ct u0 u1
theorem aeQ{us:Lw}{l:Ls}(hl:l.length=3)(h:us.length=l.length):∃u0 u1 u2,us=[u0,u1,u2]:=by
 rw[hl]at h
 match us,h with
 | [u0,u1,u2],_=>exact⟨u0,u1,u2,rfl⟩
theorem ak.binds3{x qual:Str}{st:Stmt}{f:Addr}{fd:Fy}{l:Ls}(F:ak K x qual st f fd)
 (h:∀(kV doc pm:Value) (an:Oa) (ay ct u0 u1 u2:Value),bindArgs (PySem.W.fnOf x qual (eD st) (dg st) (aE st) .none kV doc pm an ay ct) ⟨[u0,u1,u2],[]⟩=pure (l.zip [u0,u1,u2])) (hl:l.length=3:=by rfl):Binds K fd l []:=
 F.binds (ps:=l) fun kV doc pm an ay ct us e=>by
  obtain⟨u0,u1,u2,rfl⟩:=aeQ hl e;exact h kV doc pm an ay ct u0 u1 u2
theorem aeR{us:Lw}{l:Ls}(hl:l.length=4)(h:us.length=l.length):∃u0 u1 u2 u3,us=[u0,u1,u2,u3]:=by
 rw[hl]at h
 match us,h with
 | [u0,u1,u2,u3],_=>exact⟨u0,u1,u2,u3,rfl⟩
theorem ak.binds4{x qual:Str}{st:Stmt}{f:Addr}{fd:Fy}{l:Ls}(F:ak K x qual st f fd)
 (h:∀(kV doc pm:Value) (an:Oa) (ay ct u0 u1 u2 u3:Value),bindArgs (PySem.W.fnOf x qual (eD st) (dg st) (aE st) .none kV doc pm an ay ct) ⟨[u0,u1,u2,u3],[]⟩=pure (l.zip [u0,u1,u2,u3])) (hl:l.length=4:=by rfl):Binds K fd l []:=
 F.binds (ps:=l) fun kV doc pm an ay ct us e=>by
  obtain⟨u0,u1,u2,u3,rfl⟩:=aeR hl e;exact h kV doc pm an ay ct u0 u1 u2 u3
theorem aeS{us:Lw}{l:Ls}(hl:l.length=8)(h:us.length=l.length):∃u0 u1 u2 u3 u4 u5 u6 u7,us=[u0,u1,u2,u3,u4,u5,u6,u7]:=by
 rw[hl]at h
 match us,h with
 | [u0,u1,u2,u3,u4,u5,u6,u7],_=>exact⟨u0,u1,u2,u3,u4,u5,u6,u7,rfl⟩
theorem ak.binds8{x qual:Str}{st:Stmt}{f:Addr}{fd:Fy}{l:Ls}(F:ak K x qual st f fd)
 (h:∀(kV doc pm:Value) (an:Oa) (ay ct u0 u1 u2 u3 u4 u5 u6 u7:Value),bindArgs (PySem.W.fnOf x qual (eD st) (dg st) (aE st) .none kV doc pm an ay ct) ⟨[u0,u1,u2,u3,u4,u5,u6,u7],[]⟩=pure (l.zip [u0,u1,u2,u3,u4,u5,u6,u7])) (hl:l.length=8:=by rfl):Binds K fd l []:=
 F.binds (ps:=l) fun kV doc pm an ay ct us e=>by
  obtain⟨u0,u1,u2,u3,u4,u5,u6,u7,rfl⟩:=aeS hl e;exact h kV doc pm an ay ct u0 u1 u2 u3 u4 u5 u6 u7
end
end L2
set_option maxHeartbeats 4000000
namespace L2
open PySem PySem.Spec PyProof.Rows
theorem fL{H:Hp}{p:Addr}{o:HO}(h:H p=none):ag H (ah H p o):=fun b u e=>by
 rw[aV (aL e h)];exact e
theorem fw{H0 H:Hp}{p:Addr}{o:HO}(s:ag H0 H)(h:H0 p=none):ag H0 (ah H p o):=fun b u e=>by
 rw[aV (aL e h)];exact s b u e
theorem aeT{K:Fg}{H H':Hp}{a:Addr}{xs:Lv}(e:ag H H')(h:aW K H a xs):aW K H' a xs:=by
 rcases h with(h | ⟨o,h⟩) | h
 . exact .inl (.inl (e _ _ h))
 . exact .inl (.inr ⟨o,e _ _ h⟩)
 . exact .inr h
abbrev dZ (x:Str):Prop:=PyData.strOk x=true
theorem wm{x:Str}:dZ x↔∀c∈x.cps.toList,c<0x110000:=by
 unfold dZ PyData.strOk;rw[Array.all_eq_true'];simp
theorem C2{x y:Str}(hx:dZ x)(hy:dZ y):dZ (x++y):=by
 rw[wm]at *;intro c hc;have e:(x++y).cps.toList=x.cps.toList++y.cps.toList:=by
  show(x.cps++y.cps).toList=_;simp
 rw[e,bK]at hc;exact hc.elim (hx c) (hy c)
theorem jJ(x y:Str):(x++y).length=x.length+y.length:=by
 show(x.cps++y.cps).size=_;rw[Array.size_append];rfl
theorem oZ(c:Nat):(⟨#[c]⟩:Str).length=1:=rfl
section
variable {X:Cx}
def aeU:V->Option Int->Option Int->Hp->VK->Prop:=fun x lo hi H Q=>∃z,x=.str z/\z.length<=sizeLine/\Q (.str (Txt.slice z lo hi)) H
theorem C3:tM X aeU:=by
 intro pins s σ H x v vl vu lo hi sl Q I rx hs pl pu h;obtain⟨z,rfl,hz,q⟩:=h;obtain⟨t,rfl⟩:=rx;refine⟨"str",_,PyProof.Rows.slot_str_getitem.lookup,Ce _ _ _,?_⟩;obtain⟨o,ho,hc,hd⟩:=hs;have fin:∀(l u:Option (Int×Tok)),vl=partValue l->vu=partValue u->lo=l.map (·.1)->hi=u.map (·.1)->wpAny (model X.prog X.w) X.A (getItem (.str z t) (.ref sl)) (EP X pins σ Q) X.xe s:=by
  intro l u e1 e2 e3 e4;subst e1 e2 e3 e4;refine wpAny_getItem_str_slice (l:=l) (u:=u) (st:=none) ⟨o,ho,hc,hd⟩ rfl ?_;exact post_val_or_str ⟨ce (Txt.slice_le z _ _) hz,fun t' k=>⟨.str (Txt.slice z (l.map (·.1)) (u.map (·.1))),H,I.tok _,⟨_,rfl⟩,q⟩⟩
 cases pl with
 | none=>
  cases pu with
  | none=>exact fin none none rfl rfl rfl rfl
  | int j tj=>exact fin none (some (j,tj)) rfl rfl rfl rfl
 | int i ti=>
  cases pu with
  | none=>exact fin (some (i,ti)) none rfl rfl rfl rfl
  | int j tj=>exact fin (some (i,ti)) (some (j,tj)) rfl rfl rfl rfl
end
end L2
namespace HT
open PySem PyProof.Rows
section
open PySem.SeqAt
open PySem.AutoSeq1 (wpAny_loadPart')
open PySem.MeetsSeq PySem.MeetsSeq2 PySem.MeetsSeq3
end
section
variable {prog:Program}{w:World}{A:Around}{E:VP}{s:Shared}
end
end HT
namespace L2
open PySem PySem.Spec PyProof.Rows
section
variable {X:Cx}
end
mutual
inductive DV (K:Fg) (H:Hp):V->PySem.W.Dat->Prop
 | non:DV K H .non .none
 | int (i:Int):DV K H (.int i) (.int i)
 | str (x:Str):DV K H (.str x) (.str x)
 | tup {a:Addr}{xs:Lv}{ds:List PySem.W.Dat}:aW K H a xs->gm K H xs ds->DV K H (.ref a) (.tuple ds)
 | lst {a:Addr}{xs:Lv}{ds:List PySem.W.Dat}:ae K H a xs->gm K H xs ds->DV K H (.ref a) (.list ds)
inductive gm (K:Fg) (H:Hp):Lv->List PySem.W.Dat->Prop
 | nil:gm K H [] []
 | cons {x:V}{d:PySem.W.Dat}{xs:Lv}{ds:List PySem.W.Dat}:DV K H x d->gm K H xs ds->gm K H (x::xs) (d::ds)
end
theorem Pu{K:Fg}{H:Hp}:∀ns:List Int,gm K H (ns.map V.int) (ns.map PySem.W.Dat.int)
 | []=>.nil
 | n::ns=>.cons (.int n) (Pu ns)
theorem Pw{K:Fg}{H:Hp}:∀xs:Ls,gm K H (xs.map V.str) (xs.map PySem.W.Dat.str)
 | []=>.nil
 | n::ns=>.cons (.str n) (Pw ns)
section
variable {X:Cx}{pins:Po}{σ:St}{H:Hp}{s:Shared}
mutual
theorem DV.reads(I:Inv X pins σ H s):∀{x:V}{d:PySem.W.Dat}{u:Value},DV X.K H x d->RelV x u->∃as,Reads s.heap u (PySem.W.kqdP d) as
 | _,_,_,.non,r=>by cases r;exact⟨_,Reads.none⟩
 | _,_,_,.int i,r=>by obtain⟨t,rfl⟩:=r;exact⟨_,Reads.int i t⟩
 | _,_,_,.str x,r=>by obtain⟨t,rfl⟩:=r;exact⟨_,Reads.str x t⟩
 | _,_,_,.tup h q,r=>by
  cases r;obtain⟨its,rv,⟨o,e,c,n,d⟩,_⟩:=I.tuple h;obtain⟨as,z⟩:=gm.reads I q rv;rw[PySem.W.kqdP];exact⟨as,reads_tuple_at e c d (by simpa using z)⟩
 | _,_,_,.lst h q,r=>by
  cases r;obtain⟨its,rv,⟨o,n,e,c,_,d⟩,_⟩:=I.list h;obtain⟨as,z⟩:=gm.reads I q rv;rw[PySem.W.kqdP];exact⟨_,reads_list_at e c d (by simpa using z)⟩
theorem gm.reads(I:Inv X pins σ H s):∀{xs:Lv}{ds:List PySem.W.Dat}{us:Lw},gm X.K H xs ds->aQ xs us->∃as,ReadsAll s.heap us (PySem.W.kqdPs ds) as
 | _,_,_,.nil,.nil=>⟨_,ReadsAll.nil⟩
 | _,_,_,.cons q qs,.cons r rs=>by
  obtain⟨as,z⟩:=DV.reads I q r;obtain⟨bs,y⟩:=gm.reads I qs rs;rw[PySem.W.kqdPs];exact⟨_,ReadsAll.cons z y⟩
end
end
theorem wn{d:PySem.W.Dat}(h:PySem.W.kqdOk 9 d=true):SeqAt.shaped (PySem.W.kqdP d)=true:=by
 have l:=PySem.W.kqd_lay 9 d h;unfold SeqAt.shaped;rw[l.1,GS];exact bG (ce l.2 (by decide))
section
variable {X:Cx}
theorem C4(hu:X.A.units+64<cLine):cR X (compareOp .Eq) (fun x y H Q=>∃d e,DV X.K H x d/\DV X.K H y e/\PySem.W.kqdOk 9 d=true/\PySem.W.kqdOk 9 e=true/\∀b:Bool,(b=true↔d=e)->Q (.bl b) H):=by
 intro pins s σ H x y v u Q I rx ry h;obtain⟨d,e,hd,he,od,oe,q⟩:=h;obtain⟨as,ra⟩:=hd.reads I rx;obtain⟨bs,rb⟩:=he.reads I ry;exact eq_dataH ra rb (wn od) (wn oe) hu ⟨.bl _,H,I,rfl,q _ (Cj 9 d e 9 od oe)⟩
theorem wo(hu:X.A.units+64<cLine):cR X (compareOp .NotEq) (fun x y H Q=>∃d e,DV X.K H x d/\DV X.K H y e/\PySem.W.kqdOk 9 d=true/\PySem.W.kqdOk 9 e=true/\∀b:Bool,(b=true↔d=e)->Q (.bl (!b)) H):=by
 intro pins s σ H x y v u Q I rx ry h;obtain⟨d,e,hd,he,od,oe,q⟩:=h;obtain⟨as,ra⟩:=hd.reads I rx;obtain⟨bs,rb⟩:=he.reads I ry;exact ne_dataH ra rb (wn od) (wn oe) hu ⟨.bl _,H,I,rfl,q _ (Cj 9 d e 9 od oe)⟩
end
section
variable {X:Cx}{st:Stmt}{rest:List Stmt}{t u:TS}
def aeV(M:St->Hp->Prop)(t u:TS):TS:=fun D σ H=>t { D with nx:=M } σ H/\∀σ' H',M σ' H'->u D σ' H'
theorem C5(M:St->Hp->Prop)(h1:PS X st t)(h2:c8 X rest u):c8 X (st::rest) (aeV M t u):=by
 intro pins s σ H D I h;refine VJ (thn (h1 pins s σ H { D with nx:=M } I h.1) fun f s1 q=>?_);cases f with
 | next=>
  obtain⟨σ',H',I',q⟩:=q;exact h2 pins s1 σ' H' D I' (h.2 σ' H' q)
 | ret v=>exact q
 | brk=>exact q
 | cont=>exact q
end
theorem hX{H:Hp}{p t:Addr}{o:HO}(h:ah H p o t=none):t≠p/\H t=none:=by
 by_cases e:t=p
 . subst e;rw[aI]at h;cases h
 . exact⟨e,by rw[aV e]at h;exact h⟩
theorem fit{a b:Str}(ha:a.length<=100)(hb:b.length<=100):a.length+b.length<=sizeLine:=vK (bI (by omega))
theorem jK{a:Str}(ha:a.length<=100):a.length<=sizeLine:=vK (bI (by omega))
theorem HN{α:Type}{xs:List α}{r:Int}(h0:0<=r)(h1:r<xs.length):∃v,bZ xs r=some v/\xs[r.toNat]?=some v:=by
 obtain⟨n,rfl⟩:∃n:Nat,r=n:=⟨r.toNat,by omega⟩;have hn:n<xs.length:=by omega
 have e:xs[n]?=some (xs[n]'hn):=by simp
 exact⟨_,yV e,by simpa using e⟩
theorem Px{ns:List Int}{r:Int}(h0:0<=r)(h1:r<ns.length):∃z,bZ (ns.map V.int) r=some (V.int z)/\ns[r.toNat]?=some z:=by
 obtain⟨v,e,e2⟩:=HN (xs:=ns.map V.int) h0 (by rw[am];exact h1);rw[db]at e2;cases q:ns[r.toNat]? with
 | none=>rw[q]at e2;cases e2
 | some z=>
  rw[q]at e2;cases e2;exact⟨z,e,rfl⟩
def bA(K:Fg)(mg:Mv)(x:Str)(st:Stmt):Prop:=∃f fd,mg x=some (.ref f)/\ak K x x st f fd/\PySem.W.keepIn K (.ref f)=true
theorem bD{K:Fg}{h:Heap}{mg:Mv}{x:Str}{st:Stmt}{f:Addr}{od an:Oa}{sl:Array (Option Value)}{oc kV dc pm cd ct:Value}(X:K.In h)(G:h.Ns mainGlobals mg)
 (a:PySem.W.nsIn K mainGlobals x=some (some (.ref f))) (l:K.lookup f=some ⟨oc,od,.func (PySem.W.fnOf x x (eD st) (dg st) (aE st) .none kV dc pm an cd ct),sl⟩) (c:PySem.W.codeIn K cd x=true) (k:PySem.W.keepIn K (.ref f)=true) :
 bA K mg x st:=⟨f,_,yx X G a,jI l c k,k⟩
abbrev Py (ifs:List Expr) (env:Env):Sem Bool:=
 forIn ifs true fun c r=>if r=true then do let ok ←isTrue c env (eval c env);pure (ForInStep.yield ok) else pure (ForInStep.yield r)
def mM(X:Cx)(ifs:List Expr)(t:TT):Prop:=
 ∀(pins:Po) (s:Shared) (σ:St) (H:Hp) (Q:Bool->Hp->Prop),Inv X pins σ H s->t σ H Q->wpAny (model X.prog X.w) X.A (Py ifs X.env) (TP X pins σ Q) X.xe s
def tQ:TT:=fun _ H Q=>Q true H
theorem ge{X:Cx}:mM X [] tQ:=fun _ _ _ H _ I h=>wpAny_tests_nil ⟨H,I,h⟩
theorem o4{X:Cx}{c:Expr}{t:TT}(h:PT X c t):mM X [c] t:=fun pins s σ H Q I q=>wpAny_tests_one (h pins s σ H Q I q)
section
variable {prog:Program}{w:World}{A:Around}{R:Result->Shared->Prop}{s:Shared}
theorem aeW{elt target iter:Expr}{ifs:List Expr}{scope:Scope}{pos:Pos}{it acc:Value}{env:Env}(I:Nat->Shared->Prop)
 (turn:∀n s,I n s->wpAny (model prog w) A (pyNext it) (fun r s₁=>match r with
  | none=>R (.ok .next) s₁
  | some v=>wpAny (model prog w) A (letOwnedTupleGo target it v) (fun _ s₀=>wpAny (model prog w) A (assign target env v) (fun _ s₂=>
   wpAny (model prog w) A (Py ifs env) (fun ok s₃=>
    if ok=true then wpAny (model prog w) A (eval elt env) (fun x s₄=>
     wpAny (model prog w) A (call (.builtin "list.append") [acc,x]) (fun _ s₅=>∃m,m<n/\I m s₅) (notedBy (model prog w) A env fun e s'=>R (.error e) s') s₄) (notedBy (model prog w) A env fun e s'=>R (.error e) s') s₃
    else∃m,m<n/\I m s₃) (notedBy (model prog w) A env fun e s'=>R (.error e) s') s₂) (notedBy (model prog w) A env fun e s'=>R (.error e) s') s₀) (notedBy (model prog w) A env fun e s'=>R (.error e) s') s₁) (notedBy (model prog w) A env fun e s'=>R (.error e) s') s)
 (n:Nat) (h:I n s):codeAny (model prog w) A (.compLoop (.ListComp elt [⟨target,iter,ifs,0⟩] scope pos) 0 it acc env) R s:=by
 refine codeAny_loop rfl I (fun n s hI=>?_) n h;show wpAny _ A ((compTurn (.ListComp elt [⟨target,iter,ifs,0⟩] scope pos) 0 it acc env).onRaise (fun x=>do noteFrame x env;theTreesLotGoes x)) _ _ s;refine wpAny_noted ?_;rw[compTurn_list];refine af (VQ (af (eg (turn n s hI) (fun r s₁ h₁=>?_) fun _ _ h'=>h')));cases r with
 | none=>exact au h₁
 | some v=>
  refine af (eg h₁ (fun _ s₀ h₀=>?_) fun _ _ h'=>h');refine af (eg h₀ (fun _ s₂ h₂=>af (eg h₂ (fun ok s₃ h₃=>?_) fun _ _ h'=>h')) fun _ _ h'=>h');cases ok with
  | false=>exact au ⟨rfl,h₃⟩
  | true=>
   exact af (af (eg h₃ (fun x s₄ h₄=>af (eg h₄ (fun _ s₅ h₅=>au (au ⟨rfl,h₅⟩)) fun _ _ h'=>h')) fun _ _ h'=>h'))
end
theorem aeX{P:Program}{w:World}{H:Hp}{h1 h2:Heap}{C:Addr}(ok:bY P w H h1)(sb:Heap.SameBut C h1 h2)(hn:H C=none):bY P w H h2:=fun b ob e=>by
 refine(ok b ob e).stay (fun c w' hc q=>(sb.2 c ?_).trans q) (fun _ q=>q) fun _ _ q=>q;rintro rfl
 rcases hc with rfl | hc
 . rw[hn]at e;cases e
 . rw[hn]at hc;cases hc
def lL(J:It)(g:TG)(tt:TT)(te:TE)(D:Addr)(Qd:Hp->Prop)(W:Nat->Nat->St->Hp->Prop):Prop:=
 ∀i m σ H,W i m σ H->(J.stop i H/\Qd H)\/(J.go i H/\∀x H2,J.yld i H x H2->g x σ H2 fun σ3 H3=>tt σ3 H3 fun ok H4=>
  if ok=true then te σ3 H4 fun y H5=>∃ys,H5 D=some (.lst ys)/\ys.length<sizeLine/\∃m',m'<m/\W (i+1) m' σ3 (ah H5 D (.lst (ys++[y])))
  else∃m',m'<m/\W (i+1) m' σ3 H4)
section
variable {X:Cx}{pins:Po}{σ:St}{H3:Hp}{s3:Shared}
end
def gK(env:Env):List (Str×NameKind)->List (Str×Addr)->List (Str×Addr)
 | [],cs=>cs
 | (n,k)::r,cs=>if k=.free then gK env r ((n,(env.cells.lookup n).getD 0)::cs) else gK env r cs
theorem aeY{scope:Scope}{env:Env}(h:∀y∈scope.names,y.2=.free->∃c,env.cells.lookup y.1=some c):closureFor scope env=pure (gK env scope.names []):=by
 unfold closureFor;generalize scope.names=l at h;have go:∀(l:List (Str×NameKind)) (cs:List (Str×Addr)),(∀y∈l,y.2=.free->∃c,env.cells.lookup y.1=some c) ->
  (forIn l cs fun(x:Str×NameKind) (r:List (Str×Addr))=>(if (x.2 == .free)=true then do let y ←cellOf env x.1;pure (ForInStep.yield ((x.1,y)::r)) else pure (ForInStep.yield r):Sem (ForInStep (List (Str×Addr)))))=pure (gK env l cs):=by
  intro l
  induction l with
  | nil=>intro cs _;rfl
  | cons x l ih=>
   intro cs h;obtain⟨n,k⟩:=x;rw[List.forIn_cons]
   by_cases e:k=.free
   . subst e;obtain⟨c,hc⟩:=h _ bB rfl;have hc:env.cells.lookup n=some c:=hc;have e1:cellOf env n=pure c:=by unfold cellOf;rw[hc]
     simp only[e1,gK,hc,vJ,Option.getD_some,beq_self_eq_true,pure_bind];exact ih _ fun y hy=>h y (bJ _ hy)
   . have e':(k == NameKind.free)=false:=by simpa using e
     simp only[e',gK,e,mw,qB,pure_bind];exact ih _ fun y hy=>h y (bJ _ hy)
 have:=go l [] h;simpa using this
theorem HP{env:Env}:∀{l:List (Str×NameKind)}{cs:List (Str×Addr)}{x:Str}{c:Addr},(∀y∈l,y.2=.free->∃c,env.cells.lookup y.1=some c)->(∀x c,cs.lookup x=some c->env.cells.lookup x=some c) ->
 (gK env l cs).lookup x=some c->env.cells.lookup x=some c
 | [],_,_,_,_,hc,e=>hc _ _ e
 | (n,k)::l,cs,x,c,h,hc,e=>by
  unfold gK at e;have h':∀y∈l,y.2=.free->∃c,env.cells.lookup y.1=some c:=fun y hy=>h y (bJ _ hy);split at e
  . refine HP h' (fun z d hz=>?_) e;rename_i hk;rw[V0]at hz;split at hz
    . rename_i q;obtain⟨d',hd⟩:=h (n,k) bB hk;have hd:env.cells.lookup n=some d':=hd;have:z=n:=by simpa using q
      subst this;rw[hd]at hz ⊢;exact hz
    . exact hc _ _ hz
  . exact HP h' hc e
theorem HQ{env:Env}:∀{l:List (Str×NameKind)}{cs:List (Str×Addr)}{x:Str},(cs.lookup x).isSome=true->((gK env l cs).lookup x).isSome=true
 | [],_,_,h=>h
 | (n,k)::l,cs,x,h=>by
  unfold gK;split
  . refine HQ ?_;rw[V0];split
    . rfl
    . exact h
  . exact HQ h
theorem HR{env:Env}{x:Str}:∀{l:List (Str×NameKind)}{cs:List (Str×Addr)},(x,NameKind.free)∈l->((gK env l cs).lookup x).isSome=true
 | (n,k)::l,cs,h=>by
  unfold gK
  rcases aX.mp h with e | e
  . cases e;rw[aq rfl];refine HQ ?_;rw[V0];simp
  . split
    . exact HR e
    . exact HR e
def dz(X:Cx)(N:Ls)(sc:Scope)(s₀:Shared)(H₀:Hp)(C:Addr)(ex:List Addr):Cx where
 prog:=X.prog
 w:=X.w
 K:=X.K
 mg:=X.mg
 base:=X.base
 A:=X.A
 N:=N
 s₀:=s₀
 H₀:=H₀
 env:=compEnvC sc (gK X.env sc.names []) C X.env
 outer:=X.stack
 stack:=X.stack
 ex:=ex
 fn:=fun _=>false
 calm:=X.calm
 pn:=[]
 xe:=fun _ _=>False
structure kK(X:Cx)(own be:Ls)(js:List Nat)(sc:Scope):Prop where
 kind:sc.kind=.function
 nocell:∀y∈sc.names,y.2≠.cell
 names:∀y∈sc.names,y.2=.local->sc.names.lookup y.1=some .local
 nd:(own++be).Nodup
 frees:∀y∈sc.names,y.2=.free->y.1∈be
 slots:js.map (fun j=>X.N[j]?)=be.map some
 outer':be.map X.env.kindOf=be.map fun _=>some NameKind.cell
 capk':be.map (fun x=>(relabel sc X.env).names.lookup x)=be.map fun _=>some NameKind.cell
theorem HS{α β:Type}{f:α->β}{c:β}:∀{l:List α},l.map f=l.map (fun _=>c)->∀x∈l,f x=c
 | [],_,_,h=>nomatch h
 | y::l,e,x,h=>by
  rw[bL,bL]at e;injection e with e1 e2
  rcases aX.mp h with q | q
  . rw[q];exact e1
  . exact HS e2 x q
theorem kK.outer{X:Cx}{own be:Ls}{js:List Nat}{sc:Scope}(S:kK X own be js sc):∀x∈be,X.env.kindOf x=some .cell:=HS S.outer'
theorem kK.capk{X:Cx}{own be:Ls}{js:List Nat}{sc:Scope}(S:kK X own be js sc):∀x∈be,(relabel sc X.env).names.lookup x≠some .local:=fun x hx h=>by
 rw[HS S.capk' x hx]at h;cases h
def compStart(n:Nat)(js:List Nat)(σ:St):St:=List.replicate n none++js.map fun j=>(σ[j]?).join
def HU(wi:TI)(n:Nat)(js:List Nat)(g:TG)(tt:TT)(te:TE):TE:=fun σ H Q=>wi σ H fun J H1=>∀D,H1 D=none ->
 ∃W:Nat->Nat->St->Hp->Prop,(∃m,W 0 m (compStart n js σ) (ah H1 D (.lst [])))/\lL J g tt te D (fun H'=>Q (.ref D) H') W
section
variable {X:Cx}{pins:Po}{σ:St}{H3:Hp}{s3:Shared}
theorem Pz{sc:Scope}{env:Env}{x:Str}{k:NameKind}(h:(relabel sc env).names.lookup x=some k):k=.local\/k=.globalImplicit\/(x,k)∈sc.names\/(x,NameKind.free)∈sc.names:=by
 have hm:=Cd h;unfold relabel at hm;obtain⟨⟨n,k'⟩,hn,e⟩:=cL.mp hm;dsimp only at e;split at e
 . rename_i c;cases e;simp only[gB,kf]at c;obtain⟨⟨c,_⟩,_⟩:=c;subst c;exact .inr (.inr (.inr hn))
 . cases e;exact .inr (.inr (.inl hn))
theorem aeZ{elt tg iter:Expr}{ifs:List Expr}{sc:Scope}{pos:Pos}{own be:Ls}{js:List Nat}{g:TG}{tt:TT}{te:TE}{it C D:Addr}{fp:List Addr}{tn:Nat->Heap->Prop}{J:It}{h4:Heap}{tk:Nat}{m:Mv}
 {W:Nat->Nat->St->Hp->Prop}{Qd:Hp->Prop}{m0:Nat} (S:kK X own be js sc) (hc:X.calm=true) (I3:Inv X pins σ H3 s3) (T:qS X.prog X.w X.K tg J fp it tn) (tH:tn 0 s3.heap) (f3:∀b∈fp,eU X pins H3 b)
 (eC:C=s3.heap.objs.size) (kL:h4.Ns C m) (hk:∀b o,s3.heap.get? b=some o->h4.get? b=some o)
 (hg:PG (dz X (own++be) sc s3 H3 C fp) tg g) (ht:mM (dz X (own++be) sc s3 H3 C fp) ifs tt) (he:PE (dz X (own++be) sc s3 H3 C fp) elt te)
 (w0:W 0 m0 (compStart own.length js σ) H3) (ask:lL J g tt te D Qd W) :
 codeAny (model X.prog X.w) X.A (.compStart (.ListComp elt [⟨tg,iter,ifs,0⟩] sc pos) 0 (.ref it) (.ref D) (compEnvC sc (gK X.env sc.names []) C X.env))
  (fun r s'=>r=.ok .next/\∃m' H',s'.heap.Ns C m'/\s'.os=s3.os/\AllBare s'.gens/\Un (cn X.stack) fp H3 H' s3.heap s'.heap/\bY X.prog X.w H' s'.heap/\H' C=none/\Qd H') { s3 with heap:=h4,toks:=tk }:=by
 have ae0:∀y∈sc.names,y.2=.free->∃c,X.env.cells.lookup y.1=some c:=fun y hy e=>I3.ok.has _ (.inl (S.outer _ (S.frees y hy e)));have q5:∀(x:Str) (c:Addr),(dz X (own++be) sc s3 H3 C fp).env.cells.lookup x=some c->X.env.cells.lookup x=some c:=fun x c e=>
  HP ae0 (fun x c h=>by cases (show([]:List (Str×Addr)).lookup x=some c from h)) e
 have ltC:∀(x:Str) (c:Addr),X.env.cells.lookup x=some c->c<s3.heap.objs.size:=fun x c e=>by
  obtain⟨v,q⟩:=I3.cell x c e;exact q.lt
 have C6:∀b∈fp,b<s3.heap.objs.size:=fun b hb=>by
  obtain⟨o,e,_⟩:=T.obj 0 _ tH b hb;exact bv e
 have C7:(dz X (own++be) sc s3 H3 C fp).Ok:=by
  refine⟨I3.ok.mod,S.kind,I3.ok.glob,I3.ok.blt,Cb eC.symm,fun x y c e1 e2=>I3.ok.inj x y c (q5 x c e1) (q5 y c e2),fun x hx=>?_,(fun x c z _=>nomatch (show false=true from z)),I3.ok.hd,I3.ok.frames,.inl rfl,fun b hb=>?_,
   I3.bs,ce I3.ok.bsz I3.sz,fun b o e hb=>?_,fun b hb hs=>?_,I3.stack,I3.stkFree⟩
  . have gE:(relabel sc X.env).names.lookup x=some .cell\/(relabel sc X.env).names.lookup x=some .free:=hx;have hm:(x,NameKind.free)∈sc.names:=by
     rcases gE with z | z
     . rcases Pz z with q | q | q | q
       . cases q
       . cases q
       . exact absurd rfl (S.nocell _ q)
       . exact q
     . rcases Pz z with q | q | q | q
       . cases q
       . cases q
       . exact q
       . exact q
    exact NP.mp (HR hm)
  . refine⟨?_,fun x c e=>(f3 b hb).2.2.2.2.1 x c (q5 x c e)⟩;show b≠C;rw[eC];exact cV (C6 b hb)
  . rcases(f3 b hb).2.2.2.1 with z | z
    . exact I3.ok.noex b o e z
    . have h1:b<X.base.objs.size:=bv e;exact absurd (fX h1 (ce I3.ok.bsz z)) (oj _)
  . obtain⟨_,f1,f2,_⟩:=f3 b hb
    rcases aX.mp (I3.stkSub b hs) with z | z
    . exact f1 z
    . exact f2 z
 have hCn:H3 C=none:=by rw[eC];exact I3.hok.fresh (aJ _)
 have sl:js.length=be.length:=by have:=fb List.length S.slots;simpa using this
 have I4:Inv (dz X (own++be) sc s3 H3 C fp) [] (compStart own.length js σ) H3 { s3 with heap:=h4,toks:=tk }:=by
  refine⟨C7,rfl,I3.bare,Un.kept hk,⟨m,kL,fun i x v e1 e2 hv=>?_⟩,fun x c e=>?_,hCn,fun x c e=>I3.freeC x c (q5 x c e),fun p hp=>?_,I3.hok.kept hk,?_⟩
  . have e1:(own++be)[i]?=some x:=e1;unfold compStart at e2
    by_cases hi:i<own.length
    . rw[GN (by simpa using hi),aCb,aq hi]at e2;cases e2
    . rw[yt (by omega)]at e1;rw[yt (by simpa using hi),VS,db]at e2;obtain⟨j,hj⟩:∃j,js[i - own.length]?=some j:=by
       cases q:js[i - own.length]? with
       | none=>rw[q]at e2;cases e2
       | some j=>exact⟨j,rfl⟩
      rw[hj]at e2;have e2:(σ[j]?).join=some v:=gA e2;have e3:σ[j]?=some (some v):=by
       cases q:σ[j]? with
       | none=>rw[q]at e2;cases e2
       | some z=>rw[q]at e2;rw[show z=some v from e2]
      have hs:=fb (fun l=>l[i - own.length]?) S.slots;simp only[db,hj,e1,vN]at hs;have hN:X.N[j]?=some x:=gA hs;have hx:x∈be:=dG e1;obtain⟨m2,yR,y7⟩:=I3.loc;obtain⟨u,ru,lk⟩:=y7 j x v hN e3 (.inr (.inl (S.outer x hx)));refine⟨u,ru,?_⟩
      rcases lk with⟨k1,_⟩ | ⟨_,c,hc1,lN⟩
      . rw[S.outer x hx]at k1;cases k1
      . have hv:CG (relabel sc X.env) x:=hv;have kd:(dz X (own++be) sc s3 H3 C fp).env.kindOf x=some .cell\/(dz X (own++be) sc s3 H3 C fp).env.kindOf x=some .free\/(dz X (own++be) sc s3 H3 C fp).env.kindOf x=some .local:=by
         rcases hv with z | z | z
         . exact .inr (.inr z)
         . exact .inl z
         . exact .inr (.inl z)
        rcases kd with kd | kd | kd
        . obtain⟨c',jG⟩:=C7.has x (.inl kd);have:=q5 x c' jG;rw[hc1]at this;cases this;exact .inr ⟨.inl kd,c,jG,lN.keeps hk⟩
        . obtain⟨c',jG⟩:=C7.has x (.inr kd);have:=q5 x c' jG;rw[hc1]at this;cases this;exact .inr ⟨.inr kd,c,jG,lN.keeps hk⟩
        . have kd:(relabel sc X.env).names.lookup x=some .local:=kd;exact absurd kd (S.capk x hx)
  . obtain⟨v,q⟩:=I3.cell x c (q5 x c e);exact⟨v,q.keeps hk⟩
  . have bS:p∈([]:Po):=hp;cases bS
  . show(compStart own.length js σ).length=(own++be).length;unfold compStart;rw[bh,VS,am,bh,sl]
 have HV:∀{H':Hp},(∀b∈fp,H' b=none)->∀b∈fp,eU (dz X (own++be) sc s3 H3 C fp) [] H' b:=fun {H'} hn b hb=>by
  refine⟨hn b hb,?_,fun hs=>C7.exfs b hb hs,.inl hb,fun x c e=>(f3 b hb).2.2.2.2.1 x c (q5 x c e),fun p hp=>?_⟩
  . show b≠C;rw[eC];exact cV (C6 b hb)
  . have bS:p∈([]:Po):=hp;cases bS
 have PB:tn 0 h4:=T.keep 0 _ _ tH fun b _ o e=>hk b o e;have loop:codeAny (model X.prog X.w) X.A (.compLoop (.ListComp elt [⟨tg,iter,ifs,0⟩] sc pos) 0 (.ref it) (.ref D) (compEnvC sc (gK X.env sc.names []) C X.env))
  (fun r s'=>r=.ok .next/\∃m' H',s'.heap.Ns C m'/\s'.os=s3.os/\AllBare s'.gens/\Un (cn X.stack) fp H3 H' s3.heap s'.heap/\bY X.prog X.w H' s'.heap/\H' C=none/\Qd H') { s3 with heap:=h4,toks:=tk }:=by
  refine aeW (fun n s'=>∃i σ' H',Inv (dz X (own++be) sc s3 H3 C fp) [] σ' H' s'/\tn i s'.heap/\(∀b∈fp,H' b=none)/\W i n σ' H') ?_ m0 ⟨0,_,H3,I4,PB,fun b hb=>(f3 b hb).1,w0⟩;rintro n s' ⟨i,σ',H',J',f9,PD,w'⟩
  rcases ask i n σ' H' w' with⟨stop,qd⟩ | ⟨go,step⟩
  . refine thn (T.done (dz X (own++be) sc s3 H3 C fp) rfl rfl rfl hc i [] s' σ' H' _ J' (HV PD) f9 stop) fun r s1 ae2=>ae2.elim fun hr J1=>?_;subst hr;obtain⟨m1,hn1,_⟩:=J1.loc;exact⟨rfl,m1,H',hn1,J1.os,J1.bare,J1.base,J1.hok,J1.free,qd⟩
  . refine thn (T.item (dz X (own++be) sc s3 H3 C fp) rfl rfl rfl hc i [] s' σ' H' _ J' (HV PD) f9 go) fun r s1 ae4=>ae4.elim fun u ae5=>ae5.elim fun hr h1=>?_;subst hr;refine thn h1 fun _ s2 ae6=>ae6.elim fun x ae7=>ae7.elim fun H5 ae8=>ae8.elim fun J5 ae9=>ae9.elim fun r5 afa=>afa.elim fun y5 afb=>afb.elim fun tI Hi=>?_;have J5':=J5.pinned (HV Hi) (T.obj _ _ tI);refine eg (hg _ s2 σ' H5 x u _ J5' r5 (step x H5 y5)) (fun _ s6 afd=>afd.elim fun σ6 afe=>afe.elim fun H6 aff=>aff.elim fun J6 q6=>?_) (fun _ _ z=>z.elim);refine eg (ht _ s6 σ6 H6 _ J6 q6) (fun ok s7 afg=>afg.elim fun H7 afh=>afh.elim fun J7 q7=>?_) (fun _ _ z=>z.elim);have again:∀{s9:Shared}{H9:Hp}{m':Nat},Inv (dz X (own++be) sc s3 H3 C fp) ([]++tG fp s2.heap) σ6 H9 s9->m'<n->W (i+1) m' σ6 H9 ->
     ∃m,m<n/\∃i σ' H',Inv (dz X (own++be) sc s3 H3 C fp) [] σ' H' s9/\tn i s9.heap/\(∀b∈fp,H' b=none)/\W i m σ' H':=fun {s9 H9 m'} J9 hm w9=>by
     refine⟨m',hm,i+1,σ6,H9,J9.unpinned,T.keep _ _ _ tI fun b hb o e=>(J9.pin (b,o) (eS _ (eS _ (qT hb e)))).1,fun b hb=>?_,w9⟩;obtain⟨o,e,d⟩:=T.obj _ _ tI b hb;exact(J9.pin (b,o) (eS _ (eS _ (qT hb e)))).2.1
    cases ok with
    | false=>
     rw[ai cK]at q7 ⊢;obtain⟨m',hm,w7⟩:=q7;exact again J7 hm w7
    | true=>
     rw[aq rfl]at q7 ⊢;refine eg (he _ s7 σ6 H7 _ J7 q7) (fun y s8 afi=>afi.elim fun yv afj=>afj.elim fun H8 afk=>afk.elim fun J8 afl=>afl.elim fun r8 afm=>afm.elim fun ys afn=>afn.elim fun iE afo=>afo.elim fun hz afp=>afp.elim fun m' afq=>afq.elim fun hm w8=>?_) (fun _ _ z=>z.elim);refine eg (oU (X:=dz X (own++be) sc s3 H3 C fp) _ s8 σ6 H8 (.ref D) [yv] (.ref D) [y] (fun v H9=>H9=ah H8 D (.lst (ys++[yv]))) J8 rfl (.cons r8 .nil) ⟨D,ys,yv,rfl,rfl,iE,hz,rfl⟩) (fun _ s9 afr=>afr.elim fun _ afs=>afs.elim fun H9 aft=>aft.elim fun J9 afu=>afu.elim fun _ eH=>?_) (fun _ _ z=>z.elim);subst eH;exact again J9 hm w8
 exact codeAny_compStart_list loop (T.self X.A 0 _ _ _ PB loop)
theorem PF{elt tg iter:Expr}{ifs:List Expr}{sc:Scope}{pos:Pos}{own be:Ls}{js:List Nat}{g:TG}{tt:TT}{te:TE}{it:Addr}{fp:List Addr}{tn:Nat->Heap->Prop}{J:It}{H2:Hp}{s2:Shared}{use:Option (Value->Sem Unit)}{Qr:VP}{Er:VP}
 {Q:V->Hp->Prop} (S:kK X own be js sc) (hc:X.calm=true) (I2:Inv X pins σ H2 s2) (T:qS X.prog X.w X.K tg J fp it tn) (ft:tn 0 s2.heap) (f2:∀b∈fp,eU X pins H2 b)
 (hg:∀s₀ H₀ C ex,PG (dz X (own++be) sc s₀ H₀ C ex) tg g) (ht:∀s₀ H₀ C ex,mM (dz X (own++be) sc s₀ H₀ C ex) ifs tt) (he:∀s₀ H₀ C ex,PE (dz X (own++be) sc s₀ H₀ C ex) elt te)
 (q2:∀D,H2 D=none->∃W:Nat->Nat->St->Hp->Prop,(∃m,W 0 m (compStart own.length js σ) (ah H2 D (.lst [])))/\lL J g tt te D (fun H'=>Q (.ref D) H') W)
 (fin:∀(D C:Addr) (H':Hp) (s':Shared) (m':Mv),s2.heap.objs.size<C->s'.heap.Ns C m'->Inv X pins σ H' s'->H' C=none->Q (.ref D) H'->compPost (model X.prog X.w) X.A Er use Qr (.ref D) C (.ok .next) s') :
 wpAny (model X.prog X.w) X.A (newList []) (fun acc s₃=>wpAny (model X.prog X.w) X.A (newFunctionEnv sc X.env.globals (gK X.env sc.names []) [] X.env.qual none .none (some X.env)) (fun PH s₄=>
  codeAny (model X.prog X.w) X.A (.compStart (.ListComp elt [⟨tg,iter,ifs,0⟩] sc pos) 0 (.ref it) acc { PH with scope:=relabel sc X.env }) (compPost (model X.prog X.w) X.A Er use Qr acc PH.locals) s₄) Er s₃) Er s2:=by
 have PJ:H2 s2.heap.objs.size=none:=I2.fresh;obtain⟨W,⟨m0,w0⟩,ask⟩:=q2 _ PJ;have I3:=I2.lnew (ys:=[]) (its:=[]) (t':=s2.toks) .nil (dw _);have C6:∀b∈fp,b<s2.heap.objs.size:=fun b hb=>by
  obtain⟨o,e,_⟩:=T.obj 0 _ ft b hb;exact bv e
 have f3:∀b∈fp,eU X pins (ah H2 s2.heap.objs.size (.lst [])) b:=fun b hb=>by
  refine⟨?_,(f2 b hb).2⟩;rw[aV (cV (C6 b hb))];exact(f2 b hb).1
 refine Ck (hd:=by size_fits) (wpAny_newFunctionEnv S.nocell (by intro y hy;simp at hy) (fun h4 kL PL=>?_) S.kind);dsimp only at kL PL ⊢;have hkp:∀b o,(s2.heap.push { cls:=.type "list",dict:=none,data:=.seq ([]:Lw).toArray }).get? b=some o->h4.get? b=some o:=fun b o e=>
  PL.extBut b o (cV (bv e)) (bR _ e)
 have tH:tn 0 (s2.heap.push { cls:=.type "list",dict:=none,data:=.seq ([]:Lw).toArray }):=T.keep 0 _ _ ft fun b _ o e=>bR _ e;refine oq (aeZ (s3:={ s2 with heap:=s2.heap.push { cls:=.type "list",dict:=none,data:=.seq ([]:Lw).toArray } }) (tk:=s2.toks+([]:List (Str×Value)).length) S hc I3 T tH f3 rfl kL hkp (hg _ _ _ _) (ht _ _ _ _) (he _ _ _ _) w0 ask) fun r s' hr=>?_;obtain⟨er,m',H',jF,CQ,afw,un',tR,zd,qd⟩:=hr;subst er;have un1:Un (cn X.stack) fp H2 (ah H2 s2.heap.objs.size (.lst [])) s2.heap (s2.heap.push { cls:=.type "list",dict:=none,data:=.seq ([]:Lw).toArray }):=Un.laid (fun b o e=>bR _ e) (aJ _) PJ;refine fin _ _ H' s' m' ?_ jF (I2.call' (s':=s') (ch:=fp) CQ (un1.trans un') tR afw (fun b hb=>⟨(f2 b hb).2.2.2.1,(f2 b hb).2.1,(f2 b hb).2.2.2.2.1,(f2 b hb).2.2.2.2.2⟩)) zd qd;show s2.heap.objs.size<(s2.heap.push { cls:=.type "list",dict:=none,data:=.seq ([]:Lw).toArray }).objs.size;rw[sU];exact yq _
theorem Inv.letGo{H:Hp}{s:Shared}{C:Addr}{h':Heap}(I:Inv X pins σ H s)(sb:Heap.SameBut C s.heap h')(hn:H C=none)(h0:X.s₀.heap.objs.size<=C)(h1:C≠X.env.locals)(h2:∀x c,X.env.cells.lookup x=some c->c≠C)(h3:∀p∈X.pn++pins,p.1≠C) :
 Inv X pins σ H { s with heap:=h' }:=by
 refine I.call' (s':={ s with heap:=h' }) (ch:=[C]) rfl ⟨fun b o e _ _ hb=>?_,fun b o e _ _ hb=>⟨o.slots,?_⟩,fun _ _ _ n _=>n,fun b o e hb=>⟨o,?_⟩,fun _ _ q=>q,fun _ _ _ q=>q,fun _ ps q=>⟨#[],by rw[q];simp⟩⟩ (aeX I.hok sb hn) I.bare (fun b hb=>?_)
 . exact(sb.2 b (by simpa using hb)).trans e
 . exact(sb.2 b (by simpa using hb)).trans e
 . exact(sb.2 b (by simpa using hb)).trans e
 . have:b=C:=by simpa using hb
   subst this;exact⟨.inr h0,h1,h2,h3⟩
theorem Inv.goes{H2 H:Hp}{s2 s:Shared}{σ':St}{C:Addr}{h':Heap}(I2:Inv X pins σ' H2 s2)(hC:s2.heap.objs.size<C)(I:Inv X pins σ H s)(sb:Heap.SameBut C s.heap h')(hn:H C=none):Inv X pins σ H { s with heap:=h' }:=by
 refine I.letGo sb hn (vK (VZ I2.sz hC)) (ke (yw I2.lt hC)) (fun x c e z=>?_) (fun p hp z=>?_)
 . obtain⟨v,q⟩:=I2.cell x c e;exact absurd (yw q.lt hC) (by rw[z];exact oj _)
 . exact absurd (yw (bv (I2.pin p hp).1) hC) (by rw[z];exact oj _)
theorem kK.clos{own be:Ls}{js:List Nat}{sc:Scope}(S:kK X own be js sc)(ok:X.Ok):closureFor sc X.env=pure (gK X.env sc.names []):=
 aeY fun y hy e=>ok.has _ (.inl (S.outer _ (S.frees y hy e)))
theorem fM{elt tg iter:Expr}{ifs:List Expr}{sc:Scope}{pos:Pos}(own be:Ls)(js:List Nat){wi:TI}{g:TG}{tt:TT}{te:TE}(S:kK X own be js sc)(hc:X.calm=true)(hi:PI X tg iter wi)
 (hg:∀s₀ H₀ C ex,PG (dz X (own++be) sc s₀ H₀ C ex) tg g) (ht:∀s₀ H₀ C ex,mM (dz X (own++be) sc s₀ H₀ C ex) ifs tt) (he:∀s₀ H₀ C ex,PE (dz X (own++be) sc s₀ H₀ C ex) elt te)
 (hs:∀x,foldedSetIterable iter X.env x=pure x:=by intro _;rfl):PE X (.ListComp elt [⟨tg,iter,ifs,0⟩] sc pos) (HU wi own.length js g tt te):=by
 intro pins s σ H Q I h;rw[eval_ListComp];refine aCk (use:=none) rfl hs (S.clos I.ok) S.kind S.names (thn (hi pins s σ H _ I h) fun v s1 h1=>thn h1 fun CM s2 h2=>?_);obtain⟨it,fp,tn,J,H2,e,I2,T,ft,f2,q2⟩:=h2;subst e;refine PF (Q:=Q) S hc I2 T ft f2 hg ht he q2 fun D C H' s' m' hC jF I' zd qd=>?_;exact⟨m',jF,fun h' sb=>⟨.ref D,H',I2.goes hC I' sb zd,rfl,qd⟩⟩
theorem q9{i:Nat}{x:Str}{elt tg iter:Expr}{ifs:List Expr}{sc:Scope}{pos px ps:Pos}(own be:Ls)(js:List Nat){wi:TI}{g:TG}{tt:TT}{te:TE}(hN:X.N.Nodup)(hx:X.N[i]?=some x)(hl:X.env.scope.names.lookup x=some .local)(S:kK X own be js sc)(hc:X.calm=true)
 (hi:PI X tg iter wi) (hg:∀s₀ H₀ C ex,PG (dz X (own++be) sc s₀ H₀ C ex) tg g) (ht:∀s₀ H₀ C ex,mM (dz X (own++be) sc s₀ H₀ C ex) ifs tt) (he:∀s₀ H₀ C ex,PE (dz X (own++be) sc s₀ H₀ C ex) elt te)
 (hsw:swapsWith (.ListComp elt [⟨tg,iter,ifs,0⟩] sc pos) (some (.Name x px)) ps.line X.env=pure true:=by rfl)
 (hs:∀x,foldedSetIterable iter X.env x=pure x:=by intro _;rfl):PS X (.Assign [.Name x px] (.ListComp elt [⟨tg,iter,ifs,0⟩] sc pos) ps) (OE (HU wi own.length js g tt te) (lI i)):=by
 intro pins s σ H D I h;rw[exec_Assign_Name_used _ _ _ _ hsw];refine af (VQ (af ?_));show wpAny _ X.A (do let _ ←comprehension (.ListComp elt [⟨tg,iter,ifs,0⟩] sc pos) sc X.env _ (newList []) false (eval iter X.env) (some (assign (.Name x px) X.env))) _ _ s;refine af (eg (aCk (use:=some (assign (.Name x px) X.env)) (Q:=fun _ s'=>∃σ' H',Inv X pins σ' H' s'/\D.nx σ' H') rfl hs (S.clos I.ok) S.kind S.names
  (thn (hi pins s σ H _ I h) fun v s1 h1=>thn h1 fun CM s2 h2=>?_)) (fun _ s' hq=>au (au hq)) fun _ _ e=>e)
 obtain⟨it,fp,tn,J,H2,e,I2,T,ft,f2,q2⟩:=h2;subst e;refine PF (Q:=fun v H1=>lI i v σ H1 D.nx) S hc I2 T ft f2 hg ht he q2 fun D' C H' s' m' hC jF I' zd qd=>?_;show wpAny _ X.A (assign (.Name x px) X.env (.ref D')) _ _ s';refine wpAny_assign_Name (Ot (v:=.ref D') I' hN hx (.inl hl) rfl (fun CU I'' afB=>afB.elim fun a afC=>afC.elim fun sb ha=>?_) (.inr hl));have ne:C≠a:=by
  rcases ha with z | z
  . rw[z];exact ke (yw I2.lt hC)
  . obtain⟨v,q⟩:=I2.cell x a z;exact ke (yw q.lt hC)
 exact⟨m',jF.sameBut sb ne,fun h' sb'=>⟨_,H',I2.goes hC I'' sb' zd,qd⟩⟩
end
section
variable {X:Cx}{e k:Expr}{te tk:TE}{pos p2:Pos}
def afE(K:Fg)(te tk:TE):TE:=fun σ H Q=>te σ H fun x H1=>tk σ H1 fun z H2=>z=.int (-1)/\∃a xs,x=.ref a/\ae K H2 a xs/\∀p,H2 p=none->Q (.ref p) (ah H2 p (.lst xs.reverse))
theorem Paired.rev{α β:Type}{R:α->β->Prop}:∀{xs:List α}{ys:List β},Paired R xs ys->∀{jD:List α}{bP:List β},Paired R jD bP->Paired R (xs.reverseAux jD) (ys.reverseAux bP)
 | _,_,.nil,_,_,h=>h
 | _,_,.cons r rs,_,_,h=>Paired.rev rs (.cons r h)
theorem afF(he:PE X e te)(hk:PE X k tk):PE X (.Subscript e (.Slice none none (some k) p2) pos) (afE X.K te tk):=by
 intro pins s σ H Q I h;refine NQ (thn (he pins s σ H _ I h) fun v s1 afG=>afG.elim fun x afH=>afH.elim fun H1 afI=>afI.elim fun I1 afJ=>afJ.elim fun r1 q1=>?_);refine wpAny_Slice ?_;rw[VT];refine au (au ?_);rw[evalPart_some];refine thn (hk pins s1 σ H1 _ I1 q1) fun u s3 afK=>afK.elim fun z afL=>afL.elim fun H3 afM=>afM.elim fun I3 afN=>afN.elim fun r3 q3=>?_;obtain⟨ez,a,xs,ex,hx,q⟩:=q3;subst ez ex;obtain⟨t,rfl⟩:=r3;cases r1;have I4:Inv X pins σ H3 { s3 with heap:=s3.heap.push { cls:=.type "slice",data:=.fields #[.none,.none,.int (-1) t] } }:=I3.kept (t':=s3.toks) fun b ob q=>bR _ q;obtain⟨its,r,ht,hz⟩:=I4.list hx;have hlen:=r.length;show wpAny (model X.prog X.w) X.A (subscriptTail e (.Slice none none (some k) p2) (.ref a) (.ref s3.heap.objs.size)) (EP X pins σ Q) X.xe { s3 with heap:=s3.heap.push { cls:=.type "slice",data:=.fields #[.none,.none,.int (-1) t] } };refine tail_any (ops:=[.ref a,.ref s3.heap.objs.size]) (T:="list") ht.isList.typeIs VU.lookup ?_ (by with_unfolding_all rfl);refine aCe ht.isList (Heap.IsSliceOf.new ..) .none .none (.int (-1) t) (by decide) ?_ (by rw[fc];omega);rw[PySem.W.krv_pick];refine⟨.ref _,_,I4.laid (t':=s3.toks) (o:=.lst xs.reverse) (fun b ob q=>bR _ q) (aJ _) ?_,rfl,q _ (I4.hok.fresh (aJ _))⟩;exact⟨by rw[V1];exact hz,_,0,Paired.rev r .nil,dW _ rfl⟩
end
section
variable {X:Cx}{a b c d:Expr}{ta tb tc td:TE}{pos:Pos}
end
abbrev dJ (H:Hp) (o:HO) (Q:V->Hp->Prop):Prop:=∀p H',H p=none->ag H H'->H' p=some o->Q (.ref p) H'
theorem dJ.at{H:Hp}{o:HO}{Q:V->Hp->Prop}(h:dJ H o Q):∀p,H p=none->Q (.ref p) (ah H p o):=fun p hp=>h p _ hp (fL hp) aI
theorem cR.weak{X:Cx}{f:Value->Value->Sem Value}{r r':R2}(h:cR X f r)(w:∀x y H Q,r' x y H Q->r x y H Q):cR X f r':=fun pins s σ H x y v u Q I rx ry q=>h pins s σ H x y v u Q I rx ry (w _ _ _ _ q)
theorem fv.weak{X:Cx}{f:Value}{r r':Lv->Hp->VK->Prop}(h:fv X f r)(w:∀xs H Q,r' xs H Q->r xs H Q):fv X f r':=fun pins s σ H xs us Q I rx q=>h pins s σ H xs us Q I rx (w _ _ _ q)
theorem tM.weak{X:Cx}{r r':V->Option Int->Option Int->Hp->VK->Prop}(h:tM X r)(w:∀x l u H Q,r' x l u H Q->r x l u H Q):tM X r':=fun pins s σ H x v vl vu lo hi sl Q I rx hs pl pu q=>h pins s σ H x v vl vu lo hi sl Q I rx hs pl pu (w _ _ _ _ _ q)
section
variable {X:Cx}{e k:Expr}{es:List Expr}{te tk:TE}{t:TA}{pos p2:Pos}
def afO:R2:=fun x y H Q=>∃l b xs zs,x=.ref l/\y=.ref b/\H l=some (.lst xs)/\H b=some (.lst zs)/\xs.length+zs.length<=sizeLine/\dJ H (.lst (xs++zs)) Q
theorem wp:cR X (binaryOp .Add) afO:=acv.weak fun x y H Q afP=>afP.elim fun l afQ=>afQ.elim fun b afR=>afR.elim fun xs afS=>afS.elim fun zs afT=>afT.elim fun a1 afU=>afU.elim fun a2 afV=>afV.elim fun a3 afW=>afW.elim fun a4 afX=>afX.elim fun a5 a6=>⟨l,b,xs,zs,a1,a2,a3,a4,a5,a6.at⟩
def afY(K:Fg):V->Option Int->Option Int->Hp->VK->Prop:=fun x lo hi H Q=>∃a xs,x=.ref a/\ae K H a xs/\dJ H (.lst (oO xs lo hi)) Q
theorem mO:tM X (afY X.K):=ab2.weak fun x l u H Q afZ=>afZ.elim fun a af0=>af0.elim fun xs af1=>af1.elim fun a1 af2=>af2.elim fun a2 a3=>⟨a,xs,a1,a2,a3.at⟩
theorem lO:fv X (.type "list") (fun xs H Q=>∃p ys,xs=[.ref p]/\(ae X.K H p ys\/aW X.K H p ys)/\dJ H (.lst ys) Q):=yZ.weak fun xs H Q af3=>af3.elim fun p af4=>af4.elim fun ys af5=>af5.elim fun a1 af6=>af6.elim fun a2 a3=>⟨p,ys,a1,a2,a3.at⟩
def af7(t:TA):TE:=fun σ H Q=>t σ H fun xs H1=>xs.length<=sizeLine/\dJ H1 (.tup xs) Q
def af8(t:TA):TE:=fun σ H Q=>t σ H fun xs H1=>xs.length<=sizeLine/\dJ H1 (.lst xs) Q
theorem PA.thn{t:TA}(h:PA X es t){A:Hp->Prop}{F:VK->Lv->Hp->Prop}{G:VK->Lv->Hp->Prop}(w:∀Q xs H,F Q xs H->G Q xs H):PA X es (fun σ H R=>∃Q:VK,t σ H (F Q)/\R=G Q):=by
 intro pos pins s σ H R I ⟨Q,q,e⟩;subst e;exact L2.thn (h pos pins s σ H _ I q) fun us s1 af9=>af9.elim fun vs aga=>aga.elim fun H1 agb=>agb.elim fun I1 agc=>agc.elim fun r1 q1=>⟨vs,H1,I1,r1,w _ _ _ q1⟩
theorem eK{x1}(h:PA X es t):PE X (.Tuple es x1 pos) (af7 t):=by
 intro pins s σ H Q I q;exact OS (PA.thn (A:=fun _=>True) (F:=fun Q xs H1=>xs.length<=sizeLine/\dJ H1 (.tup xs) Q) (G:=fun Q xs H1=>xs.length<=sizeLine/\∀p,H1 p=none->Q (.ref p) (ah H1 p (.tup xs))) h (fun Q xs H agd=>agd.elim fun a b=>⟨a,b.at⟩)) pins s σ H Q I ⟨Q,q,rfl⟩
theorem cX(h:PA X es t):PE X (.List es pos) (af8 t):=by
 intro pins s σ H Q I q;exact aaE (PA.thn (A:=fun _=>True) (F:=fun Q xs H1=>xs.length<=sizeLine/\dJ H1 (.lst xs) Q) (G:=fun Q xs H1=>xs.length<=sizeLine/\∀p,H1 p=none->Q (.ref p) (ah H1 p (.lst xs))) h (fun Q xs H age=>age.elim fun a b=>⟨a,b.at⟩)) pins s σ H Q I ⟨Q,q,rfl⟩
def agf(K:Fg)(te:TE):TE:=fun σ H Q=>te σ H fun x H2=>∃a xs,x=.ref a/\ae K H2 a xs/\dJ H2 (.lst xs.reverse) Q
theorem PE.thn{t:TE}{F G:VK->VK}(h:PE X e t)(w:∀Q v H,F Q v H->G Q v H):PE X e (fun σ H R=>∃Q:VK,t σ H (F Q)/\R=G Q):=by
 intro pins s σ H R I ⟨Q,q,e⟩;subst e;exact L2.thn (h pins s σ H _ I q) fun u s1 agg=>agg.elim fun v agh=>agh.elim fun H1 agi=>agi.elim fun I1 agj=>agj.elim fun r1 q1=>⟨v,H1,I1,r1,w _ _ _ q1⟩
theorem PM{j p3 p4}(he:PE X e te):PE X (.Subscript e (.Slice none none (some (.UnaryOp .USub (.Constant (.int 1) j p3) p4)) p2) pos) (agf X.K te):=by
 intro pins s σ H Q I q;refine afF (k:=.UnaryOp .USub (.Constant (.int 1) j p3) p4) (PE.thn (F:=fun Q x H2=>∃a xs,x=.ref a/\ae X.K H2 a xs/\dJ H2 (.lst xs.reverse) Q)
  (G:=fun Q x H1=>∃i,V.int 1=.int i/\(V.int (-i)=.int (-1)/\∃a xs,x=.ref a/\ae X.K H1 a xs/\∀p,H1 p=none->Q (.ref p) (ah H1 p (.lst xs.reverse)))) he
  fun Q v H agk=>agk.elim fun a agl=>agl.elim fun xs agm=>agm.elim fun a1 agn=>agn.elim fun a2 a3=>⟨1,rfl,rfl,a,xs,a1,a2,a3.at⟩) (qU qV ar) pins s σ H Q I ⟨Q,q,rfl⟩
end
section
variable {g:TG}{tt:TT}{te:TE}{H1:Hp}{Q:Addr->Hp->Prop}
theorem ago{lo:Int}{n:Nat}{σ0:St}(S:St->Prop)(P:Nat->Lv->Hp->Prop)(s0:S σ0)(st:∀D,H1 D=none->P 0 [] (ah H1 D (.lst [])))
 (turn:∀D i ys σ H (k:St->V->Hp->Prop) (k':St->Hp->Prop),H1 D=none->i<n->S σ->H D=some (.lst ys)->ag H1 H->P i ys H ->
  (∀σ3 y H5,S σ3->ag H H5->ys.length<sizeLine->P (i+1) (ys++[y]) (ah H5 D (.lst (ys++[y])))->k σ3 y H5)->(∀σ3 H4,S σ3->ag H H4->P (i+1) ys H4->k' σ3 H4) ->
  g (.int (lo+i)) σ H fun σ3 H3=>tt σ3 H3 fun ok H4=>if ok=true then te σ3 H4 (k σ3) else k' σ3 H4)
 (done:∀D ys H,H1 D=none->H D=some (.lst ys)->ag H1 H->P n ys H->Q D H) :
 ∀D,H1 D=none->∃W:Nat->Nat->St->Hp->Prop,(∃m,W 0 m σ0 (ah H1 D (.lst [])))/\lL (oJ lo n) g tt te D (fun H'=>Q D H') W:=by
 intro D hD;refine⟨fun i m σ H=>m=n - i/\i<=n/\S σ/\∃ys,H D=some (.lst ys)/\ag H1 H/\P i ys H,⟨n,by simp,dw _,s0,[],aI,fL hD,st D hD⟩,?_⟩;rintro i m σ H ⟨rfl,hi,hS,ys,hd,hs,hp⟩
 by_cases aN:i<n
 . refine .inr ⟨aN,fun x H2 hy=>?_⟩;obtain⟨e1,e2⟩:=hy;subst e1 e2;exact turn D i ys σ _ (fun σ3 y H5=>∃ys,H5 D=some (.lst ys)/\ys.length<sizeLine/\∃m',m'<n - i/\(m'=n - (i+1)/\i+1<=n/\S σ3/\∃zs,ah H5 D (.lst (ys++[y])) D=some (.lst zs)/\ag H1 (ah H5 D (.lst (ys++[y])))/\P (i+1) zs (ah H5 D (.lst (ys++[y])))))
    (fun σ3 H4=>∃m',m'<n - i/\(m'=n - (i+1)/\i+1<=n/\S σ3/\∃zs,H4 D=some (.lst zs)/\ag H1 H4/\P (i+1) zs H4)) hD aN hS hd hs hp
    (fun σ3 y H5 a1 a2 a3 a4=>⟨ys,a2 _ _ hd,a3,n - (i+1),by omega,rfl,aN,a1,ys++[y],aI,fw (hs.trans a2) hD,a4⟩)
    (fun σ3 H4 a1 a2 a3=>⟨n - (i+1),by omega,rfl,aN,a1,ys,a2 _ _ hd,hs.trans a2,a3⟩)
 . have e:i=n:=by omega
   subst e;exact .inl ⟨aJ _,done D ys H hD hd hs hp⟩
theorem HW{K:Fg}{a:Addr}{xs:Lv}{σ0:St}(hx:ae K H1 a xs)(S:St->Prop)(P:Nat->Lv->Hp->Prop)(s0:S σ0)(st:∀D,H1 D=none->P 0 [] (ah H1 D (.lst [])))
 (turn:∀D i x ys σ H (k:St->V->Hp->Prop) (k':St->Hp->Prop),H1 D=none->xs[i]?=some x->S σ->H D=some (.lst ys)->ag H1 H->P i ys H ->
  (∀σ3 y H5,S σ3->ag H H5->ys.length<sizeLine->P (i+1) (ys++[y]) (ah H5 D (.lst (ys++[y])))->k σ3 y H5)->(∀σ3 H4,S σ3->ag H H4->P (i+1) ys H4->k' σ3 H4) ->
  g x σ H fun σ3 H3=>tt σ3 H3 fun ok H4=>if ok=true then te σ3 H4 (k σ3) else k' σ3 H4)
 (done:∀D ys H,H1 D=none->H D=some (.lst ys)->ag H1 H->P xs.length ys H->Q D H) :
 ∀D,H1 D=none->∃W:Nat->Nat->St->Hp->Prop,(∃m,W 0 m σ0 (ah H1 D (.lst [])))/\lL (mE K a) g tt te D (fun H'=>Q D H') W:=by
 intro D hD;refine⟨fun i m σ H=>m=xs.length - i/\i<=xs.length/\S σ/\∃ys,H D=some (.lst ys)/\ag H1 H/\P i ys H,⟨xs.length,by simp,dw _,s0,[],aI,fL hD,st D hD⟩,?_⟩;rintro i m σ H ⟨rfl,hi,hS,ys,hd,hs,hp⟩;have q:ae K H a xs:=ag.seq hs hx
 by_cases aN:i<xs.length
 . refine .inr ⟨⟨xs,xs[i],q,by simp[aN]⟩,fun x H2 hy=>?_⟩;obtain⟨e1,e2⟩:=hy;subst e1;exact turn D i x ys σ _ (fun σ3 y H5=>∃ys,H5 D=some (.lst ys)/\ys.length<sizeLine/\∃m',m'<xs.length - i/\(m'=xs.length - (i+1)/\i+1<=xs.length/\S σ3/\∃zs,ah H5 D (.lst (ys++[y])) D=some (.lst zs)/\ag H1 (ah H5 D (.lst (ys++[y])))/\P (i+1) zs (ah H5 D (.lst (ys++[y])))))
    (fun σ3 H4=>∃m',m'<xs.length - i/\(m'=xs.length - (i+1)/\i+1<=xs.length/\S σ3/\∃zs,H4 D=some (.lst zs)/\ag H1 H4/\P (i+1) zs H4)) hD (e2 xs q) hS hd hs hp
    (fun σ3 y H5 a1 a2 a3 a4=>⟨ys,a2 _ _ hd,a3,xs.length - (i+1),by omega,rfl,aN,a1,ys++[y],aI,fw (hs.trans a2) hD,a4⟩)
    (fun σ3 H4 a1 a2 a3=>⟨xs.length - (i+1),by omega,rfl,aN,a1,ys,a2 _ _ hd,hs.trans a2,a3⟩)
 . have e:i=xs.length:=by omega
   subst e;exact .inl ⟨⟨xs,q,aJ _⟩,done D ys H hD hd hs hp⟩
theorem wq{lo:Int}{n:Nat}{σ0:St}(S:St->Prop)(P:Nat->Lv->Hp->Prop)(s0:S σ0)(st:∀D,H1 D=none->P 0 [] (ah H1 D (.lst [])))
 (turn:∀D i ys σ H (k:St->V->Hp->Prop),H1 D=none->i<n->S σ->H D=some (.lst ys)->ag H1 H->P i ys H ->
  (∀σ3 y H5,S σ3->ag H H5->ys.length<sizeLine->P (i+1) (ys++[y]) (ah H5 D (.lst (ys++[y])))->k σ3 y H5)->g (.int (lo+i)) σ H fun σ3 H3=>te σ3 H3 (k σ3))
 (done:∀D ys H,H1 D=none->H D=some (.lst ys)->ag H1 H->P n ys H->Q D H) :
 ∀D,H1 D=none->∃W:Nat->Nat->St->Hp->Prop,(∃m,W 0 m σ0 (ah H1 D (.lst [])))/\lL (oJ lo n) g tQ te D (fun H'=>Q D H') W:=
 ago S P s0 st (fun D i ys σ H k k' a1 a2 a3 a4 a5 a6 a7 _=>turn D i ys σ H k a1 a2 a3 a4 a5 a6 a7) done
theorem zf{K:Fg}{a:Addr}{xs:Lv}{σ0:St}(hx:ae K H1 a xs)(S:St->Prop)(P:Nat->Lv->Hp->Prop)(s0:S σ0)(st:∀D,H1 D=none->P 0 [] (ah H1 D (.lst [])))
 (turn:∀D i x ys σ H (k:St->V->Hp->Prop),H1 D=none->xs[i]?=some x->S σ->H D=some (.lst ys)->ag H1 H->P i ys H ->
  (∀σ3 y H5,S σ3->ag H H5->ys.length<sizeLine->P (i+1) (ys++[y]) (ah H5 D (.lst (ys++[y])))->k σ3 y H5)->g x σ H fun σ3 H3=>te σ3 H3 (k σ3))
 (done:∀D ys H,H1 D=none->H D=some (.lst ys)->ag H1 H->P xs.length ys H->Q D H) :
 ∀D,H1 D=none->∃W:Nat->Nat->St->Hp->Prop,(∃m,W 0 m σ0 (ah H1 D (.lst [])))/\lL (mE K a) g tQ te D (fun H'=>Q D H') W:=
 HW hx S P s0 st (fun D i x ys σ H k k' a1 a2 a3 a4 a5 a6 a7 _=>turn D i x ys σ H k a1 a2 a3 a4 a5 a6 a7) done
end
end L2
namespace Lcp
open PySem
def fz:Ls->Ls->Nat
 | x::xs,y::ys=>if x=y then fz xs ys+1 else 0
 | _,_=>0
theorem HX:∀(xs ys:Ls),fz xs ys<=xs.length/\fz xs ys<=ys.length
 | [],_=>by simp[fz]
 | _::_,[]=>by simp[fz]
 | x::xs,y::ys=>by
  unfold fz;have:=HX xs ys;split<;>simp only[bO]<;>omega
theorem agp{xs ys:Ls}{i:Nat}{x y:Str}(hx:xs[i]?=some x)(hy:ys[i]?=some y):fz (xs.drop i) (ys.drop i)=if x=y then fz (xs.drop (i+1)) (ys.drop (i+1))+1 else 0:=by
 obtain⟨h1,e1⟩:=ci.mp hx;obtain⟨h2,e2⟩:=ci.mp hy;rw[Cm h1,Cm h2,e1,e2];rfl
theorem PN{xs ys:Ls}{i:Nat}(h:xs.length<=i\/ys.length<=i):fz (xs.drop i) (ys.drop i)=0:=by
 rcases h with h | h
 . rw[Cn.mpr h];rfl
 . rw[Cn.mpr h];cases xs.drop i<;>rfl
def fN(xs ys:Ls):Nat:=fz xs ys
def o5(xs ys:Ls):Nat:=fz (xs.drop (fN xs ys)).reverse (ys.drop (fN xs ys)).reverse
def i8(xs ys:Ls):Nat:=xs.length - o5 xs ys
def tS(xs ys:Ls):Ls:=(ys.drop (fN xs ys)).take (ys.length - o5 xs ys - fN xs ys)
theorem PP(xs ys:Ls):fN xs ys+o5 xs ys<=xs.length/\fN xs ys+o5 xs ys<=ys.length:=by
 have h1:=HX xs ys;have h2:=HX (xs.drop (fN xs ys)).reverse (ys.drop (fN xs ys)).reverse;rw[V1,mx,V1,mx]at h2;unfold o5;unfold fN at *;omega
theorem PQ(xs ys:Ls):(tS xs ys).length=ys.length - o5 xs ys - fN xs ys:=by
 obtain⟨l1,l2⟩:=PP xs ys;unfold tS;rw[eh,mx];omega
theorem PR{xs ys:Ls}{x:Str}(h:x∈tS xs ys):x∈ys:=NS (NT h)
end Lcp
namespace L2
open PySem PySem.Spec PyProof.Rows
structure Ln(x:Str):Prop where
 ok:dZ x
 len:x.length<=60
structure lQ(xs:Ls):Prop where
 len:xs.length<=20
 all:∀x∈xs,Ln x
def rc(xs:Ls)(lo hi:Option Int):Ls:=(xs.drop (HT.fJ xs.length 0 lo)).take (HT.fJ xs.length xs.length hi - HT.fJ xs.length 0 lo)
theorem tU(xs:Ls)(lo hi:Option Int):oO (xs.map V.str) lo hi=(rc xs lo hi).map V.str:=by
 unfold oO rc;rw[am,V2,List.map_drop]
theorem agq{xs:Ls}{k:Int}(h:0<=k):rc xs none (some k)=xs.take k.toNat:=by
 obtain⟨n,rfl⟩:∃n:Nat,k=n:=⟨k.toNat,by omega⟩;unfold rc;rw[HT.O5,HT.we,List.drop_zero,Nat.sub_zero];exact aCl.mpr (by simp)
theorem C8{xs:Ls}{k:Int}(h:0<=k):rc xs (some k) none=xs.drop k.toNat:=by
 obtain⟨n,rfl⟩:∃n:Nat,k=n:=⟨k.toNat,by omega⟩;unfold rc;rw[HT.O5,HT.we,lw];rw[V3 (by rw[mx];omega)]
 by_cases q:n<=xs.length
 . rw[NU q]
 . rw[Nat.min_eq_right (by omega),Cn.mpr (aJ _),Cn.mpr (by omega)]
theorem PU{xs:Ls}{i j:Int}(h:0<=i)(h':0<=j):rc xs (some i) (some j)=(xs.drop i.toNat).take (j.toNat - i.toNat):=by
 obtain⟨n,rfl⟩:∃n:Nat,i=n:=⟨i.toNat,by omega⟩;obtain⟨m,rfl⟩:∃n:Nat,j=n:=⟨j.toNat,by omega⟩;unfold rc;rw[HT.we,HT.we,lw,lw]
 by_cases q:n<=xs.length
 . rw[NU q];exact aCl.mpr (by rw[mx];omega)
 . rw[Cn.mpr (show xs.length<=n by omega),Cn.mpr (show xs.length<=min n xs.length by omega)];simp
theorem zh{xs:Ls}{r:Int}(h0:0<=r)(h1:r<xs.length):∃z,bZ (xs.map V.str) r=some (V.str z)/\xs[r.toNat]?=some z:=by
 obtain⟨v,e,e2⟩:=HN (xs:=xs.map V.str) h0 (by rw[am];exact h1);rw[db]at e2;cases q:xs[r.toNat]? with
 | none=>rw[q]at e2;cases e2
 | some z=>
  rw[q]at e2;cases e2;exact⟨z,e,rfl⟩
theorem C9(xs ys:Ls):xs.map V.str++ys.map V.str=(xs++ys).map V.str:=(cQ ..).symm
theorem PV(xs:Ls):(xs.map V.str).reverse=xs.reverse.map V.str:=List.map_reverse.symm
theorem tV(xs:Ls)(y:Str):xs.map V.str++[V.str y]=(xs++[y]).map V.str:=by rw[cQ];rfl
theorem kM{n:Nat}(h:n<=1000):n<=sizeLine:=vK (bI h)
abbrev dS (xs:Ls):PySem.W.Dat:=.list (xs.map PySem.W.Dat.str)
theorem tW{K:Fg}{H:Hp}{a:Addr}{xs:Ls}(h:ae K H a (xs.map V.str)):DV K H (.ref a) (dS xs):=.lst h (Pw xs)
theorem HY(n:Nat){xs:Ls}(h:∀x∈xs,Ln x):PySem.W.kqdOk (n+1) (dS xs)=true:=by
 simp only[dS,PySem.W.kqdOk,iq,cL];rintro d ⟨x,hx,rfl⟩;cases n with
 | zero=>exact(h x hx).ok
 | succ n=>exact(h x hx).ok
theorem agr{xs ys:Ls}(h:xs.map PySem.W.Dat.str=ys.map PySem.W.Dat.str):xs=ys:=by
 induction xs generalizing ys with
 | nil=>cases ys with
  | nil=>rfl
  | cons y ys=>cases h
 | cons x xs ih=>cases ys with
  | nil=>cases h
  | cons y ys=>
   rw[bL,bL]at h;injection h with h1 h2
   injection h1 with h1
   rw[h1,ih h2]
theorem ags{xs ys:Ls}:dS xs=dS ys↔xs=ys:=⟨fun h=>agr (PySem.W.Dat.list.inj h),fun h=>by rw[h]⟩
theorem HZ{b:Bool}{xs ys:Ls}(h:b=true↔dS xs=dS ys):b=decide (xs=ys):=by
 rw[ags]at h
 by_cases q:xs=ys
 . rw[bG q];exact h.mpr q
 . rw[cH q];exact qE.mpr fun z=>q (h.mp z)
theorem agt{c A B:Prop}[Decidable c](hc:¬c)(h:A):if (!decide c)=true then A else B:=by rw[cH hc];exact gJ h
end L2
namespace Lcp
open PySem L2
def tX(b x y:Ls):Ls:=(((b.take (fN b x)++tS b x)++(b.drop (i8 b x)).take (fN b y - i8 b x))++tS b y)++b.drop (i8 b y)
def Db(a1 b1 a2 b2:Int):Bool:=if (a1=b1/\a2=b2)/\a1=a2 then false else(decide (b1<=a2) || decide (b2<=a1))
def apart(b o n:Ls):Bool:=Db (fN b o) (i8 b o) (fN b n) (i8 b n)
def merge(b o n:Ls):Ls×Option (Ls):=
 if o=b then(n,none) else if n=b\/o=n then(o,none) else if apart b o n=false then(n,some o) else if i8 b o<=fN b n then(tX b o n,none) else(tX b n o,none)
theorem agu{b o n:Ls}(h:o=b):merge b o n=(n,none):=by unfold merge;rw[aq h]
theorem agv{b o n:Ls}(h:o≠b)(h':n=b\/o=n):merge b o n=(o,none):=by unfold merge;rw[ai h,aq h']
theorem agw{b o n:Ls}(h:o≠b)(h':¬(n=b\/o=n))(h2:apart b o n=false):merge b o n=(n,some o):=by unfold merge;rw[ai h,ai h',aq h2]
theorem agx{b o n:Ls}(h:o≠b)(h':¬(n=b\/o=n))(h2:apart b o n=true)(h3:i8 b o<=fN b n):merge b o n=(tX b o n,none):=by unfold merge;rw[ai h,ai h',ai (by rw[h2];decide),aq h3]
theorem agy{b o n:Ls}(h:o≠b)(h':¬(n=b\/o=n))(h2:apart b o n=true)(h3:¬i8 b o<=fN b n):merge b o n=(tX b n o,none):=by unfold merge;rw[ai h,ai h',ai (by rw[h2];decide),ai h3]
theorem PX{b x y:Ls}{z:Str}(h:z∈tX b x y):z∈b\/z∈x\/z∈y:=by
 unfold tX at h
 rcases bK.mp h with h | h
 . rcases bK.mp h with h | h
   . rcases bK.mp h with h | h
     . rcases bK.mp h with h | h
       . exact .inl (NT h)
       . exact .inr (.inl (PR h))
     . exact .inl (NS (NT h))
   . exact .inr (.inr (PR h))
 . exact .inl (NS h)
theorem agz{b o n:Ls}{z:Str}(h:z∈(merge b o n).1):z∈b\/z∈o\/z∈n:=by
 unfold merge at h;split at h
 . exact .inr (.inr h)
 . split at h
   . exact .inr (.inl h)
   . split at h
     . exact .inr (.inr h)
     . split at h
       . exact PX h
       . rcases PX h with h | h | h
         . exact .inl h
         . exact .inr (.inr h)
         . exact .inr (.inl h)
theorem agA(b o n:Ls):(merge b o n).2=none\/(merge b o n).2=some o:=by
 unfold merge;split
 . exact .inl rfl
 . split
   . exact .inl rfl
   . split
     . exact .inr rfl
     . split<;>exact .inl rfl
theorem agB{b o n:Ls}(h1:∀x∈b,Ln x)(h2:∀x∈o,Ln x)(h3:∀x∈n,Ln x):∀x∈(merge b o n).1,Ln x:=fun x hx=>by
 rcases agz hx with h | h | h
 . exact h1 x h
 . exact h2 x h
 . exact h3 x h
end Lcp
namespace L2
open PySem PySem.Spec PyProof.Rows Lcp
def agC(H:Hp)(r:V):Option (Ls)->Prop
 | none=>r=.non
 | some z=>∃l2,r=.ref l2/\H l2=some (.lst (z.map V.str))
structure agD(H:Hp)(t l:Addr)(r:V)(m:Ls×Option (Ls)):Prop where
 tup:H t=some (.tup [.ref l,r])
 lst:H l=some (.lst (m.1.map V.str))
 bes:agC H r m.2
end L2
namespace L2
open PySem PySem.Spec PyProof.Rows
section
variable {X:Cx}
theorem PY{ys:Ls}:∀{us:Lw},aQ (ys.map V.str) us->StrsAre us ys:=by
 induction ys with
 | nil=>intro us r;rw[yu]at r;cases r;exact .nil
 | cons n ns ih=>
  intro us r;rw[bL]at r;cases r with
  | cons r1 r2=>
   obtain⟨t,e⟩:=r1;subst e;exact .cons n t (ih r2)
def PZ(K:Fg):V->Lv->Hp->VK->Prop:=fun x vs H Q=>∃sep p ys,x=.str sep/\vs=[.ref p]/\ae K H p (ys.map V.str)/\(ys.map (·.length)).sum+ys.length * sep.length<=16777216/\Q (.str (Txt.join sep ys)) H
theorem wt:mJ X "str.join" (PZ X.K):=by
 intro pins s σ H x xs v us Q I rx rs h;obtain⟨sep,p,ys,rfl,rfl,hp,hz,q⟩:=h;obtain⟨t,rfl⟩:=rx;cases rs with
 | cons r1 r2=>
  cases r1;cases r2;obtain⟨its,r,ht,_⟩:=I.list hp;exact join_list ht.isList (by simpa using PY r) hz fun t' k=>⟨.str _,H,I.tok k,⟨_,rfl⟩,q⟩
end
section
variable {X:Cx}{K:Fg}
theorem Ia(K:Fg)(h:X.K=K:=by rfl):wf X (O6 K):=h▸eL
theorem agE(K:Fg)(h:X.K=K:=by rfl):wf X (O7 K):=h▸eJ
theorem P1(K:Fg)(h:X.K=K:=by rfl):cR X (compareOp .In) (HB K false):=h▸O9
def agF(K:Fg):Lv->Hp->VK->Prop:=fun xs H Q=>∃p ys,xs=[.ref p]/\(ae K H p ys\/aW K H p ys)/\Q (.int ys.length) H
theorem agG(K:Fg)(h:X.K=K:=by rfl):fv X (.builtin "len") (agF K):=by subst h;exact gc
end
theorem zi{ys:Ls}{b:Nat}(h:∀y∈ys,y.length<=b):(ys.map (·.length)).sum<=ys.length * b:=by
 induction ys with
 | nil=>simp
 | cons y ys ih=>
  have h1:=h y bB;have h2:=ih fun z hz=>h z (bJ _ hz);simp only[bL,List.sum_cons,bO,V4];omega
theorem Dc{ys:Ls}{sep:Str}:(Txt.join sep ys).length<=(ys.map (·.length)).sum+ys.length * sep.length:=by
 have e:Txt.join sep ys=Str.join sep ys:=Co sep ys;rw[e];cases ys with
 | nil=>exact dw _
 | cons a l=>
  rw[len_join_cons];simp only[bO,V4];omega
theorem agH:dZ Str.empty:=by decide +kernel
theorem Ib{sep:Str}(hs:dZ sep):∀{ys:Ls},(∀y∈ys,dZ y)->dZ (Txt.join sep ys):=by
 intro ys h;have e:Txt.join sep ys=Str.join sep ys:=Co sep ys;rw[e];clear e
 induction ys with
 | nil=>exact agH
 | cons a l ih=>
  cases l with
  | nil=>exact h a bB
  | cons b r=>
   show dZ (a++sep++Str.join sep (b::r));exact C2 (C2 (h a bB) hs) (ih fun y hy=>h y (bJ _ hy))
end L2
namespace Lcp
open PySem L2
end Lcp
namespace L2
open PySem PySem.Spec PyProof.Rows
section
variable {X:Cx}{pins:Po}{σ:St}{H:Hp}{s:Shared}
theorem Inv.rehp{H':Hp}(I:Inv X pins σ H s)(h0:∀b,H b=none->H' b=none)(ht:∀b xs,H b=some (.tup xs)->H' b=some (.tup xs))(hf:∀b o u,X.H₀ b=some (.frz o u)->H' b=some (.frz o u))
 (hb:∀b ps,H b=some (.tbl ps)->H' b=some (.tbl ps)) (hok:bY X.prog X.w H' s.heap):Inv X pins σ H' s:=
 ⟨I.ok,I.os,I.bare,⟨I.base.keep,I.base.slot,fun b o e n hx=>h0 b (I.base.free b o e n hx),I.base.there,fun b xs e=>ht b xs (I.base.tups b xs e),hf,fun b ps e=>(I.base.tbls b ps e).elim fun m q=>⟨m,hb _ _ q⟩⟩,I.loc,I.cell,h0 _ I.free,
  fun x c e=>h0 _ (I.freeC x c e),fun p hp=>⟨(I.pin p hp).1,h0 _ (I.pin p hp).2.1,(I.pin p hp).2.2⟩,hok,I.len⟩
theorem Inv.freeze{d:Addr}{kvs:List (aw×V)}{o:Obj}(I:Inv X pins σ H s)(e:H d=some (.dK kvs))(ho:s.heap.get? d=some o):Inv X pins σ (ah H d (.frz o (.dK kvs))) s:=by
 have ne:∀b u,H b=some u->(∀ks,u≠.dK ks)->b≠d:=fun b u q hu z=>by rw[z,e]at q;cases q;exact hu _ rfl
 refine I.rehp (fun b q=>?_) (fun b xs q=>?_) (fun b o' u q=>?_) (fun b ps q=>?_) fun b u q=>?_
 . rw[aV (fun z=>by rw[z,e]at q;cases q)];exact q
 . rw[aV (ne b _ q (by intro ks z;cases z))];exact q
 . have q:=I.base.frzs b o' u q;rw[aV (ne b _ q (by intro ks z;cases z))];exact q
 . rw[aV (ne b _ q (by intro ks z;cases z))];exact q
 . have up:∀{c:Addr}{w:HO},H c=some w->(∀ks,w≠.dK ks)->ah H d (.frz o (.dK kvs)) c=some w:=fun {c w} hc hw=>by rw[aV (ne c _ hc hw)];exact hc
   by_cases z:b=d
   . subst z;rw[aI]at q;cases q;exact⟨ho,(I.hok b _ e).stay (fun _ _ _ q=>q) (fun c hc=>up hc (by intro ks z;cases z)) fun c xs hc=>up hc (by intro ks z;cases z)⟩
   . rw[aV z]at q;exact(I.hok b _ q).stay (fun _ _ _ q=>q) (fun c hc=>up hc (by intro ks z;cases z)) fun c xs hc=>up hc (by intro ks z;cases z)
theorem Inv.thaw{d:Addr}{kvs:List (aw×V)}{o:Obj}(I:Inv X pins σ H s)(e:H d=some (.frz o (.dK kvs)))(hz:∀o' u,X.H₀ d≠some (.frz o' u)):Inv X pins σ (ah H d (.dK kvs)) s:=by
 have ne:∀b u,H b=some u->(∀o' u',u≠.frz o' u')->b≠d:=fun b u q hu z=>by rw[z,e]at q;cases q;exact hu _ _ rfl
 have up:∀{c:Addr}{w:HO},H c=some w->(∀o' u',w≠.frz o' u')->ah H d (.dK kvs) c=some w:=fun {c w} hc hw=>by rw[aV (ne c _ hc hw)];exact hc
 refine I.rehp (fun b q=>?_) (fun b xs q=>up q (by intro _ _ z;cases z)) (fun b o' u q=>?_) (fun b ps q=>up q (by intro _ _ z;cases z)) fun b u q=>?_
 . rw[aV (fun z=>by rw[z,e]at q;cases q)];exact q
 . have nb:b≠d:=fun z=>hz o' u (z▸q);rw[aV nb];exact I.base.frzs b o' u q
 . by_cases z:b=d
   . subst z;rw[aI]at q;cases q;exact(show b8 X.prog X.w H s.heap b (.dK kvs) from (show b8 X.prog X.w H s.heap b (.frz o (.dK kvs)) from I.hok b _ e).2).stay (fun _ _ _ q=>q) (fun c hc=>up hc (by intro _ _ z;cases z)) fun c xs hc=>up hc (by intro _ _ z;cases z)
   . rw[aV z]at q;exact(I.hok b _ q).stay (fun _ _ _ q=>q) (fun c hc=>up hc (by intro _ _ z;cases z)) fun c xs hc=>up hc (by intro _ _ z;cases z)
theorem Inv.track{a:Addr}{o:HO}(I:Inv X pins σ H s)(hn:H a=none)(h0:X.s₀.heap.objs.size<=a)(h1:a≠X.env.locals)(h2:∀x c,X.env.cells.lookup x=some c->c≠a)(h3:∀p∈X.pn++pins,p.1≠a)
 (new:b8 X.prog X.w (ah H a o) s.heap a o):Inv X pins σ (ah H a o) s:=by
 have up:∀{c:Addr}{w:HO},H c=some w->ah H a o c=some w:=fun {c w} hc=>by rw[aV (aL hc hn)];exact hc
 refine⟨I.ok,I.os,I.bare,⟨I.base.keep,I.base.slot,fun b ob e n hx=>?_,I.base.there,fun b xs e=>up (I.base.tups b xs e),fun b o' u e=>up (I.base.frzs b o' u e),fun b ps e=>(I.base.tbls b ps e).elim fun m q=>⟨m,up q⟩⟩,I.loc,I.cell,?_,fun x c e=>?_,
  fun p hp=>⟨(I.pin p hp).1,?_,(I.pin p hp).2.2⟩,fun b u q=>?_,I.len⟩
 . rw[aV (cV (fX (bv e) h0))];exact I.base.free b ob e n hx
 . rw[aV (fY h1)];exact I.free
 . rw[aV (h2 x c e)];exact I.freeC x c e
 . rw[aV (h3 p hp)];exact(I.pin p hp).2.1
 . by_cases z:b=a
   . subst z;rw[aI]at q;cases q;exact new
   . rw[aV z]at q;exact(I.hok b _ q).stay (fun _ _ _ q=>q) (fun c hc=>up hc) fun c xs hc=>up hc
end
section
variable {X:Cx}
theorem Dd:fv X (.type "dict") (fun xs H Q=>∃a kvs,xs=[.ref a]/\H a=some (.dK kvs)/\dJ H (.dK kvs) Q):=by
 intro pins s σ H xs us Q I r h;obtain⟨a,kvs,rfl,e,q⟩:=h;obtain⟨u,rfl,ru⟩:=vals1 r;cases ru;exact aeH I (.inl e) fun p s' hp I'=>⟨.ref p,_,I',rfl,q.at p hp⟩
theorem agI{prog:Program}{w:World}{K:Type}[DecidableEq K]{knd:KeyKind prog w K}{A:Around}{E:VP}{s:Shared}{d:Addr}{kvs:List (K×Value)}{k:K}{key dflt:Value}{Q:VP}(kB:knd.is k key=true)(hm:s.heap.DictOf knd d kvs)
 (agJ:∀v,valueAt kvs k=some v->Q v { s with toks:=s.toks+1 })
 (agK:valueAt kvs k=none->∀h',h'.DictOf knd d (kvs++[(k,dflt)])->Heap.SameBut d s.heap h'->Q dflt { s with heap:=h',toks:=s.toks+1 }) (hsz:kvs.length<=sizeLine) :
 wpAny (model prog w) A (dictSetDefault d key dflt) Q E s:=by
 have agL:=hm.mapOf;obtain⟨o,es,ep,ho,hc,hd,hk,hp,hn⟩:=hm;obtain⟨o',es',vY,iz,jG,qO,fA,hf⟩:=agL;rw[ho]at iz;cases iz;rw[hd]at qO;cases qO;have Ic:es.size<=sizeLine:=by
  have e1:=hp.length;have e2:es.toList.length=es.size:=by simp
  omega
 unfold dictSetDefault
 try with_reducible refine jA ?_
 refine af (knd.pyHash kB ?_);refine af (wpAny_dictFind_of (s:={ s with toks:=s.toks+1 }) kB ho hd hk ?_);have agM:(es.findIdx? fun e=>knd.is k e.key)=kvs.findIdx? fun kv=>decide (kv.1=k):=by
  rw[←hp.findIdx k];obtain⟨l⟩:=es;simp
 cases hi:es.findIdx? fun e=>knd.is k e.key with
 | some i=>
  have De:valueAt kvs k=(es[i]?).map (·.val):=by rw[←hf k,findBy_of_findIdx?,hi]
  refine af (NW (s:={ s with toks:=s.toks+1 }) ho hd ?_);cases he:es[i]? with
  | none=>
   exfalso;have:=Array.findIdx?_eq_some_iff_findIdx_eq.mp hi;have aN:i<es.size:=this.1;rw[qF aN]at he;exact nomatch he
  | some e=>
   rw[he]at De;exact af (og (au (agJ e.val De)))
 | none=>
  have De:valueAt kvs k=none:=by rw[←hf k,findBy_of_findIdx?,hi]
  have agN:k∉kvs.map (·.1):=not_mem_of_findIdx_none (agM▸hi);refine af (og (af (wpAny_updateDictKeys (hz:=Ic) (s:={ s with toks:=s.toks+1 }) ho hd (au (agK De _ ⟨_,_,ep+1,Cp _ ho (Obj.isFreed_of_dict (Obj.data_mapDictKeys hd _)),
   hc.mapDictKeys _,Obj.data_mapDictKeys hd _,hk.push kB _,?_,?_⟩ (lB ..))))))
  . have:=hp.append kB (knd.hash k) dflt;obtain⟨l⟩:=es;simpa using this
  . rw[cQ,sY];refine⟨hn,by simp,?_⟩;intro a ha b hb;simp only[bL,yu,bj]at hb;subst hb;exact fun e=>agN (e▸ha)
theorem agO{prog:Program}{w:World}{K:Type}[DecidableEq K]{knd:KeyKind prog w K}{d:Addr}{k:K}{key:Value}(kB:knd.is k key=true)(hd:(d == sysModules)=false)(dflt:Value) :
 MeetsIn prog w (Builtin.«dict.setdefault» ⟨[.ref d,key,dflt],[]⟩) (fun _ R s=>∃kvs,s.heap.DictOf knd d kvs/\kvs.length<=sizeLine /\
  (∀v,valueAt kvs k=some v->R (.ok (.ret v)) { s with toks:=s.toks+1 }) /\
  (valueAt kvs k=none->∀h',h'.DictOf knd d (kvs++[(k,dflt)])->Heap.SameBut d s.heap h'->R (.ok (.ret dflt)) { s with heap:=h',toks:=s.toks+1 })):=
 .of_wp fun A R s agP=>agP.elim fun kvs agQ=>agQ.elim fun hm agR=>agR.elim fun hz agS=>agS.elim fun h1 h2=>by
  unfold Builtin.«dict.setdefault»;refine af ?_;unfold Builtin.Dict.keyAndDefault;refine af (wpAny_notOrdered_dict hm.typeIs ?_);show wpAny _ _ (pure (d,key,some dflt)) _ _ s;refine au ?_;show wpAny _ _ (if (d == sysModules)=true then _ else(dictSetDefault d key dflt >>= _)) _ _ s;rw[ai (by rw[hd];exact cK)];exact af (agI kB hm (fun v hv=>au ⟨v,rfl,h1 v hv⟩) (fun hn h' Ie zj=>au ⟨dflt,rfl,h2 hn h' Ie zj⟩) hz)
def agT:V->Lv->Hp->VK->Prop:=fun x vs H Q=>∃a kvs k y,x=.ref a/\vs=[kV k,y]/\H a=some (.dK kvs)/\kvs.length<sizeLine/\(∀z,bg kvs k=some z->Q z H)/\(bg kvs k=none->Q y (ah H a (.dK (cD kvs k y))))
theorem agU:mJ X "dict.setdefault" agT:=by
 intro pins s σ H x xs v us Q I rx rs h;obtain⟨a,kvs,k,y,rfl,rfl,e,hl,q1,q2⟩:=h;cases rx;cases rs with
 | cons r1 r2=>
  cases r2 with
  | cons r3 r4=>
   cases r4;obtain⟨z,hd,vs,rel,dd⟩:=oV I.hok e;refine Ci aCm dd.typeIs PySem.F.entry_dict_setdefault (PySem.F.args_dict_setdefault_3 _ _ _) (agO (knd:=cj X.prog X.w) (mL r1) hd _) ⟨vs,dd,by rw[←rel.length];exact z,fun u hu=>?_,fun hn h' gG hs=>?_⟩
   . obtain⟨z',P2,rz⟩:∃z',bg kvs k=some z'/\RelV z' u:=by
      have:=rel.val k;rw[hu]at this;cases q:bg kvs k with
      | none=>rw[q]at this;cases this
      | some z'=>rw[q]at this;exact⟨z',rfl,this⟩
     exact⟨z',H,I.tok _,rz,q1 z' P2⟩
   . have Ig:bg kvs k=none:=by
      have:=rel.val k;rw[hn]at this;cases q:bg kvs k with
      | none=>rfl
      | some z'=>rw[q]at this;cases this
     have he:∃q,h'.get? a=some q:=gG.elim fun q agV=>agV.elim fun _ agW=>agW.elim fun _ agX=>agX.elim fun hq _=>⟨q,hq⟩;have Ih:=rel.put k r3;rw[HG _ Ig]at Ih;refine⟨y,_,wj I (ob:=.dK (cD kvs k y)) (by rw[e];exact True.intro) hs he ?_,r3,q2 Ig⟩;rw[HG _ Ig];refine wk (by rw[bh];simp;omega) hd ?_ gG;have e2:∀b,stored vs k b=vs++[(k,b)]:=by
      intro b;unfold stored;rw[ai];rw[yz];rintro⟨kv,tY,he⟩;have:valueAt vs k≠none:=by
       unfold valueAt;rw[Ne,aCn,V5];exact fun z=>z kv tY he
      exact this hn
     rw[e2]at Ih;exact Ih
end
theorem agY{k:aw}{v:Value}(h:oC k v=true):RelV (kV k) v:=by
 rcases iu h with⟨i,t,rfl,rfl⟩ | ⟨x,t,rfl,rfl⟩
 . exact⟨t,rfl⟩
 . exact⟨t,rfl⟩
theorem Ii:∀{us:Lw}{ys:Ls},StrsAre us ys->aQ (ys.map V.str) us
 | _,_,.nil=>.nil
 | _,_,.cons x t r=>.cons ⟨t,rfl⟩ (Ii r)
section
variable {prog:Program}{w:World}{A:Around}{E:VP}{s:Shared}
theorem agZ{r:Addr}{Q:VP}(Ij:wpAny (model prog w) A.in1 (collect (.ref r)) (fun us s'=>∃(ys:Ls) (h':Heap) (tk:Nat),s'={ s with heap:=h',toks:=tk }/\StrsAre us ys/\us.length<64 /\
 ∀(h2:Heap) (out:Lw) (bP:Ls) (e:Nat),(∀b o,h'.get? b=some o->h2.get? b=some o)->h2.get? h'.objs.size=some (seqObj "list" out.toArray e)->StrsAre out bP->bP.Perm ys->sortedS bP=true->Q (.ref h'.objs.size) { s with heap:=h2,toks:=tk }) E s) :
 wpAny (model prog w) A (call (.builtin "sorted") [.ref r]) Q E s:=by
 refine aCo kind_sorted plain_sorted entry_sorted (args_sorted1 _) ?_;unfold Builtin.«sorted»;refine af (m:=checkCount "sorted" 1 1 _) (au ?_);refine af (eg Ij (fun us s' ag0=>ag0.elim fun ys ag1=>ag1.elim fun h' ag2=>ag2.elim fun tk ag3=>ag3.elim fun es ag4=>ag4.elim fun hS ag5=>ag5.elim fun tZ fin=>?_) fun _ _ e=>e);subst es;refine af (V6 ?_ (by rw[yp];omega));have oE:(h'.push (seqObj "list" us.toArray 0)).get? h'.objs.size=some (seqObj "list" us.toArray 0):=dW _ rfl;show wpAny _ _ _ _ _ { s with heap:=h'.push (seqObj "list" us.toArray 0),toks:=tk };refine af (jA (sT slot_list_sort ⟨_,oE,rfl⟩ entry_list_sort (list_sort_treeK strKind_oneLt oE hS.keysOf (fun v₁ v₂ rest e=>keyKind_strs (by rw[←e];exact hS)) tZ fun f9 a1 a2=>⟨_,rfl,?_⟩) (args_list_sort _)));obtain⟨bP,h1,h2,h3⟩:=sorted_out_str hS a1 a2;obtain⟨e,he⟩:=sortedHeap_at (vs:=us) (out:=(arrOf f9).map (·.2)) oE;refine au ⟨_,rfl,fin _ ((arrOf f9).map (·.2)).toList bP e (fun b o q=>?_) (by rw[V7];exact he) h1 h2 h3⟩;have hb:=bv q;rw[sortedHeap_old (cV hb) (by rw[sU];exact V8 hb)];exact bR _ q
end
section
variable {X:Cx}
theorem P4{pins:Po}{σ:St}{H:Hp}{s:Shared}{h' h2:Heap}{tk e:Nat}{out:Lw}{bP:Ls}(I:Inv X pins σ H { s with heap:=h',toks:=tk })(k:∀b o,h'.get? b=some o->h2.get? b=some o)
 (he:h2.get? h'.objs.size=some (seqObj "list" out.toArray e)) (hS:StrsAre out bP) (hl:bP.length<=sizeLine):Inv X pins σ (ah H h'.objs.size (.lst (bP.map V.str))) { s with heap:=h2,toks:=tk }:=
 I.laid (s:={ s with heap:=h',toks:=tk }) (t':=tk) k (aJ _) ⟨by rw[am];exact hl,out,e,Ii hS,he⟩
theorem ag6:fv X (.builtin "sorted") (fun xs H Q=>∃p ys,xs=[.ref p]/\ae X.K H p (ys.map V.str)/\ys.length<64/\∀bP,bP.Perm ys->sortedS bP=true->dJ H (.lst (bP.map V.str)) Q):=by
 intro pins s σ H xs us Q I r h;obtain⟨p,ys,rfl,hp,tZ,q⟩:=h;obtain⟨u,rfl,ru⟩:=vals1 r;cases ru;obtain⟨its,rv,ht,hz⟩:=I.list hp;have hS:StrsAre its ys:=PY rv;have hlen:=V9 hS;refine sorted_strs ht.isList hS (by omega) fun out bP a1 a2 a3=>?_;obtain⟨e,he⟩:=sortedAll_at s.heap its out;have hl:=a2.length_eq;refine⟨.ref (s.heap.objs.size+1),_,I.laid (t':=s.toks) (a:=s.heap.objs.size+1) (o:=.lst (bP.map V.str)) (fun b o q=>sortedAll_old q) (sV _) ⟨by rw[am];exact kM (by omega),out.toList,e,Ii a1,by rw[V7];exact he⟩,rfl,?_⟩;exact(q bP a2 a3).at _ (I.hok.fresh (sV _))
def ub(kvs:List (aw×V))(ks:Ls):Prop:=kvs.map (·.1)=ks.map Sum.inr
theorem P5{kvs:List (aw×V)}{ks:Ls}(h:ub kvs ks){vs:List (aw×Value)}(rel:KV kvs vs){us:Lw}(hl:us.length=vs.length)(hv:∀(j:Nat) (v:Value),us[j]?=some v->∃k x,vs[j]?=some (k,x)/\(cj X.prog X.w).is k v=true):StrsAre us ks:=by
 induction us generalizing kvs vs ks with
 | nil=>
  have:vs=[]:=Cq.mp hl.symm;subst this;cases rel;unfold ub at h;cases ks with
  | nil=>exact .nil
  | cons a b=>cases h
 | cons u us ih=>
  cases rel with
  | nil=>cases hl
  | @cons p q ps qs r rr=>
   cases ks with
   | nil=>cases h
   | cons a ks=>
    unfold ub at h;rw[bL,bL]at h;injection h with h1 h2
    obtain⟨k,x,e,hk⟩:=hv 0 u rfl;have e:q=(k,x):=gA e;have hp:p.1=k:=by rw[r.1,e]
    have hk:oC k u=true:=hk;rw[←hp,h1]at hk
    rcases iu hk with⟨i,t,e1,e2⟩ | ⟨x',t,e1,e2⟩
    . cases e1
    . cases e1;subst e2;exact .cons _ _ (ih h2 rr (by simpa using hl) fun j v hj=>hv (j+1) v (by simpa using hj))
theorem Df(hc:X.calm=true):fv X (.builtin "sorted") (fun xs H Q=>∃d kvs ks,xs=[.ref d]/\H d=some (.dK kvs)/\ub kvs ks/\kvs.length<64/\∀bP,bP.Perm ks->sortedS bP=true->dJ H (.lst (bP.map V.str)) Q):=by
 intro pins s σ H xs us Q I r h;obtain⟨d,kvs,ks,rfl,e,Dg,tZ,q⟩:=h;obtain⟨u,rfl,ru⟩:=vals1 r;cases ru;obtain⟨z,hd,vs,rel,dd⟩:=oV I.hok e;obtain⟨ep,mQ⟩:=dd.dictAt;have hlen:=rel.length;refine agZ (PySem.W.kdu_collect (PySem.W.kdl_dict (knd:=cj X.prog X.w) (kvs:=vs) (ep:=ep) hd) (I.ok.hd hc) mQ (by omega) fun h' tk acc hk uc=>?_);have hS:StrsAre acc.toList ks:=P5 (X:=X) Dg rel (by rw[eR];exact uc.1) fun j v hj=>uc.2 j v (by rw[←vO];exact hj);have y7:acc.toList.length=vs.length:=by rw[eR];exact uc.1
 have I':Inv X pins σ H { s with heap:=h',toks:=tk }:=I.kept hk;refine⟨ks,h',tk,rfl,hS,by omega,fun h2 out bP e' k2 he hZ bS zj=>?_⟩;have hl:=bS.length_eq;have hl3:=V9 hS;exact⟨.ref h'.objs.size,_,P4 I' k2 he hZ (kM (by omega)),rfl,(q bP bS zj).at _ (I'.hok.fresh (aJ _))⟩
theorem ag8{pins:Po}{σ:St}{H:Hp}{s:Shared}(hu:X.A.units+65<cLine)(I:Inv X pins σ H s){x:V}{v:Value}{xs:Lv}{us:Lw}{d:PySem.W.Dat}{ds:List PySem.W.Dat}(rx:RelV x v)(rs:aQ xs us)(hd:DV X.K H x d)(o8:gm X.K H xs ds)(od:PySem.W.kqdOk 9 d=true)(wu:∀e∈ds,PySem.W.kqdOk 9 e=true) :
 ∃e:Value->Bool,(∀y∈us.toArray,SeqAt.EqAt X.A.in1 s y v (e y))/\(us.toArray.any e=true↔d∈ds):=by
 obtain⟨as,ra⟩:=hd.reads I rx
 classical
 have key:∀{xs:Lv}{us:Lw}{ds:List PySem.W.Dat},aQ xs us->gm X.K H xs ds->∀y∈us,∃e∈ds,∃bs,Reads s.heap y (PySem.W.kqdP e) bs:=by
  intro xs us ds rs
  induction rs generalizing ds with
  | nil=>intro _ y hy;cases hy
  | cons r rr ih=>
   intro o8 y hy;cases o8 with
   | cons q qs=>
    rcases aX.mp hy with e | e
    . subst e;obtain⟨bs,z⟩:=q.reads I r;exact⟨_,bB,bs,z⟩
    . obtain⟨e',lU,z⟩:=ih qs y e;exact⟨e',bJ _ lU,z⟩
 have ag9:∀{xs:Lv}{us:Lw}{ds:List PySem.W.Dat},aQ xs us->gm X.K H xs ds->∀e∈ds,∃y∈us,∃bs,Reads s.heap y (PySem.W.kqdP e) bs:=by
  intro xs us ds rs
  induction rs generalizing ds with
  | nil=>intro h e he;cases h;cases he
  | cons r rr ih=>
   intro o8 e he;cases o8 with
   | cons q qs=>
    rcases aX.mp he with z | z
    . subst z;obtain⟨bs,w⟩:=q.reads I r;exact⟨_,bB,bs,w⟩
    . obtain⟨y,hy,w⟩:=ih qs e z;exact⟨y,bJ _ hy,w⟩
 refine⟨fun y=>decide (∃bs,Reads s.heap y (PySem.W.kqdP d) bs),fun y hy=>?_,?_⟩
 . obtain⟨e,he,bs,rb⟩:=key rs o8 y (by simpa using hy);have x1:=PySem.W.keq_at (A:=X.A) rb ra (wn (wu e he)) (wn od) (by show X.A.units+1+64<cLine;omega);have hb:(PyData.eqv (PySem.W.kqdP e) (PySem.W.kqdP d)=true)↔e=d:=Cj 9 e d 9 (wu e he) od;have ia:PyData.eqv (PySem.W.kqdP e) (PySem.W.kqdP d)=decide (∃bs,Reads s.heap y (PySem.W.kqdP d) bs):=by
    by_cases z:e=d
    . rw[hb.mpr z];subst z;exact(bG ⟨bs,rb⟩).symm
    . rw[qE.mpr fun w=>z (hb.mp w)];refine(cH ?_).symm;rintro⟨wv,Ik⟩;have l:=PySem.W.kqd_lay 9 e (wu e he);have eq:=(rb.unique _ _ Ik).1;have:PyData.eqv (PySem.W.kqdP e) (PySem.W.kqdP d)=true:=by
       rw[eq];exact(Cj 9 d d 9 od od).mpr rfl
      exact z (hb.mp this)
   rw[ia]at x1;exact x1
 . constructor
   . intro h;rw[List.any_toArray,yz]at h;obtain⟨y,hy,hz⟩:=h;obtain⟨wv,Ik⟩:=cZ hz;obtain⟨e,he,bs,rb⟩:=key rs o8 y hy;have eq:=(rb.unique _ _ Ik).1;have:PyData.eqv (PySem.W.kqdP e) (PySem.W.kqdP d)=true:=by
      rw[eq];exact(Cj 9 d d 9 od od).mpr rfl
     rw[←(Cj 9 e d 9 (wu e he) od).mp this];exact he
   . intro h;obtain⟨y,hy,z⟩:=ag9 rs o8 d h;rw[List.any_toArray,yz];exact⟨y,hy,bG z⟩
def aha(K:Fg)(neg:Bool):R2:=fun x y H Q=>∃p xs d ds,y=.ref p/\ae K H p xs/\DV K H x d/\gm K H xs ds/\PySem.W.kqdOk 9 d=true/\(∀e∈ds,PySem.W.kqdOk 9 e=true)/\∀b:Bool,(b=true↔d∈ds)->Q (.bl (if neg then !b else b)) H
theorem ahb(hu:X.A.units+65<cLine):cR X (compareOp .NotIn) (aha X.K true):=by
 intro pins s σ H x y v u Q I rx ry h;obtain⟨p,xs,d,ds,rfl,hq,hd,o8,od,wu,q⟩:=h;cases ry;obtain⟨its,r,pl,hz⟩:=I.list hq;obtain⟨e,he,hb⟩:=ag8 hu I rx r hd o8 od wu;exact SeqAt.notIn_listAt e pl.isList he ⟨.bl _,H,I,rfl,q _ hb⟩
end
def zk(o:Obj):Nat:=match o.data with
 | .dict _ ep=>ep
 | _=>0
def P6(d:Addr)(kvs:List (aw×V))(o:Obj):It:=
 ⟨fun i H=>H d=some (.frz o (.dK kvs))/\i<kvs.length,fun i H x H'=>∃k v p,kvs[i]?=some (k,v)/\H p=none/\x=.ref p/\H'=ah H p (.tup [kV k,v]),fun i H=>H d=some (.frz o (.dK kvs))/\kvs.length<=i⟩
theorem P7{P:Program}{w:World}{H:Hp}{h:Heap}{d:Addr}{kvs:List (aw×V)}{o:Obj}(ok:bY P w H h)(e:H d=some (.frz o (.dK kvs))):∃vs,KV kvs vs/\h.DictAt (cj P w) d vs (zk o)/\(d == sysModules)=false:=by
 obtain⟨ho,_,hd,vs,rel,o',es,ep,iz,hc,Dh,r⟩:=(show b8 P w H h d (.frz o (.dK kvs)) from ok d _ e);rw[ho]at iz;cases iz;refine⟨vs,rel,⟨o,es,ho,hc,?_,r⟩,hd⟩;unfold zk;rw[Dh]
theorem ahc{kvs:List (aw×V)}{vs:List (aw×Value)}(r:KV kvs vs){i:Nat}{k:aw}{v:V}(h:kvs[i]?=some (k,v)):∃u,vs[i]?=some (k,u)/\RelV v u:=by
 unfold KV at r
 induction r generalizing i with
 | nil=>simp at h
 | @cons p q ps qs r1 rr ih=>
  cases i with
  | zero=>
   simp at h;subst h;obtain⟨a,b⟩:=q;exact⟨b,by simp;exact r1.1.symm,r1.2⟩
  | succ i=>exact ih (by simpa using h)
theorem ahd:entryFor table "dict_itemiterator.__iter__"=some Builtin.«dict_keyiterator.__iter__»:=
 NX (id':="dict_keyiterator.__iter__") (by kernel_rfl) rfl (by decide +kernel) (by kernel_rfl)
theorem ahe{prog:Program}{w:World}{A:Around}{E:VP}{s:Shared}{it d:Addr}{i n ep:Nat}{ok ov:Value}{Q:VP}(hit:IsItemIter s.heap it d i n ep ok ov)(h:Q (.ref it) s):wpAny (model prog w) A (pyIter (.ref it)) Q E s:=by
 have hT:s.TypeIs (.ref it) "dict_itemiterator":=⟨_,hit,rfl⟩;refine Wa hT aCp (sT aCp hT ahd ?_ (PySem.F.args_dict_itemiterator_iter_1 _));show wpAny _ _ (ret (.ref it)) _ _ s;exact au ⟨_,rfl,"dict_itemiterator",_,hT,PySem.F.slot_dict_itemiterator_next.lookup,h⟩
theorem ahf{P:Program}{w:World}{K:Fg}{elts:List Expr}{x1:Nat}{pos:Pos}(d it:Addr)(kvs:List (aw×V))(o:Obj):qS P w K (.Tuple elts x1 pos) (P6 d kvs o) [it] it (fun i h=>∃ok ov,IsItemIter h it d i kvs.length (zk o) ok ov) where
 mem:=by simp
 obj:=fun i h st b hb=>by
  have e:b=it:=by simpa using hb
  subst e;obtain⟨ok,ov,st⟩:=st;exact⟨_,st,fun v z=>by
   have z':Data.fields _=Data.cell v:=z;cases z'⟩
 keep:=fun i h h' ahg k=>ahg.elim fun ok ahh=>ahh.elim fun ov st=>⟨ok,ov,k it (by simp) _ st⟩
 item:=by
  intro X hP hw hK hc i pins s σ H E I hf st hg;subst hP hw hK;obtain⟨ok,ov,st⟩:=st;obtain⟨hd,aN⟩:=hg;obtain⟨f0,f1,f2,f3,f4,f5⟩:=hf it (by simp);obtain⟨vs,rel,mQ,hS⟩:=P7 I.hok hd;have hlen:=rel.length;obtain⟨kv,tY⟩:∃kv,kvs[i]?=some kv:=⟨_,ir aN⟩;obtain⟨k,v⟩:=kv;obtain⟨u,hu,ru⟩:=ahc rel tY;rw[hlen]at st;refine wpAny_pyNext_items_item st mQ hu fun key h1 kB ahi Il hsz eW=>⟨.ref s.heap.objs.size,rfl,?_⟩;refine wpAny_letOwnedTupleGo_items ahi fun h2 ft sb=>?_;have Di:it<s.heap.objs.size:=bv st;have sb:Heap.SameBut it h1 h2:=sb;have I1:Inv X pins σ H { s with heap:=h2 }:=I.turned (t':=s.toks) (fun b ob hb e=>(sb.2 b hb).trans (eW b ob hb e)) f0 f1 f3 f4 f5;have hn:H s.heap.objs.size=none:=I.hok.fresh (aJ _);have fp:=I.fpOk (H':=H) (aJ _) hn;have tP:h2.get? s.heap.objs.size=some { cls:=.type "tuple",data:=.seq #[key,u] }:=(sb.2 _ (ke Di)).trans Il;have I2:Inv X pins σ (ah H s.heap.objs.size (.tup [kV k,v])) { s with heap:=h2 }:=by
   refine I1.track hn I.sz fp.2.1 fp.2.2.2.2.1 fp.2.2.2.2.2 ?_;exact⟨by show 2<=sizeLine;decide,[key,u],.cons (agY kB) (.cons ru .nil),_,tP,rfl,0,rfl⟩
  refine⟨.ref s.heap.objs.size,_,I2,rfl,⟨k,v,_,tY,hn,rfl,rfl⟩,⟨key,u,by rw[hlen];exact ft⟩,fun b hb=>?_⟩;have e:b=it:=by simpa using hb
  subst e;rw[aV (cV Di)];exact f0
 done:=by
  intro X hP hw hK hc i pins s σ H E I hf st hg;subst hP hw hK;obtain⟨ok,ov,st⟩:=st;obtain⟨hd,hle⟩:=hg;obtain⟨f0,f1,f2,f3,f4,f5⟩:=hf it (by simp);obtain⟨vs,rel,mQ,hS⟩:=P7 I.hok hd;have hlen:=rel.length;rw[hlen]at st;exact wpAny_pyNext_items_end (I.ok.hd hc) st mQ (by rw[List.getElem?_eq_none_iff];omega) fun h' eb=>⟨rfl,I.turned (t':=s.toks) (fun b o hb e=>eb b o hb e) f0 f1 f3 f4 f5⟩
 self:=fun _ _ _ _ _ ahj h=>ahj.elim fun ok ahk=>ahk.elim fun ov st=>ahe st h
section
variable {X:Cx}
theorem PE.weak{e:Expr}{t:TE}(h:PE X e t):PE X e (fun σ H Q=>∃Q':VK,t σ H Q'/\∀v H,Q' v H->Q v H):=by
 intro pins s σ H Q I ⟨Q',q,w⟩;exact L2.thn (h pins s σ H _ I q) fun u s1 ahl=>ahl.elim fun v ahm=>ahm.elim fun H1 ahn=>ahn.elim fun I1 aho=>aho.elim fun r1 q1=>⟨v,H1,I1,r1,w _ _ q1⟩
theorem PG.weak{e:Expr}{g:TG}(h:PG X e g):PG X e (fun x σ H Q=>∃Q':St->Hp->Prop,g x σ H Q'/\∀σ H,Q' σ H->Q σ H):=by
 intro pins s σ H v u Q I r ⟨Q',q,w⟩;exact L2.thn (h pins s σ H v u _ I r q) fun _ s1 ahp=>ahp.elim fun σ1 ahq=>ahq.elim fun H1 ahr=>ahr.elim fun I1 q1=>⟨σ1,H1,I1,w _ _ q1⟩
theorem c8.weak{b:List Stmt}{t:TS}(h:c8 X b t):c8 X b (fun D σ H=>∃D':Ends,t D' σ H/\(∀σ H,D'.nx σ H->D.nx σ H)/\(∀v H,D'.rt v H->D.rt v H)/\(∀σ H,D'.bk σ H->D.bk σ H)/\∀σ H,D'.ct σ H->D.ct σ H):=by
 intro pins s σ H D I ⟨D',q,w1,w2,w3,w4⟩;refine L2.thn (h pins s σ H D' I q) fun f s1 q1=>?_;cases f with
 | next=>obtain⟨σ1,H1,I1,q1⟩:=q1;exact⟨σ1,H1,I1,w1 _ _ q1⟩
 | ret v=>obtain⟨x,σ1,H1,I1,r,q1⟩:=q1;exact⟨x,σ1,H1,I1,r,w2 _ _ q1⟩
 | brk=>obtain⟨σ1,H1,I1,q1⟩:=q1;exact⟨σ1,H1,I1,w3 _ _ q1⟩
 | cont=>obtain⟨σ1,H1,I1,q1⟩:=q1;exact⟨σ1,H1,I1,w4 _ _ q1⟩
end
theorem ahs{o:Expr}{elts:List Expr}{x1:Nat}{wc apos cC:Pos}{X:Cx}{td:TE}(ho:PE X o td)(oR:attributeBase o "items" X.env (eval o X.env)=eval o X.env:=by rfl)(oS:(apos.endLine == cC.line)=true:=by rfl) :
 PI X (.Tuple elts x1 wc) (.Call (.Attribute o "items" apos) [] [] cC) (fun σ H R=>td σ H fun x H1=>∃d kvs,x=.ref d/\H1 d=some (.dK kvs)/\∀ob,(∀o' u,X.H₀ d≠some (.frz o' u))->R (P6 d kvs ob) (ah H1 d (.frz ob (.dK kvs)))):=by
 intro pins s σ H R I h;refine aCf oR oS (thn (ho pins s σ H _ I h) fun v s1 aht=>aht.elim fun x ahu=>ahu.elim fun H1 ahv=>ahv.elim fun I1 ahw=>ahw.elim fun r1 ahx=>ahx.elim fun d ahy=>ahy.elim fun kvs ahz=>ahz.elim fun e ahA=>ahA.elim fun ed q=>?_);subst e;cases r1;obtain⟨z,hd,vs,rel,dd⟩:=oV I1.hok ed;obtain⟨h1,h2⟩:=HD I1 (x:=.ref d) rfl (T:="dict") (.inr (.inr (.inl ⟨rfl,.inl ⟨kvs,ed⟩⟩)));refine⟨"dict","dict.items",GR,aCq,PySem.F.type_dict_items,h1,h2,GP rfl (PySem.evalArgs_none ?_)⟩;refine Ci aCq dd.typeIs PySem.F.entry_dict_items (PySem.F.args_dict_items_1 _) (meets_dict_items (cj X.prog X.w) d hd) ⟨⟨vs,dd⟩,?_⟩;have zn:=dd.push { cls:=.type "dict_items",data:=.fields #[.ref d] };obtain⟨ob,es,ep,qM,hc,Dh,rest⟩:=id zn;have mQ:(s1.heap.push { cls:=.type "dict_items",data:=.fields #[.ref d] }).DictAt (cj X.prog X.w) d vs ep:=⟨ob,es,qM,hc,Dh,rest⟩;have I2:Inv X pins σ H1 { s1 with heap:=s1.heap.push { cls:=.type "dict_items",data:=.fields #[.ref d] } }:=I1.kept (t':=s1.toks) fun b o e=>bR _ e;refine wpAny_pyIter_items (s:={ s1 with heap:=s1.heap.push { cls:=.type "dict_items",data:=.fields #[.ref d] } }) ⟨_,dW _ rfl,rfl,rfl⟩ mQ ?_;have hep:zk ob=ep:=by unfold zk;rw[Dh]
 have hlen:=rel.length;have I3:Inv X pins σ H1 { s1 with heap:=(s1.heap.push { cls:=.type "dict_items",data:=.fields #[.ref d] }).push { cls:=.type "dict_itemiterator",data:=.fields #[.none,.bool false,.ref d,.int 0 0,.int vs.length 0,.int ep 0,.none,.none] } }:=
  I2.kept (t':=s1.toks) fun b o e=>bR _ e
 have hn:=I2.hok.fresh (aJ (s1.heap.push { cls:=.type "dict_items",data:=.fields #[.ref d] }).objs.size);have hz:∀o' u,X.H₀ d≠some (.frz o' u):=fun o' u hq=>by
  have:=I1.base.frzs d o' u hq;rw[ed]at this;cases this
 refine⟨_,[_],_,_,_,rfl,I3.freeze ed (bR _ qM),ahf d _ kvs ob,⟨.none,.none,?_⟩,fun b hb=>?_,q ob hz⟩
 . show Heap.get? _ _=_;rw[hep,hlen];exact dW _ rfl
 . have e:b=(s1.heap.push { cls:=.type "dict_items",data:=.fields #[.ref d] }).objs.size:=by simpa using hb
   subst e;refine I2.fpOk (aJ _) ?_;rw[aV (fY (aL ed hn))];exact hn
def ahC(td:TE)(g:TG)(tb:TS):TS:=fun D σ H=>td σ H fun x H1=>∃d kvs,x=.ref d/\H1 d=some (.dK kvs)/\∀ob,∃W:Nat->Nat->St->Hp->Prop,(∃m,W 0 m σ (ah H1 d (.frz ob (.dK kvs))))/\∀i m σ H,W i m σ H ->
 H d=some (.frz ob (.dK kvs))/\((kvs.length<=i/\D.nx σ (ah H d (.dK kvs)))\/(i<kvs.length/\∃N:St->Hp->Prop,(∀σ' H',N σ' H'->∃m',m'<m/\W (i+1) m' σ' H') /\
  ∀k v p,kvs[i]?=some (k,v)->H p=none->g (.ref p) σ (ah H p (.tup [kV k,v])) fun σ2 H2=>
   tb { nx:=N,ct:=N,bk:=fun σ' H'=>H' d=some (.frz ob (.dK kvs))/\D.nx σ' (ah H' d (.dK kvs)),rt:=fun v' H'=>H' d=some (.frz ob (.dK kvs))/\D.rt v' (ah H' d (.dK kvs)) } σ2 H2))
theorem Im{o:Expr}{elts:List Expr}{x1:Nat}{wc apos cC pos:Pos}{X:Cx}{td:TE}{g:TG}{tb:TS}{body:List Stmt}(hp:PassesOwn (model X.prog X.w) X.A X.env X.xe)(hc:X.calm=true)(ho:PE X o td)(hg:PG X (.Tuple elts x1 wc) g)(hb:c8 X body tb)
 (oR:attributeBase o "items" X.env (eval o X.env)=eval o X.env:=by rfl) (oS:(apos.endLine == cC.line)=true:=by rfl) (hs:∀x,foldedSetIterable (.Call (.Attribute o "items" apos) [] [] cC) X.env x=pure x:=by intro _;rfl) :
 PS X (.For (.Tuple elts x1 wc) (.Call (.Attribute o "items" apos) [] [] cC) body [] pos) (ahC td g tb):=by
 intro pins s σ H D I h;refine thn (eA (X:=X) hp hc (ahs ho.weak oR oS) hg.weak hb.weak hs pins s σ H
  { nx:=fun σ' H'=>∃d kvs ob,H' d=some (.frz ob (.dK kvs))/\(∀o' u,X.H₀ d≠some (.frz o' u))/\D.nx σ' (ah H' d (.dK kvs)),rt:=fun v' H'=>∃d kvs ob,H' d=some (.frz ob (.dK kvs))/\(∀o' u,X.H₀ d≠some (.frz o' u))/\D.rt v' (ah H' d (.dK kvs)) } I ?_) fun f s' q=>?_
 . refine⟨_,h,fun x H1 ahD=>ahD.elim fun d ahE=>ahE.elim fun kvs ahF=>ahF.elim fun e ahG=>ahG.elim fun ed q=>⟨d,kvs,e,ed,fun ob hz=>?_⟩⟩;obtain⟨W,w0,turn⟩:=q ob;refine⟨W,w0,fun i m σ H hw=>?_⟩;obtain⟨hd,c | ⟨aN,N,hN,step⟩⟩:=turn i m σ H hw
   . exact .inl ⟨⟨hd,c.1⟩,d,kvs,ob,hd,hz,c.2⟩
   . refine .inr ⟨⟨hd,aN⟩,N,hN,fun x H' ahH=>ahH.elim fun k ahI=>ahI.elim fun v ahJ=>ahJ.elim fun p ahK=>ahK.elim fun hk ahL=>ahL.elim fun hp ahM=>ahM.elim fun e eH=>?_⟩;subst e eH;exact⟨_,step k v p hk hp,fun σ2 H2 q2=>⟨_,q2,fun _ _ z=>z,fun v' H' ahN=>ahN.elim fun a b=>⟨d,kvs,ob,a,hz,b⟩,fun σ' H' ahO=>ahO.elim fun a b=>⟨d,kvs,ob,a,hz,b⟩,fun _ _ z=>z⟩⟩
 . cases f with
   | next=>
    obtain⟨σ',H',I',d,kvs,ob,hd,hz,q⟩:=q;exact⟨σ',_,I'.thaw hd hz,q⟩
   | ret v=>
    obtain⟨x,σ',H',I',r,d,kvs,ob,hd,hz,q⟩:=q;exact⟨x,σ',_,I'.thaw hd hz,r,q⟩
   | brk=>obtain⟨_,_,_,q⟩:=q;exact q.elim
   | cont=>obtain⟨_,_,_,q⟩:=q;exact q.elim
theorem Dj:Slot "set_iterator" "__next__" "set_iterator.__next__":=
 .of (owner:="set_iterator") (n:="__next__") (by rw[Wb,Wc];kernel_rfl) (by decide +kernel) (by decide +kernel) (by decide +kernel)
  (by first | exact .inl (by decide +kernel) | exact .inr (by decide +kernel)) (by rw[Wd];kernel_rfl)
theorem P8:Slot "set_iterator" "__iter__" "set_iterator.__iter__":=
 .of (owner:="set_iterator") (n:="__iter__") (by rw[Wb,Wc];kernel_rfl) (by decide +kernel) (by decide +kernel) (by decide +kernel)
  (by first | exact .inl (by decide +kernel) | exact .inr (by decide +kernel)) (by rw[Wd];kernel_rfl)
theorem ahP:entryFor table "set_iterator.__next__"=some Builtin.«set_iterator.__next__»:=entryFor_of_tree (by kernel_rfl)
theorem ahQ:entryFor table "set_iterator.__iter__"=some Builtin.«dict_keyiterator.__iter__»:=NX (id':="dict_keyiterator.__iter__") (by kernel_rfl) rfl (by decide +kernel) (by kernel_rfl)
theorem ahR:entryFor table "set.__iter__"=some Builtin.«frozenset.__iter__»:=NX (id':="frozenset.__iter__") (by kernel_rfl) rfl (by decide +kernel) (by kernel_rfl)
theorem P9:Manifest.owners.lookup (String.ofList ['r','o','t','a','r','e','t','i','_','t','e','s'].reverse)=some Manifest.sig_set_iterator:=by kernel_rfl
theorem ahS(a:Value):argsOk "set_iterator.__next__" ⟨[a],[]⟩:=by
 unfold argsOk;rw[signature?_of (id:="set_iterator.__next__") (n:=['_','_','t','x','e','n','_','_']) (o:=['r','o','t','a','r','e','t','i','_','t','e','s']) (by kernel_rfl) P9];kernel_rfl
theorem ahT(a:Value):argsOk "set_iterator.__iter__" ⟨[a],[]⟩:=by
 unfold argsOk;rw[signature?_of (id:="set_iterator.__iter__") (n:=['_','_','r','e','t','i','_','_']) (o:=['r','o','t','a','r','e','t','i','_','t','e','s']) (by kernel_rfl) P9];kernel_rfl
section
variable {prog:Program}{w:World}{A:Around}{E:VP}{s:Shared}{a it:Addr}{ep:Nat}{t:SetTable}
theorem ahU:typeLookup (.type "set") "__len__"=pure (some (.builtin "set.__len__")):=by rw[Wb,Wc];kernel_rfl
theorem ahV{Q:Bool->Shared->Prop}(hT:s.TypeIs (.ref a) "set")(h:Q false s):wpAny (model prog w) A (Builtin.List.listLengthHint (.ref a)) Q E s:=by
 unfold Builtin.List.listLengthHint;refine af (B6 hT ahU ?_);generalize Qa:("set.__len__":String)=id0
 wp_delta
 rw[show splitId id0=some ("set","__len__") from by subst Qa;decide +kernel];subst Qa;refine af (oh (T:="set") (b:=true) hT (by rw[Wd];kernel_rfl) ?_);refine We (fun jE=>absurd jE (by decide)) (fun _=>?_);refine We (fun _=>?_) (fun jE=>absurd (by decide +kernel) jE);refine af (NY hT ?_);exact au h
end
section
variable {X:Cx}
theorem lV{pos:Pos}:PE X (.Dict [] [] pos) (fun _ H Q=>dJ H (.dK []) Q):=fun pins s σ H Q I h=>adJ pins s σ H Q I h.at
theorem ahW{pos:Pos}:PE X (.Dict [] [] pos) (fun _ H Q=>dJ H (.dT []) Q):=fun pins s σ H Q I h=>adK pins s σ H Q I h.at
theorem ib(K:Fg){e:Expr}{f:Str}{pos:Pos}{ta:TE}(he:PE X e ta)(hb:attributeBase e f X.env (eval e X.env)=eval e X.env)(h:X.K=K:=by rfl):PE X (.Attribute e f pos) (OR K ta f):=h▸cW he hb
def ahX:V->Lv->Hp->VK->Prop:=fun x vs H Q=>∃a b kvs more,x=.ref a/\vs=[.ref b]/\a≠b/\H a=some (.dK kvs)/\H b=some (.dK more)/\kvs.length+more.length<=sizeLine/\Q .non (ah H a (.dK (lK kvs more)))
theorem ahY:mJ X "dict.update" ahX:=by
 intro pins s σ H x xs v us Q I rx rs h;obtain⟨a,b,kvs,more,rfl,rfl,jE,ea,eb,hl,q⟩:=h;cases rx;cases rs with
 | cons r1 r2=>
  cases r2;cases r1;obtain⟨z,hd,vs,rel,dd⟩:=oV I.hok ea;obtain⟨z',qO,ws,Qb,gG⟩:=oV I.hok eb;refine Ci aCr dd.typeIs PySem.F.entry_dict_update (PySem.F.args_dict_update_2 _ _) (meets_dict_update (cj X.prog X.w) a b jE qO) ⟨vs,ws,dd,gG,by rw[←rel.length,←Qb.length];exact hl,fun h' dm _ hs=>?_⟩;have he:∃q,h'.get? a=some q:=dm.elim fun q ahZ=>ahZ.elim fun _ ah0=>ah0.elim fun _ ah1=>ah1.elim fun hq _=>⟨q,hq⟩;exact⟨.non,_,wj I (ob:=.dK (lK kvs more)) (by rw[ea];exact True.intro) hs he (wk (ce (HJ _ _) hl) hd (Qb.merge rel) dm),rfl,q⟩
theorem ah2(x:Str):Str.empty++x=x:=by
 obtain⟨c⟩:=x;show(⟨#[]++c⟩:Str)=⟨c⟩;rw[Array.empty_append]
variable {e e1 e2:Expr}{te t1 t2:TE}{pos:Pos}
def ah3(te:TE):TE:=fun σ H Q=>te σ H fun x H1=>∃y,x=.str y/\y.length<=sizeLine/\Q x H1
theorem zq(he:PE X e te):PE X (.FormattedValue e (-1) none pos) (ah3 te):=by
 intro pins s σ H Q I h;refine FormattedValue_plain (thn (he pins s σ H _ I h) fun v s1 ah4=>ah4.elim fun x ah5=>ah5.elim fun H1 ah6=>ah6.elim fun I1 ah7=>ah7.elim fun r1 ah8=>ah8.elim fun y ah9=>ah9.elim fun ex aia=>aia.elim fun hl q=>?_);subst ex;obtain⟨t,rfl⟩:=r1;exact formatField_str (fun t' tk=>⟨.str y,H1,I1.tok _,⟨_,rfl⟩,q⟩) hl
def aib(t1 t2:TE):TE:=fun σ H Q=>t1 σ H fun a H1=>∃x,a=.str x/\x.length<=sizeLine/\t2 σ H1 fun b H2=>∃y,b=.str y/\x.length+y.length<=sizeLine/\Q (.str (x++y)) H2
theorem zr(h1:PE X e1 t1)(h2:PE X e2 t2):PE X (.JoinedStr [e1,e2] pos) (aib t1 t2):=by
 intro pins s σ H Q I h;refine JoinedStr_many (joinParts_cons (thn (h1 pins s σ H _ I h) fun v s1 aic=>aic.elim fun a aid=>aid.elim fun H1 aie=>aie.elim fun I1 aif=>aif.elim fun r1 aig=>aig.elim fun x aih=>aih.elim fun ex aii=>aii.elim fun hx q1=>?_));subst ex;obtain⟨t,rfl⟩:=r1;show(Str.empty++x).length<=sizeLine/\wpAny _ _ (joinParts (Str.empty++x) (eval e2 X.env::evalEach [] X.env)) _ _ s1;rw[ah2];refine⟨hx,joinParts_cons (thn (h2 pins s1 σ H1 _ I1 q1) fun v s2 aij=>aij.elim fun b aik=>aik.elim fun H2 ail=>ail.elim fun I2 aim=>aim.elim fun r2 ain=>ain.elim fun y aio=>aio.elim fun ey aip=>aip.elim fun hl q2=>?_)⟩;subst ey;obtain⟨t',rfl⟩:=r2;have hz:(x++y).length<=sizeLine:=by rw[jJ];exact hl
 exact⟨hz,joinParts_nil ⟨.str (x++y),H2,I2.tok _,⟨_,rfl⟩,q2⟩ hz⟩
end
end L2
namespace L2
open PySem
theorem Qc{X:Cx}{st:Stmt}{CL:List Stmt}{t u:TS}(h1:PS X st t)(h2:c8 X CL u):c8 X (st::CL) (fun D σ H=>∃P:St->Hp->Prop,t { D with nx:=P } σ H/\∀σ' H',P σ' H'->u D σ' H'):=by
 intro pins s σ H D I ⟨P,a,b⟩;exact C5 P h1 h2 pins s σ H D I ⟨a,b⟩
end L2
namespace L2
theorem mR{t1 t2:TS}{D:Ends}{σ:St}{H:Hp}(h:let d:=D;let s:=σ;let u2:=t2;aM t1 u2 d s H):aM t1 (t2) D σ H:=h
theorem i9{t1 t2 t3:TS}{D:Ends}{σ:St}{H:Hp}(h:let d:=D;let s:=σ;let u3:=t3;let u2:=aM t2 u3;aM t1 u2 d s H):aM t1 (aM t2 (t3)) D σ H:=h
theorem rf{t1 t2 t3 t4:TS}{D:Ends}{σ:St}{H:Hp}(h:let d:=D;let s:=σ;let u4:=t4;let u3:=aM t3 u4;let u2:=aM t2 u3;aM t1 u2 d s H):aM t1 (aM t2 (aM t3 (t4))) D σ H:=h
theorem Qe{t1 t2 t3 t4 t5:TS}{D:Ends}{σ:St}{H:Hp}(h:let d:=D;let s:=σ;let u5:=t5;let u4:=aM t4 u5;let u3:=aM t3 u4;let u2:=aM t2 u3;aM t1 u2 d s H):aM t1 (aM t2 (aM t3 (aM t4 (t5)))) D σ H:=h
theorem zt{t1 t2 t3 t4 t5 t6:TS}{D:Ends}{σ:St}{H:Hp}(h:let d:=D;let s:=σ;let u6:=t6;let u5:=aM t5 u6;let u4:=aM t4 u5;let u3:=aM t3 u4;let u2:=aM t2 u3;aM t1 u2 d s H):aM t1 (aM t2 (aM t3 (aM t4 (aM t5 (t6))))) D σ H:=h
theorem aiq{t1 t2 t3 t4 t5 t6 t7:TS}{D:Ends}{σ:St}{H:Hp}(h:let d:=D;let s:=σ;let u7:=t7;let u6:=aM t6 u7;let u5:=aM t5 u6;let u4:=aM t4 u5;let u3:=aM t3 u4;let u2:=aM t2 u3;aM t1 u2 d s H):aM t1 (aM t2 (aM t3 (aM t4 (aM t5 (aM t6 (t7)))))) D σ H:=h
theorem air{t1 t2 t3 t4 t5 t6 t7 t8:TS}{D:Ends}{σ:St}{H:Hp}(h:let d:=D;let s:=σ;let u8:=t8;let u7:=aM t7 u8;let u6:=aM t6 u7;let u5:=aM t5 u6;let u4:=aM t4 u5;let u3:=aM t3 u4;let u2:=aM t2 u3;aM t1 u2 d s H):aM t1 (aM t2 (aM t3 (aM t4 (aM t5 (aM t6 (aM t7 (t8))))))) D σ H:=h
theorem ais{t1 t2 t3 t4 t5 t6 t7 t8 t9:TS}{D:Ends}{σ:St}{H:Hp}(h:let d:=D;let s:=σ;let u9:=t9;let u8:=aM t8 u9;let u7:=aM t7 u8;let u6:=aM t6 u7;let u5:=aM t5 u6;let u4:=aM t4 u5;let u3:=aM t3 u4;let u2:=aM t2 u3;aM t1 u2 d s H):aM t1 (aM t2 (aM t3 (aM t4 (aM t5 (aM t6 (aM t7 (aM t8 (t9)))))))) D σ H:=h
theorem ait{t1 t2 t3 t4 t5 t6 t7 t8 t9 ja:TS}{D:Ends}{σ:St}{H:Hp}(h:let d:=D;let s:=σ;let Qf:=ja;let u9:=aM t9 Qf;let u8:=aM t8 u9;let u7:=aM t7 u8;let u6:=aM t6 u7;let u5:=aM t5 u6;let u4:=aM t4 u5;let u3:=aM t3 u4;let u2:=aM t2 u3;aM t1 u2 d s H):aM t1 (aM t2 (aM t3 (aM t4 (aM t5 (aM t6 (aM t7 (aM t8 (aM t9 (ja))))))))) D σ H:=h
theorem Qg{X:Cx}{b:List PySem.Stmt}{D:Ends}{σ:St}{H:Hp}(h:let x:=X;let d:=D;∃t,c8 x b t/\t d σ H):∃t,c8 X b t/\t D σ H:=h
section
open PySem PySem.Spec PyProof.Rows
theorem aZ{N P:Ls}{sc:Scope}(a:sc.kind=.function:=by rfl)(b:sc.isCoroutine=false:=by rfl)(c:sc.isGenerator=false:=by rfl)(d:N.Nodup:=by decide +kernel)(e:N.take P.length=P:=by rfl)(f:∀x∈P,sc.names.lookup x=some .local\/sc.names.lookup x=some .cell:=by decide +kernel)(g:∀y∈sc.names,y.2≠.free:=by decide +kernel):aR N P sc:=⟨a,b,c,d,e,f,g⟩
theorem dL{X:Cx}{own be:Ls}{js:List Nat}{sc:Scope}(a:sc.kind=.function:=by rfl)(b:∀y∈sc.names,y.2≠.cell:=by decide +kernel)(c:∀y∈sc.names,y.2=.local->sc.names.lookup y.1=some .local:=by decide +kernel)(d:(own++be).Nodup:=by decide +kernel)(e:∀y∈sc.names,y.2=.free->y.1∈be:=by decide +kernel)(f:js.map (fun j=>X.N[j]?)=be.map some:=by rfl)(g:be.map X.env.kindOf=be.map fun _=>some NameKind.cell:=by rfl)(h:be.map (fun x=>(relabel sc X.env).names.lookup x)=be.map fun _=>some NameKind.cell:=by rfl):kK X own be js sc:=⟨a,b,c,d,e,f,g,h⟩
theorem ak.okL{P:Program}{w:World}{K:Fg}{mg:Mv}{base:Heap}{x qual:Str}{st:Stmt}{f:Addr}{fd:Fy}{N ps:Ls}{k:Nat}{sp:Sp}(F:ak K x qual st f fd)(S:aR N ps (aE st))(hb:∀(ay:Value) (A:Around) (outer:List Env) (s:Shared) (H:Hp) (vs:Lv) (Q:VK) (E:XK),b9 k (A.deeper (envOfC qual (aE st) s.heap.objs.size f ay))->sp vs H Q E->let y:=(kF al P w K mg base N qual (aE st) f ay A outer s H E).nox;let d:Ends:={ nx:=fun _ H'=>Q .non H',rt:=Q };∃t,c8 y (dg st) t/\t d (start N vs) H)(len:∀vs H Q E,sp vs H Q E->vs.length=ps.length:=by intro _ _ _ _ h;first | (obtain⟨_,rfl,_⟩:=h;rfl) | (obtain⟨_,_,rfl,_⟩:=h;rfl) | (obtain⟨_,_,_,rfl,_⟩:=h;rfl) | (obtain⟨_,_,_,_,rfl,_⟩:=h;rfl) | (obtain⟨_,_,_,_,_,rfl,_⟩:=h;rfl) | (obtain⟨_,_,_,_,_,_,rfl,_⟩:=h;rfl) | (obtain⟨_,_,_,_,_,_,_,rfl,_⟩:=h;rfl) | (obtain⟨_,_,_,_,_,_,_,_,rfl,_⟩:=h;rfl) | (obtain⟨_,_,_,_,_,_,_,_,_,rfl,_⟩:=h;rfl) | (obtain⟨_,_,_,_,_,_,_,_,_,_,rfl,_⟩:=h;rfl) | (obtain⟨_,_,_,_,_,_,_,_,_,_,_,rfl,_⟩:=h;rfl) | (obtain⟨_,_,_,_,_,_,_,_,_,_,_,_,rfl,_⟩:=h;rfl) | (obtain⟨_,_,_,_,_,_,_,_,_,_,_,_,_,rfl,_⟩:=h;rfl) | (obtain⟨_,_,_,_,_,_,_,_,_,_,_,_,_,_,rfl,_⟩:=h;rfl)):aj P w K mg base al (k+1) f fd ps sp:=F.ok S len hb
end
theorem ba{p:Prop}(h:let T:=p;T):p:=h
theorem ww{g:TG}{tb:TS}{E:Ends}{x:V}{σ:St}{H:Hp}(h:let e:=E;let s:=σ;g x s H fun σ2 H2=>tb e σ2 H2):g x σ H fun σ2 H2=>tb E σ2 H2:=h
open PySem PySem.Spec PyProof.Rows PySem.W PySem.Builtin PySem.Builtin.ObjectAttr PySem.Builtin.Getset_descriptor
abbrev Qh:Lw:=[.type "ValueError",.type "Exception",.type "BaseException",.type "object"]
structure Dl(K:Fg)(C:Addr):Prop where
 exc:PySem.W.excIn K C Qh "ValueError.__new__"=true
 ga:PySem.W.findIn K (.ref C) "__getattribute__"=some (some (.builtin "BaseException.__getattribute__"))
 gh:PySem.W.findIn K (.ref C) "__getattr__"=some none
 cls:PySem.W.findIn K (.ref C) "__class__"=some (some (.builtin "object.__class__"))
 spc:PySem.W.specialIn K (.builtin "object.__class__") "__get__"=some (some (.builtin "getset_descriptor.__get__"))
 tak:PySem.W.takesIn K (.builtin "object.__class__")=some true
 mro:PySem.W.mroIn K C (.type "object")=some true
 mrb:PySem.W.mroIn K C (.type "BaseException")=some true
section
variable {K:Fg}{D a:Addr}{M:Model}{h:Heap}
end
section
variable {prog:Program}{w:World}{A:Around}{E:VP}{s:Shared}{K:Fg}{D a:Addr}
end
end L2
namespace L2
open PySem PySem.Spec PyProof.Rows PySem.W
theorem b8.obj{P:Program}{w:World}{H:Hp}{h:Heap}{a:Addr}{o:HO}(x:b8 P w H h a o):∃u,h.get? a=some u:=by
 cases o with
 | lst xs=>obtain⟨_,_,_,_,e⟩:=x;exact⟨_,e⟩
 | tup xs=>obtain⟨_,_,_,ob,e,_⟩:=x;exact⟨_,e⟩
 | dK kvs=>obtain⟨_,_,_,_,o,_,_,e,_⟩:=x;exact⟨_,e⟩
 | dT kvs=>obtain⟨_,_,_,_,o,_,_,e,_⟩:=x;exact⟨_,e⟩
 | set S n=>obtain⟨o,_,_,_,e,_⟩:=x;exact⟨_,e⟩
 | ins C dx fs=>obtain⟨_,_,_,e,_⟩:=x;exact⟨_,e⟩
 | own y=>obtain⟨_,e⟩:=x;exact⟨_,e⟩
 | xd fs=>obtain⟨_,⟨_,_,_,e,_⟩,_⟩:=x;exact⟨_,e⟩
 | rng lo hi=>obtain⟨_,_,_,e⟩:=x;exact⟨_,e⟩
 | frz ob u=>obtain⟨e,_⟩:=x;exact⟨_,e⟩
 | tbl ps=>exact⟨_,(show h.get? a=some _ from x)⟩
 | met f y=>exact⟨_,(show h.get? a=some _ from x)⟩
 | ext φ=>obtain⟨_,⟨_,e⟩,_⟩:=x;exact⟨_,e⟩
structure lW(l:List Env)(B:Heap)(H:Hp)(h0 h h':Heap):Prop where
 big:∀b o,h.get? b=some o->((H b).isSome=true\/∃o',h0.get? b=some o')->b∉cn l->B.get? b=some o
 stay:B.StaysIn h'
 slots:∀b o,h.get? b=some o->b∈cn l->∃sl,h'.get? b=some { o with slots:=sl }
section
variable {l:List Env}{B:Heap}{H H0:Hp}{h0 h h' Io:Heap}{P:Program}{w:World}
theorem lW.at(f:lW l B H h0 h h'){b:Addr}{o:Obj}(e:h.get? b=some o)(t:(H b).isSome=true\/∃o',h0.get? b=some o')(n:b∉cn l):h'.get? b=some o:=f.stay _ _ (f.big b o e t n)
theorem lW.hok(f:lW l B H h0 h h')(ok:bY P w H h)(fr:∀b∈cn l,H b=none):bY P w H h':=fun b o e=>by
 have nf:∀c u,H c=some u->c∉cn l:=fun c u q z=>by rw[fr c z]at q;cases q
 refine(ok b o e).stay (fun c u hc q=>?_) (fun _ q=>q) fun _ _ q=>q
 rcases hc with rfl | hc
 . exact f.at q (.inl (by rw[e];rfl)) (nf _ _ e)
 . exact f.at q (.inl (by rw[hc];rfl)) (nf _ _ hc)
theorem lW.un{fs:List Addr}(f:lW l B H h0 h h')(u:Un fs [] H0 H h0 h)(hs:∀b∈cn l,b∈fs\/h0.get? b=none)(hf:∀b∈fs,b∈cn l):Un fs [] H0 H h0 h' where
 keep:=fun b o q n hb hx=>f.at (u.keep b o q n hb hx) (.inr ⟨o,q⟩) fun z=>by
  rcases hs b z with y | y
  . exact hb y
  . rw[y]at q;cases q
 slot:=fun b o q n hb hx=>by
  obtain⟨sl,e⟩:=u.slot b o q n hb hx;obtain⟨tD,e'⟩:=f.slots b _ e (hf b hb);exact⟨tD,e'⟩
 free:=u.free
 there:=fun b o q hx=>by
  obtain⟨o',e⟩:=u.there b o q hx
  by_cases hb:b∈cn l
  . obtain⟨sl,e'⟩:=f.slots b _ e hb;exact⟨_,e'⟩
  . exact⟨o',f.at e (.inr ⟨o,q⟩) hb⟩
 tups:=u.tups
 frzs:=u.frzs
 tbls:=u.tbls
theorem lW.on(f:lW l B H h0 h h')(st:B.StaysIn Io)(sm:h'.UpToSlots Io)(nf:∀b o,h.get? b=some o->b∈cn l->∀vs,o.data≠.fields vs):lW l B H h0 h Io:=⟨f.big,st,fun b o e hb=>by
 obtain⟨sl,q⟩:=f.slots b o e hb;obtain⟨tD,q'⟩:=sm b _ q (nf b o e hb);exact⟨tD,q'⟩⟩
end
def cE(P:Program)(w:World):hU:=fun outer H s E e s'=>∃(a:Addr) (c:Value) (H':Hp) (B:Heap) (a0:Value),e=.ref a/\s'.os=s.os/\AllBare s'.gens/\Un (cn outer) [] H H' s.heap s'.heap/\bY P w H' s'.heap/\s.heap.get? a=none /\
 Heap.FlyingW B outer a c a0 s'.heap/\(∀b o,s'.heap.get? b=some o->((H' b).isSome=true\/∃o',s.heap.get? b=some o')->b∉cn outer->B.get? b=some o)/\E c none H'
section
variable {X:Cx}{pins:Po}{σ:St}{H:Hp}{s:Shared}{E:XK}
theorem Inv.nofld(I:Inv X pins σ H s){b:Addr}(hb:b∈cn X.stack):∃o,s.heap.get? b=some o/\∀vs,o.data≠.fields vs:=(I.stack.mem hb).2
theorem Qi{B h':Heap}{a:Addr}{c a0:Value}{g':Array GenState}{d':Drawn}{t':Nat}(I:Inv X pins σ H s)(hex:X.ex=[])(fg:X.stack=X.env::X.outer)(ud:X.env.frame=some X.env.locals)(f:lW X.stack B H X.s₀.heap s.heap h')(na:X.s₀.heap.get? a=none)
 (fl:Heap.FlyingW B X.outer a c a0 h') (hg:AllBare g') (e:E c none H):cE X.prog X.w X.outer X.H₀ X.s₀ E (.ref a) { s with heap:=h',gens:=g',drawn:=d',toks:=t' }:=by
 have sub:∀b∈cn X.outer,b∈cn X.stack:=fun b hb=>by
  rw[fg];unfold cn at hb ⊢;rw[GJ,ud];exact bJ _ hb
 have sup:∀b∈cn X.stack,b∈cn X.outer\/X.s₀.heap.get? b=none:=fun b hb=>by
  rcases aX.mp (I.stkSub b hb) with z | z
  . rw[z];exact .inr (Heap.get?_none_of_le I.ok.above)
  . exact .inl z
 have u0:=I.base;rw[hex]at u0;refine⟨a,c,H,B,a0,rfl,I.os,hg,f.un u0 sup sub,f.hok I.hok I.stkFree,na,fl,fun b o q t nb=>?_,e⟩;have q:h'.get? b=some o:=q;have nst:b∉cn X.stack\/X.s₀.heap.get? b=none:=by
  by_cases z:b∈cn X.stack
  . rcases sup b z with y | y
    . exact absurd y nb
    . exact .inr y
  . exact .inl z
 have tr:∀o2,s.heap.get? b=some o2->b∉cn X.stack->B.get? b=some o:=fun o2 e2 z=>by
  have:=f.big b o2 e2 t z;have q2:=f.stay _ _ this;rw[q]at q2;cases q2;exact this
 rcases t with t | ⟨o',t⟩
 . obtain⟨u,hu⟩:=NP.mp t;obtain⟨o2,e2⟩:=(I.hok b u hu).obj;exact tr o2 e2 fun z=>by rw[I.stkFree b z]at hu;cases hu
 . obtain⟨o2,e2⟩:=u0.there b o' t (by simp);refine tr o2 e2 fun z=>?_
   rcases nst with y | y
   . exact y z
   . rw[y]at t;cases t
abbrev rh (P:Program) (w:World) (K:Fg) (mg:Mv) (base:Heap) (N:Ls) (qual:Str) (scope:Scope) (f:Addr) (cd:Value) (A:Around) (outer:List Env) (s:Shared) (H:Hp) (E:XK):Cx:=kF (cE P w) P w K mg base N qual scope f cd A outer s H E
end
section
variable {P:Program}{w:World}{K:Fg}{mg:Mv}{base:Heap}{N:Ls}{qual:Str}{scope:Scope}{f:Addr}{cd:Value}{A:Around}{outer:List Env}{s0:Shared}{H0:Hp}{E:XK}
theorem kN:mH (cE P w) (rh P w K mg base N qual scope f cd A outer s0 H0 E) E:=by
 intro pins σ H s e s' I h;obtain⟨a,c,H',B,a0,rfl,os,bare,un,hok,na,fl,big,q⟩:=h;have J:=I.call' (ch:=[]) os un hok bare (fun b z=>nomatch z);refine wpAny_leaves_onW (L:=(envOfC qual scope s0.heap.objs.size f cd).locals) I.ok.frames rfl fl fun h' x1 x2=>?_;obtain⟨hh,g,d,t,CQ⟩:=s';have Iq:s0.heap.get? a=none:=by
  cases z:s0.heap.get? a with
  | none=>rfl
  | some o=>
   obtain⟨o',y⟩:=I.base.there a o z (fun z=>nomatch z);rw[na]at y;cases y
 exact Qi (g':=g) (d':=d) (t':=t) J rfl rfl rfl ⟨fun b o e t nb=>big b o e (t.imp id fun aiv=>aiv.elim fun o' z=>I.base.there b o' z (fun z=>nomatch z)) nb,x1.1,fun b o e hb=>by
  obtain⟨o1,e1,n1⟩:=J.nofld hb;rw[e]at e1;cases e1;exact x2 b o e n1⟩ Iq x1 bare q
theorem aiw{C:Addr}{h:Heap}(X:K.In h)(x:Dl K C):∃bm Nn nm q bs hdct sn sub ab col dd k0 k1 k2 k3 k5 mN,h.get? C=some (excClassObj nm q C Nn bs bm hdct sn sub ab col dd k0 k1 k2 k3 k5 "ValueError.__new__")/\h.Ns Nn mN/\mN "__init__"=none/\OwnTail h Qh bm:=by
 have q:=x.exc;unfold excIn at q;split at q
 case h_2=>cases q
 rename_i dd Qj sl ho;split at q
 case h_2=>cases q
 rename_i C' bm k0 k1 k2 k3 n k5 hm hs;rw[gB,gB,gB,gB,gB]at q;obtain⟨⟨⟨⟨⟨z1,z2⟩,z3⟩,z4⟩,z5⟩,z6⟩:=q;have z1:=kf.mp z1;have z2:=kf.mp z2;have z3:Qj.hasDel=false:=by simpa using z3
 subst z1 z2;obtain⟨nm,bs,mro,ns,qn,hd,sn,sub,ab,col,del⟩:=Qj;have hm:mro=.ref C'::bm:=hm;have z3:del=false:=z3;subst hm z3;obtain⟨sll⟩:=sl;have hs:sll=[k0,k1,k2,k3,some (.builtin "ValueError.__new__"),k5]:=hs;subst hs;exact⟨bm,ns,nm,qn,bs,hd,sn,sub,ab,col,dd,k0,k1,k2,k3,k5,_,X _ _ ho,.of_isNs (isNs_of_in X z5),nsMap_none_of_in X z5 (kf.mp z6),tail_of_in X z4⟩
theorem aiy{C:Addr}{x:Str}{np cC pos:Pos}{e:Expr}{te:TE}(xc:Dl K C)(hm:mg x=some (.ref C))(he:PE (rh P w K mg base N qual scope f cd A outer s0 H0 E) e te)(hg:Gl (rh P w K mg base N qual scope f cd A outer s0 H0 E) x:=by rfl)
 (hs:starEach [e] (envOfC qual scope s0.heap.objs.size f cd)=[(false,eval e (envOfC qual scope s0.heap.objs.size f cd))]:=by rfl) (hd:(x == ("__debug__":Str))=false:=by decide) :
 PS (rh P w K mg base N qual scope f cd A outer s0 H0 E) (.Raise (some (.Call (.Name x np) [e] [] cC)) none pos) (fun _ σ H=>te σ H fun v H1=>[v].length<=1/\E (.ref C) none H1):=by
 intro pins s σ H D I h;obtain⟨bm,Nn,nm,q,bs,hdct,sn,sub,ab,col,dd,k0,k1,k2,k3,k5,mN,hC,hN,Dm,T⟩:=aiw I.mod.kin xc;have hh:(A.deeper (envOfC qual scope s0.heap.objs.size f cd)).handled=none:=I.ok.hd rfl;refine wpAny_Raise_call_subT (C:=C) (nm:=nm) (q:=q) (N:=Nn) (bs:=bs) (bm:=bm) (hdct:=hdct) (sn:=sn) (sub:=sub) (ab:=ab) (col:=col) (dd:=dd) (k0:=k0) (k1:=k1) (k2:=k2) (k3:=k3) (k5:=k5)
  aCs (mN:=mN) (T.hasType aCs.hasBase) hh (by show(backTo cC (starEach [e] (envOfC qual scope s0.heap.objs.size f cd))).any (·.1)=false;rw[hs];rfl) Dm (v4 I hg hm ⟨rfl,?_⟩ hd)
 have ha:PA (rh P w K mg base N qual scope f cd A outer s0 H0 E) [e] (kC te fh):=aa he ac hs;have go:=ha cC pins s σ H (fun vs H1=>vs.length<=1/\E (.ref C) none H1) I h;have go:wpAny (model P w) (A.deeper (envOfC qual scope s0.heap.objs.size f cd)) (spliced (backTo cC (starEach [e] (envOfC qual scope s0.heap.objs.size f cd)))) (AP (rh P w K mg base N qual scope f cd A outer s0 H0 E) pins σ (fun vs H1=>vs.length<=1/\E (.ref C) none H1)) (rh P w K mg base N qual scope f cd A outer s0 H0 E).xe s:=go;show wpAny (model P w) (A.deeper (envOfC qual scope s0.heap.objs.size f cd)) (evalArgs (.ref C) true (backTo cC (starEach [e] (envOfC qual scope s0.heap.objs.size f cd))) []) _ _ s;rw[hs]at go ⊢;refine NR (eg go (fun us s2 z=>?_) fun _ _ y=>y);obtain⟨vs,H1,I1,rv,l1,q1⟩:=z;have hl:us.length<=sizeLine:=by
  rw[←rv.length];exact ce l1 (by decide)
 refine⟨rfl,hl,I1.bk _ _ hC,hN.keeps I1.bk,T.keeps I1.bk,fun h' a hx=>?_⟩;have Iq:s0.heap.get? a=none:=by
  cases z:s0.heap.get? a with
  | none=>rfl
  | some o=>
   obtain⟨o',y⟩:=I1.base.there a o z (fun z=>nomatch z);rw[hx.new]at y;cases y
 refine wpAny_leaves_madeW (base:=hideAll s2.heap (cn (envOfC qual scope s0.heap.objs.size f cd::outer))) (L:=(envOfC qual scope s0.heap.objs.size f cd).locals) (h:=s2.heap) I1.ok.frames rfl (fun b o z=>of_hideAll _ z)
  (funFrames_hide I1.stack fun env hev b hb=>NM.mpr ⟨env,hev,hb⟩) hx fun h2 t x1 x2 x3 x4=>?_
 refine Qi (g':=s2.gens) (d':=s2.drawn) (t':=s2.toks) I1 rfl rfl rfl ⟨fun b o z _ nb=>hideAll_get _ z nb,x1.1,fun b o z hb=>?_⟩ Iq x1 I1.bare q1;obtain⟨o1,e1,n1⟩:=I1.nofld hb;rw[z]at e1;cases e1;exact x4 b o (hx.keeps _ _ z) n1
end
section
variable {X:Cx}{pins:Po}{σ:St}{H:Hp}{s:Shared}
abbrev Cx.tr (X:Cx) (XE:VP) (pn:Po):Cx:={ X with xe:=XE,pn:=X.pn++pn }
abbrev Cx.exs (X:Cx) (a:Addr):Cx:={ X with A:=X.A.mark (some (.ref a)),calm:=false,xe:=fun _ _=>False }
theorem Inv.tr(I:Inv X pins σ H s)(XE:VP):Inv (X.tr XE pins) [] σ H s:=
 ⟨⟨I.ok.mod,I.ok.kind,I.ok.glob,I.ok.blt,I.ok.above,I.ok.inj,I.ok.has,I.ok.cab,I.ok.hd,I.ok.frames,I.ok.stk,I.ok.exf,I.ok.bs,I.ok.bsz,I.ok.noex,I.ok.exfs,I.ok.funs,I.ok.frf⟩,I.os,I.bare,I.base,I.loc,I.cell,I.free,I.freeC,fun p hp=>I.pin p (by simpa using hp),I.hok,I.len⟩
theorem Inv.untr{XE:VP}{ps:Po}(I:Inv (X.tr XE pins) ps σ H s):Inv X pins σ H s:=
 ⟨⟨I.ok.mod,I.ok.kind,I.ok.glob,I.ok.blt,I.ok.above,I.ok.inj,I.ok.has,I.ok.cab,I.ok.hd,I.ok.frames,I.ok.stk,I.ok.exf,I.ok.bs,I.ok.bsz,I.ok.noex,I.ok.exfs,I.ok.funs,I.ok.frf⟩,I.os,I.bare,I.base,I.loc,I.cell,I.free,I.freeC,fun p hp=>I.pin p (B9 _ hp),I.hok,I.len⟩
theorem Inv.exs(I:Inv X pins σ H s)(a:Addr):Inv (X.exs a) pins σ H s:=
 ⟨⟨I.ok.mod,I.ok.kind,I.ok.glob,I.ok.blt,I.ok.above,I.ok.inj,I.ok.has,I.ok.cab,fun z=>(nomatch z),I.ok.frames,I.ok.stk,I.ok.exf,I.ok.bs,I.ok.bsz,I.ok.noex,I.ok.exfs,I.ok.funs,I.ok.frf⟩,I.os,I.bare,I.base,I.loc,I.cell,I.free,I.freeC,I.pin,I.hok,I.len⟩
theorem Inv.unexs{a:Addr}(ok:X.Ok)(I:Inv (X.exs a) pins σ H s):Inv X pins σ H s:=⟨ok,I.os,I.bare,I.base,I.loc,I.cell,I.free,I.freeC,I.pin,I.hok,I.len⟩
theorem SP.untr{XE:VP}{ps:Po}{D:Ends}{f:Flow}{s':Shared}(h:SP (X.tr XE pins) ps D f s'):SP X pins D f s':=by
 cases f with
 | next=>obtain⟨σ',H',I,q⟩:=h;exact⟨σ',H',I.untr,q⟩
 | brk=>obtain⟨σ',H',I,q⟩:=h;exact⟨σ',H',I.untr,q⟩
 | cont=>obtain⟨σ',H',I,q⟩:=h;exact⟨σ',H',I.untr,q⟩
 | ret u=>obtain⟨v,σ',H',I,r,q⟩:=h;exact⟨v,σ',H',I.untr,r,q⟩
end
def Ir(CX:hU)(X:Cx)(E:St->XK):Prop:=∀(pins:Po) (σ:St) (H:Hp) (s:Shared) (e:Value) (s':Shared),Inv X pins σ H s->CX X.stack H s (E σ) e s'->X.xe e s'
section
variable {X:Cx}{CX:hU}{k:Nat}{f C:Addr}{fd:Fy}{ps:Ls}{sp:Sp}{de:Lv}{ds:Lw}{E:St->XK}{x m:Str}{p pos apos:Pos}{e o:Expr}{es:List Expr}{ta:TE}{t:TA}
theorem aiA{pins:Po}{σ:St}{H:Hp}{s:Shared}{Q:VK}{us:Lw}{vs:Lv}(F:aj X.prog X.w X.K X.mg X.base CX k f fd ps sp)(hr:b9 k X.A)(hb:Binds X.K fd ps ds)(hd:aQ de ds)(hx:Ir CX X E)
 (I:Inv X pins σ H s) (r:aQ vs us) (h:sp (vs++de) H Q (E σ)):wpAny (model X.prog X.w) X.A (call (.ref f) us) (EP X pins σ Q) X.xe s:=by
 have r2:aQ (vs++de) (us++ds):=r.append hd;have hl:(us++ds).length=ps.length:=by rw[←r2.length];exact F.len _ _ _ _ h
 refine GL (oq (F.run X.A X.stack s H ⟨us,[]⟩ (us++ds) (vs++de) Q (E σ) hr I.env0 (hb s us I.kIn hl) r2 h) fun r s' hq=>?_);cases r with
 | error e=>exact hx pins σ H s e s' I hq
 | ok fl=>
  cases fl with
  | ret u=>exact I.after hq
  | next=>exact False.elim hq
  | brk=>exact False.elim hq
  | cont=>exact False.elim hq
def aiB(sp:Sp)(de:Lv)(E:St->XK)(t:TA):TE:=fun σ H Q=>OU sp de (E σ) t σ H Q
theorem aiC(F:aj X.prog X.w X.K X.mg X.base CX k f fd ps sp)(hr:b9 k X.A)(hg:Gl X x)(hm:X.mg x=some (.ref f))(hk:PySem.W.keepIn X.K (.ref f)=true)(hb:Binds X.K fd ps ds)(hd:aQ de ds)(hx:Ir CX X E)
 (ha:PA X (e::es) t) (iy:(x == ("__debug__":Str))=false:=by decide) (he:starEach (e::es) X.env=(false,eval e X.env)::starEach es X.env:=by rfl) (eI:(backTo pos (starEach es X.env)).any (·.1)=false:=by rfl) :
 PE X (.Call (.Name x p) (e::es) [] pos) (aiB sp de E t):=by
 intro pins s σ H Q I h;refine yr (v4 I hg hm ?_ iy);refine NN (h₀:=X.base) I.ok.mod.kin hk (thn (ha pos pins s σ H _ I h) fun us s1 aiD=>aiD.elim fun vs aiE=>aiE.elim fun H1 aiF=>aiF.elim fun I1 aiG=>aiG.elim fun r q=>⟨I1.kIn,?_⟩) he eI;exact aiA F hr hb hd hx I1 r q
end
section
variable {X:Cx}
end
theorem ak.okR{P:Program}{w:World}{K:Fg}{mg:Mv}{base:Heap}{x qual:Str}{st:Stmt}{f:Addr}{fd:Fy}{N ps:Ls}{k:Nat}{sp:Sp}(F:ak K x qual st f fd)(S:aR N ps (aE st))(len:∀vs H Q E,sp vs H Q E->vs.length=ps.length)
 (oM:∀(ay:Value) (A:Around) (outer:List Env) (s:Shared) (H:Hp) (vs:Lv) (Q:VK) (E:XK),b9 k (A.deeper (envOfC qual (aE st) s.heap.objs.size f ay))->sp vs H Q E ->
  ∃t,c8 (rh P w K mg base N qual (aE st) f ay A outer s H E) (dg st) t/\t { nx:=fun _ H'=>Q .non H',rt:=Q } (start N vs) H):aj P w K mg base (cE P w) (k+1) f fd ps sp:=by
 obtain⟨oc,od,kV,doc,pm,an,ay,ct,iB,rfl,lk,g9⟩:=F.ex;exact Hy lk g9 S len fun A outer s H vs Q E hr kG=>oM ay A outer s H vs Q E hr kG
section
variable {X:Cx}
theorem Qk:∀{Ds:List Addr}{us:Lw},aQ (Ds.map V.ref) us->us=Ds.map Value.ref
 | [],_,.nil=>rfl
 | D::Ds,_,.cons r t=>by
  rw[bL,Qk t]
  congr 1
end
end L2
namespace L2
open PySem PySem.Spec PyProof.Rows
section
variable {prog:Program}{w:World}{A:Around}{E:VP}{s:Shared}
end
section
variable {X:Cx}
end
end L2
namespace HT
open PySem PyProof.Rows
section
open PySem.SeqAt
open PySem.AutoSeq1 (wpAny_loadPart')
open PySem.MeetsSeq PySem.MeetsSeq2 PySem.MeetsSeq3
end
section
variable {prog:Program}{w:World}{A:Around}{E:VP}{s:Shared}
end
end HT
namespace L2
open PySem PySem.Spec PyProof.Rows
section
variable {X:Cx}
end
open PySem.W
section
variable {X:Cx}
theorem aiH{P:Program}{w:World}:mH (cE P w) X (fun _ _ _=>False):=fun _ _ _ _ _ _ _ h=>by
 obtain⟨_,_,_,_,_,_,_,_,_,_,_,_,_,q⟩:=h;exact q.elim
def Ql(K:Fg)(M:Addr)(ts:TS)(D:Ends):St->XK:=fun σ c _ H=>exmOne K c (.ref M)=some true/\ts D σ H
theorem aiI{M:Addr}{x:Str}{body:List Stmt}{b0:Stmt}{Iu:List Stmt}{np ri pos:Pos}{tb:(St->XK)->TS}{ts:TS}
 (fg:X.stack=X.env::X.outer) (ud:X.env.frame=some X.env.locals) (hm:X.mg x=some (.ref M)) (hg:Gl X x)
 (hb:∀XE pn E,Ir (cE X.prog X.w) (X.tr XE pn) E->c8 (X.tr XE pn) body (tb E)) (hs:∀a,c8 (X.exs a) (b0::Iu) ts) (iy:(x == ("__debug__":Str))=false:=by decide) :
 PS X (.Try body [.ExceptHandler (some (.Name x np)) none (b0::Iu) ri] [] [] pos) (fun D σ H=>tb (Ql X.K M ts D) D σ H):=by
 intro pins s σ H D I h;refine wpAny_Try_except ?_;refine eg (hb (fun e s₁=>wpAny (model X.prog X.w) X.A (noteFrame e X.env) (fun _ s₂=>wpAny (model X.prog X.w) X.A (setFlight e none) (fun _ s₃=>wpAny (model X.prog X.w) X.A (handleBy e X.env [.ExceptHandler (some (.Name x np)) none (b0::Iu) ri]) (SP X pins D) X.xe s₃) X.xe s₂) X.xe s₁)
  pins (Ql X.K M ts D) ?_ [] s σ H D (I.tr _) h) (fun f s1 z=>?_) fun _ _ z=>z
 . intro ps σ1 H1 s1 e s' I1 hx;have I1:=I1.untr;obtain⟨a,c,H',B,a0,rfl,os,bare,un,hok,na,fl,big,hx1,o9⟩:=hx;have fl:Heap.FlyingW B (X.env::X.outer) a c a0 s'.heap:=fg▸fl;have hfm:X.A.frames=some (X.env::X.outer):=fg▸I1.ok.frames;have un:Un (cn X.stack) [] H1 H' s1.heap s'.heap:=un;have big:∀b o,s'.heap.get? b=some o->((H' b).isSome=true\/∃o',s1.heap.get? b=some o')->b∉cn X.stack->B.get? b=some o:=big;have J0:=I1.call' (ch:=[]) os un hok bare (fun b z=>nomatch z);have nf:∀b o,s'.heap.get? b=some o->b∈cn X.stack->∀vs,o.data≠.fields vs:=fun b o e hb=>by
    obtain⟨o1,e1,n1⟩:=J0.nofld hb;rw[e]at e1;cases e1;exact n1
   refine wpAny_looks_onW hfm ud fl fun h4 held sm4=>?_;refine wpAny_landsW held fun h5 Iw sm5=>?_;have f5:lW X.stack B H' s1.heap s'.heap h5:=⟨big,Iw.1,fun b o e hb=>(sm4.trans sm5) b o e (nf b o e hb)⟩;have J5:Inv X pins σ1 H' { s' with heap:=h5 }:=I1.call' (ch:=[]) os (f5.un un (fun _ z=>.inl z) fun _ z=>z) (f5.hok hok J0.stkFree) bare (fun b z=>nomatch z);refine wpAny_handleBy_cons (codeAny_handlers_test ?_) (by intro q;cases q);refine v4 (J5.exs a) hg hm ?_ iy;have LT:Looks (model X.prog X.w) h5 (typeOf (.ref a)) c:=by
    obtain⟨ob,o1,o2⟩:=Iw.there;exact o2▸(Looks.ld o1).andThen .now
   refine(exm_one J5.kIn LT hx1).here ?_;refine codeAny_handlers_suite ?_;refine lands_againW Iw fun h6 fl6 zu=>?_;have f6:=f5.on fl6.1 zu nf;have J6:Inv X pins σ1 H' { s' with heap:=h6 }:=I1.call' (ch:=[]) os (f6.un un (fun _ z=>.inl z) fun _ z=>z) (f6.hok hok J0.stkFree) bare (fun b z=>nomatch z);refine eg (hs a pins _ _ _ _ (J6.exs a) o9) (fun f s8 z=>?_) fun _ _ z=>z.elim;cases f with
   | next=>
    obtain⟨σ8,H8,J8,q8⟩:=z;exact⟨_,H8,J8.unexs J6.ok,q8⟩
   | brk=>
    obtain⟨σ8,H8,J8,q8⟩:=z;exact⟨_,H8,J8.unexs J6.ok,q8⟩
   | cont=>
    obtain⟨σ8,H8,J8,q8⟩:=z;exact⟨_,H8,J8.unexs J6.ok,q8⟩
   | ret u=>
    obtain⟨v,σ8,H8,J8,r8,q8⟩:=z;exact⟨v,_,H8,J8.unexs J6.ok,r8,q8⟩
 . have z:=z.untr;cases f with
   | next=>exact GK z
   | brk=>exact z
   | cont=>exact z
   | ret u=>exact z
def aiO(K:Fg):V->V->Hp->VK->Prop:=fun x y H Q=>∃d e,DV K H x d/\DV K H y e/\PySem.W.kqdOk 9 d=true/\PySem.W.kqdOk 9 e=true/\∀b:Bool,(b=true↔d=e)->Q (.bl (!b)) H
theorem aiP(K:Fg)(hu:X.A.units+64<cLine)(h:X.K=K:=by rfl):cR X (compareOp .NotEq) (aiO K):=h▸wo hu
end
end L2
namespace L2
open PySem
def ph(m:Nat):Prop:=m=7\/m=15\/m=31\/m=63\/m=127\/m=255
def pi(mask:Nat):Nat->Nat->Nat
 | 0,i=>i
 | m+1,i=>pi mask m ((i * 5+1) % (mask+1))
theorem Dn(mask:Nat):∀(m k i:Nat),pi mask (m+k) i=pi mask k (pi mask m i)
 | 0,k,i=>by rw[GU];rfl
 | m+1,k,i=>by
  rw[Nat.succ_add];exact Dn mask m k _
def aiQ(mask:Nat):Bool:=pi mask (mask+1) 0 == 0 && (List.range (mask+1)).all fun j=>(List.range (mask+1)).any fun m=>pi mask m 0 == j
theorem aiR{mask:Nat}(h:ph mask):aiQ mask=true:=by
 rcases h with rfl | rfl | rfl | rfl | rfl | rfl
 . decide +kernel
 . decide +kernel
 . decide +kernel
 . decide +kernel
 . decide +kernel
 . decide +kernel
theorem aiS{mask i j:Nat}(h:ph mask)(hi:i<=mask)(hj:j<=mask):∃m,m<=mask/\pi mask m i=j:=by
 obtain⟨h0,h1⟩:=yA.mp (aiR h);have h0:=eq_of_beq h0;have wx:∀z,z<=mask->∃m,m<=mask/\pi mask m 0=z:=fun z hz=>by
  obtain⟨m,hm,e⟩:=yz.mp (iq.mp h1 z (B8.mpr (by omega)));exact⟨m,by have:=B8.mp hm;omega,eq_of_beq e⟩
 obtain⟨a,ha,ea⟩:=wx i hi;obtain⟨b,hb,eb⟩:=wx j hj
 by_cases le:a<=b
 . refine⟨b - a,by omega,?_⟩;rw[←ea,←Dn,show a+(b - a)=b by omega];exact eb
 . refine⟨b+(mask+1) - a,by omega,?_⟩;rw[←ea,←Dn,show a+(b+(mask+1) - a)=(mask+1)+b by omega,Dn,h0];exact eb
def jb(mask:Nat):Nat->Nat->Nat->Nat×Nat
 | 0,i,p=>(i,p)
 | m+1,i,p=>jb mask m ((i * 5+1+p / 32) % (mask+1)) (p / 32)
theorem Qm(mask:Nat):∀(m i:Nat),jb mask m i 0=(pi mask m i,0)
 | 0,i=>rfl
 | m+1,i=>by
  show jb mask m ((i * 5+1+0 / 32) % (mask+1)) (0 / 32)=_;rw[Nat.zero_div,NZ,Qm mask m];rfl
theorem Qn(mask:Nat):∀(m k i p:Nat),jb mask (m+k) i p=jb mask k (jb mask m i p).1 (jb mask m i p).2
 | 0,k,i,p=>by rw[GU];rfl
 | m+1,k,i,p=>by
  rw[Nat.succ_add];exact Qn mask m k _ _
theorem Qo(mask:Nat):∀(m i p:Nat),(jb mask m i p).2=p / 32 ^ m
 | 0,i,p=>by simp[jb]
 | m+1,i,p=>by
  show(jb mask m _ (p / 32)).2=_;rw[Qo mask m,Nat.div_div_eq_div_mul,Nat.pow_succ,Nat.mul_comm]
theorem Qp(mask:Nat):∀(m i p:Nat),i<=mask->(jb mask m i p).1<=mask
 | 0,i,p,h=>h
 | m+1,i,p,h=>Qp mask m _ _ (Nat.le_of_lt_succ (GV (i * 5+1+p / 32) (Nat.succ_pos mask)))
theorem aiT{mask i p j:Nat}(h:ph mask)(hi:i<=mask)(hp:p<2 ^ 64)(hj:j<=mask):∃m,m<SetTable.turns mask/\(jb mask m i p).1=j:=by
 have h2:(jb mask 13 i p).2=0:=by
  rw[Qo];exact Nat.div_eq_of_lt (yw hp (by decide))
 obtain⟨m,hm,e⟩:=aiS h (Qp mask 13 i p hi) hj;refine⟨13+m,by unfold SetTable.turns;omega,?_⟩;rw[Qn,h2,Qm];exact e
theorem Qq(mask:Nat)(ow:Array (Option Nat)):∀(f i p:Nat),SetTable.layClean.free mask ow f i p=none->∀m,m<f->(ow.getD (jb mask m i p).1 (some 0)).isNone=false
 | 0,i,p,_,m,h=>absurd h (N1 _)
 | f+1,i,p,e,m,h=>by
  unfold SetTable.layClean.free at e;cases hq:(List.range (SetTable.runEnd mask i+1 - i)).find? fun k=>(ow.getD (i+k) (some 0)).isNone with
  | some k=>rw[hq]at e;cases e
  | none=>
   rw[hq]at e;cases m with
   | zero=>
    have:=V5.mp hq 0 (B8.mpr (by unfold SetTable.runEnd;split<;>omega));rw[NZ]at this;cases hz:(ow.getD i (some 0)).isNone with
    | true=>exact absurd hz this
    | false=>exact hz
   | succ m=>exact Qq mask ow f _ _ e m (by omega)
theorem Qs(mask:Nat)(ow:Array (Option Nat)):∀(f i p j:Nat),SetTable.layClean.free mask ow f i p=some j->(ow.getD j (some 0)).isNone=true
 | 0,i,p,j,e=>by cases e
 | f+1,i,p,j,e=>by
  unfold SetTable.layClean.free at e;cases hq:(List.range (SetTable.runEnd mask i+1 - i)).find? fun k=>(ow.getD (i+k) (some 0)).isNone with
  | some k=>
   rw[hq]at e;cases e;exact List.find?_some (p:=fun k=>(ow.getD (i+k) (some 0)).isNone) hq
  | none=>
   rw[hq]at e;exact Qs mask ow f _ _ j e
theorem Qt{α:Type}:∀{l:List (Option α)}{j:Nat}{x:α},l[j]?=some none->((l.set j (some x)).filterMap id).Perm (x::l.filterMap id)
 | [],j,x,h=>by cases h
 | o::l,0,x,h=>by
  cases h;simp
 | o::l,j+1,x,h=>by
  have ih:=Qt (l:=l) (j:=j) (x:=x) h;rw[List.set_cons_succ];cases o with
  | none=>simpa using ih
  | some y=>
   simp only[GJ,id];exact(ih.cons y).trans (.swap ..)
structure Lay(mask:Nat)(r:Array (Option Nat)×Nat):Prop where
 size:r.1.size=mask+1
 perm:(r.1.toList.filterMap id).Perm (List.range r.2)
theorem Lay.step{mask:Nat}(hm:ph mask){r:Array (Option Nat)×Nat}(x:Lay mask r)(hk:r.2<=mask)(h:Int):∃j,SetTable.layClean.free mask r.1 (SetTable.turns mask) (SetTable.bits h % (mask+1)) (SetTable.bits h)=some j/\Lay mask (r.1.setIfInBounds j (some r.2),r.2+1):=by
 obtain⟨ow,k⟩:=r;dsimp only at *;have hz:ow.size=mask+1:=x.size;have hlen:=x.perm.length_eq;dsimp only at hlen;rw[N2]at hlen;cases hf:SetTable.layClean.free mask ow (SetTable.turns mask) (SetTable.bits h % (mask+1)) (SetTable.bits h) with
 | none=>
  exfalso;have qN:∀j,j<=mask->(ow.getD j (some 0)).isNone=false:=fun j hj=>by
   obtain⟨m,h1,h2⟩:=aiT hm (i:=SetTable.bits h % (mask+1)) (p:=SetTable.bits h) (Nat.le_of_lt_succ (GV (SetTable.bits h) (Nat.succ_pos mask))) (by
    unfold SetTable.bits;have h1:=Cr h (show(0:Int)<2 ^ 64 by decide);have h0:=yB h (show(2 ^ 64:Int)≠0 by decide);omega) hj
   have:=Qq mask ow _ _ _ hf m h1
   rwa [h2]at this
  have:(ow.toList.filterMap id).length=ow.toList.length:=by
   rw[List.length_filterMap_eq_countP,List.countP_eq_length];intro o ho;obtain⟨j,hj,e⟩:=Wf.mp ho;rw[eR]at hj;have:=qN j (by omega);rw[N3,qF hj]at this;rw[←e,Array.getElem_toList];cases hq:ow[j]with
   | none=>rw[hq]at this;cases this
   | some y=>rfl
  have e9:ow.toList.length=ow.size:=eR;omega
 | some j=>
  have hs:=Qs mask ow _ _ _ _ hf;have hj:j<ow.size:=by
   refine Nat.lt_of_not_le fun z=>?_;rw[N3,Wg z]at hs;cases hs
  have hn:ow.toList[j]?=some none:=by
   rw[N3,qF hj]at hs;rw[vO,qF hj];cases hq:ow[j]with
   | none=>rfl
   | some y=>rw[hq]at hs;cases hs
  refine⟨j,rfl,⟨by simp[hz],?_⟩⟩;dsimp only;rw[Array.toList_setIfInBounds,List.range_succ];exact(Qt hn).trans ((x.perm.cons k).trans (List.perm_append_singleton k _).symm)
theorem Qu{mask:Nat}(hm:ph mask):∀(hs:List Int) (r:Array (Option Nat)×Nat),Lay mask r->r.2+hs.length<=mask+1->∃r',hs.foldl (fun(acc:Option (Array (Option Nat)×Nat)) h=>do
 let (owner,k) ←acc
 let j ←SetTable.layClean.free mask owner (SetTable.turns mask) (SetTable.bits h % (mask+1)) (SetTable.bits h)
 pure (owner.setIfInBounds j (some k),k+1)) (some r)=some r'/\Lay mask r'/\r'.2=r.2+hs.length
 | [],r,x,_=>⟨r,rfl,x,rfl⟩
 | h::hs,r,x,hl=>by
  rw[bO]at hl;obtain⟨j,e,x'⟩:=x.step hm (by omega) h;obtain⟨r',e1,x1,e2⟩:=Qu hm hs _ x' (by dsimp only;omega);refine⟨r',?_,x1,by rw[e2,bO];dsimp only;omega⟩;rw[ou,←e1]
  congr 1
  show(SetTable.layClean.free mask r.1 (SetTable.turns mask) (SetTable.bits h % (mask+1)) (SetTable.bits h)).bind _=_;rw[e];rfl
theorem Qv{mask f m:Nat}{led plain:Bool}{hs:Array Int}(hm:ph mask)(hl:hs.size<=mask):∃t order,SetTable.laid mask f m led plain hs=some (t,order)/\order.toList.Perm (List.range hs.size)/\t.fits hs.size=true/\t.led=led/\t.plain=plain/\t.mask=mask:=by
 have x0:Lay mask (Array.replicate (mask+1) none,0):=⟨by simp,by simp⟩;obtain⟨r,e,x,e2⟩:=Qu hm hs.toList _ x0 (by dsimp only;rw[eR];omega);have hc:SetTable.layClean mask hs=some r.1:=by
  unfold SetTable.layClean;rw[←Array.foldl_toList,e];rfl
 dsimp only at e2;rw[GU,eR]at e2;have ho:((List.range (mask+1)).filterMap fun j=>(r.1.getD j none).map (j,·)).map (·.2)=r.1.toList.filterMap id:=by
  have e3:r.1.toList=(List.range (mask+1)).map fun j=>r.1.getD j none:=by
   refine List.ext_getElem? fun j=>?_;rw[db,vO]
   by_cases hj:j<mask+1
   . rw[List.getElem?_range hj,qF (by rw[x.size];exact hj),vN,N3,qF (by rw[x.size];exact hj)];rfl
   . rw[Wg (by rw[x.size];omega),aCt (by rw[N2];omega)];rfl
  rw[e3,List.filterMap_map,List.map_filterMap]
  congr 1
  funext j
  show Option.map _ (Option.map _ (r.1.getD j none))=r.1.getD j none;cases r.1.getD j none<;>rfl
 have hlen:((List.range (mask+1)).filterMap fun j=>(r.1.getD j none).map (j,·)).length=hs.size:=by
  have:=fb List.length ho;rw[am,x.perm.length_eq,N2,e2]at this;exact this
 unfold SetTable.laid;rw[hc];refine⟨_,_,rfl,?_,?_,rfl,rfl,rfl⟩
 . show(((List.range (mask+1)).filterMap fun j=>(r.1.getD j none).map (j,·)).map (·.2)).Perm _;rw[ho,←e2];exact x.perm
 . unfold SetTable.fits SetTable.fill;have hp:((((List.range (mask+1)).filterMap fun j=>(r.1.getD j none).map (j,·)).map (·.1)).toArray).size=hs.size:=by
    rw[fc,am];exact hlen
   have e9:(#[]:Array Nat).size=0:=rfl;rw[gB];refine⟨kf.mpr hp,bG ?_⟩;show _+(#[]:Array Nat).size<=mask;rw[e9,NZ];exact ce (Cb hp) hl
open PySem.Spec PyProof.Rows
def eX(w:World):Bool:=w.params.followText "set-order"
def gL(e:Int×Value):Str:=match e.2 with
 | .str y _=>y
 | _=>Str.ofString ""
def mS(w:World)(e:Int×Value):Prop:=∃y tk,e=(lG w (.inr y),Value.str y tk)
structure eE(w:World)(o:Obj)(es:Array (Int×Value))(ep:Nat)(t:SetTable)(xs:Ls):Prop where
 ex:o.ExactSet
 dat:o.data=.set es ep t
 good:∀e∈es.toList,mS w e
 perm:(es.toList.map gL).Perm xs
 nd:xs.Nodup
 len:xs.length<=1000
 fit:t.fits es.size=true
 led:t.led = !eX w
 pl:es.size≠0->t.plain=false
 msk:es.size=0->ph t.mask
def cF(w:World)(h:Heap)(a:Addr)(xs:Ls):Prop:=∃o es ep t,h.get? a=some o/\eE w o es ep t xs
theorem cF.at'{w:World}{h h':Heap}{a:Addr}{xs:Ls}(x:cF w h a xs)(k:∀o,h.get? a=some o->h'.get? a=some o):cF w h' a xs:=
 x.elim fun o aiU=>aiU.elim fun es aiV=>aiV.elim fun ep aiW=>aiW.elim fun t aiX=>aiX.elim fun e r=>⟨o,es,ep,t,k o e,r⟩
theorem cF.typeIs{w:World}{s:Shared}{a:Addr}{xs:Ls}(x:cF w s.heap a xs):s.TypeIs (.ref a) "set":=x.elim fun o aiY=>aiY.elim fun _ aiZ=>aiZ.elim fun _ ai0=>ai0.elim fun _ ai1=>ai1.elim fun e r=>⟨o,e,r.ex.1⟩
section
variable {w:World}{P:Program}{o:Obj}{es:Array (Int×Value)} {ep:Nat}{t:SetTable}{xs:Ls}
theorem eE.elems(x:eE w o es ep t xs):ElemsOf (cj P w) es.toList:=fun e he=>by
 obtain⟨y,tk,rfl⟩:=x.good e he;exact⟨⟨.inr y,tu P w y tk,rfl⟩,rfl⟩
theorem eE.size(x:eE w o es ep t xs):es.size=xs.length:=by
 have:=x.perm.length_eq;rw[am,eR]at this;exact this
theorem eE.bnd(x:eE w o es ep t xs):es.size<scanBound:=by
 rw[x.size];have:=x.len;show _<4096;omega
theorem Qw{y:Str}{e:Int×Value}(g:mS w e):(cj P w).is (.inr y) e.2=true↔gL e=y:=by
 obtain⟨z,tk,rfl⟩:=g;constructor
 . intro h;have:=(cj P w).inj _ _ _ h (tu P w z tk);injection this with this
   exact this.symm
 . intro h;rw[←h];exact tu P w z tk
theorem eE.find_some(x:eE w o es ep t xs){y:Str}{j:Nat}(h:List.findIdx? (fun e=>(cj P w).is (.inr y) e.2) es.toList=some j):y∈xs:=by
 obtain⟨hj,hp,_⟩:=List.findIdx?_eq_some_iff_getElem.mp h;have hm:=N5 hj;exact x.perm.mem_iff.mp (cL.mpr ⟨_,hm,(Qw (x.good _ hm)).mp hp⟩)
theorem eE.find_none(x:eE w o es ep t xs){y:Str}(h:List.findIdx? (fun e=>(cj P w).is (.inr y) e.2) es.toList=none):y∉xs:=fun hy=>by
 obtain⟨e,he,hk⟩:=cL.mp (x.perm.mem_iff.mpr hy);have:=List.findIdx?_eq_none_iff.mp h e he;rw[(Qw (x.good _ he)).mpr hk]at this;cases this
end
theorem ai2(t:SetTable)(es:Array (Int×Value))(h:Int)(x:Value):(layNew t es h x).2.1.led=t.led:=by
 unfold layNew;split
 . dsimp only;unfold SetTable.orStandIn;split<;>rfl
 . rfl
theorem ai3{mask f m:Nat}{led plain:Bool}{hs:Array Int}{r:SetTable×Array Nat}(e:SetTable.laid mask f m led plain hs=some r):r.1.led=led/\r.1.plain=plain/\r.1.mask=mask/\r.1.dummies = #[]:=by
 unfold SetTable.laid at e;cases hq:SetTable.layClean mask hs with
 | none=>rw[hq]at e;cases e
 | some ow=>
  rw[hq]at e;cases e;exact⟨rfl,rfl,rfl,rfl⟩
theorem ai4(t:SetTable)(es:Array (Int×Value))(n:Nat):(relayAll t es n).2.1.led=t.led/\(t.plain=false->(relayAll t es n).2.1.plain=false):=by
 unfold relayAll;split
 . rename_i t' order e;dsimp only;split
   . obtain⟨h1,h2,_⟩:=ai3 e;exact⟨h1,fun z=>h2.trans z⟩
   . exact⟨rfl,fun _=>rfl⟩
 . exact⟨rfl,fun _=>rfl⟩
def ic(xs:Ls)(y:Str):Ls:=if y∈xs then xs else xs++[y]
theorem Qx{xs:Ls}{y:Str}(h:xs.Nodup):(ic xs y).Nodup:=by
 unfold ic;split
 . exact h
 . rename_i z;rw[sY];exact⟨h,by simp,fun a ha b hb=>by rw[bj.mp hb];exact fun q=>z (q▸ha)⟩
theorem Ix{xs:Ls}{y z:Str}:z∈ic xs y↔z∈xs\/z=y:=by
 unfold ic;split
 . rename_i h;exact⟨.inl,fun q=>q.elim id fun q=>q▸h⟩
 . simp
theorem Do(xs:Ls)(y:Str):(ic xs y).length<=xs.length+1:=by
 unfold ic;split
 . omega
 . simp
section
variable {prog:Program}{w:World}{A:Around}{E:VP}{s:Shared}{a:Addr}
theorem eE.store{h:Heap}{o:Obj}{es es':Array (Int×Value)}{ep:Nat}{t t':SetTable}(ho:h.get? a=some o)(x:o.ExactSet)(d:o.data=.set es ep t):(h.update a (Obj.putSet es' t')).get? a=some { o with data:=.set es' (ep+1) t' }:=by
 have q:=Cp (Obj.putSet es' t') ho (by rw[putSet_of es' t' d];rfl)
 rwa [putSet_of es' t' d]at q
theorem Qy{g:Bool->Sem Unit}(hg:∀(b:Bool) (s₁:Shared) (Q':Unit->Shared->Prop),Q' () s₁->wpAny (model prog w) A (g b) Q' E s₁){o:Obj}{es c9:Array (Int×Value)}{ep:Nat}{t t2:SetTable}{ys:Ls}{wd:Bool}{R:Option Bool->Shared->Prop}
 (ho:s.heap.get? a=some o) (hx:o.ExactSet) (hd:o.data=.set es ep t) (gd:∀e∈c9.toList,mS w e) (pm:(c9.toList.map gL).Perm ys) (nd:ys.Nodup) (ln:ys.length<=1000) (hf:t2.fits c9.size=true) (ld:t2.led = !eX w) (pl:t2.plain=false) (ne:c9.size≠0)
 (h:∀h',Heap.SameBut a s.heap h'->cF w h' a ys->R (some true) { s with heap:=h' }) :
 wpAny (model prog w) A (do { storeSet a c9 t2;if (!wd && t2.tooFull)=true then do { g (relayAll t2 c9 (SetTable.grown c9.size)).2.2;storeSet a (relayAll t2 c9 (SetTable.grown c9.size)).1 (relayAll t2 c9 (SetTable.grown c9.size)).2.1;pure (some true) } else pure (some true) }) R E s:=by
 have sz:c9.size=ys.length:=by have:=pm.length_eq;rw[am,eR]at this;exact this
 have b1:c9.size<scanBound:=by rw[sz];show _<4096;omega
 refine af (Ct ho hd ?_ (yC b1));have o1:=eE.store (es':=c9) (t':=t2) ho hx hd;have sb:=lB s.heap a (Obj.putSet c9 t2);split
 . have hp:=relayAll_perm t2 c9 (SetTable.grown c9.size);have ud:=relayAll_fits t2 c9 (SetTable.grown c9.size);have Dp:=ai4 t2 c9 (SetTable.grown c9.size);generalize hR:relayAll t2 c9 (SetTable.grown c9.size)=Rl at hp ud Dp ⊢;obtain⟨Iy,t3,g2⟩:=Rl;dsimp only at hp ud Dp ⊢;have Qz:Iy.size=c9.size:=by rw[←eR,hp.length_eq,eR]
   refine af (hg _ _ _ (af (Ct o1 rfl ?_ (yC (by rw[Qz];exact b1)))));have o2:=eE.store (es':=Iy) (t':=t3) o1 hx rfl;exact au (h _ (sb.trans (lB _ a _)) ⟨_,Iy,_,t3,o2,hx,rfl,fun e he=>gd e (hp.mem_iff.mp he),(hp.map gL).trans pm,nd,ln,ud,Dp.1.trans ld,fun _=>Dp.2 pl,fun z=>absurd (Qz.symm.trans z) ne⟩)
 . exact au (h _ sb ⟨_,c9,_,t2,o1,hx,rfl,gd,pm,nd,ln,hf,ld,fun _=>pl,fun z=>absurd z ne⟩)
theorem Iz{xs:Ls}{y:Str}{tk:Tok}{Q:Bool->Shared->Prop}(hS:cF w s.heap a xs)(hl:xs.length<1000)(h:∀b h',Heap.SameBut a s.heap h'->cF w h' a (ic xs y)->Q b { s with heap:=h' }) :
 wpAny (model prog w) A (setAddHashed a (.str y tk) (lG w (.inr y))) Q E s:=by
 obtain⟨o,es,ep,t,ho,x⟩:=hS;have el:ElemsOf (cj prog w) es.toList:=x.elems;unfold setAddHashed setAddHashedIn;refine jA (af (g0 ho x.dat x.fit ?_));dsimp only;rw[byScan_of (x:=.str y tk) rfl x.bnd el];simp only[↓reduceIte];unfold setAddByScan;refine af (af (og (af (wpAny_setScan_of (knd:=cj prog w) (k:=.inr y) (tu prog w y tk) ho x.dat x.fit el ?_))));cases hr:List.findIdx? (fun e=>(cj prog w).is (.inr y) e.2) es.toList with
 | some j=>
  dsimp only;refine au (au ?_);have hy:=x.find_some hr;exact h false s.heap (GW a s.heap) (by unfold ic;rw[aq hy];exact⟨o,es,ep,t,ho,x⟩)
 | none=>
  dsimp only;have hy:=x.find_none hr;have zv:=layNew_perm t es (lG w (.inr y)) (.str y tk);have Dq:=layNew_fits t es (lG w (.inr y)) (.str y tk);have Dr:=ai2 t es (lG w (.inr y)) (.str y tk);have e0:(cj prog w).hash (.inr y)=lG w (.inr y):=rfl
  try rw[e0]
  generalize hL:layNew t es (lG w (.inr y)) (.str y tk)=L at zv Dq Dr ⊢;obtain⟨c9,t1,wd,aCW⟩:=L;dsimp only at zv Dq Dr ⊢;rw[Array.toList_push]at zv;have gd:∀e∈c9.toList,mS w e:=fun e he=>by
   rcases bK.mp (zv.mem_iff.mp he) with z | z
   . exact x.good e z
   . exact⟨y,tk,bj.mp z⟩
  have ea:ic xs y=xs++[y]:=by unfold ic;rw[ai hy]
  have pm:(c9.toList.map gL).Perm (ic xs y):=by
   rw[ea];refine(zv.map gL).trans ?_;rw[cQ];exact x.perm.append_right _
  have ne:c9.size≠0:=fun z=>by
   have:=pm.length_eq;rw[ea,am,eR,z,bh]at this;simp at this
  have ln:(ic xs y).length<=1000:=by have:=Do xs y;omega
  have hgw:∀(b:Bool) {s₁:Shared}{Q':Unit->Shared->Prop},Q' () s₁->wpAny (model prog w) A (match b with | true=>rule "set.scan.the-table-gave-way" | false=>pure ()) Q' E s₁:=fun b s₁ Q' hq=>by
   cases b
   . exact au hq
   . exact og hq
  refine af (hgw _ ?_);have fin:∀h',Heap.SameBut a s.heap h'->cF w h' a (ic xs y)->wpAny (model prog w) A (pure true:Sem Bool) Q E { s with heap:=h' }:=fun h' k z=>au (h true h' k z);split
  . refine af ?_;rw[hashByValue_scannable (x:=.str y tk) 8 rfl];refine au ?_;refine Qy ?_ ho x.ex x.dat gd pm (Qx x.nd) ln ?_ ?_ ?_ ne (fun h' k z=>fin h' k z)
    . intro b s₁ Q' hq;cases b
      . exact au hq
      . exact og hq
    . exact SetTable.fits_plain_off Dq
    . exact Dr.trans x.led
    . rfl
  . rename_i hp1;refine af (au ?_);simp only[↓reduceIte];refine Qy ?_ ho x.ex x.dat gd pm (Qx x.nd) ln Dq (Dr.trans x.led) (by simpa using hp1) ne (fun h' k z=>fin h' k z);intro b s₁ Q' hq;cases b
    . exact au hq
    . exact og hq
end
theorem IA{α:Type}:∀{l:List α}{i:Nat} (h:i<l.length),(l[i]::l.eraseIdx i).Perm l
 | [],i,h=>absurd h (N1 _)
 | x::r,0,h=>.refl _
 | x::r,i+1,h=>by
  have h':i<r.length:=by simpa using h
  show(r[i]::x::r.eraseIdx i).Perm _;exact(List.Perm.swap ..).trans ((IA (l:=r) (i:=i) h').cons x)
theorem QA{α:Type}(next:Nat->Nat):∀(f k:Nat) (left:List α) (out:Array α),f=left.length->(pickOrder.go next f k left out).toList.Perm (out.toList++left)
 | 0,k,left,out,h=>by
  rw[Cq.mp h.symm];simp[pickOrder.go]
 | f+1,k,left,out,h=>by
  have hp:next k % left.length<left.length:=GV _ (by omega);unfold pickOrder.go;rw[ir hp];dsimp only;refine(QA next f (k+1) _ _ (by rw[aCu hp];omega)).trans ?_;rw[Array.toList_push,jB];exact List.Perm.append_left _ (IA hp)
theorem QB{α:Type}(next:Nat->Nat)(xs:Array α):(pickOrder next xs).toList.Perm xs.toList:=by
 have:=QA next xs.size 0 xs.toList #[] (by simp);simpa [pickOrder]using this
section
variable {prog:Program}{w:World}{A:Around}{E:VP}{s:Shared}{a:Addr}
theorem ai7{n:Nat}(hn:n≠0){Q:Nat->Shared->Prop}(h:∀i d,i<n->Q i { s with drawn:=d }):wpAny (model prog w) A (choose .order n) Q E s:=fun Γ p hΓ=>by
 unfold choose;rw[Sem.wp_choose];refine⟨hn,?_⟩;simp only[Sem.wp_pure];exact h _ _ (GV _ (Nat.pos_of_ne_zero hn))
theorem QC{α:Type}:∀(n:Nat) (l:List α) (s:Shared) (Q:List α->Shared->Prop),n=l.length->(∀out d,out.Perm l->Q out { s with drawn:=d })->wpAny (model prog w) A (drawOrder n l) Q E s
 | 0,l,s,Q,hn,h=>by
  have hl:=Cq.mp hn.symm;subst hl;exact au (h [] s.drawn .nil)
 | n+1,l,s,Q,hn,h=>by
  cases l with
  | nil=>cases hn
  | cons x r=>
   show wpAny _ _ (choose .order (x::r).length >>= _) _ _ _;refine af (ai7 (by simp) fun i d hi=>?_);rw[ir hi];dsimp only;refine af (QC n ((x::r).eraseIdx i) _ _ (by rw[aCu hi];simp at hn ⊢;omega) fun out d2 hp=>au ?_);exact h _ d2 ((hp.cons _).trans (IA hi))
end
def ie(h:Heap)(it a:Addr)(ep n:Nat)(f:Value)(i:Nat):Prop:=∃o,h.get? it=some o/\o.cls=.type "set_iterator"/\o.data=.fields #[f,rawInt i,.ref a,rawInt n,rawInt ep]
theorem ie.at'{h h':Heap}{it a:Addr}{ep n i:Nat}{f:Value}(x:ie h it a ep n f i)(k:∀o,h.get? it=some o->h'.get? it=some o):ie h' it a ep n f i:=x.elim fun o ai8=>ai8.elim fun e r=>⟨o,k _ e,r⟩
theorem ie.typeIs{s:Shared}{it a:Addr}{ep n i:Nat}{f:Value}(x:ie s.heap it a ep n f i):s.TypeIs (.ref it) "set_iterator":=x.elim fun o ai9=>ai9.elim fun e aja=>aja.elim fun r _=>⟨o,e,r⟩
inductive Md (w:World) (h:Heap) (I a T:Addr) (es:Array (Int×Value)) (ep:Nat) (t:SetTable) (os:List (Int×Value)) (i:Nat):Prop
 | text (b:eX w=true) (e:os=(pickOrder (w.params.setOrder a ep) es).toList) (x:ie h I a ep es.size (rawInt 0) i)
 | draw (pl:List Nat) (b:eX w=false) (e:os.length=pl.length/\∀(k j:Nat),pl[k]?=some j->os[k]?=es[j]?) (x:ie h I a ep es.size (.ref T) i) (y:∃o n,h.get? T=some o/\o.data=.seq (pl.map fun j=>rawInt (j:Nat)).toArray n) (z:I≠T)
 | tab (sl:Nat) (b:eX w=false) (l:es.size<=1) (e:os=es.toList) (x:ie h I a ep es.size (rawInt sl) i) (y:SetTable.below t.place sl=i)
def wy(w:World)(I a T:Addr)(os:List (Int×Value))(i:Nat)(h:Heap):Prop:=∃o es ep t xs,h.get? a=some o/\eE w o es ep t xs/\os.Perm es.toList/\I≠a/\Md w h I a T es ep t os i
section
variable {prog:Program}{w:World}{A:Around}{E:VP}{s:Shared}{a it:Addr}
theorem IB{ep n i:Nat}{f v:Value}{Q:Unit->Shared->Prop}(x:ie s.heap it a ep n f i)(q:∀h',Heap.SameBut it s.heap h'->ie h' it a ep n v i->Q () { s with heap:=h' }):wpAny (model prog w) A (setField (.ref it) 0 v) Q E s:=by
 obtain⟨o,ho,hc,hd⟩:=x;exact Wh ho hd (by simp) (q _ (lB ..) ⟨_,Cp _ ho (aCv (N6 hd _)),(Obj.cls_mapFields ..).trans hc,by rw[N6 hd];simp⟩)
theorem IC{ep n i:Nat}{f:Value}{Q:Unit->Shared->Prop}(x:ie s.heap it a ep n f i)(q:∀h',Heap.SameBut it s.heap h'->ie h' it a ep n f (i+1)->Q () { s with heap:=h' }):wpAny (model prog w) A (setField (.ref it) 1 (rawInt ((i:Int)+1))) Q E s:=by
 obtain⟨o,ho,hc,hd⟩:=x;exact Wh ho hd (by simp) (q _ (lB ..) ⟨_,Cp _ ho (aCv (N6 hd _)),(Obj.cls_mapFields ..).trans hc,by rw[N6 hd];simp[rawInt]⟩)
theorem ID{ep n i:Nat}{f:Value}{R:PySem.Fin->Shared->Prop}{E':VP}(hh:A.handled=none)(x:ie s.heap it a ep n f i)
 (q:∀h' e,Heap.ExtBut it s.heap h'->Shared.TypeIs { s with heap:=h' } e "StopIteration"->E' e { s with heap:=h' }):wpAny (model prog w) A.in1 (do { setField (.ref it) 2 .none;raiseNew (←newExc (.type "StopIteration") []) }) R E' s:=by
 obtain⟨o,ho,hc,hd⟩:=x;refine af (Wh ho hd (by simp) ?_);show wpAny _ _ (newExc (.type "StopIteration") [] >>= _) _ _ _;refine af ?_;simp only[newExc,newTuple];refine af (Ck ?_ (by size_fits));refine af (m:=firstArgMember _ _) (wpAny_of_eq (a:=Value.none) (by first | rfl | (simp only[firstArgMember];rfl)) ?_);refine Ck ?_ (by size_fits);simp only[raiseNew];refine af (wpAny_handled ?_);rw[show A.in1.handled=none from hh];refine af (au (wpAny_throw ?_));refine q _ _ (((lB ..).extBut.push _).push _) ?_;exact⟨_,dW _ rfl,rfl⟩
theorem QD(j:Nat):SetTable.below #[j] 0=0/\SetTable.below #[j] (j+1)=1:=by
 constructor
 . simp[SetTable.below,SetTable.below.go]
 . simp[SetTable.below,SetTable.below.go]
theorem QE{o:Obj}{es:Array (Int×Value)}{ep:Nat}{t:SetTable}{i:Nat}{Q:Option (Value×Nat)->Shared->Prop}(b:eX w=true)(ho:s.heap.get? a=some o)(hd:o.data=.set es ep t)(hf:t.fits es.size=true)
 (q:Q (((pickOrder (w.params.setOrder a ep) es)[i]?).map fun e=>(e.2,0)) s):wpAny (model prog w) A (setNext a 0 i ep) Q E s:=by
 have hb:w.params.followText "set-order"=true:=b;unfold setNext;refine af (g0 ho hd hf ?_);refine af (m:=setsByText) (af (qG (au ?_)));show wpAny _ _ (if w.params.followText "set-order"=true then _ else _) _ _ s;rw[aq hb,ai (show ¬((ep != ep)=true) by simp)];refine af ?_;unfold setWalk;refine af (g0 ho hd hf ?_);refine af (m:=setsByText) (af (qG (au ?_)));show wpAny _ _ (if w.params.followText "set-order"=true then _ else _) _ _ s;rw[aq hb];exact af (qG (au (au q)))
theorem QF{o:Obj}{es:Array (Int×Value)}{ep:Nat}{t:SetTable}{sl i:Nat}{Q:Option (Value×Nat)->Shared->Prop}(b:eX w=false)(ho:s.heap.get? a=some o)(hd:o.data=.set es ep t)(hf:t.fits es.size=true)(hl:t.led = !eX w)(l:es.size<=1)
 (q:Q (match es[SetTable.below t.place sl]?,t.place[SetTable.below t.place sl]? with | some (_,x),some j=>some (x,j+1) | _,_=>none) s):wpAny (model prog w) A (setNext a sl i ep) Q E s:=by
 have hb:w.params.followText "set-order"=false:=b;unfold setNext;refine af (g0 ho hd hf ?_);refine af (m:=setsByText) (af (qG (au ?_)));show wpAny _ _ (if w.params.followText "set-order"=true then _ else _) _ _ s;rw[ai (by rw[hb];exact cK)];show wpAny _ _ (if (!t.plain && decide (es.size > 1))=true then _ else _) _ _ s;rw[ai (by rw[cH (by omega),vL];exact cK)];show wpAny _ _ ((if (!t.led && !es.isEmpty)=true then _ else _) >>= _) _ _ s;rw[ai (by rw[hl,b];exact cK)];exact af (au (au q))
theorem wz{ep n i:Nat}{f:Value}{o:Obj}{es:Array (Int×Value)}{t:SetTable}{Q:Option Value->Shared->Prop}(x:ie s.heap it a ep es.size f i)(ho:s.heap.get? a=some o)(hd:o.data=.set es ep t)(hf:t.fits es.size=true)
 {E1:VP}
 (q:wpAny (model prog w) A.in1 (if let .int slot _:=f then
  (do
   match ←setNext a slot.toNat i ep with
   | some (x,next)=>setField (.ref it) 0 (rawInt next);setField (.ref it) 1 (rawInt ((i:Int)+1));ret x
   | none=>setField (.ref it) 2 .none;raiseNew (←newExc (.type "StopIteration") []))
  else(do
   let some places ←seqItems? f | unsupported "internal:set_iterator"
   match places[i]? with
   | some (.int place _)=>let x ←setNextDrawn a place.toNat ep;setField (.ref it) 1 (rawInt ((i:Int)+1));ret x
   | some _=>unsupported "internal:set_iterator"
   | none=>setField (.ref it) 0 (rawInt 0);setField (.ref it) 2 .none;raiseNew (←newExc (.type "StopIteration") [])))
  (fun fin s'=>∃v,fin=.done (.ret v)/\Q (some v) s') (fun e s'=>Shared.TypeIs s' e "StopIteration"/\Q none s') s) :
 wpAny (model prog w) A (pyNext (.ref it)) Q E s:=by
 obtain⟨oi,hoi,hc,hdi⟩:=id x;unfold pyNext;refine af (wpAny_attempt (wpAny_callSpecial?_slot (name:=Str.ofString "__next__") x.typeIs Dj (sT Dj x.typeIs ahP ?_ (ahS _))));unfold Builtin.«set_iterator.__next__»;refine af (au ?_);refine af (wpAny_fieldsOf hoi hdi ?_);show wpAny _ _ (setEntries a >>= _) _ _ s;unfold setEntries;refine af (af (g0 ho hd hf (au ?_)));dsimp only;rw[ai (by simp)];refine eg q (fun fin s' z=>?_) (fun e s' z=>?_)
 . obtain⟨v,rfl,z⟩:=z;exact⟨v,rfl,au z⟩
 . exact af (oh (T:="StopIteration") (b:=true) z.1 isSubtype_stop (au z.2))
end
section
variable {prog:Program}{w:World}{A:Around}{E:VP}{s:Shared}{a I T:Addr}
theorem Md.keep{h h':Heap}{es:Array (Int×Value)}{ep:Nat}{t:SetTable}{os:List (Int×Value)}{i:Nat}(x:Md w h I a T es ep t os i)(k:∀b,b=I\/b=T->∀o,h.get? b=some o->h'.get? b=some o):Md w h' I a T es ep t os i:=by
 cases x with
 | text b e x=>exact .text b e (x.at' (k I (.inl rfl)))
 | draw pl b e x y z=>
  obtain⟨o,n,e1,e2⟩:=y;exact .draw pl b e (x.at' (k I (.inl rfl))) ⟨o,n,k T (.inr rfl) o e1,e2⟩ z
 | tab sl b l e x y=>exact .tab sl b l e (x.at' (k I (.inl rfl))) y
theorem ajd{os:List (Int×Value)}{i:Nat}{e:Int×Value}{Q:Option Value->Shared->Prop}(x:wy w I a T os i s.heap)(hi:os[i]?=some e)(q:∀h',Heap.SameBut I s.heap h'->wy w I a T os (i+1) h'->Q (some e.2) { s with heap:=h' }) :
 wpAny (model prog w) A (pyNext (.ref I)) Q E s:=by
 obtain⟨o,es,ep,t,xs,ho,X,pm,wA,m⟩:=x;have done:∀h',Heap.SameBut I s.heap h'->Md w h' I a T es ep t os (i+1)->Q (some e.2) { s with heap:=h' }:=fun h' k m'=>q h' k ⟨o,es,ep,t,xs,by rw[k.2 a (fun z=>wA z.symm)];exact ho,X,pm,wA,m'⟩;cases m with
 | text b eo x=>
  have wB:(pickOrder (w.params.setOrder a ep) es)[i]?=some e:=by rw[eo,vO]at hi;exact hi
  refine wz (E1:=E) (n:=0) x ho X.dat X.fit ?_;show wpAny _ _ (setNext a 0 i ep >>= _) _ _ _;refine af (QE b ho X.dat X.fit ?_);rw[wB];refine af (IB x fun h1 k1 x1=>af (IC (s:={ s with heap:=h1 }) x1 fun h2 k2 x2=>au ⟨_,rfl,done h2 (k1.trans k2) (.text b eo x2)⟩))
 | draw pl b eo x y z=>
  obtain⟨oT,nT,hT,Dt⟩:=y;have aN:i<pl.length:=by
   rw[←eo.1];exact(ci.mp hi).1
  have eI:pl[i]?=some pl[i]:=ir aN;have he:es[pl[i]]?=some e:=(eo.2 i _ eI).symm.trans hi;refine wz (E1:=E) (n:=0) x ho X.dat X.fit ?_;show wpAny _ _ (seqItems? (.ref T) >>= _) _ _ _;refine af (ym hT Dt ?_);have IE:(pl.map fun j=>rawInt (j:Nat)).toArray[i]?=some (rawInt (pl[i]:Nat)):=by simp[aN]
  dsimp only;rw[IE];show wpAny _ _ (setNextDrawn a pl[i] ep >>= _) _ _ _;refine af ?_;unfold setNextDrawn;refine af (g0 ho X.dat X.fit ?_);dsimp only;rw[ai (show ¬((ep != ep)=true) by simp),he];refine au ?_;refine af (IC x fun h2 k2 x2=>au ⟨_,rfl,done h2 k2 (.draw pl b eo x2 ⟨oT,nT,by rw[k2.2 T (fun q=>z q.symm)];exact hT,Dt⟩ z)⟩)
 | tab sl b l eo x y=>
  have hz:es.size=1/\i=0:=by
   rw[eo]at hi;have:=(ci.mp hi).1;rw[eR]at this;omega
  have IF:es[i]?=some e:=by rw[eo,vO]at hi;exact hi
  have bp:t.place.size=1:=by
   have:=X.fit;unfold SetTable.fits at this;simp only[gB,kf]at this;omega
  obtain⟨j,hj⟩:∃j,t.place = #[j]:=by
   rcases hp:t.place with⟨l⟩
   rw[hp]at bp
   match l,bp with
   | [j],_=>exact⟨j,rfl⟩
  refine wz (E1:=E) (n:=0) x ho X.dat X.fit ?_;show wpAny _ _ (setNext a sl i ep >>= _) _ _ _;refine af (QF b ho X.dat X.fit X.led l ?_);have IG:t.place[i]?=some j:=by rw[hj,hz.2];rfl
  rw[y,IF,IG];refine af (IB x fun h1 k1 x1=>af (IC (s:={ s with heap:=h1 }) x1 fun h2 k2 x2=>au ⟨_,rfl,done h2 (k1.trans k2) (.tab (j+1) b l eo x2 (by rw[hj,(QD j).2,hz.2]))⟩))
theorem aje{os:List (Int×Value)}{Q:Option Value->Shared->Prop}(hh:A.handled=none)(x:wy w I a T os os.length s.heap)(q:∀h',Heap.ExtBut I s.heap h'->Q none { s with heap:=h' }):wpAny (model prog w) A (pyNext (.ref I)) Q E s:=by
 obtain⟨o,es,ep,t,xs,ho,X,pm,wA,m⟩:=x;have hn:os.length=es.size:=by rw[pm.length_eq,eR]
 have hq:∀h' e,Heap.ExtBut I s.heap h'->Shared.TypeIs { s with heap:=h' } e "StopIteration"->Shared.TypeIs { s with heap:=h' } e "StopIteration"/\Q none { s with heap:=h' }:=fun h' e k z=>⟨z,q h' k⟩;cases m with
 | text b eo x=>
  refine wz (E1:=E) (n:=0) x ho X.dat X.fit ?_;show wpAny _ _ (setNext a 0 os.length ep >>= _) _ _ _;refine af (QE b ho X.dat X.fit ?_);have wB:(pickOrder (w.params.setOrder a ep) es)[os.length]?=none:=by
   have:(pickOrder (w.params.setOrder a ep) es).toList[os.length]?=none:=by rw[←eo];simp
   rwa [vO]at this
  rw[wB];exact ID hh x hq
 | draw pl b eo x y z=>
  obtain⟨oT,nT,hT,Dt⟩:=y;refine wz (E1:=E) (n:=0) x ho X.dat X.fit ?_;show wpAny _ _ (seqItems? (.ref T) >>= _) _ _ _;refine af (ym hT Dt ?_);have IE:(pl.map fun j=>rawInt (j:Nat)).toArray[os.length]?=none:=by simp[eo.1]
  dsimp only;rw[IE];refine af (IB x fun h1 k1 x1=>?_);refine ID (s:={ s with heap:=h1 }) hh x1 fun h' e k z=>hq h' e (k1.extBut.trans k) z
 | tab sl b l eo x y=>
  refine wz (E1:=E) (n:=0) x ho X.dat X.fit ?_;show wpAny _ _ (setNext a sl os.length ep >>= _) _ _ _;refine af (QF b ho X.dat X.fit X.led l ?_);have IF:es[os.length]?=none:=by rw[hn];simp
  rw[y,IF];exact ID hh x hq
theorem ajf(hh:A.handled=none)(I a T:Addr)(os:List (Int×Value)):Walks prog w A I [I,a,T] [I] os.length (fun i v=>∃e,os[i]?=some e/\v=e.2) (fun i h=>wy w I a T os i h) where
 sub:=fun b hb=>by simp at hb;simp[hb]
 frame:=fun i h h' st hk=>by
  obtain⟨o,es,ep,t,xs,ho,X,pm,wA,m⟩:=st;exact⟨o,es,ep,t,xs,hk a (by simp) o ho,X,pm,wA,m.keep fun b hb o e=>hk b (by rcases hb with rfl | rfl<;>simp) o e⟩
 item:=fun i s Q E hi st hQ=>by
  refine ajd st (ir hi) fun h' k f9=>?_;exact hQ _ h' s.toks ⟨_,ir hi,rfl⟩ f9 fun b o hb e=>k.extBut b o (fun h=>hb (by simp[h])) e
 done:=fun s Q E st hQ=>aje hh st fun h' lU=>hQ h' s.toks fun b o hb e=>lU b o (fun h=>hb (by simp[h])) e
 self:=fun i s Q E st hQ=>by
  obtain⟨o,es,ep,t,xs,ho,X,pm,wA,m⟩:=st;have hT:s.TypeIs (.ref I) "set_iterator":=by
   cases m with
   | text b e x=>exact x.typeIs
   | draw pl b e x y z=>exact x.typeIs
   | tab sl b l e x y=>exact x.typeIs
  refine Wa hT P8 (sT P8 hT ahQ ?_ (ahT _));show wpAny _ _ (ret (.ref I)) _ _ s;exact au ⟨_,rfl,"set_iterator",_,hT,Dj.lookup,hQ⟩
theorem QG{es:Array (Int×Value)}:∀{pl:List Nat},(∀j∈pl,j<es.size)->(pl.filterMap (es[·]?)).length=pl.length/\∀(k j:Nat),pl[k]?=some j->(pl.filterMap (es[·]?))[k]?=es[j]?
 | [],_=>⟨rfl,fun k j h=>by cases h⟩
 | p::r,h=>by
  have bp:p<es.size:=h p (by simp);have hp:es[p]?=some es[p]:=qF bp;obtain⟨h1,h2⟩:=QG (pl:=r) fun j hj=>h j (bJ _ hj);rw[List.filterMap_cons_some hp];refine⟨by simp[h1],fun k j hk=>?_⟩;cases k with
  | zero=>cases hk;exact hp.symm
  | succ k=>exact h2 k j hk
theorem ajg{xs:Ls}{Q:VP}(x:cF w s.heap a xs)(hQ:∀I T d h' os,s.heap.objs.size<=I->(∀b o,s.heap.get? b=some o->h'.get? b=some o)->(T=a\/s.heap.objs.size<=T)->wy w I a T os 0 h'->(os.map gL).Perm xs->(∀e∈os,mS w e)->Q (.ref I) { s with heap:=h',drawn:=d }) :
 wpAny (model prog w) A (pyIter (.ref a)) Q E s:=by
 obtain⟨o,es,ep,t,ho,X⟩:=id x;have aN:=bv ho;refine Wa x.typeIs aCw (sT aCw x.typeIs ahR ?_ (PySem.F.args_set_iter_1 _));unfold Builtin.«frozenset.__iter__»;refine af (m:=Builtin.Frozenset.slot0 _ _) (au ?_);refine af ?_;unfold Builtin.Frozenset.sizeOf setEntries;refine af (af (g0 ho X.dat X.fit (au (au ?_))));refine af ?_;unfold setDrawn;refine af (g0 ho X.dat X.fit ?_);refine af (m:=setsByText) (af (qG (au ?_)));show wpAny _ _ (pure (!eX w && (!t.plain && decide (es.size > 1)))) _ _ _;refine au ?_;have fin:∀(f:Value) (d:_) (h1:Heap),(∀b o,s.heap.get? b=some o->h1.get? b=some o)->s.heap.objs.size<=h1.objs.size ->
  (∀h',(∀b o,h1.get? b=some o->h'.get? b=some o)->ie h' h1.objs.size a ep es.size f 0->h1.objs.size<h'.objs.size->∃T os,(T=a\/s.heap.objs.size<=T)/\os.Perm es.toList/\Md w h' h1.objs.size a T es ep t os 0) ->
  wpAny (model prog w) A.in1 (setEpoch a >>= fun e=>newFields "set_iterator" [f,rawInt 0,.ref a,rawInt es.size,rawInt e] >>= fun v=>ret v) (fun fin s'=>∃v,fin=.done (.ret v)/\∃T r,s'.TypeIs v T/\typeLookup (.type T) "__next__"=pure (some r)/\Q v s') E { s with heap:=h1,drawn:=d }:=by
  intro f d h1 k1 hz hm;refine af ?_;unfold setEpoch;refine af (g0 (s:={ s with heap:=h1,drawn:=d }) (k1 a o ho) X.dat X.fit (au ?_));refine af (Ck ?_);have ht:ie (h1.push { cls:=.type "set_iterator",data:=.fields #[f,rawInt 0,.ref a,rawInt es.size,rawInt ep] }) h1.objs.size a ep es.size f 0:=⟨_,dW _ rfl,rfl,rfl⟩;obtain⟨T,os,hT,pm,m⟩:=hm _ (fun b o e=>bR _ e) ht (by rw[sU];exact yq _);refine au ⟨_,rfl,"set_iterator",_,ht.typeIs (s:={ s with heap:=_,drawn:=d }),Dj.lookup,?_⟩;refine hQ h1.objs.size T d _ os hz (fun b o e=>bR _ (k1 b o e)) hT ⟨o,es,ep,t,xs,bR _ (k1 a o ho),X,pm,ke (fX aN hz),m⟩ ((pm.map gL).trans X.perm) fun e he=>X.good e (pm.mem_iff.mp he)
 cases hb:(!eX w && (!t.plain && decide (es.size > 1))) with
 | false=>
  rw[ai cK];refine af (m:=pure (rawInt 0)) (au ?_);refine fin (rawInt 0) s.drawn s.heap (fun b o e=>e) (aJ _) fun h' k ht hl=>?_;cases hw:eX w with
  | true=>exact⟨a,_,.inl rfl,QB _ _,.text hw rfl ht⟩
  | false=>
   have hs:es.size<=1:=by
    refine Nat.le_of_not_lt fun z=>?_;rw[hw,X.pl (by omega),bG (by omega:es.size > 1)]at hb;cases hb
   refine⟨a,_,.inl rfl,.refl _,.tab 0 hw hs rfl ht ?_⟩;have bp:t.place.size=es.size:=by
    have:=X.fit;unfold SetTable.fits at this;simp only[gB,kf]at this;exact this.1
   rcases hp:t.place with⟨l⟩
   rw[hp]at bp
   match l,bp with
   | [],_=>rfl
   | [j],_=>exact(QD j).1
   | _::_::_,z=>simp at z;omega
 | true=>
  have hw:eX w=false:=by cases hw:eX w with | false=>rfl | true=>rw[hw]at hb;cases hb
  rw[aq rfl];refine af (QC es.size (List.range es.size) s _ (by simp) fun pl d hp=>?_);have hsz:es.size<=sizeLine:=yC X.bnd;refine af (wpAny_newTuple ?_ (by rw[am,hp.length_eq,N2];exact hsz));have eI:∀j∈pl,j<es.size:=fun j hj=>B8.mp (hp.mem_iff.mp hj);obtain⟨g1,g2⟩:=QG eI;refine fin (.ref s.heap.objs.size) d (s.heap.push { cls:=.type "tuple",data:=.seq (pl.map fun(i:Nat)=>rawInt i).toArray }) (fun b o e=>bR _ e) (by rw[sU];exact sV _) fun h' k ht hl=>?_;refine⟨s.heap.objs.size,pl.filterMap (es[·]?),.inr (aJ _),?_,.draw pl hw ⟨g1,g2⟩ ht ⟨_,0,k _ _ (dW _ rfl),rfl⟩ (ke (by rw[sU];exact yq _))⟩;exact(hp.filterMap _).trans (by rw[aCx])
end
theorem IH{w:World}:∀{os:List (Int×Value)},(∀e∈os,mS w e)->StrsAre (os.map (·.2)) (os.map gL)
 | [],_=>.nil
 | e::r,h=>by
  obtain⟨y,tk,rfl⟩:=h e (by simp);exact .cons y tk (IH fun e he=>h e (bJ _ he))
section
variable {prog:Program}{w:World}{A:Around}{E:VP}{s:Shared}{a:Addr}
theorem ajh{xs:Ls}{R:Result->Shared->Prop}(hh:A.handled=none)(x:cF w s.heap a xs)(S:Addr)(II:S≠a)(res:Value)(c₀:Nat)(hS:s.heap.get? S=some { cls:=.type "list",data:=.seq #[] c₀ })
 (hR:∀(h':Heap) (tk:Nat) (d:Drawn) (os:List (Int×Value)) (acc:Av) (c':Nat),(∀b o,b≠S->s.heap.get? b=some o->h'.get? b=some o)->h'.get? S=some { cls:=.type "list",dict:=none,data:=.seq acc c',slots:=#[] }->acc.toList=os.map (·.2)->(os.map gL).Perm xs->(∀e∈os,mS w e)->R (.ok (.ret res)) { s with heap:=h',toks:=tk,drawn:=d }) (hn:xs.length<=sizeLine) :
 wpAny (model prog w) A.in1 (Builtin.List.listExtendWith (.ref S) (.ref a) res) (fun fin s'=>match fin with | .done f=>R (.ok f) s' | .again c'=>c'.quiet=true/\codeAny (model prog w) A c' R s') (fun e s'=>R (.error e) s') s:=by
 unfold Builtin.List.listExtendWith;refine af (NY (T:="set") x.typeIs ?_);have h1:Builtin.List.listSameRef (.ref S) (.ref a)=false:=by simp[Builtin.List.listSameRef,II]
 have h2:(Value.type "set" == Value.type "list")=false:=by decide
 have h3:(Value.type "set" == Value.type "tuple")=false:=by decide
 simp only[h1,h2,h3,sW,qB,mw];refine af (ajg x fun I T d hp os hI kp hT st pm gd=>?_);have zw:=bv hS;have ln:os.length=xs.length:=by have:=pm.length_eq;rwa [am]at this
 have hST:S≠T:=fun z=>hT.elim (fun q=>II (z.trans q)) fun q=>absurd (fX (z▸zw) q) (oj _);have zx:S∉[I,a,T]:=by
  simp only[aX,fe,ff,lC];exact⟨cV (fX zw hI),II,hST⟩
 have W:=ajf (prog:=prog) (w:=w) (A:=A.in1) hh I a T os;have key:∀(h:Heap) (c₁ tk:Nat),wy w I a T os 0 h->(∀b o,b≠S->s.heap.get? b=some o->h.get? b=some o)->h.get? S=some { cls:=.type "list",data:=.seq #[] c₁ } ->
  codeAny (model prog w) A (.builtin "list.extend.loop" ⟨[.ref S,.ref I,res],[]⟩) R { s with heap:=h,toks:=tk,drawn:=d }:=by
  intro h c₁ tk fg hk zy;refine codeAny_extend_loopS W.toS (by omega) S zx res os.length 0 _ #[] c₁ rfl (dw _) fg zy (ItemsOf.nil _) fun s' QH c' hm hZ uc=>?_;rw[Moved.eq_with hm];refine hR s'.heap s'.toks d os QH c' (fun b o hb e=>hm.heap b o (fun ue=>?_) (hk b o hb e)) hZ ?_ pm gd
  . rcases aX.mp ue with e' | ue
    . exact hb e'
    . have aN:=bv e;rw[bj.mp ue]at aN;exact absurd (fX aN hI) (oj _)
  . refine List.ext_getElem? fun j=>?_;rw[vO,db]
    by_cases hj:j<os.length
    . have QI:j<QH.size:=by rw[uc.1];exact hj
      obtain⟨e,he,hv⟩:=uc.2 j _ (qF QI);rw[he,qF QI,hv];rfl
    . rw[Wg (by rw[uc.1];omega),aCt (by omega)];rfl
 have zy:=kp _ _ hS;refine af (jA (ahV (cF.typeIs (s:={ s with heap:=hp,drawn:=d }) (x.at' fun o e=>kp a o e)) ?_));refine We (fun _=>?_) (fun _=>au ⟨sZ aCy _,key _ c₀ _ st (fun b o _ e=>kp b o e) zy⟩);refine af (og (af ?_));show wpAny _ _ (updateSeq S (·.push .none) >>= fun _=>updateSeq S (·.pop)) _ _ _;refine af (GX (s:={ s with heap:=hp,drawn:=d }) zy rfl ?_);have QJ:=Cp (Obj.mapSeq (·.push Value.none)) zy rfl;refine GX (hz:=by seq_fits) QJ rfl ?_;have hS₃:=Cp (Obj.mapSeq (·.pop)) QJ rfl;refine au ⟨sZ aCy _,key _ _ _ (W.frame 0 _ _ st fun b hb o e=>?_) (fun b o hb e=>?_) hS₃⟩
 . have QK:b≠S:=fun h=>zx (h▸hb);exact(GQ _ _ (fY QK)).trans ((GQ _ _ (fY QK)).trans e)
 . exact(GQ _ _ (fY hb)).trans ((GQ _ _ (fY hb)).trans (kp b o e))
theorem ajk{xs:Ls}{R:Lw->Shared->Prop}(hh:A.handled=none)(x:cF w s.heap a xs)
 (h:∀(h':Heap) (tk:Nat) (d:Drawn) (us:Lw) (ys:Ls),(∀b o,s.heap.get? b=some o->h'.get? b=some o)->StrsAre us ys->ys.Perm xs->R us { s with heap:=h',toks:=tk,drawn:=d }) (hn:xs.length<=sizeLine):wpAny (model prog w) A (collect (.ref a)) R E s:=by
 obtain⟨o,_,_,_,ho,_⟩:=id x;have aN:=bv ho;unfold collect;refine af (wpAny_runValue (tm PyProof.Rows.entry_proto_collect' ?_));rw[vP PySem.F.plain_proto_collect _];show wpAny _ A.in1 (newList [] >>= fun l=>again (.builtin "list.__iadd__" ⟨[l,.ref a],[]⟩)) _ _ s;refine af (Ck (au ⟨sZ aCz _,tm PyProof.Rows.entry_list_iadd' ?_⟩));rw[vP aCz _];show wpAny _ A.in1 (Builtin.List.listExtendWith (.ref s.heap.objs.size) (.ref a) (.ref s.heap.objs.size)) _ _ _;have key:=ajh (prog:=prog) (A:=A) (s:={ s with heap:=s.heap.push { cls:=.type "list",data:=.seq ([]:Lw).toArray } })
  (R:=fun(q:Result) (s':Shared)=>∃(h':Heap) (tk:Nat) (d:Drawn) (os:List (Int×Value)) (acc:Av) (c':Nat),q=.ok (.ret (.ref s.heap.objs.size))/\s'={ s with heap:=h',toks:=tk,drawn:=d }/\(∀b o,s.heap.get? b=some o->h'.get? b=some o) /\
   h'.get? s.heap.objs.size=some { cls:=.type "list",dict:=none,data:=.seq acc c',slots:=#[] }/\acc.toList=os.map (·.2)/\(os.map gL).Perm xs/\∀e∈os,mS w e)
  hh (x.at' fun o e=>bR _ e) s.heap.objs.size (ke aN) (.ref s.heap.objs.size) 0 (dW _ rfl)
  (fun h' tk d os acc c' hk hZ e1 e2 e3=>⟨h',tk,d,os,acc,c',rfl,rfl,fun b o e=>hk b o (cV (bv e)) (bR _ e),hZ,e1,e2,e3⟩) hn
 refine eg key (fun fin s' z=>?_) fun e s' z=>?_
 . cases fin with
   | done f=>
    obtain⟨h',tk,d,os,acc,c',e,rfl,hk,hZ,e1,e2,e3⟩:=z;cases e;show wpAny _ A (load s.heap.objs.size >>= _) _ _ _;refine af (wpAny_load (s:={ s with heap:=h',toks:=tk,drawn:=d }) hZ (au ?_));exact h h' tk d _ _ hk (by rw[e1];exact IH e3) e2
   | again c₁=>
    refine⟨z.1,oq z.2 fun q s₂ y=>?_⟩;obtain⟨h',tk,d,os,acc,c',rfl,rfl,hk,hZ,e1,e2,e3⟩:=y;show wpAny _ A (load s.heap.objs.size >>= _) _ _ _;refine af (wpAny_load (s:={ s with heap:=h',toks:=tk,drawn:=d }) hZ (au ?_));exact h h' tk d _ _ hk (by rw[e1];exact IH e3) e2
 . obtain⟨_,_,_,_,_,_,e',_⟩:=z;cases e'
theorem ajl{r:Addr}{Q:VP}(Ij:wpAny (model prog w) A.in1 (collect (.ref r)) (fun us s'=>∃(ys:Ls) (h':Heap) (tk:Nat) (d:Drawn),s'={ s with heap:=h',toks:=tk,drawn:=d }/\StrsAre us ys/\us.length<64 /\
 ∀(h2:Heap) (out:Lw) (bP:Ls) (e:Nat),(∀b o,h'.get? b=some o->h2.get? b=some o)->h2.get? h'.objs.size=some (seqObj "list" out.toArray e)->StrsAre out bP->bP.Perm ys->sortedS bP=true->Q (.ref h'.objs.size) { s with heap:=h2,toks:=tk,drawn:=d }) E s) :
 wpAny (model prog w) A (call (.builtin "sorted") [.ref r]) Q E s:=by
 refine aCo kind_sorted plain_sorted entry_sorted (args_sorted1 _) ?_;unfold Builtin.«sorted»;refine af (m:=checkCount "sorted" 1 1 _) (au ?_);refine af (eg Ij (fun us s' ajm=>ajm.elim fun ys ajn=>ajn.elim fun h' ajo=>ajo.elim fun tk ajp=>ajp.elim fun d ajq=>ajq.elim fun es ajr=>ajr.elim fun hS ajs=>ajs.elim fun tZ fin=>?_) fun _ _ e=>e);subst es;refine af (V6 ?_ (by rw[yp];omega));have oE:(h'.push (seqObj "list" us.toArray 0)).get? h'.objs.size=some (seqObj "list" us.toArray 0):=dW _ rfl;show wpAny _ _ _ _ _ { s with heap:=h'.push (seqObj "list" us.toArray 0),toks:=tk,drawn:=d };refine af (jA (sT slot_list_sort ⟨_,oE,rfl⟩ entry_list_sort (list_sort_treeK strKind_oneLt oE hS.keysOf (fun v₁ v₂ rest e=>keyKind_strs (by rw[←e];exact hS)) tZ fun f9 a1 a2=>⟨_,rfl,?_⟩) (args_list_sort _)));obtain⟨bP,h1,h2,h3⟩:=sorted_out_str hS a1 a2;obtain⟨e,he⟩:=sortedHeap_at (vs:=us) (out:=(arrOf f9).map (·.2)) oE;refine au ⟨_,rfl,fin _ ((arrOf f9).map (·.2)).toList bP e (fun b o q=>?_) (by rw[V7];exact he) h1 h2 h3⟩;have hb:=bv q;rw[sortedHeap_old (cV hb) (by rw[sU];exact V8 hb)];exact bR _ q
end
def mT(w:World)(a:Addr)(xs:Ls):HO:=.ext fun h=>cF w h a xs
theorem IJ{P:Program}{w:World}{H:Hp}{h:Heap}{a:Addr}{xs:Ls}(x:cF w h a xs):b8 P w H h a (mT w a xs):=
 ⟨x,x.elim fun o ajt=>ajt.elim fun _ aju=>aju.elim fun _ ajv=>ajv.elim fun _ ajw=>ajw.elim fun e _=>⟨o,e⟩,fun _ _ z k=>z.at' k⟩
theorem IK{P:Program}{w:World}{H:Hp}{h:Heap}{a:Addr}{xs:Ls}(ok:bY P w H h)(e:H a=some (mT w a xs)):cF w h a xs:=(show b8 P w H h a (mT w a xs) from ok a _ e).1
section
variable {X:Cx}{pins:Po}{σ:List (Option V)} {H:Hp}{s:Shared}
theorem Inv.drew{d:Drawn}(I:Inv X pins σ H s):Inv X pins σ H { s with drawn:=d }:=⟨I.ok,I.os,I.bare,I.base,I.loc,I.cell,I.free,I.freeC,I.pin,I.hok,I.len⟩
theorem QL(hc:X.calm=true):fv X (.builtin "sorted") (fun vs H Q=>∃p xs,vs=[.ref p]/\H p=some (mT X.w p xs)/\xs.length<64/\∀ys,ys.Perm xs->sortedS ys=true->dJ H (.lst (ys.map V.str)) Q):=by
 intro pins s σ H xs us Q I r h;obtain⟨p,zs,rfl,e,tZ,q⟩:=h;obtain⟨u,rfl,ru⟩:=vals1 r;cases ru;refine ajl (ajk (I.ok.hd hc) (IK I.hok e) (fun h' tk d us ys k hs hp=>?_) (kM (by omega)));have hl:=hp.length_eq;have y7:=V9 hs;have I':Inv X pins σ H { s with heap:=h',toks:=tk,drawn:=d }:=(I.kept (t':=tk) k).drew;refine⟨ys,h',tk,d,rfl,hs,by omega,fun h2 out bP e' k2 he hZ bS zj=>?_⟩;have hl3:=bS.length_eq;exact⟨.ref h'.objs.size,_,P4 (s:={ s with drawn:=d }) I' k2 he hZ (kM (by omega)),rfl,(q bP (bS.trans hp) zj).at _ (I'.hok.fresh (aJ _))⟩
end
theorem QM{es:Array (Int×Value)}{order:Array Nat}(hp:order.toList.Perm (List.range es.size)):(order.filterMap (es[·]?)).toList.Perm es.toList:=by
 rw[Array.toList_filterMap];exact(hp.filterMap _).trans (by rw[aCx])
theorem ajx{n:Nat}(h:n<=252):ph (SetTable.sizeAbove n - 1)/\n<=SetTable.sizeAbove n - 1/\SetTable.sizeAbove n<=256:=by
 have hd:(List.range 253).all (fun n=>decide ((SetTable.sizeAbove n - 1=7\/SetTable.sizeAbove n - 1=15\/SetTable.sizeAbove n - 1=31\/SetTable.sizeAbove n - 1=63\/SetTable.sizeAbove n - 1=127\/SetTable.sizeAbove n - 1=255)/\n<=SetTable.sizeAbove n - 1/\SetTable.sizeAbove n<=256))=true:=by decide +kernel
 unfold ph;exact cZ (iq.mp hd n (B8.mpr (by omega)))
section
variable {prog:Program}{w:World}{A:Around}{E:VP}{s:Shared}{a:Addr}
theorem IL:eE w { cls:=.type "set",dict:=none,data:=.set #[] 0 (.fresh 0 0 (!eX w)) } #[] 0 (.fresh 0 0 (!eX w)) []:=
 ⟨⟨rfl,rfl,rfl⟩,rfl,(fun e he=>by cases he),.nil,.nil,by decide,rfl,rfl,fun h=>absurd rfl h,fun _=>.inl rfl⟩
theorem ajy{o:Obj}{es:Array (Int×Value)}{ep:Nat}{t:SetTable}{xs:Ls}{n:Nat}{Q:Unit->Shared->Prop}(ho:s.heap.get? a=some o)(X:eE w o es ep t xs)(hn:n<=252)(hx:xs.length<=n)
 (q:∀h' o' es' t',Heap.SameBut a s.heap h'->h'.get? a=some o'->eE w o' es' (ep+1) t' xs->n<=t'.mask->Q () { s with heap:=h' }):wpAny (model prog w) A (setRelay a n) Q E s:=by
 obtain⟨m1,m2,m3⟩:=ajx hn;unfold setRelay;refine af (g0 ho X.dat X.fit ?_);dsimp only;have sl:¬(SetTable.sizeAbove n > sizeLine):=by rw[yp];omega
 rw[ai sl];have hz:=X.size;have hsz:(es.map (·.1)).size=es.size:=Array.size_map;obtain⟨t',order,e,hp,hf,hl,eI,hm⟩:=Qv (mask:=SetTable.sizeAbove n - 1) (f:=t.finger) (m:=t.movedTo (SetTable.sizeAbove n - 1)) (led:=t.led) (plain:=t.plain) (hs:=es.map (·.1)) m1 (by rw[hsz];omega);rw[hsz]at hp hf;have e':t.relaid (es.map (·.1)) n=some (t',order):=e;rw[e'];have pm:=QM hp;have z1:(order.filterMap (es[·]?)).size=es.size:=by rw[←eR,pm.length_eq,eR]
 refine af ?_;show wpAny _ _ (if ((order.filterMap (es[·]?)).size != es.size)=true then _ else _) _ _ _;rw[ai (by rw[z1];simp)];refine au ?_;dsimp only;refine Ct ho X.dat ?_ (by rw[z1];exact yC X.bnd);refine q _ _ _ t' (lB ..) (eE.store ho X.ex X.dat) ⟨X.ex,rfl,fun e he=>X.good e (pm.mem_iff.mp he),(pm.map gL).trans X.perm,X.nd,X.len,by rw[z1];exact hf,hl.trans X.led,fun z=>eI.trans (X.pl (by rw[←z1];exact z)),fun _=>by rw[hm];exact m1⟩ (by rw[hm];exact m2)
theorem QN{xs:Ls}{n:Nat}{Q:Unit->Shared->Prop}(x:cF w s.heap a xs)(hn:xs.length+n<=126)
 (q:∀h' o' es' vY t',Heap.SameBut a s.heap h'->h'.get? a=some o'->eE w o' es' vY t' xs->(t'.fill=0->n<=t'.mask)->Q () { s with heap:=h' }):wpAny (model prog w) A (setRoomFor a n) Q E s:=by
 obtain⟨o,es,ep,t,ho,X⟩:=x;have bp:t.place.size=xs.length:=by
  have:=X.fit;unfold SetTable.fits at this;simp only[gB,kf]at this;rw[this.1,X.size]
 unfold setRoomFor;refine af (g0 ho X.dat X.fit ?_);show wpAny _ _ (match t.roomFor n with | some wanted=>setRelay a wanted | x=>pure PUnit.unit) _ _ _;unfold SetTable.roomFor
 by_cases hq:(t.fill+n) * 5 >= t.mask * 3
 . rw[aq hq];refine ajy ho X (by rw[bp];omega) (by rw[bp];omega) fun h' o' es' t' k h1 h2 h3=>q h' o' es' _ t' k h1 h2 fun _=>by rw[bp]at h3;omega
 . rw[ai hq];exact au (q s.heap o es ep t (GW _ _) ho X fun z=>by rw[z]at hq;omega)
end
section
variable {prog:Program}{w:World}{A:Around}{E:VP}{s:Shared}{a f:Addr}
theorem ajz{o:Obj}{es:Array (Int×Value)}{ep:Nat}{t:SetTable}{xs:Ls}{Q:Array (Int×Value)->Shared->Prop}(ho:s.heap.get? a=some o)(X:eE w o es ep t xs)(c:eX w=true\/es.size<=1)(q:∀arr:Array (Int×Value),arr.toList.Perm es.toList->Q arr s) :
 wpAny (model prog w) A (setWalk a) Q E s:=by
 unfold setWalk;refine af (g0 ho X.dat X.fit ?_);refine af (m:=setsByText) (af (qG (au ?_)));cases hb:eX w with
 | true=>
  have hb:w.params.followText "set-order"=true:=hb;show wpAny _ _ (if w.params.followText "set-order"=true then _ else _) _ _ s;rw[aq hb];exact af (qG (au (q _ (QB _ _))))
 | false=>
  have hs:es.size<=1:=by
   rcases c with c | c
   . rw[c]at hb;cases hb
   . exact c
  have hb:w.params.followText "set-order"=false:=hb;show wpAny _ _ (if w.params.followText "set-order"=true then _ else _) _ _ s;rw[ai (by rw[hb];exact cK)];show wpAny _ _ (if (!t.plain && decide (es.size > 1))=true then _ else _) _ _ s;rw[ai (by rw[cH (by omega),vL];exact cK)];show wpAny _ _ ((if (!t.led && decide (es.size > 1))=true then _ else _) >>= _) _ _ s;rw[ai (by rw[cH (by omega),vL];exact cK)];exact af (au (au (q _ (.refl _))))
theorem ajA{QO:List Addr}{Q:Bool->Shared->Prop}(h:∀b∈QO,∃xs,cF w s.heap b xs)(q:Q true s):wpAny (model prog w) A (setsQuiet QO) Q E s:=by
 unfold setsQuiet;refine af (yj _ (fun rest r s'=>r.1=none/\s'=s/\∀b∈rest,∃xs,cF w s.heap b xs) _ ?_ ?_ _ _ ⟨rfl,rfl,h⟩)
 . rintro b rest r s' ⟨e1,rfl,hr⟩;obtain⟨xs,o,es,ep,t,ho,X⟩:=hr b (by simp);unfold setEntries;refine af (af (g0 ho X.dat X.fit (au ?_)));refine af (wpAny_forIn_array' _ (fun QP r2 s2=>r2.1=none/\s2=s'/\∀e∈QP,mS w e) _ ?_ ?_ _ _ ⟨rfl,rfl,X.good⟩)
   . rintro e QP r2 s2 ⟨e3,rfl,hg⟩;obtain⟨y,tk,rfl⟩:=hg e (by simp);exact au ⟨rfl,rfl,fun e he=>hg e (bJ _ he)⟩
   . rintro⟨r2,u2⟩ s2 ⟨e3,rfl,_⟩;dsimp only at e3;subst e3;exact au ⟨rfl,rfl,fun b hb=>hr b (bJ _ hb)⟩
 . rintro⟨r,u⟩ s' ⟨e1,rfl,_⟩;dsimp only at e1;subst e1;exact au q
theorem ajB{o:Obj}{es:Array (Int×Value)}{ep:Nat}{t:SetTable}{xo xs:Ls}{Q:Array (Int×Value)->Shared->Prop}(ho:s.heap.get? a=some o)(X:eE w o es ep t xo)(y:cF w s.heap f xs)(cq:f≠a)
 (q:∀h' (arr:Array (Int×Value)),Heap.SameBut f s.heap h'->cF w h' f xs->arr.toList.Perm es.toList->Q arr { s with heap:=h' }):wpAny (model prog w) A (setWalkUnseen a [f] (some f)) Q E s:=by
 unfold setWalkUnseen;refine af (g0 ho X.dat X.fit ?_);refine af (m:=setsByText) (af (qG (au ?_)));show wpAny _ _ (if (eX w || (t.led && t.plain) || decide (es.size<=1))=true then _ else _) _ _ _
 by_cases c:(eX w || (t.led && t.plain) || decide (es.size<=1))=true
 . rw[aq c];refine ajz ho X ?_ fun arr pm=>q s.heap arr (GW _ _) y pm
   by_cases hz:es.size<=1
   . exact .inr hz
   . rw[X.pl (by omega),cH hz,vL,sW,sW]at c;exact .inl c
 . rw[ai c];refine af (ajA (fun b hb=>?_) ?_)
   . rcases aX.mp hb with rfl | hb
     . exact⟨xo,o,es,ep,t,ho,X⟩
     . rw[bj.mp hb];exact⟨xs,y⟩
   . show wpAny _ _ (if (!true)=true then _ else _) _ _ _;rw[ai (by decide)];refine af (og ?_);obtain⟨of,ef,epf,tf,IM,F⟩:=id y;show wpAny _ _ (setState f >>= _) _ _ _;refine af (g0 IM F.dat F.fit ?_);dsimp only;split
     . refine af (Ct IM F.dat ?_ (yC F.bnd));refine au (q _ es (lB ..) ⟨_,ef,_,_,eE.store IM F.ex F.dat,F.ex,rfl,F.good,F.perm,F.nd,F.len,?_,?_,?_,?_⟩ (.refl _))
       . have:=F.fit;cases tf;exact this
       . show(tf.led && t.led)=_;rw[F.led,X.led,Wi]
       . intro z;show(tf.plain && t.plain)=false;rw[F.pl z,Bool.false_and]
       . exact F.msk
     . exact au (q s.heap es (GW _ _) y (.refl _))
theorem QQ{each:Sem Unit}{o:Obj}{eo:Array (Int×Value)}{ep:Nat}{t:SetTable}{xo xs:Ls}{Q:Unit->Shared->Prop}(ho:s.heap.get? a=some o)(X:eE w o eo ep t xo)(y:cF w s.heap f xs)(cq:f≠a)(hz:xs.length+xo.length<=126)
 (hE:∀(s':Shared) (Q:Unit->Shared->Prop),s'.heap.get? a=some o->Q () s'->wpAny (model prog w) A each Q E s')
 (q:∀h' ys,Heap.SameBut f s.heap h'->cF w h' f ys->(∀z,z∈ys↔z∈xs\/z∈xo)->Q () { s with heap:=h' }):wpAny (model prog w) A (setMerge f a each) Q E s:=by
 have ze:=X.size;unfold setMerge;rw[ai (by simpa using cq)];refine af (g0 ho X.dat X.fit ?_);dsimp only
 by_cases he:eo.isEmpty=true
 . rw[aq he];have h0:xo=[]:=Cq.mp (by rw[←ze];simpa using he);exact au (q s.heap xs (GW _ _) y fun z=>by rw[h0];simp)
 . rw[ai he];refine af (QN (n:=eo.size) y (by rw[ze];exact hz) fun h1 of c9 rj t1 k1 e1 F hm=>?_);have mU:h1.get? a=some o:=by rw[k1.2 a (fY cq)];exact ho
   refine af (g0 (s:={ s with heap:=h1 }) e1 F.dat F.fit ?_);dsimp only;have bp:t1.place.size=xs.length:=by
    have:=F.fit;unfold SetTable.fits at this;simp only[gB,kf]at this;rw[this.1,F.size]
   have QR:eo.size≠0:=fun z=>he (by simpa using z);have hx0:t1.fill=0->xs=[]/\c9.size=0:=fun z=>by
    unfold SetTable.fill at z;have:xs.length=0:=by omega
    exact⟨Cq.mp this,by rw[F.size,this]⟩
   by_cases Du:t1.fill=0
   . obtain⟨hx,Ic⟩:=hx0 Du;unfold SetTable.road;rw[ai (by rw[Du];simp)]
     by_cases hr:(t1.mask == t.mask && t.dummies.isEmpty)=true
     . rw[aq hr];dsimp only;refine Ct e1 F.dat ?_ (yC X.bnd);refine q _ xo (k1.trans (lB ..)) ⟨_,eo,_,_,eE.store e1 F.ex F.dat,F.ex,rfl,X.good,X.perm,X.nd,X.len,?_,?_,?_,fun z=>absurd z QR⟩ fun z=>by rw[hx];simp
       . have:=X.fit;cases t;exact this
       . show(t1.led && t.led)=_;rw[F.led,X.led,Wi]
       . intro z;show(t1.plain && t.plain)=false;rw[X.pl z,vL]
     . rw[ai hr];dsimp only;have hsz:(eo.map (·.1)).size=eo.size:=Array.size_map;obtain⟨t',order,e,hp,hf,hl,eI,Dv⟩:=Qv (mask:=t1.mask) (f:=t1.finger) (m:=t1.moves) (led:=t1.led && t.led) (plain:=t1.plain && t.plain) (hs:=eo.map (·.1)) (F.msk Ic) (by rw[hsz];exact hm Du);rw[hsz]at hp hf;rw[e];have pm:=QM hp;have z1:(order.filterMap (eo[·]?)).size=eo.size:=by rw[←eR,pm.length_eq,eR]
       refine af ?_;show wpAny _ _ (if ((order.filterMap (eo[·]?)).size != eo.size)=true then _ else _) _ _ _;rw[ai (by rw[z1];simp)];refine au ?_;dsimp only;refine Ct e1 F.dat ?_ (by rw[z1];exact yC X.bnd);refine q _ xo (k1.trans (lB ..)) ⟨_,_,_,t',eE.store e1 F.ex F.dat,F.ex,rfl,fun e he=>X.good e (pm.mem_iff.mp he),(pm.map gL).trans X.perm,X.nd,X.len,by rw[z1];exact hf,?_,?_,fun z=>absurd (z1.symm.trans z) QR⟩ fun z=>by rw[hx];simp
       . rw[hl,F.led,X.led,Wi]
       . intro z;rw[eI,X.pl (by rw[←z1];exact z),vL]
   . unfold SetTable.road;rw[aq (by simpa using Du)];dsimp only;refine af (ajB (s:={ s with heap:=h1 }) mU X ⟨of,c9,rj,t1,e1,F⟩ cq fun h2 arr k2 y2 pm=>?_);have zz:h2.get? a=some o:=by rw[k2.2 a (fY cq)];exact mU
     refine af (wpAny_forIn_array' _ (fun rest _ s'=>∃h3 ys,s'={ s with heap:=h3 }/\Heap.SameBut f s.heap h3/\cF w h3 f ys/\(∀e∈rest,mS w e)/\ys.length+rest.length<=252/\∀z,(z∈ys\/z∈rest.map gL)↔(z∈xs\/z∈xo)) _ ?_ ?_ _ _ ⟨h2,xs,rfl,k1.trans k2,y2,fun e he=>X.good e (pm.mem_iff.mp he),?_,fun z=>?_⟩)
     . rintro e rest r s' ⟨h3,ys,rfl,k3,y3,hg,hl,ue⟩;obtain⟨z,tk,rfl⟩:=hg e (by simp);have Dw:h3.get? a=some o:=by rw[k3.2 a (fY cq)];exact ho
       rw[bO]at hl;refine af (jA (Iz (s:={ s with heap:=h3 }) y3 (by omega) fun b h4 k4 y4=>?_));have Dx:h4.get? a=some o:=by rw[k4.2 a (fY cq)];exact Dw
       refine af (hE _ _ Dx ?_);refine af (g0 (s:={ s with heap:=h4 }) Dx X.dat X.fit ?_);dsimp only;rw[ai (by simp)];refine au ⟨h4,ic ys z,rfl,k3.trans k4,y4,fun e he=>hg e (bJ _ he),by have:=Do ys z;omega,fun u=>?_⟩;rw[←ue u,Ix,bL,aX];have ek:gL (lG w (.inr z),Value.str z tk)=z:=rfl;rw[ek];constructor
       . rintro((p | p) | p)
         . exact .inl p
         . exact .inr (.inl p)
         . exact .inr (.inr p)
       . rintro(p | p | p)
         . exact .inl (.inl p)
         . exact .inl (.inr p)
         . exact .inr p
     . rintro r s' ⟨h3,ys,rfl,k3,y3,_,_,ue⟩;exact au (q h3 ys k3 y3 fun z=>by rw[←ue z];simp)
     . have e9:eo.toList.length=eo.size:=eR;have e8:=pm.length_eq;omega
     . have:z∈arr.toList.map gL↔z∈xo:=((pm.map gL).trans X.perm).mem_iff;rw[this]
end
theorem kO{α:Type}[DecidableEq α]:∀{xs ys:List α},xs.Nodup->(∀z∈xs,z∈ys)->xs.length<=ys.length
 | [],ys,_,_=>dw _
 | x::xs,ys,hn,h=>by
  have hx:=h x (by simp);have jF:=Cc.mp hn;have:=kO (xs:=xs) (ys:=ys.erase x) jF.2 fun z hz=>(List.mem_erase_of_ne (fun e=>jF.1 (by rw[←e];exact hz))).mpr (h z (bJ _ hz));rw[List.length_erase_of_mem hx]at this;have hp:0<ys.length:=aCA hx;rw[bO];omega
section
variable {prog:Program}{w:World}{A:Around}{E:VP}{s:Shared}{a f:Addr}
theorem IN{v:Value}{Q:Bool->Shared->Prop}(hT:s.TypeIs v "set")(q:Q true s):wpAny (model prog w) A (Builtin.Frozenset.isAnySet v) Q E s:=by
 unfold Builtin.Frozenset.isAnySet;show wpAny _ _ (isInstance v (.type "set") >>= _) _ _ _;exact af (oh (T:="set") (b:=true) hT Wj (au q))
theorem ajD{v:Value}{Q:Bool->Shared->Prop}(hT:s.TypeIs v "dict")(q:Q false s):wpAny (model prog w) A (Builtin.Frozenset.isAnySet v) Q E s:=by
 unfold Builtin.Frozenset.isAnySet;show wpAny _ _ (isInstance v (.type "set") >>= _) _ _ _;refine af (oh (T:="dict") (b:=false) hT PySem.F.sub_dict_set ?_);exact oh (T:="dict") (b:=false) hT PySem.F.sub_dict_frozenset q
theorem ajE{Q:VP}(h:Q (.ref s.heap.objs.size) { s with heap:=s.heap.push { cls:=.type "set",dict:=none,data:=.set #[] 0 (.fresh 0 0 (!eX w)) } }):wpAny (model prog w) A (newSet (.type "set")) Q E s:=by
 unfold newSet;refine af (m:=setsByText) (af (qG (au ?_)));exact Ck h
theorem ajF{xs:Ls}{Q:VP}(x:cF w s.heap a xs)(hz:xs.length<=126)(q:∀h' ys,(∀b o,s.heap.get? b=some o->h'.get? b=some o)->s.heap.objs.size<h'.objs.size->cF w h' s.heap.objs.size ys->(∀z,z∈ys↔z∈xs)->Q (.ref s.heap.objs.size) { s with heap:=h' }) :
 wpAny (model prog w) A (Builtin.Frozenset.copyOf a) Q E s:=by
 obtain⟨o,es,ep,t,ho,X⟩:=id x;have aN:=bv ho;unfold Builtin.Frozenset.copyOf;refine af ?_;unfold Builtin.Frozenset.baseOf;refine af (oh (T:="set") (b:=true) x.typeIs Wj (au ?_));rw[aq rfl];refine af (ajE ?_);refine af (m:=Builtin.Frozenset.addrOf _) (au ?_);have mU:=bR { cls:=.type "set",dict:=none,data:=.set #[] 0 (.fresh 0 0 (!eX w)) } ho;refine af (QQ (s:={ s with heap:=_ }) mU X ⟨_,_,_,_,dW _ rfl,IL⟩ (ke aN) (by simpa using hz) (fun s' Q _ h=>au h) fun h' ys k y hm=>au ?_);refine q h' ys (fun b o e=>?_) ?_ y fun z=>by rw[hm z];simp
 . rw[k.2 b (cV (bv e))];exact bR _ e
 . obtain⟨o',_,_,_,e',_⟩:=y;exact bv e'
theorem ajG:entryFor table "set.__or__"=some Builtin.«frozenset.__or__»:=NX (id':="frozenset.__or__") (by kernel_rfl) rfl (by decide +kernel) (by kernel_rfl)
theorem ajH{l r:Addr}{xs ys:Ls}{Q:VP}(x:cF w s.heap l xs)(y:cF w s.heap r ys)(cq:l≠r)(hz:xs.length+ys.length<=126)
 (q:∀h' zs,(∀b o,s.heap.get? b=some o->h'.get? b=some o)->cF w h' s.heap.objs.size zs->(∀z,z∈zs↔z∈xs\/z∈ys)->Q (.ref s.heap.objs.size) { s with heap:=h' }) :
 wpAny (model prog w) A (call (.builtin "set.__or__") [.ref l,.ref r]) (fun v s'=>v≠.notImplemented/\Q v s') E s:=by
 refine sT PySem.F.slot_set_or x.typeIs ajG ?_ (PySem.F.args_set_or_2 _ _);unfold Builtin.«frozenset.__or__»;show wpAny _ _ (Builtin.Frozenset.slot1 "__or__" ⟨[.ref l,.ref r],[]⟩ >>= _) _ _ _;refine af (m:=Builtin.Frozenset.slot1 _ _) (au ?_);dsimp only;rw[ai cK];dsimp only;refine af ?_;show wpAny _ _ (Builtin.Frozenset.isAnySet (.ref l) >>= _) _ _ _;refine af (IN x.typeIs ?_);refine IN y.typeIs ?_;show wpAny _ _ (if (!true)=true then _ else _) _ _ _;rw[ai (by decide)];refine af (m:=Builtin.Frozenset.addrOf _) (au ?_);refine af ?_;show wpAny _ _ (Builtin.Frozenset.copyOf l >>= _) _ _ _;obtain⟨ox,_,_,_,hox,_⟩:=id x;have hlx:=bv hox;refine af (ajF x (by omega) fun h1 zs k1 zA z1 m1=>?_);show wpAny _ _ (if (Value.ref r != Value.ref l)=true then _ else _) _ _ _;rw[aq (by simp[bne];exact fun z=>cq z.symm)];have y1:=y.at' (h':=h1) fun o e=>k1 _ o e;obtain⟨o,es,ep,t,ho,X⟩:=id y1;obtain⟨oy,_,_,_,hoy,_⟩:=id y;have hly:=bv hoy;have lz:zs.length<=xs.length:=by
  obtain⟨_,_,_,_,_,Z⟩:=z1;obtain⟨_,_,_,_,_,X0⟩:=x;exact kO Z.nd fun z hz=>(m1 z).mp hz
 refine af (m:=Builtin.Frozenset.addrOf _) (au (af (jA ?_)));unfold Builtin.Frozenset.updateFrom;refine af (IN (s:={ s with heap:=h1 }) y1.typeIs ?_);rw[aq rfl];refine af (m:=Builtin.Frozenset.addrOf _) (au ?_);refine af (m:=setEpoch r) (wpAny_setEpoch_of (s:={ s with heap:=h1 }) ho X.dat X.fit ?_);refine QQ (s:={ s with heap:=h1 }) ho X z1 (ke hly) (by omega) (fun s' Q' e q'=>?_) fun h2 us k2 u2 m2=>?_
 . unfold Builtin.Frozenset.unchanged;refine af (wpAny_setEpoch_of e X.dat X.fit ?_);rw[ai (by simp)];exact au q'
 . refine au (au ⟨_,rfl,(by intro z;cases z),q h2 us (fun b o e=>?_) u2 fun z=>by rw[m2 z,m1 z]⟩);rw[k2.2 b (cV (bv e))];exact k1 b o e
def gM(w:World):Obj:={ cls:=.type "set",dict:=none,data:=.set #[] 0 (.fresh 0 0 (!eX w)) }
theorem ajL(v:Value){Q₁:VP}(h:Q₁ (.ref s.heap.objs.size) { s with heap:=s.heap.push (gM w) }):codeAny (model prog w) A (.call (.builtin "set.__new__") ⟨[.type "set",v],[]⟩) (wants Q₁ E) s:=by
 refine codeAny_of_tree ?_;show wpAny _ A.in1 (do { checkBuiltinCall "set.__new__" ⟨[.type "set",v],[]⟩;again (.builtin "set.__new__" ⟨[.type "set",v],[]⟩) }) _ _ s;refine af (wpAny_of_eq (PySem.F.newCall_set_1 v) (au ⟨sZ aCB _,tm PySem.F.entry_set_new ?_⟩));rw[vP aCB _];unfold Builtin.«set.__new__» Builtin.Frozenset.newClass;have ajM:=Wj;obtain⟨hp,g,d,tk,os⟩:=s;dsimp only
 wp_walk
 refine qG (au ?_);dsimp only;simp only[newObj];exact af (wpAny_alloc (au (au h)))
theorem QS{v:Value}{Q:VP}(hq:∀A':Around,A'.handled=A.handled->wpAny (model prog w) A' (Builtin.Frozenset.updateFrom "set.__init__" s.heap.objs.size v) (fun _ s'=>Q (.ref s.heap.objs.size) s') E { s with heap:=s.heap.push (gM w) }) :
 wpAny (model prog w) A (call (.type "set") [v]) Q E s:=by
 obtain⟨c,tl,aCZ⟩:=vQ.mro;have aC0:=vQ.made;have ajM:=vQ.sub;refine GL (codeAny_of_tree ?_);show wpAny _ _ (callAny (.type "set") _) _ _ _;refine au ⟨Code.quiet_builtin _ (by decide +kernel),tm PySem.F.entry_type_call ?_⟩;rw[Around.under_plain (weight_type_call_type "set" [v] []) rfl];have h1:=vQ.notType;have h2:=vQ.canCreate;have hct:=PySem.F.typeCall_set_1 v
 repeat (any_goals (first | assumption | wp_step))
 refine oq (ajL v (E:=E) (Q₁:=fun obj s₁=>obj=.ref s.heap.objs.size/\s₁={ s with heap:=s.heap.push (gM w) }) ⟨rfl,rfl⟩) fun r s₁ hr=>?_;cases r with
 | error e=>exact hr
 | ok fl=>
  cases fl with
  | ret obj=>
   obtain⟨rfl,rfl⟩:=hr;have hS:(s.heap.push (gM w)).get? s.heap.objs.size=some (gM w):=dW _ rfl;have hT:Shared.TypeIs { s with heap:=s.heap.push (gM w) } (.ref s.heap.objs.size) "set":=⟨_,hS,rfl⟩;have hli:=vQ.init.lookup;have hbi:=vQ.init.bind (.ref s.heap.objs.size)
   repeat (any_goals (first | assumption | wp_step))
   refine oq (codeAny_call_builtin (R:=wants (fun r s₂=>r=.none/\Q (.ref s.heap.objs.size) s₂) E) vQ.init.plain PySem.F.entry_set_init (check_set_init_1 hT ?_)) fun r₂ s₂ IP=>?_
   . unfold Builtin.«set.__init__» noKeywords;have kE:=hq;generalize hUF:Builtin.Frozenset.updateFrom=UF at kE ⊢;have hZ:(s.heap.push (gM w)).get? s.heap.objs.size=some { cls:=.type "set",dict:=none,data:=.set #[] 0 (.fresh 0 0 (!eX w)) }:=hS
     wp_walk
     exact eg (kE _ rfl) (fun _ s' z=>au ⟨rfl,z⟩) fun _ _ e=>e
   . cases r₂ with
     | error e=>exact IP
     | ok fl₂=>
      cases fl₂ with
      | ret r=>
       obtain⟨rfl,z⟩:=IP
       repeat (any_goals (first | assumption | wp_step))
      | _=>exact IP.elim
  | _=>exact hr.elim
theorem ajO{v:Value}{Q:Bool->Shared->Prop}(hT:s.TypeIs v "list")(q:Q false s):wpAny (model prog w) A (Builtin.Frozenset.isAnySet v) Q E s:=by
 unfold Builtin.Frozenset.isAnySet;show wpAny _ _ (isInstance v (.type "set") >>= _) _ _ _;refine af (oh (T:="list") (b:=false) hT PySem.F.sub_list_set ?_);exact oh (T:="list") (b:=false) hT PySem.F.sub_list_frozenset q
theorem ajP{R:Result->Shared->Prop}{I S:Addr}{fp wr:List Addr}{n:Nat}{P:Nat->Value->Prop}{St:Nat->Heap->Prop}(W:Walks prog w A.in1 I fp wr n P St)(zx:S∉fp){ys:Ls}(hv:∀i v,P i v->∃y tk,ys[i]?=some y/\v=.str y tk)(hb:n<=500)(hn:ys.length=n) :
 ∀(k i:Nat) (s:Shared) (xs:Ls),n - i=k->i<=n->St i s.heap->cF w s.heap S xs->xs.length<=i->(∀h' tk zs,(∀b o,b≠S->b∉wr->s.heap.get? b=some o->h'.get? b=some o)->cF w h' S zs->(∀z,z∈zs↔z∈xs\/z∈ys.drop i)->R (.ok (.ret .none)) { s with heap:=h',toks:=tk }) ->
  codeAny (model prog w) A (.builtin "set.update.loop" ⟨[.ref S,.ref I],[]⟩) R s:=by
 have QT:S∉wr:=fun h=>zx (W.sub _ h);intro k
 induction k with
 | zero=>
  intro i s xs hk hi fg hS hl hR;have jc:i=n:=by omega
  subst jc;refine tm aCC ?_;rw[vP Wk _];show wpAny _ A.in1 (pyNext (.ref I) >>= _) _ _ s;refine af (W.done s _ _ fg fun h' tk hm=>?_);show wpAny _ A.in1 (ret Value.none) _ _ _;exact au (hR h' tk xs (fun b o _ hb e=>hm b o hb e) (hS.at' fun o e=>hm S o QT e) fun z=>by rw[List.drop_eq_nil_of_le (by omega)];simp)
 | succ k ih=>
  intro i s xs hk hi fg hS hl hR;have aN:i<n:=by omega
  refine tm aCC ?_;rw[vP Wk _];show wpAny _ A.in1 (pyNext (.ref I) >>= _) _ _ s;refine af (W.item i s _ _ aN fg fun v h1 QU hP zB hm=>?_);obtain⟨y,tk,hy,rfl⟩:=hv i v hP;have hZ:cF w h1 S xs:=hS.at' fun o e=>hm S o QT e;show wpAny _ A.in1 (holding [Value.str y tk] (setAdd S (.str y tk)) >>= _) _ _ _;refine af (jA ?_);unfold setAdd;refine jA (af ((cj prog w).pyHash (k:=.inr y) (tu prog w y tk) ?_));refine Iz (s:={ s with heap:=h1,toks:=QU+1 }) hZ (by omega) fun b h2 k2 S2=>?_;have ld:=Do xs y;have hd:ys.drop i=y::ys.drop (i+1):=by
   obtain⟨wB,e⟩:=ci.mp hy;rw[←e];exact Cm wB
  refine au ⟨sZ Wk _,ih (i+1) { s with heap:=h2,toks:=QU+1 } (ic xs y) (by omega) aN (W.frame _ h1 _ zB fun b hb o e=>?_) S2 (by omega) fun h' kP zs kk Z mem=>?_⟩
  . rw[k2.2 b (fun h:b=S=>zx (by rw[←h];exact hb))];exact e
  . refine hR h' kP zs (fun b o hb hw e=>kk b o hb hw ?_) Z fun z=>?_
    . rw[k2.2 b hb];exact hm b o hw e
    . rw[mem z,Ix,hd,aX];constructor
      . rintro((p | p) | p)
        . exact .inl p
        . exact .inr (.inl p)
        . exact .inr (.inr p)
      . rintro(p | p | p)
        . exact .inl (.inl p)
        . exact .inl (.inr p)
        . exact .inr p
theorem ajQ{l:Addr}{items:Av}{ys:Ls}{Q:VP}(hh:A.handled=none)(hl:s.heap.IsList l items)(hv:∀(i:Nat) (v:Value),items[i]?=some v->∃y tk,ys[i]?=some y/\v=Value.str y tk)(hb:items.size<=500)(hn:ys.length=items.size)
 (q:∀h' tk zs,(∀b o,s.heap.get? b=some o->h'.get? b=some o)->cF w h' s.heap.objs.size zs->(∀z,z∈zs↔z∈ys)->Q (.ref s.heap.objs.size) { s with heap:=h',toks:=tk }):wpAny (model prog w) A (call (.type "set") [.ref l]) Q E s:=by
 refine QS fun A' hA=>?_;have zA:(s.heap.push (gM w)).IsList l items:=hl.push _;obtain⟨ol,Dy,rm,nl,hdl⟩:=id hl;have zw:l<s.heap.objs.size:=bv Dy;unfold Builtin.Frozenset.updateFrom;refine af (ajO (s:={ s with heap:=_ }) zA.typeIs ?_);rw[ai cK];refine af (NY (s:={ s with heap:=_ }) zA.typeIs ?_);rw[ai (by decide)];refine af (VL (s:={ s with heap:=_ }) zA ?_);refine af (wpAny_runValue ?_);have hz:(s.heap.push (gM w)).objs.size=s.heap.objs.size+1:=sU _ _;have ajR:l≠(s.heap.push (gM w)).objs.size:=by rw[hz];exact cV (V8 zw)
 refine ajP (N7 (A:=A'.in1) (by rw[show A'.in1.handled=A'.handled from rfl,hA,hh]) _ l ajR items) (S:=s.heap.objs.size) ?_ hv hb hn (items.size - 0) 0 _ [] (by omega) (dw _) ⟨⟨_,dW _ rfl,rfl,rfl⟩,zA.push _⟩
  ⟨_,_,_,_,bR _ (dW _ rfl),IL⟩ (dw _) fun h' tk zs k Z m=>?_
 . simp only[aX,fe,ff,lC];exact⟨by rw[hz];exact cV (yq _),ke zw⟩
 . show wpAny _ _ _ _ _ _;refine au (q h' tk zs (fun b o e=>k b o (cV (bv e)) (fun hb=>?_) (bR _ (bR _ e))) Z fun z=>by rw[m z];simp);have:=bv e;rw[bj.mp hb,hz]at this;exact absurd (Nat.lt_of_succ_lt this) (oj _)
end
section
variable {prog:Program}{w:World}{A:Around}{E:VP}{s:Shared}
theorem ajS{d:Addr}{o:Obj}{es:Array DictEntry}{ep:Nat}{ks:Ls}{Q:VP}(ho:s.heap.get? d=some o)(hc:o.cls=.type "dict")(hd:o.data=.dict es ep)(hm:(d == sysModules)=false)(hn:ks.length=es.size)(hb:ks.length<=63)
 (hk:∀(i:Nat) (e:DictEntry),es[i]?=some e->∃y tk,ks[i]?=some y/\e.key=Value.str y tk/\e.hash=lG w (.inr y))
 (q:∀h' zs,(∀b o,s.heap.get? b=some o->h'.get? b=some o)->cF w h' s.heap.objs.size zs->(∀z,z∈zs↔z∈ks)->Q (.ref s.heap.objs.size) { s with heap:=h' }):wpAny (model prog w) A (call (.type "set") [.ref d]) Q E s:=by
 refine QS fun A' hA=>?_;have aN:=bv ho;have mU:=bR (gM w) ho;have hT:Shared.TypeIs { s with heap:=s.heap.push (gM w) } (.ref d) "dict":=⟨_,mU,hc⟩;unfold Builtin.Frozenset.updateFrom;refine af (ajD hT ?_);rw[ai cK];refine af (NY hT ?_);rw[aq (by decide)];refine af (og ?_);refine af (m:=Builtin.Frozenset.addrOf _) (au ?_);rw[hm,ai cK];refine af (wpAny_dictEpoch (s:={ s with heap:=s.heap.push (gM w) }) mU hd ?_);refine af (NW (s:={ s with heap:=s.heap.push (gM w) }) mU hd ?_);have hS0:cF w (s.heap.push (gM w)) s.heap.objs.size []:=⟨_,_,_,_,dW _ rfl,IL⟩;refine af (QN (s:={ s with heap:=s.heap.push (gM w) }) (n:=es.size) hS0 (by rw[←hn];simpa using ce hb (by decide)) fun h1 o1 c9 rj t1 k1 e1 X1 _=>?_);have cq:d≠s.heap.objs.size:=cV aN;have zz:h1.get? d=some o:=by rw[k1.2 d cq];exact mU
 refine af (NW (s:={ s with heap:=h1 }) zz hd ?_);refine af ?_;rw[Std.Legacy.Range.forIn_eq_forIn_range'];simp only[Std.Legacy.Range.size,Nat.sub_zero,Nat.add_sub_cancel,Nat.div_one];refine yj _ (fun rest _ s'=>∃h' i zs,s'={ s with heap:=h' }/\rest=List.range' i (es.size - i)/\i<=es.size/\Heap.SameBut s.heap.objs.size (s.heap.push (gM w)) h'/\cF w h' s.heap.objs.size zs/\zs.length<=i/\∀z,z∈zs↔z∈ks.take i) _ ?_ ?_ _ _ ⟨h1,0,[],rfl,by simp,dw _,k1,⟨_,_,_,_,e1,X1⟩,aJ _,fun z=>by simp⟩
 . rintro x rest b s' ⟨h',i,zs,rfl,hr,hi,kk,Z,hl,mem⟩;have QV:i<es.size:=by
    rcases Nat.lt_or_ge i es.size with h | h
    . exact h
    . rw[Nat.sub_eq_zero_of_le h]at hr;simp at hr
   obtain⟨rfl,IQ⟩:x=i/\rest=List.range' (i+1) (es.size - (i+1)):=by
    have e:es.size - i=(es.size - (i+1))+1:=by omega
    rw[e,List.range'_succ]at hr;injection hr with h1 h2;exact⟨h1,h2⟩
   have Dw:h'.get? d=some o:=by rw[kk.2 d cq];exact mU
   refine af (NW (s:={ s with heap:=h' }) Dw hd ?_);have hg:es[x]?=some es[x]:=qF QV;obtain⟨y,tk,hy,kB,IR⟩:=hk x _ hg;rw[hg];dsimp only;rw[kB,IR];refine af (jA (Iz (s:={ s with heap:=h' }) Z (by omega) fun b h2 k2 Z2=>?_));have Dx:h2.get? d=some o:=by rw[k2.2 d cq];exact Dw
   refine af (wpAny_dictEpoch (s:={ s with heap:=h2 }) Dx hd ?_);rw[ai (by simp)];refine au ⟨h2,x+1,ic zs y,rfl,IQ,QV,kk.trans k2,Z2,by have:=Do zs y;omega,fun z=>?_⟩;rw[Ix,mem z,gC,hy];simp
 . rintro b s' ⟨h',i,zs,rfl,hr,hi,kk,Z,hl,mem⟩;have jc:i=es.size:=by
    rcases Nat.lt_or_ge i es.size with h | h
    . have e:es.size - i=(es.size - (i+1))+1:=by omega
      rw[e,List.range'_succ]at hr;exact nomatch hr
    . exact Nat.le_antisymm hi h
   refine au (q h' zs (fun b o e=>?_) Z fun z=>by rw[mem z,jc,←hn,eT]);rw[kk.2 b (cV (bv e))];exact bR _ e
end
def IS(w:World)(H:Hp)(ys:Ls)(Q:VK):Prop:=∀r xs H',H r=none->ag H H'->H' r=some (mT w r xs)->xs.Nodup->(∀z,z∈xs↔z∈ys)->Q (.ref r) H'
theorem cF.nd{w:World}{h:Heap}{a:Addr}{xs:Ls}(x:cF w h a xs):xs.Nodup:=x.elim fun _ ajU=>ajU.elim fun _ ajV=>ajV.elim fun _ ajW=>ajW.elim fun _ ajX=>ajX.elim fun _ X=>X.nd
theorem QW{us:Lw}{ys:Ls}(h:StrsAre us ys):us.length=ys.length/\∀(i:Nat) (v:Value),us[i]?=some v->∃y tk,ys[i]?=some y/\v=Value.str y tk:=by
 induction h with
 | nil=>exact⟨rfl,fun i v e=>by cases e⟩
 | cons y t _ ih=>
  refine⟨by simp[ih.1],fun i v e=>?_⟩;cases i with
  | zero=>cases e;exact⟨y,t,rfl,rfl⟩
  | succ i=>exact ih.2 i v e
theorem QX:∀{ys:Ls}{us:Lw},aQ (ys.map V.str) us->StrsAre us ys
 | [],us,r=>by cases r;exact .nil
 | y::ys,us,r=>by
  cases r with
  | cons a b=>
   obtain⟨t,rfl⟩:=a;exact .cons y t (QX b)
section
variable {X:Cx}
theorem ajY(hc:X.calm=true):fv X (.type "set") (fun vs H Q=>∃p ys,vs=[.ref p]/\ae X.K H p (ys.map V.str)/\ys.length<=500/\IS X.w H ys Q):=by
 intro pins s σ H xs us Q I r h;obtain⟨p,ys,rfl,hp,hz,q⟩:=h;obtain⟨u,rfl,ru⟩:=vals1 r;cases ru;obtain⟨its,rv,ht,P2⟩:=I.list hp;have hs:=QW (QX rv);refine ajQ (I.ok.hd hc) ht.isList (ys:=ys) (fun i v e=>hs.2 i v (by simpa using e)) (by simp;omega) (by simp[hs.1]) fun h' tk zs k Z m=>?_;have hn:=I.hok.fresh (aJ s.heap.objs.size);exact⟨.ref s.heap.objs.size,_,I.laid (t':=tk) (a:=s.heap.objs.size) (o:=mT X.w s.heap.objs.size zs) k (aJ _) (IJ Z),rfl,q _ zs _ hn (fL hn) aI Z.nd m⟩
theorem QY:fv X (.type "set") (fun vs H Q=>∃p kvs ks,vs=[.ref p]/\H p=some (.dK kvs)/\ub kvs ks/\ks.length<=63/\IS X.w H ks Q):=by
 intro pins s σ H xs us Q I r h;obtain⟨p,kvs,ks,rfl,e,Dg,hz,q⟩:=h;obtain⟨u,rfl,ru⟩:=vals1 r;cases ru;obtain⟨z,hd,vs,rel,dd⟩:=oV I.hok e;obtain⟨o,es,ep,ho,hx,hdt,Dz,lX,QZ⟩:=id dd;have hlen:=rel.length;have l1:kvs.length=ks.length:=by have:=fb List.length Dg;simpa using this
 have l2:es.size=vs.length:=by have:=lX.length;simpa using this
 have hS:StrsAre (es.toList.map (·.key)) ks:=P5 (X:=X) Dg rel (by rw[am,eR];exact l2) fun j v hj=>by
  rw[db]at hj;cases he:es.toList[j]? with
  | none=>rw[he]at hj;cases hj
  | some en=>
   rw[he]at hj;cases hj;have hjl:=(ci.mp he).1;rw[eR]at hjl;obtain⟨kv,tY⟩:∃kv,vs[j]?=some kv:=⟨vs[j]'(by omega),ir _⟩;exact⟨kv.1,kv.2,tY,(lX.get? he tY).1⟩
 refine ajS (ks:=ks) ho hx.1 hdt hd (by omega) hz (fun i en hi=>?_) fun h' zs k Z m=>?_
 . obtain⟨y,tk,hy,hk⟩:=(QW hS).2 i en.key (by rw[db,vO,hi];rfl);obtain⟨k',Q0,IR⟩:=Dz en (aCD hi);refine⟨y,tk,hy,hk,?_⟩;rw[hk]at Q0;rw[IR,(cj X.prog X.w).inj _ _ _ Q0 (tu X.prog X.w y tk)];rfl
 . have hn:=I.hok.fresh (aJ s.heap.objs.size);exact⟨.ref s.heap.objs.size,_,I.laid (t':=s.toks) (a:=s.heap.objs.size) (o:=mT X.w s.heap.objs.size zs) k (aJ _) (IJ Z),rfl,q _ zs _ hn (fL hn) aI Z.nd m⟩
theorem aj1:cR X (binaryOp .BitOr) (fun x y H Q=>∃p q xs ys,x=.ref p/\y=.ref q/\p≠q/\H p=some (mT X.w p xs)/\H q=some (mT X.w q ys)/\xs.length+ys.length<=126/\IS X.w H (xs++ys) Q):=by
 intro pins s σ H x y v u Q I rx ry h;obtain⟨p,q,xs,ys,rfl,rfl,cq,e1,e2,hz,qq⟩:=h;cases rx;cases ry;have x1:=IK I.hok e1;have x2:=IK I.hok e2;refine wpAny_binaryOp_same (op:=.BitOr) (T:="set") x1.typeIs x2.typeIs PySem.F.fills_set_or PySem.F.slot_set_or (ajH x1 x2 cq hz fun h' zs k Z m=>?_);have hn:=I.hok.fresh (aJ s.heap.objs.size);exact⟨.ref s.heap.objs.size,_,I.laid (t':=s.toks) (a:=s.heap.objs.size) (o:=mT X.w s.heap.objs.size zs) k (aJ _) (IJ Z),rfl,qq _ zs _ hn (fL hn) aI Z.nd fun z=>by rw[m z];simp⟩
end
theorem aj2{P:Program}{w:World}{K:Fg}{mg:Mv}{base:Heap}{k:Nat}{q c':Addr}{qual:Str}{params:Arguments}{body:Expr}{scope:Scope}{pm gN:Value}{N ps:Ls}{A:Around}{outer:List Env}{s:Shared}{H:Hp}{us:Lw}{vs:Lv}{Q:VK}{E:XK}{t:TE}
 (S:aR N ps scope) (hr:b9 (k+1) A) (e0:kD P w K mg base A outer s H) (ho:s.heap.get? q=some (PySem.W.kla_obj "<lambda>" qual params body scope [] pm c' gN)) (IT:s.heap.CodeRec (.ref c') qual)
 (hb:bindArgs (PySem.W.kla_fn "<lambda>" qual params body scope [] pm (.ref c') gN) ⟨us,[]⟩=pure (ps.zip us)) (hl:vs.length=ps.length) (r:aQ vs us)
 (ht:PE (kF al P w K mg base N qual scope q (.ref c') A outer s H E) body t) (hq:t (start N vs) H Q) :
 codeAny (model P w) A (.call (.ref q) ⟨us,[]⟩) (CR al outer P w H s Q E) s:=by
 have lim:s.heap.NoLimit:=e0.mod.nolimit.keeps fun b o e=>(e0.bs b o e).1;have Hz:∀y∈ps.zip us,scope.names.lookup y.1=some .local\/(scope.names.lookup y.1=some .cell/\((cellsFrom (s.heap.objs.size+1) scope.names []).lookup y.1).isSome=true):=fun⟨n,v⟩ hy=>by
  rcases S.par n (NO hy).1 with q | q
  . exact .inl q
  . exact .inr ⟨q,VR _ _ _ (.inl q)⟩
 refine PySem.W.kla_callFunE hr.depth ho rfl S.co S.gen rfl IT ?_;rw[hb];refine au ?_;refine aCc S.kind Hz fun env he s1 x=>?_;subst he;refine⟨lim.keeps x.toInCall.keep,PySem.W.kla_codeExpr ?_⟩;have I:Inv (kF al P w K mg base N qual scope q (.ref c') A outer s H E) [] (start N vs) H s1:=O3 S hr.hd e0 hl r x;refine eg (ht [] s1 (start N vs) H _ I hq) (fun u s' hs=>?_) fun e s' hs=>hs;obtain⟨v,H',J,rv,q⟩:=hs;exact⟨v,H',J.os,J.bare,J.base,J.hok,rv,q⟩
open PySem.W (tabObj)
def gO(P:Addr)(ps:Av):HO:=.ext fun h=>h.get? P=some (tabObj ps)
def zC(c':Addr)(qual:Str):HO:=.ext fun h=>h.CodeRec (.ref c') qual
def zD(q c':Addr)(qual:Str)(params:Arguments)(body:Expr)(scope:Scope):HO:=.ext fun h=>∃pm gN,h.get? q=some (PySem.W.kla_obj "<lambda>" qual params body scope [] pm c' gN)
def aH(H:Hp)(P:Addr)(pos:Pos)(qual:Str):Prop:=H P=some (gO P #[])\/∃c',H P=some (gO P #[rawInt pos.line,rawInt pos.col,.ref c'])/\H c'=some (zC c' qual)
def Q1(P:Addr)(qual:Str)(params:Arguments)(body:Expr)(scope:Scope)(pos:Pos):TE:=fun σ H Q=>aH H P pos qual/\∀q c' H',H q=none->H' P≠none->(∀b o,H b=some o->b≠P->H' b=some o)->aH H' P pos qual->H' c'=some (zC c' qual)->H' q=some (zD q c' qual params body scope)->Q (.ref q) H'
theorem zE{Pr:Program}{w:World}{H:Hp}{h:Heap}{a:Addr}{p:Heap->Prop}{o:Obj}(e:h.get? a=some o)(hp:p h)(hk:∀h1 h2:Heap,p h1->(∀o,h1.get? a=some o->h2.get? a=some o)->p h2):b8 Pr w H h a (.ext p):=⟨hp,⟨_,e⟩,hk⟩
theorem aj3{c':Addr}{qual:Str}{h1 h2:Heap}(h:h1.CodeRec (.ref c') qual)(k:∀o,h1.get? c'=some o->h2.get? c'=some o):h2.CodeRec (.ref c') qual:=by
 obtain⟨c,oc,vs,t,e,IU,h3,h4⟩:=h;cases e;exact⟨c',oc,vs,t,rfl,k _ IU,h3,h4⟩
section
variable {X:Cx}{c P:Addr}{params:Arguments}{body:Expr}{scope:Scope}{pos:Pos}{qual:Str}
theorem aj4(DA:X.env.code=.ref c)(hd:PySem.W.codeHdIn X.K c P=true)(hb:X.base.BuiltinsAt X.mg P)(hq:X.env.qual ++ "<lambda>"=qual:=by rfl)(DB:X.env.globals=mainGlobals:=by rfl)(rm:closureFor scope X.env=pure []:=by rfl)(IV:defaultsOf params X.env=([],[]):=by rfl) :
 PE X (.Lambda params body scope pos) (Q1 P qual params body scope pos):=by
 intro pins s σ H Q I h;obtain⟨tb,q⟩:=h;subst hq;refine PySem.W.kla_eval IV ?_;have hg:s.heap.Ns mainGlobals X.mg:=I.mod.glob.keeps I.bk;obtain⟨bm,ob,b1,b2,b3,b4,b5,b6⟩:=hb;have kQ:s.heap.BuiltinsAt X.mg P:=⟨bm,ob,b1,b2,b3,b4,I.bk _ _ b5,b6⟩;have C:=PySem.W.codeHd_of_K I.kIn hd;have hgP:∀ps,s.heap.get? P=some (tabObj ps)->mainGlobals≠P:=fun ps e z=>by
  obtain⟨o,es,ep,e',d',_⟩:=hg;rw[z,e]at e';cases e';cases d'
 have aN:∀b o,s.heap.get? b=some o->b<s.heap.objs.size:=fun b o e=>bv e
 rcases tb with e | ⟨c',e1,e2⟩
 . have hP:s.heap.get? P=some (tabObj #[]):=(show b8 X.prog X.w H s.heap P (gO P #[]) from I.hok P _ e).1;refine PySem.W.kla_makeFunction rm DB hg DA C hP trivial rfl (hgP _ hP) kQ fun c' gN h' tk hx uf hl Q2 IW=>?_;have I1:Inv X pins σ (ah H P (gO P (#[] ++ #[rawInt pos.line,rawInt pos.col,.ref c']))) { s with heap:=h',toks:=tk }:=
    I.write (x:=P) (e:=P) (by rw[e];exact True.intro) (.inl rfl) (fun b u hb e=>hx b u hb e) ⟨_,IW⟩ (zE IW IW fun h1 h2 a k=>k _ a)
   have nc:H c'=none:=I.hok.fresh uf;have cP:c'≠P:=fun z=>absurd (aN _ _ hP) (N8.mpr (z▸uf));have nc1:ah H P (gO P (#[] ++ #[rawInt pos.line,rawInt pos.col,.ref c'])) c'=none:=by rw[aV cP];exact nc
   have aj7:=Q2;obtain⟨c2,oc,vs,t,ec,oF,ug,hov⟩:=aj7;cases ec;have I2:=I1.track (o:=zC c' (X.env.qual ++ "<lambda>")) nc1 (ce I.sz uf) (ke (fX I.lt uf)) (fun x cc ex z=>by
    obtain⟨v,oo,hv,_⟩:=I.cell x cc ex;exact absurd (aN _ _ hv) (N8.mpr (z▸uf))) (fun p hp z=>absurd (aN _ _ (I.pin p hp).1) (N8.mpr (z▸uf))) (zE oF Q2 fun h1 h2 a k=>aj3 a k)
   have gq:(h'.push (PySem.W.kla_obj "<lambda>" (X.env.qual ++ "<lambda>") params body scope [] ((X.mg "__name__").getD .none) c' gN)).get? h'.objs.size=some (PySem.W.kla_obj "<lambda>" (X.env.qual ++ "<lambda>") params body scope [] ((X.mg "__name__").getD .none) c' gN):=dW _ rfl;have I3:=I2.laid (t':=tk) (h':=h'.push (PySem.W.kla_obj "<lambda>" (X.env.qual ++ "<lambda>") params body scope [] ((X.mg "__name__").getD .none) c' gN)) (a:=h'.objs.size) (o:=zD h'.objs.size c' (X.env.qual ++ "<lambda>") params body scope)
    (fun b u e=>bR _ e) (aJ _) (zE gq ⟨_,_,gq⟩ fun h1 h2 aj8 k=>aj8.elim fun pm aj9=>aj9.elim fun cv a=>⟨pm,cv,k _ a⟩)
   have hsz:s.heap.objs.size<=h'.objs.size:=ce uf (vK hl);have nq:H h'.objs.size=none:=I.hok.fresh hsz;have qP:h'.objs.size≠P:=fun z=>absurd (aN _ _ hP) (N8.mpr (z▸hsz));have qc:h'.objs.size≠c':=(cV hl).symm;refine⟨.ref h'.objs.size,_,I3,rfl,q _ c' _ nq ?_ (fun b o eb nb=>?_) (.inr ⟨c',?_,?_⟩) ?_ aI⟩
   . rw[aV qP.symm,aV cP.symm,aI];exact fun z=>nomatch z
   . rw[aV (aL eb nq),aV (aL eb nc),aV nb];exact eb
   . rw[aV qP.symm,aV cP.symm,aI];rfl
   . rw[aV qc.symm,aI]
   . rw[aV qc.symm,aI]
 . have hP:s.heap.get? P=some (tabObj #[rawInt pos.line,rawInt pos.col,.ref c']):=(show b8 X.prog X.w H s.heap P (gO P _) from I.hok P _ e1).1;have hf:codeAmong pos (#[rawInt pos.line,rawInt pos.col,.ref c']:Av).toList=some (.ref c'):=by
    show(if ((pos.line:Int) == pos.line && (pos.col:Int) == pos.col)=true then _ else _)=_;rw[aq (by simp)]
   refine PySem.W.kla_makeFunctionHit rm DB hg DA C hP trivial hf kQ fun gN h' tk hk hsz=>?_;have gq:(h'.push (PySem.W.kla_obj "<lambda>" (X.env.qual ++ "<lambda>") params body scope [] ((X.mg "__name__").getD .none) c' gN)).get? h'.objs.size=some (PySem.W.kla_obj "<lambda>" (X.env.qual ++ "<lambda>") params body scope [] ((X.mg "__name__").getD .none) c' gN):=dW _ rfl;have I3:=I.laid (t':=tk) (h':=h'.push (PySem.W.kla_obj "<lambda>" (X.env.qual ++ "<lambda>") params body scope [] ((X.mg "__name__").getD .none) c' gN)) (a:=h'.objs.size) (o:=zD h'.objs.size c' (X.env.qual ++ "<lambda>") params body scope)
    (fun b u e=>bR _ (hk b u e)) hsz (zE gq ⟨_,_,gq⟩ fun h1 h2 aka k=>aka.elim fun pm akb=>akb.elim fun cv a=>⟨pm,cv,k _ a⟩)
   have nq:H h'.objs.size=none:=I.hok.fresh hsz;refine⟨.ref h'.objs.size,_,I3,rfl,q _ c' _ nq ?_ (fun b o eb nb=>?_) (.inr ⟨c',?_,?_⟩) ?_ aI⟩
   . rw[aV (aL e1 nq),e1];exact fun z=>nomatch z
   . rw[aV (aL eb nq)];exact eb
   . rw[aV (aL e1 nq)];exact e1
   . rw[aV (aL e2 nq)];exact e2
   . rw[aV (aL e2 nq)];exact e2
end
end L2
namespace L2
open PySem PySem.Spec PyProof.Rows
section
variable {X:Cx}
def akc:V->Lv->Hp->VK->Prop:=fun x vs H Q=>∃a b,x=.str a/\vs=[.str b]/\Q (.bl (Txt.startswith a b)) H
theorem Q3:mJ X "str.startswith" akc:=by
 intro pins s σ H x xs v us Q I rx rs h;obtain⟨a,b,rfl,rfl,q⟩:=h;obtain⟨t,rfl⟩:=rx;obtain⟨u,rfl,t',rfl⟩:=vals1 rs;exact SC.startswith (cS I q rfl)
theorem Q4:∀l:List (Str×Tok),aQ ((l.map (·.1)).map V.str) (strValues l)
 | []=>.nil
 | p::r=>.cons ⟨p.2,rfl⟩ (Q4 r)
def akd:V->Lv->Hp->VK->Prop:=fun x vs H Q=>∃a b,x=.str a/\vs=[.str b]/\b.length≠0/\a.length+2<=sizeLine/\dJ H (.lst ((Txt.split a b).map V.str)) Q
theorem IX:mJ X "str.split" akd:=by
 intro pins s σ H x xs v us Q I rx rs h;obtain⟨a,b,rfl,rfl,hb,hz,q⟩:=h;obtain⟨t,rfl⟩:=rx;obtain⟨u,rfl,t',rfl⟩:=vals1 rs;have hy:(b.length == 0)=false:=by simpa using hb
 have fin:∀(l:List (Str×Tok)) (k:Nat),l.map (·.1)=Txt.split a b->EP X pins σ Q (.ref s.heap.objs.size) { s with heap:=s.heap.push { cls:=.type "list",data:=.seq (strValues l).toArray },toks:=k }:=fun l k e=>by
  have r:=Q4 l;rw[e]at r;have hl:((Txt.split a b).map V.str).length<=sizeLine:=by
   rw[am];exact ce (split_le a b) hz
  exact⟨.ref s.heap.objs.size,_,I.laid (t':=k) (fun b o e=>bR _ e) (aJ _) (show b8 X.prog X.w _ _ _ (.lst ((Txt.split a b).map V.str)) from ⟨hl,_,_,r,dW _ rfl⟩),rfl,q.at _ (I.hok.fresh (aJ _))⟩
 have hn:(Builtin.Str.partsBetween a (Builtin.Str.occurrences a b 0 a.length (a.length+1)) b.length).length<=sizeLine:=by
  have e1:=StrLaws.occ_length_le a b 0 a.length (a.length+1);rw[length_partsBetween];omega
 cases h1:(decide (a.length<b.length) || decide (Builtin.Str.strKind a<Builtin.Str.strKind b))
 . cases hf:(Builtin.Str.occurrences a b 0 a.length (a.length+1)).isEmpty
   . refine Cf Wl (Ce _ _ _) Wm (Wn _ _) (meets_str_split_sep a b t t' h1 hy hf (by omega) hn) ?_;show wants _ _ _ { s with toks:=_,heap:=s.heap.push { cls:=.type "list",data:=.seq (strsFrom s.toks (Builtin.Str.partsBetween a (Builtin.Str.occurrences a b 0 a.length (a.length+1)) b.length)).toArray } };rw[strsFrom_eq];exact fin (numbered s.toks _) _ ((numbered_texts _ _).trans ((ai (Wo h1)).trans (ai (Wo hf))).symm)
   . exact Cf Wl (Ce _ _ _) Wm (Wn _ _) (meets_str_split_not_found a b t t' h1 hy hf)
      (fin [(a,t)] s.toks ((ai (Wo h1)).trans (aq hf)).symm)
 . exact Cf Wl (Ce _ _ _) Wm (Wn _ _) (meets_str_split_cannot_occur a b t t' h1)
    (fin [(a,t)] s.toks (aq h1).symm)
theorem ake:fv X (.type "int") (fun xs H Q=>∃x n,xs=[.str x]/\PySem.intText? x=some n/\x.length<=640/\Q (.int n) H):=by
 intro pins s σ H xs us Q I r h;obtain⟨x,n,rfl,hn,hl,q⟩:=h;obtain⟨u,rfl,t,rfl⟩:=vals1 r;exact PySem.W.KIN.call_text hn hl ⟨.int n,H,I.tok _,⟨_,rfl⟩,q⟩
end
def IY(c:Nat):Str:=⟨#[c]⟩
section
variable {X:Cx}{tg:Expr}
end
theorem Inv.turnedL{X:Cx}{pins:Po}{σ:St}{H:Hp}{s:Shared}{h':Heap}{t':Nat}{fp:List Addr}(I:Inv X pins σ H s)(k:∀b o,b∉fp->s.heap.get? b=some o->h'.get? b=some o)(hf:∀b∈fp,eU X pins H b):Inv X pins σ H { s with heap:=h',toks:=t' }:=by
 have yK:∀b u,H b=some u->b∉fp:=fun b u e z=>by rw[(hf b z).1]at e;cases e
 have hL:X.env.locals∉fp:=fun z=>(hf _ z).2.1 rfl;refine I.step (g':=s.gens) (d':=s.drawn) (ch:=fp) (fun b hb=>?_) (fun b o _ _ hc e _=>k b o hc e) (fun b o _ _ hc e _=>⟨o.slots,k b o hc e⟩) (fun _ _ _ _ n=>n)
  (fun b o hc e=>⟨o,k b o hc e⟩) (fun _ _ e=>e) (fun _ _ _ e=>e) (fun b ps e=>⟨#[],by rw[e];simp⟩) (fun m hm=>?_) (fun b u e=>?_) I.bare
 . obtain⟨f0,f1,f2,f3,f4,f5⟩:=hf b hb;exact⟨f3,f1,f4,f5⟩
 . obtain⟨o,es,ep,ho,r⟩:=hm;exact⟨o,es,ep,k _ o hL ho,r⟩
 . refine(I.hok b u e).stay (fun c v hc q=>k c v ?_ q) (fun _ q=>q) fun _ _ q=>q
   rcases hc with z | z
   . rw[z];exact yK b u e
   . exact yK c _ z
def zF(K:Fg)(a:Addr):It:=
 ⟨fun i H=>∃xs x,ae K H a xs/\xs[i]?=some x,fun i H v H'=>∃p x,H p=none/\(∀xs,ae K H a xs->xs[i]?=some x)/\v=.ref p/\H'=ah H p (.tup [.int i,x]),fun i H=>∃xs,ae K H a xs/\xs.length<=i⟩
theorem akf{P:Program}{w:World}{K:Fg}{elts:List Expr}{x1:Nat}{pos:Pos}(a e it:Addr)(cq:e≠it):qS P w K (.Tuple elts x1 pos) (zF K a) [e,it] e (fun i h=>(∃old,IsEnum h e it i old)/\h.IsListIter it a i) where
 mem:=by simp
 obj:=fun i h st b hb=>by
  obtain⟨⟨old,st⟩,o,e',c,d⟩:=st
  rcases aX.mp hb with rfl | hb
  . exact⟨_,st,fun v z=>by
     have z':Data.fields _=Data.cell v:=z;cases z'⟩
  . have hb:=bj.mp hb;subst hb;exact⟨o,e',fun v z=>by rw[d]at z;cases z⟩
 keep:=fun i h h' akg k=>akg.elim fun akh ft=>akh.elim fun old st=>⟨⟨old,k e (by simp) _ st⟩,ft.at fun o e'=>k it (by simp) o e'⟩
 item:=by
  intro X hP hw hK hc i pins s σ H E I hf st hg;subst hP hw hK;obtain⟨⟨old,st⟩,ft⟩:=st;obtain⟨xs,x,hq,hx⟩:=hg;obtain⟨its,rv,p,hz⟩:=I.list hq;obtain⟨u,hu,ru⟩:=rv.get hx;refine wpAny_pyNext_enum_item st ft p.isList (x:=u) (by simpa using hu) cq fun h1 ho Q5 Il hsz eW=>⟨.ref s.heap.objs.size,rfl,?_⟩;refine wpAny_letOwnedTupleGo_enum ho fun h2 en2 sb=>?_;have sb:Heap.SameBut e h1 h2:=sb;have Q6:e<s.heap.objs.size:=bv st;have Di:it<s.heap.objs.size:=by
   obtain⟨o,e',_⟩:=ft;exact bv e'
  have I1:Inv X pins σ H { s with heap:=h2,toks:=s.toks+1 }:=I.turnedL (fp:=[e,it]) (fun b ob hb e'=>by
   simp only[aX,fe,ff,lC]at hb;exact(sb.2 b hb.1).trans (eW b ob hb.1 hb.2 e')) hf
  have hn:H s.heap.objs.size=none:=I.hok.fresh (aJ _);have fp:=I.fpOk (H':=H) (aJ _) hn;have tP:h2.get? s.heap.objs.size=some { cls:=.type "tuple",data:=.seq #[.int i s.toks,u] }:=(sb.2 _ (ke Q6)).trans Il;have I2:Inv X pins σ (ah H s.heap.objs.size (.tup [.int i,x])) { s with heap:=h2,toks:=s.toks+1 }:=by
   refine I1.track hn I.sz fp.2.1 fp.2.2.2.2.1 fp.2.2.2.2.2 ?_;exact⟨by show 2<=sizeLine;decide,[.int i s.toks,u],.cons ⟨_,rfl⟩ (.cons ru .nil),_,tP,rfl,0,rfl⟩
  refine⟨.ref s.heap.objs.size,_,I2,rfl,⟨_,x,hn,fun ys hy=>by rw[I.list_inj hy hq];exact hx,rfl,rfl⟩,⟨⟨u,by simpa using en2⟩,Q5.at fun o e'=>(sb.2 it (fY cq)).trans e'⟩,fun b hb=>?_⟩;have hb0:=(hf b hb).1;rw[aV,hb0];simp only[aX,fe,ff]at hb
  rcases hb with rfl | rfl
  . exact cV Q6
  . exact cV Di
 done:=by
  intro X hP hw hK hc i pins s σ H E I hf st hg;subst hP hw hK;obtain⟨⟨old,st⟩,ft⟩:=st;obtain⟨xs,hq,hx⟩:=hg;obtain⟨its,rv,p,hz⟩:=I.list hq;have hl:=rv.length;exact wpAny_pyNext_enum_end (I.ok.hd hc) st ft p.isList (by simp;omega) fun h' eb=>⟨rfl,I.turnedL (t':=s.toks) (fp:=[e,it]) (fun b o hb e'=>eb b o (fun z=>hb (by simp[z])) e') hf⟩
 self:=fun _ _ _ _ _ st h=>st.elim fun akk _=>akk.elim fun _ st=>wpAny_pyIter_enum st h
section
variable {X:Cx}
def akl(K:Fg)(ta:TA):TI:=fun σ H R=>ta σ H fun vs H1=>∃a,vs=[.ref a]/\(∃xs,ae K H1 a xs)/\R (zF K a) H1
theorem Q7{l:Expr}{ta:TA}{p pos p2:Pos}{elts:List Expr}{x1:Nat}(hg:Gl X "enumerate")(hm:X.mg "enumerate"=none)(ha:PA X [l] ta)(hs:starEach [l] X.env=[(false,eval l X.env)]:=by rfl) :
 PI X (.Tuple elts x1 p2) (.Call (.Name "enumerate" p) [l] [] pos) (akl X.K ta):=by
 intro pins s σ H R I h;refine Call_ (v5 I hg hm boot_enumerate (NL (thn (ha pos pins s σ H _ I h) fun us s1 akm=>akm.elim fun vs akn=>akn.elim fun H1 ako=>ako.elim fun I1 akp=>akp.elim fun r1 q1=>?_) hs rfl));obtain⟨a,e,⟨xs,hq⟩,q⟩:=q1;subst e;obtain⟨u,rfl,rx⟩:=vals1 r1;cases rx;obtain⟨its,rv,pl,hz⟩:=I1.list hq;refine call_enumerate_list pl.isList fun h' en it hsz kp=>?_;refine wpAny_pyIter_enum en ?_;refine⟨s1.heap.objs.size+1,[s1.heap.objs.size+1,s1.heap.objs.size],_,_,H1,rfl,I1.kept (t':=s1.toks) kp,akf a _ _ (Nat.succ_ne_self _),⟨⟨_,en⟩,it⟩,fun b hb=>?_,q⟩;have e:s1.heap.objs.size<=b:=by
  simp only[aX,fe,ff]at hb
  rcases hb with rfl | rfl
  . exact sV _
  . exact aJ _
 exact I1.fpOk e (I1.hok.fresh e)
end
section
variable {prog:Program}{w:World}{A:Around}{E:VP}{s:Shared}
end
section
variable {X:Cx}
end
theorem ag.seqT{K:Fg}{H H':Hp}{a:Addr}{xs:Lv}(e:ag H H')(h:aW K H a xs):aW K H' a xs:=by
 rcases h with(h | ⟨o,h⟩) | h
 . exact .inl (.inl (e _ _ h))
 . exact .inl (.inr ⟨o,e _ _ h⟩)
 . exact .inr h
theorem take_snoc{α:Type}{ys:List α}{i:Nat}{y:α}(h:ys[i]?=some y):ys.take (i+1)=ys.take i++[y]:=by
 rw[List.take_succ,h];rfl
section
variable {g:TG}{te:TE}{H1:Hp}{Q:Addr->Hp->Prop}
theorem zG{K:Fg}{a:Addr}{xs:Lv}{σ0:St}(hx:ae K H1 a xs)(S:St->Prop)(ys:Lv)(hl:ys.length=xs.length)(big:xs.length<=sizeLine)(s0:S σ0)
 (turn:∀(i:Nat) x y σ H (k:St->V->Hp->Prop),xs[i]?=some x->ys[i]?=some y->S σ->ag H1 H->(∀σ3 H5,S σ3->ag H H5->k σ3 y H5)->g x σ H fun σ3 H3=>te σ3 H3 (k σ3))
 (done:∀D H,H1 D=none->H D=some (.lst ys)->ag H1 H->Q D H) :
 ∀D,H1 D=none->∃W:Nat->Nat->St->Hp->Prop,(∃m,W 0 m σ0 (ah H1 D (.lst [])))/\lL (mE K a) g tQ te D (fun H'=>Q D H') W:=by
 refine zf hx S (fun i zs _=>zs=ys.take i) s0 (fun _ _=>rfl) (fun D i x zs σ H k a1 a2 a3 a4 a5 a6 a7=>?_) fun D zs H a1 a2 a3 a4=>?_
 . have hi:i<ys.length:=by rw[hl];exact(ci.mp a2).1
   have hy:=ir hi;refine turn i x ys[i] σ H k a2 hy a3 a5 fun σ3 H5 b1 b2=>a7 σ3 _ H5 b1 b2 ?_ ?_
   . rw[a6,eh];omega
   . rw[a6,take_snoc hy]
 . rw[a4,←hl,eT]at a2;exact done D H a1 a2 a3
theorem akq{K:Fg}{a:Addr}{xs:Lv}{σ0:St}(hx:aW K H1 a xs)(S:St->Prop)(ys:Lv)(hl:ys.length=xs.length)(big:xs.length<=sizeLine)(s0:S σ0)
 (turn:∀(i:Nat) x y σ H (k:St->V->Hp->Prop),xs[i]?=some x->ys[i]?=some y->S σ->ag H1 H->(∀σ3 H5,S σ3->ag H H5->k σ3 y H5)->g x σ H fun σ3 H3=>te σ3 H3 (k σ3))
 (done:∀D H,H1 D=none->H D=some (.lst ys)->ag H1 H->Q D H) :
 ∀D,H1 D=none->∃W:Nat->Nat->St->Hp->Prop,(∃m,W 0 m σ0 (ah H1 D (.lst [])))/\lL (Hf K a) g tQ te D (fun H'=>Q D H') W:=by
 intro D hD;refine⟨fun i m σ H=>m=xs.length - i/\i<=xs.length/\S σ/\H D=some (.lst (ys.take i))/\ag H1 H,⟨xs.length,by simp,dw _,s0,aI,fL hD⟩,?_⟩;rintro i m σ H ⟨rfl,hi,hS,hd,hs⟩;have q:aW K H a xs:=ag.seqT hs hx
 by_cases aN:i<xs.length
 . refine .inr ⟨⟨xs,xs[i],q,by simp[aN]⟩,fun x H2 hy=>?_⟩;obtain⟨e1,e2⟩:=hy;subst e1;have hy:=ir (by omega:i<ys.length);refine turn i x ys[i] σ _ (fun σ3 y H5=>∃zs,H5 D=some (.lst zs)/\zs.length<sizeLine/\∃m',m'<xs.length - i/\(m'=xs.length - (i+1)/\i+1<=xs.length/\S σ3/\ah H5 D (.lst (zs++[y])) D=some (.lst (ys.take (i+1)))/\ag H1 (ah H5 D (.lst (zs++[y]))))) (e2 xs q) hy hS hs
    (fun σ3 H5 a1 a2=>⟨ys.take i,a2 _ _ hd,by rw[eh];omega,xs.length - (i+1),by omega,rfl,aN,a1,by rw[aI,take_snoc hy],fw (hs.trans a2) hD⟩)
 . have e:i=xs.length:=by omega
   subst e;rw[←hl,eT]at hd;exact .inl ⟨⟨xs,q,aJ _⟩,done D H hD hd hs⟩
end
end L2
namespace HT
open PySem PyProof.Rows
abbrev At:=Int ⊕ Str
def zH:At->At->Bool
 | .inl a,.inl b=>decide (a<b)
 | .inr x,.inr y=>decide (x.cps.toList<y.cps.toList)
 | _,_=>false
def kin:At->At->Prop
 | .inl _,.inl _=>True
 | .inr _,.inr _=>True
 | _,_=>False
def cf:List At->List At->Bool
 | [],[]=>false
 | [],_::_=>true
 | _::_,[]=>false
 | x::xs,y::ys=>if x=y then cf xs ys else zH x y
def gP:List At->List At->Prop
 | x::xs,y::ys=>if x=y then gP xs ys else kin x y
 | _,_=>True
theorem DC(x y:At)(xs ys:List At):cf (x::xs) (y::ys)=if x=y then cf xs ys else zH x y:=rfl
theorem uh(x y:At)(xs ys:List At):gP (x::xs) (y::ys)=if x=y then gP xs ys else kin x y:=rfl
inductive gf:Lw->List At->Prop
 | nil:gf [] []
 | int (n:Int) (t:Tok) {vs:Lw}{as:List At}:gf vs as->gf (.int n t::vs) (.inl n::as)
 | str (x:Str) (t:Tok) {vs:Lw}{as:List At}:gf vs as->gf (.str x t::vs) (.inr x::as)
theorem gf.length{vs:Lw}{as:List At}(h:gf vs as):vs.length=as.length:=by
 induction h with
 | nil=>rfl
 | int _ _ _ ih=>exact fb (· + 1) ih
 | str _ _ _ ih=>exact fb (· + 1) ih
theorem akr(A:Around)(s:Shared)(a:Str)(t:Tok)(c:Str)(u:Tok):∃e,SeqAt.EqAt A s (.str a t) (.str c u) e/\(e=true↔a=c):=
 ⟨(a == c),SeqAt.EqAt.str_str a t c u,by simp⟩
theorem aks(A:Around)(s:Shared)(a:Str)(t:Tok)(c:Str)(u:Tok)(prog:Program)(w:World)(E:VP)(Q:VP)(h:Q (.bool (decide (a.cps.toList<c.cps.toList))) s) :
 wpAny (model prog w) A (richCompare .Lt (.str a t) (.str c u)) Q E s:=
 (PyProof.Rows.lt_str h:wpAny (model prog w) A (compareOp .Lt (.str a t) (.str c u)) Q E s)
theorem akt{vs ws:Lw}{as bs:List At}(hv:gf vs as)(hw:gf ws bs)(ok:gP as bs)(A:Around)(s:Shared):(vs=[]\/ws=[])\/∃v iF a DD w IZ b wv,vs=v::iF/\as=a::DD/\ws=w::IZ/\bs=b::wv/\gf iF DD/\gf IZ wv /\
 (∃e,SeqAt.EqAt A s v w e/\(e=true↔a=b))/\(a=b->gP DD wv)/\∀(prog:Program) (w':World) (E:VP) (Q:VP),Q (.bool (zH a b)) s->wpAny (model prog w') A (richCompare .Lt v w) Q E s:=by
 cases hv with
 | nil=>exact .inl (.inl rfl)
 | int a t hv=>
  cases hw with
  | nil=>exact .inl (.inr rfl)
  | int b u hw=>
   obtain⟨e,he,hi⟩:=abA A s a t b u;refine .inr ⟨_,_,_,_,_,_,_,_,rfl,rfl,rfl,rfl,hv,hw,⟨e,he,hi.trans ⟨fun z=>by rw[z],fun z=>by injection z⟩⟩,fun z=>?_,fun prog w' E Q h=>abB A s a t b u prog w' E Q h⟩;rw[uh,aq z]at ok;exact ok
  | str b u hw=>
   rw[uh,ai (by intro z;cases z)]at ok;exact ok.elim
 | str a t hv=>
  cases hw with
  | nil=>exact .inl (.inr rfl)
  | int b u hw=>
   rw[uh,ai (by intro z;cases z)]at ok;exact ok.elim
  | str b u hw=>
   obtain⟨e,he,hi⟩:=akr A s a t b u;refine .inr ⟨_,_,_,_,_,_,_,_,rfl,rfl,rfl,rfl,hv,hw,⟨e,he,hi.trans ⟨fun z=>by rw[z],fun z=>by injection z⟩⟩,fun z=>?_,fun prog w' E Q h=>aks A s a t b u prog w' E Q h⟩;rw[uh,aq z]at ok;exact ok
section
open PySem.SeqAt
open PySem.AutoSeq1 (wpAny_loadPart')
open PySem.MeetsSeq PySem.MeetsSeq2 PySem.MeetsSeq3
theorem aku(l b:Addr)(items mV:Av)(n n2:Nat)(dd zn:Oa)(sl zI:Array (Option Value))(ns ms:List At)(hi:gf items.toList ns)(hj:gf mV.toList ms)(ok:gP ns ms) :
 Meets (Builtin.«tuple.__lt__» ⟨[.ref l,.ref b],[]⟩)
  (fun _ R s=>s.heap.get? l=some { cls:=.type "tuple",dict:=dd,data:=.seq items n,slots:=sl }/\s.heap.get? b=some { cls:=.type "tuple",dict:=zn,data:=.seq mV n2,slots:=zI } /\
   R (.ok (.ret (.bool (cf ns ms)))) s):=
 .of_wp fun prog w A R s h=>by
  obtain⟨hp,g,d,tk,os⟩:=s;obtain⟨hl,hb,h⟩:=h;have f2:=AutoSeq1.sub_tuple_tuple;have z1:items.size=ns.length:=by rw[←hi.length];simp
  have z2:mV.size=ms.length:=by rw[←hj.length];simp
  wp_walk using wpAny_loadPart' hl,wpAny_loadPart' hb,yj _ (fun rest b s'=>b.1=none/\s'=⟨hp,g,d,tk,os⟩/\∃(vs ws:Lw) (rn mW:List At),rest=vs.zip ws /\
   gf vs rn/\gf ws mW/\gP rn mW/\rn.length+mV.size=mW.length+items.size/\R (.ok (.ret (.bool (cf rn mW)))) ⟨hp,g,d,tk,os⟩) _
  case turn=>
   rintro⟨y,x⟩ rest b s' ⟨kQ,rfl,vs,ws,rn,mW,hz,I8,I9,hok,hlen,hR⟩
   rcases akt I8 I9 hok A.in1 ⟨hp,g,d,tk,os⟩ with h0 | ⟨v,iF,a,DD,w1,IZ,b1,wv,rfl,rfl,rfl,rfl,akv,akw,⟨e,he,Ja⟩,tR,aN⟩
   . rcases h0 with h0 | h0
     . rw[h0,List.zip_nil_left]at hz;cases hz
     . rw[h0,List.zip_nil_right]at hz;cases hz
   . rw[VH]at hz;injection hz with hyx IQ
     injection hyx with hy hx
     subst hy hx;rw[DC]at hR;simp only[bO]at hlen;refine af (he prog w _ _ ?_);cases e with
     | true=>
      rw[aq (Ja.mp rfl)]at hR
      wp_walk
      exact⟨rfl,rfl,_,_,_,_,IQ,akv,akw,tR (Ja.mp rfl),by omega,hR⟩
     | false=>
      rw[ai (fun q=>absurd (Ja.mpr q) cK)]at hR;have hri:=aN prog w
      wp_walk using hri
      exact⟨_,rfl,by simpa using hR⟩
  case fin=>
   rintro⟨b1,b2⟩ s' ⟨kQ,rfl,vs,ws,rn,mW,hz,I8,I9,hok,hlen,hR⟩;simp only at kQ;subst kQ;have h1:=I8.length;have h2:=I9.length;have hv:cf rn mW=decide (items.size<mV.size):=by
    cases rn with
    | nil=>
     cases mW with
     | nil=>
      simp only[ki]at hlen;exact(cH (by omega)).symm
     | cons c u=>
      simp only[ki,bO]at hlen;exact(bG (by omega)).symm
    | cons a t=>
     cases mW with
     | nil=>
      simp only[ki,bO]at hlen;exact(cH (by omega)).symm
     | cons c u=>
      cases vs with
      | nil=>cases h1
      | cons v vs=>
       cases ws with
       | nil=>cases h2
       | cons w1 ws=>rw[VH]at hz;cases hz
   rw[hv]at hR
   wp_walk
   exact⟨_,rfl,by simpa [Builtin.Tuple.tupleCompareSizes]using hR⟩
  case h=>
   exact⟨rfl,rfl,items.toList,mV.toList,ns,ms,rfl,hi,hj,ok,by omega,h⟩
end
section
variable {prog:Program}{w:World}{A:Around}{E:VP}{s:Shared}
theorem aky{l b:Addr}{items mV:Av}{ns ms:List At}{Q:VP}(hl:IsTup s.heap l items)(hb:IsTup s.heap b mV)(hi:gf items.toList ns)(hj:gf mV.toList ms)(ok:gP ns ms)
 (hu:A.units<cLine) (h:Q (.bool (cf ns ms)) s):wpAny (model prog w) A (compareOp .Lt (.ref l) (.ref b)) Q E s:=by
 obtain⟨⟨cls,dd,data,sl⟩,ho,hc,n,hd⟩:=id hl;obtain⟨⟨aC6,zn,data2,zI⟩,zz,lN,n2,hd2⟩:=id hb;simp only at hc hd lN hd2;subst hc hd lN hd2;exact richCompare_meets_room (op:=.Lt) ⟨_,ho,rfl⟩ ⟨_,zz,rfl⟩ PySem.F.slot_tuple_lt PySem.F.entry_tuple_lt (PySem.F.args_tuple_lt_2 _ _) (aku l b items mV n n2 dd zn sl zI ns ms hi hj ok)
  ⟨ho,zz,show Value.bool (cf ns ms)≠Value.notImplemented/\Q (.bool (cf ns ms)) s from ⟨(fun x=>nomatch x),h⟩⟩ hu
end
end HT
namespace L2
open PySem PyProof.Rows
section
variable {n:Nat}{f:Nat->Nat->Bool}(Jb:∀i j,i<n->j<n->i≠j->f i j = !f j i)(tr:∀i j k,i<n->j<n->k<n->f i j=true->f j k=true->f i k=true)
include Jb tr
omit Jb tr in
omit Jb tr in
end
open PySem.Spec
open HT (At cf gP zH kin gf)
section
variable {prog:Program}{w:World}{A:Around}{E:VP}{s:Shared}
end
section
variable {X:Cx}
end
end L2
namespace HT
open PySem PyProof.Rows
section
open PySem.SeqAt
open PySem.AutoSeq1 (wpAny_loadPart')
open PySem.MeetsSeq PySem.MeetsSeq2 PySem.MeetsSeq3
end
section
variable {prog:Program}{w:World}{A:Around}{E:VP}{s:Shared}
end
end HT
namespace L2
open PySem PySem.Spec PyProof.Rows
section
variable {X:Cx}
theorem Q8:cR X (compareOp .Gt) (fun x y H Q=>∃i j,x=.str i/\y=.str j/\Q (.bl (decide (j.cps.toList<i.cps.toList))) H):=by
 intro pins s σ H x y v u Q I rx ry h;obtain⟨i,j,rfl,rfl,q⟩:=h;obtain⟨t,rfl⟩:=rx;obtain⟨t',rfl⟩:=ry;exact PySem.P.gt_str (cS I q rfl)
end
section
variable {prog:Program}{w:World}{A:Around}{E:VP}{s:Shared}{d it:Addr}{es:Array DictEntry}{ep i:Nat}
end
section
variable {X:Cx}{pins:Po}{σ:St}{H:Hp}{s:Shared}
end
section
variable {X:Cx}{e e1 e2 e3 e4:Expr}{te t1 t2 t3 t4:TE}{pos:Pos}
end
section
variable {X:Cx}
end
open PySem.W
section
variable {M:Model}{A:Around}{E:VP}{s:Shared}{base:Heap}{env:Env}{outer:List Env}{L e:Addr}{cls:Value}{dct:Oa}{Q:Unit->Shared->Prop}
end
open PySem.Builtin PySem.Builtin.ObjectAttr
section
variable {prog:Program}{w:World}{A:Around}{E:VP}{h:Heap}{g:Array GenState}{d:Drawn}{t:Nat}{os:OsState}{K:Fg}{C M fI:Addr}{fld:Str}
end
end L2
namespace L2
open PySem PySem.Spec PyProof.Rows PySem.W
section
variable {X:Cx}{pins:Po}{σ:St}{H:Hp}{s:Shared}
end
section
variable {X:Cx}{pins:Po}{σ:St}{H:Hp}{s:Shared}{E:XK}
end
section
variable {P:Program}{w:World}{K:Fg}{mg:Mv}{base:Heap}{N:Ls}{qual:Str}{scope:Scope}{f:Addr}{cd:Value}{A:Around}{outer:List Env}{s0:Shared}{H0:Hp}{E:XK}
end
section
variable {prog:Program}{w:World}{A:Around}{E:VP}{s:Shared}{env:Env}{K:Fg}{C M fI:Addr}{fld:Str}
end
section
variable {P:Program}{w:World}{K:Fg}{mg:Mv}{base:Heap}{N:Ls}{qual:Str}{scope:Scope}{f:Addr}{cd:Value}{A:Around}{outer:List Env}{s0:Shared}{H0:Hp}{E:XK}
end
open PySem.Builtin PySem.Builtin.ObjectAttr PySem.Builtin.Getset_descriptor
section
variable {X:Cx}
end
section
variable {prog:Program}{w:World}{A:Around}{E:VP}{s:Shared}{K:Fg}{D a:Addr}{fld:Str}{v:Value}
end
section
variable {X:Cx}
end
end L2
namespace L2
open PySem PySem.Spec PyProof.Rows
section
variable {X:Cx}
end
open PySem.Builtin.Str in
open PySem.Builtin PySem.Builtin.Str in
section
variable {X:Cx}
end
open HT (At cf gP)
def DE:At->V
 | .inl n=>.int n
 | .inr x=>.str x
theorem DF:∀{as:List At}{us:Lw},aQ (as.map DE) us->HT.gf us as
 | [],us,h=>by cases h;exact .nil
 | .inl n::as,us,h=>by
  cases h with
  | cons r t=>
   obtain⟨tk,rfl⟩:=(show∃tk,_=Value.int n tk from r);exact .int n tk (DF t)
 | .inr x::as,us,h=>by
  cases h with
  | cons r t=>
   obtain⟨tk,rfl⟩:=(show∃tk,_=Value.str x tk from r);exact .str x tk (DF t)
section
variable {X:Cx}{pins:Po}{σ:St}{H0:Hp}{l q I S:Addr}{as:List Addr}{ks:Nat->List At}{R:Result->Shared->Prop}{Q:VP}{E:VP}
def Jc(X:Cx)(q:Addr)(as:List Addr)(ks:Nat->List At)(H0:Hp):Prop:=∀(i:Nat) (a:Addr),as[i]?=some a->∀(pins:Po) (σ:St) (H:Hp) (s:Shared),Inv X pins σ H s->ag H0 H ->
 wpAny (model X.prog X.w) X.A.in1 (call (.ref q) [.ref a]) (fun u s'=>∃kt H',Inv X pins σ H' s'/\u=.ref kt/\ag H H'/\H' kt=some (.tup ((ks i).map DE))) (fun _ _=>False) s
theorem Inv.isL{H:Hp}{s:Shared}(I:Inv X pins σ H s)(h:H l=some (.lst (as.map V.ref))):s.heap.IsList l (as.map Value.ref).toArray:=by
 obtain⟨its,r,p,_⟩:=I.list (ae.of (K:=X.K) h);rw[Qk r]at p;exact p.isList
theorem eU.of{H H':Hp}{b:Addr}(f:eU X pins H b)(n:H' b=none):eU X pins H' b:=⟨n,f.2⟩
theorem Inv.turnF{H:Hp}{s:Shared}{h':Heap}{t':Nat}{b:Addr}(I:Inv X pins σ H s)(f:eU X pins H b)(k:∀c o,c≠b->s.heap.get? c=some o->h'.get? c=some o):Inv X pins σ H { s with heap:=h',toks:=t' }:=
 I.turned k f.1 f.2.1 f.2.2.2.1 f.2.2.2.2.1 f.2.2.2.2.2
theorem akz(hc:X.calm=true)(hu:X.A.in1.units<cLine)(zJ:l≠I)(ui:S≠I)(DG:H0 l=some (.lst (as.map V.ref)))(ok:∀i j,gP (ks i) (ks j))(tr:∀a b c,cf (ks a) (ks b)=true->cf (ks b) (ks c)=true->cf (ks a) (ks c)=true)(wC:∀a,cf (ks a) (ks a)=false)
 (turn:Jc X q as ks H0) (hR:∀i a H' s',as[i]?=some a->(∀j,j<as.length->cf (ks j) (ks i)=false)->Inv X pins σ H' s'->ag H0 H'->R (.ok (.ret (.ref a))) s') :
 ∀(r j i:Nat) (H:Hp) (s:Shared) (ab kb:Addr) (c:Nat),as.length - (j+1)=r->j+1<=as.length->Inv X pins σ H s->ag H0 H->eU X pins H I->eU X pins H S->s.heap.get? S=some (seqObj "list" #[.ref ab,.ref kb] c)->s.heap.IsListIter I l (j+1) ->
  as[i]?=some ab->H kb=some (.tup ((ks i).map DE))->(∀j',j'<=j->cf (ks j') (ks i)=false)->codeAny (model X.prog X.w) X.A (.builtin "min.loop" ⟨[.ref I,.ref q,.ref S],[]⟩) R s:=by
 have zK:(toString "min"++toString ".loop":String)="min.loop":=by decide
 have hsz:(as.map Value.ref).toArray.size=as.length:=by simp
 intro r
 induction r with
 | zero=>
  intro j i H s ab kb c hr hj Iv sm fI fS hS hit jE Jd best;have W:=N7 (prog:=X.prog) (w:=X.w) (A:=X.A.in1) (Iv.ok.hd hc) I l zJ (as.map Value.ref).toArray;have jc:j+1=as.length:=by omega
  refine tm Wp ?_;rw[vP yD _];show wpAny _ X.A.in1 (seqItems? (.ref S) >>= _) _ _ _;refine af (ym hS rfl ?_);show wpAny _ X.A.in1 (tryCatch (pyNext (.ref I)) _ >>= _) _ _ _;refine af (Cu (W.done _ _ _ ⟨by rw[hsz,←jc];exact hit,Iv.isL (sm _ _ DG)⟩ fun h' kP fA=>?_));have I1:Inv X pins σ H { s with heap:=h',toks:=kP }:=Iv.turnF fI fun b o hb e=>fA b o (by simpa using hb) e;have hZ:=fA S _ (by simpa using ui) hS;have s1:=lB h' S (Obj.mapSeq fun _=>(#[]:Av));show wpAny _ X.A.in1 (updateSeq S (fun _=>#[]) >>= _) _ _ _;refine af ?_;refine GX hZ rfl (af (Ob (au ?_)));exact hR i ab H _ jE (fun j' rp=>best j' (by omega)) (I1.turnF (t':=kP) fS fun b o hb e=>(s1.2 b hb).trans e) sm
 | succ r ih=>
  intro j i H s ab kb c hr hj Iv sm fI fS hS hit jE Jd best;have W:=N7 (prog:=X.prog) (w:=X.w) (A:=X.A.in1) (Iv.ok.hd hc) I l zJ (as.map Value.ref).toArray;have aN:j+1<as.length:=by omega
  refine tm Wp ?_;rw[vP yD _];show wpAny _ X.A.in1 (seqItems? (.ref S) >>= _) _ _ _;refine af (ym hS rfl ?_);show wpAny _ X.A.in1 (tryCatch (pyNext (.ref I)) _ >>= _) _ _ _;refine af (Cu (W.item (j+1) _ _ _ (by rw[hsz];exact aN) ⟨hit,Iv.isL (sm _ _ DG)⟩ fun v h' kP hP zB fA=>?_));have iG:(as.map Value.ref)[j+1]?=some v:=by simpa using hP
  obtain⟨a,ha,rfl⟩:∃a,as[j+1]?=some a/\v=.ref a:=by
   rw[db]at iG;cases e:as[j+1]? with
   | none=>rw[e]at iG;cases iG
   | some a=>rw[e]at iG;cases iG;exact⟨a,rfl,rfl⟩
  obtain⟨rq,zL,oF,ug⟩:=id zB.1;have I1:Inv X pins σ H { s with heap:=h',toks:=kP }:=Iv.turnF fI fun b o hb e=>fA b o (by simpa using hb) e;have zM:h'.get? S=some (seqObj "list" #[.ref ab,.ref kb] c):=fA S _ (by simpa using ui) hS;have Ip:Inv X (pins++tG [I,S] h') σ H { s with heap:=h',toks:=kP }:=I1.pinned (fp:=[I,S]) (fun b hb=>by
   rcases aX.mp hb with e | e
   . rw[e];exact fI
   . rw[bj.mp e];exact fS) (fun b hb=>by
   rcases aX.mp hb with e | e
   . rw[e];exact⟨rq,zL,fun v z=>by rw[ug]at z;cases z⟩
   . rw[bj.mp e];exact⟨_,zM,fun v z=>nomatch z⟩)
  show wpAny _ X.A.in1 (tryCatch (holding [.ref a] (call (.ref q) [.ref a])) _ >>= _) _ _ _;refine af (Cu (jA (eg (turn (j+1) a ha _ σ H _ Ip sm) (fun x s2 he=>?_) fun _ _ hF=>hF.elim)));obtain⟨kt,H2,uj,rfl,bT,wD⟩:=he;have pI:=uj.pin (I,rq) (eS _ (eS _ (qT (by simp) zL)));have pS:=uj.pin (S,seqObj "list" #[.ref ab,.ref kb] c) (eS _ (eS _ (qT (by simp) zM)));have I2:=uj.unpinned;have Q9:=sm.trans bT;have DH:eU X pins H2 I:=fI.of pI.2.1;have wE:eU X pins H2 S:=fS.of pS.2.1;have akA:s2.heap.IsListIter I l (j+1+1):=⟨rq,pI.1,oF,ug⟩;obtain⟨Q5,r1,p1,_⟩:=I2.tuple (aW.of (K:=X.K) wD);obtain⟨it2,r2,p2,_⟩:=I2.tuple (aW.of (K:=X.K) (bT _ _ Jd));show wpAny _ X.A.in1 (tryCatch (holding [.ref a,.ref kt] (richCompare .Lt (.ref kt) (.ref kb) >>= _)) _ >>= _) _ _ _;refine af (Cu (jA (af (HT.aky p1 p2 (DF r1) (DF r2) (ok _ _) hu ?_))));refine af (jA (yk ?_));refine af (Ob (au ?_))
  by_cases kQ:cf (ks (j+1)) (ks i)=true
  . have s1:=lB s2.heap S (Obj.mapSeq fun _=>#[.ref a,.ref kt]);obtain⟨c2,lN⟩:∃c2,(s2.heap.update S (Obj.mapSeq fun _=>#[.ref a,.ref kt])).get? S=some (seqObj "list" #[.ref a,.ref kt] c2):=⟨_,get?_update_seq pS.1 fun _=>#[.ref a,.ref kt]⟩;simp only[kQ,vJ];refine af ?_;refine GX pS.1 rfl (af (Ob ?_));rw[zK];refine au ⟨sZ yD _,ih (j+1) (j+1) H2 _ a kt c2 (by omega) aN (I2.turnF (t':=s2.toks) wE fun b o hb e=>(s1.2 b hb).trans e) Q9 DH wE lN ⟨rq,(s1.2 I ui.symm).trans pI.1,oF,ug⟩ ha wD fun j' rp=>?_⟩
    by_cases e:j'=j+1
    . subst e;exact wC _
    . cases z:cf (ks j') (ks (j+1)) with
      | false=>rfl
      | true=>have:=tr _ _ _ z kQ;rw[best j' (by omega)]at this;cases this
  . have fO:cf (ks (j+1)) (ks i)=false:=by simpa using kQ
    simp only[fO,qB,mw];refine af (Ob ?_);rw[zK];refine au ⟨sZ yD _,ih (j+1) i H2 _ ab kb c (by omega) aN I2 Q9 DH wE pS.1 akA jE (bT _ _ Jd) fun j' rp=>?_⟩
    by_cases e:j'=j+1
    . subst e;exact fO
    . exact best j' (by omega)
theorem akB{H:Hp}{s:Shared}(Iv:Inv X pins σ H s)(hc:X.calm=true)(hu:X.A.in1.units<cLine)(hl:H l=some (.lst (as.map V.ref)))(cq:0<as.length)(ok:∀i j,gP (ks i) (ks j))(tr:∀a b c,cf (ks a) (ks b)=true->cf (ks b) (ks c)=true->cf (ks a) (ks c)=true)(wC:∀a,cf (ks a) (ks a)=false)
 (turn:Jc X q as ks H) (hQ:∀i a H' s',as[i]?=some a->(∀j,j<as.length->cf (ks j) (ks i)=false)->Inv X pins σ H' s'->ag H H'->Q (.ref a) s') :
 wpAny (model X.prog X.w) X.A (call (.builtin "min") [.ref l] [(Str.ofString "key",.ref q)]) Q E s:=by
 have zK:(toString "min"++toString ".loop":String)="min.loop":=by decide
 have CB:=Iv.isL hl;obtain⟨ol,Dy,_⟩:=id CB;have hll:l<s.heap.objs.size:=bv Dy;have hsz:(as.map Value.ref).toArray.size=as.length:=by simp
 refine kmk_tree PySem.F.kind_min PySem.F.plain_min PySem.F.entry_min (kmk_min_key _ _) ?_;show wpAny _ X.A.in1 (Builtin.Builtins.bindParams "min" ["key","default"] 0 ⟨[],[(Str.ofString "key",.ref q)]⟩ >>= _) _ _ s;refine af (wpAny_of_eq (show Builtin.Builtins.bindParams "min" ["key","default"] 0 ⟨[],[(Str.ofString "key",.ref q)]⟩=pure [some (.ref q),none] from rfl) ?_);refine af (au ?_);refine af (VL CB ?_);refine af (V6 ?_ (dw _));rw[zK];refine au ⟨sZ yD _,?_⟩;have hS:(s.heap.push { cls:=.type "list_iterator",data:=.fields #[.ref l,.int 0 0] }).objs.size=s.heap.objs.size+1:=size_push' ..;have zJ:l≠s.heap.objs.size:=cV hll;have ui:(s.heap.push { cls:=.type "list_iterator",data:=.fields #[.ref l,.int 0 0] }).objs.size≠s.heap.objs.size:=by rw[hS];exact ke (yq _)
 have fI:eU X pins H s.heap.objs.size:=Iv.fpOk (aJ _) (Iv.hok.fresh (aJ _));have fS:eU X pins H (s.heap.push { cls:=.type "list_iterator",data:=.fields #[.ref l,.int 0 0] }).objs.size:=Iv.fpOk (by rw[hS];exact sV _) (Iv.hok.fresh (by rw[hS];exact sV _));have gI:((s.heap.push { cls:=.type "list_iterator",data:=.fields #[.ref l,.int 0 0] }).push (seqObj "list" #[] 0)).get? s.heap.objs.size=some { cls:=.type "list_iterator",data:=.fields #[.ref l,.int 0 0] }:=
  bR _ (dW _ rfl)
 have gS:((s.heap.push { cls:=.type "list_iterator",data:=.fields #[.ref l,.int 0 0] }).push (seqObj "list" #[] 0)).get? (s.heap.push { cls:=.type "list_iterator",data:=.fields #[.ref l,.int 0 0] }).objs.size=some (seqObj "list" #[] 0):=dW _ rfl;have I0:Inv X pins σ H { s with heap:=(s.heap.push { cls:=.type "list_iterator",data:=.fields #[.ref l,.int 0 0] }).push (seqObj "list" #[] 0) }:=Iv.kept (t':=s.toks) fun b o e=>bR _ (bR _ e);generalize (s.heap.push { cls:=.type "list_iterator",data:=.fields #[.ref l,.int 0 0] }).objs.size=S at *;generalize s.heap.objs.size=I at *;generalize (s.heap.push { cls:=.type "list_iterator",data:=.fields #[.ref l,.int 0 0] }).push (seqObj "list" #[] 0)=h0 at *;have W:=N7 (prog:=X.prog) (w:=X.w) (A:=X.A.in1) (Iv.ok.hd hc) I l zJ (as.map Value.ref).toArray;refine tm Wp ?_;rw[vP yD _];show wpAny _ X.A.in1 (seqItems? (.ref S) >>= _) _ _ _;refine af (ym gS rfl ?_);show wpAny _ X.A.in1 (tryCatch (pyNext (.ref I)) _ >>= _) _ _ _;refine af (Cu (W.item 0 _ _ _ (by rw[hsz];exact cq) ⟨⟨_,gI,rfl,rfl⟩,I0.isL hl⟩ fun v h' kP hP zB fA=>?_));have iG:(as.map Value.ref)[0]?=some v:=by simpa using hP
 obtain⟨a,ha,rfl⟩:∃a,as[0]?=some a/\v=.ref a:=by
  rw[db]at iG;cases e:as[0]? with
  | none=>rw[e]at iG;cases iG
  | some a=>rw[e]at iG;cases iG;exact⟨a,rfl,rfl⟩
 obtain⟨rq,zL,oF,ug⟩:=id zB.1;have I1:Inv X pins σ H { s with heap:=h',toks:=kP }:=I0.turnF fI fun b o hb e=>fA b o (by simpa using hb) e;have zM:h'.get? S=some (seqObj "list" #[] 0):=fA S _ (by simpa using ui) gS;have Ip:Inv X (pins++tG [I,S] h') σ H { s with heap:=h',toks:=kP }:=I1.pinned (fp:=[I,S]) (fun b hb=>by
  rcases aX.mp hb with e | e
  . rw[e];exact fI
  . rw[bj.mp e];exact fS) (fun b hb=>by
  rcases aX.mp hb with e | e
  . rw[e];exact⟨rq,zL,fun v z=>by rw[ug]at z;cases z⟩
  . rw[bj.mp e];exact⟨_,zM,fun v z=>nomatch z⟩)
 show wpAny _ X.A.in1 (tryCatch (holding [.ref a] (call (.ref q) [.ref a])) _ >>= _) _ _ _;refine af (Cu (jA (eg (turn 0 a ha _ σ H _ Ip (ag.refl H)) (fun x s2 he=>?_) fun _ _ hF=>hF.elim)));obtain⟨kt,H2,uj,rfl,bT,wD⟩:=he;have pI:=uj.pin (I,rq) (eS _ (eS _ (qT (by simp) zL)));have pS:=uj.pin (S,seqObj "list" #[] 0) (eS _ (eS _ (qT (by simp) zM)));have I2:=uj.unpinned;have DH:eU X pins H2 I:=fI.of pI.2.1;have wE:eU X pins H2 S:=fS.of pS.2.1;have s1:=lB s2.heap S (Obj.mapSeq fun _=>#[.ref a,.ref kt]);obtain⟨c2,lN⟩:∃c2,(s2.heap.update S (Obj.mapSeq fun _=>#[.ref a,.ref kt])).get? S=some (seqObj "list" #[.ref a,.ref kt] c2):=⟨_,get?_update_seq pS.1 fun _=>#[.ref a,.ref kt]⟩;show wpAny _ X.A.in1 (updateSeq S (fun _=>#[.ref a,.ref kt]) >>= _) _ _ _;refine af ?_;refine GX pS.1 rfl ?_;rw[zK];refine au ⟨sZ yD _,akz (H0:=H) hc hu zJ ui hl ok tr wC turn (fun i a H' s' e b I' sm=>hQ i a H' s' e b I' sm) _ 0 0 H2 _ a kt c2 rfl cq (I2.turnF (t':=s2.toks) wE fun b o hb e=>(s1.2 b hb).trans e) bT DH wE lN ⟨rq,(s1.2 I ui.symm).trans pI.1,oF,ug⟩ ha wD fun j' rp=>?_⟩;have e:j'=0:=by omega
 subst e;exact wC _
end
def lY(P:Addr)(H H':Hp):Prop:=∀b o,H b=some o->b≠P->H' b=some o
def akD(P:Addr)(qual:Str)(lpos:Pos)(x:Str)(te tb:TE):TE:=fun σ H Q=>kC te fh σ H fun us H1=>∃(l:Addr) (as:List Addr) (ks:Nat->List At),us=[.ref l]/\l≠P/\H1 l=some (.lst (as.map V.ref))/\0<as.length/\(∀i j,gP (ks i) (ks j)) /\
 (∀a b c,cf (ks a) (ks b)=true->cf (ks b) (ks c)=true->cf (ks a) (ks c)=true)/\(∀a,cf (ks a) (ks a)=false)/\aH H1 P lpos qual /\
 (∀i a,as[i]?=some a->∀H2,lY P H1 H2->tb [some (.ref a)] H2 fun v H3=>∃kt,v=.ref kt/\ag H2 H3/\H3 kt=some (.tup ((ks i).map DE))) /\
 ∀i a H',as[i]?=some a->(∀j,j<as.length->cf (ks j) (ks i)=false)->lY P H1 H'->aH H' P lpos qual->Q (.ref a) H'
section
variable {X:Cx}{c P:Addr}{params:Arguments}{body e:Expr}{scope:Scope}{p pos lpos yU:Pos}{qual x:Str}{k:Nat}{te tb:TE}
theorem aH.same{H H':Hp}(s:ag H H')(h:aH H P lpos qual):aH H' P lpos qual:=by
 rcases h with h | ⟨c',h1,h2⟩
 . exact .inl (s _ _ h)
 . exact .inr ⟨c',s _ _ h1,s _ _ h2⟩
theorem akE(he:PE X e te)(S:aR [x] [x] scope)(hr:b9 (k+1) X.A.in1)(hc:X.calm=true)(DA:X.env.code=.ref c)(hd:PySem.W.codeHdIn X.K c P=true)(hb:X.base.BuiltinsAt X.mg P)(hg:Gl X "min")(hm:X.mg "min"=none)
 (oM:∀(q c':Addr) (A:Around) (outer:List Env) (s:Shared) (H:Hp) (E:XK),PE (kF al X.prog X.w X.K X.mg X.base [x] qual scope q (.ref c') A outer s H E) body tb)
 (Je:∀(pm gN u:Value) (c':Addr),bindArgs (PySem.W.kla_fn "<lambda>" qual params body scope [] pm (.ref c') gN) ⟨[u],[]⟩=pure ([x].zip [u]))
 (hq:X.env.qual ++ "<lambda>"=qual:=by rfl) (DB:X.env.globals=mainGlobals:=by rfl) (rm:closureFor scope X.env=pure []:=by rfl) (IV:defaultsOf params X.env=([],[]):=by rfl)
 (h1:backTo pos (starEach [e] X.env)=(false,eval e X.env)::backTo pos (starEach [] X.env):=by rfl) (h2:starEach [e] X.env=[(false,eval e X.env)]:=by rfl) (h3:(backTo pos (starEach [e] X.env)).any (·.1)=false:=by rfl) :
 PE X (.Call (.Name "min" p) [e] [⟨some "key",.Lambda params body scope lpos,yU⟩] pos) (akD P qual lpos x te tb):=by
 intro pins s σ H Q I h;have hu:X.A.in1.units<cLine:=by have:=hr.un;omega
 refine yr (v5 I hg hm boot_min ?_ (by decide) (by decide));have ha:PA X [e] (kC te fh):=aa he ac h2;refine callWith_kw (thn (ha pos pins s σ H _ I h) fun us s1 akF=>akF.elim fun vs akG=>akG.elim fun H1 akH=>akH.elim fun I1 akI=>akI.elim fun r akJ=>akJ.elim fun l akK=>akK.elim fun as akL=>akL.elim fun ks akM=>akM.elim fun e1 akN=>akN.elim fun lP akO=>akO.elim fun hl akP=>akP.elim fun cq akQ=>akQ.elim fun ok akR=>akR.elim fun tr akS=>akS.elim fun wC akT=>akT.elim fun zN akU=>akU.elim fun akV fin=>?_) h1 h3;subst e1;obtain⟨u1,rfl,ru⟩:=vals1 r;cases ru;have hk:PK X [⟨some "key",.Lambda params body scope lpos,yU⟩] (kC (Q1 P qual params body scope lpos) fh):=abi (aj4 DA hd hb hq DB rm IV) abh;refine thn (hk pos pins s1 σ H1 (fun zs H2=>∃q c',zs=[.ref q]/\lY P H1 H2/\aH H2 P lpos qual/\H2 c'=some (zC c' qual)/\H2 q=some (zD q c' qual params body scope)) I1 ⟨zN,fun q c' H2 nq nP kp Jf jG kE=>⟨q,c',rfl,kp,Jf,jG,kE⟩⟩) fun ws s2 akW=>akW.elim fun zs akX=>akX.elim fun H2 akY=>akY.elim fun I2 akZ=>akZ.elim fun rz ak0=>ak0.elim fun q ak1=>ak1.elim fun c' ak2=>ak2.elim fun ez ak3=>ak3.elim fun kp ak4=>ak4.elim fun Jf ak5=>ak5.elim fun lN um=>?_;subst ez;obtain⟨w1,rfl,rw1⟩:=vals1 rz;cases rw1;have turn:Jc X q as ks H2:=by
  intro i a ha G5 σ' H3 s3 I3 sm;obtain⟨pm,gN,ho⟩:=(show b8 X.prog X.w H3 s3.heap q (zD q c' qual params body scope) from I3.hok q _ (sm _ _ um)).1;have IT:s3.heap.CodeRec (.ref c') qual:=(show b8 X.prog X.w H3 s3.heap c' (zC c' qual) from I3.hok c' _ (sm _ _ lN)).1;refine GL (oq (aj2 (E:=E0) (vs:=[.ref a]) (us:=[.ref a]) S hr I3.env0.in1 ho IT (Je pm gN _ c') rfl (.cons rfl .nil) (oM q c' _ _ _ _ _) (akV i a ha H3 fun b o e n=>sm _ _ (kp b o e n))) fun r s' mX=>?_);cases r with
  | error e=>exact(show False from mX).elim
  | ok fl=>
   cases fl with
   | ret u=>
    obtain⟨v,H',I',rv,kt,ev,sm',wD⟩:=I3.after mX;subst ev;cases rv;exact⟨kt,H',I',rfl,sm',wD⟩
   | next=>exact False.elim mX
   | brk=>exact False.elim mX
   | cont=>exact False.elim mX
 refine akB I2 hc hu (kp _ _ hl lP) cq ok tr wC turn fun i a H' s' ha best I' sm=>?_;exact⟨.ref a,H',I',rfl,fin i a H' ha best (fun b o e n=>sm _ _ (kp b o e n)) (Jf.same sm)⟩
end
end L2
namespace L2
open PySem PySem.Spec PyProof.Rows
section
variable {X:Cx}{pins:Po}{σ:St}{H0:Hp}{l q I S:Addr}{as:List Addr}{kA:Nat->Hp->Addr->Prop}{g:Nat->Nat->Bool}{Rb:Nat->Prop}{R:Result->Shared->Prop}{Q:VP}{E:VP}
end
end L2
namespace HT
open PySem PyProof.Rows
section
open PySem.SeqAt
open PySem.AutoSeq1 (wpAny_loadPart')
open PySem.MeetsSeq PySem.MeetsSeq2 PySem.MeetsSeq3
end
section
variable {prog:Program}{w:World}{A:Around}{E:VP}{s:Shared}
end
end HT
namespace L2
open PySem PySem.Spec PyProof.Rows
section
variable {X:Cx}
end
open PySem.W (tabObj)
section
variable {X:Cx}{c P:Addr}{params:Arguments}{body:Expr}{scope:Scope}{clos:List (Str×Addr)} {pos:Pos}{qual:Str}
end
end L2
namespace L2
open PySem PySem.Spec PyProof.Rows
open PySem.W (envX)
section
variable {X:Cx}{pins:Po}{σ:St}{H:Hp}{s:Shared}{x:Str}{be:Ls}{js:List Nat}{scope:Scope}{q c':Addr}{qual:Str}{params:Arguments}{body:Expr}{pm gN:Value}{v:V}{u:Value}{A:Around}{k:Nat}{Q:VK}{E:XK}{t:TE}
end
section
variable {X:Cx}{c P:Addr}{params:Arguments}{body e:Expr}{scope:Scope}{p pos lpos yU:Pos}{qual x:Str}{be:Ls}{js:List Nat}{k:Nat}{te tb:TE}
end
end L2
namespace L2
open PySem PySem.Spec PyProof.Rows
section
variable {X:Cx}{e e1 e2 e3:Expr}{te t1 t2 t3:TE}{pos:Pos}
end
open PySem.W (tabObj CodeHd)
theorem ak8{P:Program}{w:World}{K:Fg}{mg mb:Mv}{CX:hU}{k:Nat}{fa a Pt c:Addr}{fd:Fy}{x qual:Str}{lpos:Pos}{sp:Sp}{s₁:Shared}{vs:Lw}{ns:List Int}
 (KX:K.In s₁.heap) (kL:s₁.heap.Ns mainGlobals mg) (hb:s₁.heap.Ns builtinsNs mb) (ia:∀x:Str,x≠"__name__"->mb x=bootBuiltins x) (ak9:s₁.heap.NoLimit) (hg:s₁.gens = #[])
 (bmain:∃bm ob,mg "__builtins__"=some (.ref bm)/\bm≠builtinsNs/\s₁.heap.get? bm=some ob/\ob.cls=.type "module"/\ob.dict=some builtinsNs/\ob.data=.plain)
 (hP:s₁.heap.get? Pt=some (tabObj #[])) (hC:CodeHd s₁.heap c Pt) (Jg:K.lookup Pt=none)
 (ha:s₁.heap.get? a=some { cls:=.type "list",data:=.seq vs.toArray }) (hi:IntsAre vs ns) (hl:ns.length<=sizeLine) (hr:b9 k callerA)
 (F:∀base:Heap,K.In base->base.Ns mainGlobals mg->base.BuiltinsAt mg Pt->aj P w K mg base CX k fa fd [x] sp) (Je:∀(s:Shared) (u:Value),BindsTo s fd ⟨[u],[]⟩ [(x,u)])
 (kG:∀H:Hp,H Pt=some (gO Pt #[])->ae K H a (ns.map V.int)->sp [.ref a] H (fun v H'=>v=.bl true/\aH H' Pt lpos qual) fun _ _ _=>False)
 (Jh:∀H e s',CX [] H s₁ (fun _ _ _=>False) e s'->False) :
 codeAny (model P w) callerA (.call (.ref fa) ⟨[.ref a],[]⟩) (fun r s'=>r=.ok (.ret (.bool true))/\OldK s₁.heap s'.heap/\s'.os=s₁.os/\AllBare s'.gens) s₁:=by
 have rv:=Ps hi;have ala:=hi.length;have Ra:a≠Pt:=fun z=>by rw[z,hP]at ha;cases ha
 have core:∀H:Hp,H Pt=some (gO Pt #[])->(∀b,b≠Pt->H b=none\/∃o xs,H b=some (.frz o (.lst xs)))->ae K H a (ns.map V.int)->bY P w H s₁.heap->(∀b,H b≠none->b=a\/b=Pt)->(H a≠none->K.lookup a=none) ->
  codeAny (model P w) callerA (.call (.ref fa) ⟨[.ref a],[]⟩) (fun r s'=>r=.ok (.ret (.bool true))/\OldK s₁.heap s'.heap/\s'.os=s₁.os/\AllBare s'.gens) s₁:=by
  intro H hT hO hS hok hA hK;have Ji:∀{b:Addr}{o:Obj},s₁.heap.get? b=some o->H b=none->(mB s₁.heap H).get? b=some o:=fun e n=>Xb e n;have Rc:∀{b:Addr}{o:Obj},s₁.heap.get? b=some o->(∀it n,o.data≠.seq it n)->(∀ps,o.data≠.fields ps)->H b=none:=fun {b o} e d1 d2=>by
   cases q:H b with
   | none=>rfl
   | some u=>
    rcases hA b (by rw[q];simp) with e' | e'
    . subst e';rw[ha]at e;cases e;exact absurd rfl (d1 _ _)
    . subst e';rw[hP]at e;cases e;exact absurd rfl (d2 _)
  have DI:∀{b:Addr}{m:Mv},s₁.heap.Ns b m->(mB s₁.heap H).Ns b m:=fun {b m} ⟨o,es,ep,e,d,r⟩=>⟨o,es,ep,Ji e (Rc e (fun it n z=>by rw[d]at z;cases z) fun ps z=>by rw[d]at z;cases z),d,r⟩;have Rf:K.In (mB s₁.heap H):=fun b o e=>Ji (KX b o e) (by
   cases q:H b with
   | none=>rfl
   | some u=>
    rcases hA b (by rw[q];simp) with e' | e'
    . subst e';rw[hK (by rw[q];simp)]at e;cases e
    . subst e';rw[Jg]at e;cases e)
  have hM:Mod K mg (mB s₁.heap H):=⟨Rf,DI kL,⟨mb,DI hb,ia⟩,ak9.elim fun mc alb=>alb.elim fun h1 h2=>⟨mc,DI h1,h2⟩⟩;have e0:kD P w K mg (mB s₁.heap H) callerA [] s₁ H:=⟨rfl,hM,fun b o e=>Xc e,Cb (Xa _ _),trivial,fun b hb=>absurd (show b∈([]:List Addr) from hb) (by simp),hok,.of_eq hg⟩;have hBt:(mB s₁.heap H).BuiltinsAt mg Pt:=by
   obtain⟨bm,ob',b1,b2,b3,b4,b5,b6⟩:=bmain;refine⟨bm,ob',b1,b2,fun z=>?_,fun z=>?_,Ji b3 (Rc b3 (fun it n z=>by rw[b6]at z;cases z) fun ps z=>by rw[b6]at z;cases z),b4,b5,b6⟩
   . obtain⟨o,es,ep,e,d,_⟩:=kL;rw[z,e]at b3;cases b3;rw[d]at b6;cases b6
   . rw[z,hP]at b3;cases b3;cases b6
  refine oq ((F _ Rf (DI kL) hBt).run callerA [] s₁ H ⟨[.ref a],[]⟩ [.ref a] [.ref a] _ _ hr e0 (Je s₁ (.ref a)) (.cons rfl .nil) (kG H hT hS)) fun r s' h=>?_;cases r with
  | error e=>exact(Jh H e s' h).elim
  | ok fl=>
   cases fl with
   | next=>exact False.elim h
   | brk=>exact False.elim h
   | cont=>exact False.elim h
   | ret u=>
    obtain⟨v,H',os,bare,un,tR,r',q',tb⟩:=h;subst q';obtain rfl:u=Value.bool true:=r';have old:∀b o,s₁.heap.get? b=some o->b≠Pt->s'.heap.get? b=some o:=fun b o e nb=>by
     cases q:H b with
     | none=>exact un.keep b o e q (by intro z;exact absurd (show b∈([]:List Addr) from z) (by simp)) (by simp)
     | some u=>
      rcases hO b nb with z | ⟨ob,xs,z⟩
      . rw[q]at z;cases z
      . have z2:=un.frzs b ob _ z;obtain⟨e1,_⟩:=hok b _ z;obtain⟨e2,_⟩:=tR b _ z2;rw[e]at e1;cases e1;exact e2
    have tab:s'.heap.get? Pt=some (tabObj #[])\/∃more,s'.heap.get? Pt=some (tabObj (#[]++more)):=by
     rcases tb with z | ⟨c',z,_⟩
     . exact .inl (show b8 P w H' s'.heap Pt (gO Pt #[]) from tR Pt _ z).1
     . exact .inr ⟨_,by rw[Array.empty_append];exact(show b8 P w H' s'.heap Pt (gO Pt _) from tR Pt _ z).1⟩
    refine⟨rfl,⟨fun b o e=>?_,fun b o e=>?_⟩,os,bare⟩
    . by_cases nb:b=Pt
      . subst nb;rw[hP]at e;cases e
        rcases tab with z | ⟨more,z⟩
        . exact .inl z
        . exact .inr (.inl ⟨(hC.tab hP).isCodeTable,rfl,#[],more,rfl,z⟩)
      . exact .inl (old b o e nb)
    . by_cases nb:b=Pt
      . subst nb
        rcases tab with z | ⟨more,z⟩
        . exact⟨_,z⟩
        . exact⟨_,z⟩
      . exact⟨o,old b o e nb⟩
 have rA:∀H:Hp,H Pt=some (gO Pt #[])->b8 P w H s₁.heap Pt (gO Pt #[]):=fun H _=>zE hP hP fun h1 h2 z k=>k _ z;cases hk:K.lookup a with
 | some o=>
  have e:=KX a o hk;rw[ha]at e;cases e;refine core (fun b=>if b=Pt then some (gO Pt #[]) else none) (aq rfl) (fun b nb=>.inl (ai nb)) (.inr ⟨_,vs.toArray,_,hk,rfl,rfl,rfl,by rw[fc,ala];exact hl,by simpa using rv⟩) (fun b u z=>?_) (fun b z=>?_) fun z=>absurd (ai Ra) z
  . by_cases hb:b=Pt
    . have z':=(aq hb).symm.trans z;cases z';subst hb;exact rA _ (aq rfl)
    . have z':=(ai hb).symm.trans z;cases z'
  . by_cases hb:b=Pt
    . exact .inr hb
    . exact absurd (ai hb) z
 | none=>
  refine core (fun b=>if b=Pt then some (gO Pt #[]) else if b=a then some (.frz { cls:=.type "list",data:=.seq vs.toArray } (.lst (ns.map V.int))) else none) (aq rfl) (fun b nb=>?_) (.inl (.inr ⟨{ cls:=.type "list",data:=.seq vs.toArray },by show(if a=Pt then _ else if a=a then _ else _)=_;rw[ai Ra,aq rfl]⟩)) (fun b u z=>?_) (fun b z=>?_) fun _=>hk
  . show(if b=Pt then _ else if b=a then _ else _)=_\/∃o xs,(if b=Pt then _ else if b=a then _ else _)=_;rw[ai nb]
    by_cases hb:b=a
    . exact .inr ⟨_,_,aq hb⟩
    . exact .inl (ai hb)
  . have z:(if b=Pt then some (gO Pt #[]) else if b=a then some (.frz { cls:=.type "list",data:=.seq vs.toArray } (.lst (ns.map V.int))) else none)=some u:=z
    by_cases hb:b=Pt
    . rw[aq hb]at z;cases z;subst hb;exact rA _ (aq rfl)
    . rw[ai hb]at z
      by_cases fO:b=a
      . rw[aq fO]at z;cases z;subst fO;exact⟨ha,by rw[am];exact hl,vs,_,rv,ha⟩
      . rw[ai fO]at z;cases z
  . have z:(if b=Pt then some (gO Pt #[]) else if b=a then some (HO.frz { cls:=.type "list",data:=.seq vs.toArray } (.lst (ns.map V.int))) else none)≠none:=z
    by_cases hb:b=Pt
    . exact .inr hb
    . rw[ai hb]at z
      by_cases fO:b=a
      . exact .inl fO
      . rw[ai fO]at z;exact absurd rfl z
theorem ale{l:PySem.W.OpenLaw}{n k:Nat}{q:Program}{loose:Ls}{XP:(Mv)->Heap->Prop}{YP:World->Heap->Prop}{d:DefRec}{K:Params->Fg}{CX:World->hU}{sp:World->Sp}{x qual:Str}{lpos:Pos}{Pt:Addr}
 (hn:l.most=some n) (yR:n<=sizeLine) (za:d.params.defaults=[]) (hr:b9 k callerA)
 (hY:∀(w:World) (h:Heap),YP w h->(K w.params).In h/\h.get? Pt=some (tabObj #[]))
 (F:∀(w:World) (mg:Mv) (fa:Addr) (h:Heap),(K w.params).In h->h.Ns mainGlobals mg->mg d.name=some (.ref fa) ->
  ∃(fd:Fy) (c:Addr),(∀(s:Shared) (u:Value),BindsTo s fd ⟨[u],[]⟩ [(x,u)])/\PySem.W.codeHdIn (K w.params) c Pt=true/\(K w.params).lookup Pt=none /\
   ∀base:Heap,(K w.params).In base->base.Ns mainGlobals mg->base.BuiltinsAt mg Pt->aj l.prog w (K w.params) mg base (CX w) k fa fd [x] (sp w))
 (kG:∀(w:World) (H:Hp) (a:Addr) (ns:List Int),ns.length<=n->H Pt=some (gO Pt #[])->ae (K w.params) H a (ns.map V.int)->sp w [.ref a] H (fun v H'=>v=.bl true/\aH H' Pt lpos qual) fun _ _ _=>False)
 (Jh:∀(w:World) (H:Hp) (s:Shared) (e:Value) (s':Shared),CX w [] H s (fun _ _ _=>False) e s'->False) :
 PySem.W.WalkO q loose XP YP l.row.toRowW d [] (fun f vs=>PySem.call f vs):=by
 refine Att.aeM hn za fun w s₀ s₁ mg mb fa o pm cd doc a vs ns G Y ho hd g9 zc tP hints hlen hg=>?_;obtain⟨KX,hP⟩:=hY w _ Y;obtain⟨fd,c,hb,hC,Jg,hF⟩:=F w mg fa _ KX G.T.g zc;exact ak8 KX G.T.g G.T.b G.T.builtins G.T.nolimit hg G.T.bmain hP (PySem.W.codeHd_of_K KX hC) Jg tP hints (ce hlen yR) hr hF hb (fun H hO hS=>kG w H a ns hlen hO hS) fun H e s'=>Jh w H s₁ e s'
end L2
namespace HT
open PySem PyProof.Rows
section
open PySem.SeqAt
open PySem.AutoSeq1 (wpAny_loadPart')
open PySem.MeetsSeq PySem.MeetsSeq2 PySem.MeetsSeq3
variable {P:Program}{w:World}{A:Around}{s:Shared}
end
end HT
namespace L2
open PySem PySem.Spec PyProof.Rows
open PySem.W (KeqHits)
section
variable {X:Cx}
end
end L2
namespace L2
open PySem PySem.Spec PyProof.Rows
section
variable {X:Cx}
end
end L2
namespace HT
open PySem PyProof.Rows
section
open PySem.SeqAt
open PySem.AutoSeq1 (wpAny_loadPart')
open PySem.MeetsSeq PySem.MeetsSeq2 PySem.MeetsSeq3
end
section
variable {A:Around}{s:Shared}
end
end HT
namespace L2
open PySem PySem.Spec PyProof.Rows
section
variable {X:Cx}{pins:Po}{σ:St}{H:Hp}{s:Shared}
end
end L2
abbrev aD4:PySem.Str:="self"
abbrev aD5:PySem.Str:="_law_cell"
abbrev aD6:PySem.Str:="_law_number"
abbrev aD7:PySem.Str:="shelf"
abbrev aD8:PySem.Str:="parcels"
abbrev aD9:PySem.Str:="disk"
abbrev aEa:PySem.Str:="parcel"
abbrev aEb:PySem.Str:="chosen"
abbrev aEc:PySem.Str:="_law_k"
abbrev aEd:PySem.Str:="_law_script"
abbrev aEe:PySem.Str:="_law_names"
abbrev aEf:PySem.Str:="name"
abbrev aEg:PySem.Str:="path"
abbrev aEh:PySem.Str:="make"
abbrev aEi:PySem.Str:="_law_mixed"
abbrev aEj:PySem.Str:="choices"
abbrev aEk:PySem.Str:="files"
abbrev aEl:PySem.Str:="text"
abbrev aEm:PySem.Str:="goal"
abbrev aEn:PySem.Str:="other"
abbrev aEo:PySem.Str:="keys_unlike"
abbrev aEp:PySem.Str:="lines"
abbrev aEq:PySem.Str:="_law_parcels"
abbrev aEr:PySem.Str:="stand"
abbrev aEs:PySem.Str:="_law_parcels_apart"
abbrev aEt:PySem.Str:="rank"
abbrev aEu:PySem.Str:="set_behind"
abbrev aEv:PySem.Str:="second"
abbrev aEw:PySem.Str:="own"
abbrev aEx:PySem.Str:="now"
abbrev aEy:PySem.Str:="block"
abbrev aEz:PySem.Str:="tree_of"
abbrev aEA:PySem.Str:="_law_cell_at"
abbrev aEB:PySem.Str:="needs"
abbrev aEC:PySem.Str:="first"
abbrev aED:PySem.Str:="group"
abbrev aEE:PySem.Str:="_law_some"
abbrev aEF:PySem.Str:="stand_on"
abbrev aEG:PySem.Str:="tree"
abbrev aEH:PySem.Str:="change"
abbrev aEI:PySem.Str:="stand_shown"
abbrev aEJ:PySem.Str:="stand_noted"
abbrev aEK:PySem.Str:="texts_begun"
abbrev aEL:PySem.Str:="_law_lines"
abbrev aEM:PySem.Str:="parcels_of"
abbrev aEN:PySem.Str:="base"
abbrev aEO:PySem.Str:="_law_path"
abbrev aEP:PySem.Str:="common"
abbrev aEQ:PySem.Str:="files_of_change"
abbrev aER:PySem.Str:="abcdefghijklmnopqrstuvwxyz"
abbrev aES:PySem.Str:="shuts"
abbrev aET:PySem.Str:="turn_to"
abbrev aEU:PySem.Str:="changes_copied"
abbrev aEV:PySem.Str:="_law_one"
abbrev aEW:PySem.Str:="is_ahead"
abbrev aEX:PySem.Str:="paths_of"
abbrev aEY:PySem.Str:="name_behind"
abbrev aEZ:PySem.Str:="is_up"
abbrev aE0:PySem.Str:="with_one_more"
abbrev aE1:PySem.Str:="kind"
abbrev aE2:PySem.Str:="_law_shelf"
abbrev aE3:PySem.Str:="_law_texts"
abbrev aE4:PySem.Str:="put_together"
abbrev aE5:PySem.Str:="clash_faults"
abbrev aE6:PySem.Str:="names"
abbrev aE7:PySem.Str:="_law_disk"
abbrev aE8:PySem.Str:="_law_goal"
abbrev aE9:PySem.Str:="change_rows"
abbrev aFa:PySem.Str:="_law_chosen"
abbrev aFb:PySem.Str:="alike_ahead"
abbrev aFc:PySem.Str:="need_faults"
abbrev aFd:PySem.Str:="shut_faults"
abbrev aFe:PySem.Str:="first_group"
abbrev aFf:PySem.Str:="offers"
abbrev aFg:PySem.Str:="finish"
abbrev aFh:PySem.Str:="brought"
abbrev aFi:PySem.Str:="make_shown"
abbrev aFj:PySem.Str:="make_noted"
abbrev aFk:PySem.Str:="brought_by"
abbrev aFl:PySem.Str:="_law_start"
abbrev aFm:PySem.Str:="commons_of"
abbrev aFn:PySem.Str:="take_write"
abbrev aFo:PySem.Str:="takes_none"
abbrev aFp:PySem.Str:="formers_of"
abbrev aFq:PySem.Str:="_law_stand"
abbrev aFr:PySem.Str:="_law_p"
abbrev aFs:PySem.Str:="others"
abbrev aFt:PySem.Str:="groups"
abbrev aFu:PySem.Str:="_law_name"
abbrev aFv:PySem.Str:="_law_line"
abbrev aFw:PySem.Str:="_law_make"
abbrev aFx:PySem.Str:="are_apart"
abbrev aFy:PySem.Str:="with_both"
abbrev aFz:PySem.Str:="faults_of"
abbrev aFA:PySem.Str:="groups_to"
abbrev aFB:PySem.Str:="_law_deed"
abbrev aFC:PySem.Str:="_law_rows"
abbrev aFD:PySem.Str:="_law_book"
abbrev aFE:PySem.Str:="book_now"
abbrev aFF:PySem.Str:="block_of"
abbrev aFG:PySem.Str:="is_sound"
abbrev aFH:PySem.Str:="steps_to"
abbrev aFI:PySem.Str:="_law_name_here"
abbrev aFJ:PySem.Str:="rows_of"
abbrev aFK:PySem.Str:="shelved"
abbrev aFL:PySem.Str:="do_deed"
abbrev aFM:PySem.Str:="come_up"
namespace K64
open PySem PySem.Spec PyProof.Rows L2
structure eF(C dx x:Addr)(H Hk:Hp)(fl:List (Str×V)):Prop where
 same:∀b o,H b=some o->b≠x->Hk b=some o
 free:∀b,Hk b=none->H b=none
 ob:Hk x=some (.ins C dx fl)
section
variable {K:Fg}{C dx x p a:Addr}{H Hk:Hp}{fl rB:List (Str×V)} {o o':HO}{xs:Lv}
theorem eF.put(S:eF C dx x H Hk fl):eF C dx x H (ah Hk x (.ins C dx rB)) rB:=
 ⟨fun b o e hb=>by rw[aV hb];exact S.same b o e hb,fun b e=>S.free b (hX e).2,aI⟩
theorem eF.lay(S:eF C dx x H Hk fl)(hp:Hk p=none):eF C dx x H (ah Hk p o) fl:=
 ⟨fun b u e hb=>by rw[aV (aL (S.same b u e hb) hp)];exact S.same b u e hb,fun b e=>S.free b (hX e).2,by rw[aV (aL S.ob hp)];exact S.ob⟩
theorem eF.sqL(S:eF C dx x H Hk fl)(hx:H x=some (.ins C dx rB))(h:ae K H a xs):ae K Hk a xs:=by
 rcases h with(h | ⟨o,h⟩) | h
 . exact .inl (.inl (S.same _ _ h (aO h hx (by intro z;cases z))))
 . exact .inl (.inr ⟨o,S.same _ _ h (aO h hx (by intro z;cases z))⟩)
 . exact .inr h
theorem eF.sqT(S:eF C dx x H Hk fl)(hx:H x=some (.ins C dx rB))(h:aW K H a xs):aW K Hk a xs:=by
 rcases h with(h | ⟨o,h⟩) | h
 . exact .inl (.inl (S.same _ _ h (aO h hx (by intro z;cases z))))
 . exact .inl (.inr ⟨o,S.same _ _ h (aO h hx (by intro z;cases z))⟩)
 . exact .inr h
theorem aB(h:Hk a=some o)(n:a≠p):ah Hk p o' a=some o:=by rw[aV n];exact h
theorem lp{f:Str}{v:V}{n:Nat}(h:fl.length<=n):(aA f v fl).length<=n+1:=ce (Hs _ _ _) (by omega)
theorem few{n:Nat}(h:fl.length<=n)(h2:n<1000):fl.length<1000:=by omega
theorem pj:([]:List (Str×V)).length<=0:=aJ _
end
def msk(L:List Addr)(H:Hp):Hp:=fun b=>if b∈L then none else H b
theorem bF{L:List Addr}{H:Hp}:ag (msk L H) H:=fun b o e=>by
 unfold msk at e;split at e
 . cases e
 . exact e
theorem gr{L:List Addr}{H H':Hp}(s:ag H H'):ag (msk L H) (msk L H'):=fun b o e=>by
 unfold msk at e ⊢;split at e
 . cases e
 . rw[ai ‹_›];exact s _ _ e
theorem uo{L:List Addr}{H:Hp}{p:Addr}{o:HO}(h:p∈L):msk L (ah H p o)=msk L H:=by
 funext b
 unfold msk;split
 . rfl
 . have hb:¬b∈L:=‹_›;rw[aV (fun z=>hb (by rw[z];exact h))]
theorem cg{L:List Addr}{H:Hp}{b:Addr}{o:HO}(n:b∉L)(h:H b=some o):msk L H b=some o:=by
 unfold msk;rw[ai n];exact h
theorem Jj{L L':List Addr}{H:Hp}(h:∀b∈L',b∈L):ag (msk L H) (msk L' H):=fun b o e=>by
 unfold msk at e ⊢;split at e
 . cases e
 . rw[ai (fun z=>‹¬b∈L› (h b z))];exact e
def iH(H:Hp)(L:List Addr):Prop:=∀b∈L,∃o,H b=some o/\∀vs,o≠.tup vs
theorem iH.free{H:Hp}{L:List Addr}(h:iH H L){b:Addr}(n:H b=none):b∉L:=fun z=>by
 obtain⟨o,e,_⟩:=h b z;rw[n]at e;cases e
theorem iH.tup{H:Hp}{L:List Addr}(h:iH H L){b:Addr}{vs:Lv}(n:H b=some (.tup vs)):b∉L:=fun z=>by
 obtain⟨o,e,q⟩:=h b z;rw[n]at e;cases e;exact q _ rfl
theorem DJ{α β:Type}{F:α->β->Prop}:∀{xs:List α}{ys:List β},Paired F xs ys->∀{i:Nat}{y:β},ys[i]?=some y->∃x,xs[i]?=some x/\F x y
 | _,_,.nil,i,y,h=>by cases h
 | _,_,.cons r t,0,y,h=>by cases h;exact⟨_,rfl,r⟩
 | _,_,.cons r t,i+1,y,h=>DJ t (i:=i) h
theorem eG{α β:Type}{F:α->β->Prop}:∀{xs:List α}{ys:List β},Paired F xs ys->∀{i:Nat}{x:α},xs[i]?=some x->∃y,ys[i]?=some y/\F x y
 | _,_,.nil,i,y,h=>by cases h
 | _,_,.cons r t,0,y,h=>by cases h;exact⟨_,rfl,r⟩
 | _,_,.cons r t,i+1,y,h=>eG t (i:=i) h
theorem bq{α β:Type}{F:α->β->Prop}:∀{xs:List α}{ys:List β},Paired F xs ys->xs.length=ys.length
 | _,_,.nil=>rfl
 | _,_,.cons _ t=>fb (· + 1) (bq t)
theorem iI{α β:Type}{F:α->β->Prop}{x:α}{y:β}(h:F x y):∀{xs:List α}{ys:List β},Paired F xs ys->Paired F (xs++[x]) (ys++[y])
 | _,_,.nil=>.cons h .nil
 | _,_,.cons r t=>.cons r (iI h t)
theorem Rg{α β:Type}{F:α->β->Prop}:∀{xs:List α}{ys:List β},xs.length=ys.length->(∀(i:Nat) (y:β),ys[i]?=some y->∃x,xs[i]?=some x/\F x y)->Paired F xs ys
 | [],[],_,_=>.nil
 | [],_::_,h,_=>nomatch h
 | _::_,[],h,_=>nomatch h
 | x::xs,y::ys,h,k=>by
  obtain⟨x',e,r⟩:=k 0 y rfl;cases e;exact .cons r (Rg (Nat.succ.inj h) fun i z hz=>k (i+1) z hz)
theorem Rh:∀(p:Str) (l:Ls),risingS p l=true->(p::l).Pairwise (fun a b=>a.cps.toList<=b.cps.toList)
 | p,[],_=>List.pairwise_singleton _ _
 | p,x::r,h=>by
  have h:(!ltCps x.cps.toList p.cps.toList && risingS x r)=true:=h;obtain⟨h1,h2⟩:=yA.mp h;have ih:=Rh x r h2;have le:p.cps.toList<=x.cps.toList:=by
   rw[PyProof.Rows.ltCps_eq]at h1;intro z;rw[bG z]at h1;cases h1
  refine List.pairwise_cons.mpr ⟨fun y hy=>?_,ih⟩
  rcases aX.mp hy with e | hy
  . rw[e];exact le
  . exact List.le_trans le (List.rel_of_pairwise_cons ih hy)
theorem Jk:∀{l:Ls},sortedS l=true->l.Pairwise (fun a b=>a.cps.toList<=b.cps.toList)
 | [],_=>.nil
 | x::r,h=>Rh x r h
theorem alf{a b:Ls}(p:a.Perm b)(h1:sortedS a=true)(h2:sortedS b=true):a=b:=by
 refine aCE (fun x y _ _ h h'=>?_) (Jk h1) (Jk h2) p;have e:=List.le_antisymm h h';obtain⟨⟨x⟩⟩:=x;obtain⟨⟨y⟩⟩:=y;have e:x=y:=e;rw[e]
section
variable {β:Type}
def bU(tr:List (Str×β))(x:Str)(ls:β):List (Str×β):=if (tr.any fun f=>decide (f.1=x))=true then tr.map (fun f=>if f.1=x then(f.1,ls) else f) else tr++[(x,ls)]
theorem rC{tr:List (Str×β)}{x:Str}{ls:β}{f:Str×β}(h:f∈bU tr x ls):f=(x,ls)\/f∈tr:=by
 unfold bU at h;split at h
 . obtain⟨g,hg,e⟩:=cL.mp h;split at e
   . rename_i hx;left;rw[←e,hx]
   . right;rw[←e];exact hg
 . rcases bK.mp h with h | h
   . exact .inr h
   . exact .inl (bj.mp h)
theorem Ri(tr:List (Str×β))(x:Str)(ls:β):(bU tr x ls).map (·.1)=if (tr.any fun f=>decide (f.1=x))=true then tr.map (·.1) else tr.map (·.1)++[x]:=by
 unfold bU;split
 . rw[oA];refine Oc fun f _=>?_;show(if f.1=x then(f.1,ls) else f).1=f.1;split<;>rfl
 . rw[cQ];rfl
theorem rD{tr:List (Str×β)}{x:Str}:(tr.any fun f=>decide (f.1=x))=true↔x∈tr.map (·.1):=by
 rw[yz,cL];constructor
 . rintro⟨f,hf,e⟩;exact⟨f,hf,cZ e⟩
 . rintro⟨f,hf,e⟩;exact⟨f,hf,bG e⟩
theorem lZ{tr:List (Str×β)}{x:Str}{ls:β}(h:(tr.map (·.1)).Nodup):((bU tr x ls).map (·.1)).Nodup:=by
 rw[Ri];split
 . exact h
 . rename_i hx;rw[sY];refine⟨h,by simp,fun a ha b hb=>?_⟩;rw[bj.mp hb];intro e;exact hx (rD.mpr (e▸ha))
theorem Jl{tr:List (Str×β)}{x y:Str}{ls:β}(h:y=x\/y∈tr.map (·.1)):y∈(bU tr x ls).map (·.1):=by
 rw[Ri];split
 . rename_i hx
   rcases h with h | h
   . rw[h];exact rD.mp hx
   . exact h
 . rcases h with h | h
   . rw[h];exact eS _ (bj.mpr rfl)
   . exact B9 _ h
theorem l8(tr:List (Str×β))(x:Str)(ls:β):(bU tr x ls).length<=tr.length+1:=by
 unfold bU;split
 . rw[am];omega
 . rw[bh,iW];omega
theorem jL{F:aw×V->Str×β->Prop}(hk:∀kv f,F kv f->kv.1=Sum.inr f.1){x:Str}{ls:β}{v:V}(hv:F (.inr x,v) (x,ls)){kvs:List (aw×V)}{tr:List (Str×β)}(h:Paired F kvs tr):Paired F (cD kvs (.inr x) v) (bU tr x ls):=by
 have e:(kvs.any fun kv=>decide (kv.1=Sum.inr x))=(tr.any fun f=>decide (f.1=x)):=by
  induction h with
  | nil=>rfl
  | cons r t ih=>
   rw[sX,sX,ih,hk _ _ r]
   congr 1
   exact Cv.mpr ⟨fun z=>qA z,fun z=>by rw[z]⟩
 unfold cD bU;rw[e];split
 . clear e;rename_i hh;clear hh
   induction h with
   | nil=>exact .nil
   | @cons kv f kvs tr r t ih=>
    refine .cons ?_ ih;have hr:=hk _ _ r;dsimp only
    by_cases hx:f.1=x
    . have zO:kv.1=Sum.inr x:=by rw[hr,hx]
      rw[aq zO,aq hx,zO,hx];exact hv
    . rw[ai (fun z=>hx (qA (hr.symm.trans z))),ai hx];exact r
 . exact iI hv h
end
theorem wF{β:Type}{F:aw×V->Str×β->Prop}(hk:∀kv f,F kv f->kv.1=Sum.inr f.1){kvs:List (aw×V)}{tr:List (Str×β)}(h:Paired F kvs tr):ub kvs (tr.map (·.1)):=by
 unfold ub
 induction h with
 | nil=>rfl
 | cons r t ih=>rw[bL,bL,bL,ih,hk _ _ r]
theorem rE{β:Type}{F:aw×V->Str×β->Prop}(hk:∀kv f,F kv f->kv.1=Sum.inr f.1){kvs:List (aw×V)}{tr:List (Str×β)}(h:Paired F kvs tr){x:Str}(hx:x∈tr.map (·.1)):∃v ls,bg kvs (.inr x)=some v/\(x,ls)∈tr/\F (.inr x,v) (x,ls):=by
 induction h with
 | nil=>cases hx
 | @cons kv f kvs tr r t ih=>
  have hr:=hk _ _ r
  by_cases e:f.1=x
  . refine⟨kv.2,f.2,by rw[kI (hr.trans (by rw[e]))],?_,?_⟩
    . rw[←e];exact bB
    . rw[←e,←hr];exact r
  . rcases aX.mp hx with z | z
    . exact absurd z.symm e
    . obtain⟨v,ls,a,b,c⟩:=ih z;exact⟨v,ls,by rw[iY (fun q=>e (qA (hr.symm.trans q)))];exact a,bJ _ b,c⟩
theorem DK{β:Type}{F:aw×V->Str×β->Prop}(hk:∀kv f,F kv f->kv.1=Sum.inr f.1){kvs:List (aw×V)}{tr:List (Str×β)}(h:Paired F kvs tr){x:Str}(hx:x∉tr.map (·.1)):bg kvs (.inr x)=none:=by
 induction h with
 | nil=>rfl
 | @cons kv f kvs tr r t ih=>
  have hr:=hk _ _ r;rw[bL,aX,lC]at hx;rw[iY (fun q=>hx.1 (qA (hr.symm.trans q)).symm)];exact ih hx.2
theorem wG{β:Type}{tr:List (Str×β)}(h:(tr.map (·.1)).Nodup){x:Str}{a b:β}(ha:(x,a)∈tr)(hb:(x,b)∈tr):a=b:=by
 induction tr with
 | nil=>cases ha
 | cons f tr ih=>
  rw[bL,Cc]at h
  rcases aX.mp ha with ea | ha
  . rcases aX.mp hb with eb | hb
    . rw[←ea]at eb;exact(Prod.mk.inj eb).2.symm
    . exact absurd (lE (f:=(·.1)) hb) (by rw[←ea]at h;exact h.1)
  . rcases aX.mp hb with eb | hb
    . exact absurd (lE (f:=(·.1)) ha) (by rw[←eb]at h;exact h.1)
    . exact ih h.2 ha hb
theorem Rj{c:Nat}:∀{p q x y:List Nat},c∉p->c∉q->p++c::x=q++c::y->p=q/\x=y
 | [],[],x,y,_,_,h=>⟨rfl,(tq h).2⟩
 | [],b::q,x,y,_,hq,h=>absurd ((tq h).1▸bB) hq
 | a::p,[],x,y,hp,_,h=>absurd ((tq h).1.symm▸bB) hp
 | a::p,b::q,x,y,hp,hq,h=>by
  have h:=tq h;obtain⟨e1,e2⟩:=Rj (fun z=>hp (bJ _ z)) (fun z=>hq (bJ _ z)) h.2;exact⟨by rw[h.1,e1],e2⟩
theorem zP{a b:Str}(h:a.cps.toList=b.cps.toList):a=b:=Str.ext' (Array.toList_inj.mp h)
theorem pk(a b:Str):(a++b).cps.toList=a.cps.toList++b.cps.toList:=by rw[Str.cps_append,Array.toList_append]
theorem mY(c:Nat)(p q:Str)(r:Ls):(Str.join ⟨#[c]⟩ (p::q::r)).cps.toList=p.cps.toList++c::(Str.join ⟨#[c]⟩ (q::r)).cps.toList:=by
 show(p++⟨#[c]⟩++Str.join ⟨#[c]⟩ (q::r)).cps.toList=_;rw[pk,pk,jB];rfl
theorem Rk{c:Nat}:∀{ps qs:Ls},ps≠[]->qs≠[]->(∀p∈ps,c∉p.cps.toList)->(∀q∈qs,c∉q.cps.toList)->Str.join ⟨#[c]⟩ ps=Str.join ⟨#[c]⟩ qs->ps=qs
 | [],_,h,_,_,_,_=>absurd rfl h
 | _::_,[],_,h,_,_,_=>absurd rfl h
 | [p],[q],_,_,_,_,e=>by
  have e:p=q:=e;rw[e]
 | [p],q::q'::r,_,_,hp,_,e=>by
  have e:=fb (fun x:Str=>x.cps.toList) e;have e:p.cps.toList=(Str.join ⟨#[c]⟩ (q::q'::r)).cps.toList:=e;rw[mY]at e;exact absurd (by rw[e];exact eS _ bB) (hp p bB)
 | p::p'::r,[q],_,_,_,hq,e=>by
  have e:=fb (fun x:Str=>x.cps.toList) e;have e:(Str.join ⟨#[c]⟩ (p::p'::r)).cps.toList=q.cps.toList:=e;rw[mY]at e;exact absurd (by rw[←e];exact eS _ bB) (hq q bB)
 | p::p'::r,q::q'::t,_,_,hp,hq,e=>by
  have e:=fb (fun x:Str=>x.cps.toList) e;have e:(Str.join ⟨#[c]⟩ (p::p'::r)).cps.toList=(Str.join ⟨#[c]⟩ (q::q'::t)).cps.toList:=e;rw[mY,mY]at e;obtain⟨e1,e2⟩:=Rj (hp p bB) (hq q bB) e;rw[zP e1,Rk (qH _ _) (qH _ _) (fun z hz=>hp z (bJ _ hz)) (fun z hz=>hq z (bJ _ hz)) (zP e2)]
theorem alg(x y:Str):Txt.split x y≠[]:=fun z=>by
 have:=split_pos x y;rw[z]at this;exact absurd this (by decide)
theorem DL{c:Nat}{ps:Ls}(ne:ps≠[])(h:∀p∈ps,c∉p.cps.toList):Txt.split (Str.join ⟨#[c]⟩ ps) ⟨#[c]⟩=ps:=
 Rk (alg _ _) ne (StrLaws.split_free _ _) h (StrLaws.join_split _ _)
def DM(x y:Str):Bool:=!decide (y.cps.toList<x.cps.toList)
def zQ(lo hi:Str)(c:Nat):Bool:=if DM lo (IY c)=true then DM (IY c) hi else false
theorem Rm(a b:Nat):DM ⟨#[a]⟩ ⟨#[b]⟩=decide (a<=b):=by
 unfold DM;show(!decide ([b] < [a]))=_;rw[StrLaws.lt_cons_cons,StrLaws.lt_nil_nil,vL,sW]
 by_cases h:b<a
 . rw[bG h,cH (by omega)];rfl
 . rw[cH h,bG (by omega)];rfl
theorem DO(a b c:Nat):zQ ⟨#[a]⟩ ⟨#[b]⟩ c=decide (a<=c/\c<=b):=by
 unfold zQ IY;rw[Rm,Rm]
 by_cases h:a<=c
 . rw[bG h,aq rfl];exact Cv.mpr ⟨fun z=>⟨h,z⟩,fun z=>z.2⟩
 . rw[cH h,ai (by decide),cH (fun z=>h z.1)]
theorem Rn(x:Str)(c:Nat):Txt.startswith x ⟨#[c]⟩=decide (x.cps.toList[0]?=some c):=by
 unfold Txt.startswith;rw[Ca,gB,Cw,Cw];exact StrLaws.subAt_one x c 0
def jM:Str:="\n"
def spS:Str:=" "
def pq:Str:="/"
def jd:Str:="."
def eM:Str:="<"
def eN:Str:=">"
def aS:Str:="a"
def zS:Str:="z"
def Ro:Str:="~"
def DP:Str:="0"
def Rp:Str:="9"
def fB:Str:="in"
def fj:Str:="choose"
def dE:Str:=aEw
theorem Jm:jM=⟨#[10]⟩:=by decide +kernel
theorem rF:spS=⟨#[32]⟩:=by decide +kernel
theorem Jn:pq=⟨#[47]⟩:=by decide +kernel
theorem Rq:jd=⟨#[46]⟩:=by decide +kernel
theorem mZ:eM=⟨#[60]⟩:=by decide +kernel
theorem pw:eN=⟨#[62]⟩:=by decide +kernel
theorem alh:aS=⟨#[97]⟩:=by decide +kernel
theorem ali:zS=⟨#[122]⟩:=by decide +kernel
theorem alj:Ro=⟨#[126]⟩:=by decide +kernel
theorem Jo:DP=⟨#[48]⟩:=by decide +kernel
theorem Rr:Rp=⟨#[57]⟩:=by decide +kernel
theorem DQ:fB=⟨#[105,110]⟩:=by decide +kernel
theorem DR:fj=⟨#[99,104,111,111,115,101]⟩:=by decide +kernel
theorem Jp:dE=⟨#[111,119,110]⟩:=by decide +kernel
def zR(x:Str):Bool:=decide (0<x.length/\x.length<=8) && x.cps.toList.all (zQ aS zS)
def Jq(x:Str):Bool:=decide ((Txt.split x pq).length<=4) && (Txt.split x pq).all zR
def Rs(c:Nat):Bool:=zQ spS Ro c && decide (c≠37)
def Jr(x:Str):Bool:=decide (x.length<=60) && x.cps.toList.all Rs
def wH(x:Str):Bool:=x.cps.toList.all (zQ DP Rp)
def wI(x:Str):Option Int:=if (decide (0<x.length/\x.length<=10) && wH x)=true then(if (Txt.startswith x DP && decide (x≠DP))=true then none else if 1000000000<(NumText.digitsVal x.cps.toList:Int) then none else some (NumText.digitsVal x.cps.toList)) else none
def uq(x:Str):Bool:=decide ((Txt.split x jd).length<=3) && (Txt.split x jd).all fun p=>(wI p).isSome
def je(row:Str):Bool:=
 if (Txt.startswith row eM || Txt.startswith row eN)=true then Jr (Txt.slice row (some 1) none) else
 match Txt.split row spS with
 | [w,p]=>decide (w=dE) && Jq p
 | [w,n,x]=>!decide (w=dE) && zR n && (if w=fB then uq x else decide (w=fj) && zR x)
 | _=>false
theorem alk{x:Str}(h:wH x=true):NumText.AllDigits x.cps.toList:=fun c hc=>by
 have:=iq.mp h c hc;rw[Jo,Rr,DO]at this;exact cZ this
theorem alm{x:Str}(h:wH x=true)(h1:0<x.length)(h2:x.length<=4300):PySem.intText? x=some ((NumText.digitsVal x.cps.toList:Nat):Int):=
 PySem.intText_digits (alk h) (fun z=>by
  have:x.cps.toList.length=x.length:=eR;rw[z]at this;simp at this;omega) h2
inductive Row
 | les (x:Str)
 | mor (x:Str)
 | inn (n t:Str)
 | cho (c n:Str)
 | own (p:Str)
def gs(row:Str):Row:=
 if Txt.startswith row eM=true then .les (Txt.slice row (some 1) none) else if Txt.startswith row eN=true then .mor (Txt.slice row (some 1) none) else
 if (Txt.split row spS).getD 0 Str.empty=fB then .inn ((Txt.split row spS).getD 1 Str.empty) ((Txt.split row spS).getD 2 Str.empty) else
 if (Txt.split row spS).getD 0 Str.empty=fj then .cho ((Txt.split row spS).getD 1 Str.empty) ((Txt.split row spS).getD 2 Str.empty) else .own ((Txt.split row spS).getD 1 Str.empty)
def rG(t:Str):List Int:=(Txt.split t jd).map fun p=>((NumText.digitsVal p.cps.toList:Nat):Int)
structure Nt where
 ch:List (Str×List Int):=[]
 cs:List (Str×Str):=[]
 ow:List (Str×(Ls×Ls)):=[]
 ck:Option Str:=none
 b:Ls:=[]
 m:Ls:=[]
def gQ(ow:List (Str×(Ls×Ls)))(ck:Option Str)(r:Ls×Ls):List (Str×(Ls×Ls)):=
 match ck with
 | none=>ow
 | some p=>bU ow p r
def Nt.step(s:Nt)(row:Str):Nt:=
 match gs row with
 | .les x=>{ s with ow:=gQ s.ow s.ck (s.b++[x],s.m),b:=s.b++[x] }
 | .mor x=>{ s with ow:=gQ s.ow s.ck (s.b,s.m++[x]),m:=s.m++[x] }
 | .inn n t=>{ s with ch:=bU s.ch n (rG t) }
 | .cho c n=>{ s with cs:=bU s.cs c n }
 | .own p=>{ s with ow:=bU s.ow p ([],[]),ck:=some p,b:=[],m:=[] }
def fQ(rows:Ls):Nt:=rows.foldl Nt.step {}
def ig(n:Int):Str:=toString n
def jf(ms:List Int):Str:=Str.join jd (ms.map ig)
def gR(e:Str×List Int):Str:=Str.join spS [fB,e.1,jf e.2]
def gt(e:Str×Str):Str:=Str.join spS [fj,e.1,e.2]
def dM(e:Str×(Ls×Ls)):Ls:=[Str.join spS [dE,e.1]]++e.2.1.map (eM ++ ·)++e.2.2.map (eN ++ ·)
def fT(ch:List (Str×List Int))(cs:List (Str×Str))(ow:List (Str×(Ls×Ls))):Ls:=ch.map gR++cs.map gt++ow.flatMap dM
def rowsOf(t:Str):Ls:=if t=Str.empty then [] else Txt.split t jM
structure cr(x:Str):Prop where
 lo:1<=x.length
 hi:x.length<=8
 az:∀c∈x.cps.toList,97<=c/\c<=122
structure iJ(x:Str):Prop where
 hi:x.length<=60
 sg:∀c∈x.cps.toList,32<=c/\c<=126/\c≠37
structure fk(ms:List Int):Prop where
 lo:1<=ms.length
 hi:ms.length<=3
 rg:∀n∈ms,0<=n/\n<=1000000000
def fC(x:Str):Prop:=∃ps:Ls,x=Str.join pq ps/\1<=ps.length/\ps.length<=4/\∀p∈ps,cr p
theorem cr.name{x:Str}(h:cr x):zR x=true:=by
 unfold zR;rw[bG ⟨h.lo,h.hi⟩,GS,iq];intro c hc;rw[alh,ali,DO];exact bG (h.az c hc)
theorem iJ.line{x:Str}(h:iJ x):Jr x=true:=by
 unfold Jr;rw[bG h.hi,GS,iq];intro c hc;obtain⟨h1,h2,h3⟩:=h.sg c hc;unfold Rs;rw[rF,alj,DO,bG ⟨h1,h2⟩,bG h3];rfl
theorem Rt{α:Type}{l:List α}(h:1<=l.length):l≠[]:=fun z=>by
 rw[z,ki]at h;omega
theorem fC.path{x:Str}(h:fC x):Jq x=true:=by
 obtain⟨ps,rfl,h1,h2,h3⟩:=h;have e:Txt.split (Str.join pq ps) pq=ps:=by
  rw[Jn];exact DL (Rt h1) fun p hp hc=>by have:=(h3 p hp).az _ hc;omega
 unfold Jq;rw[e,bG h2,GS,iq];exact fun p hp=>(h3 p hp).name
theorem zT{c:Nat}:∀{ps:Ls}{d:Nat},d∈(Str.join ⟨#[c]⟩ ps).cps.toList->d=c\/∃p∈ps,d∈p.cps.toList
 | [],d,h=>by
  have h:d∈([]:List Nat):=h;cases h
 | [p],d,h=>.inr ⟨p,bB,h⟩
 | p::q::r,d,h=>by
  rw[mY]at h
  rcases bK.mp h with h | h
  . exact .inr ⟨p,bB,h⟩
  . rcases aX.mp h with h | h
    . exact .inl h
    . rcases zT h with h | ⟨z,hz,hd⟩
      . exact .inl h
      . exact .inr ⟨z,bJ _ hz,hd⟩
theorem fC.signs{x:Str}(h:fC x):∀c∈x.cps.toList,c=47\/(97<=c/\c<=122):=by
 obtain⟨ps,rfl,h1,h2,h3⟩:=h;intro c hc;rw[Jn]at hc
 rcases zT hc with e | ⟨p,hp,hd⟩
 . exact .inl e
 . exact .inr ((h3 p hp).az c hd)
theorem aln:∀(m:Nat) (r:List Char),Nat.toDigits 10 m='0'::r->m=0:=by
 intro m
 induction m using Nat.strongRecOn with
 | _ m ih=>
  intro r h
  by_cases hm:m<10
  . rw[Nat.toDigits_of_lt_base hm]at h;have h1:=(tq h).1;have:∀d:Nat,d<10->Nat.digitChar d='0'->d=0:=by decide
    exact this m hm h1
  . have Ie:m % 10<10:=GV m (by decide);have t:Nat.toDigits 10 (m / 10)++Nat.toDigits 10 (m % 10)=Nat.toDigits 10 (10 * (m / 10)+m % 10):=Nat.toDigits_append_toDigits (by decide) (by omega) Ie;rw[Nat.div_add_mod,h]at t;cases hd:Nat.toDigits 10 (m / 10) with
    | nil=>
     have:=aCF 10 (m / 10);rw[hd]at this;exact absurd this (by decide)
    | cons a r'=>
     rw[hd]at t;have ha:a='0':=(tq t).1;subst ha;have:=ih (m / 10) (by omega) r' hd;omega
theorem zU{n:Int}(h0:0<=n):(ig n).cps.toList=(Nat.toDigits 10 n.toNat).map Char.toNat:=by
 obtain⟨m,rfl⟩:=Int.eq_ofNat_of_zero_le h0;exact PySem.W.KIN.signs_num m
theorem Js{n:Int}(h0:0<=n):NumText.AllDigits (ig n).cps.toList:=by
 intro c hc;rw[zU h0]at hc;obtain⟨ch,ky,e⟩:=cL.mp hc;have r:=digit_range (Nat.isDigit_of_mem_toDigits (by decide) (by decide) ky);rw[←e];exact r
theorem alo{n:Int}(h0:0<=n):wH (ig n)=true:=by
 unfold wH;rw[iq];intro c hc;rw[Jo,Rr,DO];exact bG (Js h0 c hc)
theorem Ru{n:Int}(h0:0<=n):((NumText.digitsVal (ig n).cps.toList:Nat):Int)=n:=by
 rw[zU h0,PySem.W.KIN.val_back];omega
theorem Rv{n:Int}(h0:0<=n)(h1:n<=1000000000):1<=(ig n).length/\(ig n).length<=10:=by
 refine⟨?_,PySem.W.KT.len_num h0 (by omega)⟩;have e:(ig n).cps.toList.length=(ig n).length:=eR;rw[←e,zU h0,am];exact aCF 10 _
theorem alp{n:Int}(h0:0<=n)(h1:n<=1000000000):wI (ig n)=some n:=by
 obtain⟨l1,l2⟩:=Rv h0 h1;unfold wI;rw[bG ⟨l1,l2⟩,alo h0,aq (by rfl),Ru h0,ai (by omega:¬1000000000<n)];rw[ai];rw[Jo,Rn,gB,Cw,Cw,zU h0];rintro⟨h,ne⟩;refine ne (zP ?_);rw[zU h0];cases hd:Nat.toDigits 10 n.toNat with
 | nil=>rw[hd]at h;cases h
 | cons a r=>
  rw[hd]at h;have h:a.toNat=48:=gA h;have ha:a='0':=by
   apply Char.ext;apply UInt32.toNat.inj;exact h
  rw[ha]at hd;have e0:=aln _ _ hd;rw[e0]at hd;have hd:['0']=a::r:=by rw[ha];exact hd
  rw[←hd];rfl
theorem fk.split{ms:List Int}(h:fk ms):Txt.split (jf ms) jd=ms.map ig:=by
 unfold jf;rw[Rq];refine DL (fun z=>Rt h.lo (List.map_eq_nil_iff.mp z)) fun p hp hc=>?_;obtain⟨n,hn,rfl⟩:=cL.mp hp;have:=Js (h.rg n hn).1 _ hc;omega
theorem fk.good{ms:List Int}(h:fk ms):uq (jf ms)=true:=by
 unfold uq;rw[h.split,am,bG h.hi,GS,iq];intro p hp;obtain⟨n,hn,rfl⟩:=cL.mp hp;rw[alp (h.rg n hn).1 (h.rg n hn).2];rfl
theorem fk.back{ms:List Int}(h:fk ms):rG (jf ms)=ms:=by
 unfold rG;rw[h.split,oA];exact(Oc fun n hn=>Ru (h.rg n hn).1).trans (List.map_id _)
theorem fk.signs{ms:List Int}(h:fk ms):∀c∈(jf ms).cps.toList,46<=c/\c<=57:=by
 intro c hc;unfold jf at hc;rw[Rq]at hc
 rcases zT hc with e | ⟨p,hp,hd⟩
 . omega
 . obtain⟨n,hn,rfl⟩:=cL.mp hp;have:=Js (h.rg n hn).1 c hd;omega
theorem Jt(x:Str)(l u:Option Int):Txt.slice x l u=PySem.StrLaws.sliceText x l u:=rfl
theorem DS(x:Str)(c:Nat):Txt.slice (⟨#[c]⟩++x) (some 1) none=x:=by
 apply zP;have e:(⟨#[c]⟩++x:Str).cps.toList=c::x.cps.toList:=by rw[pk];rfl
 have h:=PySem.StrLaws.sliceText_from (x:=⟨#[c]⟩++x) (i:=1) ⟨by decide,by rw[e,bO];omega⟩;rw[Jt,h,e];show(List.take _ x.cps.toList)=x.cps.toList;refine V3 ?_;rw[bO];omega
theorem ur{x:Str}{d:Nat}{r:List Nat}(e:x.cps.toList=d::r)(c:Nat):Txt.startswith x ⟨#[c]⟩=decide (d=c):=by
 rw[Rn,e];exact Cv.mpr ⟨fun z=>gA z,fun z=>by rw[z];rfl⟩
theorem DT(x:Str):(eM++x).cps.toList=60::x.cps.toList:=by rw[mZ,pk];rfl
theorem zV(x:Str):(eN++x).cps.toList=62::x.cps.toList:=by rw[pw,pk];rfl
theorem alq{x:Str}(h:iJ x):je (eM++x)=true:=by
 unfold je;have e:Txt.startswith (eM++x) eM=true:=by
  have:=ur (DT x) 60;rw[←mZ]at this;rw[this];rfl
 rw[e,VW,aq rfl]
 conv=>lhs;arg 1;rw[mZ,DS]
 exact h.line
theorem alr{x:Str}(h:iJ x):je (eN++x)=true:=by
 unfold je;have e:Txt.startswith (eN++x) eN=true:=by
  have:=ur (zV x) 62;rw[←pw]at this;rw[this];rfl
 rw[e,Bool.or_true,aq rfl]
 conv=>lhs;arg 1;rw[pw,DS]
 exact h.line
theorem als(x:Str):gs (eM++x)=.les x:=by
 unfold gs;have e:Txt.startswith (eM++x) eM=true:=by
  have:=ur (DT x) 60;rw[←mZ]at this;rw[this];rfl
 rw[aq e]
 congr 1
 rw[mZ,DS]
theorem alt(x:Str):gs (eN++x)=.mor x:=by
 unfold gs;have e:Txt.startswith (eN++x) eN=true:=by
  have:=ur (zV x) 62;rw[←pw]at this;rw[this];rfl
 have e0:Txt.startswith (eN++x) eM=false:=by
  have:=ur (zV x) 60;rw[←mZ]at this;rw[this];rfl
 rw[ai (by rw[e0];decide),aq e]
 congr 1
 rw[pw,DS]
theorem zW{w:Str}{d:Nat}{r:List Nat}(hw:w.cps.toList=d::r)(Rw:d≠60)(h62:d≠62){ws:Ls}(h:∀p∈w::ws,32∉p.cps.toList):Txt.split (Str.join spS (w::ws)) spS=w::ws/\Txt.startswith (Str.join spS (w::ws)) eM=false/\Txt.startswith (Str.join spS (w::ws)) eN=false:=by
 have hd:∃r',(Str.join spS (w::ws)).cps.toList=d::r':=by
  cases ws with
  | nil=>exact⟨r,hw⟩
  | cons v ws=>rw[rF,mY,hw];exact⟨_,rfl⟩
 obtain⟨r',e⟩:=hd;refine⟨?_,?_,?_⟩
 . rw[rF];exact DL (qH _ _) h
 . rw[mZ,ur e 60];exact cH Rw
 . rw[pw,ur e 62];exact cH h62
theorem DU{a b c:Str}(h1:32∉a.cps.toList)(h2:32∉b.cps.toList)(h3:32∉c.cps.toList):∀p∈[a,b,c],32∉p.cps.toList:=by
 intro p hp;simp only[aX,fe,ff]at hp
 rcases hp with rfl | rfl | rfl<;>assumption
theorem cr.no{x:Str}(h:cr x){c:Nat}(hc:c<97):c∉x.cps.toList:=fun z=>by have:=h.az c z;omega
theorem Ju{c:Nat}(hc:c<97):c∉fB.cps.toList:=by
 rw[DQ];intro z;have z:c∈[105,110]:=z;simp at z;omega
theorem Jv{c:Nat}(hc:c<97):c∉fj.cps.toList:=by
 rw[DR];intro z;have z:c∈[99,104,111,111,115,101]:=z;simp at z;omega
theorem Rx{c:Nat}(hc:c<97):c∉dE.cps.toList:=by
 rw[Jp];intro z;have z:c∈[111,119,110]:=z;simp at z;omega
theorem fk.no{ms:List Int}(h:fk ms){c:Nat}(hc:c<46):c∉(jf ms).cps.toList:=fun z=>by have:=h.signs c z;omega
theorem fC.no{x:Str}(h:fC x){c:Nat}(hc:c<47):c∉x.cps.toList:=fun z=>by have:=h.signs c z;omega
theorem alv:fB≠dE:=by decide +kernel
theorem alw:fj≠dE:=by decide +kernel
theorem DW:fj≠fB:=by decide +kernel
theorem Jw:dE≠fB:=by decide +kernel
theorem Jx:dE≠fj:=by decide +kernel
theorem alx{e:Str×List Int}(h1:cr e.1)(h2:fk e.2):je (gR e)=true:=by
 obtain⟨a,b,c⟩:=zW (w:=fB) (d:=105) (r:=[110]) (by rw[DQ]) (by decide) (by decide) (DU (Ju (by decide)) (h1.no (by decide)) (h2.no (by decide)));unfold je gR;rw[b,c,sW,ai (by decide),a];dsimp only;rw[cH alv,h1.name,aq rfl,h2.good];rfl
theorem aly{e:Str×List Int}(h1:cr e.1)(h2:fk e.2):gs (gR e)=.inn e.1 (jf e.2):=by
 obtain⟨a,b,c⟩:=zW (w:=fB) (d:=105) (r:=[110]) (by rw[DQ]) (by decide) (by decide) (DU (Ju (by decide)) (h1.no (by decide)) (h2.no (by decide)));unfold gs gR;rw[b,c,a,ai (by decide),ai (by decide)];rfl
theorem alz{e:Str×Str}(h1:cr e.1)(h2:cr e.2):je (gt e)=true:=by
 obtain⟨a,b,c⟩:=zW (w:=fj) (d:=99) (r:=[104,111,111,115,101]) (by rw[DR]) (by decide) (by decide) (DU (Jv (by decide)) (h1.no (by decide)) (h2.no (by decide)));unfold je gt;rw[b,c,sW,ai (by decide),a];dsimp only;rw[cH alw,h1.name,ai DW,bG rfl,h2.name];rfl
theorem alA{e:Str×Str}(h1:cr e.1)(h2:cr e.2):gs (gt e)=.cho e.1 e.2:=by
 obtain⟨a,b,c⟩:=zW (w:=fj) (d:=99) (r:=[104,111,111,115,101]) (by rw[DR]) (by decide) (by decide) (DU (Jv (by decide)) (h1.no (by decide)) (h2.no (by decide)));unfold gs gt;rw[b,c,a,ai (by decide),ai (by decide)];rw[ai (show ¬[fj,e.1,e.2].getD 0 Str.empty=fB from DW),aq (show [fj,e.1,e.2].getD 0 Str.empty=fj from rfl)];rfl
theorem Ry{p:Str}(h:fC p):Txt.split (Str.join spS [dE,p]) spS=[dE,p]/\Txt.startswith (Str.join spS [dE,p]) eM=false/\Txt.startswith (Str.join spS [dE,p]) eN=false:=
 zW (w:=dE) (d:=111) (r:=[119,110]) (by rw[Jp]) (by decide) (by decide) fun q hq=>by
  simp only[aX,fe,ff]at hq
  rcases hq with rfl | rfl
  . exact Rx (by decide)
  . exact h.no (by decide)
theorem alB{p:Str}(h:fC p):je (Str.join spS [dE,p])=true:=by
 obtain⟨a,b,c⟩:=Ry h;unfold je;rw[b,c,sW,ai (by decide),a];dsimp only;rw[bG rfl,h.path];rfl
theorem alC{p:Str}(h:fC p):gs (Str.join spS [dE,p])=.own p:=by
 obtain⟨a,b,c⟩:=Ry h;unfold gs;rw[b,c,a,ai (by decide),ai (by decide)];rw[ai (show ¬[dE,p].getD 0 Str.empty=fB from Jw),ai (show ¬[dE,p].getD 0 Str.empty=fj from Jx)];rfl
structure wJ(ch:List (Str×List Int))(cs:List (Str×Str))(ow:List (Str×(Ls×Ls))):Prop where
 ch:∀e∈ch,cr e.1/\fk e.2
 cs:∀e∈cs,cr e.1/\cr e.2
 ow:∀e∈ow,fC e.1/\(∀x∈e.2.1,iJ x)/\∀x∈e.2.2,iJ x
theorem Jy{ch:List (Str×List Int)}{cs:List (Str×Str)}{ow:List (Str×(Ls×Ls))}(ok:wJ ch cs ow){r:Str}(h:r∈fT ch cs ow) :
 (∃e:Str×List Int,cr e.1/\fk e.2/\r=gR e)\/(∃e:Str×Str,cr e.1/\cr e.2/\r=gt e)\/(∃p,fC p/\r=Str.join spS [dE,p])\/(∃x,iJ x/\r=eM++x)\/∃x,iJ x/\r=eN++x:=by
 unfold fT at h
 rcases bK.mp h with h | h
 . rcases bK.mp h with h | h
   . obtain⟨e,he,rfl⟩:=cL.mp h;exact .inl ⟨e,(ok.ch e he).1,(ok.ch e he).2,rfl⟩
   . obtain⟨e,he,rfl⟩:=cL.mp h;exact .inr (.inl ⟨e,(ok.cs e he).1,(ok.cs e he).2,rfl⟩)
 . obtain⟨e,he,hr⟩:=Od.mp h;obtain⟨h1,h2,h3⟩:=ok.ow e he;unfold dM at hr
   rcases bK.mp hr with hr | hr
   . rcases bK.mp hr with hr | hr
     . exact .inr (.inr (.inl ⟨e.1,h1,bj.mp hr⟩))
     . obtain⟨x,hx,rfl⟩:=cL.mp hr;exact .inr (.inr (.inr (.inl ⟨x,h2 x hx,rfl⟩)))
   . obtain⟨x,hx,rfl⟩:=cL.mp hr;exact .inr (.inr (.inr (.inr ⟨x,h3 x hx,rfl⟩)))
theorem alD{ch:List (Str×List Int)}{cs:List (Str×Str)}{ow:List (Str×(Ls×Ls))}(ok:wJ ch cs ow):∀r∈fT ch cs ow,je r=true:=fun r h=>by
 rcases Jy ok h with⟨e,a,b,rfl⟩ | ⟨e,a,b,rfl⟩ | ⟨p,a,rfl⟩ | ⟨x,a,rfl⟩ | ⟨x,a,rfl⟩
 . exact alx a b
 . exact alz a b
 . exact alB a
 . exact alq a
 . exact alr a
theorem Rz{a b c:Str}{d:Nat}(h:d∈(Str.join spS [a,b,c]).cps.toList):d=32\/d∈a.cps.toList\/d∈b.cps.toList\/d∈c.cps.toList:=by
 rw[rF]at h
 rcases zT h with e | ⟨p,hp,hd⟩
 . exact .inl e
 . simp only[aX,fe,ff]at hp
   rcases hp with rfl | rfl | rfl
   . exact .inr (.inl hd)
   . exact .inr (.inr (.inl hd))
   . exact .inr (.inr (.inr hd))
theorem alE{ch:List (Str×List Int)}{cs:List (Str×Str)}{ow:List (Str×(Ls×Ls))}(ok:wJ ch cs ow):∀r∈fT ch cs ow,10∉r.cps.toList/\r≠Str.empty:=fun r h=>by
 rcases Jy ok h with⟨e,a,b,rfl⟩ | ⟨e,a,b,rfl⟩ | ⟨p,a,rfl⟩ | ⟨x,a,rfl⟩ | ⟨x,a,rfl⟩
 . refine⟨fun z=>?_,fun z=>?_⟩
   . rcases Rz z with z | z | z | z
     . omega
     . exact Ju (by decide) z
     . exact a.no (by decide) z
     . exact b.no (by decide) z
   . have z:(gR e).cps.toList=[]:=by rw[z];rfl
     unfold gR at z;rw[rF,mY,DQ]at z;cases z
 . refine⟨fun z=>?_,fun z=>?_⟩
   . rcases Rz z with z | z | z | z
     . omega
     . exact Jv (by decide) z
     . exact a.no (by decide) z
     . exact b.no (by decide) z
   . have z:(gt e).cps.toList=[]:=by rw[z];rfl
     unfold gt at z;rw[rF,mY,DR]at z;cases z
 . refine⟨fun z=>?_,fun z=>?_⟩
   . rw[rF]at z
     rcases zT z with z | ⟨q,hq,hd⟩
     . omega
     . simp only[aX,fe,ff]at hq
       rcases hq with rfl | rfl
       . exact Rx (by decide) hd
       . exact a.no (by decide) hd
   . have z:(Str.join spS [dE,p]).cps.toList=[]:=by rw[z];rfl
     rw[rF,mY,Jp]at z;cases z
 . refine⟨fun z=>?_,fun z=>?_⟩
   . rw[DT]at z
     rcases aX.mp z with z | z
     . omega
     . have:=a.sg _ z;omega
   . have z:(eM++x).cps.toList=[]:=by rw[z];rfl
     rw[DT]at z;cases z
 . refine⟨fun z=>?_,fun z=>?_⟩
   . rw[zV]at z
     rcases aX.mp z with z | z
     . omega
     . have:=a.sg _ z;omega
   . have z:(eN++x).cps.toList=[]:=by rw[z];rfl
     rw[zV]at z;cases z
theorem alF{rows:Ls}(h:∀r∈rows,10∉r.cps.toList/\r≠Str.empty):rowsOf (Str.join jM rows)=rows:=by
 unfold rowsOf;cases rows with
 | nil=>exact aq rfl
 | cons r rs=>
  have ne:Str.join jM (r::rs)≠Str.empty:=fun z=>by
   have hr:=(h r bB).2;have z:(Str.join jM (r::rs)).cps.toList=[]:=by rw[z];rfl
   cases rs with
   | nil=>exact hr (zP (by rw[show r.cps.toList=[] from z];rfl))
   | cons q qs=>
    rw[Jm,mY]at z;have:=fb List.length z;rw[bh,bO]at this;simp at this
  rw[ai ne,Jm];exact DL (qH _ _) fun p hp=>(h p hp).1
theorem zX{β:Type}{tr:List (Str×β)}{x:Str}{y:β}(h:x∉tr.map (·.1)):bU tr x y=tr++[(x,y)]:=by
 unfold bU;rw[ai (fun z=>h (rD.mp z))]
theorem RA{β:Type}{tr:List (Str×β)}{x:Str}{y z:β}(h:x∉tr.map (·.1)):bU (tr++[(x,y)]) x z=tr++[(x,z)]:=by
 unfold bU;rw[aq (rD.mpr (by rw[cQ];exact eS _ bB)),cQ]
 congr 1
 . refine(Oc fun f hf=>?_).trans (List.map_id _);rw[ai (fun e:f.1=x=>h (by rw[←e];exact lE hf))];rfl
 . show [if x=x then(x,z) else(x,y)]=_;rw[aq rfl]
theorem RB:∀(es:List (Str×List Int)) (s:Nt),(∀e∈es,cr e.1/\fk e.2)->((s.ch++es).map (·.1)).Nodup->(es.map gR).foldl Nt.step s={ s with ch:=s.ch++es }
 | [],s,_,_=>by rw[lq];rfl
 | e::es,s,ok,nd=>by
  have h1:=ok e bB;have e1:Nt.step s (gR e)={ s with ch:=s.ch++[e] }:=by
   unfold Nt.step;rw[aly h1.1 h1.2];dsimp only;rw[h1.2.back,zX];rw[cQ,bL]at nd;intro z;exact(sY.mp nd).2.2 _ z _ bB rfl
  rw[bL,ou,e1];have e2:=RB es { s with ch:=s.ch++[e] } (fun x hx=>ok x (bJ _ hx)) (by show(((s.ch++[e])++es).map (·.1)).Nodup;rw[jB];exact nd);rw[e2];show { s with ch:=s.ch++[e]++es } = _;rw[jB];rfl
theorem RC:∀(es:List (Str×Str)) (s:Nt),(∀e∈es,cr e.1/\cr e.2)->((s.cs++es).map (·.1)).Nodup->(es.map gt).foldl Nt.step s={ s with cs:=s.cs++es }
 | [],s,_,_=>by rw[lq];rfl
 | e::es,s,ok,nd=>by
  have h1:=ok e bB;have e1:Nt.step s (gt e)={ s with cs:=s.cs++[e] }:=by
   unfold Nt.step;rw[alA h1.1 h1.2];dsimp only;rw[zX];rw[cQ,bL]at nd;intro z;exact(sY.mp nd).2.2 _ z _ bB rfl
  rw[bL,ou,e1];have e2:=RC es { s with cs:=s.cs++[e] } (fun x hx=>ok x (bJ _ hx)) (by show(((s.cs++[e])++es).map (·.1)).Nodup;rw[jB];exact nd);rw[e2];show { s with cs:=s.cs++[e]++es } = _;rw[jB];rfl
theorem RD(p:Str)(tr:List (Str×(Ls×Ls)))(h:p∉tr.map (·.1))(m:Ls):∀(xs b:Ls) (s:Nt),(xs.map (eM ++ ·)).foldl Nt.step { s with ow:=tr++[(p,(b,m))],ck:=some p,b:=b,m:=m } = { s with ow:=tr++[(p,(b++xs,m))],ck:=some p,b:=b++xs,m:=m }
 | [],b,s=>by rw[lq];rfl
 | x::xs,b,s=>by
  have e1:Nt.step { s with ow:=tr++[(p,(b,m))],ck:=some p,b:=b,m:=m } (eM++x)={ s with ow:=tr++[(p,(b++[x],m))],ck:=some p,b:=b++[x],m:=m }:=by
   unfold Nt.step;rw[als];dsimp only[gQ];rw[RA h]
  rw[bL,ou,e1,RD p tr h m xs (b++[x]) s,jB];rfl
theorem RE(p:Str)(tr:List (Str×(Ls×Ls)))(h:p∉tr.map (·.1))(b:Ls):∀(xs m:Ls) (s:Nt),(xs.map (eN ++ ·)).foldl Nt.step { s with ow:=tr++[(p,(b,m))],ck:=some p,b:=b,m:=m } = { s with ow:=tr++[(p,(b,m++xs))],ck:=some p,b:=b,m:=m++xs }
 | [],m,s=>by rw[lq];rfl
 | x::xs,m,s=>by
  have e1:Nt.step { s with ow:=tr++[(p,(b,m))],ck:=some p,b:=b,m:=m } (eN++x)={ s with ow:=tr++[(p,(b,m++[x]))],ck:=some p,b:=b,m:=m++[x] }:=by
   unfold Nt.step;rw[alt];dsimp only[gQ];rw[RA h]
  rw[bL,ou,e1,RE p tr h b xs (m++[x]) s,jB];rfl
theorem RF:∀(es:List (Str×(Ls×Ls))) (s:Nt),(∀e∈es,fC e.1)->((s.ow++es).map (·.1)).Nodup->∃ck b m,(es.flatMap dM).foldl Nt.step s={ s with ow:=s.ow++es,ck:=ck,b:=b,m:=m }
 | [],s,_,_=>⟨s.ck,s.b,s.m,by rw[lq];rfl⟩
 | e::es,s,ok,nd=>by
  obtain⟨p,b,m⟩:=e;have h1:fC p:=ok _ bB;have hp:p∉s.ow.map (·.1):=fun z=>by
   rw[cQ,bL]at nd;exact(sY.mp nd).2.2 _ z _ bB rfl
  have e1:(dM (p,(b,m))).foldl Nt.step s={ s with ow:=s.ow++[(p,(b,m))],ck:=some p,b:=b,m:=m }:=by
   unfold dM;rw[qI,qI];have e0:[Str.join spS [dE,p]].foldl Nt.step s={ s with ow:=s.ow++[(p,([],[]))],ck:=some p,b:=[],m:=[] }:=by
    show Nt.step s (Str.join spS [dE,p])=_;unfold Nt.step;rw[alC h1];dsimp only;rw[zX hp]
   rw[e0,RD p s.ow hp [] b [] s,RE p s.ow hp _ m [] s];rfl
  rw[vS,qI,e1];obtain⟨ck,b',m',e2⟩:=RF es { s with ow:=s.ow++[(p,(b,m))],ck:=some p,b:=b,m:=m } (fun x hx=>ok x (bJ _ hx)) (by show(((s.ow++[(p,(b,m))])++es).map (·.1)).Nodup;rw[jB];exact nd);refine⟨ck,b',m',?_⟩;rw[e2];show { s with ow:=s.ow++[(p,(b,m))]++es,ck:=ck,b:=b',m:=m' } = _;rw[jB];rfl
theorem alG{ch:List (Str×List Int)}{cs:List (Str×Str)}{ow:List (Str×(Ls×Ls))}(ok:wJ ch cs ow)(n1:(ch.map (·.1)).Nodup)(n2:(cs.map (·.1)).Nodup)(n3:(ow.map (·.1)).Nodup):∃ck b m,fQ (fT ch cs ow)=⟨ch,cs,ow,ck,b,m⟩:=by
 unfold fQ fT;rw[qI,qI,RB ch {} ok.ch n1];show∃ck b m,List.foldl Nt.step (List.foldl Nt.step ({ ch:=ch }:Nt) (List.map gt cs)) (List.flatMap dM ow)=_;rw[RC cs { ch:=ch } ok.cs n2];exact RF ow { ch:=ch,cs:=cs } (fun e he=>(ok.ow e he).1) n3
theorem Jz{α β:Type}{f:α->β}{ks ls:List β}(p:ks.Perm ls):∀{l:List α},ls=l.map f->∃l':List α,l'.Perm l/\l'.map f=ks:=by
 induction p with
 | nil=>
  intro l e;cases l with
  | nil=>exact⟨[],.nil,rfl⟩
  | cons a l=>cases e
 | cons x p ih=>
  intro l e;cases l with
  | nil=>cases e
  | cons a l=>
   rw[bL]at e;obtain⟨e1,e2⟩:=tq e;obtain⟨l',h1,h2⟩:=ih e2;exact⟨a::l',h1.cons a,by rw[bL,h2,e1]⟩
 | swap x y r=>
  intro l e;cases l with
  | nil=>cases e
  | cons a l=>
   cases l with
   | nil=>cases e
   | cons b l=>
    rw[bL,bL]at e;obtain⟨e1,e2⟩:=tq e;obtain⟨e2,e3⟩:=tq e2;exact⟨b::a::l,.swap a b l,by rw[bL,bL,←e1,←e2,←e3]⟩
 | trans p q ih1 ih2=>
  intro l e;obtain⟨l1,h1,h2⟩:=ih2 e;obtain⟨l2,h3,h4⟩:=ih1 h2.symm;exact⟨l2,h3.trans h1,h4⟩
structure dN{β:Type}(a b:List (Str×β)):Prop where
 pm:b.Perm a
 so:sortedS (b.map (·.1))=true
theorem dN.eq{β:Type}{a b c:List (Str×β)}(nd:(a.map (·.1)).Nodup)(h1:dN a b)(h2:dN a c):b=c:=by
 have pm:b.Perm c:=h1.pm.trans h2.pm.symm;have e:b.map (·.1)=c.map (·.1):=alf (pm.map _) h1.so h2.so;have wK:(b.map (·.1)).Nodup:=(h1.pm.map _).nodup_iff.mpr nd;have hl:=pm.length_eq;refine List.ext_getElem hl fun i hi hj=>?_;have hm:b[i]∈c:=pm.mem_iff.mp (N5 hi);have e1:b[i].1=c[i].1:=by
  have:(b.map (·.1))[i]?=(c.map (·.1))[i]?:=by rw[e]
  rw[db,db,ir hi,ir hj]at this;exact gA this
 have hc:c[i]∈c:=N5 hj;have ndc:(c.map (·.1)).Nodup:=by rw[←e];exact wK
 have:b[i].2=c[i].2:=wG ndc (x:=b[i].1) hm (by rw[e1];exact hc);exact Prod.ext e1 this
theorem dN.self{β:Type}{a b:List (Str×β)}(h:dN a b):dN b b:=⟨.refl _,h.so⟩
end K64
namespace K64
open PySem L2 PySem.Spec
def bc(i:Nat):Stmt:=PySem.Challenge.pw_parcelmend_k64_former_stands.main.body.getD i (.Pass ⟨0,0,0,0⟩)
abbrev rH:Stmt:=kJ (bc 20) 0
abbrev ut:Stmt:=kJ (bc 21) 0
abbrev py:Stmt:=kJ (bc 21) 3
abbrev pA:Stmt:=kJ (bc 32) 0
abbrev uu:Stmt:=kJ (bc 60) 0
abbrev uv:Stmt:=kJ (bc 60) 1
abbrev pB:Stmt:=kJ (bc 60) 2
abbrev uw:Stmt:=kJ (bc 60) 3
abbrev ux:Stmt:=kJ (bc 60) 4
abbrev rJ:Stmt:=kJ (bc 60) 5
abbrev uy:Stmt:=kJ (bc 60) 6
abbrev pC:Stmt:=kJ (bc 60) 7
abbrev DX:Stmt:=bc 2
abbrev DY:Stmt:=bc 3
abbrev zY:Stmt:=bc 4
abbrev DZ:Stmt:=bc 5
abbrev D0:Stmt:=bc 6
abbrev D3:Stmt:=bc 7
abbrev D8:Stmt:=bc 8
abbrev D9:Stmt:=bc 14
abbrev Ea:Stmt:=bc 15
abbrev uz:Stmt:=bc 17
abbrev zZ:Stmt:=bc 23
abbrev Eb:Stmt:=bc 24
abbrev Ec:Stmt:=bc 25
abbrev Ed:Stmt:=bc 27
abbrev Ee:Stmt:=bc 28
abbrev Ef:Stmt:=bc 29
abbrev Aa:Stmt:=bc 30
abbrev Eg:Stmt:=bc 33
abbrev rK:Stmt:=bc 34
abbrev Eh:Stmt:=bc 35
abbrev Ei:Stmt:=bc 36
abbrev Ej:Stmt:=bc 37
abbrev wL:Stmt:=bc 38
abbrev Ab:Stmt:=bc 40
abbrev Ek:Stmt:=bc 41
abbrev Ac:Stmt:=bc 42
abbrev El:Stmt:=bc 43
abbrev Em:Stmt:=bc 45
abbrev wM:Stmt:=bc 46
abbrev En:Stmt:=bc 47
abbrev Eo:Stmt:=bc 48
abbrev wN:Stmt:=bc 50
abbrev wO:Stmt:=bc 51
abbrev Ad:Stmt:=bc 52
abbrev wP:Stmt:=bc 53
abbrev Ep:Stmt:=bc 54
abbrev Es:Stmt:=bc 55
abbrev Ae:Stmt:=bc 56
abbrev Et:Stmt:=bc 57
abbrev Eu:Stmt:=bc 58
abbrev Af:Stmt:=bc 62
abbrev rL:Stmt:=bc 63
abbrev Ev:Stmt:=bc 64
abbrev Ew:Stmt:=bc 65
abbrev Ag:Stmt:=bc 66
abbrev Ah:Stmt:=bc 67
abbrev Ex:Stmt:=bc 68
abbrev wQ:Stmt:=bc 69
abbrev Ey:Stmt:=bc 70
abbrev Ez:Stmt:=bc 71
abbrev EA:Stmt:=bc 72
abbrev EB:Stmt:=bc 73
abbrev wS:Stmt:=bc 74
structure bV(mg:Mv):Prop where
 range:mg "range"=none
 len:mg "len"=none
 min:mg "min"=none
 list:mg "list"=none
 dict:mg "dict"=none
 set:mg "set"=none
 sorted:mg "sorted"=none
 isinstance:mg "isinstance"=none
 str:mg "str"=none
 tuple:mg "tuple"=none
 all:mg "all"=none
 enumerate:mg "enumerate"=none
 int:mg "int"=none
theorem JA{sep:Str}:∀{ps:Ls}{d:Nat},d∈(Str.join sep ps).cps.toList->d∈sep.cps.toList\/∃p∈ps,d∈p.cps.toList
 | [],d,h=>by
  have h:d∈([]:List Nat):=h;cases h
 | [p],d,h=>.inr ⟨p,bB,h⟩
 | p::q::r,d,h=>by
  have h:d∈(p++sep++Str.join sep (q::r)).cps.toList:=h;rw[pk,pk]at h
  rcases bK.mp h with h | h
  . rcases bK.mp h with h | h
    . exact .inr ⟨p,bB,h⟩
    . exact .inl h
  . rcases JA h with h | ⟨z,hz,hd⟩
    . exact .inl h
    . exact .inr ⟨z,bJ _ hz,hd⟩
theorem RG{x:Str}{l u:Option Int}{c:Nat}(h:c∈(Txt.slice x l u).cps.toList):c∈x.cps.toList:=by
 unfold Txt.slice at h;split at h
 . exact h
 . have jG:c∈(Builtin.Str.strSliceIndices l u 1 x.length).filterMap (x.cps[·]?):=by simpa using h
   obtain⟨i,_,hi⟩:=NM.mp jG;have:=aCD hi;simpa using this
theorem alK(x:Str)(k:Int)(h0:0<=k)(h1:k<=x.length):(Txt.slice x none (some k)).length+(Txt.slice x (some k) none).length=x.length:=by
 have hl:x.cps.toList.length=x.length:=eR;rw[Jt,Jt,StrLaws.sliceText_to (x:=x) (j:=k) ⟨h0,by omega⟩,StrLaws.sliceText_from (x:=x) (i:=k) ⟨h0,by omega⟩];show((List.drop 0 x.cps.toList).take (k - 0).toNat).toArray.size+((List.drop k.toNat x.cps.toList).take ((x.cps.toList.length:Int) - k).toNat).toArray.size=x.length;rw[fc,fc,eh,eh,mx,mx];omega
theorem EC{c d:Nat}(h:d∈(⟨#[c]⟩:Str).cps.toList):d=c:=bj.mp h
theorem RH{x:Str}{P:Nat->Prop}(ok:∀c∈x.cps.toList,P c){r:Int}(h0:0<=r)(h1:r<x.length):∃c,bZ x.cps.toList r=some c/\P c:=by
 obtain⟨n,rfl⟩:∃n:Nat,r=n:=⟨r.toNat,by omega⟩;have hn:n<x.cps.toList.length:=by
  have:x.cps.toList.length=x.length:=by simp[Str.length]
  omega
 exact⟨_,yV (ir hn),ok _ (N5 hn)⟩
def wT:Str:=aER
theorem alL:∀c∈wT.cps.toList,97<=c/\c<=122:=by decide +kernel
theorem Ai:wT.length=26:=by decide +kernel
theorem ED(n:Int):∃c,bZ wT.cps.toList (n % 26)=some c/\(97<=c/\c<=122):=RH alL (by omega) (by rw[Ai];omega)
def rM : Str := " !\"#$&'()*+,-./0123456789:;<=>?@ABCDEFGHIJKLMNOPQRSTUVWXYZ[\\]^_`"
def rN:Str:="abcdefghijklmnopqrstuvwxyz{|}~"
theorem alM:∀c∈(rM++rN).cps.toList,32<=c/\c<=126/\c≠37:=by decide +kernel
theorem wU:(rM++rN).length=94:=by decide +kernel
section
variable {P:Program}{w:World}{K:Fg}{mg:Mv}{base:Heap}
def wV:Sp:=fun vs H Q _=>∃c k:Int,vs=[.int c,.int k]/\∀n:Int,Q (.int n) H
theorem RI:aR [aD5,aEc,aD6] [aD5,aEc] (aE rL):=aZ
theorem Aj{f:Addr}{fd:Fy}(F:ak K aEi aEi rL f fd):aj P w K mg base al 1 f fd [aD5,aEc] wV:=by
 refine F.okL RI ?_
 . intro ay A outer s H vs Q E hr h xX dX;obtain⟨c,k,rfl,q⟩:=h;refine⟨_,(ao (aP (i:=2) RI.nd rfl (Or.inl rfl) (aF cz (aF wb (aF dH (aF dH (aF cz (pv 0) ar) (aF wb ar (pv 1))) ar) ar) ar))
    (av (aU (aF cz (aF wb (pv 2) (aF dH (aF iA (pv 2) ar) ar)) ar)))),?_⟩
   refine mR ?_;intro dD sS dP;refine⟨_,rfl,_,_,rfl,rfl,(by show(0:Int)<2147483647;decide),_,rfl,_,_,rfl,rfl,.inl ⟨by omega,by omega⟩,_,_,rfl,rfl,_,_,rfl,rfl,_,_,rfl,rfl,.inr ⟨by omega,by omega⟩,_,_,rfl,rfl,(by show(0:Int)<2147483647;decide),?_⟩;refine⟨_,rfl,_,rfl,_,_,rfl,rfl,⟨by omega,by omega⟩,_,_,rfl,rfl,_,_,rfl,rfl,.inl ⟨by omega,by omega⟩,_,_,rfl,rfl,(by show(0:Int)<2147483647;decide),?_⟩;exact q _
def JB(K:Fg):Sp:=fun vs H Q _=>∃(a:Addr) (k:Int) (ns:List Int),vs=[.ref a,.int k]/\0<=k/\ae K H a (ns.map V.int)/\∀n:Int,Q (.int n) H
theorem alN:aR [aEd,aEc] [aEd,aEc] (aE Af):=aZ
theorem RJ{f:Addr}{fd:Fy}(F:ak K aEA aEA Af f fd)(B:bV mg):aj P w K mg base al 1 f fd [aEd,aEc] (JB K):=by
 refine F.okL alN ?_
 . intro ay A outer s H vs Q E hr h xX dX;obtain⟨a,k,ns,rfl,k0,hA,q⟩:=h;refine⟨_,(ao (cJ (bM yN (pv 1) (dC gc (by rfl) B.len fZ (aa (pv 0) ac)) (bE _))
    (av (aU (bi eL (pv 0) (pv 1) (fun _ _=>rfl)))) dq)
    (av (aU ar))),?_⟩
   refine mR ?_;intro dD sS dP;refine⟨_,rfl,_,rfl,a,_,rfl,.inl hA,_,_,rfl,rfl,_,rfl,?_⟩;refine bw (fun h=>?_) (fun h=>?_)
   . have h':=cZ h;rw[am]at h';obtain⟨z,hz,_⟩:=Px (ns:=ns) (r:=k) k0 h';exact⟨_,rfl,_,rfl,a,_,_,_,rfl,rfl,hA,hz,q z⟩
   . exact q 0
def RK:Sp:=fun vs H Q _=>∃c p:Int,vs=[.int c,.int p]/\∀x H',cr x->ag H H'->Q (.str x) H'
theorem EE:aR [aD5,aFr,aEE,"_law_body","_law_at"] [aD5,aFr] (aE Ev):=aZ
theorem alO{f:Addr}{fd:Fy}(F:ak K aFu aFu Ev f fd)(B:bV mg):aj P w K mg base al 1 f fd [aD5,aFr] RK:=by
 refine F.okL EE ?_
 . intro ay A outer s H vs Q E hr h xX dX;obtain⟨c,p,rfl,q⟩:=h;refine⟨_,(ao (aP (i:=2) EE.nd rfl (Or.inr rfl) bH)
    (C5 (fun σ H2=>∃x:Str,σ=[some (.int c),some (.int p),some (.str wT),some (.str x),none]/\ag H H2/\(∀c∈x.cps.toList,97<=c/\c<=122)/\x.length<=7) (aP (i:=3) EE.nd rfl (Or.inl rfl) (dr my yE yF wt bH (aa (fM [aEc] [aEE,aD5] [2,0] dL rfl (oK rfl B.range (aa (aF cz (aF iA (pv 0) ar) ar) ac)) (fun _ _ _ _=>(aY (i:=0) (show List.Nodup ([aEc,aEE,aD5]:Ls) by decide +kernel) rfl (Or.inl rfl))) (fun _ _ _ _=>ge) (fun _ _ _ _=>(bi yW (pv 1) (aF cz (aF iA (pv 2) (aF dH ar (aF wb ar (pv 0)))) ar) (fun _ _=>rfl)))) ac)))
    (ao (aP (i:=4) EE.nd rfl (Or.inl rfl) (aF cz (aF iA (pv 0) ar) (aF dH (dC Pa (by rfl) B.len fZ (aa (pv 3) ac)) ar)))
    (av (aU (aF yP (aF yP (iX C3 (pv 3) oN (gb (pv 4))) (bi yW (pv 2) (aF cz (aF dH (pv 0) (pv 1)) ar) (fun _ _=>rfl))) (iX C3 (pv 3) (gb (pv 4)) oN))))))),?_⟩
   refine mR ?_;intro dD sS dP;refine⟨?_,?_⟩
   . refine⟨rfl,_,rfl,_,_,rfl,rfl,⟨by omega,by omega⟩,_,_,rfl,rfl,(by show(0:Int)<8;decide),c / 3 % 8,rfl,by omega,by omega,?_⟩;refine wq (σ0:=[none,some (.str wT),some (.int c)]) (fun σ=>∃v,σ=[v,some (.str wT),some (.int c)]) (fun i ys _=>∃xs:Ls,ys=xs.map V.str/\xs.length=i/\∀x∈xs,(∀c∈x.cps.toList,97<=c/\c<=122)/\x.length<=1) ⟨_,rfl⟩ (fun _ _=>⟨[],rfl,rfl,fun _ h=>nomatch h⟩) ?_ ?_
     . intro D i ys σ H2 k hD hi eY hd hs gg hk;refine ba ?_;intro tT;obtain⟨v,rfl⟩:=eY;obtain⟨xs,rfl,hx,hl⟩:=gg;obtain⟨z,hz,zb⟩:=ED (c / (16+5 * (0+(i:Int))));refine⟨_,rfl,_,rfl,_,rfl,_,_,rfl,rfl,.inl ⟨by omega,by omega⟩,_,_,rfl,rfl,_,_,rfl,rfl,⟨by omega,by omega⟩,_,_,rfl,rfl,(by show(0:Int)<26;decide),_,_,z,rfl,rfl,jK (by rw[Ai];decide),hz,?_⟩;refine hk _ _ _ ⟨_,rfl⟩ (ag.refl _) (bI (by rw[am];omega)) ⟨xs++[_],tV xs _,by rw[bh,hx];rfl,fun y hy=>?_⟩
       rcases bK.mp hy with hy | hy
       . exact hl y hy
       . rw[bj.mp hy];exact⟨fun d hd=>by rw[EC hd];exact zb,Cb (oZ z)⟩
     . intro D ys H2 hD hd hs gi;refine ba ?_;intro tT;obtain⟨xs,rfl,hx,hl⟩:=gi;have alP:=zi (b:=1) fun y hy=>(hl y hy).2;have e0:(Str.ofString "").length=0:=by decide +kernel
       refine⟨_,D,xs,rfl,rfl,ae.of hd,by rw[e0];omega,?_⟩;refine⟨_,rfl,hs,fun d hd=>?_,?_⟩
       . rw[show Txt.join (Str.ofString "") xs=Str.join (Str.ofString "") xs from Co _ _]at hd
         rcases JA hd with hd | ⟨y,hy,hd⟩
         . cases hd
         . exact(hl y hy).1 d hd
       refine ce Dc ?_;rw[e0];omega
   . intro σ' H' pD;refine ba ?_;intro tT;obtain⟨x,rfl,s1,xt,x8⟩:=pD;refine⟨_,rfl,_,_,rfl,rfl,⟨by omega,by omega⟩,_,rfl,_,rfl,jK (by omega),_,_,rfl,rfl,_,_,rfl,rfl,(by show(0:Int)<(x.length:Int)+1;omega),?_⟩;obtain⟨z,hz,zb⟩:=ED (c+p);have l1:=Txt.slice_le x none (some (c / 7 % ((x.length:Int)+1)));have l2:=Txt.slice_le x (some (c / 7 % ((x.length:Int)+1))) none;have l3:(⟨#[z]⟩:Str).length=1:=oZ z;refine⟨_,rfl,_,rfl,_,rfl,_,rfl,jK (by omega),_,rfl,_,rfl,_,rfl,_,_,rfl,rfl,_,_,rfl,rfl,(by show(0:Int)<26;decide),_,_,z,rfl,rfl,jK (by rw[Ai];decide),hz,_,_,rfl,rfl,fit (by omega) (by omega),_,rfl,_,rfl,_,rfl,_,rfl,jK (by omega),_,_,rfl,rfl,fit (by rw[jJ];omega) (by omega),?_⟩;have l4:=alK x (c / 7 % ((x.length:Int)+1)) (yB _ (by omega)) (by have:=Cr (c / 7) (show(0:Int)<(x.length:Int)+1 by omega);omega);refine q _ _ ⟨?_,?_,fun d hd=>?_⟩ s1
     . rw[jJ,jJ];omega
     . rw[jJ,jJ];omega
     . rw[pk,pk]at hd
       rcases bK.mp hd with hd | hd
       . rcases bK.mp hd with hd | hd
         . exact xt d (RG hd)
         . rw[EC hd];exact zb
       . exact xt d (RG hd)
def RL:Sp:=fun vs H Q _=>∃c:Int,vs=[.int c]/\∀x H',iJ x->ag H H'->Q (.str x) H'
theorem EF:aR [aD6,aEE,"_law_many"] [aD6] (aE Ew):=aZ
theorem alQ{f:Addr}{fd:Fy}(F:ak K aFv aFv Ew f fd)(B:bV mg):aj P w K mg base al 1 f fd [aD6] RL:=by
 refine F.okL EF ?_
 . intro ay A outer s H vs Q E hr h xX dX;obtain⟨c,rfl,q⟩:=h;refine⟨_,(ao (aP (i:=1) EF.nd rfl (Or.inr rfl) bH)
    (ao (aP (i:=1) EF.nd rfl (Or.inr rfl) (aF yP (pv 1) bH))
    (ao (aP (i:=2) EF.nd rfl (Or.inl rfl) (aF cz (pv 0) ar))
    (av (aU (dr my yE yF wt bH (aa (fM [aEc] [aEE,aD6] [1,0] dL rfl (oK rfl B.range (aa (pv 2) ac)) (fun _ _ _ _=>(aY (i:=0) (show List.Nodup ([aEc,aEE,aD6]:Ls) by decide +kernel) rfl (Or.inl rfl))) (fun _ _ _ _=>ge) (fun _ _ _ _=>(bi yW (pv 1) (aF cz (aF iA (pv 2) (aF dH ar (aF wb ar (pv 0)))) (dC Pa (by rfl) B.len fZ (aa (pv 1) ac))) (fun _ _=>rfl)))) ac))))))),?_⟩
   refine rf ?_;intro dD sS m9 fD dP;refine⟨_,rfl,_,_,rfl,rfl,(by show rM.length+rN.length<=sizeLine;rw[←jJ,wU];decide),?_⟩;refine⟨_,rfl,_,_,rfl,rfl,(by show(0:Int)<5;decide),?_⟩;refine⟨rfl,_,rfl,c % 5,rfl,by omega,by omega,?_⟩;have e1:∀i:Nat,∃z,bZ (rM++rN).cps.toList (c / (5+11 * (0+(i:Int))) % ((rM++rN).length:Int))=some z/\(32<=z/\z<=126/\z≠37):=fun i=>RH alM (yB _ (by rw[wU];decide)) (Cr _ (by rw[wU];decide));refine wq (σ0:=[none,some (.str (rM++rN)),some (.int c)]) (fun σ=>∃v,σ=[v,some (.str (rM++rN)),some (.int c)]) (fun i ys _=>∃xs:Ls,ys=xs.map V.str/\xs.length=i/\∀x∈xs,(∀c∈x.cps.toList,32<=c/\c<=126/\c≠37)/\x.length<=1) ⟨_,rfl⟩ (fun _ _=>⟨[],rfl,rfl,fun _ h=>nomatch h⟩) ?_ ?_
   . intro D i ys σ H2 k hD hi uA hd hs uB hk;refine ba ?_;intro tT;obtain⟨v,rfl⟩:=uA;obtain⟨xs,rfl,hx,hl⟩:=uB;obtain⟨z,hz,zb⟩:=e1 i;refine⟨_,rfl,_,rfl,_,rfl,_,_,rfl,rfl,.inl ⟨by omega,by omega⟩,_,_,rfl,rfl,_,_,rfl,rfl,⟨by omega,by omega⟩,_,rfl,_,rfl,jK (by rw[wU];decide),_,_,rfl,rfl,(by show(0:Int)<((rM++rN).length:Int);rw[wU];decide),_,_,z,rfl,rfl,jK (by rw[wU];decide),hz,?_⟩;refine hk _ _ _ ⟨_,rfl⟩ (ag.refl _) (bI (by rw[am];omega)) ⟨xs++[_],tV xs _,by rw[bh,hx];rfl,fun y hy=>?_⟩
     rcases bK.mp hy with hy | hy
     . exact hl y hy
     . rw[bj.mp hy];exact⟨fun d hd=>by rw[EC hd];exact zb,Cb (oZ z)⟩
   . intro D ys H2 hD hd hs Ak;refine ba ?_;intro tT;obtain⟨xs,rfl,hx,hl⟩:=Ak;have alP:=zi (b:=1) fun y hy=>(hl y hy).2;have e0:(Str.ofString "").length=0:=by decide +kernel
     refine⟨_,D,xs,rfl,rfl,ae.of hd,by rw[e0];omega,?_⟩;refine q _ _ ⟨?_,fun d hd=>?_⟩ hs
     . refine ce Dc ?_;rw[e0];omega
     . rw[show Txt.join (Str.ofString "") xs=Str.join (Str.ofString "") xs from Co _ _]at hd
       rcases JA hd with hd | ⟨y,hy,hd⟩
       . cases hd
       . exact(hl y hy).1 d hd
abbrev alR (H:Hp) (Q:V->Hp->Prop):Prop:=∀(l:Addr) (H':Hp) (xs:Ls),H l=none->ag H H'->H' l=some (.lst (xs.map V.str))->xs.length<=4->(∀x∈xs,iJ x)->Q (.ref l) H'
def EG:Sp:=fun vs H Q _=>∃c:Int,vs=[.int c]/\alR H Q
theorem RM:aR [aD6,aEE] [aD6] (aE Ag):=aZ
theorem alS{f fU EH:Addr}{fd iK JC:Fy}(F:ak K aEL aEL Ag f fd)(B:bV mg)(cG:ak K aEi aEi rL fU iK)(dQ:mg aEi=some (.ref fU))(Al:ak K aFv aFv Ew EH JC)(JD:mg aFv=some (.ref EH)) :
 aj P w K mg base al 2 f fd [aD6] EG:=by
 have fm:aj P w K mg base al 1 fU iK [aD5,aEc] wV:=Aj cG;have fo:=cG.binds2 (l:=[aD5,aEc]) (fun _ _ _ _ _ _ _ _=>rfl);have alT:aj P w K mg base al 1 EH JC [aD6] RL:=alQ Al B;have alU:=Al.binds1 (l:=[aD6]) (fun _ _ _ _ _ _ _=>rfl);refine F.okL RM ?_
 . intro ay A outer s H vs Q E hr h xX dX;obtain⟨c,rfl,q⟩:=h;refine⟨_,(ao (aP (i:=1) RM.nd rfl (Or.inr rfl) (aF dH ar (aF wb ar (aF cz (pv 0) ar))))
    (av (aU (fM [aEc] [aEE,aD6] [1,0] dL rfl (oK rfl B.range (aa (aF cz (pv 0) ar) ac)) (fun _ _ _ _=>(aY (i:=0) (show List.Nodup ([aEc,aEE,aD6]:Ls) by decide +kernel) rfl (Or.inl rfl))) (fun _ _ _ _=>ge) (fun _ _ _ _=>(aG alT hr rfl JD Al.kp alU .nil aD (aa (aF cz (aG fm hr rfl dQ cG.kp fo .nil aD (aa (aF iA (pv 2) ar) (aa (pv 0) ac))) (pv 1)) ac))))))),?_⟩
   refine mR ?_;intro dD sS dP;refine⟨_,rfl,_,_,rfl,rfl,(by show(0:Int)<3;decide),_,_,rfl,rfl,.inl ⟨by omega,by omega⟩,_,_,rfl,rfl,?_⟩;refine⟨_,rfl,_,_,rfl,rfl,(by show(0:Int)<5;decide),c % 5,rfl,by omega,by omega,?_⟩;refine wq (σ0:=[none,some (.int (40+900 * (c % 3))),some (.int c)]) (fun σ=>∃v,σ=[v,some (.int (40+900 * (c % 3))),some (.int c)]) (fun i ys _=>∃xs:Ls,ys=xs.map V.str/\xs.length=i/\∀x∈xs,iJ x) ⟨_,rfl⟩ (fun _ _=>⟨[],rfl,rfl,fun _ h=>nomatch h⟩) ?_ ?_
   . intro D i ys σ H2 k hD hi Am hd hs JE hk;refine ba ?_;intro tT;obtain⟨v,rfl⟩:=Am;obtain⟨xs,rfl,hx,hl⟩:=JE;refine⟨_,rfl,_,_,rfl,rfl,⟨by omega,by omega⟩,_,rfl,_,_,rfl,fun n=>?_⟩;refine⟨_,rfl,_,_,rfl,rfl,(by show(0:Int)<40+900 * (c % 3);omega),_,rfl,fun x H3 lx s3=>?_⟩;exact hk _ _ _ ⟨_,rfl⟩ s3 (bI (by rw[am];omega)) ⟨xs++[x],tV xs x,by rw[bh,hx];rfl,fun y hy=>(bK.mp hy).elim (hl y) (fun hy=>by rw[bj.mp hy];exact lx)⟩
   . intro D ys H2 hD hd hs alV;refine ba ?_;intro tT;obtain⟨xs,rfl,hx,hl⟩:=alV;exact q D H2 xs hD hs hd (by omega) hl
def JF:Sp:=fun vs H Q _=>∃c:Int,vs=[.int c]/\∀x H',fC x->ag H H'->Q (.str x) H'
theorem JG:aR [aD6,aEE,"_law_way"] [aD6] (aE Ah):=aZ
def JH:Ls:=["a","a/b","conf/ed/three/four","zz"]
def JI(x:Str):Bool:=decide (1<=x.length) && decide (x.length<=8) && x.cps.toList.all fun c=>decide (97<=c) && decide (c<=122)
theorem alW{x:Str}(h:JI x=true):cr x:=by
 unfold JI at h;simp only[gB,Cw,iq]at h;exact⟨h.1.1,h.1.2,h.2⟩
theorem EI{x:Str}(ps:Ls)(e:x=Str.join pq ps)(h1:1<=ps.length)(h2:ps.length<=4)(h:ps.all JI=true):fC x:=⟨ps,e,h1,h2,fun p hp=>alW (iq.mp h p hp)⟩
theorem alX:∀x∈JH,fC x:=by
 intro x hx;simp only[JH,aX,fe,ff]at hx
 rcases hx with rfl | rfl | rfl | rfl
 . exact EI ["a"] (by decide +kernel) (by decide) (by decide) (by decide +kernel)
 . exact EI ["a","b"] (by decide +kernel) (by decide) (by decide) (by decide +kernel)
 . exact EI ["conf","ed","three","four"] (by decide +kernel) (by decide) (by decide) (by decide +kernel)
 . exact EI ["zz"] (by decide +kernel) (by decide) (by decide) (by decide +kernel)
theorem RN{z:Nat}(h:97<=z/\z<=122):cr ⟨#[z]⟩:=⟨aJ _,(by show 1<=8;decide),fun d hd=>by rw[EC hd];exact h⟩
theorem RO{f:Addr}{fd:Fy}(F:ak K aEO aEO Ah f fd):aj P w K mg base al 1 f fd [aD6] JF:=by
 refine F.okL JG ?_
 . intro ay A outer s H vs Q E hr h xX dX;obtain⟨c,rfl,q⟩:=h;refine⟨_,(ao (aP (i:=1) JG.nd rfl (Or.inl rfl) bH)
    (ao (aP (i:=2) JG.nd rfl (Or.inl rfl) (aF cz (pv 0) ar))
    (ao (cJ (bM eV (pv 2) ar (bE _))
    (av (aU (aF yP (aF yP (bi yW (pv 1) (aF cz (aF iA (pv 0) ar) ar) (fun _ _=>rfl)) bH) (bi yW (pv 1) (aF cz (aF iA (pv 0) ar) ar) (fun _ _=>rfl))))) dq)
    (av (aU (bi eL (cX (aa bH (aa bH (aa bH (aa bH ac))))) (pv 2) (fun _ _=>rfl))))))),?_⟩
   refine rf ?_;intro dD sS m9 fD dP;refine⟨_,rfl,_,_,rfl,rfl,(by show(0:Int)<5;decide),?_⟩;refine⟨_,rfl,rfl,_,rfl,?_⟩;refine bw (fun h=>?_) (fun h=>?_)
   . obtain⟨z,hz,zb⟩:=ED (c / 5);obtain⟨y,hy,yb⟩:=ED (c / 130);have lz:(⟨#[z]⟩:Str).length=1:=oZ z;have ly:(⟨#[y]⟩:Str).length=1:=oZ y;have ls:(Str.ofString "/").length=1:=by decide +kernel
     refine⟨_,rfl,_,rfl,_,_,rfl,rfl,⟨by omega,by omega⟩,_,_,rfl,rfl,(by show(0:Int)<26;decide),_,_,z,rfl,rfl,jK (by rw[show(Str.ofString "abcdefghijklmnopqrstuvwxyz").length=26 from Ai];decide),hz,_,_,rfl,rfl,fit (by omega) (by omega),_,rfl,_,rfl,_,_,rfl,rfl,⟨by omega,by omega⟩,_,_,rfl,rfl,(by show(0:Int)<26;decide),_,_,y,rfl,rfl,jK (by rw[show(Str.ofString "abcdefghijklmnopqrstuvwxyz").length=26 from Ai];decide),hy,_,_,rfl,rfl,fit (by rw[jJ];omega) (by omega),?_⟩;refine q _ _ ⟨[⟨#[z]⟩,⟨#[y]⟩],rfl,(by show 1<=2;decide),(by show 2<=4;decide),fun p hp=>?_⟩ (ag.refl _);simp only[aX,fe,ff]at hp
     rcases hp with rfl | rfl
     . exact RN zb
     . exact RN yb
   . have h4:c % 5≠4:=fun z=>h (by show decide (V.int (c % 5)=V.int 4)=true;rw[z];rfl);refine⟨(by show 4<=sizeLine;decide),fun p1 H1 n1 s1 e1=>?_⟩;obtain⟨z,hz,zm⟩:=zh (xs:=JH) (r:=c % 5) (by omega) (by show c % 5<(4:Nat);omega);exact⟨_,rfl,p1,_,_,_,rfl,rfl,ae.of e1,hz,q z H1 (alX z (dG zm)) s1⟩
theorem RP(n:Int):0<=n % (10 ^ (9:Int).toNat)/\n % (10 ^ (9:Int).toNat)<=1000000000:=by
 have e:(10 ^ (9:Int).toNat:Int)=1000000000:=by decide
 rw[e];omega
def alY(H:Hp)(Q:VK):Prop:=∀p H' (ms:List Int),H p=none->ag H H'->H' p=some (.tup (ms.map V.int))->fk ms->Q (.ref p) H'
def RQ:Sp:=fun vs H Q _=>∃c:Int,vs=[.int c]/\alY H Q
theorem alZ:aR [aD6] [aD6] (aE Ex):=aZ
theorem al0{f:Addr}{fd:Fy}(F:ak K aFw aFw Ex f fd):aj P w K mg base al 1 f fd [aD6] RQ:=by
 refine F.okL alZ ?_
 . intro ay A outer s H vs Q E hr h xX dX;obtain⟨c,rfl,q⟩:=h;refine⟨_,(ao (cJ (bM eV (aF cz (pv 0) ar) ar (bE _))
    (av (aU (eK (aa (aF dH ar (aF cz (aF iA (pv 0) ar) ar)) ac)))) dq)
    (ao (cJ (bM eV (aF cz (pv 0) ar) ar (bE _))
    (av (aU (eK (aa ar (aa (aF cz (aF iA (pv 0) ar) ar) ac))))) dq)
    (ao (cJ (bM eV (aF cz (pv 0) ar) ar (bE _))
    (av (aU (eK (aa ar (aa ar (aa (aF cz (aF iA (pv 0) ar) (aF Hq ar ar)) ac)))))) dq)
    (av (aU (eK (aa (aF cz (aF iA (pv 0) ar) (aF Hq ar ar)) ac))))))),?_⟩
   refine rf ?_;intro dD sS m9 fD dP;refine⟨_,rfl,_,_,rfl,rfl,(by show(0:Int)<4;decide),rfl,_,rfl,?_⟩;refine bw (fun h=>?_) (fun h=>?_)
   . refine⟨_,rfl,_,_,rfl,rfl,⟨by omega,by omega⟩,_,_,rfl,rfl,(by show(0:Int)<3;decide),_,_,rfl,rfl,(by show 1<=sizeLine;decide),fun p1 H1 n1 s1 e1=>?_⟩;exact q p1 H1 [_] n1 s1 e1 ⟨(by show 1<=1;decide),(by show 1<=3;decide),fun n hn=>by rw[bj.mp hn];omega⟩
   refine⟨_,rfl,_,_,rfl,rfl,(by show(0:Int)<4;decide),rfl,_,rfl,?_⟩;refine bw (fun h=>?_) (fun h=>?_)
   . refine⟨_,rfl,_,_,rfl,rfl,⟨by omega,by omega⟩,_,_,rfl,rfl,(by show(0:Int)<3;decide),(by show 2<=sizeLine;decide),fun p2 H2 n2 s2 e2=>?_⟩;exact q p2 H2 [_,_] n2 s2 e2 ⟨(by show 1<=2;decide),(by show 2<=3;decide),fun n hn=>by
      simp only[aX,fe,ff]at hn
      rcases hn with rfl | rfl<;>omega⟩
   refine⟨_,rfl,_,_,rfl,rfl,(by show(0:Int)<4;decide),rfl,_,rfl,?_⟩;refine bw (fun h=>?_) (fun h=>?_)
   . refine⟨_,rfl,_,_,rfl,rfl,⟨by omega,by omega⟩,_,_,rfl,rfl,⟨by decide,by decide,by decide⟩,_,_,rfl,rfl,(by show(0:Int)<10 ^ (9:Int).toNat;decide),(by show 3<=sizeLine;decide),fun p3 H3 n3 s3 e3=>?_⟩;exact q p3 H3 [_,_,_] n3 s3 e3 ⟨(by show 1<=3;decide),(by show 3<=3;decide),fun n hn=>by
      simp only[aX,fe,ff]at hn
      rcases hn with rfl | rfl | rfl
      . omega
      . omega
      . exact RP _⟩
   refine⟨_,rfl,_,_,rfl,rfl,⟨by omega,by omega⟩,_,_,rfl,rfl,⟨by decide,by decide,by decide⟩,_,_,rfl,rfl,(by show(0:Int)<10 ^ (9:Int).toNat;decide),(by show 1<=sizeLine;decide),fun p4 H4 n4 s4 e4=>?_⟩;exact q p4 H4 [_] n4 s4 e4 ⟨(by show 1<=1;decide),(by show 1<=3;decide),fun n hn=>by rw[bj.mp hn];exact RP _⟩
end
open PyProof.Rows
section
variable {P:Program}{w:World}{K:Fg}{mg:Mv}{base:Heap}
theorem eO{n:Nat}(h:n<=100000):n<=sizeLine:=by rw[yp];omega
theorem jg{α β:Type}{l:List α}{f:α->β}{i:Nat}{y:β}(h:(l.map f)[i]?=some y):∃x,l[i]?=some x/\y=f x:=by
 rw[db]at h;cases e:l[i]? with
 | none=>rw[e]at h;cases h
 | some x=>rw[e]at h;exact⟨x,rfl,(gA h).symm⟩
def RR:Sp:=fun vs H Q _=>∃t:Str,vs=[.str t]/\t.length<=90000/\∀l H',H l=none->ag H H'->H' l=some (.lst ((rowsOf t).map V.str))->Q (.ref l) H'
theorem al1:aR [aEl] [aEl] (aE D9):=aZ
theorem al2{f:Addr}{fd:Fy}(F:ak K aFJ aFJ D9 f fd):aj P w K mg base al 1 f fd [aEl] RR:=by
 refine F.okL al1 ?_
 . intro ay A outer s H vs Q E hr h xX dX;obtain⟨t,rfl,ht,q⟩:=h;refine⟨_,(av (aU (XM (bM yM (pv 0) bH (bE _)) (dr my Wq Wr IX (pv 0) (aa bH ac)) (cX ac)))),?_⟩;refine⟨_,rfl,rfl,_,rfl,?_⟩;refine bw (fun h=>?_) (fun h=>?_)
   . have ne:t≠Str.empty:=fun z=>by
      rw[z]at h;exact absurd h (by decide +kernel)
     refine⟨_,rfl,rfl,t,jM,rfl,rfl,by decide +kernel,eO (by omega),fun l H' a b c=>?_⟩;refine q l H' a b ?_;rw[c];unfold rowsOf;rw[ai ne]
   . have e:t=Str.empty:=by
      rcases Classical.em (t=Str.empty) with z | z
      . exact z
      . refine absurd ?_ h;show(!decide (V.str t=V.str Str.empty))=true;rw[cH (fun y=>z (V.str.inj y))];rfl
     refine⟨(by show 0<=sizeLine;exact dw _),fun l H' a b c=>?_⟩;refine q l H' a b ?_;rw[c];unfold rowsOf;rw[aq e];rfl
theorem RS{x y a:Str}(h:a∈Txt.split x y):a.length<=x.length:=part_short h
def An(ms:List Int):Prop:=ms.length<=3/\∀n∈ms,0<=n/\n<=1000000000
theorem fk.ok{ms:List Int}(h:fk ms):An ms:=⟨h.hi,h.rg⟩
def RT:Sp:=fun vs H Q _=>∃(m:Addr) (ms:List Int),vs=[.ref m]/\H m=some (.tup (ms.map V.int))/\An ms/\∀H',ag H H'->Q (.str (jf ms)) H'
theorem al3:aR [aEh] [aEh] (aE Ea):=aZ
theorem RU{ms:List Int}(h:An ms):((ms.map ig).map (·.length)).sum<=30:=by
 have:=zi (ys:=ms.map ig) (b:=10) fun y hy=>by
  obtain⟨n,hn,rfl⟩:=cL.mp hy;exact(Rv (h.2 n hn).1 (h.2 n hn).2).2
 rw[am]at this;have:=h.1;omega
theorem al4{n:Int}(h0:0<=n)(h1:n<=1000000000):n.natAbs.log2<1920:=by
 have:n.natAbs<2 ^ 1920:=VZ (by omega:n.natAbs<=1000000000) (by decide +kernel)
 by_cases z:n.natAbs=0
 . rw[z];decide
 . exact(Nat.log2_lt z).mpr this
theorem al5{f:Addr}{fd:Fy}(F:ak K aFi aFi Ea f fd)(B:bV mg):aj P w K mg base al 1 f fd [aEh] RT:=by
 refine F.okL al3 ?_
 . intro ay A outer s H vs Q E hr h xX dX;obtain⟨m,ms,rfl,hm,ok,q⟩:=h;refine⟨_,(av (aU (dr my yE yF wt bH (aa (fM ["number"] [] [] dL rfl (Ys (pv 0)) (fun _ _ _ _=>(aY (i:=0) (show List.Nodup (["number"]:Ls) by decide +kernel) rfl (Or.inl rfl))) (fun _ _ _ _=>ge) (fun _ _ _ _=>(eB Zz (by rfl) B.str PyProof.Rows.boot_str (aa (pv 0) ac)))) ac)))),?_⟩;refine⟨rfl,_,rfl,m,rfl,⟨_,aW.of hm⟩,?_⟩;refine akq (σ0:=[none]) (aW.of hm) (fun σ=>∃v,σ=[v]) ((ms.map ig).map V.str) (by rw[am,am,am]) (eO (by rw[am];have:=ok.1;omega)) ⟨_,rfl⟩ ?_ ?_
   . intro i z y σ H2 k hz hy hQ hs hk;obtain⟨v,rfl⟩:=hQ;obtain⟨n,hn,rfl⟩:=jg hz;rw[oA]at hy;obtain⟨n',jF,rfl⟩:=jg hy;rw[hn]at jF;cases jF;have r:=ok.2 n (dG hn);exact⟨_,rfl,n,rfl,al4 r.1 r.2,hk _ _ ⟨_,rfl⟩ (ag.refl _)⟩
   . intro D H2 hD hd hs;have l1:=RU ok;refine⟨jd,D,ms.map ig,rfl,rfl,ae.of hd,?_,?_⟩
     . rw[show jd.length=1 by decide +kernel,am];have:=ok.1;omega
     . have:=q H2 hs;rw[show jf ms=Txt.join jd (ms.map ig) from (Co _ _).symm]at this;exact this
end
end K64
namespace K64
open PySem L2 PySem.Spec
theorem JJ{g:TG}{tb:TS}{D:Ends}{σ:St}{H1:Hp}{d:Addr}{kvs:List (aw×V)}{ob:Obj}(Pv:Nat->St->Hp->Prop)(h0:Pv 0 σ (ah H1 d (.frz ob (.dK kvs))))(hf:∀i σ H,Pv i σ H->H d=some (.frz ob (.dK kvs)))
 (hs:∀i k v p σ H,kvs[i]?=some (k,v)->Pv i σ H->H p=none->g (.ref p) σ (ah H p (.tup [kV k,v])) fun σ2 H2=>
  tb { nx:=Pv (i+1),ct:=Pv (i+1),bk:=fun σ' H'=>H' d=some (.frz ob (.dK kvs))/\D.nx σ' (ah H' d (.dK kvs)),rt:=fun v' H'=>H' d=some (.frz ob (.dK kvs))/\D.rt v' (ah H' d (.dK kvs)) } σ2 H2)
 (hd:∀σ H,Pv kvs.length σ H->D.nx σ (ah H d (.dK kvs))):∃W:Nat->Nat->St->Hp->Prop,(∃m,W 0 m σ (ah H1 d (.frz ob (.dK kvs))))/\∀i m σ H,W i m σ H ->
 H d=some (.frz ob (.dK kvs))/\((kvs.length<=i/\D.nx σ (ah H d (.dK kvs)))\/(i<kvs.length/\∃N:St->Hp->Prop,(∀σ' H',N σ' H'->∃m',m'<m/\W (i+1) m' σ' H') /\
  ∀k v p,kvs[i]?=some (k,v)->H p=none->g (.ref p) σ (ah H p (.tup [kV k,v])) fun σ2 H2=>
   tb { nx:=N,ct:=N,bk:=fun σ' H'=>H' d=some (.frz ob (.dK kvs))/\D.nx σ' (ah H' d (.dK kvs)),rt:=fun v' H'=>H' d=some (.frz ob (.dK kvs))/\D.rt v' (ah H' d (.dK kvs)) } σ2 H2)):=by
 refine⟨fun i m σ H=>m=kvs.length - i/\i<=kvs.length/\Pv i σ H,⟨kvs.length,by simp,dw _,h0⟩,?_⟩;rintro i m σ H ⟨rfl,hi,p⟩;refine⟨hf i σ H p,?_⟩
 by_cases aN:i<kvs.length
 . exact .inr ⟨aN,Pv (i+1),fun σ' H' p'=>⟨kvs.length - (i+1),by omega,rfl,aN,p'⟩,fun k v q hk hq=>hs i k v q σ H hk p hq⟩
 . have e:i=kvs.length:=by omega
   subst e;exact .inl ⟨aJ _,hd σ H p⟩
abbrev Ch:=List (Str×List Int)
def dA(H:Hp)(kv:aw×V)(e:Str×List Int):Prop:=kv.1=.inr e.1/\∃m,kv.2=.ref m/\H m=some (.tup (e.2.map V.int))
theorem dA.same{H H':Hp}(s:ag H H'){kv:aw×V}{e:Str×List Int}(h:dA H kv e):dA H' kv e:=h.elim fun a al6=>al6.elim fun m al7=>al7.elim fun b c=>⟨a,m,b,s _ _ c⟩
def di(H:Hp)(c:Addr)(ch:Ch):Prop:=∃kvs,H c=some (.dK kvs)/\Paired (dA H) kvs ch
theorem di.same{H H':Hp}(s:ag H H'){c:Addr}{ch:Ch}(h:di H c ch):di H' c ch:=h.elim fun kvs al8=>al8.elim fun a b=>⟨kvs,s _ _ a,aK b fun _ _=>dA.same s⟩
structure rO(K:Fg)(mg:Mv)(T:Addr):Prop where
 cl:jH K T
 nC:fH K T aEb
 nH:fH K T aEj
 nO:fH K T aEw
 mgC:mg "Stand"=some (.ref T)
abbrev Ow:=List (Str×(Ls×Ls))
def jh(H:Hp)(kv:aw×V)(e:Str×(Ls×Ls)):Prop:=kv.1=.inr e.1/\∃t l1 l2,kv.2=.ref t/\H t=some (.tup [.ref l1,.ref l2])/\H l1=some (.lst (e.2.1.map V.str))/\H l2=some (.lst (e.2.2.map V.str))
theorem jh.same{H H':Hp}(s:ag H H'){kv:aw×V}{e:Str×(Ls×Ls)}(h:jh H kv e):jh H' kv e:=h.elim fun a al9=>al9.elim fun t ama=>ama.elim fun l1 amb=>amb.elim fun l2 amc=>amc.elim fun b amd=>amd.elim fun c ame=>ame.elim fun d f=>⟨a,t,l1,l2,b,s _ _ c,s _ _ d,s _ _ f⟩
def ji(H H':Hp)(kv:aw×V)(e:Str×(Ls×Ls)):Prop:=kv.1=.inr e.1/\∃t l1 l2,kv.2=.ref t/\H t=none/\H l1=none/\H l2=none/\H' t=some (.tup [.ref l1,.ref l2])/\H' l1=some (.lst (e.2.1.map V.str))/\H' l2=some (.lst (e.2.2.map V.str))
theorem ji.same{H H1 H2:Hp}(s:∀b o,H1 b=some o->H b=none->H2 b=some o){kv:aw×V}{e:Str×(Ls×Ls)}(h:ji H H1 kv e):ji H H2 kv e:=h.elim fun a amf=>amf.elim fun t amg=>amg.elim fun l1 amh=>amh.elim fun l2 ami=>ami.elim fun b amj=>amj.elim fun n1 amk=>amk.elim fun n2 aml=>aml.elim fun n3 amm=>amm.elim fun c amn=>amn.elim fun d f=>⟨a,t,l1,l2,b,n1,n2,n3,s _ _ c n1,s _ _ d n2,s _ _ f n3⟩
theorem ji.put{H H1:Hp}{d:Addr}{ks mz:List (aw×V)}(hd:H1 d=some (.dK ks)){kv:aw×V}{e:Str×(Ls×Ls)}(h:ji H H1 kv e):ji H (ah H1 d (.dK mz)) kv e:=
 h.elim fun a amo=>amo.elim fun t amp=>amp.elim fun l1 amq=>amq.elim fun l2 amr=>amr.elim fun b ams=>ams.elim fun n1 amt=>amt.elim fun n2 amu=>amu.elim fun n3 amv=>amv.elim fun c amw=>amw.elim fun d' f=>⟨a,t,l1,l2,b,n1,n2,n3,aB c (aO c hd (by intro z;cases z)),aB d' (aO d' hd (by intro z;cases z)),aB f (aO f hd (by intro z;cases z))⟩
def rQ(H:Hp)(o:Addr)(ow:Ow):Prop:=∃kvs,H o=some (.dK kvs)/\Paired (jh H) kvs ow
theorem rQ.same{H H':Hp}(s:ag H H'){o:Addr}{ow:Ow}(h:rQ H o ow):rQ H' o ow:=h.elim fun kvs amx=>amx.elim fun a b=>⟨kvs,s _ _ a,aK b fun _ _=>jh.same s⟩
abbrev Cs:=List (Str×Str)
def wW(kv:aw×V)(e:Str×Str):Prop:=kv.1=.inr e.1/\kv.2=.str e.2
def wX(H:Hp)(h:Addr)(cs:Cs):Prop:=∃kvs,H h=some (.dK kvs)/\Paired wW kvs cs
theorem wX.same{H H':Hp}(s:ag H H'){h:Addr}{cs:Cs}(x:wX H h cs):wX H' h cs:=x.elim fun kvs amy=>amy.elim fun a b=>⟨kvs,s _ _ a,b⟩
def gj(T:Addr)(H:Hp)(v:V)(ch:Ch)(cs:Cs)(ow:Ow):Prop:=∃a dx fl c h o,v=.ref a/\H a=some (.ins T dx fl)/\fl.lookup (aEb:Str)=some (.ref c)/\fl.lookup (aEj:Str)=some (.ref h)/\fl.lookup (aEw:Str)=some (.ref o) /\
 di H c ch/\wX H h cs/\rQ H o ow
theorem gj.same{T:Addr}{H H':Hp}{v:V}{ch:Ch}{cs:Cs}{ow:Ow}(s:ag H H')(x:gj T H v ch cs ow):gj T H' v ch cs ow:=by
 obtain⟨a,dx,fl,c,h,o,e,h1,h2,h3,h4,h5,h6,h7⟩:=x;exact⟨a,dx,fl,c,h,o,e,s _ _ h1,h2,h3,h4,h5.same s,h6.same s,h7.same s⟩
section
variable {P:Program}{w:World}{K:Fg}{mg:Mv}{base:Heap}
def RV:Sp:=fun vs H Q _=>∃(o:Addr) (kvs:List (aw×V)) (ow:Ow),vs=[.ref o]/\H o=some (.dK kvs)/\Paired (jh H) kvs ow/\(ow.map (·.1)).Nodup/\ow.length<=100 /\
 ∀d H' uC,H d=none->ag H H'->H' d=some (.dK uC)->Paired (ji H H') uC ow->Q (.ref d) H'
theorem EJ:aR [aEw,"copied",aEg,aEH] [aEw] (aE Eg):=aZ
theorem amz{f:Addr}{fd:Fy}(F:ak K aEU aEU Eg f fd)(B:bV mg):aj P w K mg base al 1 f fd [aEw] RV:=by
 refine F.okL EJ ?_
 . intro ay A outer s H vs Q E hr h xX dX;obtain⟨o,kvs,ow,rfl,ho,pr,nd,wY,q⟩:=h;have hu:=hr.units;refine⟨_,(ao (aP (i:=1) EJ.nd rfl (Or.inl rfl) lV)
    (ao (Im dY rfl (pv 0) (oI rfl (fG (aY (i:=2) EJ.nd rfl (Or.inl rfl)) (fG (aY (i:=3) EJ.nd rfl (Or.inl rfl)) mD)))
    (av (iZ hu (pv 1) (pv 2) (eK (aa (eB lO (by rfl) B.list jC (aa (bi eJ (pv 3) ar (fun _ _=>rfl)) ac)) (aa (eB lO (by rfl) B.list jC (aa (bi eJ (pv 3) ar (fun _ _=>rfl)) ac)) ac))) rfl)))
    (av (aU (pv 1))))),?_⟩
   refine i9 ?_;intro dD sS fD dP;have hk:∀(H':Hp) kv f,ji H H' kv f->kv.1=Sum.inr f.1:=fun _ kv f z=>z.1;refine fun d H1 n1 s1 e1=>?_;have od:d≠o:=(aL ho n1).symm;refine⟨_,rfl,o,kvs,rfl,s1 _ _ ho,fun ob=>?_⟩;refine JJ (fun i σ H5=>∃u v jN,σ=[some (.ref o),some (.ref d),u,v]/\(∀b x,H b=some x->b≠o->H5 b=some x)/\(∀b,H5 b=none->H b=none)/\H5 o=some (.frz ob (.dK kvs))/\H5 d=some (.dK jN)/\Paired (ji H H5) jN (ow.take i))
    ⟨none,none,[],rfl,fun b x e hb=>aB (s1 _ _ e) hb,fun b e=>s1.free (hX e).2,aI,aB e1 od,.nil⟩ ?_ ?_ ?_
   . intro i σ H5 eY;refine ba ?_;intro tT;obtain⟨u,v,jN,rfl,_,_,h,_⟩:=eY;exact h
   . intro i k v p σ H5 hi gg hp;refine ba ?_;intro tT;obtain⟨u,v',jN,rfl,k5,f5,h5,gu,fE⟩:=gg
     first | (refine ww (g:=lI _) ?_;intro eQ sQ) | (refine ww (g:=tE _ _ _) ?_;intro eQ sQ) | skip
     obtain⟨⟨x,b1,m1⟩,hf,a1,t,l1,l2,a2,a3,a4,a5⟩:=eG pr hi;have a1:k=.inr x:=a1;have a2:v=.ref t:=a2;subst a1 a2;have aN:=(ci.mp hf).1;have sp:ag H5 (ah H5 p (.tup [kV (.inr x),.ref t])):=fL hp;have K5:∀{b:Addr}{z:HO},H b=some z->(∀ks,z≠.dK ks)->(ah H5 p (.tup [kV (.inr x),.ref t])) b=some z:=fun {b z} e hz=>sp _ _ (k5 _ _ e (aO e ho (hz _)));have T5:=K5 a3 (by intro ks z;cases z);have L5:=K5 a4 (by intro ks z;cases z);have M5:=K5 a5 (by intro ks z;cases z);have z0:bZ [V.ref l1,V.ref l2] 0=some (V.ref l1):=rfl;have z1:bZ [V.ref l1,V.ref l2] 1=some (V.ref l2):=rfl;refine⟨p,_,rfl,aW.of aI,rfl,_,_,rfl,_,_,rfl,rfl,?_⟩;refine⟨_,rfl,t,_,_,_,rfl,rfl,aW.of T5,z0,l1,_,rfl,.inl (ae.of L5),fun q1 H6 n6 s6 e6=>?_⟩;refine⟨_,rfl,t,_,_,_,rfl,rfl,aW.of (s6 _ _ T5),z1,l2,_,rfl,.inl (ae.of (s6 _ _ M5)),fun q2 H7 n7 s7 e7=>?_⟩;refine⟨(by show 2<=sizeLine;decide),fun q3 H8 n8 s8 e8=>?_⟩;have jO:=sp.trans (s6.trans (s7.trans s8));have pl:=bq fE;rw[eh]at pl;refine⟨_,rfl,_,rfl,d,_,rfl,fK.k (k:=.inr x) (jO _ _ gu) (bI (by omega)),?_⟩;have JK:x∉(ow.take i).map (·.1):=by
      rw[V2];intro hm;obtain⟨j,hj,ej⟩:=Wf.mp hm;rw[eh,am]at hj;rw[List.getElem_take]at ej;have e1:(ow.map (·.1))[j]?=some x:=by rw[ir (by rw[am];omega),ej]
      have e2:(ow.map (·.1))[i]?=some x:=by rw[db,hf];rfl
      have:=(Ws (l:=ow.map (·.1)) (i:=j) (j:=i) (by rw[am];omega) nd).mp (by rw[e1,e2]);omega
     have hf8:∀b,H8 b=none->H b=none:=fun b e=>f5 b (jO.free e);refine⟨_,_,_,rfl,fun b z e hb=>?_,fun b e=>hf8 b (hX e).2,aB (jO _ _ h5) od.symm,aI,?_⟩
     . rw[aV (fun y=>by rw[y,n1]at e;cases e)];exact jO _ _ (k5 _ _ e hb)
     . rw[gC,hf];have:=jL (F:=ji H H8) (hk H8) (x:=x) (ls:=(b1,m1)) (v:=.ref q3) ⟨rfl,q3,q1,q2,rfl,f5 _ (sp.free (s6.free (s7.free n8))),f5 _ (sp.free n6),f5 _ (sp.free (s6.free n7)),e8,s8 _ _ (s7 _ _ e6),s8 _ _ e7⟩ (aK fE fun _ _=>ji.same fun b z e _=>jO _ _ e);rw[zX JK]at this;exact aK this fun _ _=>ji.put (jO _ _ gu)
   . intro σ H5 gi;refine ba ?_;intro tT;obtain⟨u,v,jN,rfl,k5,f5,h5,gu,fE⟩:=gi
     first | (refine ww (g:=lI _) ?_;intro eQ sQ) | (refine ww (g:=tE _ _ _) ?_;intro eQ sQ) | skip
     rw[bq pr,eT]at fE;refine⟨_,rfl,q d _ jN n1 (fun b z e=>?_) (aB gu od) (aK fE fun _ _=>ji.same fun b z e hb=>aB e (fun y=>by rw[y,ho]at hb;cases hb))⟩
     by_cases hb:b=o
     . subst hb;rw[ho]at e;cases e;exact aI
     . exact aB (k5 b z e hb) hb
def wZ(T:Addr):Sp:=fun vs H Q _=>∃(x dx c h o:Addr) (kvs xa:List (aw×V)) (ow:Ow),vs=[.ref x,.ref c,.ref h,.ref o]/\H x=some (.ins T dx [])/\H c=some (.dK kvs)/\H h=some (.dK xa)/\rQ H o ow/\(ow.map (·.1)).Nodup/\ow.length<=100 /\
 ∀(H':Hp) (fl:List (Str×V)) (c' h' o':Addr) (ko:List (aw×V)),(∀b o,H b=some o->b≠x->H' b=some o)->H' x=some (.ins T dx fl)->fl.lookup (aEb:Str)=some (.ref c')->fl.lookup (aEj:Str)=some (.ref h')->fl.lookup (aEw:Str)=some (.ref o') ->
  H c'=none->H h'=none->H o'=none->H' c'=some (.dK kvs)->H' h'=some (.dK xa)->H' o'=some (.dK ko)->Paired (ji H H') ko ow->Q .non H'
theorem amB:aR [aD4,aEb,aEj,aEw] [aD4,aEb,aEj,aEw] (aE pA):=aZ
theorem eF.over{C dx x:Addr}{H Hk Hj:Hp}{fl:List (Str×V)}(S:eF C dx x H Hk fl)(s:ag Hk Hj):eF C dx x H Hj fl:=⟨fun b o e hb=>s _ _ (S.same b o e hb),fun b e=>S.free b (s.free e),s _ _ S.ob⟩
theorem amC{f T EK:Addr}{fd JL:Fy}(F:ak K "__init__" "Stand.__init__" pA f fd)(U:rO K mg T)(B:bV mg)(Ao:ak K aEU aEU Eg EK JL)(JM:mg aEU=some (.ref EK)) :
 aj P w K mg base al 2 f fd [aD4,aEb,aEj,aEw] (wZ T):=by
 have amD:aj P w K mg base al 1 EK JL [aEw] RV:=amz Ao B;have amE:=Ao.binds1 (l:=[aEw]) (fun _ _ _ _ _ _ _=>rfl);refine F.okL amB ?_
 . intro ay A outer s H vs Q E hr h xX dX;obtain⟨x,dx,c,h,o,kvs,xa,ow,rfl,hx,hc,hh,ho,nd,wY,q⟩:=h;refine⟨_,(ao (hJ (pv 0) (eB Dd (by rfl) B.dict Oe (aa (pv 1) ac)) rfl)
    (ao (hJ (pv 0) (eB Dd (by rfl) B.dict Oe (aa (pv 2) ac)) rfl)
    (av (hJ (pv 0) (aG amD hr rfl JM Ao.kp amE .nil aD (aa (pv 3) ac)) rfl)))),?_⟩
   refine i9 ?_;intro dD sS fD dP;have S0:eF T dx x H H []:=⟨fun _ _ e _=>e,fun _ e=>e,hx⟩;have ch:∀{b:Addr}{ks:List (aw×V)},H b=some (.dK ks)->b≠x:=fun e=>aO e hx (by intro z;cases z);refine⟨_,rfl,c,_,rfl,hc,fun c1 H1 n1 s1 e1=>?_⟩;have S1:=S0.over s1;refine⟨_,rfl,x,T,dx,_,rfl,S1.ob,U.cl,U.nC,(by decide),?_⟩;have S2:eF T dx x H _ (aA aEb (.ref c1) []):=S1.put;have JN:c1≠x:=(aL hx n1).symm;have c2:(ah H1 x (.ins T dx (aA aEb (.ref c1) []))) c1=some (.dK kvs):=aB e1 JN;refine⟨_,rfl,h,_,rfl,S2.same _ _ hh (ch hh),fun h1 H3 n3 s3 e3=>?_⟩;have S3:=S2.over s3;have RW:=S2.free _ n3;refine⟨_,rfl,x,T,dx,_,rfl,S3.ob,U.cl,U.nH,few (lp pj) (by decide),?_⟩;have S4:eF T dx x H _ (aA aEj (.ref h1) (aA aEb (.ref c1) [])):=S3.put;have RX:h1≠x:=(aL hx RW).symm;obtain⟨ko,Ap,Aq⟩:=ho;have Ar:Paired (jh (ah H3 x (.ins T dx (aA aEj (.ref h1) (aA aEb (.ref c1) []))))) ko ow:=aK Aq fun kv e z=>by
    obtain⟨z1,t,l1,l2,z2,z3,z4,z5⟩:=z;exact⟨z1,t,l1,l2,z2,S4.same _ _ z3 (aO z3 hx (by intro z;cases z)),S4.same _ _ z4 (aO z4 hx (by intro z;cases z)),S4.same _ _ z5 (aO z5 hx (by intro z;cases z))⟩
   refine⟨_,rfl,o,ko,ow,rfl,S4.same _ _ Ap (ch Ap),Ar,nd,wY,fun o1 H5 JO n5 s5 e5 fE=>?_⟩;have S5:=S4.over s5;have RY:=S4.free _ n5;refine⟨_,rfl,x,T,dx,_,rfl,S5.ob,U.cl,U.nO,few (lp (lp pj)) (by decide),?_⟩;have o1x:o1≠x:=(aL hx RY).symm;have S6:eF T dx x H _ (aA aEw (.ref o1) (aA aEj (.ref h1) (aA aEb (.ref c1) []))):=S5.put;refine q _ _ c1 h1 o1 JO S6.same S6.ob ?_ ?_ ?_ n1 RW RY (aB (s5 _ _ (aB (s3 _ _ c2) JN)) JN) (aB (s5 _ _ (aB e3 RX)) RX) (aB e5 o1x) (aK fE fun kv e z=>?_)
   . rw[cp,ai (by decide +kernel),cp,ai (by decide +kernel),cp,aq rfl]
   . rw[cp,ai (by decide +kernel),cp,aq rfl]
   . rw[cp,aq rfl]
   . obtain⟨z1,t,l1,l2,z2,m1,m2,m3,z3,z4,z5⟩:=z;have fx:∀{b:Addr}{z:HO},H5 b=some z->(∀fs,z≠.ins T dx fs)->b≠x:=fun e hz=>aO e S5.ob (hz _);exact⟨z1,t,l1,l2,z2,S4.free _ m1,S4.free _ m2,S4.free _ m3,aB z3 (fx z3 (by intro fs z;cases z)),aB z4 (fx z4 (by intro fs z;cases z)),aB z5 (fx z5 (by intro fs z;cases z))⟩
theorem JP{T:Addr}{H:Hp}{Q:Addr->Hp->Prop}{E:XK}{c h o:Addr}{ch:Ch}{cs:Cs}{ow:Ow}(hc:di H c ch)(hh:wX H h cs)(ho:rQ H o ow)(nd:(ow.map (·.1)).Nodup)(wY:ow.length<=100)(q:∀x H',H x=none->ag H H'->(∀L,iH H L->gj T (msk L H') (.ref x) ch cs ow)->Q x H') :
 ∀x dx,H x=none->H dx=none->dx≠x->wZ T (.ref x::([.ref c,.ref h,.ref o]++[])) (ah (ah H dx (.own x)) x (.ins T dx [])) (fun v H2=>v=.non/\Q x H2) E:=by
 intro x dx hx uD nx;have s1:ag H (ah (ah H dx (.own x)) x (.ins T dx [])):=fw (fL uD) hx;obtain⟨kvs,e1,e2⟩:=hc;obtain⟨xa,e3,e4⟩:=hh;refine⟨x,dx,c,h,o,kvs,xa,ow,rfl,aI,s1 _ _ e1,s1 _ _ e3,ho.same s1,nd,wY,fun H' fl c' h' o' ko keep qM l1 l2 l3 n1 n2 n3 g1 g2 g3 g4=>?_⟩;have s2:ag H H':=fun b o e=>keep b o (s1 _ _ e) (aL e hx);refine⟨rfl,q x H' hx s2 fun L hL=>⟨x,dx,fl,c',h',o',rfl,cg (hL.free hx) qM,l1,l2,l3,⟨kvs,cg (hL.free (s1.free n1)) g1,aK e2 fun kv e z=>?_⟩,⟨xa,cg (hL.free (s1.free n2)) g2,e4⟩,⟨ko,cg (hL.free (s1.free n3)) g3,aK g4 fun kv e z=>?_⟩⟩⟩
 . obtain⟨a,m,b,c⟩:=z;exact⟨a,m,b,cg (hL.tup c) (s2 _ _ c)⟩
 . obtain⟨z1,t,l1,l2,z2,m1,m2,m3,z3,z4,z5⟩:=z;exact⟨z1,t,l1,l2,z2,cg (hL.free (s1.free m1)) z3,cg (hL.free (s1.free m2)) z4,cg (hL.free (s1.free m3)) z5⟩
end
end K64
namespace K64
end K64
namespace L2
open PySem PySem.Spec
theorem RZ{X:Cx}(K:Fg){T id:String}{name:Str}{r:V->Lv->Hp->VK->Prop}{o e:Expr}{es:List Expr}{to:TE}{t:TA}{apos cC:Pos}(pa:PlainAttrs T)(slot:Slot T name id)(y6:typeOf (.builtin id)=pure (.type "method_descriptor"))(hm:HA X id r)(ho:PE X o to)(ha:PA X (e::es) t)(h:X.K=K:=by rfl)
 (oR:attributeBase o name X.env (eval o X.env)=eval o X.env:=by rfl)
 (HE:((backTo cC (starEach (e::es) X.env)).all (fun x=>!x.1) && (backToKw cC (keywordEach [] X.env)).all (fun x=>x.1.isSome)
  && decide ((e::es).length+([]:List Keyword).length+(if ([]:List Keyword).isEmpty then 0 else 1)<30))=true:=by rfl)
 (oS:(apos.endLine == cC.line)=true:=by rfl) (hs:starEach (e::es) X.env=(false,eval e X.env)::starEach es X.env:=by rfl) (HF:(backTo cC (starEach es X.env)).any (·.1)=false:=by rfl) :
 PE X (.Call (.Attribute o name apos) (e::es) [] cC) (Pb K T r to t):=by
 subst h;exact dr pa slot y6 hm ho ha oR HE oS hs HF
theorem R0{X:Cx}(K:Fg)(h:X.K=K:=by rfl):mJ X "str.join" (PZ K):=h▸wt
end L2
namespace K64
open PySem L2 PySem.Spec PyProof.Rows
structure EL(ch:Ch)(cs:Cs)(ow:Ow):Prop where
 nch:ch.length<64
 ncs:cs.length<64
 now:ow.length<64
 dch:(ch.map (·.1)).Nodup
 dcs:(cs.map (·.1)).Nodup
 dow:(ow.map (·.1)).Nodup
 ch:∀e∈ch,e.1.length<=60/\An e.2
 cs:∀e∈cs,e.1.length<=60/\e.2.length<=60
 ow:∀e∈ow,e.1.length<=60/\e.2.1.length<=60/\e.2.2.length<=60/\(∀x∈e.2.1,x.length<=60)/\∀x∈e.2.2,x.length<=60
theorem uE(sep:Str)(ps:Ls):Txt.join sep ps=Str.join sep ps:=Co _ _
theorem R1(p:Str):(Str.ofString "own ")++p=Str.join spS [dE,p]:=by
 show _=dE++spS++p;rw[show(Str.ofString "own ")=dE++spS by decide +kernel]
theorem JQ{sep:Str}{ps:Ls}{b:Nat}(h:∀p∈ps,p.length<=b)(hs:sep.length<=1):(Str.join sep ps).length<=ps.length * (b+1):=by
 rw[←uE];refine ce Dc ?_;have:=zi h;have h2:ps.length * sep.length<=ps.length * 1:=Nat.mul_le_mul_left _ hs;rw[Nat.mul_add];omega
section
variable {P:Program}{w:World}{K:Fg}{mg:Mv}{base:Heap}
def R3:Sp:=fun vs H Q _=>∃(p:Str) (t l1 l2:Addr) (b m:Ls),vs=[.str p,.ref t]/\H t=some (.tup [.ref l1,.ref l2])/\H l1=some (.lst (b.map V.str))/\H l2=some (.lst (m.map V.str))/\p.length<=60/\b.length<=60/\m.length<=60/\(∀x∈b,x.length<=60)/\(∀x∈m,x.length<=60) /\
 ∀l H',H l=none->ag H H'->H' l=some (.lst ((dM (p,(b,m))).map V.str))->Q (.ref l) H'
theorem R5:aR [aEg,aEH,"rows"] [aEg,aEH] (aE Ek):=aZ
theorem amG{f:Addr}{fd:Fy}(F:ak K aE9 aE9 Ek f fd):aj P w K mg base al 1 f fd [aEg,aEH] R3:=by
 refine F.okL R5 ?_
 . intro ay A outer s H vs Q E hr h xX dX;obtain⟨p,t,l1,l2,b,m,rfl,ht,h1,h2,hp,hb,hm,hbx,hmx,q⟩:=h;refine⟨_,(ao (aP (i:=2) R5.nd rfl (Or.inl rfl) (cX (aa (zr bH (zq (pv 0))) ac)))
    (ao (cI (dr gD qJ qK mK (pv 2) (aa (fM ["line"] [] [] dL rfl (cy (bi eJ (pv 1) ar (fun _ _=>rfl))) (fun _ _ _ _=>(aY (i:=0) (show List.Nodup (["line"]:Ls) by decide +kernel) rfl (Or.inl rfl))) (fun _ _ _ _=>ge) (fun _ _ _ _=>(zr bH (zq (pv 0))))) ac)))
    (ao (cI (dr gD qJ qK mK (pv 2) (aa (fM ["line"] [] [] dL rfl (cy (bi eJ (pv 1) ar (fun _ _=>rfl))) (fun _ _ _ _=>(aY (i:=0) (show List.Nodup (["line"]:Ls) by decide +kernel) rfl (Or.inl rfl))) (fun _ _ _ _=>ge) (fun _ _ _ _=>(zr bH (zq (pv 0))))) ac)))
    (av (aU (pv 2)))))),?_⟩
   refine rf ?_;intro dD sS m9 fD dP;have z0:bZ [V.ref l1,V.ref l2] 0=some (V.ref l1):=rfl;have z1:bZ [V.ref l1,V.ref l2] 1=some (V.ref l2):=rfl;have e4:(Str.ofString "own ").length=4:=by decide +kernel
   refine⟨_,rfl,eO (by rw[e4];omega),_,rfl,_,rfl,eO (by omega),_,rfl,eO (by rw[e4];omega),(by show 1<=sizeLine;decide),fun r H1 n1 s1 e1=>?_⟩;refine⟨_,rfl,.inl ⟨rfl,_,ae.of e1⟩,_,rfl,t,_,_,_,rfl,rfl,aW.of (s1 _ _ ht),z0,l1,rfl,⟨_,ae.of (s1 _ _ h1)⟩,?_⟩;refine zG (σ0:=[none]) (ae.of (s1 _ _ h1)) (fun σ=>∃v,σ=[v]) ((b.map (eM ++ ·)).map V.str) (by rw[am,am,am]) (eO (by rw[am];omega)) ⟨_,rfl⟩ ?_ ?_
   . intro i z y σ H2 k hz hy hQ hs hk;obtain⟨v,rfl⟩:=hQ;obtain⟨x,hx,rfl⟩:=jg hz;rw[oA]at hy;obtain⟨x',gE,rfl⟩:=jg hy;rw[hx]at gE;cases gE;have:=hbx x (dG hx);exact⟨_,rfl,eO (by show eM.length<=_;rw[mZ];decide),_,rfl,_,rfl,eO (by omega),_,rfl,eO (by show eM.length+_<=_;rw[mZ,oZ];omega),hk _ _ ⟨_,rfl⟩ (ag.refl _)⟩
   intro D1 H2 n2 e2 s2;refine⟨r,D1,_,_,rfl,rfl,s2 _ _ e1,e2,eO (by simp only[am,bO,ki];omega),?_⟩;have bT:=s1.trans s2;have nr:∀{c:Addr}{o:HO},H c=some o->c≠r:=fun e=>aL e n1;have k3:∀{c:Addr}{o:HO}{o':HO},H c=some o->ah H2 r o' c=some o:=fun e=>aB (bT _ _ e) (nr e);refine⟨_,rfl,.inl ⟨rfl,_,ae.of aI⟩,_,rfl,t,_,_,_,rfl,rfl,aW.of (k3 ht),z1,l2,rfl,⟨_,ae.of (k3 h2)⟩,?_⟩;refine zG (σ0:=[none]) (ae.of (k3 h2)) (fun σ=>∃v,σ=[v]) ((m.map (eN ++ ·)).map V.str) (by rw[am,am,am]) (eO (by rw[am];omega)) ⟨_,rfl⟩ ?_ ?_
   . intro i z y σ H3 k hz hy hQ hs hk;obtain⟨v,rfl⟩:=hQ;obtain⟨x,hx,rfl⟩:=jg hz;rw[oA]at hy;obtain⟨x',gE,rfl⟩:=jg hy;rw[hx]at gE;cases gE;have:=hmx x (dG hx);exact⟨_,rfl,eO (by show eN.length<=_;rw[pw];decide),_,rfl,_,rfl,eO (by omega),_,rfl,eO (by show eN.length+_<=_;rw[pw,oZ];omega),hk _ _ ⟨_,rfl⟩ (ag.refl _)⟩
   intro D2 H3 n3 e3 s3;refine⟨r,D2,_,_,rfl,rfl,s3 _ _ aI,e3,eO (by simp only[am,bO,ki,bh];omega),?_⟩;refine⟨_,rfl,q r _ n1 (fun c o e=>aB (s3 _ _ (k3 e)) (nr e)) ?_⟩;rw[aI];unfold dM;rw[cQ,cQ,←R1];rfl
def xb(T:Addr):Sp:=fun vs H Q _=>∃(v:V) (ch:Ch) (cs:Cs) (ow:Ow),vs=[v]/\gj T H v ch cs ow/\EL ch cs ow /\
 ∀bW bX bN H',dN ch bW->dN cs bX->dN ow bN->ag H H'->Q (.str (Str.join jM (fT bW bX bN))) H'
theorem JR:aR [aEr,"rows",aEg] [aEr] (aE Ab):=aZ
theorem R6{a b c:Str}(ha:a.length<=10)(hb:b.length<=60)(hc:c.length<=60):(([a,b,c].map (·.length)).sum + [a,b,c].length * spS.length)<=16777216:=by
 rw[show spS.length=1 by decide +kernel];simp only[bL,yu,List.sum_cons,List.sum_nil,bO,ki];omega
theorem R7{ms:List Int}(h:An ms):(jf ms).length<=60:=by
 unfold jf;rw[←uE];refine ce Dc ?_;have:=RU h;have:=h.1;rw[show jd.length=1 by decide +kernel,am];omega
theorem R8{a b c:Str}(ha:a.length<=10)(hb:b.length<=60)(hc:c.length<=60):(Str.join spS [a,b,c]).length<=133:=by
 show(a++spS++(b++spS++c)).length<=133;simp only[jJ,show spS.length=1 by decide +kernel];omega
theorem R9{ch:Ch}{cs:Cs}{ow:Ow}(bd:EL ch cs ow){bW:Ch}{bX:Cs}{bN:Ow}(jP:bW.Perm ch)(ma:bX.Perm cs)(jQ:bN.Perm ow):(fT bW bX bN).length<=64+64+64 * 121/\∀y∈fT bW bX bN,y.length<=140:=by
 refine⟨?_,fun y hy=>?_⟩
 . have:∀(l:Ow),(∀e∈l,e∈ow)->(l.flatMap dM).length<=l.length * 121:=by
    intro l
    induction l with
    | nil=>intro _;exact dw _
    | cons e l ih=>
     intro hm;have h1:=ih fun x hx=>hm x (bJ _ hx);obtain⟨_,h2,h3,_⟩:=bd.ow e (hm e bB);rw[vS,bh,bO];have:(dM e).length<=121:=by
      unfold dM;simp only[bh,am,bO,ki];omega
     omega
   have h3:=this bN fun e he=>jQ.mem_iff.mp he;have a1:=jP.length_eq;have a2:=ma.length_eq;have a3:=jQ.length_eq;have b1:=bd.nch;have b2:=bd.ncs;have b3:=bd.now;have h4:bN.length * 121<=64 * 121:=Of _ (by omega);unfold fT;rw[bh,bh,am,am];omega
 . unfold fT at hy
   rcases bK.mp hy with hy | hy
   . rcases bK.mp hy with hy | hy
     . obtain⟨e,he,rfl⟩:=cL.mp hy;obtain⟨k1,k2⟩:=bd.ch e (jP.mem_iff.mp he);have:=R8 (a:=fB) (by decide +kernel) k1 (R7 k2);unfold gR;omega
     . obtain⟨e,he,rfl⟩:=cL.mp hy;obtain⟨k1,k2⟩:=bd.cs e (ma.mem_iff.mp he);have:=R8 (a:=fj) (by decide +kernel) k1 k2;unfold gt;omega
   . obtain⟨e,he,hy⟩:=Od.mp hy;obtain⟨j1,j2,j3,j4,j5⟩:=bd.ow e (jQ.mem_iff.mp he);unfold dM at hy
     rcases bK.mp hy with hy | hy
     . rcases bK.mp hy with hy | hy
       . rw[bj.mp hy,←R1,jJ,show(Str.ofString "own ").length=4 by decide +kernel];omega
       . obtain⟨x,hx,rfl⟩:=cL.mp hy;have:=j4 x hx;show(eM++x).length<=140;rw[jJ,mZ,oZ];omega
     . obtain⟨x,hx,rfl⟩:=cL.mp hy;have:=j5 x hx;show(eN++x).length<=140;rw[jJ,pw,oZ];omega
theorem amJ{ch:Ch}{cs:Cs}{ow:Ow}(bd:EL ch cs ow){bW:Ch}{bX:Cs}{bN:Ow}(jP:bW.Perm ch)(ma:bX.Perm cs)(jQ:bN.Perm ow):((fT bW bX bN).map (·.length)).sum+(fT bW bX bN).length * jM.length<=16777216:=by
 obtain⟨h1,h2⟩:=R9 bd jP ma jQ;have:=zi h2;rw[show jM.length=1 by decide +kernel];omega
theorem amK{f T EM EN:Addr}{fd JS JT:Fy}(F:ak K aEI aEI Ab f fd)(U:rO K mg T)(B:bV mg)(As:ak K aFi aFi Ea EM JS)(JU:mg aFi=some (.ref EM))(Au:ak K aE9 aE9 Ek EN JT)(JV:mg aE9=some (.ref EN)) :
 aj P w K mg base al 2 f fd [aEr] (xb T):=by
 have amL:aj P w K mg base al 1 EM JS [aEh] RT:=al5 As B;have amM:=As.binds1 (l:=[aEh]) (fun _ _ _ _ _ _ _=>rfl);have amN:aj P w K mg base al 1 EN JT [aEg,aEH] R3:=amG Au;have amO:=Au.binds2 (l:=[aEg,aEH]) (fun _ _ _ _ _ _ _ _=>rfl);refine F.okL JR ?_
 . intro ay A outer s H vs Q E hr h xX dX;obtain⟨v,ch,cs,ow,rfl,hS,bd,q⟩:=h;have hu:=hr.units;obtain⟨a,dx,fl,c,h,o,rfl,ha,f1,f2,f3,⟨kc,Sa,JW⟩,⟨kh,Sb,JX⟩,⟨ko,Ap,Aq⟩⟩:=hS;refine⟨_,(ao (q9 (i:=1) [aEf] [aEr] [0] JR.nd rfl rfl dL rfl (cy (dC (Df rfl) (by rfl) B.sorted yG (aa (cW (pv 0) rfl) ac))) (fun _ _ _ _=>(aY (i:=0) (show List.Nodup ([aEf,aEr]:Ls) by decide +kernel) rfl (Or.inl rfl))) (fun _ _ _ _=>ge) (fun _ _ _ _=>(RZ K my yE yF (R0 K) bH (aa (cX (aa bH (aa (pv 0) (aa (aG amL hr (by rfl) JU As.kp amM .nil aD (aa (qZ hu (ib K (pv 1) rfl) (pv 0) (fun _ _=>rfl)) ac)) ac)))) ac))))
    (ao (cI (dr gD qJ qK mK (pv 1) (aa (fM [aEP] [aEr] [0] dL rfl (cy (dC (Df rfl) (by rfl) B.sorted yG (aa (cW (pv 0) rfl) ac))) (fun _ _ _ _=>(aY (i:=0) (show List.Nodup ([aEP,aEr]:Ls) by decide +kernel) rfl (Or.inl rfl))) (fun _ _ _ _=>ge) (fun _ _ _ _=>(RZ K my yE yF (R0 K) bH (aa (cX (aa bH (aa (pv 0) (aa (qZ hu (ib K (pv 1) rfl) (pv 0) (fun _ _=>rfl)) ac)))) ac)))) ac)))
    (ao (eA dY rfl (cy (dC (Df rfl) (by rfl) B.sorted yG (aa (cW (pv 0) rfl) ac))) (aY (i:=2) JR.nd rfl (Or.inl rfl))
     (av (cI (dr gD qJ qK mK (pv 1) (aa (aG amN hr (by rfl) JV Au.kp amO .nil aD (aa (pv 2) (aa (qZ hu (cW (pv 0) rfl) (pv 2) (fun _ _=>rfl)) ac))) ac)))))
    (av (aU (dr my yE yF wt bH (aa (pv 1) ac))))))),?_⟩
   refine rf ?_;intro dD sS m9 fD dP;have Sc:∀kv f,dA H kv f->kv.1=Sum.inr f.1:=fun kv f z=>z.1;have Sd:∀kv f,wW kv f->kv.1=Sum.inr f.1:=fun kv f z=>z.1;have Dz:∀kv f,jh H kv f->kv.1=Sum.inr f.1:=fun kv f z=>z.1;have lc:=bq JW;have lh:=bq JX;have lo:=bq Aq;have b1:=bd.nch;have b2:=bd.ncs;have b3:=bd.now;refine⟨_,rfl,a,T,dx,fl,_,rfl,ha,U.cl,U.nC,f1,c,kc,_,rfl,Sa,wF Sc JW,by omega,fun ys hp hs l1 H1 n1 s1 e1=>⟨l1,rfl,⟨_,ae.of e1⟩,?_⟩⟩;obtain⟨bW,jP,mp1⟩:=Jz hp rfl;subst mp1;have y1:bW.length=ch.length:=jP.length_eq;refine zG (σ0:=[none,some (.ref a)]) (ae.of e1) (fun σ=>∃v,σ=[v,some (.ref a)]) ((bW.map gR).map V.str) (by rw[am,am,am,am]) (eO (by rw[am,am];omega)) ⟨_,rfl⟩ ?_ ?_
   . intro i z y σ H2 k hz hy hQ tF hk;obtain⟨v,rfl⟩:=hQ;rw[oA]at hz hy;obtain⟨e,he,rfl⟩:=jg hz;obtain⟨e',lU,rfl⟩:=jg hy;rw[he]at lU;cases lU;have md:e∈ch:=jP.mem_iff.mp (dG he);obtain⟨u,ms,g1,g2,_,m,g4,g3⟩:=rE Sc JW (lE (f:=(·.1)) md);have g4:u=.ref m:=g4;subst g4;have em:ms=e.2:=wG bd.dch g2 (by exact md);subst em;have bT:=s1.trans tF;obtain⟨k1,k2⟩:=bd.ch e md;refine⟨rfl,_,rfl,_,rfl,a,T,dx,fl,_,rfl,bT _ _ ha,U.cl,U.nC,f1,_,rfl,c,_,rfl,(by rw[←g1];exact df.k (k:=.inr e.1) (bT _ _ Sa)),?_⟩;refine⟨m,e.2,rfl,bT _ _ g3,k2,fun H3 s3=>?_⟩;refine⟨(by show 3<=sizeLine;decide),fun r H4 n4 s4 e4=>?_⟩;refine⟨spS,r,[fB,e.1,jf e.2],rfl,rfl,ae.of e4,R6 (by decide +kernel) k1 (R7 k2),?_⟩;have fA:=hk [some (.str e.1),some (.ref a)] H4 ⟨_,rfl⟩ (s3.trans s4);rw[uE];exact fA
   intro D1 H2 n2 e2 s2;have bT:=s1.trans s2;have Se:H D1=none:=s1.free n2;refine⟨_,rfl,.inl ⟨rfl,_,ae.of e2⟩,_,rfl,a,T,dx,fl,_,rfl,bT _ _ ha,U.cl,U.nH,f2,h,kh,_,rfl,bT _ _ Sb,wF Sd JX,by omega,fun ys2 HH amQ l2 H3 n3 s3 e3=>⟨l2,rfl,⟨_,ae.of e3⟩,?_⟩⟩;obtain⟨bX,ma,mp2⟩:=Jz HH rfl;subst mp2;have y2:bX.length=cs.length:=ma.length_eq;have jk:=bT.trans s3;refine zG (σ0:=[none,some (.ref a)]) (ae.of e3) (fun σ=>∃v,σ=[v,some (.ref a)]) ((bX.map gt).map V.str) (by rw[am,am,am,am]) (eO (by rw[am,am];omega)) ⟨_,rfl⟩ ?_ ?_
   . intro i z y σ H4 k hz hy hQ hs4 hk;obtain⟨v,rfl⟩:=hQ;rw[oA]at hz hy;obtain⟨e,he,rfl⟩:=jg hz;obtain⟨e',lU,rfl⟩:=jg hy;rw[he]at lU;cases lU;have md:e∈cs:=ma.mem_iff.mp (dG he);obtain⟨u,nm,g1,g2,_,g4⟩:=rE Sd JX (lE (f:=(·.1)) md);have g4:u=.str nm:=g4;subst g4;have em:nm=e.2:=wG bd.dcs g2 (by exact md);subst em;have iL:=jk.trans hs4;obtain⟨k1,k2⟩:=bd.cs e md;refine⟨rfl,_,rfl,_,rfl,a,T,dx,fl,_,rfl,iL _ _ ha,U.cl,U.nH,f2,_,rfl,h,_,rfl,(by rw[←g1];exact df.k (k:=.inr e.1) (iL _ _ Sb)),?_⟩;refine⟨(by show 3<=sizeLine;decide),fun r H5 n5 s5 e5=>?_⟩;refine⟨spS,r,[fj,e.1,e.2],rfl,rfl,ae.of e5,R6 (by decide +kernel) k1 k2,?_⟩;have fA:=hk [some (.str e.1),some (.ref a)] H5 ⟨_,rfl⟩ s5;rw[uE];exact fA
   intro D2 H4 n4 e4 s4;have iL:=jk.trans s4;refine⟨D1,D2,_,_,rfl,rfl,s4 _ _ (s3 _ _ e2),e4,eO (by simp only[am];omega),?_⟩;have k5:∀{b:Addr}{z o':HO},H b=some z->ah H4 D1 o' b=some z:=fun e=>aB (iL _ _ e) (aL e Se);refine⟨_,rfl,a,T,dx,fl,_,rfl,k5 ha,U.cl,U.nO,f3,o,ko,_,rfl,k5 Ap,wF Dz Aq,by omega,fun ys3 hp3 amU l3 H6 n6 s6 e6=>⟨l3,rfl,⟨_,ae.of e6⟩,?_⟩⟩;obtain⟨bN,jQ,mp3⟩:=Jz hp3 rfl;subst mp3;have y3:bN.length=ow.length:=jQ.length_eq;have f6:H6 D1=some (.lst ((bW.map gR++bX.map gt).map V.str)):=by
    rw[cQ];exact s6 _ _ aI
   have k6:∀{b:Addr}{z:HO},H b=some z->H6 b=some z:=fun e=>s6 _ _ (k5 e);have l3D:l3≠D1:=fun z=>by
    subst z;rw[aI]at n6;cases n6
   have rl:∀i,((bN.take i).flatMap dM).length<=64 * 121:=fun i=>by
    have:∀(l:Ow),(∀e∈l,e∈ow)->(l.flatMap dM).length<=l.length * 121:=by
     intro l
     induction l with
     | nil=>intro _;exact dw _
     | cons e l ih=>
      intro hm;have h1:=ih fun x hx=>hm x (bJ _ hx);obtain⟨_,h2,h3,_⟩:=bd.ow e (hm e bB);rw[vS,bh,bO];have:(dM e).length<=121:=by
       unfold dM;simp only[bh,am,bO,ki];omega
      omega
    refine ce (this _ fun e he=>jQ.mem_iff.mp (NT he)) ?_;rw[eh];have:min i bN.length<=64:=by omega
    exact Of _ this
   refine gF (xs:=(bN.map (·.1)).map V.str) (fun i σ H7=>∃u,σ=[some (.ref a),some (.ref D1),u]/\(∀b z,H b=some z->H7 b=some z)/\H7 l3=some (.lst ((bN.map (·.1)).map V.str))/\H7 D1=some (.lst ((bW.map gR++bX.map gt++(bN.take i).flatMap dM).map V.str))) ⟨none,rfl,fun b z e=>k6 e,e6,by rw[List.take_zero,List.flatMap_nil,lq];exact f6⟩ ?_ ?_ ?_
   . intro i σ H7 hi hQ;obtain⟨u,rfl,_,h7,_⟩:=hQ;exact ae.of h7
   . intro i z σ H7 hz hQ;obtain⟨u,rfl,k7,l7,d7⟩:=hQ;rw[oA]at hz;obtain⟨e,he,rfl⟩:=jg hz;have md:e∈ow:=jQ.mem_iff.mp (dG he);obtain⟨u2,bm,g1,g2,_,t,q1,q2,g4,g5,g6,g7⟩:=rE Dz Aq (lE (f:=(·.1)) md);have g4:u2=.ref t:=g4;subst g4;have em:bm=e.2:=wG bd.dow g2 (by exact md);subst em;obtain⟨j1,j2,j3,j4,j5⟩:=bd.ow e md;refine⟨_,rfl,.inl ⟨rfl,_,ae.of d7⟩,_,rfl,_,rfl,a,T,dx,fl,_,rfl,k7 _ _ ha,U.cl,U.nO,f3,_,rfl,o,_,rfl,(by rw[←g1];exact df.k (k:=.inr e.1) (k7 _ _ Ap)),?_⟩;refine⟨e.1,t,q1,q2,e.2.1,e.2.2,rfl,k7 _ _ g5,k7 _ _ g6,k7 _ _ g7,j1,j2,j3,j4,j5,fun r H8 n8 s8 e8=>?_⟩;have rl1:=rl i;refine⟨D1,r,_,_,rfl,rfl,s8 _ _ d7,e8,eO ?_,?_⟩
     . have:(dM e).length<=121:=by
        unfold dM;simp only[bh,am,bO,ki];omega
       rw[am,am,bh,bh,am,am];show _+(dM (e.1,(e.2.1,e.2.2))).length<=_;have e0:(dM (e.1,(e.2.1,e.2.2)))=dM e:=rfl;rw[e0];omega
     . refine⟨_,rfl,fun b z hb=>aB (s8 _ _ (k7 _ _ hb)) (aL hb Se),aB (s8 _ _ l7) l3D,?_⟩;rw[aI,gC,he,←cQ];show some (HO.lst (List.map V.str (bW.map gR++bX.map gt++(bN.take i).flatMap dM++dM e)))=some (HO.lst (List.map V.str (bW.map gR++bX.map gt++(bN.take i++[e]).flatMap dM)));rw[vT,jB (List.map gR bW++List.map gt bX),Wt]
   . intro σ H7 hQ;obtain⟨u,rfl,k7,l7,d7⟩:=hQ;rw[am,am,eT]at d7;refine⟨rfl,_,rfl,jM,D1,fT bW bX bN,rfl,rfl,ae.of d7,?_,?_⟩
     . exact amJ bd jP ma jQ
     . rw[uE];exact q bW bX bN H7 ⟨jP,hs⟩ ⟨ma,amQ⟩ ⟨jQ,amU⟩ (fun b z e=>k7 b z e)
end
theorem amX{p:Str}(h:(wI p).isSome=true):wH p=true/\0<p.length/\p.length<=10/\(NumText.digitsVal p.cps.toList:Int)<=1000000000:=by
 unfold wI at h;split at h
 . rename_i h1;obtain⟨h2,h3⟩:=yA.mp h1;have h2:=cZ h2;split at h
   . cases h
   . split at h
     . cases h
     . exact⟨h3,h2.1,h2.2,by omega⟩
 . cases h
theorem amY{t:Str}(h:uq t=true):(Txt.split t jd).length<=3/\∀p∈Txt.split t jd,(wI p).isSome=true:=by
 unfold uq at h;obtain⟨h1,h2⟩:=yA.mp h;exact⟨cZ h1,iq.mp h2⟩
theorem amZ{row:Str}(h:je row=true)(h1:Txt.startswith row eM=false)(h2:Txt.startswith row eN=false) :
 (∃p,Txt.split row spS=[dE,p])\/(∃n x,Txt.split row spS=[fB,n,x]/\uq x=true)\/∃n x,Txt.split row spS=[fj,n,x]:=by
 unfold je at h;rw[h1,h2,sW,ai (by decide)]at h;generalize Txt.split row spS=ws at h
 match ws,h with
 | [w,p],h=>
  have h:=cZ (yA.mp h).1;rw[h];exact .inl ⟨p,rfl⟩
 | [w,n,x],h=>
  obtain⟨_,h⟩:=yA.mp h
  by_cases hw:w=fB
  . rw[aq hw]at h;rw[hw];exact .inr (.inl ⟨n,x,rfl,h⟩)
  . rw[ai hw]at h;have h:=cZ (yA.mp h).1;rw[h];exact .inr (.inr ⟨n,x,rfl⟩)
def ng(H7:Hp)(ck:Option Str)(ct ca cb:Addr)(b m:Ls)(kv:aw×V)(e:Str×(Ls×Ls)):Prop:=
 kv.1=.inr e.1/\((ck=some e.1/\kv.2=.ref ct/\e.2=(b,m))\/(ck≠some e.1/\∃t l1 l2,kv.2=.ref t/\H7 t=some (.tup [.ref l1,.ref l2])/\H7 l1=some (.lst (e.2.1.map V.str))/\H7 l2=some (.lst (e.2.2.map V.str))/\l1≠ca/\l1≠cb/\l2≠ca/\l2≠cb))
structure fq(H H7:Hp)(dc dh dO ct ca cb:Addr)(s:Nt):Prop where
 old:∀b z,H b=some z->H7 b=some z
 nc:H dc=none
 nh:H dh=none
 no:H dO=none
 n1:H ca=none
 n2:H cb=none
 d1:dc≠dh
 d2:dc≠dO
 d3:dh≠dO
 d4:ca≠cb
 ch:∃kc,H7 dc=some (.dK kc)/\Paired (dA H7) kc s.ch
 cs:∃kh,H7 dh=some (.dK kh)/\Paired wW kh s.cs
 hct:H7 ct=some (.tup [.ref ca,.ref cb])
 c1:H7 ca=some (.lst (s.b.map V.str))
 c2:H7 cb=some (.lst (s.m.map V.str))
 ow:∃ko,H7 dO=some (.dK ko)/\Paired (ng H7 s.ck ct ca cb s.b s.m) ko s.ow
 ck:∀p,s.ck=some p->p∈s.ow.map (·.1)
section
variable {H H7 H8:Hp}{dc dh dO ct ca cb:Addr}{s:Nt}
theorem ng.keep{ck:Option Str}{b m:Ls}{kv:aw×V}{e:Str×(Ls×Ls)}(k:∀c z,H7 c=some z->(∀ks,z≠.dK ks)->c≠ca->c≠cb->H8 c=some z)(h1:∃xs,H7 ca=some (.lst xs))(h2:∃xs,H7 cb=some (.lst xs))(h:ng H7 ck ct ca cb b m kv e):ng H8 ck ct ca cb b m kv e:=by
 obtain⟨a,h⟩:=h;refine⟨a,?_⟩
 rcases h with h | ⟨nk,t,l1,l2,e1,e2,e3,e4,e5,e6,e7,e8⟩
 . exact .inl h
 . obtain⟨x1,h1⟩:=h1;obtain⟨x2,h2⟩:=h2;exact .inr ⟨nk,t,l1,l2,e1,k _ _ e2 (by intro ks z;cases z) (aO e2 h1 (by intro z;cases z)) (aO e2 h2 (by intro z;cases z)),k _ _ e3 (by intro ks z;cases z) e5 e6,k _ _ e4 (by intro ks z;cases z) e7 e8,e5,e6,e7,e8⟩
theorem fq.same(N:fq H H7 dc dh dO ct ca cb s)(sm:ag H7 H8):fq H H8 dc dh dO ct ca cb s where
 old:=fun b z e=>sm _ _ (N.old b z e)
 nc:=N.nc
 nh:=N.nh
 no:=N.no
 n1:=N.n1
 n2:=N.n2
 d1:=N.d1
 d2:=N.d2
 d3:=N.d3
 d4:=N.d4
 ch:=N.ch.elim fun kc am0=>am0.elim fun a b=>⟨kc,sm _ _ a,aK b fun _ _=>dA.same sm⟩
 cs:=N.cs.elim fun kh am1=>am1.elim fun a b=>⟨kh,sm _ _ a,b⟩
 hct:=sm _ _ N.hct
 c1:=sm _ _ N.c1
 c2:=sm _ _ N.c2
 ow:=N.ow.elim fun ko am2=>am2.elim fun a b=>⟨ko,sm _ _ a,aK b fun _ _=>ng.keep (fun _ _ e _ _ _=>sm _ _ e) ⟨_,N.c1⟩ ⟨_,N.c2⟩⟩
 ck:=N.ck
theorem fq.inn(N:fq H H7 dc dh dO ct ca cb s){kc:List (aw×V)}(hc:H7 dc=some (.dK kc)){n:Str}{ms:List Int}{m:Addr}(hm:H7 m=some (.tup (ms.map V.int))) :
 fq H (ah H7 dc (.dK (cD kc (.inr n) (.ref m)))) dc dh dO ct ca cb { s with ch:=bU s.ch n ms }:=by
 have up:∀c z,H7 c=some z->(∀ks,z≠.dK ks)->ah H7 dc (.dK (cD kc (.inr n) (.ref m))) c=some z:=fun c z e hz=>aB e (aO e hc (hz _));obtain⟨kc',a1,a2⟩:=N.ch;rw[hc]at a1;cases a1;obtain⟨kh,b1,b2⟩:=N.cs;obtain⟨ko,o1,o2⟩:=N.ow;exact {
  old:=fun b z e=>aB (N.old b z e) (aL e N.nc)
  nc:=N.nc,nh:=N.nh,no:=N.no,n1:=N.n1,n2:=N.n2,d1:=N.d1,d2:=N.d2,d3:=N.d3,d4:=N.d4
  ch:=⟨_,aI,aK (jL (F:=dA H7) (fun kv f z=>z.1) (x:=n) (ls:=ms) (v:=.ref m) ⟨rfl,m,rfl,hm⟩ a2) fun kv f am3=>am3.elim fun x1 am4=>am4.elim fun x2 am5=>am5.elim fun x3 x4=>⟨x1,x2,x3,up _ _ x4 (by intro ks z;cases z)⟩⟩
  cs:=⟨kh,aB b1 N.d1.symm,b2⟩
  hct:=up _ _ N.hct (by intro ks z;cases z)
  c1:=up _ _ N.c1 (by intro ks z;cases z)
  c2:=up _ _ N.c2 (by intro ks z;cases z)
  ow:=⟨ko,aB o1 N.d2.symm,aK o2 fun _ _=>ng.keep (fun c z e hz _ _=>up c z e hz) ⟨_,N.c1⟩ ⟨_,N.c2⟩⟩
  ck:=N.ck }
theorem fq.cho(N:fq H H7 dc dh dO ct ca cb s){kh:List (aw×V)}(hh:H7 dh=some (.dK kh)){c n:Str} :
 fq H (ah H7 dh (.dK (cD kh (.inr c) (.str n)))) dc dh dO ct ca cb { s with cs:=bU s.cs c n }:=by
 have up:∀b z,H7 b=some z->(∀ks,z≠.dK ks)->ah H7 dh (.dK (cD kh (.inr c) (.str n))) b=some z:=fun b z e hz=>aB e (aO e hh (hz _));obtain⟨kc,a1,a2⟩:=N.ch;obtain⟨kh',b1,b2⟩:=N.cs;rw[hh]at b1;cases b1;obtain⟨ko,o1,o2⟩:=N.ow;exact {
  old:=fun b z e=>aB (N.old b z e) (aL e N.nh)
  nc:=N.nc,nh:=N.nh,no:=N.no,n1:=N.n1,n2:=N.n2,d1:=N.d1,d2:=N.d2,d3:=N.d3,d4:=N.d4
  ch:=⟨kc,aB a1 N.d1,aK a2 fun kv f am7=>am7.elim fun x1 am8=>am8.elim fun x2 am9=>am9.elim fun x3 x4=>⟨x1,x2,x3,up _ _ x4 (by intro ks z;cases z)⟩⟩
  cs:=⟨_,aI,jL (F:=wW) (fun kv f z=>z.1) (x:=c) (ls:=n) (v:=.str n) ⟨rfl,rfl⟩ b2⟩
  hct:=up _ _ N.hct (by intro ks z;cases z)
  c1:=up _ _ N.c1 (by intro ks z;cases z)
  c2:=up _ _ N.c2 (by intro ks z;cases z)
  ow:=⟨ko,aB o1 N.d3.symm,aK o2 fun _ _=>ng.keep (fun c z e hz _ _=>up c z e hz) ⟨_,N.c1⟩ ⟨_,N.c2⟩⟩
  ck:=N.ck }
theorem Sf{ck:Option Str}{b m b' m':Ls}{ko:List (aw×V)}{ow:Ow}(hc:∀p,ck=some p->p∈ow.map (·.1))(k:∀c z,H7 c=some z->c≠ca->c≠cb->H8 c=some z)(h1:∃xs,H7 ca=some (.lst xs))(h2:∃xs,H7 cb=some (.lst xs))
 (h:Paired (ng H7 ck ct ca cb b m) ko ow):Paired (ng H8 ck ct ca cb b' m') ko (gQ ow ck (b',m'))/\(gQ ow ck (b',m')).map (·.1)=ow.map (·.1):=by
 obtain⟨x1,h1⟩:=h1;obtain⟨x2,h2⟩:=h2;have Sg:∀{t l1 l2:Addr}{e:Ls×Ls},H7 t=some (.tup [.ref l1,.ref l2])/\H7 l1=some (.lst (e.1.map V.str))/\H7 l2=some (.lst (e.2.map V.str))/\l1≠ca/\l1≠cb/\l2≠ca/\l2≠cb->H8 t=some (.tup [.ref l1,.ref l2])/\H8 l1=some (.lst (e.1.map V.str))/\H8 l2=some (.lst (e.2.map V.str))/\l1≠ca/\l1≠cb/\l2≠ca/\l2≠cb:=by
  rintro t l1 l2 e ⟨e2,e3,e4,e5,e6,e7,e8⟩;exact⟨k _ _ e2 (aO e2 h1 (by intro z;cases z)) (aO e2 h2 (by intro z;cases z)),k _ _ e3 e5 e6,k _ _ e4 e7 e8,e5,e6,e7,e8⟩
 cases ck with
 | none=>
  refine⟨aK h fun kv e z=>?_,rfl⟩;obtain⟨a,z⟩:=z
  rcases z with⟨z,_⟩ | ⟨nk,t,l1,l2,e1,z⟩
  . cases z
  . exact⟨a,.inr ⟨nk,t,l1,l2,e1,Sg z⟩⟩
 | some p=>
  have hp:=hc p rfl;have e0:gQ ow (some p) (b',m')=ow.map fun f=>if f.1=p then(f.1,(b',m')) else f:=aq (rD.mpr hp);refine⟨?_,?_⟩
  . rw[e0];clear e0 hp hc
    induction h with
    | nil=>exact .nil
    | @cons kv e ko ow r t ih=>
     refine .cons ?_ ih;obtain⟨a,z⟩:=r;dsimp only
     by_cases ep:e.1=p
     . rw[aq ep]
       rcases z with⟨z1,z2,z3⟩ | ⟨nk,_⟩
       . exact⟨a,.inl ⟨by rw[ep],z2,rfl⟩⟩
       . exact absurd (by rw[ep]) nk
     . rw[ai ep]
       rcases z with⟨z1,z2,z3⟩ | ⟨nk,t,l1,l2,e1,z⟩
       . exact absurd (gA z1).symm ep
       . exact⟨a,.inr ⟨nk,t,l1,l2,e1,Sg z⟩⟩
  . rw[e0,oA];refine Oc fun f _=>?_;show(if f.1=p then(f.1,(b',m')) else f).1=f.1;split<;>rfl
theorem fq.les(N:fq H H7 dc dh dO ct ca cb s)(x:Str):fq H (ah H7 ca (.lst (s.b.map V.str++[.str x]))) dc dh dO ct ca cb { s with ow:=gQ s.ow s.ck (s.b++[x],s.m),b:=s.b++[x] }:=by
 have up:∀c z,H7 c=some z->c≠ca->ah H7 ca (.lst (s.b.map V.str++[.str x])) c=some z:=fun c z e hc=>aB e hc;have nl:∀{c:Addr}{z:HO},H7 c=some z->(∀xs,z≠.lst xs)->c≠ca:=fun e hz=>aO e N.c1 (hz _);obtain⟨kc,a1,a2⟩:=N.ch;obtain⟨kh,b1,b2⟩:=N.cs;obtain⟨ko,o1,o2⟩:=N.ow;obtain⟨p1,p2⟩:=Sf (H8:=ah H7 ca (.lst (s.b.map V.str++[.str x]))) (b':=s.b++[x]) (m':=s.m) N.ck (fun c z e h1 _=>up c z e h1) ⟨_,N.c1⟩ ⟨_,N.c2⟩ o2;exact {
  old:=fun b z e=>aB (N.old b z e) (aL e N.n1)
  nc:=N.nc,nh:=N.nh,no:=N.no,n1:=N.n1,n2:=N.n2,d1:=N.d1,d2:=N.d2,d3:=N.d3,d4:=N.d4
  ch:=⟨kc,up _ _ a1 (nl a1 (by intro xs z;cases z)),aK a2 fun kv f ana=>ana.elim fun x1 anb=>anb.elim fun x2 anc=>anc.elim fun x3 x4=>⟨x1,x2,x3,up _ _ x4 (nl x4 (by intro xs z;cases z))⟩⟩
  cs:=⟨kh,up _ _ b1 (nl b1 (by intro xs z;cases z)),b2⟩
  hct:=up _ _ N.hct (nl N.hct (by intro xs z;cases z))
  c1:=by rw[aI,tV]
  c2:=up _ _ N.c2 N.d4.symm
  ow:=⟨ko,up _ _ o1 (nl o1 (by intro xs z;cases z)),p1⟩
  ck:=fun p hp=>by
   show p∈(gQ s.ow s.ck (s.b++[x],s.m)).map (·.1);rw[p2];exact N.ck p hp }
theorem fq.mor(N:fq H H7 dc dh dO ct ca cb s)(x:Str):fq H (ah H7 cb (.lst (s.m.map V.str++[.str x]))) dc dh dO ct ca cb { s with ow:=gQ s.ow s.ck (s.b,s.m++[x]),m:=s.m++[x] }:=by
 have up:∀c z,H7 c=some z->c≠cb->ah H7 cb (.lst (s.m.map V.str++[.str x])) c=some z:=fun c z e hc=>aB e hc;have nl:∀{c:Addr}{z:HO},H7 c=some z->(∀xs,z≠.lst xs)->c≠cb:=fun e hz=>aO e N.c2 (hz _);obtain⟨kc,a1,a2⟩:=N.ch;obtain⟨kh,b1,b2⟩:=N.cs;obtain⟨ko,o1,o2⟩:=N.ow;obtain⟨p1,p2⟩:=Sf (H8:=ah H7 cb (.lst (s.m.map V.str++[.str x]))) (b':=s.b) (m':=s.m++[x]) N.ck (fun c z e _ h1=>up c z e h1) ⟨_,N.c1⟩ ⟨_,N.c2⟩ o2;exact {
  old:=fun b z e=>aB (N.old b z e) (aL e N.n2)
  nc:=N.nc,nh:=N.nh,no:=N.no,n1:=N.n1,n2:=N.n2,d1:=N.d1,d2:=N.d2,d3:=N.d3,d4:=N.d4
  ch:=⟨kc,up _ _ a1 (nl a1 (by intro xs z;cases z)),aK a2 fun kv f and=>and.elim fun x1 ane=>ane.elim fun x2 anf=>anf.elim fun x3 x4=>⟨x1,x2,x3,up _ _ x4 (nl x4 (by intro xs z;cases z))⟩⟩
  cs:=⟨kh,up _ _ b1 (nl b1 (by intro xs z;cases z)),b2⟩
  hct:=up _ _ N.hct (nl N.hct (by intro xs z;cases z))
  c1:=up _ _ N.c1 N.d4
  c2:=by rw[aI,tV]
  ow:=⟨ko,up _ _ o1 (nl o1 (by intro xs z;cases z)),p1⟩
  ck:=fun p hp=>by
   show p∈(gQ s.ow s.ck (s.b,s.m++[x])).map (·.1);rw[p2];exact N.ck p hp }
theorem ang{β:Type}{G F:aw×V->Str×β->Prop}(hk:∀kv f,G kv f->kv.1=Sum.inr f.1){x:Str}{ls:β}{v:V}(hv:F (.inr x,v) (x,ls))(hg:∀kv f,G kv f->f.1≠x->F kv f){kvs:List (aw×V)}{tr:List (Str×β)}(h:Paired G kvs tr):Paired F (cD kvs (.inr x) v) (bU tr x ls):=by
 have h':Paired (fun kv f=>kv.1=Sum.inr f.1/\(f.1≠x->F kv f)) kvs tr:=aK h fun kv f z=>⟨hk kv f z,hg kv f z⟩;have:=jL (F:=fun kv f=>kv.1=Sum.inr f.1/\(f.1≠x->F kv f)) (fun kv f z=>z.1) (x:=x) (ls:=ls) (v:=v) ⟨rfl,fun z=>absurd rfl z⟩ h';have e:(kvs.any fun kv=>decide (kv.1=Sum.inr x))=(tr.any fun f=>decide (f.1=x)):=by
  clear this
  induction h' with
  | nil=>rfl
  | cons r t ih=>
   cases h with
   | cons _ t0=>
   rw[sX,sX,ih t0,r.1]
   congr 1
   exact Cv.mpr ⟨fun z=>qA z,fun z=>by rw[z]⟩
 clear this;unfold cD bU;rw[e];split
 . rename_i hh;clear hh e h
   induction h' with
   | nil=>exact .nil
   | @cons kv f kvs tr r t ih=>
    refine .cons ?_ ih;have hr:=r.1;dsimp only
    by_cases hx:f.1=x
    . have zO:kv.1=Sum.inr x:=by rw[hr,hx]
      rw[aq zO,aq hx,zO,hx];exact hv
    . rw[ai (fun z=>hx (qA (hr.symm.trans z))),ai hx];exact r.2 hx
 . rename_i hh;refine iI hv ?_;have hn:x∉tr.map (·.1):=fun z=>hh (rD.mpr z);clear hh e h
   induction h' with
   | nil=>exact .nil
   | @cons kv f kvs tr r t ih=>
    rw[bL,aX,lC]at hn;exact .cons (r.2 fun z=>hn.1 z.symm) (ih hn.2)
theorem fq.own(N:fq H H7 dc dh dO ct ca cb s){EO q1 q2:Addr}(sm:ag H7 H8)(f1:H7 q1=none)(f2:H7 q2=none)(ne:q1≠q2)(g1:H8 q1=some (.lst []))(g2:H8 q2=some (.lst []))(g3:H8 EO=some (.tup [.ref q1,.ref q2])){ko:List (aw×V)}(ho:H8 dO=some (.dK ko))(p:Str) :
 fq H (ah H8 dO (.dK (cD ko (.inr p) (.ref EO)))) dc dh dO EO q1 q2 { s with ow:=bU s.ow p ([],[]),ck:=some p,b:=[],m:=[] }:=by
 have fr:∀b,H7 b=none->H b=none:=fun b e=>by
  cases hb:H b with
  | none=>rfl
  | some z=>rw[N.old b z hb]at e;cases e
 have up:∀c z,H8 c=some z->(∀ks,z≠.dK ks)->ah H8 dO (.dK (cD ko (.inr p) (.ref EO))) c=some z:=fun c z e hz=>aB e (aO e ho (hz _));obtain⟨kc,a1,a2⟩:=N.ch;obtain⟨kh,b1,b2⟩:=N.cs;obtain⟨JO,o1,o2⟩:=N.ow;have Sh:=sm _ _ o1;rw[ho]at Sh;cases Sh;exact {
  old:=fun b z e=>aB (sm _ _ (N.old b z e)) (aL e N.no)
  nc:=N.nc,nh:=N.nh,no:=N.no,n1:=fr _ f1,n2:=fr _ f2,d1:=N.d1,d2:=N.d2,d3:=N.d3,d4:=ne
  ch:=⟨kc,aB (sm _ _ a1) N.d2,aK a2 fun kv f anh=>anh.elim fun x1 ani=>ani.elim fun x2 anj=>anj.elim fun x3 x4=>⟨x1,x2,x3,up _ _ (sm _ _ x4) (by intro ks z;cases z)⟩⟩
  cs:=⟨kh,aB (sm _ _ b1) N.d3,b2⟩
  hct:=up _ _ g3 (by intro ks z;cases z)
  c1:=up _ _ g1 (by intro ks z;cases z)
  c2:=up _ _ g2 (by intro ks z;cases z)
  ow:=⟨_,aI,ang (G:=ng H7 s.ck ct ca cb s.b s.m) (fun kv f z=>z.1) ⟨rfl,.inl ⟨rfl,rfl,rfl⟩⟩ (fun kv f z hf=>by
   obtain⟨z1,z⟩:=z;have rR:∀{l:Addr}{xs:Lv},H7 l=some (.lst xs)->l≠q1/\l≠q2:=fun e=>⟨aL e f1,aL e f2⟩
   rcases z with⟨z2,z3,z4⟩ | ⟨nk,t,l1,l2,e1,e2,e3,e4,e5,e6,e7,e8⟩
   . refine⟨z1,.inr ⟨fun y=>hf (gA y).symm,ct,ca,cb,z3,up _ _ (sm _ _ N.hct) (by intro ks z;cases z),?_,?_,(rR N.c1).1,(rR N.c1).2,(rR N.c2).1,(rR N.c2).2⟩⟩
     . rw[z4];exact up _ _ (sm _ _ N.c1) (by intro ks z;cases z)
     . rw[z4];exact up _ _ (sm _ _ N.c2) (by intro ks z;cases z)
   . exact⟨z1,.inr ⟨fun y=>hf (gA y).symm,t,l1,l2,e1,up _ _ (sm _ _ e2) (by intro ks z;cases z),up _ _ (sm _ _ e3) (by intro ks z;cases z),up _ _ (sm _ _ e4) (by intro ks z;cases z),(rR e3).1,(rR e3).2,(rR e4).1,(rR e4).2⟩⟩) o2⟩
  ck:=fun p' bS=>by
   cases bS;exact Jl (.inl rfl) }
theorem fq.own_at(N:fq H H7 dc dh dO ct ca cb s):rQ H7 dO s.ow:=by
 obtain⟨ko,o1,o2⟩:=N.ow;refine⟨ko,o1,aK o2 fun kv e z=>?_⟩;obtain⟨z1,z⟩:=z
 rcases z with⟨z2,z3,z4⟩ | ⟨nk,t,l1,l2,e1,e2,e3,e4,_⟩
 . refine⟨z1,ct,ca,cb,z3,N.hct,?_,?_⟩
   . rw[z4];exact N.c1
   . rw[z4];exact N.c2
 . exact⟨z1,t,l1,l2,e1,e2,e3,e4⟩
end
theorem ank{s:Nt}(h:(s.ch.map (·.1)).Nodup/\(s.cs.map (·.1)).Nodup/\(s.ow.map (·.1)).Nodup)(row:Str):((s.step row).ch.map (·.1)).Nodup/\((s.step row).cs.map (·.1)).Nodup/\((s.step row).ow.map (·.1)).Nodup:=by
 have pc:∀r,((gQ s.ow s.ck r).map (·.1)).Nodup:=fun r=>by
  unfold gQ;split
  . exact h.2.2
  . exact lZ h.2.2
 unfold Nt.step;split
 . exact⟨h.1,h.2.1,pc _⟩
 . exact⟨h.1,h.2.1,pc _⟩
 . exact⟨lZ h.1,h.2⟩
 . exact⟨h.1,lZ h.2.1,h.2.2⟩
 . exact⟨h.1,h.2.1,lZ h.2.2⟩
theorem anl(rows:Ls):((fQ rows).ch.map (·.1)).Nodup/\((fQ rows).cs.map (·.1)).Nodup/\((fQ rows).ow.map (·.1)).Nodup:=by
 have:∀(rows:Ls) (s:Nt),((s.ch.map (·.1)).Nodup/\(s.cs.map (·.1)).Nodup/\(s.ow.map (·.1)).Nodup)->((rows.foldl Nt.step s).ch.map (·.1)).Nodup/\((rows.foldl Nt.step s).cs.map (·.1)).Nodup/\((rows.foldl Nt.step s).ow.map (·.1)).Nodup:=by
  intro rows
  induction rows with
  | nil=>exact fun s h=>h
  | cons r rows ih=>exact fun s h=>ih _ (ank h r)
 exact this rows {} ⟨kj,kj,kj⟩
theorem anm(s:Nt)(row:Str):(s.step row).ch.length<=s.ch.length+1/\(s.step row).cs.length<=s.cs.length+1/\(s.step row).ow.length<=s.ow.length+1/\(s.step row).b.length<=s.b.length+1/\(s.step row).m.length<=s.m.length+1:=by
 have pc:∀r,(gQ s.ow s.ck r).length<=s.ow.length+1:=fun r=>by
  unfold gQ;split
  . omega
  . exact l8 _ _ _
 unfold Nt.step;split
 . exact⟨by dsimp only;omega,by dsimp only;omega,pc _,by simp,by dsimp only;omega⟩
 . exact⟨by dsimp only;omega,by dsimp only;omega,pc _,by dsimp only;omega,by simp⟩
 . exact⟨l8 _ _ _,by dsimp only;omega,by dsimp only;omega,by dsimp only;omega,by dsimp only;omega⟩
 . exact⟨by dsimp only;omega,l8 _ _ _,by dsimp only;omega,by dsimp only;omega,by dsimp only;omega⟩
 . exact⟨by dsimp only;omega,by dsimp only;omega,l8 _ _ _,by simp,by simp⟩
theorem Si(rows:Ls):(fQ rows).ch.length<=rows.length/\(fQ rows).cs.length<=rows.length/\(fQ rows).ow.length<=rows.length/\(fQ rows).b.length<=rows.length/\(fQ rows).m.length<=rows.length:=by
 have:∀(rows:Ls) (s:Nt),(rows.foldl Nt.step s).ch.length<=s.ch.length+rows.length/\(rows.foldl Nt.step s).cs.length<=s.cs.length+rows.length/\(rows.foldl Nt.step s).ow.length<=s.ow.length+rows.length/\(rows.foldl Nt.step s).b.length<=s.b.length+rows.length/\(rows.foldl Nt.step s).m.length<=s.m.length+rows.length:=by
  intro rows
  induction rows with
  | nil=>exact fun s=>⟨aJ _,aJ _,aJ _,aJ _,aJ _⟩
  | cons r rows ih=>
   intro s;obtain⟨a1,a2,a3,a4,a5⟩:=ih (s.step r);obtain⟨b1,b2,b3,b4,b5⟩:=anm s r;rw[ou,bO];exact⟨by omega,by omega,by omega,by omega,by omega⟩
 have h:=this rows {};simp only[ki,GU]at h;exact h
theorem ann(rows:Ls)(r:Str):fQ (rows++[r])=(fQ rows).step r:=by
 unfold fQ;rw[qI];rfl
section
variable {P:Program}{w:World}{K:Fg}{mg:Mv}{base:Heap}
theorem JY{x y:Str}{b:Bool}(h:decide (V.str x=V.str y)=b):decide (x=y)=b:=by
 rw[←h];exact Cv.mpr ⟨fun z=>by rw[z],fun z=>V.str.inj z⟩
def Sj:Sp:=fun vs H Q _=>∃x:Str,vs=[.str x]/\x.length<=70000/\uq x=true/\∀p H',H p=none->ag H H'->H' p=some (.tup ((rG x).map V.int))->Q (.ref p) H'
theorem ano:aR [aEl] [aEl] (aE El):=aZ
theorem anp{f:Addr}{fd:Fy}(F:ak K aFj aFj El f fd)(B:bV mg):aj P w K mg base al 1 f fd [aEl] Sj:=by
 refine F.okL ano ?_
 . intro ay A outer s H vs Q E hr h xX dX;obtain⟨x,rfl,hx,hb,q⟩:=h;obtain⟨m1,m2⟩:=amY hb;refine⟨_,(av (aU (eB ab5 (by rfl) B.tuple PyProof.Rows.boot_tuple (aa (fM ["part"] [] [] dL rfl (cy (dr my Wq Wr IX (pv 0) (aa bH ac))) (fun _ _ _ _=>(aY (i:=0) (show List.Nodup (["part"]:Ls) by decide +kernel) rfl (Or.inl rfl))) (fun _ _ _ _=>ge) (fun _ _ _ _=>(eB ake (by rfl) B.int aCG (aa (pv 0) ac)))) ac)))),?_⟩;have hsl:=split_le x jd;refine⟨_,rfl,rfl,x,jd,rfl,rfl,by decide +kernel,eO (by omega),fun l H1 n1 s1 e1=>⟨l,rfl,⟨_,ae.of e1⟩,?_⟩⟩;refine zG (σ0:=[none]) (ae.of e1) (fun σ=>∃v,σ=[v]) ((rG x).map V.int) (by unfold rG;rw[am,am,am]) (eO (by rw[am];omega)) ⟨_,rfl⟩ ?_ ?_
   . intro i z y σ H2 k hz hy hQ hs hk;obtain⟨v,rfl⟩:=hQ;obtain⟨p,hp,rfl⟩:=jg hz;unfold rG at hy;rw[oA]at hy;obtain⟨p',bS,rfl⟩:=jg hy;rw[hp]at bS;cases bS;obtain⟨g1,g2,g3,_⟩:=amX (m2 p (dG hp));exact⟨_,rfl,p,_,rfl,alm g1 g2 (by omega),by omega,hk _ _ ⟨_,rfl⟩ (ag.refl _)⟩
   . intro D H2 hD hd hs;refine⟨D,_,rfl,.inl ⟨ae.of hd,fun p hp=>?_⟩⟩;have s2:=s1.trans hs;exact q p _ (s2.free hp) (s2.trans (fL hp)) aI
theorem EQ(H:Hp):msk [] H=H:=by
 funext b
 unfold msk;exact ai (fun z=>nomatch z)
def Aw(T:Addr):Sp:=fun vs H Q _=>∃t:Str,vs=[.str t]/\t.length<=60000/\(rowsOf t).length<=100/\(∀r∈rowsOf t,je r=true) /\
 ∀v H',ag H H'->(∀L,iH H L->gj T (msk L H') v (fQ (rowsOf t)).ch (fQ (rowsOf t)).cs (fQ (rowsOf t)).ow)->Q v H'
theorem rS:aR [aEl,aEb,aEj,aEw,aEH,"row","words"] [aEl] (aE Ac):=aZ
theorem anq{t r:Str}(h:r∈rowsOf t):r.length<=t.length:=by
 unfold rowsOf at h;split at h
 . cases h
 . exact RS h
theorem anr{f T ER ES ii:Addr}{fd JZ J2 kR:Fy}(F:ak K aEJ aEJ Ac f fd)(B:bV mg)(UT:rO K mg T)(MT:Mk K T ii)
 (Ax:ak K aFJ aFJ D9 ER JZ) (J3:mg aFJ=some (.ref ER))
 (Ay:ak K aFj aFj El ES J2) (J4:mg aFj=some (.ref ES))
 (ni:ak K "__init__" "Stand.__init__" pA ii kR) (pE:aj P w K mg base al 2 ii kR [aD4,aEb,aEj,aEw] (wZ T)):aj P w K mg base al 4 f fd [aEl] (Aw T):=by
 have ans:aj P w K mg base al 1 ER JZ [aEl] RR:=al2 Ax;have ant:=Ax.binds1 (l:=[aEl]) (fun _ _ _ _ _ _ _=>rfl);have anu:aj P w K mg base al 1 ES J2 [aEl] Sj:=anp Ay B;have anv:=Ay.binds1 (l:=[aEl]) (fun _ _ _ _ _ _ _=>rfl);have Az:=ni.binds4 (l:=[aD4,aEb,aEj,aEw]) (fun _ _ _ _ _ _ _ _ _ _=>rfl);refine F.okL rS ?_
 . intro ay A outer s H vs Q E hr h xX dX;obtain⟨t,rfl,ht,hn,hg,q⟩:=h;have hu:=hr.units;have dF:=hr.mono (j:=1) (by decide);refine⟨_,(ao (aP (i:=1) rS.nd rfl (Or.inl rfl) lV) (ao (aP (i:=2) rS.nd rfl (Or.inl rfl) lV) (ao (aP (i:=3) rS.nd rfl (Or.inl rfl) lV) (ao (aP (i:=4) rS.nd rfl (Or.inl rfl) (eK (aa (cX ac) (aa (cX ac) ac))))
    (ao (eA dY rfl (cy (aG ans dF (by rfl) J3 Ax.kp ant .nil aD (aa (pv 0) ac))) (aY (i:=5) rS.nd rfl (Or.inl rfl))
     (ao (aP (i:=6) rS.nd rfl (Or.inl rfl) (dr my Wq Wr IX (pv 5) (aa bH ac))) (av (cJ (mC (dr my aCH aCI Q3 (pv 5) (aa bH ac))) (av (cI (dr gD vU vV oU (bi eJ (pv 4) ar (fun _ _=>rfl)) (aa (iX C3 (pv 5) (gb ar) oN) ac)))) (av (cJ (mC (dr my aCH aCI Q3 (pv 5) (aa bH ac))) (av (cI (dr gD vU vV oU (bi eJ (pv 4) ar (fun _ _=>rfl)) (aa (iX C3 (pv 5) (gb ar) oN) ac)))) (av (cJ (bM eV (bi eL (pv 6) ar (fun _ _=>rfl)) bH (bE _)) (av (iZ hu (pv 1) (bi eL (pv 6) ar (fun _ _=>rfl)) (aG anu dF (by rfl) J4 Ay.kp anv .nil aD (aa (bi eL (pv 6) ar (fun _ _=>rfl)) ac)) rfl)) (av (cJ (bM eV (bi eL (pv 6) ar (fun _ _=>rfl)) bH (bE _)) (av (iZ hu (pv 2) (bi eL (pv 6) ar (fun _ _=>rfl)) (bi eL (pv 6) ar (fun _ _=>rfl)) rfl)) (ao (aP (i:=4) rS.nd rfl (Or.inl rfl) (eK (aa (cX ac) (aa (cX ac) ac)))) (av (iZ hu (pv 3) (bi eL (pv 6) ar (fun _ _=>rfl)) (pv 4) rfl)))))))))))))
    (av (aU (yS MT pE hr (by rfl) UT.mgC Az .nil aD (aa (pv 1) (aa (pv 2) (aa (pv 3) ac))))))))))),?_⟩
   refine zt ?_;intro dD sS Ka ET m9 fD dP;refine fun dc H1 n1 s1 e1 dh H2 n2 s2 e2 dO H3 n3 s3 e3=>?_;refine⟨(by show 0<=sizeLine;exact dw _),fun q1 H4 n4 s4 e4=>⟨(by show 0<=sizeLine;exact dw _),fun q2 H5 n5 s5 e5=>⟨(by show 2<=sizeLine;decide),fun ct H6 n6 s6 e6=>?_⟩⟩⟩;have EU:=s1.trans (s2.trans (s3.trans (s4.trans s5)));have N0:fq H H6 dc dh dO ct q1 q2 {}:={
    old:=fun b z e=>s6 _ _ (EU _ _ e)
    nc:=n1
    nh:=s1.free n2
    no:=(s1.trans s2).free n3
    n1:=(s1.trans (s2.trans s3)).free n4
    n2:=(s1.trans (s2.trans (s3.trans s4))).free n5
    d1:=aL e1 n2
    d2:=aL (s2 _ _ e1) n3
    d3:=aL e2 n3
    d4:=aL e4 n5
    ch:=⟨[],s6 _ _ (s5 _ _ (s4 _ _ (s3 _ _ (s2 _ _ e1)))),.nil⟩
    cs:=⟨[],s6 _ _ (s5 _ _ (s4 _ _ (s3 _ _ e2))),.nil⟩
    hct:=e6
    c1:=s6 _ _ (s5 _ _ e4)
    c2:=s6 _ _ e5
    ow:=⟨[],s6 _ _ (s5 _ _ (s4 _ _ e3)),.nil⟩
    ck:=fun p hp=>nomatch hp }
   refine⟨_,rfl,t,rfl,by omega,fun l H7 n7 s7 e7=>⟨l,rfl,⟨_,ae.of e7⟩,?_⟩⟩;refine gF (xs:=(rowsOf t).map V.str) (fun i σ H8=>∃ct q1 q2 u v,σ=[some (.str t),some (.ref dc),some (.ref dh),some (.ref dO),some (.ref ct),u,v]/\H8 l=some (.lst ((rowsOf t).map V.str))/\l≠q1/\l≠q2/\fq H H8 dc dh dO ct q1 q2 (fQ ((rowsOf t).take i)))
    ⟨ct,q1,q2,none,none,rfl,e7,(aL N0.c1 n7).symm,(aL N0.c2 n7).symm,N0.same s7⟩ ?_ ?_ ?_
   . intro i σ H8 hi hQ;obtain⟨ct,q1,q2,u,v,rfl,h8,_⟩:=hQ;exact ae.of h8
   . intro i z σ H8 hz hQ;refine ba ?_;intro tT;obtain⟨ct,q1,q2,u,v,rfl,h8,m1,m2,N⟩:=hQ;obtain⟨r,mX,rfl⟩:=jg hz;have Sk:=dG mX;have hgr:=hg r Sk;have hrl:=anq Sk;have es:fQ ((rowsOf t).take (i+1))=(fQ ((rowsOf t).take i)).step r:=by rw[take_snoc mX,ann]
     rw[show dc=dc from rfl]at N;have Sl:=Si ((rowsOf t).take i);rw[eh]at Sl;obtain⟨k1,k2,k3,k4,k5⟩:=Sl;generalize fQ ((rowsOf t).take i)=s0 at N es k1 k2 k3 k4 k5;have sl:=Txt.slice_le r (some 1) none;refine⟨_,rfl,rfl,r,spS,rfl,rfl,by decide +kernel,eO (by omega),fun wl H9 n9 s9 e9=>?_⟩;have N9:=N.same s9;have h9:=s9 _ _ h8;have z0:bZ [V.ref q1,V.ref q2] 0=some (V.ref q1):=rfl;have z1:bZ [V.ref q1,V.ref q2] 1=some (V.ref q2):=rfl;refine⟨_,rfl,rfl,r,eM,rfl,rfl,_,rfl,?_⟩;refine bw (fun h1=>?_) (fun h1=>?_)
     . refine⟨_,rfl,ct,_,_,_,rfl,rfl,aW.of N9.hct,z0,.inl ⟨rfl,_,ae.of N9.c1⟩,_,rfl,_,rfl,_,rfl,eO (by omega),q1,_,_,rfl,rfl,N9.c1,bI (by rw[am];omega),?_⟩;refine⟨ct,q1,q2,_,_,rfl,aB h9 m1,m1,m2,?_⟩;have e0:s0.step r={ s0 with ow:=gQ s0.ow s0.ck (s0.b++[Txt.slice r (some 1) none],s0.m),b:=s0.b++[Txt.slice r (some 1) none] }:=by
        unfold Nt.step gs;rw[aq h1]
       rw[es,e0];exact N9.les _
     refine⟨_,rfl,rfl,r,eN,rfl,rfl,_,rfl,?_⟩;refine bw (fun h2=>?_) (fun h2=>?_)
     . refine⟨_,rfl,ct,_,_,_,rfl,rfl,aW.of N9.hct,z1,.inl ⟨rfl,_,ae.of N9.c2⟩,_,rfl,_,rfl,_,rfl,eO (by omega),q2,_,_,rfl,rfl,N9.c2,bI (by rw[am];omega),?_⟩;refine⟨ct,q1,q2,_,_,rfl,aB h9 m2,m1,m2,?_⟩;have e0:s0.step r={ s0 with ow:=gQ s0.ow s0.ck (s0.b,s0.m++[Txt.slice r (some 1) none]),m:=s0.m++[Txt.slice r (some 1) none] }:=by
        unfold Nt.step gs;rw[ai h1,aq h2]
       rw[es,e0];exact N9.mor _
     have pr:gs r=if (Txt.split r spS).getD 0 Str.empty=fB then .inn ((Txt.split r spS).getD 1 Str.empty) ((Txt.split r spS).getD 2 Str.empty) else
      if (Txt.split r spS).getD 0 Str.empty=fj then .cho ((Txt.split r spS).getD 1 Str.empty) ((Txt.split r spS).getD 2 Str.empty) else .own ((Txt.split r spS).getD 1 Str.empty):=by
      unfold gs;rw[ai h1,ai h2]
     have pl:∀p∈Txt.split r spS,p.length<=r.length:=fun p hp=>RS hp
     rcases amZ hgr (qE.mpr h1) (qE.mpr h2) with⟨p,hw⟩ | ⟨n,x,hw,Dv⟩ | ⟨c,n,hw⟩
     . rw[hw]at e9 pr pl;have y0:bZ ([dE,p].map V.str) 0=some (V.str dE):=rfl;have y1:bZ ([dE,p].map V.str) 1=some (V.str p):=rfl;have pr:gs r=.own p:=pr.trans ((ai Jw).trans (ai Jx));refine⟨_,rfl,wl,_,_,_,rfl,rfl,ae.of e9,y0,rfl,_,rfl,?_⟩;refine bw (fun h3=>absurd (cZ (JY h3)) Jw) (fun h3=>?_);refine⟨_,rfl,wl,_,_,_,rfl,rfl,ae.of e9,y0,rfl,_,rfl,?_⟩;refine bw (fun h4=>absurd (cZ (JY h4)) Jx) (fun h4=>?_);refine⟨(by show 0<=sizeLine;exact dw _),fun p1 Ha na sa ea=>⟨(by show 0<=sizeLine;exact dw _),fun p2 Hb nb sb eb=>⟨(by show 2<=sizeLine;decide),fun p3 Hc nc' sc ec=>?_⟩⟩⟩;have AA:=sa.trans (sb.trans sc);obtain⟨ko,o1,o2⟩:=N9.ow;have lo:=bq o2;refine⟨_,rfl,_,rfl,_,rfl,wl,_,_,_,rfl,rfl,ae.of (AA _ _ e9),y1,dO,_,rfl,fK.k (k:=.inr p) (AA _ _ o1) (bI (by omega)),?_⟩;have d9:∃ks,H9 dO=some (.dK ks):=⟨_,o1⟩;have hl:l≠dO:=aO h9 o1 (by intro z;cases z);refine⟨p3,p1,p2,_,_,rfl,aB (AA _ _ h9) hl,aL h9 na,aL (sa _ _ h9) nb,?_⟩;have e0:s0.step r={ s0 with ow:=bU s0.ow p ([],[]),ck:=some p,b:=[],m:=[] }:=by
        unfold Nt.step;rw[pr]
       rw[es,e0];exact N9.own AA na (sa.free nb) (aL ea nb) (sc _ _ (sb _ _ ea)) (sc _ _ eb) ec (AA _ _ o1) p
     . rw[hw]at e9 pr pl;have y0:bZ ([fB,n,x].map V.str) 0=some (V.str fB):=rfl;have y1:bZ ([fB,n,x].map V.str) 1=some (V.str n):=rfl;have y2:bZ ([fB,n,x].map V.str) 2=some (V.str x):=rfl;have pr:gs r=.inn n x:=pr.trans (aq rfl);have lx:=pl x (bJ _ (bJ _ bB));refine⟨_,rfl,wl,_,_,_,rfl,rfl,ae.of e9,y0,rfl,_,rfl,?_⟩;refine bw (fun h3=>?_) (fun h3=>absurd (bG rfl) h3);refine⟨_,rfl,wl,_,_,_,rfl,rfl,ae.of e9,y2,x,rfl,by omega,Dv,fun m Ha na sa ea=>?_⟩;have Na:=N9.same sa;obtain⟨kc,c1,c2⟩:=Na.ch;have lc:=bq c2;refine⟨_,rfl,_,rfl,wl,_,_,_,rfl,rfl,ae.of (sa _ _ e9),y1,dc,_,rfl,fK.k (k:=.inr n) c1 (bI (by omega)),?_⟩;refine⟨ct,q1,q2,_,_,rfl,aB (sa _ _ h9) (aO (sa _ _ h9) c1 (by intro z;cases z)),m1,m2,?_⟩;have e0:s0.step r={ s0 with ch:=bU s0.ch n (rG x) }:=by
        unfold Nt.step;rw[pr]
       rw[es,e0];exact Na.inn c1 ea
     . rw[hw]at e9 pr pl;have y0:bZ ([fj,c,n].map V.str) 0=some (V.str fj):=rfl;have y1:bZ ([fj,c,n].map V.str) 1=some (V.str c):=rfl;have y2:bZ ([fj,c,n].map V.str) 2=some (V.str n):=rfl;have pr:gs r=.cho c n:=pr.trans ((ai DW).trans (aq rfl));refine⟨_,rfl,wl,_,_,_,rfl,rfl,ae.of e9,y0,rfl,_,rfl,?_⟩;refine bw (fun h3=>absurd (cZ (JY h3)) DW) (fun h3=>?_);refine⟨_,rfl,wl,_,_,_,rfl,rfl,ae.of e9,y0,rfl,_,rfl,?_⟩;refine bw (fun h4=>?_) (fun h4=>absurd (bG rfl) h4);obtain⟨kh,c1,c2⟩:=N9.cs;have lh:=bq c2;refine⟨_,rfl,wl,_,_,_,rfl,rfl,ae.of e9,y2,_,rfl,_,rfl,wl,_,_,_,rfl,rfl,ae.of e9,y1,dh,_,rfl,fK.k (k:=.inr c) c1 (bI (by omega)),?_⟩;refine⟨ct,q1,q2,_,_,rfl,aB h9 (aO h9 c1 (by intro z;cases z)),m1,m2,?_⟩;have e0:s0.step r={ s0 with cs:=bU s0.cs c n }:=by
        unfold Nt.step;rw[pr]
       rw[es,e0];exact N9.cho c1
   . intro σ H8 hQ;refine ba ?_;intro tT;obtain⟨ct,q1,q2,u,v,rfl,h8,m1,m2,N⟩:=hQ;rw[am,eT]at N;obtain⟨kc,c1,c2⟩:=N.ch;obtain⟨kh,b1,b2⟩:=N.cs;have nd:=anl (rowsOf t);have nl:=Si (rowsOf t);refine⟨_,rfl,_,rfl,_,rfl,?_⟩;refine JP (T:=T) ⟨kc,c1,c2⟩ ⟨kh,b1,b2⟩ N.own_at nd.2.2 (by omega) fun x H' nx sx hx=>?_;exact q (.ref x) H' (fun b z e=>sx _ _ (N.old b z e)) fun L hL=>hx L fun b hb=>(hL b hb).elim fun o anx=>anx.elim fun e n=>⟨o,N.old b o e,n⟩
end
end K64
namespace K64
open PySem L2
structure Txt(K:Fg)(mg:Mv)(C:Addr):Prop where
 cl:jH K C
 nN:fH K C aEf
 nM:fH K C aEh
 nR:fH K C aEt
 nF:fH K C aEk
 nE:fH K C aEB
 nS:fH K C aES
 nO:fH K C aFf
 mgC:mg "Parcel"=some (.ref C)
structure Kb(fl:List (Str×V))(nm mk rk:V)(pf pn ps po:Addr):Prop where
 name:fl.lookup (aEf:Str)=some nm
 make:fl.lookup (aEh:Str)=some mk
 rank:fl.lookup (aEt:Str)=some rk
 files:fl.lookup (aEk:Str)=some (.ref pf)
 needs:fl.lookup (aEB:Str)=some (.ref pn)
 shuts:fl.lookup (aES:Str)=some (.ref ps)
 offers:fl.lookup (aFf:Str)=some (.ref po)
def uF(nm mk rk:V)(pf pn ps po:Addr):List (Str×V):=aA aFf (.ref po) (aA aES (.ref ps) (aA aEB (.ref pn) (aA aEk (.ref pf) (aA aEt rk (aA aEh mk (aA aEf nm []))))))
theorem anz(nm mk rk:V)(pf pn ps po:Addr):Kb (uF nm mk rk pf pn ps po) nm mk rk pf pn ps po:=by
 unfold uF;constructor
 . rw[cp,ai (by decide +kernel),cp,ai (by decide +kernel),cp,ai (by decide +kernel),cp,ai (by decide +kernel),cp,ai (by decide +kernel),cp,ai (by decide +kernel),cp,aq rfl]
 . rw[cp,ai (by decide +kernel),cp,ai (by decide +kernel),cp,ai (by decide +kernel),cp,ai (by decide +kernel),cp,ai (by decide +kernel),cp,aq rfl]
 . rw[cp,ai (by decide +kernel),cp,ai (by decide +kernel),cp,ai (by decide +kernel),cp,ai (by decide +kernel),cp,aq rfl]
 . rw[cp,ai (by decide +kernel),cp,ai (by decide +kernel),cp,ai (by decide +kernel),cp,aq rfl]
 . rw[cp,ai (by decide +kernel),cp,ai (by decide +kernel),cp,aq rfl]
 . rw[cp,ai (by decide +kernel),cp,aq rfl]
 . rw[cp,aq rfl]
section
variable {P:Program}{w:World}{K:Fg}{mg:Mv}{base:Heap}
structure Sm(K:Fg)(H:Hp)(xs:Lv)(fs:List (V×Lv)):Prop where
 len:xs.length=fs.length
 item:∀(i:Nat) (p:V) (ls:Lv),fs[i]?=some (p,ls)->∃t l,xs[i]?=some (.ref t)/\aW K H t [p,.ref l]/\ae K H l ls
structure EV(H H':Hp)(D:Addr)(xs:Lv)(fs:List (V×Lv))(k:Nat):Prop where
 len:xs.length=k
 item:∀(i:Nat) (p:V) (ls:Lv),i<k->fs[i]?=some (p,ls)->∃t l,xs[i]?=some (.ref t)/\H t=none/\H l=none/\t≠D/\l≠D/\H' t=some (.tup [p,.ref l])/\H' l=some (.lst ls)
def AB:Expr:=match (dg rH).getD 3 (.Pass ⟨0,0,0,0⟩) with
 | .Assign _ e _=>e
 | _=>.Constant .none 0 ⟨0,0,0,0⟩
def uG:Scope:=match AB with
 | .ListComp _ _ sc _=>sc
 | _=>{ kind:=.function,names:=[],isGenerator:=false,isCoroutine:=false }
def Sn:Expr:=match AB with
 | .ListComp e _ _ _=>e
 | _=>.Constant .none 0 ⟨0,0,0,0⟩
def Kc:Expr:=match AB with
 | .ListComp _ [⟨t,_,_,_⟩] _ _=>t
 | _=>.Constant .none 0 ⟨0,0,0,0⟩
def So:Expr:=match AB with
 | .ListComp _ [⟨_,t,_,_⟩] _ _=>t
 | _=>.Constant .none 0 ⟨0,0,0,0⟩
theorem Kd(X:Cx):kK X [aEg,aEp] [] [] uG:=dL
def Sq(K:Fg):Lv->Hp->VK->Prop:=fun xs H Q=>∃p ys,xs=[.ref p]/\(ae K H p ys\/aW K H p ys)/\∀l,H l=none->Q (.ref l) (ah H l (.lst ys))
theorem anA{X:Cx}(hc:X.calm=true)(s₀:Shared)(H₀:Hp)(C₀:Addr)(ex:List Addr):PG (dz X (([aEg,aEp]:Ls)++([]:Ls)) uG s₀ H₀ C₀ ex) Kc (tE X.K 2 (yL (lI 0) (yL (lI 1) G9))):=
 oI (X:=dz X (([aEg,aEp]:Ls)++([]:Ls)) uG s₀ H₀ C₀ ex) hc (fG (aY (i:=0) (Kd X).nd rfl (Or.inl rfl)) (fG (aY (i:=1) (Kd X).nd rfl (Or.inl rfl)) mD))
theorem anB{X:Cx}(ti:X.mg "list"=none)(s₀:Shared)(H₀:Hp)(C₀:Addr)(ex:List Addr):PE (dz X (([aEg,aEp]:Ls)++([]:Ls)) uG s₀ H₀ C₀ ex) Sn (Hu (kC (v3 0) (kC (CV (Sq X.K) (kC (v3 1) fh)) fh))):=
 OS (X:=dz X (([aEg,aEp]:Ls)++([]:Ls)) uG s₀ H₀ C₀ ex) (aa (pv 0) (aa (eB (yZ (X:=dz X (([aEg,aEp]:Ls)++([]:Ls)) uG s₀ H₀ C₀ ex)) (by rfl) ti jC (aa (pv 1) ac)) ac))
theorem anC{X:Cx}{wi:TI}(hc:X.calm=true)(ti:X.mg "list"=none)(hi:PI X Kc So wi):PE X AB (HU wi 2 [] (tE X.K 2 (yL (lI 0) (yL (lI 1) G9))) tQ (Hu (kC (v3 0) (kC (CV (Sq X.K) (kC (v3 1) fh)) fh)))):=
 fM [aEg,aEp] [] [] (elt:=Sn) (tg:=Kc) (iter:=So) (ifs:=[]) (sc:=uG) (Kd X) hc hi (anA hc) (fun _ _ _ _=>ge) (anB ti)
theorem anD:aR [aD4,aEf,aEh,aEt,aEk,aEB,aES,aFf] [aD4,aEf,aEh,aEt,aEk,aEB,aES,aFf] (aE rH):=aZ
def EW(K:Fg)(C:Addr):Sp:=fun vs H Q _=>∃(x dx fa na sa oa:Addr) (nm mk rk:V) (xs ns ss os:Lv) (fs:List (V×Lv)),vs=[.ref x,nm,mk,rk,.ref fa,.ref na,.ref sa,.ref oa]/\H x=some (.ins C dx []) /\
 ae K H fa xs/\Sm K H xs fs/\ae K H na ns/\ae K H sa ss/\ae K H oa os/\fs.length<=1000 /\
 ∀(fl:List (Str×V)) (pf pn ps po:Addr) (jD:Lv) (H':Hp),Kb fl nm mk rk pf pn ps po->H' x=some (.ins C dx fl)->H pf=none->H pn=none->H ps=none->H po=none ->
  H' pf=some (.lst jD)->EV H H' pf jD fs fs.length->H' pn=some (.lst ns)->H' ps=some (.lst ss)->H' po=some (.lst os)->(∀b o,H b=some o->b≠x->H' b=some o)->Q .non H'
section
variable {C dx x p a:Addr}{H Hk:Hp}{fl rB:List (Str×V)} {o o':HO}{xs:Lv}
end
theorem anE{H Hk Hj:Hp}{D:Addr}{xs:Lv}{fs:List (V×Lv)}{k:Nat}(fn:EV H Hk D xs fs k)(h:∀b o,Hk b=some o->b≠D->H b=none->Hj b=some o):EV H Hj D xs fs k:=by
 refine⟨fn.len,fun i p ls hi hp=>?_⟩;obtain⟨t,l,e1,e2,e3,e4,e5,e6,e7⟩:=fn.item i p ls hi hp;exact⟨t,l,e1,e2,e3,e4,e5,h t _ e6 e4 e2,h l _ e7 e5 e3⟩
theorem anF{f C:Addr}{fd:Fy}(F:ak K "__init__" "Parcel.__init__" rH f fd)(T:Txt K mg C)(ti:mg "list"=none) :
 aj P w K mg base al 1 f fd [aD4,aEf,aEh,aEt,aEk,aEB,aES,aFf] (EW K C):=by
 refine F.okL anD ?_
 . intro ay A outer s H vs Q E hr h xX dX;obtain⟨x,dx,fa,na,sa,oa,nm,mk,rk,xs,ns,ss,os,fs,rfl,hx,jl,kS,hna,hsa,G2,EX,k⟩:=h;refine⟨_,ao (hJ (pv 0) (pv 1) rfl) (ao (hJ (pv 0) (pv 2) rfl) (ao (hJ (pv 0) (pv 3) rfl)
    (ao (hJ (pv 0) (anC rfl ti (cy (pv 4))) rfl)
    (ao (hJ (pv 0) (eB yZ (by rfl) ti jC (aa (pv 5) ac)) rfl)
    (ao (hJ (pv 0) (eB yZ (by rfl) ti jC (aa (pv 6) ac)) rfl)
    (av (hJ (pv 0) (eB yZ (by rfl) ti jC (aa (pv 7) ac)) rfl))))))),?_⟩
   refine aiq ?_;intro dD sS uU7 Ka ET m9 fD dP;have S0:eF C dx x H H []:=⟨fun _ _ e _=>e,fun _ e=>e,hx⟩;refine⟨_,rfl,_,rfl,x,C,dx,_,rfl,S0.ob,T.cl,T.nN,few pj (by decide),?_⟩;have S1:eF C dx x H _ (aA aEf nm []):=S0.put;refine⟨_,rfl,_,rfl,x,C,dx,_,rfl,S1.ob,T.cl,T.nM,few (lp pj) (by decide),?_⟩;have S2:eF C dx x H _ (aA aEh mk (aA aEf nm [])):=S1.put;refine⟨_,rfl,_,rfl,x,C,dx,_,rfl,S2.ob,T.cl,T.nR,few (lp (lp pj)) (by decide),?_⟩;have S3:eF C dx x H _ (aA aEt rk (aA aEh mk (aA aEf nm []))):=S2.put;generalize ah (ah (ah H x (.ins C dx (aA aEf nm []))) x (.ins C dx (aA aEh mk (aA aEf nm [])))) x (.ins C dx (aA aEt rk (aA aEh mk (aA aEf nm []))))=H1 at S3 ⊢;refine⟨_,rfl,fa,rfl,⟨xs,S3.sqL hx jl⟩,fun D hD=>?_⟩;refine⟨fun i m σ H2=>m=xs.length - i/\i<=xs.length/\∃(u v:Option V) (ys:Lv),σ=[u,v]/\H2 D=some (.lst ys)/\ag H1 H2/\EV H H2 D ys fs i,⟨xs.length,by simp,dw _,none,none,[],rfl,aI,fL hD,rfl,fun i p ls hi=>absurd hi (N1 _)⟩,?_⟩;intro i m σ H2 eY;refine ba ?_;intro tT;obtain⟨rfl,hi,u,v,ys,rfl,AC,s2,fn⟩:=eY;have Ke:ae K H2 fa xs:=s2.seq (S3.sqL hx jl)
   by_cases aN:i<xs.length
   . refine .inr ⟨⟨xs,xs[i],Ke,by simp[aN]⟩,fun z H3 y=>?_⟩;obtain⟨e,y⟩:=y;subst e;have ez:=y xs Ke;have hif:i<fs.length:=by rw[←kS.len];exact aN
     obtain⟨⟨p,ls⟩,eI⟩:∃q,fs[i]?=some q:=⟨fs[i],by simp[hif]⟩;obtain⟨t,l,e1,e2,e3⟩:=kS.item i p ls eI;rw[ez]at e1;cases e1;have t2:=aeT s2 (S3.sqT hx e2);have l2:=s2.seq (S3.sqL hx e3);refine⟨t,_,rfl,t2,rfl,_,_,rfl,_,_,rfl,rfl,?_⟩;refine⟨_,rfl,_,rfl,l,_,rfl,.inl l2,fun l' qL=>⟨(by show 2<=sizeLine;decide),fun t' Kf=>?_⟩⟩;obtain⟨n1,n2⟩:=hX Kf;have dl:D≠l':=aL AC qL;have dt:D≠t':=aL AC n2;refine⟨ys,aB (aB AC dl) dt,bI (by rw[fn.len];omega),xs.length - (i+1),by omega,rfl,aN,_,_,ys++[.ref t'],rfl,aI,?_,⟨by rw[bh,fn.len];rfl,fun j p' yH hj bS=>?_⟩⟩
     . exact fw (fw (fw s2 (s2.free qL)) (s2.free n2)) hD
     . by_cases EY:j=i
       . subst EY;rw[eI]at bS;cases bS;refine⟨t',l',by rw[yt (by rw[fn.len];omega),fn.len];simp,S3.free _ (s2.free n2),S3.free _ (s2.free qL),dt.symm,dl.symm,aB aI dt.symm,aB (aB aI n1.symm) dl.symm⟩
       . have rp:j<i:=by omega
         obtain⟨t0,l0,g1,g2,g3,g4,g5,g6,g7⟩:=fn.item j p' yH rp bS;exact⟨t0,l0,by rw[GN (by rw[fn.len];exact rp)];exact g1,g2,g3,g4,g5,aB (aB (aB g6 (aL g6 qL)) (aL g6 n2)) g4,aB (aB (aB g7 (aL g7 qL)) (aL g7 n2)) g5⟩
   . have ei:i=xs.length:=by omega
     subst ei;refine .inl ⟨⟨xs,Ke,aJ _⟩,?_⟩;have S4:eF C dx x H H2 (aA aEt rk (aA aEh mk (aA aEf nm []))):=⟨fun b o e hb=>s2 b o (S3.same b o e hb),fun b e=>S3.free b (s2.free e),s2 _ _ S3.ob⟩;have EZ:D≠x:=aO AC S4.ob (by intro z;cases z);have hD0:H D=none:=S3.free _ hD;refine⟨_,rfl,x,C,dx,_,rfl,S4.ob,T.cl,T.nF,few (lp (lp (lp pj))) (by decide),?_⟩;have S5:eF C dx x H _ (aA aEk (.ref D) (aA aEt rk (aA aEh mk (aA aEf nm [])))):=S4.put;refine⟨_,rfl,na,_,rfl,.inl (S5.sqL hx hna),fun pn xf=>?_⟩;have S6:=S5.lay (o:=.lst ns) xf;have Kg:pn≠x:=(aL S5.ob xf).symm;refine⟨_,rfl,x,C,dx,_,rfl,S6.ob,T.cl,T.nE,few (lp (lp (lp (lp pj)))) (by decide),?_⟩;have S7:eF C dx x H _ (aA aEB (.ref pn) (aA aEk (.ref D) (aA aEt rk (aA aEh mk (aA aEf nm []))))):=S6.put;refine⟨_,rfl,sa,_,rfl,.inl (S7.sqL hx hsa),fun ps bp=>?_⟩;have S8:=S7.lay (o:=.lst ss) bp;have Sr:ps≠x:=(aL S7.ob bp).symm;refine⟨_,rfl,x,C,dx,_,rfl,S8.ob,T.cl,T.nS,few (lp (lp (lp (lp (lp pj))))) (by decide),?_⟩;have S9:eF C dx x H _ (aA aES (.ref ps) (aA aEB (.ref pn) (aA aEk (.ref D) (aA aEt rk (aA aEh mk (aA aEf nm [])))))):=S8.put;refine⟨_,rfl,oa,_,rfl,.inl (S9.sqL hx G2),fun po lX=>?_⟩;have Ss:=S9.lay (o:=.lst os) lX;have xpo:po≠x:=(aL S9.ob lX).symm;refine⟨_,rfl,x,C,dx,_,rfl,Ss.ob,T.cl,T.nO,few (lp (lp (lp (lp (lp (lp pj)))))) (by decide),?_⟩;have Su:eF C dx x H _ (uF nm mk rk D pn ps po):=Ss.put;have k5:∀b o,H2 b=some o->b≠x->(ah H2 x (.ins C dx (aA aEk (.ref D) (aA aEt rk (aA aEh mk (aA aEf nm [])))))) b=some o:=fun b o e hb=>aB e hb;have kp:=fun b o (e:H2 b=some o) (hb:b≠x)=>aB (p:=x) (o':=.ins C dx (aA aEB (.ref pn) (aA aEk (.ref D) (aA aEt rk (aA aEh mk (aA aEf nm [])))))) (aB (p:=pn) (o':=.lst ns) (k5 b o e hb) (aL (k5 b o e hb) xf)) hb;have kq:=fun b o (e:H2 b=some o) (hb:b≠x)=>aB (p:=x) (o':=.ins C dx (aA aES (.ref ps) (aA aEB (.ref pn) (aA aEk (.ref D) (aA aEt rk (aA aEh mk (aA aEf nm []))))))) (aB (p:=ps) (o':=.lst ss) (kp b o e hb) (aL (kp b o e hb) bp)) hb;have kr:=fun b o (e:H2 b=some o) (hb:b≠x)=>aB (p:=x) (o':=.ins C dx (uF nm mk rk D pn ps po)) (aB (p:=po) (o':=.lst os) (kq b o e hb) (aL (kq b o e hb) lX)) hb;have Sv:(ah (ah (ah H2 x (.ins C dx (aA aEk (.ref D) (aA aEt rk (aA aEh mk (aA aEf nm [])))))) pn (.lst ns)) x (.ins C dx (aA aEB (.ref pn) (aA aEk (.ref D) (aA aEt rk (aA aEh mk (aA aEf nm []))))))) pn=some (.lst ns):=aB aI Kg;have Sw:=aB (p:=x) (o':=.ins C dx (aA aES (.ref ps) (aA aEB (.ref pn) (aA aEk (.ref D) (aA aEt rk (aA aEh mk (aA aEf nm []))))))) (aB (p:=ps) (o':=.lst ss) Sv (aL Sv bp)) Kg;have pn3:=aB (p:=x) (o':=.ins C dx (uF nm mk rk D pn ps po)) (aB (p:=po) (o':=.lst os) Sw (aL Sw lX)) Kg;have Sx:=aB (p:=x) (o':=.ins C dx (aA aES (.ref ps) (aA aEB (.ref pn) (aA aEk (.ref D) (aA aEt rk (aA aEh mk (aA aEf nm []))))))) (aI (H:=ah (ah (ah H2 x (.ins C dx (aA aEk (.ref D) (aA aEt rk (aA aEh mk (aA aEf nm [])))))) pn (.lst ns)) x (.ins C dx (aA aEB (.ref pn) (aA aEk (.ref D) (aA aEt rk (aA aEh mk (aA aEf nm []))))))) (a:=ps) (o:=.lst ss)) Sr;have ps2:=aB (p:=x) (o':=.ins C dx (uF nm mk rk D pn ps po)) (aB (p:=po) (o':=.lst os) Sx (aL Sx lX)) Sr;refine k (uF nm mk rk D pn ps po) D pn ps po ys _ (anz nm mk rk D pn ps po) Su.ob hD0 (S5.free _ xf) (S7.free _ bp) (S9.free _ lX) (kr D _ AC EZ) ?_ pn3 ps2 (aB aI xpo) Su.same;rw[kS.len]at fn;exact anE fn fun b o e hb hn=>kr b o e fun z=>by rw[z,hx]at hn;cases hn
end
structure cM where
 nm:Str
 ms:List Int
 fs:List (Str×Ls)
 os:Ls
 rk:Int
abbrev aT:=List cM
def jm(H:Hp)(v:V)(f:Str×Ls):Prop:=∃t l,v=.ref t/\H t=some (.tup [.str f.1,.ref l])/\H l=some (.lst (f.2.map V.str))
def iM(C:Addr)(H:Hp)(v:V)(p:cM):Prop:=∃a dx fl rk m pf pn ps po xs,v=.ref a/\H a=some (.ins C dx fl)/\Kb fl (.str p.nm) (.ref m) rk pf pn ps po/\H m=some (.tup (p.ms.map V.int)) /\
 H pf=some (.lst xs)/\Paired (jm H) xs p.fs/\H po=some (.lst (p.os.map V.str))/\rk=.int p.rk/\H pn=some (.lst [])/\H ps=some (.lst [])
theorem jm.same{H H':Hp}{v:V}{f:Str×Ls}(s:ag H H')(h:jm H v f):jm H' v f:=by
 obtain⟨t,l,e,a,b⟩:=h;exact⟨t,l,e,s _ _ a,s _ _ b⟩
theorem iM.same{C:Addr}{H H':Hp}{v:V}{p:cM}(s:ag H H')(h:iM C H v p):iM C H' v p:=by
 obtain⟨a,dx,fl,rk,m,pf,pn,ps,po,xs,e,h1,h2,h3,h4,h5,h6⟩:=h;exact⟨a,dx,fl,rk,m,pf,pn,ps,po,xs,e,s _ _ h1,h2,s _ _ h3,s _ _ h4,aK h5 (fun _ _=>jm.same s),s _ _ h6.1,h6.2.1,s _ _ h6.2.2.1,s _ _ h6.2.2.2⟩
abbrev dR (C:Addr) (H:Hp):Lv->aT->Prop:=Paired (iM C H)
theorem dR.same{C:Addr}{H H':Hp}{vs:Lv}{ps:aT}(s:ag H H')(h:dR C H vs ps):dR C H' vs ps:=aK h fun _ _=>iM.same s
def pF(fs:List (Str×Ls)):List (V×Lv):=fs.map fun f=>(.str f.1,f.2.map V.str)
section
variable {P:Program}{w:World}{K:Fg}{mg:Mv}{base:Heap}
theorem anN{H:Hp}{xs:Lv}{fs:List (Str×Ls)}(h:Paired (jm H) xs fs):Sm K H xs (pF fs):=by
 refine⟨by rw[pF,am];exact bq h,fun i p ls e=>?_⟩;rw[pF,db]at e;cases hf:fs[i]? with
 | none=>rw[hf]at e;cases e
 | some f=>
  rw[hf]at e;cases e;obtain⟨x,hx,t,l,rfl,a,b⟩:=DJ h hf;exact⟨t,l,hx,aW.of a,ae.of b⟩
theorem anO{C:Addr}{H:Hp}{Q:VK}{E:XK}{nm:Str}{m fa na sa oa:Addr}{mk:List Int}{rk:Int}{xs:Lv}{os:Ls}{fs:List (Str×Ls)}(hm:H m=some (.tup (mk.map V.int)))(hf:H fa=some (.lst xs))(kS:Paired (jm H) xs fs)
 (hn:H na=some (.lst [])) (hs:H sa=some (.lst [])) (ho:H oa=some (.lst (os.map V.str))) (EX:fs.length<=1000) (q:∀x H',H x=none->ag H H'->(∀L,iH H L->iM C (msk L H') (.ref x) ⟨nm,mk,fs,os,rk⟩)->Q (.ref x) H') :
 ∀x dx,H x=none->H dx=none->dx≠x->EW K C (.ref x::([.str nm,.ref m,.int rk,.ref fa,.ref na,.ref sa,.ref oa]++[])) (ah (ah H dx (.own x)) x (.ins C dx [])) (fun v H2=>v=.non/\Q (.ref x) H2) E:=by
 intro x dx hx uD nx;have s1:ag H (ah (ah H dx (.own x)) x (.ins C dx [])):=fw (fL uD) hx;have fl_:pF fs=pF fs:=rfl;have Kh:(pF fs).length=fs.length:=by rw[pF,am]
 refine⟨x,dx,fa,na,sa,oa,.str nm,.ref m,.int rk,xs,[],[],os.map V.str,pF fs,rfl,aI,ae.of (s1 _ _ hf),?_,ae.of (s1 _ _ hn),ae.of (s1 _ _ hs),ae.of (s1 _ _ ho),by rw[Kh];exact EX,?_⟩
 . exact anN (aK kS fun _ _=>jm.same s1)
 intro fl pf pn ps po jD H' hF qM n1 n2 n3 n4 hpf vZ xf bp lX keep;have s2:ag H H':=fun b o e=>keep b o (s1 _ _ e) (aL e hx);have fr:∀b,(ah (ah H dx (.own x)) x (.ins C dx [])) b=none->H b=none:=fun b z=>s1.free z;refine⟨rfl,q x H' hx s2 fun L hL=>⟨x,dx,fl,.int rk,m,pf,pn,ps,po,jD,rfl,cg (hL.free hx) qM,hF,cg (hL.tup hm) (s2 _ _ hm),cg (hL.free (fr _ n1)) hpf,?_,cg (hL.free (fr _ n4)) lX,rfl,cg (hL.free (fr _ n2)) xf,cg (hL.free (fr _ n3)) bp⟩⟩;refine Rg (by rw[vZ.len,Kh]) fun i f hi=>?_;obtain⟨t,l,e1,e2,e3,e4,e5,e6,e7⟩:=vZ.item i (.str f.1) (f.2.map V.str) (by rw[Kh];exact(ci.mp hi).1) (by rw[pF,db,hi];rfl);exact⟨_,e1,t,l,rfl,cg (hL.free (fr _ e2)) e6,cg (hL.free (fr _ e3)) e7⟩
structure uH(K:Fg)(mg:Mv)(S fP:Addr):Prop where
 cl:jH K S
 nS:fH K S aFK
 mP:lJ K S aEa fP
 mgC:mg "Shelf"=some (.ref S)
def kU(p:cM):List NI:=[.inl (.inr p.nm),.inr (p.ms.map Sum.inl)]
theorem Ki{H:Hp}{b m:Addr}{nm:Str}{mk:List Int}(hb:H b=some (.tup [.str nm,.ref m]))(hm:H m=some (.tup (mk.map V.int))):ku H [.inl (.inr nm),.inr (mk.map Sum.inl)] b:=
 ⟨_,hb,.cons rfl (.cons ⟨m,rfl,by rw[hm,oA];rfl⟩ .nil)⟩
def Sy(kvs:List (List NI×V))(vs:Lv)(ps:aT)(i:Nat):Prop:=kvs.length<=i/\∀(j:Nat) (p:cM) (v:V),j<i->ps[j]?=some p->vs[j]?=some v->bg kvs (kU p)=some v
def iN(S:Addr)(H:Hp)(v:V)(vs:Lv)(ps:aT):Prop:=∃a dx fl d kvs,v=.ref a/\H a=some (.ins S dx fl)/\fl.lookup (aFK:Str)=some (.ref d)/\fl.lookup (aEa:Str)=none/\H d=some (.dT kvs)/\Sy kvs vs ps ps.length
theorem iN.same{S:Addr}{H H':Hp}{v:V}{vs:Lv}{ps:aT}(s:ag H H')(h:iN S H v vs ps):iN S H' v vs ps:=by
 obtain⟨a,dx,fl,d,kvs,e,h1,h2,h3,h4,h5⟩:=h;exact⟨a,dx,fl,d,kvs,e,s _ _ h1,h2,h3,s _ _ h4,h5⟩
def Kj(K:Fg)(C S:Addr):Sp:=fun vs H Q _=>∃(x dx a:Addr) (xs:Lv) (ps:aT),vs=[.ref x,.ref a]/\H x=some (.ins S dx [])/\H a=some (.lst xs)/\dR C H xs ps/\ps.length<=100/\(ps.map kU).Nodup /\
 ∀H',(∀b o,H b=some o->b≠x->H' b=some o)->iN S H' (.ref x) xs ps->Q .non H'
theorem Sz:aR [aD4,aD8,aEa] [aD4,aD8] (aE ut):=aZ
theorem anQ{f C S fP:Addr}{fd:Fy}(F:ak K "__init__" "Shelf.__init__" ut f fd)(T:Txt K mg C)(U:uH K mg S fP):aj P w K mg base al 1 f fd [aD4,aD8] (Kj K C S):=by
 refine F.okL Sz ?_
 . intro ay A outer s H vs Q E hr h xX dX;obtain⟨x,dx,a,xs,ps,rfl,hx,ha,bp,E2,rT,q⟩:=h;have hu:=hr.units;refine⟨_,(ao (hJ (pv 0) ahW rfl)
    (av (eA dY rfl (cy (pv 1)) (aY (i:=2) Sz.nd rfl (Or.inl rfl))
    (av (iZ hu (cW (pv 0) rfl) (eK (aa (cW (pv 2) rfl) (aa (cW (pv 2) rfl) ac))) (pv 2) rfl))))),?_⟩
   refine mR ?_;intro dD sS dP;refine fun d H1 n1 s1 e1=>?_;refine⟨_,rfl,x,S,dx,_,rfl,s1 _ _ hx,U.cl,U.nS,(by decide),?_⟩;have EZ:d≠x:=(aL hx n1).symm;have ax:a≠x:=aO ha hx (by intro z;cases z);have nl:=bq bp;refine⟨_,rfl,a,rfl,⟨_,ae.of (by rw[aV ax];exact s1 _ _ ha)⟩,?_⟩;refine gF (xs:=xs) (fun i σ H2=>∃u kvs,σ=[some (.ref x),some (.ref a),u]/\(∀b o,H b=some o->b≠x->H2 b=some o)/\H2 x=some (.ins S dx (aA aFK (.ref d) []))/\H2 d=some (.dT kvs)/\Sy kvs xs ps i)
    ⟨none,[],rfl,fun b o e hb=>by rw[aV hb];exact s1 _ _ e,aI,by rw[aV EZ];exact e1,aJ _,fun j p v hj=>absurd hj (N1 _)⟩ ?_ ?_ ?_
   . intro i σ H2 hi gg;refine ba ?_;intro tT;obtain⟨u,kvs,rfl,k2,_⟩:=gg;exact ae.of (k2 _ _ ha ax)
   . intro i v σ H2 hv gi;refine ba ?_;intro tT;obtain⟨u,kvs,rfl,k2,o9,hd2,hk⟩:=gi;obtain⟨p,hp,b,dy,fl,rk,m,pf,pn,jn,po,ys,rfl,h1,h2,h3,h4,h5,h6⟩:=eG bp hv;have bx:b≠x:=aO h1 hx (by intro z;injection z with _ _ z;subst z;have:=h2.name;cases this);have b2:=k2 _ _ h1 bx;have m2:=k2 _ _ h3 (aO h3 hx (by intro z;cases z));have hlk:(aA (aFK:Str) (V.ref d) []).lookup (aFK:Str)=some (.ref d):=by rw[cp,aq rfl]
     refine⟨_,rfl,_,rfl,x,S,dx,_,_,rfl,o9,U.cl,U.nS,hlk,_,rfl,b,C,dy,_,_,rfl,b2,T.cl,T.nN,h2.name,_,rfl,b,C,dy,_,_,rfl,b2,T.cl,T.nM,h2.make,(by show 2<=sizeLine;decide),fun t H3 n3 s3 e3=>?_⟩;have aN:=(ci.mp hv).1;refine⟨d,_,rfl,fK.t (s3 _ _ hd2) (Ki e3 (s3 _ _ m2)) (bI (by have:=hk.1;omega)),?_⟩;refine⟨_,_,rfl,fun c o e hc=>?_,?_,aI,?_,fun j p' v' hj bS yQ=>?_⟩
     . rw[aV (fun z=>by rw[z,n1]at e;cases e)];exact s3 _ _ (k2 _ _ e hc)
     . rw[aV EZ.symm];exact s3 _ _ o9
     . exact ce (y9 _ _ _) (Wu hk.1)
     . rw[CY]
       by_cases EY:j=i
       . subst EY;rw[hp]at bS;rw[hv]at yQ;cases bS;cases yQ;exact aq rfl
       . have rp:j<i:=by omega
         rw[ai]
         . exact hk.2 j p' v' rp bS yQ
         . intro z;have z:kU p'=kU p:=z;refine EY ((Ws (l:=ps.map kU) (i:=j) (j:=i) ?_ rT).mp ?_)
           . rw[am];have:=(ci.mp bS).1;omega
           . rw[db,db,hp,bS,vN,vN,z]
   . intro σ H2 pD;refine ba ?_;intro tT;obtain⟨u,kvs,rfl,k2,o9,hd2,hk⟩:=pD;rw[nl]at hk;exact q H2 k2 ⟨x,dx,_,d,kvs,rfl,o9,by rw[cp,aq rfl],by rw[cp,ai (by decide +kernel)];rfl,hd2,hk⟩
def SA(K:Fg)(S:Addr):Sp:=fun vs H Q _=>∃(sv v:V) (m:Addr) (xs:Lv) (ps:aT) (j:Nat) (p:cM),vs=[sv,.str p.nm,.ref m]/\iN S H sv xs ps/\ps[j]?=some p/\xs[j]?=some v/\H m=some (.tup (p.ms.map V.int))/\∀H',ag H H'->Q v H'
theorem anS:aR [aD4,aEf,aEh] [aD4,aEf,aEh] (aE py):=aZ
theorem anT{f S fP:Addr}{fd:Fy}(F:ak K aEa "Shelf.parcel" py f fd)(U:uH K mg S fP):aj P w K mg base al 1 f fd [aD4,aEf,aEh] (SA K S):=by
 refine F.okL anS ?_
 . intro ay A outer s H vs Q E hr h xX dX;obtain⟨sv,v,m,xs,ps,j,p,rfl,⟨a,dx,fl,d,kvs,rfl,h1,h2,h3,h4,h5⟩,hp,hv,hm,q⟩:=h;have hu:=hr.units;have SD:=h5.2 j p v (ci.mp hp).1 hp hv;refine⟨_,(ao (cJ (v8 (Ph hu (eK (aa (pv 1) (aa (pv 2) ac))) (cW (pv 0) rfl)) (by rfl))
    (av X8) dq)
    (av (aU (qZ hu (cW (pv 0) rfl) (eK (aa (pv 1) (aa (pv 2) ac))) (fun _ _=>rfl))))),?_⟩
   refine mR ?_;intro dD sS dP;refine⟨_,rfl,_,rfl,(by show 2<=sizeLine;decide),fun t H1 n1 s1 e1=>?_⟩;have g1:df H1 d (.ref t) (bg kvs (kU p)):=df.t (s1 _ _ h4) (Ki e1 (s1 _ _ hm));refine⟨_,rfl,a,S,dx,_,_,rfl,s1 _ _ h1,U.cl,U.nS,h2,d,_,rfl,g1,_,rfl,?_⟩;rw[SD];refine bw (fun h=>absurd h (by show ¬((!true)=true);decide)) (fun h=>?_);refine⟨_,rfl,a,S,dx,_,_,rfl,s1 _ _ h1,U.cl,U.nS,h2,_,rfl,_,rfl,(by show 2<=sizeLine;decide),fun t2 H2 n2 s2 e2=>?_⟩;have bT:=s1.trans s2;have g2:df H2 d (.ref t2) (bg kvs (kU p)):=df.t (bT _ _ h4) (Ki e2 (bT _ _ hm));rw[SD]at g2;exact⟨d,v,rfl,g2,q H2 bT⟩
end
open PySem.Spec PyProof.Rows
abbrev Tr:=List (Str×Ls)
section
variable {β:Type}
end
structure uI(done tr:Tr):Prop where
 nd:(tr.map (·.1)).Nodup
 sub:∀f∈tr,f∈done
 key:∀f∈done,f.1∈tr.map (·.1)
 len:tr.length<=done.length
theorem anU:uI [] []:=⟨kj,fun _ h=>h,(fun _ h=>nomatch h),aJ _⟩
theorem uI.step{done tr:Tr}(g:uI done tr)(x:Str)(ls:Ls):uI (done++[(x,ls)]) (bU tr x ls):=by
 refine⟨lZ g.nd,fun f hf=>?_,fun f hf=>?_,?_⟩
 . rcases rC hf with e | hf
   . rw[e];exact eS _ (bj.mpr rfl)
   . exact B9 _ (g.sub f hf)
 . rcases bK.mp hf with hf | hf
   . exact Jl (.inr (g.key f hf))
   . rw[bj.mp hf];exact Jl (.inl rfl)
 . have:=l8 tr x ls;have:=g.len;rw[bh,iW];omega
end K64
namespace K64
open PySem L2 PySem.Spec
section
variable {P:Program}{w:World}{K:Fg}{mg:Mv}{base:Heap}
def uJ(xs:Lv)(ps:aT)(v:V)(p:cM):Prop:=∃j:Nat,ps[j]?=some p/\xs[j]?=some v
def pG(xs:Lv)(ps:aT)(ch:Ch):Prop:=∀e∈ch,∃v p,uJ xs ps v p/\p.nm=e.1/\p.ms=e.2
def Kk(S:Addr):Sp:=fun vs H Q _=>∃(sv:V) (c:Addr) (xs:Lv) (ps:aT) (ch:Ch),vs=[sv,.ref c]/\iN S H sv xs ps/\di H c ch/\pG xs ps ch/\ch.length<64 /\
 ∀D H' iF gT,H D=none->ag H H'->H' D=some (.lst iF)->Paired (uJ xs ps) iF gT->(gT.map (·.nm)).Perm (ch.map (·.1))->(∀p∈gT,(p.nm,p.ms)∈ch)->Q (.ref D) H'
theorem anV:aR [aD7,aEb] [aD7,aEb] (aE zZ):=aZ
theorem SE{f S jR:Addr}{fd pH:Fy}(F:ak K aEM aEM zZ f fd)(B:bV mg)(U:uH K mg S jR)(pJ:ak K aEa "Shelf.parcel" py jR pH):aj P w K mg base al 2 f fd [aD7,aEb] (Kk S):=by
 have anW:aj P w K mg base al 1 jR pH [aD4,aEf,aEh] (SA K S):=anT pJ U;have anX:=pJ.binds3 (l:=[aD4,aEf,aEh]) (fun _ _ _ _ _ _ _ _ _=>rfl);refine F.okL anV ?_
 . intro ay A outer s H vs Q E hr h xX dX;obtain⟨sv,c,xs,ps,ch,rfl,hS,hC,hV,tZ,q⟩:=h;have hu:=hr.units;obtain⟨kvs,e1,e2⟩:=id hC;have hk:∀kv f,dA H kv f->kv.1=Sum.inr f.1:=fun kv f z=>z.1;have kl:=bq e2;refine⟨_,(av (aU (fM [aEf] [aD7,aEb] [0,1] dL rfl (cy (dC (Df rfl) (by rfl) B.sorted yG (aa (pv 1) ac))) (fun _ _ _ _=>(aY (i:=0) (show List.Nodup ([aEf,aD7,aEb]:Ls) by decide +kernel) rfl (Or.inl rfl))) (fun _ _ _ _=>ge) (fun _ _ _ _=>(qW (pv 1) U.cl U.mP anW hr anX .nil aD (aa (pv 0) (aa (qZ hu (pv 2) (pv 0) (fun _ _=>rfl)) ac))))))),?_⟩;refine⟨_,rfl,c,kvs,_,rfl,e1,wF hk e2,by omega,fun ys hp hs a H1 n1 s1 a1=>?_⟩;refine⟨a,rfl,⟨_,ae.of a1⟩,?_⟩;refine zf (σ0:=[none,some sv,some (.ref c)]) (ae.of a1) (fun σ=>∃v,σ=[v,some sv,some (.ref c)]) (fun i zs _=>∃gT,Paired (uJ xs ps) zs gT/\gT.map (·.nm)=ys.take i/\∀p∈gT,(p.nm,p.ms)∈ch) ⟨_,rfl⟩ (fun _ _=>⟨[],.nil,rfl,fun _ h=>nomatch h⟩) ?_ ?_
   . intro D i x zs σ H2 k hD hi eY hd h2 gg fA;refine ba ?_;intro tT;obtain⟨v,rfl⟩:=eY;obtain⟨gT,pr,pn,pc⟩:=gg;rw[db]at hi;cases hy:ys[i]? with
     | none=>rw[hy]at hi;cases hi
     | some y=>
      rw[hy]at hi;cases hi;have Kl:y∈ch.map (·.1):=hp.mem_iff.mp (dG hy);obtain⟨u,ms,g1,g2,_,m,rfl,g3⟩:=rE hk e2 Kl;obtain⟨v2,p,jc,en,em⟩:=hV _ g2;obtain⟨j,j1,j2⟩:=id jc;have en:p.nm=y:=en;have em:p.ms=ms:=em;subst en em;obtain⟨sa,dx,fl,d,kk,rfl,b1,b2,b3,b4,b5⟩:=hS.same (s1.trans h2);have bT:=s1.trans h2;refine⟨_,rfl,sa,dx,fl,rfl,b1,b3,_,rfl,_,rfl,_,rfl,c,_,rfl,(by rw[←g1];exact df.k (k:=.inr p.nm) (bT _ _ e1)),?_⟩;refine⟨_,v2,m,xs,ps,j,p,rfl,⟨sa,dx,fl,d,kk,rfl,b1,b2,b3,b4,b5⟩,j1,j2,bT _ _ g3,fun H3 s3=>?_⟩;have hl:zs.length<=64:=by
       have e:=fb List.length pn;rw[am,eh]at e;have:=bq pr;have:=hp.length_eq;rw[am]at this;omega
      refine fA _ _ _ ⟨_,rfl⟩ s3 (bI (by omega)) ⟨gT++[p],iI jc pr,?_,fun p' bS=>?_⟩
      . rw[cQ,pn,gC,hy];rfl
      . rcases bK.mp bS with z | z
        . exact pc p' z
        . rw[bj.mp z];exact g2
   . intro D zs H2 hD hd h2 gi;refine ba ?_;intro tT;obtain⟨gT,pr,pn,pc⟩:=gi;rw[am,eT]at pn;refine q D H2 zs gT (s1.free hD) (s1.trans h2) hd pr ?_ pc;rw[pn];exact hp
def dj(H H':Hp)(kv:aw×V)(f:Str×Ls):Prop:=kv.1=.inr f.1/\∃l,kv.2=.ref l/\H l=none/\H' l=some (.lst (f.2.map V.str))
theorem dj.same{H H1 H2:Hp}(s:ag H1 H2){kv:aw×V}{f:Str×Ls}(h:dj H H1 kv f):dj H H2 kv f:=h.elim fun a anY=>anY.elim fun l anZ=>anZ.elim fun b an8=>an8.elim fun c d=>⟨a,l,b,c,s _ _ d⟩
theorem dj.put{H H1:Hp}{d:Addr}{ks mz:List (aw×V)}(hd:H1 d=some (.dK ks)){kv:aw×V}{f:Str×Ls}(h:dj H H1 kv f):dj H (ah H1 d (.dK mz)) kv f:=h.elim fun a an9=>an9.elim fun l aoa=>aoa.elim fun b aob=>aob.elim fun c e=>⟨a,l,b,c,aB e (aO e hd (by intro z;cases z))⟩
def gU(ps:aT):Tr:=ps.flatMap (·.fs)
def SF(C:Addr):Sp:=fun vs H Q _=>∃(a:Addr) (xs:Lv) (ps:aT),vs=[.ref a]/\H a=some (.lst xs)/\dR C H xs ps/\(gU ps).length<=60 /\
 ∀d H' kvs tr,H d=none->ag H H'->H' d=some (.dK kvs)->Paired (dj H H') kvs tr->uI (gU ps) tr->Q (.ref d) H'
theorem AD:aR [aD8,aFh,aEa,aEg,aEp] [aD8] (aE Eh):=aZ
theorem SG{ps:aT}{i:Nat}{p:cM}(h:ps[i]?=some p):gU (ps.take (i+1))=gU (ps.take i)++p.fs:=by
 unfold gU;rw[gC,h,vT];simp
theorem aoc{ps:aT}{i:Nat}{p:cM}(h:ps[i]?=some p)(j:Nat):(gU (ps.take i)++p.fs.take j).length<=(gU ps).length:=by
 have e:gU ps=gU (ps.take (i+1))++gU (ps.drop (i+1)):=by
  unfold gU;rw[←vT,Wv]
 rw[e,SG h];simp only[bh,eh];omega
theorem aod{f C:Addr}{fd:Fy}(F:ak K aFk aFk Eh f fd)(B:bV mg)(T:Txt K mg C):aj P w K mg base al 1 f fd [aD8] (SF C):=by
 refine F.okL AD ?_
 . intro ay A outer s H vs Q E hr h xX dX;obtain⟨a,xs,ps,rfl,ha,bp,Rw,q⟩:=h;have hu:=hr.units;refine⟨_,(ao (aP (i:=1) AD.nd rfl (Or.inl rfl) lV)
    (ao (eA dY rfl (cy (pv 0)) (aY (i:=2) AD.nd rfl (Or.inl rfl))
    (av (eA dY rfl (cy (cW (pv 2) rfl)) (oI rfl (fG (aY (i:=3) AD.nd rfl (Or.inl rfl)) (fG (aY (i:=4) AD.nd rfl (Or.inl rfl)) mD)))
     (av (iZ hu (pv 1) (pv 3) (eB lO (by rfl) B.list jC (aa (pv 4) ac)) rfl)))))
    (av (aU (pv 1))))),?_⟩
   refine i9 ?_;intro dD sS fD dP;have hk:∀(H':Hp) kv f,dj H H' kv f->kv.1=Sum.inr f.1:=fun _ kv f z=>z.1;refine fun d H1 n1 s1 e1=>?_;refine⟨_,rfl,a,rfl,⟨_,ae.of (s1 _ _ ha)⟩,?_⟩;refine gF (xs:=xs) (fun i σ H2=>∃u v z kvs tr,σ=[some (.ref a),some (.ref d),u,v,z]/\ag H H2/\H2 d=some (.dK kvs)/\Paired (dj H H2) kvs tr/\uI (gU (ps.take i)) tr) ⟨none,none,none,[],[],rfl,s1,e1,.nil,anU⟩ ?_ ?_ ?_
   . intro i σ H2 hi pD;refine ba ?_;intro tT;obtain⟨u,v,z,kvs,tr,rfl,s2,_⟩:=pD;exact ae.of (s2 _ _ ha)
   . intro i x σ H2 hx uA;refine ba ?_;intro tT;obtain⟨u,v,z,kvs,tr,rfl,s2,hd,rV,g⟩:=uA;obtain⟨p,hp,b,dy,fl,rk,m,pf,pn,jn,po,ys,rfl,h1,h2,h3,h4,h5,h6⟩:=eG bp hx;refine⟨_,rfl,b,C,dy,_,_,rfl,s2 _ _ h1,T.cl,T.nF,h2.files,pf,rfl,⟨_,ae.of (s2 _ _ h4)⟩,?_⟩;refine gF (xs:=ys) (fun j σ H3=>∃v z kvs tr,σ=[some (.ref a),some (.ref d),some (.ref b),v,z]/\ag H H3/\H3 d=some (.dK kvs)/\Paired (dj H H3) kvs tr/\uI (gU (ps.take i)++p.fs.take j) tr) ⟨v,z,kvs,tr,rfl,s2,hd,rV,by rw[List.take_zero,lq];exact g⟩ ?_ ?_ ?_
     . intro j σ H3 hj uB;refine ba ?_;intro tT;obtain⟨v,z,kvs,tr,rfl,s3,_⟩:=uB;exact ae.of (s3 _ _ h4)
     . intro j y σ H3 hy Ak;refine ba ?_;intro tT;obtain⟨v,z,kvs,tr,rfl,s3,cO,E3,g3⟩:=Ak;obtain⟨⟨px,ls⟩,Km,t,l,rfl,t1,t2⟩:=eG h5 hy;refine⟨t,_,rfl,aW.of (s3 _ _ t1),rfl,_,_,rfl,_,_,rfl,rfl,?_⟩;refine⟨_,rfl,l,_,rfl,.inl (ae.of (s3 _ _ t2)),fun l' H4 n4 s4 e4=>?_⟩;have hlen:=aoc hp j;have aDi:=g3.len;have aoe:=bq E3;refine⟨_,rfl,_,rfl,d,_,rfl,fK.k (k:=.inr px) (s4 _ _ cO) (bI (by omega)),?_⟩;refine⟨_,_,_,bU tr px ls,rfl,fw (s3.trans s4) n1,aI,?_,?_⟩
       . refine aK (jL (F:=dj H H4) (hk H4) ⟨rfl,l',rfl,s3.free n4,e4⟩ (aK E3 fun _ _=>dj.same s4)) fun kv f=>dj.put (s4 _ _ cO)
       . rw[gC,Km];have:=g3.step px ls;rw[jB]at this;exact this
     . intro σ H3 Am;refine ba ?_;intro tT;obtain⟨v,z,kvs,tr,rfl,s3,cO,E3,g3⟩:=Am;refine⟨_,_,_,kvs,tr,rfl,s3,cO,E3,?_⟩;rw[SG hp];rw[bq h5,eT]at g3;exact g3
   . intro σ H2 JE;refine ba ?_;intro tT;obtain⟨u,v,z,kvs,tr,rfl,s2,hd,rV,g⟩:=JE;rw[bq bp,eT]at g;exact⟨_,rfl,q d H2 kvs tr n1 s2 hd rV g⟩
end
theorem SH{C:Addr}{H:Hp}{xs vs:Lv}{ps gT:aT}(h:dR C H xs ps)(r:Paired (uJ xs ps) vs gT):dR C H vs gT:=aK r fun v p aof=>aof.elim fun j aog=>aog.elim fun a b=>by
 obtain⟨x,hx,q⟩:=DJ h a;rw[b]at hx;cases hx;exact q
theorem SI{xs vs:Lv}{ps gT:aT}(r:Paired (uJ xs ps) vs gT):∀p∈gT,p∈ps:=by
 induction r with
 | nil=>exact fun _ h=>nomatch h
 | cons q t ih=>
  intro p hp
  rcases aX.mp hp with e | hp
  . obtain⟨j,a,b⟩:=q;rw[e];exact dG a
  . exact ih p hp
theorem aoh{ps:aT}{b:Nat}(h:∀p∈ps,p.fs.length<=b):(gU ps).length<=ps.length * b:=by
 induction ps with
 | nil=>exact dw _
 | cons p ps ih=>
  have e:gU (p::ps)=p.fs++gU ps:=vS;rw[e,bh,bO,V4];have:=ih fun q hq=>h q (bJ _ hq);have:=h p bB;omega
section
variable {P:Program}{w:World}{K:Fg}{mg:Mv}{base:Heap}
def cT(H:Hp)(kv:aw×V)(f:Str×Ls):Prop:=kv.1=.inr f.1/\∃l,kv.2=.ref l/\H l=some (.lst (f.2.map V.str))
theorem cT.same{H H':Hp}(s:ag H H'){kv:aw×V}{f:Str×Ls}(h:cT H kv f):cT H' kv f:=h.elim fun a aoi=>aoi.elim fun l aoj=>aoj.elim fun b c=>⟨a,l,b,s _ _ c⟩
def Kn(tr:Tr):Prop:=∀f∈tr,Ln f.1/\(∀x∈f.2,Ln x)/\f.2.length<=20
end
section
variable {g:TG}{tt:TT}{te:TE}{H1:Hp}{Q:Hp->Prop}
theorem rW{K:Fg}{a D:Addr}{xs:Lv}{σ0:St}(hD:H1 D=none)(hx:ae K H1 a xs)(S:St->Prop)(P:Nat->Lv->Hp->Prop)(s0:S σ0)(st:P 0 [] (ah H1 D (.lst [])))
 (turn:∀i x ys σ H (k:St->V->Hp->Prop) (k':St->Hp->Prop),xs[i]?=some x->S σ->H D=some (.lst ys)->ag H1 H->P i ys H ->
  (∀σ3 y H5,S σ3->ag H H5->ys.length<sizeLine->P (i+1) (ys++[y]) (ah H5 D (.lst (ys++[y])))->k σ3 y H5)->(∀σ3 H4,S σ3->ag H H4->P (i+1) ys H4->k' σ3 H4) ->
  g x σ H fun σ3 H3=>tt σ3 H3 fun ok H4=>if ok=true then te σ3 H4 (k σ3) else k' σ3 H4)
 (done:∀ys H,H D=some (.lst ys)->ag H1 H->P xs.length ys H->Q H) :
 ∃W:Nat->Nat->St->Hp->Prop,(∃m,W 0 m σ0 (ah H1 D (.lst [])))/\lL (mE K a) g tt te D (fun H'=>Q H') W:=by
 refine⟨fun i m σ H=>m=xs.length - i/\i<=xs.length/\S σ/\∃ys,H D=some (.lst ys)/\ag H1 H/\P i ys H,⟨xs.length,by simp,dw _,s0,[],aI,fL hD,st⟩,?_⟩;intro i m σ H eY;refine ba ?_;intro tT;obtain⟨rfl,hi,hS,ys,hd,hs,hp⟩:=eY;have q:ae K H a xs:=ag.seq hs hx
 by_cases aN:i<xs.length
 . refine .inr ⟨⟨xs,xs[i],q,by simp[aN]⟩,fun x H2 hy=>?_⟩;obtain⟨e1,e2⟩:=hy;subst e1;exact turn i x ys σ _ (fun σ3 y H5=>∃ys,H5 D=some (.lst ys)/\ys.length<sizeLine/\∃m',m'<xs.length - i/\(m'=xs.length - (i+1)/\i+1<=xs.length/\S σ3/\∃zs,ah H5 D (.lst (ys++[y])) D=some (.lst zs)/\ag H1 (ah H5 D (.lst (ys++[y])))/\P (i+1) zs (ah H5 D (.lst (ys++[y])))))
    (fun σ3 H4=>∃m',m'<xs.length - i/\(m'=xs.length - (i+1)/\i+1<=xs.length/\S σ3/\∃zs,H4 D=some (.lst zs)/\ag H1 H4/\P (i+1) zs H4)) (e2 xs q) hS hd hs hp
    (fun σ3 y H5 a1 a2 a3 a4=>⟨ys,a2 _ _ hd,a3,xs.length - (i+1),by omega,rfl,aN,a1,ys++[y],aI,fw (hs.trans a2) hD,a4⟩)
    (fun σ3 H4 a1 a2 a3=>⟨xs.length - (i+1),by omega,rfl,aN,a1,ys,a2 _ _ hd,hs.trans a2,a3⟩)
 . have e:i=xs.length:=by omega
   subst e;exact .inl ⟨⟨xs,q,aJ _⟩,done ys H hd hs hp⟩
theorem Ko{K:Fg}{a D:Addr}{xs:Lv}{σ0:St}(hD:H1 D=none)(hx:ae K H1 a xs)(S:St->Prop)(P:Nat->Lv->Hp->Prop)(s0:S σ0)(st:P 0 [] (ah H1 D (.lst [])))
 (turn:∀i x ys σ H (k:St->V->Hp->Prop),xs[i]?=some x->S σ->H D=some (.lst ys)->ag H1 H->P i ys H ->
  (∀σ3 y H5,S σ3->ag H H5->ys.length<sizeLine->P (i+1) (ys++[y]) (ah H5 D (.lst (ys++[y])))->k σ3 y H5)->g x σ H fun σ3 H3=>te σ3 H3 (k σ3))
 (done:∀ys H,H D=some (.lst ys)->ag H1 H->P xs.length ys H->Q H) :
 ∃W:Nat->Nat->St->Hp->Prop,(∃m,W 0 m σ0 (ah H1 D (.lst [])))/\lL (mE K a) g tQ te D (fun H'=>Q H') W:=
 rW hD hx S P s0 st (fun i x ys σ H k k' a1 a2 a3 a4 a5 a6 _=>turn i x ys σ H k a1 a2 a3 a4 a5 a6) done
end
abbrev dI (ms:List Int):PySem.W.Dat:=.tuple (ms.map PySem.W.Dat.int)
theorem aok{a b:List Int}:dI a=dI b↔a=b:=⟨fun h=>(List.map_inj_right fun x y z=>PySem.W.Dat.int.inj z).mp (PySem.W.Dat.tuple.inj h),fun h=>by rw[h]⟩
theorem E4(n:Nat)(ms:List Int):PySem.W.kqdOk (n+1) (dI ms)=true:=by
 simp only[dI,PySem.W.kqdOk,iq,cL];rintro d ⟨i,_,rfl⟩;simp[PySem.W.kqdOk]
theorem Kp{K:Fg}{H:Hp}{m:Addr}{ms:List Int}(h:H m=some (.tup (ms.map V.int))):DV K H (.ref m) (dI ms):=.tup (aW.of h) (Pu ms)
def pK(H:Hp)(v:V)(ms:List Int):Prop:=∃m,v=.ref m/\H m=some (.tup (ms.map V.int))
theorem pK.same{H H':Hp}(s:ag H H'){v:V}{ms:List Int}(h:pK H v ms):pK H' v ms:=h.elim fun m aol=>aol.elim fun a b=>⟨m,a,s _ _ b⟩
theorem SJ{K:Fg}{H:Hp}{vs:Lv}{fF:Ll}(h:Paired (pK H) vs fF):gm K H vs (fF.map dI):=by
 induction h with
 | nil=>exact .nil
 | cons r t ih=>
  obtain⟨m,rfl,e⟩:=r;exact .cons (Kp e) ih
theorem SK(n:Nat)(fF:Ll):PySem.W.kqdOk (n+2) (.list (fF.map dI))=true:=by
 rw[PySem.W.kqdOk,iq];intro d hd;obtain⟨ms,_,rfl⟩:=cL.mp hd;exact E4 n ms
theorem aom{ps:aT}{i:Nat}{p:cM}(h:ps[i]?=some p)(sel:cM->Bool):(ps.take (i+1)).filter sel=(ps.take i).filter sel++(if sel p=true then [p] else []):=by
 rw[gC,h,GY]
 congr 1
 show List.filter sel [p]=_;rw[qD];rfl
section
variable {P:Program}{w:World}{K:Fg}{mg:Mv}{base:Heap}
def SM(K:Fg)(C:Addr):Sp:=fun vs H Q _=>∃(a n:Addr) (cell:Int) (xs:Lv) (ps:aT) (ns:Ls),vs=[.ref a,.ref n,.int cell]/\H a=some (.lst xs)/\dR C H xs ps/\ps.length<=100/\H n=some (.lst (ns.map V.str))/\ns.length<=4 /\
 ∀c H' ch,H c=none->ag H H'->di H' c ch->pG xs ps ch->(ch.map (·.1)).Nodup->ch.length<=4->Q (.ref c) H'
theorem AE:aR [aEq,aEe,aD5,"_law_chosen_here",aEc,"_law_makes",aD6] [aEq,aEe,aD5] (aE Ey):=aZ
theorem aon{f C fU:Addr}{fd iK:Fy}(F:ak K aFa aFa Ey f fd)(B:bV mg)(T:Txt K mg C)(cG:ak K aEi aEi rL fU iK)(dQ:mg aEi=some (.ref fU)):aj P w K mg base al 2 f fd [aEq,aEe,aD5] (SM K C):=by
 have fm:aj P w K mg base al 1 fU iK [aD5,aEc] wV:=Aj cG;have fo:=cG.binds2 (l:=[aD5,aEc]) (fun _ _ _ _ _ _ _ _=>rfl);refine F.okL AE ?_
 . intro ay A outer s H vs Q E hr h xX dX;obtain⟨a,n,cell,xs,ps,ns,rfl,ha,bp,E2,hn,n4,q⟩:=h;have hu:=hr.units;have hk:∀(H':Hp) kv f,dA H' kv f->kv.1=Sum.inr f.1:=fun _ kv f z=>z.1;refine⟨_,(ao (aP (i:=3) AE.nd rfl (Or.inl rfl) lV)
    (ao (eA dY rfl (oK rfl B.range (aa (dC gc (by rfl) B.len fZ (aa (pv 1) ac)) ac)) (aY (i:=4) AE.nd rfl (Or.inr rfl))
    (ao (q9 (i:=5) [aEV] [aEe,aEc] [1,4] AE.nd rfl rfl dL rfl (cy (pv 0)) (fun _ _ _ _=>(aY (i:=0) (show List.Nodup ([aEV,aEe,aEc]:Ls) by decide +kernel) rfl (Or.inl rfl))) (fun _ _ _ _=>o4 (bM eV (ib K (pv 0) rfl) (bi (Ia K) (pv 1) (pv 2) (fun _ _=>rfl)) (bE _))) (fun _ _ _ _=>(ib K (pv 0) rfl)))
     (ao (aP (i:=6) AE.nd rfl (Or.inl rfl) (aG fm hr rfl dQ cG.kp fo .nil aD (aa (pv 2) (aa (aF dH ar (pv 4)) ac))))
     (av (cJ (PW.pt (qQ (bM (wo hu) (pv 5) (cX ac) (bE _)) (v9 (bM OP (aF cz (pv 6) ar) ar (bE _)))))
     (av (iZ hu (pv 3) (bi eL (pv 1) (pv 4) (fun _ _=>rfl)) (bi eL (pv 5) (aF cz (aF iA (pv 6) ar) (dC gc (by rfl) B.len fZ (aa (pv 5) ac))) (fun _ _=>rfl)) rfl)) dq)))))
    (av (aU (pv 3))))),?_⟩
   refine i9 ?_;intro dD sS fD dP;refine fun c H1 n1 s1 e1=>?_;refine⟨_,rfl,n,_,rfl,.inl (ae.of (s1 _ _ hn)),_,rfl,by omega,by rw[am];omega,?_⟩;refine wa (n:=(ns.map V.str).length) (fun i σ H2=>∃(u v z:Option V) (kvs:List (aw×V)) (ch:Ch),σ=[some (.ref a),some (.ref n),some (.int cell),some (.ref c),u,v,z]/\ag H H2/\H2 c=some (.dK kvs)/\Paired (dA H2) kvs ch/\pG xs ps ch/\(ch.map (·.1)).Nodup/\ch.length<=i) ⟨none,none,none,[],[],rfl,s1,e1,.nil,(fun _ h=>nomatch h),kj,aJ _⟩ ?_ ?_
   . intro i σ H2 hi gg;refine ba ?_;intro tT;obtain⟨u,v,z,kvs,ch,rfl,s2,hc,rV,hV,rT,rm⟩:=gg;rw[am]at hi;obtain⟨x,hx⟩:∃x,ns[i]?=some x:=⟨ns[i],by simp[hi]⟩;have mQ:bZ (ns.map V.str) (0+(i:Int))=some (V.str x):=by
      rw[Int.zero_add];exact yV (by rw[db,hx];rfl)
     . refine⟨_,rfl,a,rfl,⟨_,ae.of (s2 _ _ ha)⟩,?_⟩;intro D hD;refine rW (σ0:=[none,some (.ref n),some (.int (0+(i:Int)))]) hD (ae.of (s2 _ _ ha)) (fun σ=>∃v,σ=[v,some (.ref n),some (.int (0+(i:Int)))]) (fun j zs H3=>zs.length<=j/\∃fF,Paired (pK H) zs fF/\∀ms∈fF,∃v p,uJ xs ps v p/\p.nm=x/\p.ms=ms) ⟨_,rfl⟩ ⟨aJ _,[],.nil,fun _ h=>nomatch h⟩ ?_ ?_
       . intro j y zs σ H3 k k' hy gi hd h3 pD eW iO;refine ba ?_;intro tT;obtain⟨v,rfl⟩:=gi;obtain⟨zl,fF,pr,pm⟩:=pD;obtain⟨p,hp,b,dy,fl,rk,m,pf,pn,jn,po,ys,rfl,b1,b2,b3,b4,b5,b6⟩:=eG bp hy;have s3:=s2.trans h3;have aN:=(ci.mp hp).1;refine⟨_,rfl,b,C,dy,_,_,rfl,s3 _ _ b1,T.cl,T.nN,b2.name,_,rfl,_,rfl,n,_,_,_,rfl,rfl,ae.of (s3 _ _ hn),mQ,rfl,_,rfl,?_⟩;refine bw (fun h=>?_) (fun h=>?_)
         . have en:p.nm=x:=by
            have h:=cZ h;injection h
           refine⟨_,rfl,b,C,dy,_,_,rfl,s3 _ _ b1,T.cl,T.nM,b2.make,?_⟩;refine eW _ _ _ ⟨_,rfl⟩ (ag.refl _) (bI (by omega)) ⟨by rw[bh,iW];omega,fF++[p.ms],iI ⟨m,rfl,b3⟩ pr,fun ms hm=>?_⟩
           rcases bK.mp hm with z | z
           . exact pm ms z
           . exact⟨_,p,⟨j,hp,hy⟩,en,(bj.mp z).symm⟩
         . exact iO _ _ ⟨_,rfl⟩ (ag.refl _) ⟨by omega,fF,pr,pm⟩
       . intro zs H3 hd h3 uA;refine ba ?_;intro tT;obtain⟨zl,fF,pr,pm⟩:=uA;have s3:=s2.trans h3;have ll:=bq bp;have Kq:=h3 _ _ hc;have rX:=aK pr fun _ _=>pK.same s3;have SN:=aK rV fun _ _=>dA.same h3;refine⟨_,rfl,_,rfl,_,_,rfl,rfl,_,_,rfl,fun num=>?_⟩;refine⟨_,rfl,(by show 0<=sizeLine;decide),fun e H4 n4 s4 e4=>?_⟩;refine⟨.list (fF.map dI),.list [],.lst (ae.of (s4 _ _ hd)) (SJ (aK rX fun _ _=>pK.same s4)),.lst (ae.of e4) .nil,SK 7 _,SK 7 [],fun bb hb=>⟨_,rfl,?_⟩⟩;have keep:∀u v z,∃(u' v' z':Option V) (kvs:List (aw×V)) (ch:Ch),[some (V.ref a),some (V.ref n),some (V.int cell),some (V.ref c),u,v,z]=[some (V.ref a),some (.ref n),some (.int cell),some (.ref c),u',v',z']/\ag H H4/\H4 c=some (.dK kvs)/\Paired (dA H4) kvs ch/\pG xs ps ch/\(ch.map (·.1)).Nodup/\ch.length<=i+1:=
          fun u v z=>⟨u,v,z,kvs,ch,rfl,s3.trans s4,s4 _ _ Kq,aK SN fun _ _=>dA.same s4,hV,rT,by omega⟩
         refine bw (fun cq=>?_) (fun cq=>?_)
         . refine⟨_,rfl,_,_,rfl,rfl,(by show(0:Int)<4;decide),_,_,rfl,rfl,_,rfl,?_⟩;refine bw (fun hgt=>?_) (fun hgt=>keep _ _ _);have ri:0<zs.length:=by
            cases zs with
            | nil=>
             cases pr;have hb:bb=true:=hb.mpr rfl;rw[hb]at cq;cases cq
            | cons y ys=>simp
           obtain⟨y,hy,Kl⟩:=HN (xs:=zs) (r:=num / 4 % (zs.length:Int)) (yB _ (by omega)) (Cr _ (by omega));obtain⟨ms,Kr,m,rfl,em⟩:=eG rX Kl;obtain⟨v0,p0,jc,en,em2⟩:=pm ms (dG Kr);refine⟨_,rfl,_,rfl,_,_,rfl,rfl,⟨by omega,by omega⟩,_,rfl,D,_,rfl,.inl (ae.of (s4 _ _ hd)),_,_,rfl,rfl,(by show(0:Int)<(zs.length:Int);omega),D,_,_,_,rfl,rfl,ae.of (s4 _ _ hd),hy,?_⟩;refine⟨_,rfl,_,rfl,_,rfl,n,_,_,_,rfl,rfl,ae.of (s4 _ _ (s3 _ _ hn)),mQ,?_⟩;have pl:=bq rV;refine⟨c,_,rfl,fK.k (k:=.inr x) (s4 _ _ Kq) (bI (by omega)),?_⟩;refine⟨_,_,_,_,bU ch x ms,rfl,fw (s3.trans s4) n1,aI,?_,fun e he=>?_,lZ rT,ce (l8 ch x ms) (by omega)⟩
           . refine aK (jL (F:=dA H4) (hk H4) ⟨rfl,m,rfl,s4 _ _ em⟩ (aK SN fun _ _=>dA.same s4)) fun kv f z=>?_;obtain⟨z1,m',z2,z3⟩:=z;exact⟨z1,m',z2,aB z3 (aO z3 (s4 _ _ Kq) (by intro z;cases z))⟩
           . rcases rC he with e' | he
             . rw[e'];exact⟨v0,p0,jc,en,em2⟩
             . exact hV e he
         . exact gH (keep _ _ _)
   . intro σ H2 uB;refine ba ?_;intro tT;obtain⟨u,v,z,kvs,ch,rfl,s2,hc,rV,hV,rT,rm⟩:=uB;rw[am]at rm;exact⟨_,rfl,q c H2 ch n1 s2 ⟨kvs,hc,rV⟩ hV rT (by omega)⟩
end
def aoq:V->Lv->Hp->VK->Prop:=fun x vs H Q=>∃a kvs k y,x=.ref a/\vs=[kV k,y]/\H a=some (.dK kvs)/\kvs.length<sizeLine/\∀z uC H',bg uC k=some z->((uC=kvs)\/(bg kvs k=none/\z=y/\uC=cD kvs k y))->H' a=some (.dK uC)->(∀b o,H b=some o->b≠a->H' b=some o)->Q z H'
theorem aor{X:Cx}:mJ X "dict.setdefault" aoq:=by
 intro pins s σ H x xs v us Q I rx rs h;obtain⟨a,kvs,k,y,rfl,rfl,e,hl,q⟩:=h;refine agU pins s σ H _ _ v us Q I rx rs ⟨a,kvs,k,y,rfl,rfl,e,hl,fun z hz=>q z kvs H hz (.inl rfl) e fun _ _ e _=>e,fun hn=>q y _ _ ?_ (.inr ⟨hn,rfl,rfl⟩) aI fun b o e hb=>aB e hb⟩;rw[CY,aq rfl]
theorem AF(xs:Ls):(xs.map V.str).all oQ=true:=by
 rw[iq];intro v hv;obtain⟨z,_,rfl⟩:=cL.mp hv;rfl
theorem aos{z:Str}{xs:Ls}(h:z∈xs):mI (.str z) (xs.map V.str)=true:=by
 unfold mI;rw[yz];exact⟨_,cL.mpr ⟨z,h,rfl⟩,by simp[kH]⟩
theorem aot{α:Type}{xs:List α}{j:Nat}(h:j<xs.length):∃v,bZ xs (-1 - (0+(j:Int)))=some v:=by
 unfold bZ oP;rw[ai (by omega),aq (by omega),Option.bind_some];have:((-1 - (0+(j:Int))+(xs.length:Int)).toNat)<xs.length:=by omega
 exact⟨_,ir this⟩
theorem aou{L:List Addr}{H H':Hp}{p:Addr}(hp:H p=none)(s:ag H H'):ag (msk L H) (msk (p::L) H'):=fun b o e=>by
 unfold msk at e;split at e
 . cases e
 . rename_i hb;refine cg ?_ (s _ _ e);rw[aX,lC];exact⟨fun z=>(by rw[z,hp]at e;cases e),hb⟩
theorem aov{L:List Addr}{H H':Hp}(s:∀b o,H b=some o->b∉L->H' b=some o):ag (msk L H) (msk L H'):=fun b o e=>by
 unfold msk at e;split at e
 . cases e
 . exact cg ‹_› (s _ _ e ‹_›)
def aow(Q:Addr->Hp->Prop):VK:=fun v H=>match v with | .ref x=>Q x H | _=>False
theorem aox{K:Fg}{C:Addr}{H:Hp}{Q:Addr->Hp->Prop}{E:XK}{nm:Str}{m fa na sa oa:Addr}{mk:List Int}{rk:Int}{xs:Lv}{os:Ls}{fs:List (Str×Ls)}(hm:H m=some (.tup (mk.map V.int)))(hf:H fa=some (.lst xs))(kS:Paired (jm H) xs fs)
 (hn:H na=some (.lst [])) (hs:H sa=some (.lst [])) (ho:H oa=some (.lst (os.map V.str))) (EX:fs.length<=1000) (q:∀x H',H x=none->ag H H'->(∀L,iH H L->iM C (msk L H') (.ref x) ⟨nm,mk,fs,os,rk⟩)->Q x H') :
 ∀x dx,H x=none->H dx=none->dx≠x->EW K C (.ref x::([.str nm,.ref m,.int rk,.ref fa,.ref na,.ref sa,.ref oa]++[])) (ah (ah H dx (.own x)) x (.ins C dx [])) (fun v H2=>v=.non/\Q x H2) E:=
 anO (Q:=aow Q) hm hf kS hn hs ho EX q
theorem iJ.ln{x:Str}(h:iJ x):Ln x:=⟨wm.mpr fun c hc=>by have:=h.sg c hc;omega,h.hi⟩
theorem cr.ln{x:Str}(h:cr x):Ln x:=⟨wm.mpr fun c hc=>by have:=h.az c hc;omega,by have:=h.hi;omega⟩
theorem fC.len{x:Str}(h:fC x):x.length<=36:=by
 obtain⟨ps,rfl,h1,h2,h3⟩:=h;have:=JQ (sep:=pq) (b:=8) (fun p hp=>(h3 p hp).hi) (by decide +kernel);omega
theorem fC.ln{x:Str}(h:fC x):Ln x:=⟨wm.mpr fun c hc=>by have:=h.signs c hc;omega,by have:=h.len;omega⟩
structure uK(ns:Ls)(ps:aT)(uk:List (aw×V))(i:Nat):Prop where
 nd:(ps.map kU).Nodup
 ok:∀p∈ps,p.fs.length<=3/\Kn p.fs/\(p.fs.map (·.1)).Nodup
 used:∀p∈ps,∀x∈p.fs.map (·.1),bg uk (.inr x)=some (.str p.nm)
 txts:∀k v,bg uk k=some v->∃y,v=.str y
 len:ps.length<=i
 nms:∀p∈ps,p.nm∈ns
 offs:∀p∈ps,p.os.length<=2/\∀t∈p.os,t∈ns
 mks:∀p∈ps,fk p.ms
structure Apart(ns:Ls)(ps:aT):Prop where
 nd:(ps.map kU).Nodup
 ok:∀p∈ps,p.fs.length<=3/\Kn p.fs/\(p.fs.map (·.1)).Nodup
 one:∀p∈ps,∀p'∈ps,∀x,x∈p.fs.map (·.1)->x∈p'.fs.map (·.1)->p.nm=p'.nm
 len:ps.length<=6
 nms:∀p∈ps,p.nm∈ns
 offs:∀p∈ps,p.os.length<=2/\∀t∈p.os,t∈ns
 mks:∀p∈ps,fk p.ms
theorem uK.apart{ns:Ls}{ps:aT}{uk:List (aw×V)}(h:uK ns ps uk 6):Apart ns ps:=by
 refine⟨h.nd,h.ok,fun p hp p' bS x hx gE=>?_,h.len,h.nms,h.offs,h.mks⟩;have a:=h.used p hp x hx;have b:=h.used p' bS x gE;rw[a]at b;injection b with b
 injection b
structure SO(fs:Tr)(uk:List (aw×V))(nm:Str)(j:Nat):Prop where
 nd:(fs.map (·.1)).Nodup
 used:∀x∈fs.map (·.1),bg uk (.inr x)=some (.str nm)
 ok:Kn fs
 len:fs.length<=j
section
variable {P:Program}{w:World}{K:Fg}{mg:Mv}{base:Heap}
def SQ(K:Fg)(C:Addr):Sp:=fun vs H Q _=>∃(sc n:Addr) (is:List Int) (ns:Ls),vs=[.ref sc,.ref n,.int 3]/\ae K H sc (is.map V.int)/\H n=some (.lst (ns.map V.str))/\1<=ns.length/\ns.length<=4 /\
 ∀fa H' vs ps,H fa=none->ag H H'->H' fa=some (.lst vs)->dR C H' vs ps->Apart ns ps->Q (.ref fa) H'
theorem jS:aR [aEd,aEe,aFl,"_law_found","_law_used",aEc,aD5,aFI,"_law_files","_law_j","_law_path_here","_law_offers","_law_rank","_law_parcel","_law_mine"] [aEd,aEe,aFl] (aE wQ):=aZ
theorem aoy{f C uL fU rY rZ pL E5:Addr}{fd AG iK xg xh uM Ks:Fy}(F:ak K aEs aEs wQ f fd)(B:bV mg)(T:Txt K mg C)(M:Mk K C uL)(E6:ak K "__init__" "Parcel.__init__" rH uL AG)
 (cG:ak K aEi aEi rL fU iK) (dQ:mg aEi=some (.ref fU)) (kW:ak K aEA aEA Af rY xg) (r9:mg aEA=some (.ref rY))
 (nj:ak K aEO aEO Ah rZ xh) (xi:mg aEO=some (.ref rZ)) (nu:ak K aEL aEL Ag pL uM) (uN:mg aEL=some (.ref pL)) (uO:aj P w K mg base al 2 pL uM [aD6] EG)
 (AH:ak K aFw aFw Ex E5 Ks) (Kt:mg aFw=some (.ref E5)):aj P w K mg base al 3 f fd [aEd,aEe,aFl] (SQ K C):=by
 have aoz:aj P w K mg base al 1 uL AG [aD4,aEf,aEh,aEt,aEk,aEB,aES,aFf] (EW K C):=anF E6 T B.list;have aoA:=E6.binds8 (l:=[aD4,aEf,aEh,aEt,aEk,aEB,aES,aFf]) (fun _ _ _ _ _ _ _ _ _ _ _ _ _ _=>rfl);have fm:aj P w K mg base al 1 fU iK [aD5,aEc] wV:=Aj cG;have fo:=cG.binds2 (l:=[aD5,aEc]) (fun _ _ _ _ _ _ _ _=>rfl);have AI:aj P w K mg base al 1 rY xg [aEd,aEc] (JB K):=RJ kW B;have AJ:=kW.binds2 (l:=[aEd,aEc]) (fun _ _ _ _ _ _ _ _=>rfl);have Ku:aj P w K mg base al 1 rZ xh [aD6] JF:=RO nj;have Kv:=nj.binds1 (l:=[aD6]) (fun _ _ _ _ _ _ _=>rfl);have E7:=nu.binds1 (l:=[aD6]) (fun _ _ _ _ _ _ _=>rfl);have aoB:aj P w K mg base al 1 E5 Ks [aD6] RQ:=al0 AH;have aoC:=AH.binds1 (l:=[aD6]) (fun _ _ _ _ _ _ _=>rfl);refine F.okL jS ?_
 . intro ay A outer s H vs Q E hr h xX dX;obtain⟨sc,n,is,ns,rfl,hsc,hn,Kw,n4',q⟩:=h;have hu:=hr.units;have hu2:(A.deeper (PyProof.Rows.envOfC aEs (aE wQ) s.heap.objs.size f ay)).units+65<cLine:=by have:=hr.un;omega
   have dF:b9 1 (A.deeper (PyProof.Rows.envOfC aEs (aE wQ) s.heap.objs.size f ay)):=hr.mono (by decide);refine⟨_,(ao (aP (i:=3) jS.nd rfl (Or.inl rfl) (cX ac))
    (ao (aP (i:=4) jS.nd rfl (Or.inl rfl) lV)
    (ao (eA dY rfl (Hg rfl B.range (aa (pv 2) (aa (aF dH (pv 2) ar) ac))) (aY (i:=5) jS.nd rfl (Or.inl rfl))
    (ao (aP (i:=6) jS.nd rfl (Or.inl rfl) (aG AI dF rfl r9 kW.kp AJ .nil aD (aa (pv 0) (aa (pv 5) ac))))
     (ao (aP (i:=7) jS.nd rfl (Or.inr rfl) (bi eL (pv 1) (aF cz (aF dH (pv 6) (pv 5)) (dC gc (by rfl) B.len fZ (aa (pv 1) ac))) (fun _ _=>rfl)))
     (ao (aP (i:=8) jS.nd rfl (Or.inl rfl) (cX ac))
     (ao (eA dY rfl (oK rfl B.range (aa (aF cz (aG fm dF rfl dQ cG.kp fo .nil aD (aa (pv 6) (aa ar ac))) ar) ac)) (aY (i:=9) jS.nd rfl (Or.inl rfl))
     (ao (aP (i:=10) jS.nd rfl (Or.inl rfl) (aG Ku dF rfl xi nj.kp Kv .nil aD (aa (aG fm dF rfl dQ cG.kp fo .nil aD (aa (pv 6) (aa (aF dH ar (pv 9)) ac))) ac)))
      (av (cJ (PW.pt (qQ (bM eV (dr GR aCm PySem.F.type_dict_setdefault aor (pv 4) (aa (pv 10) (aa (pv 7) ac))) (pv 7) (bE _)) (v9 (bM ab4 (pv 10) (fM [aEV] [] [] dL rfl (cy (pv 8)) (fun _ _ _ _=>(aY (i:=0) (show List.Nodup ([aEV]:Ls) by decide +kernel) rfl (Or.inl rfl))) (fun _ _ _ _=>ge) (fun _ _ _ _=>(bi (agE K) (pv 0) ar (fun _ _=>rfl)))) (by rfl)))))
      (av (cI (dr gD vU vV oU (pv 8) (aa (eK (aa (pv 10) (aa (aG uO hr rfl uN nu.kp E7 .nil aD (aa (aG fm dF rfl dQ cG.kp fo .nil aD (aa (pv 6) (aa (aF dH ar (pv 9)) ac))) ac)) ac))) ac)))) dq))))
     (ao (q9 (i:=11) ["_law_j"] [aEe] [1] jS.nd rfl rfl dL rfl (oK rfl B.range (aa (dC (Zx rfl) (by rfl) B.min PyProof.Rows.boot_min (aa (dC gc (by rfl) B.len fZ (aa (pv 1) ac)) (aa (aF iA (aF cz (aG fm dF rfl dQ cG.kp fo .nil aD (aa (pv 6) (aa ar ac))) ar) ar) ac))) ac)) (fun _ _ _ _=>(aY (i:=0) (show List.Nodup (["_law_j",aEe]:Ls) by decide +kernel) rfl (Or.inl rfl))) (fun _ _ _ _=>ge) (fun _ _ _ _=>(bi (Ia K) (pv 1) (aF CP (qU qV ar) (pv 0)) (fun _ _=>rfl))))
     (ao (aP (i:=12) jS.nd rfl (Or.inl rfl) (bi eL (cX (aa (aF cz (aG fm dF rfl dQ cG.kp fo .nil aD (aa (pv 6) (aa ar ac))) ar) (aa (aF cz (pv 6) (aF Hq ar ar)) ac))) (aF cz (aG fm dF rfl dQ cG.kp fo .nil aD (aa (pv 6) (aa ar ac))) ar) (fun _ _=>rfl)))
     (ao (aP (i:=13) jS.nd rfl (Or.inl rfl) (yS M aoz hr rfl T.mgC aoA .nil aD (aa (pv 7) (aa (aG aoB dF rfl Kt AH.kp aoC .nil aD (aa (aG fm dF rfl dQ cG.kp fo .nil aD (aa (pv 6) (aa ar ac))) ac)) (aa (pv 12) (aa (pv 8) (aa (cX ac) (aa (cX ac) (aa (pv 11) ac)))))))))
     (ao (q9 (i:=14) [aEV] [aFI] [7] jS.nd rfl rfl dL rfl (cy (pv 3)) (fun _ _ _ _=>(aY (i:=0) (show List.Nodup ([aEV,aFI]:Ls) by decide +kernel) rfl (Or.inl rfl))) (fun _ _ _ _=>o4 (bM eV (ib K (pv 0) rfl) (pv 1) (bE _))) (fun _ _ _ _=>(ib K (pv 0) rfl)))
     (av (cJ (PW.pt (qQ (bM yN (dC gc (by rfl) B.len fZ (aa (pv 14) ac)) ar (bE _)) (v9 (bM (ahb hu2) (cW (pv 13) rfl) (pv 14) (by rfl)))))
     (av (cI (dr gD vU vV oU (pv 3) (aa (pv 13) ac)))) dq)))))))))))
    (av (aU (pv 3)))))),?_⟩
   refine rf ?_;intro dD sS m9 fD dP;refine⟨(by show 0<=sizeLine;decide),fun fa Ha na sa ea=>?_⟩;refine fun ua Hb nb sb eb=>?_;have fu:fa≠ua:=aL ea nb;have AK:H ua=none:=sa.free nb;refine⟨_,rfl,_,rfl,_,_,rfl,rfl,3,3+6,rfl,⟨by omega,by omega,by omega,by omega⟩,?_⟩;refine wa (lo:=3) (n:=6) (fun i σ H2=>∃(t5 t6 t7 t8 t9 ja sd se sf si:Option V) (vs:Lv) (ps:aT) (uk:List (aw×V)),σ=[some (.ref sc),some (.ref n),some (.int 3),some (.ref fa),some (.ref ua),t5,t6,t7,t8,t9,ja,sd,se,sf,si]/\ag H H2/\H2 fa=some (.lst vs)/\H2 ua=some (.dK uk)/\dR C (msk [fa,ua] H2) vs ps/\uK ns ps uk i/\uk.length<=3 * i)
    ⟨none,none,none,none,none,none,none,none,none,none,[],[],[],rfl,sa.trans sb,sb _ _ ea,eb,.nil,⟨kj,(fun _ h=>nomatch h),(fun _ h=>nomatch h),(fun _ _ h=>nomatch h),aJ _,(fun _ h=>nomatch h),(fun _ h=>nomatch h),(fun _ h=>nomatch h)⟩,aJ _⟩ ?_ ?_
   . intro i σ H2 hi eY;refine ba ?_;intro tT;obtain⟨t5,t6,t7,t8,t9,ja,sd,se,sf,si,vs,ps,uk,rfl,s2,jl,Kx,bp,inv,ul⟩:=eY;refine ais ?_;intros;refine⟨_,rfl,_,rfl,sc,_,is,rfl,by omega,s2.seq hsc,fun cell=>?_⟩;have ri:(0:Int)<((ns.map V.str).length:Int):=by rw[am];omega
     obtain⟨nm,hnm,aoG⟩:=zh (xs:=ns) (r:=(cell+(3+(i:Int))) % ((ns.map V.str).length:Int)) (yB _ (by omega)) (by have:=Cr (cell+(3+(i:Int))) ri;rw[am]at *;exact this);refine⟨_,rfl,_,rfl,_,rfl,_,_,rfl,rfl,_,rfl,n,_,rfl,.inl (ae.of (s2 _ _ hn)),_,_,rfl,rfl,ri,n,_,_,_,rfl,rfl,ae.of (s2 _ _ hn),hnm,?_⟩;refine⟨(by show 0<=sizeLine;decide),fun la H3 n3 s3 e3=>?_⟩;have lf:la≠fa:=(aL jl n3).symm;have lu:la≠ua:=(aL Kx n3).symm;refine⟨_,rfl,_,_,rfl,fun m1=>?_⟩;refine⟨_,_,rfl,rfl,(by show(0:Int)<4;decide),m1 % 4,rfl,by omega,by omega,?_⟩;refine wa (n:=(m1 % 4).toNat) (fun j σ H3=>∃(t9 ja:Option V) (pM:Lv) (fs:Tr) (uk:List (aw×V)),σ=[some (.ref sc),some (.ref n),some (.int 3),some (.ref fa),some (.ref ua),some (.int (3+(i:Int))),some (.int cell),some (.str nm),some (.ref la),t9,ja,sd,se,sf,si]/\ag H H3/\H3 fa=some (.lst vs)/\H3 ua=some (.dK uk)/\H3 la=some (.lst pM) /\
      dR C (msk [la,fa,ua] H3) vs ps/\Paired (jm (msk [la,fa,ua] H3)) pM fs/\uK ns ps uk i/\SO fs uk nm j/\uk.length<=3 * i+j)
      ⟨_,_,[],[],uk,rfl,s2.trans s3,s3 _ _ jl,s3 _ _ Kx,e3,bp.same (aou n3 s3),.nil,inv,⟨kj,(fun _ h=>nomatch h),(fun _ h=>nomatch h),aJ _⟩,ul⟩ ?_ ?_
     . intro j σ H4 hj gg;refine ba ?_;intro tT;obtain⟨Ky,Kz,pM,fs,xj,rfl,s4,uP,xk,KA,xn,E8,d6,jo,ul4⟩:=gg;refine mR ?_;intros;have j3:j<3:=by omega
       refine⟨_,rfl,_,rfl,_,_,rfl,rfl,_,_,rfl,fun m2=>?_⟩;refine⟨_,rfl,fun x H5 lx0 s5=>?_⟩;have lx:=lx0.ln;refine⟨_,rfl,.inr (.inr (.inl ⟨rfl,.inl ⟨_,s5 _ _ xk⟩⟩)),_,rfl,_,rfl,ua,xj,.inr x,.str nm,rfl,rfl,s5 _ _ xk,bI (by omega),fun z xp H6 hz KC KD k6=>?_⟩;have mono:∀key v,bg xj key=some v->bg xp key=some v:=by
        rcases KC with rfl | ⟨h1,_,rfl⟩
        . exact fun _ _ h=>h
        . intro key v hv;rw[CY];split
          . rename_i e;rw[e,h1]at hv;cases hv
          . exact hv
       have KG:xp.length<=3 * i+(j+1):=by
        rcases KC with rfl | ⟨_,_,rfl⟩
        . omega
        . have:=y9 xj (.inr x) (.str nm);omega
       have SR:∀k v,bg xp k=some v->∃y,v=.str y:=by
        rcases KC with rfl | ⟨_,_,rfl⟩
        . exact d6.txts
        . intro k v hv;rw[CY]at hv;split at hv
          . cases hv;exact⟨nm,rfl⟩
          . exact d6.txts k v hv
       obtain⟨z',rfl⟩:=SR _ _ hz;have SS:ag H H6:=fun b o e=>k6 _ _ (s5 _ _ (s4 _ _ e)) (fun z=>by rw[z,AK]at e;cases e);have KH:=k6 _ _ (s5 _ _ uP) fu;have xq:=k6 _ _ (s5 _ _ KA) lu;have zu:ag (msk [la,fa,ua] H4) (msk [la,fa,ua] H6):=(gr s5).trans (aov fun b o e hb=>k6 _ _ e (fun z=>hb (by rw[z];simp)));have E9:=aK E8 fun _ _=>jm.same zu;have SU:uK ns ps xp i:=⟨d6.nd,d6.ok,fun p hp y hy=>mono _ _ (d6.used p hp y hy),SR,d6.len,d6.nms,d6.offs,d6.mks⟩;have keep:∀(t9 ja:Option V) (H7:Hp),ag H6 H7->∃(Ky Kz:Option V) (pM:Lv) (fs:Tr) (uk:List (aw×V)),[some (V.ref sc),some (.ref n),some (.int 3),some (.ref fa),some (.ref ua),some (.int (3+(i:Int))),some (.int cell),some (.str nm),some (.ref la),t9,ja,sd,se,sf,si]=[some (V.ref sc),some (.ref n),some (.int 3),some (.ref fa),some (.ref ua),some (.int (3+(i:Int))),some (.int cell),some (.str nm),some (.ref la),Ky,Kz,sd,se,sf,si]/\ag H H7/\H7 fa=some (.lst vs)/\H7 ua=some (.dK uk)/\H7 la=some (.lst pM) /\
        dR C (msk [la,fa,ua] H7) vs ps/\Paired (jm (msk [la,fa,ua] H7)) pM fs/\uK ns ps uk i/\SO fs uk nm (j+1)/\uk.length<=3 * i+(j+1):=
        fun t9 ja H7 s7=>⟨t9,ja,pM,fs,xp,rfl,SS.trans s7,s7 _ _ KH,s7 _ _ KD,s7 _ _ xq,xn.same (zu.trans (gr s7)),aK E9 (fun _ _=>jm.same (gr s7)),SU,⟨jo.nd,fun y hy=>mono _ _ (jo.used y hy),jo.ok,Nat.le_succ_of_le jo.len⟩,KG⟩
       refine⟨_,rfl,rfl,_,rfl,bw (fun Fb=>?_) (fun Fb=>gH (keep _ _ H6 (ag.refl _)))⟩;have ez:z'=nm:=by
        have h:=cZ Fb;injection h
       subst ez;refine⟨_,rfl,_,rfl,la,rfl,⟨_,ae.of xq⟩,?_⟩;refine zf (σ0:=[none]) (ae.of xq) (fun σ=>∃v,σ=[v]) (fun i zs _=>zs=((fs.map (·.1)).take i).map V.str) ⟨_,rfl⟩ (fun _ _=>rfl) ?_ ?_
       . rintro D i' y zs σ H7 k hD hy ⟨v,rfl⟩ hd h7 rfl hk;obtain⟨⟨px,ls⟩,Km,t,l,rfl,t1,t2⟩:=eG E9 hy;have a0:bZ [V.str px,V.ref l] 0=some (V.str px):=rfl;refine⟨_,rfl,t,_,_,_,rfl,rfl,aW.of (h7 _ _ (bF _ _ t1)),a0,?_⟩;have cu:=jo.len;refine hk _ _ _ ⟨_,rfl⟩ (ag.refl _) (bI (by rw[am,eh,am];omega)) ?_;rw[gC,db,Km,cQ];rfl
       . rintro D zs H7 hD hd h7 rfl;have fl:=bq E9;rw[fl,←am (f:=(·.1)),eT]at hd;refine⟨D,_,rfl,.inl (ae.of hd),rfl,AF _,_,rfl,bw (fun Dm=>?_) (fun Dm=>keep _ _ H7 h7)⟩;have hnx:x∉fs.map (·.1):=fun hm=>by
          have h:(!mI (.str x) ((fs.map (·.1)).map V.str))=true:=Dm;rw[aos hm]at h;cases h
         refine⟨_,rfl,.inl ⟨rfl,_,ae.of (h7 _ _ xq)⟩,_,rfl,_,rfl,_,rfl,_,_,rfl,rfl,_,_,rfl,fun m3=>?_⟩;refine⟨_,rfl,fun l H8 ls n8 s8 e8 l4 aoK=>?_⟩;have SV:lQ ls:=⟨by omega,fun x hx=>(aoK x hx).ln⟩;refine⟨(by show 2<=sizeLine;decide),fun t H9 n9 s9 e9=>?_⟩;have xr:ag H6 H9:=h7.trans (s8.trans s9);have cu:=jo.len;have fvl:=bq E8;refine⟨la,_,_,rfl,rfl,xr _ _ xq,bI (by omega),?_⟩;have busy:∀Hx,ag H6 Hx->iH Hx [la,fa,ua]:=fun Hx sx b hb=>by
          simp only[aX,fe,ff]at hb
          rcases hb with rfl | rfl | rfl
          . exact⟨_,sx _ _ xq,by intro vs z;cases z⟩
          . exact⟨_,sx _ _ KH,by intro vs z;cases z⟩
          . exact⟨_,sx _ _ KD,by intro vs z;cases z⟩
         have DG:H la=none:=s2.free n3;refine⟨_,_,pM++[.ref t],fs++[(x,ls)],xp,rfl,fw (SS.trans xr) DG,aB (xr _ _ KH) lf.symm,aB (xr _ _ KD) lu.symm,aI,?_,?_,SU,⟨?_,?_,?_,?_⟩,KG⟩
         . rw[uo bB];exact xn.same (zu.trans (gr xr))
         . rw[uo bB];exact iI ⟨t,l,rfl,cg ((busy H8 (h7.trans s8)).free n9) e9,cg ((busy H7 h7).free n8) (s9 _ _ e8)⟩ (aK E9 fun _ _=>jm.same (gr xr))
         . rw[cQ,sY];refine⟨jo.nd,by simp,fun a ha b hb=>?_⟩;have hb:b=x:=bj.mp hb;rw[hb];exact fun e=>hnx (e▸ha)
         . intro y hy;rw[cQ]at hy
           rcases bK.mp hy with hy | hy
           . exact mono _ _ (jo.used y hy)
           . have hy:y=x:=bj.mp hy;rw[hy];exact hz
         . intro f' hf'
           rcases bK.mp hf' with h' | h'
           . exact jo.ok f' h'
           . rw[bj.mp h'];exact⟨lx,SV.all,SV.len⟩
         . rw[bh,iW];omega
     . intro σ H4 gi;refine ba ?_;intro tT;obtain⟨Ky,Kz,pM,fs,xj,rfl,s4,uP,xk,KA,xn,E8,d6,jo,ul4⟩:=gi;refine zt ?_;intros;have cu:fs.length<=3:=by have:=jo.len;omega
       refine⟨_,rfl,n,_,rfl,.inl (ae.of (s4 _ _ hn)),_,rfl,_,_,rfl,fun m4=>?_⟩;obtain⟨r,mX,r0,r4,r2⟩:∃r:Int,(if m4 % 6 / 2<((ns.map V.str).length:Int) then m4 % 6 / 2 else((ns.map V.str).length:Int))=r/\0<=r/\r<=ns.length/\r<=2:=by
        refine⟨_,rfl,?_⟩;rw[am];split<;>omega
       refine⟨_,_,rfl,rfl,(by show(0:Int)<6;decide),_,_,rfl,rfl,⟨by omega,by omega⟩,_,_,rfl,r,fb (fun z=>[V.int z]) mX,by omega,by omega,?_⟩;refine wq (σ0:=[none,some (.ref n)]) (fun σ=>∃v,σ=[v,some (.ref n)]) (fun i ys _=>∃ts:Ls,ys=ts.map V.str/\ts.length=i/\∀t∈ts,t∈ns) ⟨_,rfl⟩ (fun _ _=>⟨[],rfl,rfl,fun _ h=>nomatch h⟩) ?_ ?_
       . rintro D i' ys σ H5 k hD wB ⟨v,rfl⟩ hd h5 hl hk;obtain⟨ts,rfl,htl,htm⟩:=hl;obtain⟨y,hy⟩:=aot (xs:=ns.map V.str) (j:=i') (by rw[am];omega);obtain⟨y',km,rfl⟩:∃y',y'∈ns/\y=.str y':=by
          obtain⟨jj,_,hj,_⟩:=CW hy;obtain⟨y',m',e'⟩:=cL.mp (dG hj);exact⟨y',m',e'.symm⟩
         refine⟨_,rfl,_,rfl,_,rfl,_,_,rfl,rfl,n,_,_,_,rfl,rfl,ae.of (h5 _ _ (s4 _ _ hn)),hy,?_⟩;exact hk _ _ _ ⟨_,rfl⟩ (ag.refl _) (bI (by rw[am];omega)) ⟨ts++[y'],tV ts y',by rw[bh,htl];rfl,fun t ht=>(bK.mp ht).elim (htm t) fun z=>by rw[bj.mp z];exact km⟩
       . intro oa osV H5 hD hd h5 pD;refine ba ?_;intro tT;obtain⟨os,rfl,Dy,hom⟩:=pD;refine Qe ?_;intros;refine⟨_,rfl,_,_,rfl,fun m5=>?_⟩;refine⟨_,_,rfl,rfl,(by show(0:Int)<3;decide),_,rfl,_,_,rfl,rfl,⟨by decide,by decide,by decide⟩,_,_,rfl,rfl,(by show(0:Int)<10 ^ (9:Int).toNat;decide),(by show 2<=sizeLine;decide),fun q0 H6 n6 s6 e6=>?_⟩;refine⟨_,rfl,_,_,rfl,fun m6=>?_⟩;obtain⟨rk,hrk,_⟩:=Px (ns:=[m5 % 3,cell % 10 ^ (9:Int).toNat]) (r:=m6 % 2) (yB _ (by omega)) (by show m6 % 2<2;omega);refine⟨_,_,rfl,rfl,(by show(0:Int)<2;decide),q0,_,_,_,rfl,rfl,ae.of e6,hrk,?_⟩;refine⟨_,rfl,_,rfl,_,_,rfl,fun m7=>?_⟩;refine⟨_,rfl,fun m H7 ms n7 s7 e7 Dv=>?_⟩;refine⟨_,rfl,_,rfl,(by show 0<=sizeLine;decide),fun q1 H8 n8 s8 e8=>?_⟩;refine⟨(by show 0<=sizeLine;decide),fun q2 H9 n9 s9 e9=>?_⟩;have nv:ag H4 H9:=h5.trans (s6.trans (s7.trans (s8.trans s9)));refine⟨_,rfl,?_⟩;dsimp only[List.set,fh];refine aox (K:=K) (C:=C) (rk:=rk) (nm:=nm) (mk:=ms) (fs:=fs) (s9 _ _ (s8 _ _ e7)) (nv _ _ KA) (aK E8 fun _ _ z=>(z.same bF).same nv) (s9 _ _ e8) e9 (s9 _ _ (s8 _ _ (s7 _ _ (s6 _ _ hd)))) (by omega) fun x jp n10 Fc SW=>?_;have KI:=nv.trans Fc;have SX:=KI _ _ uP;have KJ:dR C jp vs ps:=(xn.same (gr KI)).same bF;refine⟨_,rfl,fa,rfl,⟨_,ae.of SX⟩,?_⟩;refine HW (σ0:=[none,some (.str nm)]) (ae.of SX) (fun σ=>∃v,σ=[v,some (.str nm)]) (fun j zs _=>zs.length<=j/\∃fF,Paired (pK jp) zs fF/\∀p∈ps.take j,p.nm=nm->p.ms∈fF) ⟨_,rfl⟩ (fun _ _=>⟨aJ _,[],.nil,fun _ h=>nomatch h⟩) ?_ ?_
         . intro D j y zs σ sj k k' hD hy uA KL uQ uB eW iO;refine ba ?_;intro tT;obtain⟨v,rfl⟩:=uA;obtain⟨zl,fF,pr,pm⟩:=uB
           skip
           obtain⟨p,hp,b,dy,fl,Fd,m',pf,pn,jn,po,ys,rfl,b1,b2,b3,b4,b5,b6⟩:=eG KJ hy;have aN:=(ci.mp hp).1;have il:=d6.len;refine⟨_,rfl,b,C,dy,_,_,rfl,uQ _ _ b1,T.cl,T.nN,b2.name,_,rfl,rfl,_,rfl,?_⟩;refine bw (fun h=>?_) (fun h=>?_)
           . refine⟨_,rfl,b,C,dy,_,_,rfl,uQ _ _ b1,T.cl,T.nM,b2.make,?_⟩;refine eW _ _ _ ⟨_,rfl⟩ (ag.refl _) (bI (by omega)) ⟨by rw[bh,iW];omega,fF++[p.ms],iI ⟨m',rfl,b3⟩ pr,fun p' bS e=>?_⟩;rw[gC,hp]at bS
             rcases bK.mp bS with z | z
             . exact B9 _ (pm p' z e)
             . have z:p'=p:=bj.mp z;rw[z];exact eS _ (bj.mpr rfl)
           . refine iO _ _ ⟨_,rfl⟩ (ag.refl _) ⟨by omega,fF,pr,fun p' bS e=>?_⟩;rw[gC,hp]at bS
             rcases bK.mp bS with z | z
             . exact pm p' z e
             . have z:p'=p:=bj.mp z;rw[z]at e;exact absurd (by rw[e];exact bG rfl) h
         . intro D zs sj hD KL uQ Ak;refine ba ?_;intro tT;obtain⟨zl,fF,pr,pm⟩:=Ak;refine mR ?_;intros;rw[bq KJ,eT]at pm;have pN:=KI.trans uQ;have il:=d6.len;have hvl:=bq KJ;have keep:∀(a5 a6 a7 a8 a9 KN KO KP KQ KR:Option V),∃(t5 t6 t7 t8 t9 ja sd se sf si:Option V) (vs:Lv) (ps:aT) (uk:List (aw×V)),[some (V.ref sc),some (.ref n),some (.int 3),some (.ref fa),some (.ref ua),a5,a6,a7,a8,a9,KN,KO,KP,KQ,KR]=[some (V.ref sc),some (.ref n),some (.int 3),some (.ref fa),some (.ref ua),t5,t6,t7,t8,t9,ja,sd,se,sf,si]/\ag H sj/\sj fa=some (.lst vs)/\sj ua=some (.dK uk)/\dR C (msk [fa,ua] sj) vs ps/\uK ns ps uk (i+1)/\uk.length<=3 * (i+1):=
            fun a5 a6 a7 a8 a9 KN KO KP KQ KR=>⟨a5,a6,a7,a8,a9,KN,KO,KP,KQ,KR,vs,ps,xj,rfl,s4.trans pN,pN _ _ uP,pN _ _ xk,xn.same ((gr pN).trans (Jj fun b hb=>bJ _ hb)),⟨d6.nd,d6.ok,d6.used,d6.txts,Nat.le_succ_of_le d6.len,d6.nms,d6.offs,d6.mks⟩,by omega⟩
           refine⟨_,rfl,D,_,rfl,.inl (ae.of KL),_,_,rfl,rfl,_,rfl,bw (fun _=>?_) (fun _=>gH (keep _ _ _ _ _ _ _ _ _ _))⟩;obtain⟨x',dx,fl,Fd,m',pf,pn,jn,po,ys,ex,b1,b2,b3,b4,b5,b6⟩:=(SW [] fun _ h=>nomatch h).same (bF.trans uQ);cases ex;refine⟨_,rfl,x,C,dx,_,_,rfl,b1,T.cl,T.nM,b2.make,_,rfl,?_⟩;refine⟨D,zs,dI ms,fF.map dI,rfl,ae.of KL,Kp b3,SJ (aK pr fun _ _=>pK.same uQ),E4 8 _,(fun e he=>?_),fun bb hb=>⟨_,rfl,bw (fun SY=>?_) (fun _=>keep _ _ _ _ _ _ _ _ _ _)⟩⟩
           . obtain⟨mW,_,rfl⟩:=cL.mp he;exact E4 8 _
           . have Kr:ms∉fF:=fun hm=>by
              have:bb=true:=hb.mpr (lE hm);rw[this]at SY;cases SY
             refine⟨_,rfl,.inl ⟨rfl,_,ae.of (pN _ _ uP)⟩,_,rfl,fa,_,_,rfl,rfl,pN _ _ uP,bI (by omega),?_⟩;refine⟨_,_,_,_,_,_,_,_,_,_,vs++[.ref x],ps++[⟨nm,ms,fs,os,rk⟩],xj,rfl,fw (s4.trans pN) na,aI,aB (pN _ _ xk) fu.symm,?_,⟨?_,?_,?_,d6.txts,?_,?_,?_,fun p hp=>(bK.mp hp).elim (d6.mks p) fun z=>by rw[bj.mp z];exact Dv⟩,by omega⟩
             . rw[uo bB];refine iI ((SW [fa,ua] fun b hb=>?_).same (gr uQ)) (xn.same ((gr pN).trans (Jj fun b hb=>bJ _ hb)));simp only[aX,fe,ff]at hb
               rcases hb with rfl | rfl
               . exact⟨_,nv _ _ uP,by intro vs z;cases z⟩
               . exact⟨_,nv _ _ xk,by intro vs z;cases z⟩
             . rw[cQ,sY];refine⟨d6.nd,by simp,fun a ha b hb=>?_⟩;have hb:b=kU ⟨nm,ms,fs,os,rk⟩:=bj.mp hb;rw[hb];intro e;obtain⟨p',bS,ep⟩:=cL.mp ha;rw[e]at ep;unfold kU at ep;injection ep with rj uR
               injection rj with rj
               injection rj with rj
               injection uR with uR _
               injection uR with uR
               have uR:p'.ms=ms:=(List.map_inj_right fun x y z=>Sum.inl.inj z).mp uR;exact Kr (uR▸pm p' bS rj)
             . intro p' bS
               rcases bK.mp bS with z | z
               . exact d6.ok p' z
               . rw[bj.mp z];exact⟨cu,jo.ok,jo.nd⟩
             . intro p' bS
               rcases bK.mp bS with z | z
               . exact d6.used p' z
               . rw[bj.mp z];exact jo.used
             . rw[bh,iW];omega
             . intro p' bS
               rcases bK.mp bS with z | z
               . exact d6.nms p' z
               . rw[bj.mp z];exact dG aoG
             . intro p' bS
               rcases bK.mp bS with z | z
               . exact d6.offs p' z
               . rw[bj.mp z];exact⟨by show os.length<=2;omega,hom⟩
   . intro σ H2 Am;refine ba ?_;intro tT;obtain⟨t5,t6,t7,t8,t9,ja,sd,se,sf,si,vs,ps,uk,rfl,s2,jl,Kx,bp,inv,ul⟩:=Am;exact⟨_,rfl,q fa H2 vs ps na s2 jl (bp.same bF) inv.apart⟩
end
open PyProof.Rows
open HT (At cf gP zH kin DC uh)
def kk(p:cM):List At:=[.inl (-p.rk),.inr p.nm]
theorem Ta(a b:cM):cf (kk a) (kk b)=true↔b.rk<a.rk\/(a.rk=b.rk/\a.nm.cps.toList<b.nm.cps.toList):=by
 unfold kk;rw[DC]
 by_cases h:(Sum.inl (-a.rk):At)=Sum.inl (-b.rk)
 . have h':a.rk=b.rk:=by injection h with h;omega
   rw[aq h,DC]
   by_cases n:(Sum.inr a.nm:At)=Sum.inr b.nm
   . rw[aq n];injection n with n
     constructor
     . intro z;cases z
     . rintro(z | ⟨_,z⟩)
       . omega
       . rw[n]at z;exact absurd z (Ww _)
   . rw[ai n];show decide (a.nm.cps.toList<b.nm.cps.toList)=true↔_;rw[Wx];constructor
     . exact fun z=>.inr ⟨h',z⟩
     . rintro(z | ⟨_,z⟩)
       . omega
       . exact z
 . rw[ai h];have h':a.rk≠b.rk:=fun z=>h (by rw[z]);show decide (-a.rk < -b.rk)=true↔_;rw[Wx];constructor
   . intro z;exact .inl (by omega)
   . rintro(z | ⟨z,_⟩)
     . omega
     . exact absurd z h'
theorem aoQ(a b:cM):gP (kk a) (kk b):=by
 unfold kk;rw[uh];split
 . rw[uh];split
   . exact True.intro
   . exact True.intro
 . exact True.intro
theorem aoR(a:cM):cf (kk a) (kk a)=false:=by
 cases z:cf (kk a) (kk a) with
 | false=>rfl
 | true=>
  rcases(Ta a a).mp z with h | ⟨_,h⟩
  . omega
  . exact absurd h (Ww _)
theorem aoS(a b c:cM)(h1:cf (kk a) (kk b)=true)(h2:cf (kk b) (kk c)=true):cf (kk a) (kk c)=true:=by
 rw[Ta]at *
 rcases h1 with h1 | ⟨e1,h1⟩
 . rcases h2 with h2 | ⟨e2,h2⟩
   . exact .inl (by omega)
   . exact .inl (by omega)
 . rcases h2 with h2 | ⟨e2,h2⟩
   . exact .inl (by omega)
   . exact .inr ⟨e1.trans e2,List.lt_trans h1 h2⟩
def aoT(off:aT)(p:cM):Prop:=p∈off/\∀q∈off,cf (kk q) (kk p)=false
def NB(off:aT)(Tb:Option Str)(r:Str):Prop:=(Tb=some r/\r∈off.map cM.nm)\/((∀x,Tb=some x->x∉off.map cM.nm)/\∃p,aoT off p/\r=p.nm)
structure xu(K:Fg)(x qual:Str)(st:Stmt)(f c:Addr)(fd:Fy):Prop where
 ex:∃(oc:Value) (od:Oa) (kV doc pm:Value) (an:Oa) (ct:Value) (iB:Array (Option Value)),fd=PySem.W.fnOf x qual (eD st) (dg st) (aE st) .none kV doc pm an (.ref c) ct /\
  K.lookup f=some ⟨oc,od,.func (PySem.W.fnOf x qual (eD st) (dg st) (aE st) .none kV doc pm an (.ref c) ct),iB⟩/\PySem.W.codeIn K (.ref c) qual=true
 kp:PySem.W.keepIn K (.ref f)=true
theorem xu.fn{K:Fg}{x qual:Str}{st:Stmt}{f c:Addr}{fd:Fy}(F:xu K x qual st f c fd):ak K x qual st f fd:=by
 obtain⟨⟨oc,od,kV,doc,pm,an,ct,iB,e,l,h⟩,k⟩:=F;subst e;exact⟨⟨oc,od,kV,doc,pm,an,.ref c,ct,iB,rfl,l,h⟩,k⟩
theorem xu.ok{P:Program}{w:World}{K:Fg}{mg:Mv}{base:Heap}{x qual:Str}{st:Stmt}{f c:Addr}{fd:Fy}{N ps:Ls}{k:Nat}{sp:Sp}(F:xu K x qual st f c fd)(S:aR N ps (aE st))(len:∀vs H Q E,sp vs H Q E->vs.length=ps.length)
 (oM:∀(A:Around) (outer:List Env) (s:Shared) (H:Hp) (vs:Lv) (Q:VK) (E:XK),b9 k (A.deeper (envOfC qual (aE st) s.heap.objs.size f (.ref c)))->sp vs H Q E ->
  ∃t,c8 (kF al P w K mg base N qual (aE st) f (.ref c) A outer s H E).nox (dg st) t/\t { nx:=fun _ H'=>Q .non H',rt:=Q } (start N vs) H):aj P w K mg base al (k+1) f fd ps sp:=by
 obtain⟨oc,od,kV,doc,pm,an,ct,iB,rfl,lk,g9⟩:=F.ex;refine Hy lk g9 S len fun A outer s H vs Q E hr kG=>?_;obtain⟨t,h,q⟩:=oM A outer s H vs Q E hr kG;exact⟨t,h.nox,q⟩
section
variable {P:Program}{w:World}{K:Fg}{mg:Mv}{base:Heap}
def Tc(C:Addr):Sp:=fun vs H Q _=>∃(a:Addr) (xs:Lv) (ps:aT),vs=[.ref a]/\H a=some (.lst xs)/\dR C H xs ps/\ps.length<=6/\(∀p∈ps,p.os.length<=2) /\
 ∀r H' (cs:Ls),H r=none->ag H H'->H' r=some (.lst (cs.map V.str))->cs.Nodup->(∀c,c∈cs↔∃p∈ps,c∈p.os)->cs.length<=12->Q (.ref r) H'
theorem KS:aR [aD8,"commons",aEa] [aD8] (aE Ej):=aZ
theorem aoU{f C:Addr}{fd:Fy}(F:ak K aFm aFm Ej f fd)(B:bV mg)(T:Txt K mg C):aj P w K mg base al 1 f fd [aD8] (Tc C):=by
 refine F.okL KS ?_
 . intro ay A outer s H vs Q E hr h xX dX;obtain⟨a,xs,ps,rfl,ha,bp,h6,IU,q⟩:=h;refine⟨_,(ao (aP (i:=1) KS.nd rfl (Or.inl rfl) (cX ac))
    (ao (eA dY rfl (cy (pv 0)) (aY (i:=2) KS.nd rfl (Or.inl rfl))
    (av (cI (dr gD qJ qK mK (pv 1) (aa (cW (pv 2) rfl) ac)))))
    (av (aU (dC (QL rfl) (by rfl) B.sorted yG (aa (eB (ajY rfl) (by rfl) B.set Wy (aa (pv 1) ac)) ac)))))),?_⟩
   refine i9 ?_;intro dD sS fD dP;refine⟨(by show 0<=sizeLine;decide),fun c H1 n1 s1 e1=>?_⟩;refine⟨_,rfl,a,rfl,⟨_,ae.of (s1 _ _ ha)⟩,?_⟩;refine gF (xs:=xs) (fun i σ H2=>∃u,σ=[some (.ref a),some (.ref c),u]/\ag H H2/\H2 c=some (.lst (((ps.take i).flatMap cM.os).map V.str))/\((ps.take i).flatMap cM.os).length<=2 * i) ⟨none,rfl,s1,e1,aJ _⟩ ?_ ?_ ?_
   . intro i σ H2 hi eY;refine ba ?_;intro tT;obtain⟨u,rfl,s2,_⟩:=eY;exact ae.of (s2 _ _ ha)
   . intro i x σ H2 hx gg;refine ba ?_;intro tT;obtain⟨u,rfl,s2,hc,hl⟩:=gg;obtain⟨p,hp,b,dy,fl,rk,m,pf,pn,jn,po,ys,rfl,h1,h2,h3,h4,h5,KU,_⟩:=eG bp hx;have hi:=(ci.mp hp).1;have ho:=IU p (dG hp);refine⟨_,rfl,.inl ⟨rfl,_,ae.of hc⟩,_,rfl,b,C,dy,_,_,rfl,s2 _ _ h1,T.cl,T.nO,h2.offers,c,po,_,_,rfl,rfl,hc,s2 _ _ KU,kM (by rw[am,am];omega),?_⟩;refine⟨_,rfl,fw s2 n1,?_,?_⟩
     . rw[aI,gC,hp,vT,cQ];simp
     . have e2:(List.flatMap cM.os (some p).toList)=p.os:=by simp
       rw[gC,hp,vT,bh,e2];omega
   . intro σ H2 gi;refine ba ?_;intro tT;obtain⟨u,rfl,s2,hc,hl⟩:=gi;rw[bq bp,eT]at hc hl;refine⟨_,rfl,c,_,rfl,ae.of hc,by omega,fun r zs H3 n3 s3 e3 nd mem=>?_⟩;have lz:=kO nd fun z hz=>(mem z).mp hz;refine⟨r,zs,rfl,e3,by omega,fun bP hp hs=>fun l H4 n4 s4 e4=>?_⟩;refine q l H4 bP (s2.free (s3.free n4)) (s2.trans (s3.trans s4)) e4 (hp.nodup_iff.mpr nd) (fun z=>?_) (by rw[hp.length_eq];omega);rw[hp.mem_iff,mem z,Od]
end
end K64
namespace K64
open PySem L2 PySem.Spec PyProof.Rows
open HT (At cf gP)
theorem AL{z:Str}{xs:Ls}:mI (.str z) (xs.map V.str)=true↔z∈xs:=by
 unfold mI;rw[yz];constructor
 . rintro⟨v,hv,e⟩;obtain⟨y,hy,rfl⟩:=cL.mp hv;have:y=z:=by simpa [kH]using e
   rw[←this];exact hy
 . intro h;exact⟨.str z,lE h,by simp[kH]⟩
theorem aoV{xs:Ls}:mI .non (xs.map V.str)=false:=by
 unfold mI;rw[List.any_eq_false];intro v hv;obtain⟨y,hy,rfl⟩:=cL.mp hv;simp[kH]
def AM(hk:List (aw×V))(c:Str):Option Str:=match bg hk (.inr c) with | some (.str y)=>some y | _=>none
def KW(hk:List (aw×V)):Prop:=∀k v,bg hk k=some v->∃y,v=.str y/\Ln y
theorem aoW{hk:List (aw×V)}(h:KW hk)(c:Str):((bg hk (.inr c)).getD .non=.non/\AM hk c=none)\/∃y,(bg hk (.inr c)).getD .non=.str y/\AM hk c=some y/\Ln y:=by
 unfold AM;cases e:bg hk (.inr c) with
 | none=>exact .inl ⟨rfl,rfl⟩
 | some v=>
  obtain⟨y,rfl,hy⟩:=h _ _ e;exact .inr ⟨y,rfl,rfl,hy⟩
def ij(c:Str)(ps:aT):aT:=ps.filter fun p=>decide (c∈p.os)
theorem Td{ps:aT}{i:Nat}{p:cM}(h:ps[i]?=some p)(c:Str):ij c (ps.take (i+1))=ij c (ps.take i)++(if c∈p.os then [p] else []):=by
 unfold ij;rw[aom h]
 by_cases z:c∈p.os
 . simp[z]
 . simp[z]
theorem Te{C:Addr}{H:Hp}:∀{vs:Lv}{ps:aT},dR C H vs ps->∃as:List Addr,vs=as.map V.ref
 | _,_,.nil=>⟨[],rfl⟩
 | _,_,.cons r t=>by
  obtain⟨a,_,_,_,_,_,_,_,_,_,rfl,_⟩:=r;obtain⟨as,rfl⟩:=Te t;exact⟨a::as,rfl⟩
def pz:cM:=⟨Str.empty,[],[],[],0⟩
theorem aH.at{H:Hp}{Pt:Addr}{lp:Pos}{qu:Str}(h:aH H Pt lp qu):∃φ,H Pt=some (.ext φ):=by
 rcases h with z | ⟨c',z,_⟩
 . exact⟨_,z⟩
 . exact⟨_,z⟩
theorem aH.ne{H:Hp}{Pt b:Addr}{lp:Pos}{qu:Str}(h:aH H Pt lp qu){o:HO}(e:H b=some o)(n:∀φ,o≠.ext φ):b≠Pt:=fun z=>by
 obtain⟨φ,w⟩:=aH.at h;rw[z,w]at e;cases e;exact n _ rfl
theorem aH.new{H:Hp}{Pt b:Addr}{lp:Pos}{qu:Str}(h:aH H Pt lp qu)(e:H b=none):b≠Pt:=fun z=>by
 obtain⟨φ,w⟩:=aH.at h;rw[z,w]at e;cases e
def cY:Pos:=match dg wL with
 | [_,_,_,.Return (some (.Attribute (.Call _ _ [⟨_,.Lambda _ _ _ p,_⟩] _) _ _)) _]=>p
 | _=>⟨0,0,0,0⟩
def cU:Str:="name_behind.<locals>.<lambda>"
section
variable {P:Program}{w:World}{K:Fg}{mg:Mv}{base:Heap}
def KY(C Pt:Addr):Sp:=fun vs H Q _=>∃(a h:Addr) (c:Str) (xs:Lv) (px:aT) (hk:List (aw×V)),vs=[.str c,.ref a,.ref h]/\H a=some (.lst xs)/\dR C H xs px/\px.length<=6/\(∃p∈px,c∈p.os)/\H h=some (.dK hk)/\KW hk/\(∀p∈px,Ln p.nm)/\aH H Pt cY cU /\
 ∀r H',lY Pt H H'->aH H' Pt cY cU->Ln r->NB (ij c px) (AM hk c) r->Q (.str r) H'
theorem KZ:aR [aEP,aD8,aEj,"offering","told"] [aEP,aD8,aEj] (aE wL):=aZ
theorem aoX{f C c Pt:Addr}{fd:Fy}(F:xu K aEY aEY wL f c fd)(B:bV mg)(T:Txt K mg C)(hd:PySem.W.codeHdIn K c Pt=true)(hb:base.BuiltinsAt mg Pt):aj P w K mg base al 3 f fd [aEP,aD8,aEj] (KY C Pt):=by
 refine F.ok KZ (fun vs H Q E h=>?_) (fun A outer s H vs Q E hr h=>?_)
 . obtain⟨a,h,cm,xs,px,hk,rfl,_⟩:=h;rfl
 . refine Qg ?_;intro xX dX;obtain⟨a,h,cm,xs,px,hk,rfl,ha,bp,h6,hex,hh,hok,hln,tab,q⟩:=h;have hu:=hr.units;have dF:b9 1 (A.deeper (envOfC aEY (aE wL) s.heap.objs.size f (.ref c))).in1:=hr.in1;refine⟨_,(ao (q9 (i:=3) [aEa] [aEP] [0] KZ.nd rfl rfl dL rfl (cy (pv 1)) (fun _ _ _ _=>(aY (i:=0) (show List.Nodup ([aEa,aEP]:Ls) by decide +kernel) rfl (Or.inl rfl))) (fun _ _ _ _=>o4 (bM (P1 K) (pv 1) (ib K (pv 0) rfl) (by rfl))) (fun _ _ _ _=>(pv 0)))
    (ao (aP (i:=4) KZ.nd rfl (Or.inl rfl) (HL hu (pv 2) (pv 0) ⟨rfl,rfl,rfl,rfl⟩))
    (Qc (cJ (bM O9 (pv 4) (fM [aEa] [] [] dL rfl (cy (pv 3)) (fun _ _ _ _=>(aY (i:=0) (show List.Nodup ([aEa]:Ls) by decide +kernel) rfl (Or.inl rfl))) (fun _ _ _ _=>ge) (fun _ _ _ _=>(ib K (pv 0) rfl))) (by rfl))
    (av (aU (pv 4))) dq)
    (av (aU (cW (akE (c:=c) (P:=Pt) (x:=aEa) (qual:=cU) (pv 3) ⟨rfl,rfl,rfl,by decide +kernel,rfl,by decide +kernel,by decide +kernel⟩ dF rfl rfl hd hb rfl B.min
     (fun _ _ _ _ _ _ _=>eK (aa (qU qV (ib K (pv 0) rfl)) (aa (ib K (pv 0) rfl) ac))) (fun _ _ _ _=>rfl)) rfl)))))),?_⟩
   refine i9 ?_;intro dD sS fD dP;refine⟨_,rfl,a,rfl,⟨_,ae.of ha⟩,?_⟩;intro D hD;refine rW (σ0:=[none,some (.str cm)]) hD (ae.of ha) (fun σ=>∃v,σ=[v,some (.str cm)]) (fun j zs H3=>zs.length<=j/\dR C H zs (ij cm (px.take j))) ⟨_,rfl⟩ ⟨aJ _,.nil⟩ ?_ ?_
   . rintro j y zs σ H3 k k' hy ⟨v,rfl⟩ cO h3 ⟨zl,zp⟩ eW iO;obtain⟨p,hp,hE⟩:=eG bp hy;obtain⟨b,dy,fl,rk,m,pf,pn,jn,po,ys,rfl,b1,b2,b3,b4,b5,b6,b7⟩:=id hE;have aN:=(ci.mp hp).1;refine⟨_,rfl,_,rfl,b,C,dy,_,_,rfl,h3 _ _ b1,T.cl,T.nO,b2.offers,po,_,rfl,.inl (ae.of (h3 _ _ b6)),rfl,AF _,_,rfl,?_⟩;refine bw (fun h=>?_) (fun h=>?_)
     . have jc:cm∈p.os:=AL.mp h;refine⟨_,rfl,eW _ _ _ ⟨_,rfl⟩ (ag.refl _) (bI (by omega)) ⟨by rw[bh,iW];omega,?_⟩⟩;rw[Td hp,aq jc];exact iI hE zp
     . have jc:cm∉p.os:=fun z=>h (AL.mpr z);refine iO _ _ ⟨_,rfl⟩ (ag.refl _) ⟨by omega,?_⟩;rw[Td hp,ai jc,lq];exact zp
   . rintro zs H3 cO h3 ⟨zl,zp⟩;rw[bq bp,eT]at zp;have zl6:zs.length<=6:=by have:=bq bp;omega
     have aDp:0<(ij cm px).length:=by
      obtain⟨p,hp,hc⟩:=hex;exact aCA (yn.mpr ⟨hp,bG hc⟩)
     have aoZ:∀p∈ij cm px,Ln p.nm:=fun p hp=>hln p (yn.mp hp).1;refine⟨_,rfl,h,rfl,.inl ⟨_,.inl (h3 _ _ hh)⟩,_,rfl,_,df.k (k:=.inr cm) (h3 _ _ hh),?_⟩;refine⟨fun σ5 H5=>(∃v,σ5=[some (.str cm),some (.ref a),some (.ref h),some (.ref D),some v])/\ag H3 H5/\∀x,AM hk cm=some x->x∉(ij cm px).map cM.nm,?_,?_⟩
     . rcases aoW hok cm with⟨e,et⟩ | ⟨y,e,et,hy⟩
       . rw[e];refine⟨_,rfl,_,rfl,D,rfl,⟨_,ae.of cO⟩,?_⟩;refine zf (σ0:=[none]) (ae.of cO) (fun σ=>∃v,σ=[v]) (fun j jT _=>jT=(((ij cm px).take j).map cM.nm).map V.str) ⟨_,rfl⟩ (fun _ _=>rfl) ?_ ?_
         . rintro D2 j y' jT σ H4 k me km ⟨v,rfl⟩ uS h4 rfl fA;obtain⟨p,hp,b,dy,fl,rk,m,pf,pn,jn,po,ys,rfl,b1,b2,b3,b4,b5,b6,b7⟩:=eG zp km;have aN:=(ci.mp km).1;refine⟨_,rfl,b,C,dy,_,_,rfl,h4 _ _ (h3 _ _ b1),T.cl,T.nN,b2.name,fA _ _ _ ⟨_,rfl⟩ (ag.refl _) (bI (by rw[am,am,eh];omega)) ?_⟩;rw[gC,hp,cQ,cQ];rfl
         . rintro D2 jT H4 me uS h4 rfl;rw[bq zp,eT]at uS;refine⟨D2,_,rfl,.inl (ae.of uS),rfl,AF _,_,rfl,?_⟩;refine bw (fun h=>?_) (fun _=>⟨⟨_,rfl⟩,h4,fun x z=>by rw[et]at z;cases z⟩);have h:mI .non (((ij cm px).map cM.nm).map V.str)=true:=h;rw[aoV]at h;cases h
       . rw[e];refine⟨_,rfl,_,rfl,D,rfl,⟨_,ae.of cO⟩,?_⟩;refine zf (σ0:=[none]) (ae.of cO) (fun σ=>∃v,σ=[v]) (fun j jT _=>jT=(((ij cm px).take j).map cM.nm).map V.str) ⟨_,rfl⟩ (fun _ _=>rfl) ?_ ?_
         . rintro D2 j y' jT σ H4 k me km ⟨v,rfl⟩ uS h4 rfl fA;obtain⟨p,hp,b,dy,fl,rk,m,pf,pn,jn,po,ys,rfl,b1,b2,b3,b4,b5,b6,b7⟩:=eG zp km;have aN:=(ci.mp km).1;refine⟨_,rfl,b,C,dy,_,_,rfl,h4 _ _ (h3 _ _ b1),T.cl,T.nN,b2.name,fA _ _ _ ⟨_,rfl⟩ (ag.refl _) (bI (by rw[am,am,eh];omega)) ?_⟩;rw[gC,hp,cQ,cQ];rfl
         . rintro D2 jT H4 me uS h4 rfl;rw[bq zp,eT]at uS;refine⟨D2,_,rfl,.inl (ae.of uS),rfl,AF _,_,rfl,?_⟩;have uT:=h3.trans h4;refine bw (fun h=>?_) (fun h=>⟨⟨_,rfl⟩,h4,fun x z=>by
            rw[et]at z;cases z;exact fun m=>h (AL.mpr m)⟩)
           exact⟨_,rfl,q y H4 (fun x o ex _=>uT _ _ ex) (tab.same uT) hy (.inl ⟨et,AL.mp h⟩)⟩
     . intro σ5 H5 eY;refine ba ?_;intro tT;obtain⟨⟨v,rfl⟩,s5,QZ⟩:=eY;obtain⟨as,K0⟩:=Te zp;have nw:ag H H5:=h3.trans s5;have zp5:=zp.same nw;have gw:aH H5 Pt cY cU:=tab.same nw;have ik:H5 D=some (.lst (as.map V.ref)):=by rw[←K0];exact s5 _ _ cO
       have hlen:=bq zp;rw[K0,am]at hlen;have at_:∀(i:Nat) (b:Addr),as[i]?=some b->∃p,(ij cm px)[i]?=some p/\iM C H5 (.ref b) p:=fun i b hi=>by
        have:zs[i]?=some (V.ref b):=by rw[K0,db,hi];rfl
        exact eG zp5 this
       have gd:∀(i:Nat) (p:cM),(ij cm px)[i]?=some p->(ij cm px).getD i pz=p:=fun i p hi=>by
        rw[List.getD_eq_getElem?_getD,hi];rfl
       refine⟨_,rfl,D,as,fun i=>kk ((ij cm px).getD i pz),rfl,aH.ne gw ik (by intro φ z;cases z),ik,by omega,fun i j=>aoQ _ _,fun i j l=>aoS _ _ _,fun i=>aoR _,gw,fun i b hi H2 kp=>?_,fun i b H' hi bst kp xv=>?_⟩
       . obtain⟨p,hp,hE⟩:=at_ i b hi;obtain⟨b',dy,fl,rk,m,pf,pn,jn,po,ys,eb,b1,b2,b3,b4,b5,b6,b7⟩:=hE;cases eb;have Fe:=kp _ _ b1 (aH.ne gw b1 (by intro φ z;cases z));have Tf:=b2.rank;rw[b7.1]at Tf;refine⟨_,rfl,b,C,dy,_,_,rfl,Fe,T.cl,T.nR,Tf,_,rfl,_,rfl,b,C,dy,_,_,rfl,Fe,T.cl,T.nN,b2.name,(by show 2<=sizeLine;decide),fun kt H3' n3 s3 e3=>⟨kt,rfl,s3,?_⟩⟩;rw[e3];dsimp only;rw[gd i p hp];rfl
       . obtain⟨p,hp,hE⟩:=at_ i b hi;obtain⟨b',dy,fl,rk,m,pf,pn,jn,po,ys,eb,b1,b2,b3,b4,b5,b6,b7⟩:=hE;cases eb;have Fe:=kp _ _ b1 (aH.ne gw b1 (by intro φ z;cases z));have pm:p∈ij cm px:=dG hp;refine⟨b,C,dy,_,_,rfl,Fe,T.cl,T.nN,b2.name,q p.nm H' (fun x o ex nx=>kp _ _ (nw _ _ ex) nx) xv (aoZ p pm) (.inr ⟨QZ,p,⟨pm,fun q' kE=>?_⟩,rfl⟩)⟩;obtain⟨j,hj⟩:=List.getElem?_of_mem kE;have:=bst j (by have:=(ci.mp hj).1;omega);dsimp only at this;rw[gd j q' hj,gd i p hp]at this;exact this
end
end K64
namespace K64
open PySem L2 PySem.Spec
theorem eZ{Hk:Hp}{a p:Addr}{o o':HO}(h:Hk a=some o)(n:a≠p):ah Hk p o' a=some o:=by rw[aV n];exact h
structure im(K:Fg)(mg:Mv)(C pO gW ny pP jq pQ gx:Addr):Prop where
 cl:jH K C
 nF:fH K C aEk
 nB:fH K C "book"
 nL:fH K C "left"
 mFNo:lJ K C "files_now" pO
 mBNo:lJ K C aFE gW
 mDPt:lJ K C "put" ny
 mDEr:lJ K C "erase" pP
 mDNt:lJ K C "note" jq
 mDAl:lJ K C "allow" pQ
 mDTk:lJ K C aFn gx
 mgC:mg "Disk"=some (.ref C)
def cu(d b:Addr)(v:V):List (Str×V):=[(aEk,.ref d),("book",.ref b),("left",v)]
theorem Tg(d b:Addr)(v v':V):aA "left" v' (cu d b v)=cu d b v':=rfl
theorem ao2(d b:Addr):aA "left" .non (aA "book" (.ref b) (aA aEk (.ref d) []))=cu d b .non:=rfl
theorem Ff(d b:Addr)(v:V):(cu d b v).lookup (aEk:Str)=some (.ref d):=rfl
theorem Th(d b:Addr)(v:V):(cu d b v).lookup ("book":Str)=some (.ref b):=rfl
theorem K1(d b:Addr)(v:V):(cu d b v).lookup ("left":Str)=some v:=rfl
def lv:Option Int->V
 | none=>.non
 | some n=>.int n
def fV:Option Int->Option (Option Int)
 | none=>some none
 | some n=>if 1<=n then some (some (n - 1)) else none
theorem K2{n:Int}(h:n<1):fV (some n)=none:=ai (by omega)
theorem xw{n:Int}(h:¬n<1):fV (some n)=some (some (n - 1)):=aq (by omega)
section
variable {P:Program}{w:World}{K:Fg}{mg:Mv}{base:Heap}
def AN(C Fa:Addr):Sp:=fun vs H Q E=>∃(x dx d b:Addr) (lf:Option Int),vs=[.ref x]/\H x=some (.ins C dx (cu d b (lv lf))) /\
 (∀lf',fV lf=some lf'->∀H',H' x=some (.ins C dx (cu d b (lv lf')))->(∀p o,H p=some o->p≠x->H' p=some o)->(∀p,H' p=none->H p=none)->Q .non H')/\(fV lf=none->E (.ref Fa) none H)
theorem ao3:aR [aD4] [aD4] (aE pC):=aZ
theorem ao4{f C Fa f1 f2 f3 f4 f5 f6:Addr}{fd:Fy}(F:ak K aFn "Disk.take_write" pC f fd)(T:im K mg C f1 f2 f3 f4 f5 f6 f)(xc:Dl K Fa)(mF:mg "Fallen"=some (.ref Fa)):aj P w K mg base (cE P w) 1 f fd [aD4] (AN C Fa):=by
 refine F.okR ao3 (fun vs H Q E h=>?_) (fun ay A outer s H vs Q E hr h=>?_)
 . obtain⟨x,dx,d,b,lf,rfl,_⟩:=h;rfl
 . obtain⟨x,dx,d,b,lf,rfl,hx,q1,q2⟩:=h;refine⟨_,(ao (cJ (bM Zg (cW (pv 0) rfl) oG (bE _))
    (av OB) dq)
    (ao (cJ (bM yN (cW (pv 0) rfl) ar (bE _))
    (av (aiy xc mF bH)) dq)
    (av (hJ (pv 0) (aF CP (cW (pv 0) rfl) ar) rfl)))),?_⟩
   refine⟨_,rfl,x,C,dx,_,_,rfl,hx,T.cl,T.nL,K1 _ _ _,rfl,_,rfl,?_⟩;cases lf with
   | none=>
    refine gJ ?_;exact q1 none rfl H hx (fun _ _ e _=>e) fun _ e=>e
   | some n=>
    refine gH ?_;refine⟨_,rfl,x,C,dx,_,_,rfl,hx,T.cl,T.nL,K1 _ _ _,_,_,rfl,rfl,_,rfl,?_⟩;refine bw (fun h=>?_) (fun h=>?_)
    . have h:=cZ h;exact⟨aJ 1,q2 (K2 h)⟩
    . have h':¬n<1:=fun z=>h (bG z);refine⟨_,rfl,x,C,dx,_,_,rfl,hx,T.cl,T.nL,K1 _ _ _,_,_,rfl,rfl,_,rfl,x,C,dx,_,rfl,hx,T.cl,T.nL,by show 3<1000;decide,?_⟩;rw[Tg];exact q1 (some (n - 1)) (xw h') _ aI (fun p o e hp=>eZ e hp) fun p e=>(hX e).2
def K3(C:Addr):Sp:=fun vs H Q _=>∃(x dx:Addr),vs=[.ref x]/\H x=some (.ins C dx []) /\
 ∀d b H',H d=none->H b=none->H' x=some (.ins C dx (cu d b .non))->H' d=some (.dK [])->H' b=some (.lst [])->(∀p o,H p=some o->p≠x->H' p=some o)->Q .non H'
theorem ao5:aR [aD4] [aD4] (aE uu):=aZ
theorem ao6{f C f1 f2 f3 f4 f5 f6 f7:Addr}{fd:Fy}(F:ak K "__init__" "Disk.__init__" uu f fd)(T:im K mg C f1 f2 f3 f4 f5 f6 f7):aj P w K mg base al 1 f fd [aD4] (K3 C):=by
 refine F.ok ao5 (fun vs H Q E h=>?_) (fun ay A outer s H vs Q E hr h=>?_)
 . obtain⟨x,dx,rfl,_⟩:=h;rfl
 . obtain⟨x,dx,rfl,hx,q⟩:=h;refine⟨_,(ao (hJ (pv 0) lV rfl)
    (ao (hJ (pv 0) (cX ac) rfl)
    (av (hJ (pv 0) oG rfl)))),?_⟩
   refine fun d H1 n1 s1 e1=>?_;have iP:d≠x:=(aL hx n1).symm;refine⟨_,rfl,x,C,dx,_,rfl,s1 _ _ hx,T.cl,T.nF,by show 0<1000;decide,?_⟩;refine⟨(by show 0<=sizeLine;decide),fun b H2 n2 s2 e2=>?_⟩;have Ti:=hX n2;have h2:=s2 _ _ (aI (H:=H1) (a:=x) (o:=.ins C dx (aA aEk (.ref d) [])));have d2:=s2 _ _ (eZ (p:=x) (o':=.ins C dx (aA aEk (.ref d) [])) e1 iP);have bx:b≠x:=Ti.1;have bd:d≠b:=aO d2 e2 (by intro z;cases z);refine⟨_,rfl,x,C,dx,_,rfl,h2,T.cl,T.nB,by show 1<1000;decide,?_⟩;refine⟨_,rfl,x,C,dx,_,rfl,aI,T.cl,T.nL,by show 2<1000;decide,?_⟩;rw[ao2];refine q d b _ n1 (s1.free Ti.2) aI (eZ (eZ d2 iP) iP) (eZ (eZ e2 bx) bx) fun p o e hp=>eZ (eZ (s2 _ _ (eZ (s1 _ _ e) hp)) hp) hp
def K4(K:Fg)(C Fa:Addr):Sp:=fun vs H Q E=>∃(x dx d b l:Addr) (lf:Option Int) (p:Str) (kd:List (aw×V)) (ys:Lv),vs=[.ref x,.str p,.ref l]/\H x=some (.ins C dx (cu d b (lv lf)))/\H d=some (.dK kd)/\H l=some (.lst ys)/\kd.length<=500 /\
 (∀lf',fV lf=some lf'->∀q H',H q=none->H' x=some (.ins C dx (cu d b (lv lf')))->H' d=some (.dK (cD kd (.inr p) (.ref q)))->H' q=some (.lst ys)->(∀p o,H p=some o->p≠x->p≠d->H' p=some o)->(∀p,H' p=none->H p=none)->Q .non H')/\(fV lf=none->E (.ref Fa) none H)
theorem ao7:aR [aD4,aEg,aEp] [aD4,aEg,aEp] (aE uw):=aZ
theorem ao8{f C Fa f1 f2 f4 f5 f6 gx:Addr}{fd kX:Fy}(F:ak K "put" "Disk.put" uw f fd)(T:im K mg C f1 f2 f f4 f5 f6 gx)(B:bV mg)(nz:ak K aFn "Disk.take_write" pC gx kX)(pR:aj P w K mg base (cE P w) 1 gx kX [aD4] (AN C Fa)) :
 aj P w K mg base (cE P w) 2 f fd [aD4,aEg,aEp] (K4 K C Fa):=by
 have AO:=nz.binds1 (l:=[aD4]) (fun _ _ _ _ _ _ _=>rfl);refine F.okR ao7 (fun vs H Q E h=>?_) (fun ay A outer s H vs Q E hr h=>?_)
 . obtain⟨x,dx,d,b,l,lf,p,kd,ys,rfl,_⟩:=h;rfl
 . obtain⟨x,dx,d,b,l,lf,p,kd,ys,rfl,hx,hd,hl,pT,q1,q2⟩:=h;have hu:=hr.units;refine⟨_,(ao (cI (tL (pv 0) T.cl T.mDTk pR hr AO .nil kN))
    (av (iZ hu (cW (pv 0) rfl) (pv 1) (eB lO (by rfl) B.list jC (aa (pv 2) ac)) rfl))),?_⟩
   have iP:d≠x:=aO hd hx (by intro z;cases z);have lx:l≠x:=aO hl hx (by intro z;cases z);refine⟨_,rfl,x,dx,_,rfl,hx,rfl,x,dx,d,b,lf,rfl,hx,fun lf' e H1 h1 k1 f1=>?_,q2⟩;refine⟨_,rfl,l,_,rfl,.inl (ae.of (k1 _ _ hl lx)),fun q H2 n2 s2 e2=>?_⟩;have o9:=s2 _ _ h1;have hd2:=s2 _ _ (k1 _ _ hd iP);refine⟨_,rfl,x,C,dx,_,_,rfl,o9,T.cl,T.nF,Ff _ _ _,_,rfl,d,_,rfl,fK.k (k:=.inr p) hd2 (bI (by omega)),?_⟩;exact q1 lf' e q _ (f1 _ n2) (eZ o9 iP.symm) aI (eZ e2 (aO e2 hd2 (by intro z;cases z))) (fun p o e hp K6=>eZ (s2 _ _ (k1 _ _ e hp)) K6) fun p e=>f1 _ (s2.free (hX e).2)
def Tj(C Fa:Addr):Sp:=fun vs H Q E=>∃(x dx d b:Addr) (lf:Option Int) (p:Str) (kd:List (aw×V)),vs=[.ref x,.str p]/\H x=some (.ins C dx (cu d b (lv lf)))/\H d=some (.dK kd) /\
 (∀lf',fV lf=some lf'->∀H',H' x=some (.ins C dx (cu d b (lv lf')))->H' d=some (.dK (if (bg kd (.inr p)).isSome=true then qX kd (.inr p) else kd))->(∀p o,H p=some o->p≠x->p≠d->H' p=some o)->(∀p,H' p=none->H p=none)->Q .non H')/\(fV lf=none->E (.ref Fa) none H)
theorem ao9:aR [aD4,aEg] [aD4,aEg] (aE ux):=aZ
theorem apa{f C Fa f1 f2 f3 f5 f6 gx:Addr}{fd kX:Fy}(F:ak K "erase" "Disk.erase" ux f fd)(T:im K mg C f1 f2 f3 f f5 f6 gx)(nz:ak K aFn "Disk.take_write" pC gx kX)(pR:aj P w K mg base (cE P w) 1 gx kX [aD4] (AN C Fa)) :
 aj P w K mg base (cE P w) 2 f fd [aD4,aEg] (Tj C Fa):=by
 have AO:=nz.binds1 (l:=[aD4]) (fun _ _ _ _ _ _ _=>rfl);refine F.okR ao9 (fun vs H Q E h=>?_) (fun ay A outer s H vs Q E hr h=>?_)
 . obtain⟨x,dx,d,b,lf,p,kd,rfl,_⟩:=h;rfl
 . obtain⟨x,dx,d,b,lf,p,kd,rfl,hx,hd,q1,q2⟩:=h;have hu:=hr.units;refine⟨_,(ao (cI (tL (pv 0) T.cl T.mDTk pR hr AO .nil kN))
    (av (cJ (v8 (CZ hu (pv 1) (cW (pv 0) rfl)) (by rfl))
    (av (cI (Pq (cW (pv 0) rfl) (pv 1) ⟨rfl,rfl,rfl,rfl⟩))) dq))),?_⟩
   have iP:d≠x:=aO hd hx (by intro z;cases z);refine⟨_,rfl,x,dx,_,rfl,hx,rfl,x,dx,d,b,lf,rfl,hx,fun lf' e H1 h1 k1 f1=>?_,q2⟩;have Fh:=k1 _ _ hd iP;refine⟨_,rfl,_,rfl,x,C,dx,_,_,rfl,h1,T.cl,T.nF,Ff _ _ _,d,_,rfl,df.k (k:=.inr p) Fh,_,rfl,?_⟩;cases hv:bg kd (.inr p) with
   | none=>
    refine gH ?_;exact q1 lf' e H1 h1 (by rw[hv];exact Fh) (fun p o e hp _=>k1 _ _ e hp) f1
   | some v=>
    refine gJ ?_;refine⟨_,rfl,x,C,dx,_,_,rfl,h1,T.cl,T.nF,Ff _ _ _,d,rfl,.inl ⟨_,.inl Fh⟩,_,rfl,kd,.inr p,v,Fh,rfl,hv,?_⟩;exact q1 lf' e _ (eZ h1 iP.symm) (by rw[hv];exact aI) (fun p o e hp K6=>eZ (k1 _ _ e hp) K6) fun p e=>f1 _ (hX e).2
def Tk(C Fa:Addr):Sp:=fun vs H Q E=>∃(x dx d b:Addr) (lf:Option Int) (y z:Str) (ts:Lv),vs=[.ref x,.str y,.str z]/\H x=some (.ins C dx (cu d b (lv lf)))/\H b=some (.lst ts)/\ts.length<=500 /\
 (∀lf',fV lf=some lf'->∀t H',H t=none->H' x=some (.ins C dx (cu d b (lv lf')))->H' b=some (.lst (ts++[.ref t]))->H' t=some (.tup [.str y,.str z])->(∀p o,H p=some o->p≠x->p≠b->H' p=some o)->(∀p,H' p=none->H p=none)->Q .non H')/\(fV lf=none->E (.ref Fa) none H)
theorem apb:aR [aD4,aE1,aEl] [aD4,aE1,aEl] (aE rJ):=aZ
theorem apc{f C Fa f1 f2 f3 f4 f6 gx:Addr}{fd kX:Fy}(F:ak K "note" "Disk.note" rJ f fd)(T:im K mg C f1 f2 f3 f4 f f6 gx)(nz:ak K aFn "Disk.take_write" pC gx kX)(pR:aj P w K mg base (cE P w) 1 gx kX [aD4] (AN C Fa)) :
 aj P w K mg base (cE P w) 2 f fd [aD4,aE1,aEl] (Tk C Fa):=by
 have AO:=nz.binds1 (l:=[aD4]) (fun _ _ _ _ _ _ _=>rfl);refine F.okR apb (fun vs H Q E h=>?_) (fun ay A outer s H vs Q E hr h=>?_)
 . obtain⟨x,dx,d,b,lf,y,z,ts,rfl,_⟩:=h;rfl
 . obtain⟨x,dx,d,b,lf,y,z,ts,rfl,hx,hb,pT,q1,q2⟩:=h;refine⟨_,(ao (cI (tL (pv 0) T.cl T.mDTk pR hr AO .nil kN))
    (av (cI (dr gD vU vV oU (cW (pv 0) rfl) (aa (eK (aa (pv 1) (aa (pv 2) ac))) ac))))),?_⟩
   have bx:b≠x:=aO hb hx (by intro z;cases z);refine⟨_,rfl,x,dx,_,rfl,hx,rfl,x,dx,d,b,lf,rfl,hx,fun lf' e H1 h1 k1 f1=>?_,q2⟩;have sk:=k1 _ _ hb bx;refine⟨_,rfl,x,C,dx,_,_,rfl,h1,T.cl,T.nB,Th _ _ _,.inl ⟨rfl,_,ae.of sk⟩,_,rfl,_,rfl,(by show 2<=sizeLine;decide),fun t H2 n2 s2 e2=>?_⟩;have fO:=s2 _ _ sk;refine⟨b,_,_,rfl,rfl,fO,bI (by omega),?_⟩;exact q1 lf' e t _ (f1 _ n2) (eZ (s2 _ _ h1) bx.symm) aI (eZ e2 (aO e2 fO (by intro z;cases z))) (fun p o e hp hpb=>eZ (s2 _ _ (k1 _ _ e hp)) hpb) fun p e=>f1 _ (s2.free (hX e).2)
def Tl(C:Addr):Sp:=fun vs H Q _=>∃(x dx d b:Addr) (v v':V),vs=[.ref x,v']/\H x=some (.ins C dx (cu d b v))/\Q .non (ah H x (.ins C dx (cu d b v')))
theorem ape:aR [aD4,"many"] [aD4,"many"] (aE uy):=aZ
theorem apf{f C f1 f2 f3 f4 f5 f7:Addr}{fd:Fy}(F:ak K "allow" "Disk.allow" uy f fd)(T:im K mg C f1 f2 f3 f4 f5 f f7):aj P w K mg base al 1 f fd [aD4,"many"] (Tl C):=by
 refine F.ok ape (fun vs H Q E h=>?_) (fun ay A outer s H vs Q E hr h=>?_)
 . obtain⟨x,dx,d,b,v,v',rfl,_⟩:=h;rfl
 . obtain⟨x,dx,d,b,v,v',rfl,hx,q⟩:=h;refine⟨_,(av (hJ (pv 0) (pv 1) rfl)),?_⟩;refine⟨_,rfl,_,rfl,x,C,dx,_,rfl,hx,T.cl,T.nL,by show 3<1000;decide,?_⟩;rw[Tg];exact q
end
section
variable {β:Type}
end
def mf{β:Type}(fs:List (Str×β))(p:Str):List (Str×β):=fs.filter fun f=>decide (f.1≠p)
theorem To{β:Type}{G:aw×V->Str×β->Prop}(hk:∀kv f,G kv f->kv.1=Sum.inr f.1){p:Str}{kvs:List (aw×V)}{fs:List (Str×β)}(h:Paired G kvs fs):Paired G (qX kvs (.inr p)) (mf fs p):=by
 unfold qX mf
 induction h with
 | nil=>exact .nil
 | @cons kv f kvs fs r t ih=>
  have e:=hk _ _ r;rw[qD,qD]
  by_cases h:f.1=p
  . have h2:kv.1=Sum.inr p:=by rw[e,h]
    simp only[h,h2,ne_eq,not_true_eq_false,decide_false,qB,mw];exact ih
  . have h2:¬kv.1=Sum.inr p:=by rw[e];exact fun z=>h (qA z)
    simp only[h,h2,ne_eq,not_false_eq_true,decide_true,vJ];exact .cons r ih
theorem Tp{β:Type}{fs:List (Str×β)}{p:Str}(h:p∉fs.map (·.1)):mf fs p=fs:=by
 unfold mf;rw[List.filter_eq_self];intro f hf;exact bG fun e=>h (by rw[←e];exact lE (f:=(·.1)) hf)
theorem apg{β:Type}{fs:List (Str×β)}{p:Str}(h:(fs.map (·.1)).Nodup):((mf fs p).map (·.1)).Nodup:=h.sublist ((Wz (l:=fs)).map _)
theorem aph{β:Type}(fs:List (Str×β))(p:Str):(mf fs p).length<=fs.length:=Cg _ _
theorem api{β:Type}{G:aw×V->Str×β->Prop}(hk:∀kv f,G kv f->kv.1=Sum.inr f.1){kvs:List (aw×V)}{fs:List (Str×β)}(h:Paired G kvs fs)(p:Str):(p∈fs.map (·.1)/\(bg kvs (.inr p)).isSome=true)\/(p∉fs.map (·.1)/\bg kvs (.inr p)=none):=by
 by_cases hp:p∈fs.map (·.1)
 . obtain⟨v,ls,e,_⟩:=rE hk h hp;exact .inl ⟨hp,by rw[e];rfl⟩
 . exact .inr ⟨hp,DK hk h hp⟩
section
open PyProof.Rows
end
theorem apj{f:Str×Ls}(h:∀y∈f.2,Ln y):PySem.W.kqdOk 9 (dS f.2)=true:=by
 simp only[dS,PySem.W.kqdOk,iq,cL];rintro d ⟨y,hy,rfl⟩;exact(h y hy).ok
section
variable {P:Program}{w:World}{K:Fg}{mg:Mv}{base:Heap}
def Tq(C:Addr):Sp:=fun vs H Q _=>∃(x dx d b:Addr) (v:V) (kd:List (aw×V)) (fs:Tr),vs=[.ref x]/\H x=some (.ins C dx (cu d b v))/\H d=some (.dK kd)/\Paired (cT H) kd fs/\(fs.map (·.1)).Nodup/\fs.length<=500 /\
 ∀r H' kr,H r=none->ag H H'->H' r=some (.dK kr)->Paired (dj H H') kr fs->Q (.ref r) H'
theorem Fi:aR [aD4,aEk,aEg,aEp] [aD4] (aE uv):=aZ
theorem apk{f C f2 f3 f4 f5 f6 f7:Addr}{fd:Fy}(F:ak K "files_now" "Disk.files_now" uv f fd)(T:im K mg C f f2 f3 f4 f5 f6 f7)(B:bV mg):aj P w K mg base al 1 f fd [aD4] (Tq C):=by
 refine F.ok Fi (fun vs H Q E h=>?_) (fun ay A outer s H vs Q E hr h=>?_)
 . obtain⟨x,dx,d,b,v,kd,fs,rfl,_⟩:=h;rfl
 . obtain⟨x,dx,o,b,v,kvs,ow,rfl,hx,ho,pr,nd,pT,q⟩:=h;have hu:=hr.units;refine⟨_,(ao (aP (i:=1) Fi.nd rfl (Or.inl rfl) lV)
    (ao (Im dY rfl (cW (pv 0) rfl) (oI rfl (fG (aY (i:=2) Fi.nd rfl (Or.inl rfl)) (fG (aY (i:=3) Fi.nd rfl (Or.inl rfl)) mD)))
    (av (iZ hu (pv 1) (pv 2) (eB lO (by rfl) B.list jC (aa (pv 3) ac)) rfl)))
    (av (aU (pv 1))))),?_⟩
   have hk:∀(H':Hp) kv f,dj H H' kv f->kv.1=Sum.inr f.1:=fun _ kv f z=>z.1;refine fun d H1 n1 s1 e1=>?_;have od:d≠o:=(aL ho n1).symm;refine⟨_,rfl,x,C,dx,_,_,rfl,s1 _ _ hx,T.cl,T.nF,Ff _ _ _,o,kvs,rfl,s1 _ _ ho,fun ob=>?_⟩;refine JJ (fun i σ H5=>∃u v jN,σ=[some (.ref x),some (.ref d),u,v]/\(∀b z,H b=some z->b≠o->H5 b=some z)/\(∀b,H5 b=none->H b=none)/\H5 o=some (.frz ob (.dK kvs))/\H5 d=some (.dK jN)/\Paired (dj H H5) jN (ow.take i))
    ⟨none,none,[],rfl,fun b x e hb=>eZ (s1 _ _ e) hb,fun b e=>s1.free (hX e).2,aI,eZ e1 od,.nil⟩ ?_ ?_ ?_
   . rintro i σ H5 ⟨u,v,jN,rfl,_,_,h,_⟩;exact h
   . rintro i k v p σ H5 hi ⟨u,v',jN,rfl,k5,f5,h5,gu,fE⟩ hp;obtain⟨⟨y,ls⟩,hf,a1,l,a2,a4⟩:=eG pr hi;have a1:k=.inr y:=a1;have a2:v=.ref l:=a2;have a4:H l=some (.lst (ls.map V.str)):=a4;subst a1 a2;have aN:=(ci.mp hf).1;have sp:ag H5 (ah H5 p (.tup [kV (.inr y),.ref l])):=fL hp;have L5:=sp _ _ (k5 _ _ a4 (aO a4 ho (by intro z;cases z)));refine⟨p,_,rfl,aW.of aI,rfl,_,_,rfl,_,_,rfl,rfl,?_⟩;refine⟨_,rfl,l,_,rfl,.inl (ae.of L5),fun q1 H6 n6 s6 e6=>?_⟩;have jO:=sp.trans s6;have pl:=bq fE;rw[eh]at pl;refine⟨_,rfl,_,rfl,d,_,rfl,fK.k (k:=.inr y) (jO _ _ gu) (bI (by omega)),?_⟩;have JK:y∉(ow.take i).map (·.1):=by
      rw[V2];intro hm;obtain⟨j,hj,ej⟩:=Wf.mp hm;rw[eh,am]at hj;rw[List.getElem_take]at ej;have e1:(ow.map (·.1))[j]?=some y:=by rw[ir (by rw[am];omega),ej]
      have e2:(ow.map (·.1))[i]?=some y:=by rw[db,hf];rfl
      have:=(Ws (l:=ow.map (·.1)) (i:=j) (j:=i) (by rw[am];omega) nd).mp (by rw[e1,e2]);omega
     refine⟨_,_,_,rfl,fun b z e hb=>?_,fun b e=>f5 b (jO.free (hX e).2),eZ (jO _ _ h5) od.symm,aI,?_⟩
     . rw[aV (fun y=>by rw[y,n1]at e;cases e)];exact jO _ _ (k5 _ _ e hb)
     . rw[gC,hf];have:=jL (F:=dj H H6) (hk H6) (x:=y) (ls:=ls) (v:=.ref q1) ⟨rfl,q1,rfl,f5 _ (sp.free n6),e6⟩ (aK fE fun _ _=>dj.same jO);rw[zX JK]at this;exact aK this fun _ _=>dj.put (jO _ _ gu)
   . rintro σ H5 ⟨u,v,jN,rfl,k5,f5,h5,gu,fE⟩;rw[bq pr,eT]at fE;refine⟨_,rfl,q d _ jN n1 (fun b z e=>?_) (eZ gu od) (aK fE fun kv f z=>?_)⟩
     . by_cases hb:b=o
       . subst hb;rw[ho]at e;cases e;exact aI
       . exact eZ (k5 b z e hb) hb
     . obtain⟨a,l,b,c,e⟩:=z;exact⟨a,l,b,c,eZ e (fun y=>by rw[y,ho]at c;cases c)⟩
def Fj(C:Addr):Sp:=fun vs H Q _=>∃(x dx d b:Addr) (v:V) (ts:Lv),vs=[.ref x]/\H x=some (.ins C dx (cu d b v))/\H b=some (.lst ts)/\dJ H (.lst ts) Q
theorem apl:aR [aD4] [aD4] (aE pB):=aZ
theorem K7{f C f1 f3 f4 f5 f6 f7:Addr}{fd:Fy}(F:ak K aFE "Disk.book_now" pB f fd)(T:im K mg C f1 f f3 f4 f5 f6 f7)(B:bV mg):aj P w K mg base al 1 f fd [aD4] (Fj C):=by
 refine F.ok apl (fun vs H Q E h=>?_) (fun ay A outer s H vs Q E hr h=>?_)
 . obtain⟨x,dx,d,b,v,ts,rfl,_⟩:=h;rfl
 . obtain⟨x,dx,d,b,v,ts,rfl,hx,hb,q⟩:=h;refine⟨_,(av (aU (eB lO (by rfl) B.list jC (aa (cW (pv 0) rfl) ac)))),?_⟩;exact⟨_,rfl,x,C,dx,_,_,rfl,hx,T.cl,T.nB,Th _ _ _,b,_,rfl,.inl (ae.of hb),q⟩
end
open PyProof.Rows
def look{β:Type}(tr:List (Str×β))(k:Str):Option β:=(tr.find? fun f=>decide (f.1=k)).map (·.2)
theorem kY{β:Type}(f:Str×β)(tr:List (Str×β))(k:Str):look (f::tr) k=if f.1=k then some f.2 else look tr k:=by
 unfold look;rw[vM]
 by_cases h:f.1=k
 . rw[aq h,bG h];rfl
 . rw[ai h,cH h]
theorem jr{β:Type}{tr:List (Str×β)}{k:Str}:look tr k=none↔k∉tr.map (·.1):=by
 induction tr with
 | nil=>exact⟨(fun _ h=>nomatch h),fun _=>rfl⟩
 | cons f tr ih=>
  rw[kY,bL,aX,lC,←ih]
  by_cases h:f.1=k
  . rw[aq h];exact⟨(fun z=>nomatch z),fun z=>absurd h.symm z.1⟩
  . rw[ai h];exact⟨fun z=>⟨fun e=>h e.symm,z⟩,fun z=>z.2⟩
theorem Fk{β:Type}{tr:List (Str×β)}{k:Str}{ls:β}(h:look tr k=some ls):(k,ls)∈tr:=by
 induction tr with
 | nil=>cases h
 | cons f tr ih=>
  rw[kY]at h
  by_cases e:f.1=k
  . rw[aq e]at h;cases h;rw[←e];exact bB
  . rw[ai e]at h;exact bJ _ (ih h)
theorem K8{β:Type}{tr:List (Str×β)}{k:Str}{ls:β}(nd:(tr.map (·.1)).Nodup)(h:(k,ls)∈tr):look tr k=some ls:=by
 cases e:look tr k with
 | none=>exact absurd (lE (f:=(·.1)) h) (jr.mp e)
 | some yH=>rw[wG nd (Fk e) h]
theorem apm{β:Type}(tr:List (Str×β))(g:Str×β)(k:Str):look (tr++[g]) k=(look tr k).or (if g.1=k then some g.2 else none):=by
 induction tr with
 | nil=>rw[vW,kY];rfl
 | cons f tr ih=>
  rw[qC,kY,kY,ih];split<;>rfl
theorem apn{β:Type}(tr:List (Str×β))(p:Str)(ls:β)(k:Str):look (bU tr p ls) k=if p=k then some ls else look tr k:=by
 unfold bU;split
 . rename_i h;have hp:=rD.mp h;clear h
   induction tr with
   | nil=>cases hp
   | cons f tr ih=>
    rw[bL,kY,kY]
    by_cases hf:f.1=p
    . rw[aq hf,hf]
      by_cases hk:p=k
      . rw[aq hk,aq hk]
      . rw[ai hk,ai hk,ai hk];clear ih hp hf
        induction tr with
        | nil=>rfl
        | cons g tr ih=>
         rw[bL,kY,kY,ih]
         by_cases hg:g.1=p
         . rw[aq hg,hg,ai hk,ai hk]
         . rw[ai hg]
    . rw[ai hf];rw[bL,aX]at hp
      rcases hp with hp | hp
      . exact absurd hp.symm hf
      . rw[ih hp]
        by_cases hk:f.1=k
        . rw[aq hk,aq hk,ai (fun e=>hf (hk.trans e.symm))]
        . rw[ai hk,ai hk]
 . rename_i h;have hp:p∉tr.map (·.1):=fun z=>h (rD.mpr z);rw[apm];show(look tr k).or (if p=k then some ls else none)=_
   by_cases hk:p=k
   . rw[aq hk,aq hk,←hk,jr.mpr hp];rfl
   . rw[ai hk,ai hk];cases look tr k<;>rfl
theorem apo{β:Type}(tr:List (Str×β))(p k:Str):look (mf tr p) k=if p=k then none else look tr k:=by
 unfold mf
 induction tr with
 | nil=>
  show none=_;split<;>rfl
 | cons f tr ih=>
  rw[qD]
  by_cases h:f.1=p
  . rw[ai (by simp[h]),ih,kY]
    by_cases hk:p=k
    . rw[aq hk,aq hk]
    . rw[ai hk,ai hk,ai (fun e=>hk (h.symm.trans e))]
  . rw[aq (by simp[h]),kY,kY,ih]
    by_cases hk:p=k
    . rw[aq hk,aq hk,ai (fun e=>h (e.trans hk.symm))]
    . rw[ai hk,ai hk]
def bu{β:Type}(tr:List (Str×β))(fs:List (Str×β))(p:Str):List (Str×β):=match look tr p with
 | some ls=>bU fs p ls
 | none=>mf fs p
theorem app{β:Type}(tr fs:List (Str×β))(p k:Str):look (bu tr fs p) k=if p=k then look tr k else look fs k:=by
 unfold bu;split
 . rename_i ls e;rw[apn]
   by_cases h:p=k
   . rw[aq h,aq h,←h,e]
   . rw[ai h,ai h]
 . rename_i e;rw[apo]
   by_cases h:p=k
   . rw[aq h,aq h,←h,e]
   . rw[ai h,ai h]
theorem Fl{β:Type}(tr:List (Str×β)):∀(ps:Ls) (fs:List (Str×β)) (k:Str),look (ps.foldl (bu tr) fs) k=if k∈ps then look tr k else look fs k
 | [],fs,k=>by rw[ai (by simp)];rfl
 | p::ps,fs,k=>by
  rw[ou,Fl tr ps,app]
  by_cases h:k∈ps
  . rw[aq h,aq (bJ _ h)]
  . rw[ai h]
    by_cases e:p=k
    . rw[aq e,aq (by rw[e];exact bB)]
    . rw[ai e,ai (by rw[aX,lC];exact⟨fun z=>e z.symm,h⟩)]
theorem Ts{β:Type}{tr fs:List (Str×β)}{p:Str}(h:(fs.map (·.1)).Nodup):((bu tr fs p).map (·.1)).Nodup:=by
 unfold bu;split
 . exact lZ h
 . exact apg h
theorem apq{β:Type}(tr fs:List (Str×β))(p:Str):(bu tr fs p).length<=fs.length+1:=by
 unfold bu;split
 . exact l8 _ _ _
 . have:=aph fs p;omega
theorem K9{β:Type}{tr:List (Str×β)}:∀{ps:Ls}{fs:List (Str×β)},(fs.map (·.1)).Nodup->((ps.foldl (bu tr) fs).map (·.1)).Nodup
 | [],_,h=>h
 | _::ps,_,h=>K9 (ps:=ps) (Ts h)
theorem Tt{β:Type}{tr:List (Str×β)}:∀(ps:Ls) (fs:List (Str×β)),(ps.foldl (bu tr) fs).length<=fs.length+ps.length
 | [],_=>aJ _
 | p::ps,fs=>by
  have:=Tt (tr:=tr) ps (bu tr fs p);have:=apq tr fs p;rw[ou,bO];omega
def dU(fs:Tr):Prop:=∀f∈fs,∀y∈f.2,Ln y
theorem apr{tr fs:Tr}{p:Str}(ht:dU tr)(h:dU fs):dU (bu tr fs p):=by
 unfold bu;split
 . rename_i ls e;intro f hf
   rcases rC hf with z | z
   . rw[z];exact ht _ (Fk e)
   . exact h f z
 . exact fun f hf=>h f (yn.mp hf).1
theorem La{tr:Tr}(ht:dU tr):∀{ps:Ls}{fs:Tr},dU fs->dU (ps.foldl (bu tr) fs)
 | [],_,h=>h
 | _::ps,_,h=>La ht (ps:=ps) (apr ht h)
abbrev Lc (l:Ls):Prop:=l.Pairwise (fun a b=>a.cps.toList<=b.cps.toList)
theorem aps{a b:Ls}(p:a.Perm b)(h1:Lc a)(h2:Lc b):a=b:=by
 refine aCE (fun x y _ _ h h'=>?_) h1 h2 p;have e:=List.le_antisymm h h';obtain⟨⟨x⟩⟩:=x;obtain⟨⟨y⟩⟩:=y;have e:x=y:=e;rw[e]
structure jt{β:Type}(fs tr:List (Str×β))(ps:Ls):Prop where
 srt:Lc ps
 nd:ps.Nodup
 mem:∀k,k∈ps↔look fs k≠look tr k
theorem apt{α:Type}[DecidableEq α]{a b:List α}(ha:a.Nodup)(hb:b.Nodup)(h:∀z,z∈a↔z∈b):a.Perm b:=(List.perm_ext_iff_of_nodup ha hb).mpr h
theorem jt.eq{β:Type}{fs tr:List (Str×β)}{ps qs:Ls}(x:jt fs tr ps)(y:jt fs tr qs):ps=qs:=aps (apt x.nd y.nd fun z=>by rw[x.mem,y.mem]) x.srt y.srt
theorem jt.drop{β:Type}{fs tr:List (Str×β)}{ps:Ls}(x:jt fs tr ps)(m:Nat):jt ((ps.take m).foldl (bu tr) fs) tr (ps.drop m) where
 srt:=x.srt.sublist (List.drop_sublist m ps)
 nd:=x.nd.sublist (List.drop_sublist m ps)
 mem:=fun k=>by
  rw[Fl];have hd:ps=ps.take m++ps.drop m:=(Wv m ps).symm;have nd:=x.nd;rw[hd,sY]at nd
  by_cases h:k∈ps.take m
  . rw[aq h];exact⟨fun z=>absurd rfl (nd.2.2 k h k z),fun z=>absurd rfl z⟩
  . rw[ai h,←x.mem k];exact⟨fun z=>NS z,fun z=>by
     rw[hd]at z
     rcases bK.mp z with z | z
     . exact absurd z h
     . exact z⟩
theorem jt.len{β:Type}{fs tr:List (Str×β)}{ps:Ls}(x:jt fs tr ps):ps.length<=fs.length+tr.length:=by
 have:=kO (ys:=fs.map (·.1)++tr.map (·.1)) x.nd fun z hz=>by
  refine bK.mpr ?_
  by_cases h1:z∈fs.map (·.1)
  . exact .inl h1
  . by_cases h2:z∈tr.map (·.1)
    . exact .inr h2
    . exact absurd ((jr.mpr h1).trans (jr.mpr h2).symm) ((x.mem z).mp hz)
 rw[bh,am,am]at this;exact this
theorem jt.all{β:Type}{fs tr:List (Str×β)}{ps:Ls}(x:jt fs tr ps)(k:Str):look (ps.foldl (bu tr) fs) k=look tr k:=by
 rw[Fl]
 by_cases h:k∈ps
 . rw[aq h]
 . rw[ai h]
   by_cases e:look fs k=look tr k
   . exact e
   . exact absurd ((x.mem k).mpr e) h
theorem Tu{β:Type}{fs tr:List (Str×β)}(nd:(fs.map (·.1)).Nodup)(h:∀k,look fs k=look tr k):∀f∈fs,f∈tr:=fun f hf=>by
 obtain⟨k,ls⟩:=f;exact Fk ((h k).symm.trans (K8 nd hf))
theorem apu{β:Type}{fs tr:List (Str×β)}(nd:(fs.map (·.1)).Nodup)(Tv:(tr.map (·.1)).Nodup)(h:∀k,look fs k=look tr k):fs.length=tr.length:=by
 have a:=kO (xs:=fs.map (·.1)) (ys:=tr.map (·.1)) nd fun z hz=>by
  obtain⟨f,hf,rfl⟩:=cL.mp hz;exact lE (f:=(·.1)) (Tu nd h f hf)
 have b:=kO (xs:=tr.map (·.1)) (ys:=fs.map (·.1)) Tv fun z hz=>by
  obtain⟨f,hf,rfl⟩:=cL.mp hz;exact lE (f:=(·.1)) (Tu Tv (fun k=>(h k).symm) f hf)
 rw[am,am]at a b;omega
theorem Tw{H:Hp}{kvs:List (aw×V)}{fs:Tr}(h:Paired (cT H) kvs fs)(nd:(fs.map (·.1)).Nodup)(p:Str):(look fs p=none/\bg kvs (.inr p)=none)\/(∃ls l,look fs p=some ls/\bg kvs (.inr p)=some (.ref l)/\H l=some (.lst (ls.map V.str))/\(p,ls)∈fs):=by
 have hk:∀kv f,cT H kv f->kv.1=Sum.inr f.1:=fun kv f z=>z.1
 by_cases hp:p∈fs.map (·.1)
 . obtain⟨v,ls,e,hm,r⟩:=rE hk h hp;obtain⟨_,l,e2,e3⟩:=r;have e2:v=.ref l:=e2;exact .inr ⟨ls,l,K8 nd hm,by rw[e,e2],e3,hm⟩
 . exact .inl ⟨jr.mpr hp,DK hk h hp⟩
def Fm:Option (Ls)->PySem.W.Dat
 | none=>.none
 | some ls=>dS ls
theorem Tx:∀{a b:Ls},a.map PySem.W.Dat.str=b.map PySem.W.Dat.str->a=b
 | [],[],_=>rfl
 | [],_::_,h=>nomatch h
 | _::_,[],h=>nomatch h
 | x::a,y::b,h=>by
  rw[bL,bL]at h;injection h with h1 h2
  injection h1 with h1
  rw[h1,Tx h2]
theorem apv{a b:Option (Ls)}(h:Fm a=Fm b):a=b:=by
 cases a with
 | none=>
  cases b with
  | none=>rfl
  | some y=>cases h
 | some x=>
  cases b with
  | none=>cases h
  | some y=>
   have h:PySem.W.Dat.list (x.map PySem.W.Dat.str)=PySem.W.Dat.list (y.map PySem.W.Dat.str):=h;injection h with h
   rw[Tx h]
theorem apw{K:Fg}{H:Hp}{kvs:List (aw×V)}{fs:Tr}(h:Paired (cT H) kvs fs)(nd:(fs.map (·.1)).Nodup)(ok:dU fs)(p:Str):DV K H ((bg kvs (.inr p)).getD .non) (Fm (look fs p))/\PySem.W.kqdOk 9 (Fm (look fs p))=true:=by
 rcases Tw h nd p with⟨e1,e2⟩ | ⟨ls,l,e1,e2,e3,hm⟩
 . rw[e1,e2];exact⟨.non,rfl⟩
 . rw[e1,e2];exact⟨tW (ae.of e3),apj (ok _ hm)⟩
section
variable {P:Program}{w:World}{K:Fg}{mg:Mv}{base:Heap}
def Ld{β:Type}(Fv:Hp->aw×V->Str×β->Prop)(OK:List (Str×β)->Prop):Sp:=fun vs H Q _=>∃(a b:Addr) (ka kb:List (aw×V)) (fs tr:List (Str×β)),vs=[.ref a,.ref b]/\H a=some (.dK ka)/\H b=some (.dK kb)/\Paired (Fv H) ka fs/\Paired (Fv H) kb tr/\(fs.map (·.1)).Nodup/\(tr.map (·.1)).Nodup/\OK fs/\OK tr/\fs.length+tr.length<=63 /\
 ∀l H' ps,H l=none->ag H H'->H' l=some (.lst (ps.map V.str))->jt fs tr ps->Q (.ref l) H'
theorem apx:aR [aEC,aEv] [aEC,aEv] (aE uz):=aZ
theorem Tz{β:Type}[DecidableEq β]{Fv:Hp->aw×V->Str×β->Prop}{OK:List (Str×β)->Prop}{dat:Option β->PySem.W.Dat}(hk:∀H kv f,Fv H kv f->kv.1=Sum.inr f.1)(hs:∀{H G:Hp}{kv:aw×V}{f:Str×β},ag H G->Fv H kv f->Fv G kv f)(hi:∀{a b:Option β},dat a=dat b->a=b)
 (hd:∀{H:Hp}{kvs:List (aw×V)}{fs:List (Str×β)},Paired (Fv H) kvs fs->(fs.map (·.1)).Nodup->OK fs->∀p,DV K H ((bg kvs (.inr p)).getD .non) (dat (look fs p))/\PySem.W.kqdOk 9 (dat (look fs p))=true) {f:Addr}{fd:Fy} (F:ak K aEo aEo uz f fd) (B:bV mg):aj P w K mg base al 1 f fd [aEC,aEv] (Ld Fv OK):=by
 refine F.ok apx (fun vs H Q E h=>?_) (fun ay A outer s H vs Q E hr h=>?_)
 . obtain⟨a,b,ka,kb,fs,tr,rfl,_⟩:=h;rfl
 . obtain⟨a,b,ka,kb,fs,tr,rfl,ha,hb,pa,pb,Fn,wK,Le,Lf,pU,q⟩:=h;have hu:=hr.units;refine⟨_,(av (aU (fM ["key"] [aEC,aEv] [0,1] dL rfl (cy (dC (QL rfl) (by rfl) B.sorted yG (aa (aF aj1 (eB QY (by rfl) B.set Wy (aa (pv 0) ac)) (eB QY (by rfl) B.set Wy (aa (pv 1) ac))) ac)))
    (fun _ _ _ _=>(aY (i:=0) (show List.Nodup (["key",aEC,aEv]:Ls) by decide +kernel) rfl (Or.inl rfl))) (fun _ _ _ _=>o4 (bM (aiP K hu) (HL hu (pv 1) (pv 0) ⟨rfl,rfl,rfl,rfl⟩) (HL hu (pv 2) (pv 0) ⟨rfl,rfl,rfl,rfl⟩) (bE _))) (fun _ _ _ _=>(pv 0))))),?_⟩
   refine⟨_,rfl,a,ka,fs.map (·.1),rfl,ha,wF (hk H) pa,by rw[am];omega,fun r1 TB H1 n1 s1 e1 Lg m1=>?_⟩;refine⟨_,rfl,b,kb,tr.map (·.1),rfl,s1 _ _ hb,wF (hk H) pb,by rw[am];omega,fun r2 TD H2 n2 s2 e2 Lh m2=>?_⟩;have l1:TB.length<=fs.length:=by have:=kO Lg fun z hz=>(m1 z).mp hz;rwa [am]at this
   have l2:TD.length<=tr.length:=by have:=kO Lh fun z hz=>(m2 z).mp hz;rwa [am]at this
   refine⟨r1,r2,TB,TD,rfl,rfl,aL e1 n2,s2 _ _ e1,e2,by omega,fun r3 zs H3 n3 s3 e3 TF m3=>?_⟩;have l3:zs.length<=63:=by have:=kO TF fun z hz=>(m3 z).mp hz;rw[bh]at this;omega
   refine⟨r3,zs,rfl,e3,by omega,fun ys pm srt p H4 n4 s4 e4=>?_⟩;have iL:ag H H4:=(s1.trans s2).trans (s3.trans s4);have lys:ys.length<=63:=by rw[pm.length_eq];exact l3
   refine⟨p,rfl,⟨_,ae.of e4⟩,?_⟩;refine HW (K:=K) (xs:=ys.map V.str) (σ0:=[none,some (.ref a),some (.ref b)]) (ae.of e4) (fun σ=>∃v,σ=[v,some (.ref a),some (.ref b)]) (fun i ws _=>ws=((ys.take i).filter fun k=>decide (look fs k≠look tr k)).map V.str) ⟨_,rfl⟩ (fun _ _=>rfl) ?_ ?_
   . rintro D i x ws σ H5 k k' hD hx ⟨v,rfl⟩ gu s5 rfl hk fA;rw[db]at hx;cases hy:ys[i]? with
     | none=>rw[hy]at hx;cases hx
     | some y=>
      rw[hy]at hx;cases hx;have nw:=iL.trans s5;obtain⟨d1,o1⟩:=hd (aK pa fun _ _=>hs nw) Fn Le y;obtain⟨d2,o2⟩:=hd (aK pb fun _ _=>hs nw) wK Lf y;refine⟨_,rfl,a,rfl,.inl ⟨_,.inl (nw _ _ ha)⟩,_,rfl,_,df.k (k:=.inr y) (nw _ _ ha),?_⟩;refine⟨_,rfl,b,rfl,.inl ⟨_,.inl (nw _ _ hb)⟩,_,rfl,_,df.k (k:=.inr y) (nw _ _ hb),?_⟩;refine⟨_,_,d1,d2,o1,o2,fun bb ia=>⟨_,rfl,?_⟩⟩;have e0:(ys.take (i+1)).filter (fun k=>decide (look fs k≠look tr k))=(ys.take i).filter (fun k=>decide (look fs k≠look tr k))++[y].filter (fun k=>decide (look fs k≠look tr k)):=by
       rw[gC,hy,GY];rfl
      refine bw (fun h=>?_) (fun h=>?_)
      . have cq:look fs y≠look tr y:=fun e=>by
         have:bb=true:=ia.mpr (by rw[e]);rw[this]at h;cases h
        refine⟨_,rfl,hk _ _ _ ⟨_,rfl⟩ (ag.refl _) (bI ?_) ?_⟩
        . rw[am];have:=Cg (fun k=>decide (look fs k≠look tr k)) (ys.take i);rw[eh]at this;omega
        . rw[e0,qD,aq (bG cq),cQ];rfl
      . have heq:look fs y=look tr y:=by
         cases bb with
         | true=>exact hi (ia.mp rfl)
         | false=>exact absurd rfl h
        refine fA _ _ ⟨_,rfl⟩ (ag.refl _) ?_;rw[e0,qD,ai (by rw[cH (fun z=>z heq)];exact cK),List.filter_nil,lq]
   . rintro D ws H5 hD gu s5 rfl;rw[am,eT]at gu;have sr:=Jk srt;have ndy:ys.Nodup:=pm.nodup_iff.mpr TF;refine q D H5 _ (iL.free hD) (iL.trans s5) gu ⟨sr.sublist Wz,ndy.sublist Wz,fun z=>?_⟩;rw[yn,Cw];refine⟨fun h=>h.2,fun h=>⟨?_,h⟩⟩;rw[pm.mem_iff,m3,bK,m1,m2]
     by_cases z1:z∈fs.map (·.1)
     . exact .inl z1
     . by_cases z2:z∈tr.map (·.1)
       . exact .inr z2
       . exact absurd ((jr.mpr z1).trans (jr.mpr z2).symm) h
abbrev TH:Sp:=Ld cT dU
theorem apz{f:Addr}{fd:Fy}(F:ak K aEo aEo uz f fd)(B:bV mg):aj P w K mg base al 1 f fd [aEC,aEv] TH:=Tz (Fv:=cT) (OK:=dU) (fun _ _ _ z=>z.1) (fun s z=>cT.same s z) apv (fun h nd ok p=>apw h nd ok p) F B
def kZ(lf:Option Int)(n:Nat):Option Int:=lf.map fun m=>m - n
structure Tn(C x dx d b:Addr)(lf:Option Int)(fs:Tr)(H H':Hp):Prop where
 ob:H' x=some (.ins C dx (cu d b (lv lf)))
 hd:∃kd,H' d=some (.dK kd)/\Paired (cT H') kd fs
 kp:∀p o,H p=some o->p≠x->p≠d->H' p=some o
def TJ(C Fa:Addr):Sp:=fun vs H Q E=>∃(x dx d b t:Addr) (lf:Option Int) (kd kt:List (aw×V)) (fs tr:Tr),vs=[.ref x,.ref t]/\H x=some (.ins C dx (cu d b (lv lf)))/\H d=some (.dK kd)/\H t=some (.dK kt)/\d≠t/\Paired (cT H) kd fs/\Paired (cT H) kt tr/\(fs.map (·.1)).Nodup/\(tr.map (·.1)).Nodup/\dU fs/\dU tr/\fs.length+tr.length<=63/\(∀m,lf=some m->0<=m) /\
 (∀ps H',jt fs tr ps->(∀m,lf=some m->(ps.length:Int)<=m)->Tn C x dx d b (kZ lf ps.length) (ps.foldl (bu tr) fs) H H'->Q .non H') /\
 (∀ps (j:Nat) H',jt fs tr ps->lf=some (j:Int)->j<ps.length->Tn C x dx d b (some 0) ((ps.take j).foldl (bu tr) fs) H H'->E (.ref Fa) none H')
theorem TK:aR [aD9,aEG,aEg] [aD9,aEG] (aE wN):=aZ
theorem apA{f C Fa pO f2 ny pP f5 f6 f7 sq:Addr}{fd AQ xx AR xy:Fy}(F:ak K aET aET wN f fd)(B:bV mg)(T:im K mg C pO f2 ny pP f5 f6 f7)(Fo:ak K "files_now" "Disk.files_now" uv pO AQ)
 (Fp:ak K "put" "Disk.put" uw ny xx) (Li:aj P w K mg base (cE P w) 2 ny xx [aD4,aEg,aEp] (K4 K C Fa)) (Fq:ak K "erase" "Disk.erase" ux pP AR) (apB:aj P w K mg base (cE P w) 2 pP AR [aD4,aEg] (Tj C Fa))
 (mh:ak K aEo aEo uz sq xy) (uU:mg aEo=some (.ref sq)):aj P w K mg base (cE P w) 3 f fd [aD9,aEG] (TJ C Fa):=by
 have apC:aj P w K mg base al 1 pO AQ [aD4] (Tq C):=apk Fo T B;have apD:=Fo.binds1 (l:=[aD4]) (fun _ _ _ _ _ _ _=>rfl);have Fs:aj P w K mg base al 1 sq xy [aEC,aEv] TH:=apz mh B;have Ft:=mh.binds2 (l:=[aEC,aEv]) (fun _ _ _ _ _ _ _ _=>rfl);have apE:=Fp.binds3 (l:=[aD4,aEg,aEp]) (fun _ _ _ _ _ _ _ _ _=>rfl);have apF:=Fq.binds2 (l:=[aD4,aEg]) (fun _ _ _ _ _ _ _ _=>rfl);refine F.okR TK (fun vs H Q E h=>?_) (fun ay A outer s H vs Q E hr h=>?_)
 . obtain⟨x,dx,d,b,t,lf,kd,kt,fs,tr,rfl,_⟩:=h;rfl
 . obtain⟨x,dx,d,b,t,lf,kd,kt,fs,tr,rfl,hx,hd,ht,ndt,pd,pt,Fn,wK,Le,Lf,pU,pos,q1,q2⟩:=h;have hu:=hr.units;have dF:b9 1 (A.deeper (PyProof.Rows.envOfC aET (aE wN) s.heap.objs.size f ay)):=hr.mono (by decide);refine⟨_,(av (eA PassesOwn.leaving rfl (cy (aG Fs dF rfl uU mh.kp Ft .nil aD (aa (tL (pv 0) T.cl T.mFNo apC dF apD .nil aD) (aa (pv 1) ac)))) (aY (i:=2) TK.nd rfl (Or.inl rfl))
    (av (cJ (v8 (CZ hu (pv 2) (pv 1)) (by rfl))
     (av (cI (qW (pv 0) T.cl T.mDPt Li hr apE .nil kN (aa (pv 2) (aa (qZ hu (pv 1) (pv 2) (fun _ _=>rfl)) ac))))) (av (cI (qW (pv 0) T.cl T.mDEr apB hr apF .nil kN (aa (pv 2) ac)))))))),?_⟩
   have iP:d≠x:=aO hd hx (by intro z;cases z);have tx:t≠x:=aO ht hx (by intro z;cases z);refine⟨_,rfl,x,dx,_,rfl,hx,rfl,x,dx,d,b,lv lf,kd,fs,rfl,hx,hd,pd,Fn,by omega,fun r H1 kr n1 s1 e1 pr=>?_⟩;refine⟨_,rfl,r,t,kr,kt,fs,tr,rfl,e1,s1 _ _ ht,aK pr fun _ _ apH=>apH.elim fun z1 apJ=>apJ.elim fun l apK=>apK.elim fun z2 apL=>apL.elim fun _ z3=>⟨z1,l,z2,z3⟩,aK pt fun _ _=>cT.same s1,Fn,wK,Le,Lf,pU,fun l H2 ps n2 s2 e2 U=>?_⟩;have bT:=s1.trans s2;have nl:H l=none:=s1.free n2;have lx:l≠x:=(aL hx nl).symm;have ld:l≠d:=(aL hd nl).symm;have KG:=U.len;refine⟨l,rfl,⟨_,ae.of e2⟩,?_⟩;refine gF (xs:=ps.map V.str) (fun i σ H5=>∃v,σ=[some (.ref x),some (.ref t),v]/\H5 l=some (.lst (ps.map V.str))/\(∀m,lf=some m->(i:Int)<=m)/\Tn C x dx d b (kZ lf i) ((ps.take i).foldl (bu tr) fs) H H5)
    ⟨none,rfl,e2,pos,by
     have:kZ lf 0=lf:=by cases lf with | none=>rfl | some m=>simp[kZ]
     rw[this];exact bT _ _ hx,⟨kd,bT _ _ hd,aK pd fun _ _=>cT.same bT⟩,fun p o e _ _=>bT _ _ e⟩ ?_ ?_ ?_
   . rintro i σ H5 hi ⟨v,rfl,hl,_⟩;exact ae.of hl
   . rintro i v0 σ H5 hv ⟨v,rfl,hl,Fu,W⟩;rw[db]at hv;cases hy:ps[i]? with
     | none=>rw[hy]at hv;cases hv
     | some p=>
      rw[hy]at hv;cases hv;obtain⟨TL,gu,AS⟩:=W.hd;have apM:=(ci.mp hy).1;have pV:=W.kp _ _ ht tx (fY ndt);have pt5:Paired (cT H5) kt tr:=aK pt fun _ _ apO=>apO.elim fun z1 apP=>apP.elim fun l' apQ=>apQ.elim fun z2 z3=>⟨z1,l',z2,W.kp _ _ z3 (aO z3 hx (by intro z;cases z)) (aO z3 hd (by intro z;cases z))⟩;have i8:(ps.take (i+1)).foldl (bu tr) fs=bu tr ((ps.take i).foldl (bu tr) fs) p:=by
       rw[gC,hy,qI];rfl
      have aDs:=Tt (tr:=tr) (ps.take i) fs;have aDt:(ps.take i).length<=ps.length:=by rw[eh];omega
      have aoe:=bq AS;have dn:∀lf',fV (kZ lf i)=some lf'->lf'=kZ lf (i+1)/\∀m,lf=some m->((i+1:Nat):Int)<=m:=fun lf' e=>by
       cases lf with
       | none=>cases e;exact⟨rfl,fun m z=>nomatch z⟩
       | some m=>
        have e:fV (some (m - i))=some lf':=e
        by_cases z:m - (i:Int)<1
        . rw[K2 z]at e;cases e
        . rw[xw z]at e;cases e;refine⟨?_,fun m' z'=>by cases z';omega⟩;show some (m - (i:Int) - 1)=some (m - ((i+1:Nat):Int))
          congr 1
          omega
      have up:fV (kZ lf i)=none->lf=some (i:Int):=fun e=>by
       cases lf with
       | none=>cases e
       | some m=>
        have e:fV (some (m - i))=none:=e
        by_cases z:m - (i:Int)<1
        . have:=Fu m rfl
          congr 1
          omega
        . rw[xw z]at e;cases e
      have pW:fV (kZ lf i)=none->E (.ref Fa) none H5:=fun e=>by
       have e2:=up e;refine q2 ps i H5 U e2 apM ⟨?_,W.hd,W.kp⟩;have:=W.ob;rw[e2]at this;have e9:kZ (some (i:Int)) i=some 0:=by simp[kZ]
       rw[e9]at this;exact this
      refine⟨_,rfl,_,rfl,t,_,rfl,df.k (k:=.inr p) pV,_,rfl,?_⟩
      rcases Tw pt5 wK p with⟨g1,g2⟩ | ⟨ls,l',g1,g2,g3,_⟩
      . rw[g2];refine gH ?_;refine⟨_,rfl,x,dx,_,rfl,W.ob,rfl,_,rfl,x,dx,d,b,kZ lf i,p,TL,rfl,W.ob,gu,fun lf' e H6 h1 h2 h3 h4=>?_,pW⟩;obtain⟨rfl,Lj⟩:=dn lf' e;refine⟨_,rfl,h3 _ _ hl lx ld,Lj,h1,⟨_,h2,?_⟩,fun q o z AT um=>h3 _ _ (W.kp _ _ z AT um) AT um⟩;have ft:bu tr ((ps.take i).foldl (bu tr) fs) p=mf ((ps.take i).foldl (bu tr) fs) p:=by unfold bu;rw[g1]
        rw[i8,ft];have kk:∀kv f,cT H5 kv f->cT H6 kv f:=fun kv f apR=>apR.elim fun z1 apS=>apS.elim fun l3 apT=>apT.elim fun z2 z3=>⟨z1,l3,z2,h3 _ _ z3 (aO z3 W.ob (by intro z;cases z)) (aO z3 gu (by intro z;cases z))⟩;have TM:∀kv f,cT H5 kv f->kv.1=Sum.inr f.1:=fun kv f z=>z.1
        rcases api TM AS p with⟨hp,hs⟩ | ⟨hp,hs⟩
        . rw[aq hs];exact aK (To TM AS) kk
        . rw[hs,Tp hp];exact aK AS kk
      . rw[g2];refine gJ ?_;refine⟨_,rfl,x,dx,_,rfl,W.ob,rfl,_,rfl,_,rfl,_,rfl,t,.ref l',rfl,(by rw[←g2];exact df.k (k:=.inr p) pV),?_⟩;refine⟨x,dx,d,b,l',kZ lf i,p,TL,ls.map V.str,rfl,W.ob,gu,g3,by omega,fun lf' e qn H6 nq h1 h2 h3 h4 h5=>?_,pW⟩;obtain⟨rfl,Lj⟩:=dn lf' e;refine⟨_,rfl,h4 _ _ hl lx ld,Lj,h1,⟨_,h2,?_⟩,fun q o z AT um=>h4 _ _ (W.kp _ _ z AT um) AT um⟩;have ft:bu tr ((ps.take i).foldl (bu tr) fs) p=bU ((ps.take i).foldl (bu tr) fs) p ls:=by unfold bu;rw[g1]
        rw[i8,ft];have kk:∀kv f,cT H5 kv f->cT H6 kv f:=fun kv f apU=>apU.elim fun z1 apV=>apV.elim fun l3 apW=>apW.elim fun z2 z3=>⟨z1,l3,z2,h4 _ _ z3 (aO z3 W.ob (by intro z;cases z)) (aO z3 gu (by intro z;cases z))⟩;exact jL (F:=cT H6) (fun kv f z=>z.1) ⟨rfl,qn,rfl,h3⟩ (aK AS kk)
   . rintro σ H5 ⟨v,rfl,hl,Fu,W⟩;rw[am]at Fu W;rw[eT]at W;exact q1 ps H5 U Fu W
end
end K64
namespace K64
open PySem L2
section
variable {P:Program}{w:World}{K:Fg}{mg:Mv}{base:Heap}
open Lcp
def TN(K:Fg):Sp:=fun vs H Q _=>∃(a b:Addr) (xs ys:Ls),vs=[.ref a,.ref b]/\ae K H a (xs.map V.str)/\ae K H b (ys.map V.str)/\Q (.int (fz xs ys)) H
theorem Lk:aR [aEp,aFs,"many"] [aEp,aFs] (aE DY):=aZ
theorem apX{f:Addr}{fd:Fy}(F:ak K aFb aFb DY f fd)(B:bV mg):aj P w K mg base al 1 f fd [aEp,aFs] (TN K):=by
 refine F.okL Lk ?_
 . intro ay A outer s H vs Q E hr h xX dX;obtain⟨a,b,xs,ys,rfl,hA,hB,q⟩:=h;refine⟨_,(ao (aP (i:=2) Lk.nd rfl (Or.inl rfl) ar)
    (ao (Hd dY (PW.pt (qQ (bM yN (pv 2) (dC gc (by rfl) B.len fZ (aa (pv 0) ac)) (bE _)) (qQ (bM yN (pv 2) (dC gc (by rfl) B.len fZ (aa (pv 1) ac)) (bE _)) (v9 (bM eV (bi eL (pv 0) (pv 2) (fun _ _=>rfl)) (bi eL (pv 1) (pv 2) (fun _ _=>rfl)) (bE _)))))) (av (aP (i:=2) Lk.nd rfl (Or.inl rfl) (aF dH (pv 2) ar))))
    (av (aU (pv 2))))),?_⟩
   refine i9 ?_;intro dD sS fD dP;refine⟨fun m σ H'=>∃i:Nat,m=xs.length - i/\i<=xs.length/\σ=[some (.ref a),some (.ref b),some (.int i)]/\H'=H/\fz xs ys=i+fz (xs.drop i) (ys.drop i),⟨_,0,rfl,dw _,rfl,rfl,(GU _).symm⟩,?_⟩;intro m σ H' eY;refine ba ?_;intro tT;obtain⟨i,rfl,hi,rfl,rfl,el⟩:=eY
   first | (refine ww (g:=lI _) ?_;intro eQ sQ) | (refine ww (g:=tE _ _ _) ?_;intro eQ sQ) | skip
   have fin:fz (xs.drop i) (ys.drop i)=0->∃v,([some (V.ref a),some (V.ref b),some (V.int i)]:St)[2]?=some (some v)/\Q v H':=fun z=>by
    rw[z,NZ]at el;rw[el]at q;exact⟨_,rfl,q⟩
   refine⟨_,rfl,_,rfl,a,_,rfl,.inl hA,_,_,rfl,rfl,_,rfl,?_⟩;refine bw (fun h=>?_) (fun h=>?_)
   . have h1:=cZ h;rw[am]at h1;refine⟨_,rfl,_,rfl,b,_,rfl,.inl hB,_,_,rfl,rfl,_,rfl,?_⟩;refine bw (fun h=>?_) (fun h=>?_)
     . have h2:=cZ h;rw[am]at h2;obtain⟨x,hx,ex⟩:=zh (xs:=xs) (r:=(i:Int)) (by omega) h1;obtain⟨y,hy,ey⟩:=zh (xs:=ys) (r:=(i:Int)) (by omega) h2;rw[lw]at ex ey;have es:=agp ex ey;refine⟨_,rfl,_,rfl,a,_,_,_,rfl,rfl,hA,hx,_,rfl,_,rfl,b,_,_,_,rfl,rfl,hB,hy,rfl,_,rfl,?_⟩;refine bw (fun h=>?_) (fun h=>?_)
       . have e:x=y:=by have:=cZ h;injection this
         rw[aq e]at es;refine⟨fun σ' H2=>σ'=[some (.ref a),some (.ref b),some (.int ((i:Int)+1))]/\H2=H',?_,?_⟩
         . rintro σ' H2 ⟨rfl,rfl⟩;exact⟨_,(show xs.length - (i+1)<xs.length - i by omega),i+1,rfl,by omega,by rw[Int.natCast_add];rfl,rfl,by rw[el,es];omega⟩
         . exact⟨_,rfl,_,_,rfl,rfl,rfl,rfl⟩
       . have e:x≠y:=fun e=>h (by rw[e];exact bG rfl);rw[ai e]at es;exact fin es
     . have h2:=Og (qE.mpr h);rw[am]at h2;exact fin (PN (.inr (by omega)))
   . have h1:=Og (qE.mpr h);rw[am]at h1;exact fin (PN (.inl (by omega)))
structure Fw(H:Hp)(t l:Addr)(xs ys:Ls):Prop where
 tup:H t=some (.tup [.int (Lcp.fN xs ys),.int (i8 xs ys),.ref l])
 lst:H l=some (.lst ((tS xs ys).map V.str))
def TQ(K:Fg):Sp:=fun vs H Q _=>∃(a b:Addr) (xs ys:Ls),vs=[.ref a,.ref b]/\ae K H a (xs.map V.str)/\ae K H b (ys.map V.str)/\∀t l H',H t=none->H l=none->ag H H'->Fw H' t l xs ys->Q (.ref t) H'
theorem Lq:aR [aEN,aEn,"start","behind"] [aEN,aEn] (aE DX):=aZ
theorem apY{f Fx:Addr}{fd Lr:Fy}(F:ak K aFF aFF DX f fd)(B:bV mg)(xz:ak K aFb aFb DY Fx Lr)(Fz:mg aFb=some (.ref Fx)):aj P w K mg base al 2 f fd [aEN,aEn] (TQ K):=by
 have TR:aj P w K mg base al 1 Fx Lr [aEp,aFs] (TN K):=apX xz B;have TU:=xz.binds2 (l:=[aEp,aFs]) (fun _ _ _ _ _ _ _ _=>rfl);refine F.okL Lq ?_
 . intro ay A outer s H vs Q E hr h xX dX;obtain⟨a,b,xs,ys,rfl,hA,hB,q⟩:=h;refine⟨_,(ao (aP (i:=2) Lq.nd rfl (Or.inl rfl) (aG TR hr rfl Fz xz.kp TU .nil aD (aa (pv 0) (aa (pv 1) ac))))
    (ao (aP (i:=3) Lq.nd rfl (Or.inl rfl) (aG TR hr rfl Fz xz.kp TU .nil aD (aa (PM (iX mO (pv 0) (gb (pv 2)) oN)) (aa (PM (iX mO (pv 1) (gb (pv 2)) oN)) ac))))
    (av (aU (eK (aa (pv 2) (aa (aF CP (dC gc (by rfl) B.len fZ (aa (pv 0) ac)) (pv 3)) (aa (iX mO (pv 1) (gb (pv 2)) (gb (aF CP (dC gc (by rfl) B.len fZ (aa (pv 1) ac)) (pv 3)))) ac)))))))),?_⟩
   refine i9 ?_;intro dD sS fD dP;obtain⟨l1,l2⟩:=PP xs ys;refine⟨_,rfl,_,rfl,a,b,xs,ys,rfl,hA,hB,?_⟩;refine⟨_,rfl,_,rfl,_,rfl,a,_,rfl,hA,fun p1 H1 n1 s1 e1=>?_⟩;rw[tU,C8 (by omega),lw]at e1;refine⟨p1,_,rfl,ae.of e1,fun p2 H2 n2 s2 e2=>?_⟩;rw[PV]at e2;refine⟨_,rfl,_,rfl,_,rfl,b,_,rfl,ag.seq (s1.trans s2) hB,fun p3 H3 n3 s3 e3=>?_⟩;rw[tU,C8 (by omega),lw]at e3;refine⟨p3,_,rfl,ae.of e3,fun p4 H4 n4 s4 e4=>?_⟩;rw[PV]at e4;have sA:=((s1.trans s2).trans s3).trans s4;refine⟨p2,p4,_,_,rfl,ae.of (s4 _ _ (s3 _ _ e2)),ae.of e4,?_⟩;refine⟨_,rfl,_,rfl,a,_,rfl,.inl (ag.seq sA hA),_,rfl,_,_,rfl,rfl,_,rfl,_,rfl,_,rfl,_,rfl,b,_,rfl,.inl (ag.seq sA hB),_,rfl,_,_,rfl,rfl,_,rfl,b,_,rfl,ag.seq sA hB,fun p5 H5 n5 s5 e5=>?_⟩;refine⟨(by show 3<=sizeLine;decide),fun p6 H6 n6 s6 e6=>?_⟩;have sB:=sA.trans s5;refine q p6 p5 H6 (sB.free n6) (sA.free n5) (sB.trans s6) ⟨?_,?_⟩
   . rw[e6];have e:((xs.map V.str).length:Int) - (fz (xs.drop (fz xs ys)).reverse (ys.drop (fz xs ys)).reverse:Int)=(i8 xs ys:Int):=by
      rw[am];unfold i8;unfold o5 Lcp.fN at *;omega
     dsimp only;rw[e];rfl
   . rw[s6 _ _ e5];have e:((ys.map V.str).length:Int) - (fz (xs.drop (fz xs ys)).reverse (ys.drop (fz xs ys)).reverse:Int)=((ys.length - o5 xs ys:Nat):Int):=by
      rw[am];unfold o5 Lcp.fN at *;omega
     rw[e,tU,PU (by omega) (by omega),lw,lw];rfl
end
open Lcp
section
variable {P:Program}{w:World}{K:Fg}{mg:Mv}{base:Heap}
def Lu:Sp:=fun vs H Q _=>∃(t1 t2:Addr) (a1 b1 a2 b2:Int) (v1 v2:V),vs=[.ref t1,.ref t2]/\H t1=some (.tup [.int a1,.int b1,v1])/\H t2=some (.tup [.int a2,.int b2,v2])/\Q (.bl (decide (b1<=a2))) H
theorem apZ:aR [aEy,aEn] [aEy,aEn] (aE zY):=aZ
theorem TV{f:Addr}{fd:Fy}(F:ak K aEW aEW zY f fd):aj P w K mg base al 1 f fd [aEy,aEn] Lu:=by
 refine F.okL apZ ?_
 . intro ay A outer s H vs Q E hr h xX dX;obtain⟨t1,t2,a1,b1,a2,b2,v1,v2,rfl,h1,h2,q⟩:=h;refine⟨_,(av (aU (mG Zf (bi eJ (pv 0) ar (fun _ _=>rfl)) (bi eJ (pv 1) ar (fun _ _=>rfl)) (bE _)))),?_⟩;exact⟨_,rfl,t1,_,_,_,rfl,rfl,aW.of h1,rfl,_,rfl,t2,_,_,_,rfl,rfl,aW.of h2,rfl,_,_,rfl,rfl,q⟩
def TW:Sp:=fun vs H Q _=>∃(t1:Addr) (a1 b1:Int) (v1:V),vs=[.ref t1]/\H t1=some (.tup [.int a1,.int b1,v1])/\Q (.bl (decide (a1=b1))) H
theorem ap0:aR [aEy] [aEy] (aE DZ):=aZ
theorem ap1{f:Addr}{fd:Fy}(F:ak K aFo aFo DZ f fd):aj P w K mg base al 1 f fd [aEy] TW:=by
 refine F.okL ap0 ?_
 . intro ay A outer s H vs Q E hr h xX dX;obtain⟨t1,a1,b1,v1,rfl,h1,q⟩:=h;refine⟨_,(av (aU (mG eV (bi eJ (pv 0) ar (fun _ _=>rfl)) (bi eJ (pv 0) ar (fun _ _=>rfl)) (bE _)))),?_⟩;rw[←show decide (V.int a1=V.int b1)=decide (a1=b1) from Cv.mpr ⟨fun h=>by injection h,fun h=>by rw[h]⟩]at q;exact⟨_,rfl,t1,_,_,_,rfl,rfl,aW.of h1,rfl,_,rfl,t1,_,_,_,rfl,rfl,aW.of h1,rfl,rfl,q⟩
def TX:Sp:=fun vs H Q _=>∃(t1 t2:Addr) (a1 b1 a2 b2:Int) (v1 v2:V),vs=[.ref t1,.ref t2]/\H t1=some (.tup [.int a1,.int b1,v1])/\H t2=some (.tup [.int a2,.int b2,v2])/\Q (.bl (Db a1 b1 a2 b2)) H
theorem ap2:aR [aEy,aEn] [aEy,aEn] (aE D0):=aZ
theorem ap3{f su FA:Addr}{fd xA Lx:Fy}(F:ak K aFx aFx D0 f fd)(mi:ak K aEW aEW zY su xA)(uV:mg aEW=some (.ref su))(xB:ak K aFo aFo DZ FA Lx)(FC:mg aFo=some (.ref FA)) :
 aj P w K mg base al 2 f fd [aEy,aEn] TX:=by
 have FD:aj P w K mg base al 1 su xA [aEy,aEn] Lu:=TV mi;have FE:=mi.binds2 (l:=[aEy,aEn]) (fun _ _ _ _ _ _ _ _=>rfl);have TY:aj P w K mg base al 1 FA Lx [aEy] TW:=ap1 xB;have TZ:=xB.binds1 (l:=[aEy]) (fun _ _ _ _ _ _ _=>rfl);refine F.okL ap2 ?_
 . intro ay A outer s H vs Q E hr h xX dX;obtain⟨t1,t2,a1,b1,a2,b2,v1,v2,rfl,h1,h2,q⟩:=h;refine⟨_,(C5 (fun σ H'=>σ=[some (.ref t1),some (.ref t2)]/\H'=H/\¬((a1=b1/\a2=b2)/\a1=a2)) (cJ (PW.pt (qQ (mC (aG TY hr rfl FC xB.kp TZ .nil aD (aa (pv 0) ac))) (qQ (mC (aG TY hr rfl FC xB.kp TZ .nil aD (aa (pv 1) ac))) (v9 (bM eV (bi eJ (pv 0) ar (fun _ _=>rfl)) (bi eJ (pv 1) ar (fun _ _=>rfl)) (bE _))))))
    (av (aU kz)) dq)
    (av (aU (OA (aG FD hr rfl uV mi.kp FE .nil aD (aa (pv 0) (aa (pv 1) ac))) (CK (aG FD hr rfl uV mi.kp FE .nil aD (aa (pv 1) (aa (pv 0) ac)))))))),?_⟩
   refine⟨?_,?_⟩
   . refine⟨_,rfl,t1,a1,b1,v1,rfl,h1,?_⟩;refine⟨_,rfl,bw (fun z1=>?_) (fun z1=>?_)⟩
     . refine⟨_,rfl,t2,a2,b2,v2,rfl,h2,?_⟩;refine⟨_,rfl,bw (fun z2=>?_) (fun z2=>?_)⟩
       . refine⟨_,rfl,t1,_,_,_,rfl,rfl,aW.of h1,rfl,_,rfl,t2,_,_,_,rfl,rfl,aW.of h2,rfl,rfl,_,rfl,?_⟩;refine bw (fun z3=>?_) (fun z3=>?_)
         . have e3:a1=a2:=by have:=cZ z3;injection this
           unfold Db at q;rw[aq ⟨⟨cZ z1,cZ z2⟩,e3⟩]at q;exact q
         . exact⟨rfl,rfl,fun e=>z3 (bG (fb V.int e.2))⟩
       . exact gH ⟨rfl,rfl,fun e=>z2 (bG e.1.2)⟩
     . exact gH ⟨rfl,rfl,fun e=>z1 (bG e.1.1)⟩
   . rintro σ' H' ⟨rfl,rfl,hn⟩;unfold Db at q;rw[ai hn]at q;refine⟨_,rfl,_,rfl,t1,t2,a1,b1,a2,b2,v1,v2,rfl,h1,h2,?_⟩;refine⟨_,rfl,bw (fun z=>?_) (fun z=>?_)⟩
     . rw[z,VW]at q;exact q
     . rw[qE.mpr z,Bool.false_or]at q;exact⟨_,rfl,_,rfl,t2,t1,a2,b2,a1,b1,v2,v1,rfl,h2,h1,q⟩
def T0:Sp:=fun vs H Q _=>∃(a t1 l1 t2 l2:Addr) (b x y:Ls),vs=[.ref a,.ref t1,.ref t2]/\H a=some (.lst (b.map V.str))/\Fw H t1 l1 b x/\Fw H t2 l2 b y/\b.length<=20/\x.length<=20/\y.length<=20/\dJ H (.lst ((tX b x y).map V.str)) Q
theorem ap4:aR [aEN,aEC,aEv] [aEN,aEC,aEv] (aE D3):=aZ
theorem lM{l:Ls}{n:Nat}(h:l.length<=n):(l.map V.str).length<=n:=by rw[am];exact h
theorem lA{a b:Ls}{m n:Nat}(ha:a.length<=m)(hb:b.length<=n):(a++b).length<=m+n:=by rw[bh];exact Nat.add_le_add ha hb
theorem lT{l:Ls}{k n:Nat}(h:l.length<=n):(l.take k).length<=n:=by rw[eh];exact ce (Nat.min_le_right _ _) h
theorem lD{l:Ls}{k n:Nat}(h:l.length<=n):(l.drop k).length<=n:=by rw[mx];exact ce (Nat.sub_le _ _) h
theorem xC{b x:Ls}{n:Nat}(h:x.length<=n):(tS b x).length<=n:=lT (lD h)
theorem lS{p q m n k:Nat}(h1:p<=m)(h2:q<=n)(h:m+n<=k:=by decide):p+q<=k:=ce (Nat.add_le_add h1 h2) h
theorem ap5{f:Addr}{fd:Fy}(F:ak K aFy aFy D3 f fd):aj P w K mg base al 1 f fd [aEN,aEC,aEv] T0:=by
 refine F.okL ap4 ?_
 . intro ay A outer s H vs Q E hr h xX dX;obtain⟨a,t1,l1,t2,l2,b,x,y,rfl,hA,⟨Ly,hL1⟩,⟨AU,hL2⟩,sw,AV,T1,q⟩:=h;refine⟨_,(av (aU (aF wp (aF wp (aF wp (aF wp (iX mO (pv 0) oN (gb (bi eJ (pv 1) ar (fun _ _=>rfl)))) (bi eJ (pv 1) ar (fun _ _=>rfl))) (iX mO (pv 0) (gb (bi eJ (pv 1) ar (fun _ _=>rfl))) (gb (bi eJ (pv 2) ar (fun _ _=>rfl))))) (bi eJ (pv 2) ar (fun _ _=>rfl))) (iX mO (pv 0) (gb (bi eJ (pv 2) ar (fun _ _=>rfl))) oN)))),?_⟩;have m1:=PQ b x;have m2:=PQ b y;refine⟨_,rfl,_,rfl,t1,_,_,_,rfl,rfl,aW.of Ly,rfl,_,rfl,a,_,rfl,ae.of hA,fun p1 H1 n1 s1 e1=>?_⟩;rw[tU,agq (by omega),lw]at e1;refine⟨_,rfl,t1,_,_,_,rfl,rfl,aW.of (s1 _ _ Ly),rfl,p1,l1,_,_,rfl,rfl,e1,s1 _ _ hL1,kM (lS (lM (lT sw)) (lM (xC AV))),fun p2 H2 n2 s2 e2=>?_⟩;rw[C9]at e2;have sB:=s1.trans s2;refine⟨_,rfl,_,rfl,t1,_,_,_,rfl,rfl,aW.of (sB _ _ Ly),rfl,_,rfl,_,rfl,t2,_,_,_,rfl,rfl,aW.of (sB _ _ AU),rfl,_,rfl,a,_,rfl,ae.of (sB _ _ hA),fun p3 H3 n3 s3 e3=>?_⟩;rw[tU,PU (by omega) (by omega),lw,lw]at e3;refine⟨p2,p3,_,_,rfl,rfl,s3 _ _ e2,e3,kM (lS (lM (lA (lT sw) (xC AV))) (lM (lT (lD sw)))),fun p4 H4 n4 s4 e4=>?_⟩;rw[C9]at e4;have sC:=(sB.trans s3).trans s4;refine⟨_,rfl,t2,_,_,_,rfl,rfl,aW.of (sC _ _ AU),rfl,p4,l2,_,_,rfl,rfl,e4,sC _ _ hL2,kM (lS (lM (lA (lA (lT sw) (xC AV)) (lT (lD sw)))) (lM (xC T1))),fun p5 H5 n5 s5 e5=>?_⟩;rw[C9]at e5;have sD:=sC.trans s5;refine⟨_,rfl,_,rfl,t2,_,_,_,rfl,rfl,aW.of (sD _ _ AU),rfl,_,rfl,a,_,rfl,ae.of (sD _ _ hA),fun p6 H6 n6 s6 e6=>?_⟩;rw[tU,C8 (by omega),lw]at e6;refine⟨p5,p6,_,_,rfl,rfl,s6 _ _ e5,e6,kM (lS (lM (lA (lA (lA (lT sw) (xC AV)) (lT (lD sw))) (xC T1))) (lM (lD sw))),fun p7 H7 n7 s7 e7=>?_⟩;rw[C9]at e7;have sE:=sD.trans s6;exact q p7 H7 (sE.free n7) (sE.trans s7) e7
def T2:Sp:=fun vs H Q _=>∃(a o n:Addr) (b x y:Ls),vs=[.ref a,.ref o,.ref n]/\H a=some (.lst (b.map V.str))/\H o=some (.lst (x.map V.str))/\H n=some (.lst (y.map V.str))/\lQ b/\lQ x/\lQ y /\
 ∀t l r H',H t=none->H l=none->(∀l2,r=.ref l2->H l2=none/\l2≠l)->ag H H'->agD H' t l r (merge b x y)->Q (.ref t) H'
theorem Lz:aR [aEN,aEw,"new","own_block","new_block"] [aEN,aEw,"new"] (aE D8):=aZ
theorem ap8{f FF FG su FH:Addr}{fd LA LB xA LC:Fy}(F:ak K aE4 aE4 D8 f fd)(B:bV mg)(xD:ak K aFF aFF DX FF LA)(FI:mg aFF=some (.ref FF))
 (AW:ak K aFx aFx D0 FG LB) (LD:mg aFx=some (.ref FG)) (mi:ak K aEW aEW zY su xA) (uV:mg aEW=some (.ref su)) (xE:ak K aFy aFy D3 FH LC) (FJ:mg aFy=some (.ref FH))
 (T3:aj P w K mg base al 2 FF LA [aEN,aEn] (TQ K)) (ap9:aj P w K mg base al 2 FG LB [aEy,aEn] TX):aj P w K mg base al 3 f fd [aEN,aEw,"new"] T2:=by
 have FD:aj P w K mg base al 1 su xA [aEy,aEn] Lu:=TV mi;have FE:=mi.binds2 (l:=[aEy,aEn]) (fun _ _ _ _ _ _ _ _=>rfl);have aqa:=AW.binds2 (l:=[aEy,aEn]) (fun _ _ _ _ _ _ _ _=>rfl);have T4:=xD.binds2 (l:=[aEN,aEn]) (fun _ _ _ _ _ _ _ _=>rfl);have T6:aj P w K mg base al 1 FH LC [aEN,aEC,aEv] T0:=ap5 xE;have T7:=xE.binds3 (l:=[aEN,aEC,aEv]) (fun _ _ _ _ _ _ _ _ _=>rfl);refine F.okL Lz ?_
 . intro ay A outer s H vs Q E hr h xX dX;obtain⟨a,o,n,b,x,y,rfl,hA,hO,hN,lb,lx,ly,q⟩:=h;have dF:b9 1 _:=hr.mono (by decide);have hu:=hr.units;refine⟨_,(ao (cJ (bM (C4 hu) (pv 1) (pv 0) (bE _))
    (av (aU (eK (aa (eB lO (by rfl) B.list jC (aa (pv 2) ac)) (aa oG ac))))) dq)
    (C5 (fun σ H'=>σ=[some (.ref a),some (.ref o),some (.ref n),none,none]/\H'=H/\¬(y=b\/x=y)) (cJ (PW.pt (CJ (bM (C4 hu) (pv 2) (pv 0) (bE _)) (G7 (bM (C4 hu) (pv 1) (pv 2) (bE _)))))
    (av (aU (eK (aa (eB lO (by rfl) B.list jC (aa (pv 1) ac)) (aa oG ac))))) dq)
    (ao (aP (i:=3) Lz.nd rfl (Or.inl rfl) (aG T3 hr rfl FI xD.kp T4 .nil aD (aa (pv 0) (aa (pv 1) ac))))
    (ao (aP (i:=4) Lz.nd rfl (Or.inl rfl) (aG T3 hr rfl FI xD.kp T4 .nil aD (aa (pv 0) (aa (pv 2) ac))))
    (ao (cJ (G8 (mC (aG ap9 hr rfl LD AW.kp aqa .nil aD (aa (pv 3) (aa (pv 4) ac)))))
    (av (aU (eK (aa (eB lO (by rfl) B.list jC (aa (pv 2) ac)) (aa (eB lO (by rfl) B.list jC (aa (pv 1) ac)) ac))))) dq)
    (ao (cJ (mC (aG FD dF rfl uV mi.kp FE .nil aD (aa (pv 3) (aa (pv 4) ac))))
    (av (aU (eK (aa (aG T6 dF rfl FJ xE.kp T7 .nil aD (aa (pv 0) (aa (pv 3) (aa (pv 4) ac)))) (aa oG ac))))) dq)
    (av (aU (eK (aa (aG T6 dF rfl FJ xE.kp T7 .nil aD (aa (pv 0) (aa (pv 4) (aa (pv 3) ac)))) (aa oG ac))))))))))),?_⟩
   refine mR ?_;intro dD sS dP;have oB:=HY 8 lb.all;have oX:=HY 8 lx.all;have oY:=HY 8 ly.all;have one:∀(m:Ls) (p1:Addr) (H0 H1:Hp),merge b x y=(m,none)->ag H H0->H0 p1=none->ag H0 H1->H1 p1=some (.lst (m.map V.str))->[V.ref p1,V.non].length<=sizeLine/\dJ H1 (.tup [.ref p1,.non]) Q:=fun m p1 H0 H1 em s0 n1 s1 e1=>by
    refine⟨by show 2<=sizeLine;decide,fun p2 H2 n2 s2 e2=>?_⟩;refine q p2 p1 .non H2 ((s0.trans s1).free n2) (s0.free n1) (fun l2 e=>by cases e) ((s0.trans s1).trans s2) ?_;rw[em];exact⟨e2,s2 _ _ e1,rfl⟩
   refine⟨_,rfl,_,rfl,dS x,dS b,tW (ae.of hO),tW (ae.of hA),oX,oB,fun b1 sk=>?_⟩;rw[HZ sk];refine⟨_,rfl,bw (fun h=>?_) (fun h=>?_)⟩
   . refine⟨_,rfl,n,_,rfl,.inl (ae.of hN),fun p1 H1 n1 s1 e1=>?_⟩;exact one y p1 H H1 (agu (cZ h)) (ag.refl _) n1 s1 e1
   have FK:x≠b:=Og (qE.mpr h);refine⟨?_,?_⟩
   . refine⟨_,rfl,_,rfl,dS y,dS b,tW (ae.of hN),tW (ae.of hA),oY,oB,fun b2 fO=>?_⟩;rw[HZ fO];have fin:(y=b\/x=y)->∃v,([some (V.ref a),some (.ref o),some (.ref n),none,none]:St)[1]?=some (some v)/\∃p ys,([v]:Lv)=[.ref p]/\(ae K H p ys\/aW K H p ys)/\dJ H (.lst ys) fun v H1=>[v,V.non].length<=sizeLine/\dJ H1 (.tup [v,.non]) Q:=fun hc=>
      ⟨_,rfl,o,_,rfl,.inl (ae.of hO),fun p1 H1 n1 s1 e1=>one x p1 H H1 (agv FK hc) (ag.refl _) n1 s1 e1⟩
     refine⟨_,rfl,bw (fun h2=>?_) (fun h2=>?_)⟩
     . exact gJ (fin (.inl (cZ h2)))
     . refine⟨_,rfl,_,rfl,dS x,dS y,tW (ae.of hO),tW (ae.of hN),oX,oY,fun b3 uW=>?_⟩;rw[HZ uW];refine⟨_,rfl,bw (fun h3=>?_) (fun h3=>?_)⟩
       . exact fin (.inr (cZ h3))
       . exact⟨rfl,rfl,fun e=>e.elim (fun e=>h2 (bG e)) (fun e=>h3 (bG e))⟩
   rintro σ' H' ⟨rfl,rfl,hc⟩;refine⟨_,rfl,_,rfl,a,o,b,x,rfl,ae.of hA,ae.of hO,fun t1 l1 H1 nt1 nl1 s1 uX=>?_⟩;refine⟨_,rfl,_,rfl,a,n,b,y,rfl,ae.of (s1 _ _ hA),ae.of (s1 _ _ hN),fun t2 l2 H2 nt2 T8 s2 FL=>?_⟩;have sA:=s1.trans s2;have uX:Fw H2 t1 l1 b x:=⟨s2 _ _ uX.tup,s2 _ _ uX.lst⟩;refine⟨_,rfl,_,rfl,t1,t2,_,_,_,_,_,_,rfl,uX.tup,FL.tup,?_⟩;refine⟨_,rfl,bw (fun h4=>?_) (fun h4=>?_)⟩
   . have ap:apart b x y=false:=by unfold apart;simpa using h4
     refine⟨_,rfl,n,_,rfl,.inl (ae.of (sA _ _ hN)),fun p5 H5 n5 s5 e5=>?_⟩;refine⟨_,rfl,o,_,rfl,.inl (ae.of (s5 _ _ (sA _ _ hO))),fun p6 H6 n6 s6 e6=>?_⟩;refine⟨(by show 2<=sizeLine;decide),fun p7 H7 n7 s7 e7=>?_⟩;have sB:=(sA.trans s5).trans s6;refine q p7 p5 (.ref p6) H7 (sB.free n7) (sA.free n5) (fun l2 e=>?_) (sB.trans s7) ?_
     . cases e;exact⟨(sA.trans s5).free n6,(aL e5 n6).symm⟩
     . rw[agw FK hc ap];exact⟨e7,s7 _ _ (s6 _ _ e5),_,rfl,s7 _ _ e6⟩
   . have ap:apart b x y=true:=by unfold apart;simpa using h4
     refine⟨_,rfl,_,rfl,t1,t2,_,_,_,_,_,_,rfl,uX.tup,FL.tup,?_⟩;refine⟨_,rfl,bw (fun h5=>?_) (fun h5=>?_)⟩
     . have h5:=cZ h5;refine⟨_,rfl,_,rfl,_,rfl,a,t1,l1,t2,l2,b,x,y,rfl,sA _ _ hA,uX,FL,lb.len,lx.len,ly.len,fun p8 H8 n8 s8 e8=>?_⟩;exact one _ p8 H2 H8 (agx FK hc ap (by omega)) sA n8 s8 e8
     . have h5:=Og (qE.mpr h5);refine⟨_,rfl,_,rfl,_,rfl,a,t2,l2,t1,l1,b,y,x,rfl,sA _ _ hA,FL,uX,lb.len,ly.len,lx.len,fun p8 H8 n8 s8 e8=>?_⟩;exact one _ p8 H2 H8 (agy FK hc ap (by omega)) sA n8 s8 e8
end
open PySem.Spec
theorem dj.du{H H':Hp}{kv:aw×V}{f:Str×Ls}(h:dj H H' kv f):cT H' kv f:=h.elim fun a aqc=>aqc.elim fun l aqd=>aqd.elim fun b aqe=>aqe.elim fun _ c=>⟨a,l,b,c⟩
def AX:Str:=".own"
def ju(o:Option (Ls))(p:Str)(b m:Ls):Tr:=
 match o with
 | none=>[(p,m)]
 | some br=>(p,(merge b m br).1)::(match (merge b m br).2 with | none=>[] | some z=>[(p++AX,z)])
def Look(tr:Tr)(p:Str):Option (Ls)->Prop
 | none=>p∉tr.map (·.1)
 | some ls=>(p,ls)∈tr
section
variable {P:Program}{w:World}{K:Fg}{mg:Mv}{base:Heap}
def LF:Sp:=fun vs H Q _=>∃(p:Str) (t l1 l2 d:Addr) (kvs:List (aw×V)) (tr:Tr) (b m:Ls) (o:Option (Ls)),vs=[.str p,.ref t,.ref d]/\H t=some (.tup [.ref l1,.ref l2])/\H l1=some (.lst (b.map V.str))/\H l2=some (.lst (m.map V.str))/\H d=some (.dK kvs)/\Paired (cT H) kvs tr /\
 (tr.map (·.1)).Nodup/\Look tr p o/\lQ b/\lQ m/\(∀ls,o=some ls->lQ ls)/\p.length<=60 /\
 ∀e H' more,H e=none->ag H H'->H' e=some (.dK more)->Paired (dj H H') more (ju o p b m)->Q (.ref e) H'
theorem FM:aR [aEg,aEH,aFh,"mine","together",aEk] [aEg,aEH,aFh] (aE Ei):=aZ
theorem aqf{f FN:Addr}{fd LG:Fy}(F:ak K aEQ aEQ Ei f fd)(B:bV mg)(AY:ak K aE4 aE4 D8 FN LG)(LH:mg aE4=some (.ref FN))(aqg:aj P w K mg base al 3 FN LG [aEN,aEw,"new"] T2) :
 aj P w K mg base al 4 f fd [aEg,aEH,aFh] LF:=by
 have aqh:=AY.binds3 (l:=[aEN,aEw,"new"]) (fun _ _ _ _ _ _ _ _ _=>rfl);refine F.okL FM ?_
 . intro ay A outer s H vs Q E hr h xX dX;obtain⟨p,t,l1,l2,d,kvs,tr,b,m,o,rfl,ht,hb,hm,hd,pr,nd,lo,Lb,Lm,Lo,p60,q⟩:=h;have hu:=hr.units;have hk:∀kv f,cT H kv f->kv.1=Sum.inr f.1:=fun kv f z=>z.1;have z0:bZ [V.ref l1,V.ref l2] 0=some (V.ref l1):=rfl;have z1:bZ [V.ref l1,V.ref l2] 1=some (V.ref l2):=rfl;have lo4:AX.length=4:=by decide +kernel
   refine⟨_,(ao (aP (i:=3) FM.nd rfl (Or.inl rfl) (bi eJ (pv 1) ar (fun _ _=>rfl)))
    (ao (cJ (v8 (Ph hu (pv 0) (pv 2)) (by rfl))
     (av (aU (Pn (Pl (pv 0) (eB lO (by rfl) B.list jC (aa (pv 3) ac)) Pk) rfl rfl (by intro z;cases z) (by decide)))) dq)
    (ao (aP (i:=4) FM.nd rfl (Or.inl rfl) (aG aqg hr rfl LH AY.kp aqh .nil aD (aa (bi eJ (pv 1) ar (fun _ _=>rfl)) (aa (pv 3) (aa (qZ hu (pv 2) (pv 0) (fun _ _=>rfl)) ac)))))
    (ao (aP (i:=5) FM.nd rfl (Or.inl rfl) (Pn (Pl (pv 0) (bi eJ (pv 4) ar (fun _ _=>rfl)) Pk) rfl rfl (by intro z;cases z) (by decide)))
    (ao (cJ (bM Zh (bi eJ (pv 4) ar (fun _ _=>rfl)) oG (bE _))
     (av (iZ hu (pv 5) (zr (zq (pv 0)) bH) (bi eJ (pv 4) ar (fun _ _=>rfl)) rfl)) dq)
    (av (aU (pv 5)))))))),?_⟩
   refine zt ?_;intro dD sS Ka ET m9 fD dP;refine⟨_,rfl,t,_,_,_,rfl,rfl,aW.of ht,z1,?_⟩;refine⟨_,rfl,_,rfl,d,_,rfl,df.k (k:=.inr p) hd,_,rfl,?_⟩;cases o with
   | none=>
    rw[DK hk pr lo];refine gJ ?_;refine fun e he=>⟨_,rfl,_,rfl,l2,_,rfl,.inl (ae.of (fL he _ _ hm)),fun q1 H2 n2 s2 e2=>?_⟩;have sH:=(fL (o:=.dK []) he).trans s2;have ee:=s2 _ _ (aI (H:=H) (a:=e) (o:=.dK []));refine⟨ee,[(.inr p,.ref q1)],rfl,(by show 1<=15;decide),?_⟩;exact q e _ [(.inr p,.ref q1)] he (fw sH he) aI (.cons ⟨rfl,q1,rfl,(hX n2).2,aB e2 (hX n2).1⟩ .nil)
   | some ls=>
    obtain⟨v,yH,g1,g2,_,lb,rfl,g3⟩:=rE hk pr (lE (f:=(·.1)) lo);have els:=wG nd lo g2;subst els;rw[g1];refine gH ?_;refine⟨_,rfl,t,_,_,_,rfl,rfl,aW.of ht,z0,_,rfl,_,rfl,_,rfl,d,.ref lb,rfl,(by rw[←g1];exact df.k (k:=.inr p) hd),?_⟩;refine⟨l1,l2,lb,b,m,ls,rfl,hb,hm,g3,Lb,Lm,Lo ls rfl,fun t2 l r H3 nt nl nr s3 pa=>?_⟩;refine fun e he=>⟨_,rfl,_,rfl,t2,_,_,_,rfl,rfl,aW.of (fL he _ _ pa.tup),(rfl:bZ [V.ref l,r] 0=some (V.ref l)),?_⟩;refine⟨aI,[(.inr p,.ref l)],rfl,(by show 1<=15;decide),?_⟩;have AZ:=s3.free he;have sH:ag H (ah (ah H3 e (.dK [])) e (.dK (lK [] [(.inr p,.ref l)]))):=fw (fw s3 AZ) AZ;have xF:∀{b:Addr}{z:HO},H3 b=some z->(ah (ah H3 e (.dK [])) e (.dK (lK [] [(.inr p,.ref l)]))) b=some z:=fun {b z} h=>aB (aB h (aL h he)) (aL h he);have pt:=xF pa.tup;have pl:=xF pa.lst;have pe:(ah (ah H3 e (.dK [])) e (.dK (lK [] [(.inr p,.ref l)]))) e=some (.dK [(.inr p,.ref l)]):=aI;refine⟨_,rfl,t2,_,_,r,rfl,rfl,aW.of pt,rfl,rfl,_,rfl,?_⟩;have bes:=pa.bes
    revert bes
    cases T9:(merge b m ls).2 with
    | none=>
     intro bes;have bes:r=.non:=bes;subst bes;refine aeN rfl ?_;refine⟨_,rfl,q e _ _ AZ sH pe ?_⟩;unfold ju;dsimp only;rw[T9];exact .cons ⟨rfl,l,rfl,nl,pl⟩ .nil
    | some z=>
     intro bes;obtain⟨lz,rfl,hz⟩:=bes;refine agt (fun e=>by cases e) ?_;have pz:=xF hz;have ro:p++Str.ofString ".own"=p++AX:=rfl;have lo5:(Str.ofString ".own").length=4:=lo4;refine⟨_,rfl,t2,_,_,_,rfl,rfl,aW.of pt,(rfl:bZ [V.ref l,V.ref lz] 1=some (V.ref lz)),_,rfl,_,rfl,p,rfl,jK (by omega),p,rfl,jK (by omega),Str.ofString ".own",rfl,fit (by omega) (by omega),?_⟩;refine⟨e,_,rfl,fK.k (k:=.inr (p++AX)) pe (by show 1<sizeLine;decide),?_⟩;have cq:¬(Sum.inr p:aw)=Sum.inr (p++AX):=by
      intro z;have z:=fb Str.length (qA z);rw[jJ]at z;omega
     refine⟨_,rfl,q e _ _ AZ (fw sH AZ) aI ?_⟩;rw[HG _ (by rw[iY cq];rfl)];unfold ju;dsimp only;rw[T9];exact .cons ⟨rfl,l,rfl,nl,aB pl (aO pl pe (by intro z;cases z))⟩ (.cons ⟨rfl,lz,rfl,(nr lz rfl).1,aB pz (aO pz pe (by intro z;cases z))⟩ .nil)
end
def io{β:Type}(tr:List (Str×β))(p:Str):Option β:=(tr.find? fun f=>decide (f.1=p)).map (·.2)
theorem aqk{β:Type}{tr:List (Str×β)}{p:Str}(h:io tr p=none):p∉tr.map (·.1):=by
 unfold io at h;rw[aCn,V5]at h;intro hm;obtain⟨f,hf,e⟩:=cL.mp hm;exact h f hf (bG e)
theorem LI{β:Type}{tr:List (Str×β)}{p:Str}{y:β}(h:io tr p=some y):(p,y)∈tr:=by
 unfold io at h;rw[aCg]at h;obtain⟨f,hf,e⟩:=h;have h1:=List.find?_some hf;have h2:=List.mem_of_find?_eq_some hf;have h1:f.1=p:=cZ h1;rw[←h1,←e];exact h2
theorem aql(tr:Tr)(p:Str):Look tr p (io tr p):=by
 cases h:io tr p with
 | none=>exact aqk h
 | some y=>exact LI h
def putAll(tr more:Tr):Tr:=more.foldl (fun acc f=>bU acc f.1 f.2) tr
theorem aqm{F:aw×V->Str×Ls->Prop}(hk:∀kv f,F kv f->kv.1=Sum.inr f.1){more:List (aw×V)}{ms:Tr}(h:Paired F more ms):∀{kvs:List (aw×V)}{tr:Tr},Paired F kvs tr->Paired F (lK kvs more) (putAll tr ms):=by
 induction h with
 | nil=>exact fun h=>h
 | @cons kv f more ms r t ih=>
  intro kvs tr hp;have e:=hk _ _ r;have:Paired F (cD kvs kv.1 kv.2) (bU tr f.1 f.2):=by
   rw[e];exact jL hk (by rw[←e];exact r) hp
  exact ih this
theorem aqn{more:Tr}:∀{tr:Tr},(tr.map (·.1)).Nodup->((putAll tr more).map (·.1)).Nodup:=by
 induction more with
 | nil=>exact fun h=>h
 | cons f more ih=>exact fun h=>ih (lZ h)
theorem aqo(more:Tr):∀tr:Tr,(putAll tr more).length<=tr.length+more.length:=by
 induction more with
 | nil=>exact fun tr=>aJ _
 | cons f more ih=>
  intro tr;have h1:=ih (bU tr f.1 f.2);have h2:=l8 tr f.1 f.2;show(putAll (bU tr f.1 f.2) more).length<=_;rw[bO];omega
theorem Ua(o:Option (Ls))(p:Str)(b m:Ls):(ju o p b m).length<=2:=by
 unfold ju;cases o with
 | none=>exact sV 1
 | some br=>
  dsimp only;rw[bO];split
  . exact sV 1
  . exact aJ 2
def mj(cw:Tr)(ow:Ow):Tr:=ow.foldl (fun tr e=>putAll tr (ju (io cw e.1) e.1 e.2.1 e.2.2)) cw
theorem aqp(cw:Tr)(ow:Ow)(e:Str×(Ls×Ls)):mj cw (ow++[e])=putAll (mj cw ow) (ju (io cw e.1) e.1 e.2.1 e.2.2):=by
 unfold mj;rw[qI];rfl
end K64
namespace K64
open PySem L2 PySem.Spec PyProof.Rows
open HT (At cf gP)
def LJ(c:Str):Str:=Str.ofString "="++c
theorem iM.off{C:Addr}{H:Hp}{v:V}{p:cM}{L:List Addr}(hL:∀b∈L,∀o,H b=some o->(∀c d f,o≠.ins c d f)/\(∀vs,o≠.tup vs)/\∀vs,o≠.lst vs)(h:iM C H v p):iM C (msk L H) v p:=by
 obtain⟨a,dx,fl,rk,m,pf,pn,ps,po,xs,e,h1,h2,h3,h4,h5,h6,h7⟩:=h;have t:∀{b:Addr}{vs:Lv},H b=some (.tup vs)->msk L H b=some (.tup vs):=fun e=>cg (fun z=>(hL _ z _ e).2.1 _ rfl) e;have l:∀{b:Addr}{vs:Lv},H b=some (.lst vs)->msk L H b=some (.lst vs):=fun e=>cg (fun z=>(hL _ z _ e).2.2 _ rfl) e;exact⟨a,dx,fl,rk,m,pf,pn,ps,po,xs,e,cg (fun z=>(hL _ z _ h1).1 _ _ _ rfl) h1,h2,t h3,l h4,aK h5 fun _ _ aqq=>aqq.elim fun t' aqr=>aqr.elim fun l' aqs=>aqs.elim fun x1 aqt=>aqt.elim fun x2 x3=>⟨t',l',x1,t x2,l x3⟩,l h6,h7.1,l h7.2.1,l h7.2.2⟩
theorem aH.put{H:Hp}{Pt d:Addr}{lp:Pos}{qu:Str}{ks:List (aw×V)}{o:HO}(hd:H d=some (.dK ks))(h:aH H Pt lp qu):aH (ah H d o) Pt lp qu:=by
 have k:∀{b:Addr}{φ:Heap->Prop},H b=some (.ext φ)->ah H d o b=some (.ext φ):=fun e=>aB e (aO e hd (by intro z;cases z))
 rcases h with z | ⟨c',z1,z2⟩
 . exact .inl (k z)
 . exact .inr ⟨c',k z1,k z2⟩
section
variable {P:Program}{w:World}{K:Fg}{mg:Mv}{base:Heap}
end
theorem Ub(cw:Tr)(ow:Ow):(mj cw ow).length<=cw.length+2 * ow.length:=by
 have key:∀(ow:Ow) (tr:Tr),(ow.foldl (fun tr e=>putAll tr (ju (io cw e.1) e.1 e.2.1 e.2.2)) tr).length<=tr.length+2 * ow.length:=by
  intro ow
  induction ow with
  | nil=>exact fun tr=>aJ _
  | cons e ow ih=>
   intro tr;have h1:=ih (putAll tr (ju (io cw e.1) e.1 e.2.1 e.2.2));have h2:=aqo (ju (io cw e.1) e.1 e.2.1 e.2.2) tr;have h3:=Ua (io cw e.1) e.1 e.2.1 e.2.2;rw[ou,bO];omega
 exact key ow cw
def LK(ow:Ow):Prop:=∀e∈ow,e.1.length<=60/\lQ e.2.1/\lQ e.2.2
section
variable {P:Program}{w:World}{K:Fg}{mg:Mv}{base:Heap}
end
open Lcp
seal PE PS c8 PA PT PW PG oH PI mM
structure Uc(ns:Ls)(p:cM):Prop where
 n3:p.fs.length<=3
 ls:∀f∈p.fs,lQ f.2
 o2:p.os.length<=2
 nm:Ln p.nm
 os:∀t∈p.os,(Ln t/\t.length<=20)/\t∈ns
theorem aqu{kvs:List (aw×V)}{cs:Cs}(h:Paired wW kvs cs)(ok:∀e∈cs,Ln e.2):KW kvs:=fun k v hv=>by
 obtain⟨e,he,e1,e2⟩:∃e∈cs,k=.inr e.1/\v=.str e.2:=by
  induction h with
  | nil=>cases hv
  | @cons kv e kvs cs r t ih=>
   unfold bg at hv;rw[vM]at hv;split at hv
   . rename_i z;have z:=cZ z;cases hv;exact⟨e,bB,z▸r.1,r.2⟩
   . obtain⟨e',h1,h2⟩:=ih (fun e he=>ok e (bJ _ he)) hv;exact⟨e',bJ _ h1,h2⟩
 exact⟨_,e2,ok e he⟩
theorem FO{tr:Tr}{x:Str}{ls:Ls}(h:dU tr)(hl:∀y∈ls,Ln y):dU (bU tr x ls):=fun f hf=>by
 rcases rC hf with e | hf
 . rw[e];exact hl
 . exact h f hf
theorem aqv{acc:Tr}{o:Option (Ls)}{p:Str}{b m:Ls}(h:dU acc)(hb:∀x∈b,Ln x)(hm:∀x∈m,Ln x)(ho:∀ls,o=some ls->∀x∈ls,Ln x):dU (putAll acc (ju o p b m)):=by
 unfold ju;cases o with
 | none=>exact FO (tr:=acc) h hm
 | some br=>
  dsimp only;have h1:=FO (x:=p) (ls:=(merge b m br).1) h (agB hb hm (ho br rfl));cases e:(merge b m br).2 with
  | none=>exact h1
  | some z=>
   have ez:z=m:=by
    rcases agA b m br with q | q
    . rw[q]at e;cases e
    . rw[q]at e;exact(gA e).symm
   subst ez;exact FO h1 hm
theorem aqw{cw:Tr}(h:dU cw){ow:Ow}(hw:LK ow):dU (mj cw ow):=by
 have key:∀(ow:Ow) (c:Tr),dU c->(∀e∈ow,(∀x∈e.2.1,Ln x)/\∀x∈e.2.2,Ln x)->dU (ow.foldl (fun tr e=>putAll tr (ju (io cw e.1) e.1 e.2.1 e.2.2)) c):=by
  intro ow
  induction ow with
  | nil=>exact fun c hc _=>hc
  | cons e ow ih=>
   intro c hc hw;rw[ou];have h1:=hw e bB;exact ih _ (aqv hc h1.1 h1.2 fun ls el=>h _ (LI el)) fun e' lU=>hw e' (bJ _ lU)
 exact key ow cw h fun e he=>⟨(hw e he).2.1.all,(hw e he).2.2.all⟩
theorem aqx{cw:Tr}(h:(cw.map (·.1)).Nodup)(ow:Ow):((mj cw ow).map (·.1)).Nodup:=by
 have key:∀(ow:Ow) (c:Tr),(c.map (·.1)).Nodup->((ow.foldl (fun tr e=>putAll tr (ju (io cw e.1) e.1 e.2.1 e.2.2)) c).map (·.1)).Nodup:=by
  intro ow
  induction ow with
  | nil=>exact fun c hc=>hc
  | cons e ow ih=>
   intro c hc;rw[ou];exact ih _ (aqn hc)
 exact key ow cw h
section
variable {P:Program}{w:World}{K:Fg}{mg:Mv}{base:Heap}
def A0(C S T Pt:Addr):Sp:=fun vs H Q _=>∃(sv tv:V) (xs:Lv) (ps:aT) (ch:Ch) (cs:Cs) (ow:Ow) (ns:Ls),vs=[sv,tv]/\iN S H sv xs ps/\dR C H xs ps/\(∀p∈ps,Uc ns p)/\ns.length<=4/\gj T H tv ch cs ow/\pG xs ps ch/\ch.length<=4/\ow.length<=2/\LK ow/\(∀e∈cs,Ln e.2)/\aH H Pt cY cU /\
 ∀d H' kvs (tr:Tr),H d=none->lY Pt H H'->aH H' Pt cY cU->H' d=some (.dK kvs)->Paired (dj H H') kvs tr->(tr.map (·.1)).Nodup->tr.length<=20->dU tr->Q (.ref d) H'
theorem uY:aR [aD7,aEr,aD8,aFh,aEG,aEg,aEH,aEP] [aD7,aEr] (aE rK):=aZ
theorem aqy{f C S T Pt jR sy FP FQ A1 A2:Addr}{fd pH xG LL LM FR FS:Fy}(F:ak K aEz aEz rK f fd)(B:bV mg)(TC:Txt K mg C)(US:uH K mg S jR)(UT:rO K mg T)(pJ:ak K aEa "Shelf.parcel" py jR pH)
 (nG:ak K aEM aEM zZ sy xG) (xH:mg aEM=some (.ref sy)) (A3:ak K aFk aFk Eh FP LL) (LN:mg aFk=some (.ref FP)) (A4:ak K aFm aFm Ej FQ LM) (LO:mg aFm=some (.ref FQ))
 (A5:ak K aEQ aEQ Ei A1 FR) (LP:mg aEQ=some (.ref A1)) (LQ:aj P w K mg base al 4 A1 FR [aEg,aEH,aFh] LF)
 (A6:ak K aEY aEY wL A2 FS) (LR:mg aEY=some (.ref A2)) (aqz:aj P w K mg base al 3 A2 FS [aEP,aD8,aEj] (KY C Pt)) :
 aj P w K mg base al 5 f fd [aD7,aEr] (A0 C S T Pt):=by
 have LS:aj P w K mg base al 2 sy xG [aD7,aEb] (Kk S):=SE nG B US pJ;have LU:=nG.binds2 (l:=[aD7,aEb]) (fun _ _ _ _ _ _ _ _=>rfl);have aqA:aj P w K mg base al 1 FP LL [aD8] (SF C):=aod A3 B TC;have aqB:=A3.binds1 (l:=[aD8]) (fun _ _ _ _ _ _ _=>rfl);have aqC:aj P w K mg base al 1 FQ LM [aD8] (Tc C):=aoU A4 B TC;have aqD:=A4.binds1 (l:=[aD8]) (fun _ _ _ _ _ _ _=>rfl);have aqE:=A5.binds3 (l:=[aEg,aEH,aFh]) (fun _ _ _ _ _ _ _ _ _=>rfl);have aqF:aj P w K mg base al 4 A2 FS [aEP,aD8,aEj] (KY C Pt):=aqz.mono (by decide);have aqG:=A6.binds3 (l:=[aEP,aD8,aEj]) (fun _ _ _ _ _ _ _ _ _=>rfl);refine F.okL uY ?_
 . intro ay A outer s H vs Q E hr h xX dX;obtain⟨sv,tv,xs,ps,ch,cs,ow,ns,rfl,hS,hP,h3,ns4,hT,hV,h4,o2,okO,aqI,tab,q⟩:=h;have hu:=hr.units;have hr2:b9 2 (A.deeper (PyProof.Rows.envOfC aEz (aE rK) s.heap.objs.size f ay)):=hr.mono (by decide);have dF:b9 1 (A.deeper (PyProof.Rows.envOfC aEz (aE rK) s.heap.objs.size f ay)):=hr.mono (by decide);refine⟨_,(ao (aP (i:=2) uY.nd rfl (Or.inl rfl) (aG LS hr2 rfl xH nG.kp LU .nil aD (aa (pv 0) (aa (cW (pv 1) rfl) ac))))
    (ao (aP (i:=3) uY.nd rfl (Or.inl rfl) (aG aqA dF rfl LN A3.kp aqB .nil aD (aa (pv 2) ac)))
    (ao (aP (i:=4) uY.nd rfl (Or.inl rfl) (eB Dd (by rfl) B.dict Oe (aa (pv 3) ac)))
    (ao (Im dY rfl (cW (pv 1) rfl) (oI rfl (fG (aY (i:=5) uY.nd rfl (Or.inl rfl)) (fG (aY (i:=6) uY.nd rfl (Or.inl rfl)) mD)))
    (av (cI (dr GR aCr PySem.F.type_dict_update ahY (pv 4) (aa (aG LQ hr rfl LP A5.kp aqE .nil aD (aa (pv 5) (aa (pv 6) (aa (pv 3) ac)))) ac)))))
    (ao (eA dY rfl (cy (aG aqC dF rfl LO A4.kp aqD .nil aD (aa (pv 2) ac))) (aY (i:=7) uY.nd rfl (Or.inl rfl))
    (av (iZ hu (pv 4) (zr bH (zq (pv 7))) (cX (aa (aG aqF hr rfl LR A6.kp aqG .nil aD (aa (pv 7) (aa (pv 2) (aa (cW (pv 1) rfl) ac)))) ac)) rfl)))
    (av (aU (pv 4)))))))),?_⟩
   refine zt ?_;intro dD sS Ka ET m9 fD dP;obtain⟨a,dx,fl,c,h,o,rfl,t1,t2,t3,t4,t5,⟨hk,t6,t6'⟩,ko,t7,t8⟩:=hT;have hok:=aqu t6' aqI;refine⟨_,rfl,_,rfl,a,T,dx,_,_,rfl,t1,UT.cl,UT.nC,t2,?_⟩;refine⟨sv,c,xs,ps,ch,rfl,hS,t5,hV,by omega,fun D H1 iF px n1 s1 e1 pr pn pc=>?_⟩;have xI:=SH (hP.same s1) pr;have pm:=SI pr;have eI:px.length<=4:=by
    have e:=pn.length_eq;rw[am,am]at e;omega
   have hl:(gU px).length<=12:=by
    have:=aoh (b:=3) (ps:=px) fun p hp=>(h3 p (pm p hp)).n3;omega
   refine⟨_,rfl,D,iF,px,rfl,e1,xI,by omega,fun d H2 kvs cw n2 s2 e2 xJ g2=>?_⟩;refine⟨_,rfl,d,_,rfl,e2,fun d3 H3 n3 s3 e3=>?_⟩;have jk:=s1.trans (s2.trans s3);have nI:H d3=none:=s1.free (s2.free n3);have cO:=s3 _ _ e2;have o3:=jk _ _ t7;have od:d≠o:=(aL (s1 _ _ t7) n2).symm;have A7:d3≠o:=(aL t7 nI).symm;have dd3:d3≠d:=(aL e2 n3).symm;have g18:=g2.len;have Ud:∀f∈cw,lQ f.2:=fun f hf=>by
    obtain⟨p,hp,hf⟩:=Od.mp (g2.sub f hf);exact(h3 p (pm p hp)).ls f hf
   have prD:Paired (cT H3) kvs cw:=aK xJ fun _ _ z=>(z.du).same s3;have rX:Paired (dj H H3) kvs cw:=aK xJ fun kv f z=>by
    obtain⟨z1,l,z2,z3,z4⟩:=z;exact⟨z1,l,z2,s1.free z3,s3 _ _ z4⟩
   have tk:∀(H':Hp) kv f,dj H H' kv f->kv.1=Sum.inr f.1:=fun _ kv f z=>z.1;refine⟨_,rfl,a,T,dx,_,_,rfl,jk _ _ t1,UT.cl,UT.nO,t4,o,ko,rfl,o3,fun ob=>?_⟩;refine JJ (fun i σ H5=>∃u v kt,σ=[some sv,some (.ref a),some (.ref D),some (.ref d),some (.ref d3),u,v,none]/\(∀b z,H3 b=some z->b≠o->b≠d3->H5 b=some z)/\(∀b,H5 b=none->H3 b=none)/\H5 o=some (.frz ob (.dK ko))/\H5 d3=some (.dK kt)/\Paired (dj H H5) kt (mj cw (ow.take i)))
    ⟨none,none,kvs,rfl,fun b z e hb _=>aB e hb,fun b e=>(hX e).2,aI,aB e3 A7,aK rX fun kv f z=>?_⟩ ?_ ?_ ?_
   . obtain⟨z1,l,z2,z3,z4⟩:=z;exact⟨z1,l,z2,z3,aB z4 (aO z4 o3 (by intro z;cases z))⟩
   . intro i σ H5 eY;refine ba ?_;intro tT;obtain⟨u,v,kt,rfl,_,_,h,_⟩:=eY;exact h
   . intro i k v p σ H5 hi gg hp;refine ba ?_;intro tT;obtain⟨u,v',kt,rfl,k5,f5,h5,pV,fE⟩:=gg;obtain⟨⟨x,b1,m1⟩,hf,a1,t,l1,l2,a2,a3,a4,a5⟩:=eG t8 hi;have a1:k=.inr x:=a1;have a2:v=.ref t:=a2;subst a1 a2;have hm:=dG hf;have sp:ag H5 (ah H5 p (.tup [kV (.inr x),.ref t])):=fL hp;have K5:∀{b:Addr}{z:HO},H b=some z->(∀ks,z≠.dK ks)->(ah H5 p (.tup [kV (.inr x),.ref t])) b=some z:=fun {b z} e hz=>sp _ _ (k5 _ _ (jk _ _ e) (aO e t7 (hz _)) (fun y=>by rw[y,nI]at e;cases e));have D5:=sp _ _ (k5 _ _ cO od dd3.symm);refine⟨p,_,rfl,aW.of aI,rfl,_,_,rfl,_,_,rfl,rfl,?_⟩;refine⟨_,rfl,.inr (.inr (.inl ⟨rfl,.inl ⟨_,sp _ _ pV⟩⟩)),_,rfl,_,rfl,_,rfl,?_⟩;refine⟨x,t,l1,l2,d,kvs,cw,b1,m1,io cw x,rfl,K5 a3 (by intro ks z;cases z),K5 a4 (by intro ks z;cases z),K5 a5 (by intro ks z;cases z),D5,?_,g2.nd,aql cw x,(okO _ hm).2.1,(okO _ hm).2.2,?_,(okO _ hm).1,fun e H6 more n6 s6 e6 Ue=>?_⟩
     . exact aK prD fun kv f z=>by
        obtain⟨z1,l,z2,z3⟩:=z;exact⟨z1,l,z2,sp _ _ (k5 _ _ z3 (aO z3 o3 (by intro z;cases z)) (aO z3 e3 (by intro z;cases z)))⟩
     . intro ls e;exact Ud _ (LI e)
     have xK:=sp.trans s6;have ed3:d3≠e:=aL (sp _ _ pV) n6;have pl:=bq fE;have ml:=bq Ue;have h1:=Ub cw (ow.take i);have h2:=Ua (io cw x) x b1 m1;have h3':(ow.take i).length<=2:=by rw[eh];omega
     refine⟨d3,e,kt,more,rfl,rfl,ed3,xK _ _ pV,e6,kM (by omega),?_⟩;refine⟨_,_,_,rfl,fun b z e hb uW=>aB (xK _ _ (k5 _ _ e hb uW)) uW,fun b e=>f5 b (xK.free (hX e).2),aB (xK _ _ h5) A7.symm,aI,?_⟩;rw[gC,hf];show Paired _ _ (mj cw (ow.take i++[(x,b1,m1)]));rw[aqp];refine aK (aqm (F:=dj H H6) (tk H6) (aK Ue fun kv f z=>?_) (aK fE fun _ _=>dj.same xK)) fun kv f=>dj.put (xK _ _ pV);obtain⟨z1,l,z2,z3,z4⟩:=z;exact⟨z1,l,z2,jk.free (f5 _ (sp.free z3)),z4⟩
   . intro σ H5 gi;refine ba ?_;intro tT;obtain⟨u,v,kt,rfl,k5,f5,h5,pV,fE⟩:=gi;rw[bq t8,eT]at fE;have sF:∀b z,H3 b=some z->b≠d3->(ah H5 o (.dK ko)) b=some z:=fun b z e hb=>by
      by_cases ho:b=o
      . subst ho;rw[o3]at e;cases e;exact aI
      . exact aB (k5 b z e ho hb) ho
     have sH:ag H (ah H5 o (.dK ko)):=fun b z e=>sF b z (jk _ _ e) (fun y=>by rw[y,nI]at e;cases e);have FT:ag H1 (ah H5 o (.dK ko)):=fun b z e=>sF b z (s3 _ _ (s2 _ _ e)) (fun y=>by rw[y,s2.free n3]at e;cases e);refine⟨_,rfl,D,iF,px,rfl,FT _ _ e1,xI.same FT,by omega,fun p hp=>(h3 p (pm p hp)).o2,fun r H6 cm n6 s6 e6 cnd LV cl=>?_⟩;refine⟨r,rfl,⟨_,ae.of e6⟩,?_⟩;have FU:=sH.trans s6;have Uf:d3≠Pt:=aH.new tab nI;have sG:aH H6 Pt cY cU:=tab.same FU;have rP:r≠Pt:=aH.ne sG e6 (by intro φ z;cases z);have cln:∀x∈cm,Ln x/\x.length<=20:=fun x hx=>by
      obtain⟨p,hp,hx⟩:=(LV x).mp hx;exact((h3 p (pm p hp)).os x hx).1
     have dd:∀{b:Addr}{o:HO},H6 b=some o->b≠Pt->b≠d3->msk [Pt,d3] H6 b=some o:=fun e n1 n2=>cg (by simp[n1,n2]) e;have LW:=s6 _ _ (aB (p:=o) (o':=.dK ko) pV A7);have hP6:dR C (msk [Pt,d3] H6) iF px:=aK (xI.same (FT.trans s6)) fun _ _ z=>z.off fun b hb o eo=>by
      rcases aX.mp hb with e | e
      . obtain⟨φ,w⟩:=aH.at sG;rw[e,w]at eo;cases eo;exact⟨(by intro _ _ _ z;cases z),(by intro _ z;cases z),(by intro _ z;cases z)⟩
      . rw[bj.mp e,LW]at eo;cases eo;exact⟨(by intro _ _ _ z;cases z),(by intro _ z;cases z),(by intro _ z;cases z)⟩
     have Ug:∀{b:Addr}{o:HO},H b=some o->(∀φ,o≠.ext φ)->msk [Pt,d3] H6 b=some o:=fun e n=>dd (FU _ _ e) (aH.ne tab e n) (aL e nI);have a6:=Ug t1 (by intro φ z;cases z);have KU:=Ug t6 (by intro φ z;cases z);have D6:msk [Pt,d3] H6 D=some (.lst iF):=dd (s6 _ _ (FT _ _ e1)) (aH.new tab n1) (aL (s2 _ _ e1) n3);have r6:msk [Pt,d3] H6 r=some (.lst (cm.map V.str)):=dd e6 rP (aO e6 LW (by intro z;cases z));have tl:=Ub cw ow;have pr6:Paired (dj H H6) kt (mj cw ow):=aK fE fun kv f z=>by
      obtain⟨z1,l,z2,z3,z4⟩:=z;exact⟨z1,l,z2,z3,s6 _ _ (aB z4 (aO z4 h5 (by intro z;cases z)))⟩
     have ok0:dU (mj cw ow):=aqw (fun f hf=>(Ud f hf).all) okO;have cl4:cm.length<=4:=ce (kO cnd fun x hx=>by
      obtain⟨p,hp,hx⟩:=(LV x).mp hx;exact((h3 p (pm p hp)).os x hx).2) ns4
     refine gF (xs:=cm.map V.str) (fun i σ H7=>∃u' kvs tr,σ=[some sv,some (.ref a),some (.ref D),some (.ref d),some (.ref d3),u,v,u']/\ag (msk [Pt,d3] H6) H7/\aH H7 Pt cY cU/\H7 d3=some (.dK kvs)/\Paired (dj H H7) kvs tr/\(tr.map (·.1)).Nodup/\tr.length<=16+i/\dU tr)
      ⟨none,kt,mj cw ow,rfl,bF,sG,LW,pr6,aqx g2.nd ow,by omega,ok0⟩ ?_ ?_ ?_
     . intro i σ H7 hi eY;obtain⟨u',kvs,tr,rfl,sm,_⟩:=eY;exact ae.of (sm _ _ r6)
     . intro i v0 σ H7 hv gg;refine ba ?_;intro tT;obtain⟨u',kvs,tr,rfl,sm,pX,sI,FV,LX,l7,LY⟩:=gg;obtain⟨x,hx,rfl⟩:∃x,cm[i]?=some x/\v0=.str x:=by
        rw[db]at hv;cases e:cm[i]? with
        | none=>rw[e]at hv;cases hv
        | some x=>rw[e]at hv;cases hv;exact⟨x,rfl,rfl⟩
       have xm:=dG hx;obtain⟨xl,AV⟩:=cln x xm;have hlen:=bq FV;have aDB:i<cm.length:=(ci.mp hx).1;refine⟨_,rfl,_,rfl,_,rfl,a,T,dx,_,_,rfl,sm _ _ a6,UT.cl,UT.nH,t3,?_⟩;refine⟨D,h,x,iF,px,hk,rfl,sm _ _ D6,hP6.same sm,by omega,(LV x).mp xm,sm _ _ KU,hok,fun p hp=>(h3 p (pm p hp)).nm,pX,fun r' H8 kp Uh lr nb=>?_⟩;refine⟨(by show 1<=sizeLine;decide),fun l H9 n9 s9 e9=>?_⟩;have Ui:=s9 _ _ (kp _ _ sI Uf);have tb9:aH H9 Pt cY cU:=Uh.same s9;have e1':(Str.ofString "=").length<=sizeLine:=jK (by decide +kernel);refine⟨_,rfl,_,rfl,e1',_,rfl,x,rfl,jK (by omega),x,rfl,fit (by decide +kernel) (by omega),?_⟩;refine⟨d3,_,rfl,fK.k (k:=.inr (LJ x)) Ui (bI (by omega)),?_⟩;have l9:l≠d3:=(aL (kp _ _ sI Uf) n9).symm;refine⟨_,cD kvs (.inr (LJ x)) (.ref l),bU tr (LJ x) [r'],rfl,fun b o eb=>?_,aH.put Ui tb9,aI,?_,lZ LX,ce (l8 tr _ _) (by omega),FO LY fun y hy=>by rw[bj.mp hy];exact lr⟩
       . have AK:b∉[Pt,d3]:=fun z=>by
          unfold msk at eb;rw[aq z]at eb;cases eb
         simp only[aX,fe,ff,lC]at AK;exact aB (s9 _ _ (kp _ _ (sm _ _ eb) AK.1)) AK.2
       . have l0:H l=none:=by
          cases hz:H l with
          | none=>rfl
          | some o=>
           have lP:l≠Pt:=fun z=>by
            obtain⟨φ,w⟩:=aH.at Uh;rw[z,w]at n9;cases n9
           rw[kp _ _ (sm _ _ (dd (FU _ _ hz) lP (aL hz nI))) lP]at n9;cases n9
         refine jL (tk _) ⟨rfl,l,rfl,l0,aB e9 l9⟩ (aK FV fun kv f z=>?_);obtain⟨z1,l',z2,z0,z3⟩:=z;exact⟨z1,l',z2,z0,aB (s9 _ _ (kp _ _ z3 (aH.ne pX z3 (by intro φ z;cases z)))) (aO z3 sI (by intro z;cases z))⟩
     . intro σ H7 gi;obtain⟨u',kvs,tr,rfl,sm,pX,sI,FV,LX,l7,LY⟩:=gi;rw[am]at l7;exact⟨_,rfl,q d3 H7 kvs tr nI (fun b o eb nb=>sm _ _ (dd (FU _ _ eb) nb (aL eb nI))) pX sI FV LX (by omega) LY⟩
end
end K64
namespace K64
open PySem L2 PySem.Spec PyProof.Rows
seal PE PS c8 PA PT PW PG oH PI mM
theorem Uj{K:Fg}{a:Addr}{g:TG}{tb:TS}{D:Ends}{σ:L2.St}{H:Hp}(hl:ae K H a [])(hd:D.nx σ H) :
 ∃W:Nat->Nat->L2.St->Hp->Prop,(∃m,W 0 m σ H)/\∀i m σ H,W i m σ H ->
  ((zF K a).stop i H/\D.nx σ H)\/((zF K a).go i H/\∃N:L2.St->Hp->Prop,(∀σ' H',N σ' H'->∃m',m'<m/\W (i+1) m' σ' H')/\∀x H',(zF K a).yld i H x H'->g x σ H' fun σ2 H2=>tb { D with nx:=N,ct:=N,bk:=D.nx } σ2 H2):=
 ⟨fun i m σ' H'=>i=0/\σ'=σ/\H'=H,⟨0,rfl,rfl,rfl⟩,fun i m σ' H' aqV=>aqV.elim fun e1 aqW=>aqW.elim fun e2 e3=>by subst e1 e2 e3;exact .inl ⟨⟨[],hl,aJ _⟩,hd⟩⟩
theorem Uk{X:Cx}(K:Fg){es:List Expr}{k:Nat}{pos:Pos}{t:qR}{n:Nat}(hc:X.calm=true)(h:oH X es t)(hK:X.K=K:=by rfl)
 (hn:(assignEach es X.env).length=n:=by rfl) (fg:(assignEach es X.env).findIdx? (·.1)=none:=by rfl):PG X (.Tuple es k pos) (tE K n t):=hK▸oI hc h hn fg
theorem pY{H H2:Hp}{p:Addr}{o:HO}(n:H p=none)(s:ag H H2):ag H (ah H2 p o):=fun b u e=>aB (s _ _ e) (aL e n)
theorem pZ{α:Type}{l:List α}{i:Nat}{x:α}(h:l[i]?=some x):l.take (i+1)=l.take i++[x]:=by rw[gC,h];rfl
section
variable {P:Program}{w:World}{K:Fg}{mg:Mv}{base:Heap}
abbrev sJ (p:cM):Ls:=p.fs.map (·.1)
def Ul(C:Addr):Sp:=fun vs H Q _=>∃(v:V) (p:cM),vs=[v]/\iM C H v p/\p.fs.length<=100/\dJ H (.lst ((sJ p).map V.str)) Q
theorem aqX:aR [aEa] [aEa] (aE Aa):=aZ
theorem aqY{f C:Addr}{fd:Fy}(F:ak K aEX aEX Aa f fd)(T:Txt K mg C):aj P w K mg base al 1 f fd [aEa] (Ul C):=by
 refine F.okL aqX ?_
 . intro ay A outer s H vs Q E hr h xX dX;obtain⟨v,p,rfl,⟨a,dx,fl,rk,m,pf,pn,ps,po,xs,rfl,hA,hF,hM,jl,kS,_⟩,E2,q⟩:=h;have hl:=bq kS;refine⟨_,(av (aU (fM [aEg,aEp] [] [] dL rfl (cy (cW (pv 0) rfl)) (fun _ _ _ _=>(Uk (n:=2) K rfl (fG (aY (i:=0) (show List.Nodup ([aEg,aEp]:Ls) by decide +kernel) rfl (Or.inl rfl)) (fG (aY (i:=1) (show List.Nodup ([aEg,aEp]:Ls) by decide +kernel) rfl (Or.inl rfl)) mD)))) (fun _ _ _ _=>ge) (fun _ _ _ _=>(pv 0))))),?_⟩;refine⟨_,rfl,a,C,dx,_,_,rfl,hA,T.cl,T.nF,hF.files,pf,rfl,⟨_,ae.of jl⟩,?_⟩;intro D hD;refine Ko (σ0:=[none,none]) hD (ae.of jl) (fun σ=>∃u v,σ=[u,v]) (fun j zs _=>zs=((sJ p).take j).map V.str) ⟨_,_,rfl⟩ rfl ?_ ?_
   . rintro j y zs σ H3 k hy ⟨u,v,rfl⟩ cO h3 rfl eW;obtain⟨f,hf,t,l,rfl,f1,f2⟩:=eG kS hy;have aN:=(ci.mp hf).1;have IG:(sJ p)[j]?=some f.1:=by rw[db,hf];rfl
     refine⟨t,_,rfl,aW.of (h3 _ _ f1),rfl,_,_,rfl,_,_,rfl,rfl,?_⟩;refine⟨_,rfl,eW _ _ _ ⟨_,_,rfl⟩ (ag.refl _) (bI (by rw[am,eh];omega)) ?_⟩;rw[pZ IG,cQ];rfl
   . rintro zs H3 cO h3 rfl;have e:(sJ p).take xs.length=sJ p:=V3 (by rw[am];omega);rw[e]at cO;exact q D H3 hD h3 cO
def uZ(C:Addr):Sp:=fun vs H Q _=>∃(v:V) (a:Addr) (xs:Lv) (p:cM) (ps:aT),vs=[v,.ref a]/\iM C H v p/\H a=some (.lst xs)/\dR C H xs ps/\ps.length<=9/\p.fs.length<=9/\(∀o∈ps,o.fs.length<=9)/\(∀o∈ps,o.nm≠p.nm->∀x∈sJ p,x∉sJ o)/\dJ H (.lst []) Q
theorem FW:aR [aEa,aD8,"faults","number","claim"] [aEa,aD8] (aE Ed):=aZ
theorem aqZ{f C:Addr}{fd:Fy}(F:ak K aFc aFc Ed f fd)(B:bV mg)(T:Txt K mg C):aj P w K mg base al 1 f fd [aEa,aD8] (uZ C):=by
 refine F.okL FW ?_
 . intro ay A outer s H vs Q E hr h xX dX;obtain⟨v,a,xs,p,ps,rfl,⟨b,dx,fl,rk,m,pf,pn,jn,po,fx,rfl,hA,hF,hM,jl,kS,hO,hR,A8,_⟩,ha,bp,l1,l2,l3,l4,q⟩:=h;refine⟨_,(ao (aP (i:=2) FW.nd rfl (Or.inl rfl) (cX ac))
    (ao (eA dY rfl (Q7 (by rfl) B.enumerate (aa (cW (pv 0) rfl) ac)) (oI rfl (fG (aY (i:=3) FW.nd rfl (Or.inl rfl)) (fG (aY (i:=4) FW.nd rfl (Or.inl rfl)) mD)))
    OD)
    (av (aU (pv 2))))),?_⟩
   refine⟨(by show 0<=sizeLine;decide),fun p1 H1 n1 s1 e1=>?_⟩;refine⟨_,rfl,b,C,dx,_,_,rfl,s1 _ _ hA,T.cl,T.nE,hF.needs,pn,rfl,⟨_,ae.of (s1 _ _ A8)⟩,?_⟩;exact Uj (ae.of (s1 _ _ A8)) ⟨_,rfl,q p1 H1 n1 s1 e1⟩
theorem A9:aR [aEa,aD8,aFs,"faults","number","claim"] [aEa,aD8] (aE Ee):=aZ
theorem aq0{f C:Addr}{fd:Fy}(F:ak K aFd aFd Ee f fd)(B:bV mg)(T:Txt K mg C):aj P w K mg base al 1 f fd [aEa,aD8] (uZ C):=by
 refine F.okL A9 ?_
 . intro ay A outer s H vs Q E hr h xX dX;obtain⟨v,a,xs,p,ps,rfl,⟨b,dx,fl,rk,m,pf,pn,jn,po,fx,rfl,hA,hF,hM,jl,kS,hO,hR,_,A8⟩,ha,bp,l1,l2,l3,l4,q⟩:=h;have hlen:=bq bp;refine⟨_,(ao (q9 (i:=2) [aEn] [aEa] [0] A9.nd rfl rfl dL rfl (cy (pv 1)) (fun _ _ _ _=>(aY (i:=0) (show List.Nodup ([aEn,aEa]:Ls) by decide +kernel) rfl (Or.inl rfl))) (fun _ _ _ _=>o4 (bM yM (ib K (pv 0) rfl) (ib K (pv 1) rfl) (bE _))) (fun _ _ _ _=>(pv 0)))
    (ao (aP (i:=3) A9.nd rfl (Or.inl rfl) (cX ac))
    (ao (eA dY rfl (Q7 (by rfl) B.enumerate (aa (cW (pv 0) rfl) ac)) (oI rfl (fG (aY (i:=4) A9.nd rfl (Or.inr rfl)) (fG (aY (i:=5) A9.nd rfl (Or.inl rfl)) mD)))
    OD)
    (av (aU (pv 3)))))),?_⟩
   refine⟨_,rfl,a,rfl,⟨_,ae.of ha⟩,?_⟩;intro D hD;refine rW (σ0:=[none,some (.ref b)]) hD (ae.of ha) (fun σ=>∃v,σ=[v,some (.ref b)]) (fun j zs _=>zs.length<=j) ⟨_,rfl⟩ (aJ _) ?_ ?_
   . rintro j y zs σ H3 k k' hy ⟨v,rfl⟩ cO h3 zl eW iO;obtain⟨o,ho,hE⟩:=eG bp hy;have aN:=(ci.mp ho).1;obtain⟨b',iP,rB,Fd,m',Um,Uo,Up,Uq,Ur,rfl,FX,FY,_⟩:=id hE;refine⟨_,rfl,b',C,iP,_,_,rfl,h3 _ _ FX,T.cl,T.nN,FY.name,_,rfl,b,C,dx,_,_,rfl,h3 _ _ hA,T.cl,T.nN,hF.name,rfl,_,rfl,?_⟩;refine bw (fun h=>?_) (fun h=>?_)
     . exact⟨_,rfl,eW _ _ _ ⟨_,rfl⟩ (ag.refl _) (bI (by omega)) (by rw[bh,iW];omega)⟩
     . exact iO _ _ ⟨_,rfl⟩ (ag.refl _) (by omega)
   . rintro zs H3 cO h3 zl;refine ba ?_;intro tT;refine⟨(by show 0<=sizeLine;decide),fun p1 H1 n1 s1 e1=>?_⟩;have Ba:=h3.trans s1;refine⟨_,rfl,b,C,dx,_,_,rfl,Ba _ _ hA,T.cl,T.nS,hF.shuts,jn,rfl,⟨_,ae.of (Ba _ _ A8)⟩,?_⟩;exact Uj (ae.of (Ba _ _ A8)) ⟨_,rfl,q p1 H1 (h3.free n1) Ba e1⟩
theorem Bb:aR [aEa,aD8,aFs,"faults",aEn,"paths"] [aEa,aD8] (aE Ef):=aZ
theorem aq1{f vb C:Addr}{fd Bc:Fy}(F:ak K aE5 aE5 Ef f fd)(T:Txt K mg C)(sK:ak K aEX aEX Aa vb Bc)(xL:mg aEX=some (.ref vb)):aj P w K mg base al 2 f fd [aEa,aD8] (uZ C):=by
 have Us:aj P w K mg base al 1 vb Bc [aEa] (Ul C):=aqY sK T;have Ut:=sK.binds1 (l:=[aEa]) (fun _ _ _ _ _ _ _=>rfl);refine F.okL Bb ?_
 . intro ay A outer s H vs Q E hr h xX dX;obtain⟨v,a,xs,p,ps,rfl,hP,ha,bp,l1,l2,l3,l4,q⟩:=h;obtain⟨b,dx,fl,rk,m,pf,pn,jn,po,fx,rfl,hA,hF,_⟩:=id hP;have hlen:=bq bp;refine⟨_,(ao (q9 (i:=2) [aEn] [aEa] [0] Bb.nd rfl rfl dL rfl (cy (pv 1)) (fun _ _ _ _=>(aY (i:=0) (show List.Nodup ([aEn,aEa]:Ls) by decide +kernel) rfl (Or.inl rfl))) (fun _ _ _ _=>o4 (bM Q8 (ib K (pv 0) rfl) (ib K (pv 1) rfl) (bE _))) (fun _ _ _ _=>(pv 0)))
    (ao (aP (i:=3) Bb.nd rfl (Or.inl rfl) (cX ac))
    (ao (eA dY rfl (cy (pv 2)) (aY (i:=4) Bb.nd rfl (Or.inr rfl))
    (ao (aP (i:=5) Bb.nd rfl (Or.inr rfl) (aG Us hr rfl xL sK.kp Ut .nil aD (aa (pv 4) ac)))
     (av (cI (dr gD qJ qK mK (pv 3) (aa (fM [aEg] [aEa,aEn,"paths"] [0,4,5] dL rfl (cy (aG Us hr rfl xL sK.kp Ut .nil aD (aa (pv 0) ac))) (fun _ _ _ _=>(aY (i:=0) (show List.Nodup ([aEg,aEa,aEn,"paths"]:Ls) by decide +kernel) rfl (Or.inl rfl))) (fun _ _ _ _=>o4 (bM (P1 K) (pv 0) (pv 3) (by rfl))) (fun _ _ _ _=>(eK (aa bH (aa (ib K (pv 1) rfl) (aa (ib K (pv 2) rfl) (aa (pv 0) ac))))))) ac))))))
    (av (aU (pv 3)))))),?_⟩
   refine⟨_,rfl,a,rfl,⟨_,ae.of ha⟩,?_⟩;intro D hD;refine rW (σ0:=[none,some (.ref b)]) hD (ae.of ha) (fun σ=>∃v,σ=[v,some (.ref b)]) (fun j zs _=>zs.length<=j/\∃os,dR C H zs os/\∀o∈os,o∈ps/\o.nm≠p.nm) ⟨_,rfl⟩ ⟨aJ _,[],.nil,fun _ h=>nomatch h⟩ ?_ ?_
   . rintro j y zs σ H3 k k' hy ⟨v,rfl⟩ cO h3 ⟨zl,os,zp,zo⟩ eW iO;obtain⟨o,ho,hE⟩:=eG bp hy;have aN:=(ci.mp ho).1;obtain⟨b',iP,rB,Fd,m',Um,Uo,Up,Uq,Ur,rfl,FX,FY,_⟩:=id hE;refine⟨_,rfl,b',C,iP,_,_,rfl,h3 _ _ FX,T.cl,T.nN,FY.name,_,rfl,b,C,dx,_,_,rfl,h3 _ _ hA,T.cl,T.nN,hF.name,_,_,rfl,rfl,_,rfl,?_⟩;refine bw (fun h=>?_) (fun h=>?_)
     . refine⟨_,rfl,eW _ _ _ ⟨_,rfl⟩ (ag.refl _) (bI (by omega)) ⟨by rw[bh,iW];omega,os++[o],iI hE zp,fun o' iz=>?_⟩⟩
       rcases bK.mp iz with z | z
       . exact zo o' z
       . rw[bj.mp z];refine⟨dG ho,fun e=>?_⟩;have h:=cZ h;rw[e]at h;exact Ww _ h
     . exact iO _ _ ⟨_,rfl⟩ (ag.refl _) ⟨by omega,os,zp,zo⟩
   . rintro oz H0 d0 s0 ⟨zl,os,oz0,zo⟩;refine ba ?_;intro tT;refine⟨(by show 0<=sizeLine;decide),fun p1 H1 n1 s1 e1=>?_⟩;refine⟨_,rfl,D,rfl,⟨_,ae.of (s1 _ _ d0)⟩,?_⟩;have Ba:=s0.trans s1;refine gF (xs:=oz) (fun i σ H2=>∃u v,σ=[some (.ref b),some (.ref a),some (.ref D),some (.ref p1),u,v]/\ag H0 H2/\H2 p1=some (.lst [])) ⟨none,none,rfl,s1,e1⟩ ?_ ?_ ?_
     . rintro i σ H2 hi ⟨u,v,rfl,s2,e2⟩;exact ae.of (s2 _ _ d0)
     . intro i z σ H2 hz hQ;refine ba ?_;intro tT;obtain⟨u,v,rfl,s2,e2⟩:=hQ;obtain⟨o,ho,hE⟩:=eG oz0 hz;obtain⟨om,on⟩:=zo o (dG ho);have lo:=l3 o om;obtain⟨b',iP,rB,Fd,m',Um,Uo,Up,Uq,Ur,rfl,FX,FY,_⟩:=id hE;have vc:=s0.trans s2;refine⟨_,rfl,_,o,rfl,hE.same vc,by omega,fun l5 H5 n5 s5 e5=>?_⟩;have s25:=vc.trans s5;refine⟨_,rfl,.inl ⟨rfl,_,ae.of (s5 _ _ e2)⟩,_,rfl,_,p,rfl,hP.same s25,by omega,fun l6 H6 n6 s6 e6=>⟨l6,rfl,⟨_,ae.of e6⟩,?_⟩⟩;intro D7 jU;refine rW (σ0:=[none,some (.ref b),some (.ref b'),some (.ref l5)]) jU (ae.of e6) (fun σ=>∃v,σ=[v,some (.ref b),some (.ref b'),some (.ref l5)]) (fun j jT H7=>jT=[]) ⟨_,rfl⟩ rfl ?_ ?_
       . rintro j y jT σ H7 k k' hy ⟨v,rfl⟩ sI h7 rfl eW iO;rw[db]at hy;cases hx:(sJ p)[j]? with
         | none=>rw[hx]at hy;cases hy
         | some x=>
          rw[hx]at hy;cases hy;refine⟨_,rfl,_,rfl,l5,_,rfl,.inl (ae.of (h7 _ _ (s6 _ _ e5))),rfl,AF _,_,rfl,?_⟩;refine bw (fun h=>?_) (fun h=>?_)
          . exact absurd (AL.mp h) (l4 o om on x (dG hx))
          . exact iO _ _ ⟨_,rfl⟩ (ag.refl _) rfl
       . rintro jT H7 sI h7 rfl;have gy:=s5.trans (s6.trans h7);have e27:=gy _ _ e2;refine⟨p1,D7,_,_,rfl,rfl,e27,sI,by decide,?_⟩;exact⟨_,_,rfl,pY n1 (s2.trans gy),aI⟩
     . rintro σ H2 ⟨u,v,rfl,s2,e2⟩;exact⟨_,rfl,q p1 H2 (s0.free n1) (s0.trans s2) e2⟩
def Uu(C S:Addr):Sp:=fun vs H Q _=>∃(sv:V) (c:Addr) (xs:Lv) (ps:aT) (ch:Ch) (ns:Ls),vs=[sv,.ref c]/\iN S H sv xs ps/\dR C H xs ps/\Apart ns ps/\di H c ch/\pG xs ps ch/\ch.length<=4/\dJ H (.lst []) Q
theorem FZ:aR [aD7,aEb,aD8,"faults",aEa] [aD7,aEb] (aE Eb):=aZ
theorem aq5{f C S jR sy F0 F1 F2 vb:Addr}{fd pH xG LZ L0 L1 Bc:Fy}(F:ak K aFz aFz Eb f fd)(B:bV mg)(T:Txt K mg C)(US:uH K mg S jR)(pJ:ak K aEa "Shelf.parcel" py jR pH)
 (nG:ak K aEM aEM zZ sy xG) (xH:mg aEM=some (.ref sy)) (Bd:ak K aFc aFc Ed F0 LZ) (L3:mg aFc=some (.ref F0)) (Be:ak K aFd aFd Ee F1 L0) (L4:mg aFd=some (.ref F1))
 (Bf:ak K aE5 aE5 Ef F2 L1) (L6:mg aE5=some (.ref F2)) (sK:ak K aEX aEX Aa vb Bc) (xL:mg aEX=some (.ref vb)):aj P w K mg base al 3 f fd [aD7,aEb] (Uu C S):=by
 have LS:aj P w K mg base al 2 sy xG [aD7,aEb] (Kk S):=SE nG B US pJ;have LU:=nG.binds2 (l:=[aD7,aEb]) (fun _ _ _ _ _ _ _ _=>rfl);have aq6:aj P w K mg base al 2 F0 LZ [aEa,aD8] (uZ C):=(aqZ Bd B T).mono (by decide);have aq7:=Bd.binds2 (l:=[aEa,aD8]) (fun _ _ _ _ _ _ _ _=>rfl);have aq8:aj P w K mg base al 2 F1 L0 [aEa,aD8] (uZ C):=(aq0 Be B T).mono (by decide);have aq9:=Be.binds2 (l:=[aEa,aD8]) (fun _ _ _ _ _ _ _ _=>rfl);have ara:aj P w K mg base al 2 F2 L1 [aEa,aD8] (uZ C):=aq1 Bf T sK xL;have arb:=Bf.binds2 (l:=[aEa,aD8]) (fun _ _ _ _ _ _ _ _=>rfl);refine F.okL FZ ?_
 . intro ay A outer s H vs Q E hr h xX dX;obtain⟨sv,c,xs,ps,ch,ns,rfl,hS,hP,Bg,hc,hV,h4,q⟩:=h;refine⟨_,(ao (aP (i:=2) FZ.nd rfl (Or.inl rfl) (aG LS hr rfl xH nG.kp LU .nil aD (aa (pv 0) (aa (pv 1) ac))))
    (ao (aP (i:=3) FZ.nd rfl (Or.inl rfl) (cX ac))
    (ao (eA dY rfl (cy (pv 2)) (aY (i:=4) FZ.nd rfl (Or.inl rfl))
    (ao (cI (dr gD qJ qK mK (pv 3) (aa (aG aq6 hr rfl L3 Bd.kp aq7 .nil aD (aa (pv 4) (aa (pv 2) ac))) ac)))
     (ao (cI (dr gD qJ qK mK (pv 3) (aa (aG aq8 hr rfl L4 Be.kp aq9 .nil aD (aa (pv 4) (aa (pv 2) ac))) ac)))
     (av (cI (dr gD qJ qK mK (pv 3) (aa (aG ara hr rfl L6 Bf.kp arb .nil aD (aa (pv 4) (aa (pv 2) ac))) ac)))))))
    (av (aU (dC ag6 (by rfl) B.sorted yG (aa (pv 3) ac))))))),?_⟩
   refine⟨_,rfl,_,rfl,sv,c,xs,ps,ch,rfl,hS,hc,hV,by omega,fun D H1 iF px n1 s1 e1 pr pn pc=>?_⟩;have xI:=SH (hP.same s1) pr;have pm:=SI pr;have eI:px.length<=4:=by
    have e:=pn.length_eq;rw[am,am]at e;omega
   refine⟨(by show 0<=sizeLine;decide),fun p1 H2 n2 s2 e2=>?_⟩;refine⟨_,rfl,D,rfl,⟨_,ae.of (s2 _ _ e1)⟩,?_⟩;refine gF (xs:=iF) (fun i σ H3=>∃u,σ=[some sv,some (.ref c),some (.ref D),some (.ref p1),u]/\ag H1 H3/\H3 p1=some (.lst [])) ⟨none,rfl,s2,e2⟩ ?_ ?_ ?_
   . rintro i σ H3 hi ⟨u,rfl,s3,e3⟩;exact ae.of (s3 _ _ e1)
   . intro i z σ H3 hz hQ;refine ba ?_;intro tT;obtain⟨u,rfl,s3,e3⟩:=hQ;obtain⟨p,hp,hE⟩:=eG xI hz;have pp:=pm p (dG hp);have go:∀{Hx:Hp}{Q:VK},ag H1 Hx->dJ Hx (.lst []) Q->uZ C [z,.ref D] Hx Q E0:=fun {Hx Q} sx q=>⟨z,D,iF,p,px,rfl,hE.same sx,sx _ _ e1,xI.same sx,by omega,by have:=(Bg.ok p pp).1;omega,fun o ho=>by have:=(Bg.ok o (pm o ho)).1;omega,fun o ho ne x hx gE=>ne (Bg.one o (pm o ho) p pp x gE hx),q⟩;refine⟨_,rfl,.inl ⟨rfl,_,ae.of e3⟩,_,rfl,_,rfl,go s3 fun D4 H4 n4 s4 e4=>?_⟩;have m4:ag H1 (ah H4 p1 (.lst ([]++[]))):=pY n2 (s3.trans s4);refine⟨p1,D4,_,_,rfl,rfl,s4 _ _ e3,e4,by decide,?_⟩;refine⟨_,rfl,.inl ⟨rfl,_,ae.of aI⟩,_,rfl,_,rfl,go m4 fun D5 H5 n5 s5 e5=>?_⟩;have m5:ag H1 (ah H5 p1 (.lst (([]++[])++[]))):=pY n2 (m4.trans s5);refine⟨p1,D5,_,_,rfl,rfl,s5 _ _ aI,e5,by decide,?_⟩;refine⟨_,rfl,.inl ⟨rfl,_,ae.of aI⟩,_,rfl,_,rfl,go m5 fun D6 H6 n6 s6 e6=>?_⟩;refine⟨p1,D6,_,_,rfl,rfl,s6 _ _ aI,e6,by decide,?_⟩;exact⟨_,rfl,pY n2 (m5.trans s6),aI⟩
   . rintro σ H3 ⟨u,rfl,s3,e3⟩;refine⟨_,rfl,p1,[],rfl,ae.of e3,by decide,fun bP pm' srt p4 H4 n4 s4 e4=>?_⟩;have ey:bP=[]:=pm'.eq_nil;subst ey;exact q p4 H4 (s1.free (s3.free n4)) (s1.trans (s3.trans s4)) e4
def L7(C S:Addr):Sp:=fun vs H Q _=>∃(sv:V) (c:Addr) (xs:Lv) (ps:aT) (ch:Ch) (ns:Ls),vs=[sv,.ref c]/\iN S H sv xs ps/\dR C H xs ps/\Apart ns ps/\di H c ch/\pG xs ps ch/\ch.length<=4/\∀H',ag H H'->Q (.bl true) H'
theorem ard:aR [aD7,aEb] [aD7,aEb] (aE Ec):=aZ
theorem are{f C S F3:Addr}{fd L8:Fy}(F:ak K aFG aFG Ec f fd)(B:bV mg)(Bh:ak K aFz aFz Eb F3 L8)(L9:mg aFz=some (.ref F3))(arf:aj P w K mg base al 3 F3 L8 [aD7,aEb] (Uu C S)):aj P w K mg base al 4 f fd [aD7,aEb] (L7 C S):=by
 have arh:=Bh.binds2 (l:=[aD7,aEb]) (fun _ _ _ _ _ _ _ _=>rfl);refine F.ok ard (fun vs H Q E h=>?_) (fun ay A outer s H vs Q E hr h=>?_)
 . obtain⟨sv,c,xs,ps,ch,ns,rfl,_⟩:=h;rfl
 . obtain⟨sv,c,xs,ps,ch,ns,rfl,hS,hP,Bg,hc,hV,h4,q⟩:=h;refine⟨_,(av (aU (mG eV (dC gc (by rfl) B.len fZ (aa (aG arf hr rfl L9 Bh.kp arh .nil aD (aa (pv 0) (aa (pv 1) ac))) ac)) ar (bE _)))),?_⟩;exact⟨_,rfl,_,rfl,sv,c,xs,ps,ch,ns,rfl,hS,hP,Bg,hc,hV,h4,fun r H1 n1 s1 e1=>⟨r,_,rfl,.inl (ae.of e1),rfl,q H1 s1⟩⟩
end
structure k8(C S:Addr)(H:Hp)(sv:V)(xs:Lv)(ps:aT)(ns:Ls):Prop where
 sh:iN S H sv xs ps
 pc:dR C H xs ps
 ap:Apart ns ps
 n4:ns.length<=4
 nm:∀n∈ns,cr n
theorem k8.same{C S:Addr}{H H':Hp}{sv:V}{xs:Lv}{ps:aT}{ns:Ls}(h:k8 C S H sv xs ps ns)(s:ag H H'):k8 C S H' sv xs ps ns:=⟨h.sh.same s,h.pc.same s,h.ap,h.n4,h.nm⟩
theorem k8.pcok{C S:Addr}{H:Hp}{sv:V}{xs:Lv}{ps:aT}{ns:Ls}(h:k8 C S H sv xs ps ns):∀p∈ps,Uc ns p:=fun p hp=>by
 obtain⟨a,b,c⟩:=h.ap.ok p hp;obtain⟨d,e⟩:=h.ap.offs p hp;exact⟨a,fun f hf=>⟨(b f hf).2.2,(b f hf).2.1⟩,d,(h.nm _ (h.ap.nms p hp)).ln,fun t ht=>⟨⟨(h.nm t (e t ht)).ln,by have:=(h.nm t (e t ht)).hi;omega⟩,e t ht⟩⟩
structure eP(xs:Lv)(ps:aT)(ch:Ch):Prop where
 nd:(ch.map (·.1)).Nodup
 va:pG xs ps ch
theorem Ma{xs:Lv}{ps:aT}{v:V}{p:cM}(h:uJ xs ps v p):p∈ps:=h.elim fun _ ari=>ari.elim fun a _=>dG a
theorem eP.len{xs:Lv}{ps:aT}{ch:Ch}{ns:Ls}(h:eP xs ps ch)(a:Apart ns ps)(n4:ns.length<=4):ch.length<=4:=by
 have:=kO h.nd fun x hx=>by
  obtain⟨e,he,rfl⟩:=cL.mp hx;obtain⟨v,p,hi,e1,_⟩:=h.va e he;exact e1▸a.nms p (Ma hi)
 rw[am]at this;omega
theorem arj{β:Type}{goal now:List (Str×β)}{x:Str}{e:Str×β}(h:e∈bu goal now x):e∈now\/e∈goal:=by
 unfold bu at h;split at h
 . rename_i m hm
   rcases rC h with z | z
   . right;rw[z];exact Fk hm
   . exact .inl z
 . exact .inl (yn.mp h).1
theorem eP.step{xs:Lv}{ps:aT}{now goal:Ch}(h:eP xs ps now)(g:eP xs ps goal)(x:Str):eP xs ps (bu goal now x):=⟨Ts h.nd,fun e he=>(arj he).elim (h.va e) (g.va e)⟩
theorem eP.steps{xs:Lv}{ps:aT}{goal:Ch}(g:eP xs ps goal):∀{us:Ls}{now:Ch},eP xs ps now->eP xs ps (us.foldl (bu goal) now)
 | [],_,h=>h
 | x::us,_,h=>eP.steps g (us:=us) (h.step g x)
theorem di.mut{H:Hp}{D c:Addr}{zs jT:Lv}{ch:Ch}(hD:H D=some (.lst zs))(h:di H c ch):di (ah H D (.lst jT)) c ch:=by
 obtain⟨kvs,h1,h2⟩:=h;exact⟨kvs,aB h1 (aO h1 hD (by intro z;cases z)),aK h2 fun kv e ark=>ark.elim fun a arl=>arl.elim fun m arm=>arm.elim fun b c=>⟨a,m,b,aB c (aO c hD (by intro z;cases z))⟩⟩
theorem Mb{H:Hp}{kvs:List (aw×V)}{fs:Ch}(h:Paired (dA H) kvs fs)(nd:(fs.map (·.1)).Nodup)(p:Str):(look fs p=none/\bg kvs (.inr p)=none)\/(∃m t,look fs p=some m/\bg kvs (.inr p)=some (.ref t)/\H t=some (.tup (m.map V.int))):=by
 have hk:∀kv f,dA H kv f->kv.1=Sum.inr f.1:=fun kv f z=>z.1
 by_cases hp:p∈fs.map (·.1)
 . obtain⟨v,m,e,hm,r⟩:=rE hk h hp;obtain⟨_,t,e2,e3⟩:=r;have e2:v=.ref t:=e2;exact .inr ⟨m,t,K8 nd hm,by rw[e,e2],e3⟩
 . exact .inl ⟨jr.mpr hp,DK hk h hp⟩
def Mc:Oi->PySem.W.Dat
 | none=>.none
 | some m=>dI m
theorem arn{a b:Oi}(h:Mc a=Mc b):a=b:=by
 cases a with
 | none=>
  cases b with
  | none=>rfl
  | some y=>cases h
 | some x=>
  cases b with
  | none=>cases h
  | some y=>rw[aok.mp h]
def gX(A:List Addr)(H:Hp)(v:V)(n:Str):Prop:=∃l,v=.ref l/\l∉A/\H l=some (.lst [.str n])
theorem gX.same{A:List Addr}{H H':Hp}(s:ag H H'){v:V}{n:Str}(h:gX A H v n):gX A H' v n:=h.elim fun l aro=>aro.elim fun a arp=>arp.elim fun b c=>⟨l,a,b,s _ _ c⟩
theorem gX.mut{A:List Addr}{H:Hp}{D:Addr}(hD:D∈A){o:HO}{v:V}{n:Str}(h:gX A H v n):gX A (ah H D o) v n:=by
 obtain⟨l,a,b,c⟩:=h;exact⟨l,a,b,by rw[aV (show l≠D from fun z=>b (by rw[z];exact hD))];exact c⟩
theorem gX.sub{A B:List Addr}(hs:∀x∈B,x∈A){H:Hp}{v:V}{n:Str}(h:gX A H v n):gX B H v n:=h.elim fun l arq=>arq.elim fun a ars=>ars.elim fun b c=>⟨l,a,fun z=>b (hs l z),c⟩
section
variable {P:Program}{w:World}{K:Fg}{mg:Mv}{base:Heap}
abbrev Uv:Sp:=Ld dA fun _=>True
theorem art{f:Addr}{fd:Fy}(F:ak K aEo aEo uz f fd)(B:bV mg):aj P w K mg base al 1 f fd [aEC,aEv] Uv:=
 Tz (Fv:=dA) (OK:=fun _=>True) (dat:=Mc) (fun _ _ _ z=>z.1) (fun s z=>dA.same s z) arn (fun h nd _ p=>by
  rcases Mb h nd p with⟨e1,e2⟩ | ⟨m,t,e1,e2,e3⟩
  . rw[e1,e2];exact⟨.non,rfl⟩
  . rw[e1,e2];exact⟨Kp e3,E4 8 m⟩) F B
def F4:Sp:=fun vs H Q _=>∃(a b c:Addr) (now goal:Ch) (x:Str),vs=[.ref a,.ref b,.ref c]/\di H a now/\di H b goal/\(now.map (·.1)).Nodup/\(goal.map (·.1)).Nodup/\H c=some (.lst [.str x])/\now.length<=50 /\
 ∀r H',H r=none->ag H H'->di H' r (bu goal now x)->Q (.ref r) H'
theorem Me:aR [aEx,aEm,aED,"behind",aEf] [aEx,aEm,aED] (aE wM):=aZ
theorem Mf{f:Addr}{fd:Fy}(F:ak K aEu aEu wM f fd)(B:bV mg):aj P w K mg base al 1 f fd [aEx,aEm,aED] F4:=by
 refine F.okL Me ?_
 . intro ay A outer s H vs Q E hr h xX dX;obtain⟨a,b,c,now,goal,x,rfl,⟨kn,hn,pn⟩,⟨kg,hg,pg⟩,Lg,Lh,hc,hl,q⟩:=h;have hu:=hr.units;refine⟨_,(ao (aP (i:=3) Me.nd rfl (Or.inl rfl) (eB Dd (by rfl) B.dict Oe (aa (pv 0) ac)))
    (ao (eA dY rfl (cy (pv 2)) (aY (i:=4) Me.nd rfl (Or.inl rfl))
    (av (cJ (v8 (CZ hu (pv 4) (pv 1)) (by rfl))
     (av (iZ hu (pv 3) (pv 4) (qZ hu (pv 1) (pv 4) (fun _ _=>rfl)) rfl)) (av (cJ (v8 (CZ hu (pv 4) (pv 3)) (by rfl))
      (av (cI (Pq (pv 3) (pv 4) ⟨rfl,rfl,rfl,rfl⟩))) dq)))))
    (av (aU (pv 3))))),?_⟩
   refine i9 ?_;intro dD sS fD dP;have pl:=bq pn;have hk:∀kv f,dA H kv f->kv.1=Sum.inr f.1:=fun kv f z=>z.1;refine⟨_,rfl,a,_,rfl,hn,fun p1 H1 n1 s1 e1=>?_⟩;refine⟨_,rfl,c,rfl,⟨_,ae.of (s1 _ _ hc)⟩,?_⟩;refine gF (xs:=[.str x]) (fun i σ H2=>∃u kvs,σ=[some (.ref a),some (.ref b),some (.ref c),some (.ref p1),u]/\ag H H2/\H2 p1=some (.dK kvs)/\Paired (dA H) kvs (if i=0 then now else bu goal now x)) ⟨none,kn,rfl,s1,e1,pn⟩ ?_ ?_ ?_
   . rintro i σ H2 hi ⟨u,kvs,rfl,s2,_⟩;exact ae.of (s2 _ _ hc)
   . intro i x' σ H2 hx hQ;refine ba ?_;intro tT;obtain⟨u,kvs,rfl,s2,e2,p2⟩:=hQ;have i0:i=0:=by have:=(ci.mp hx).1;simpa using this
     subst i0;cases hx;rw[aq rfl]at p2;have kl:=bq p2;have F5:=s2 _ _ hg;refine⟨_,rfl,_,rfl,b,_,rfl,df.k (k:=.inr x) F5,_,rfl,?_⟩
     rcases Mb pg Lh x with⟨g1,g2⟩ | ⟨m,t,g1,g2,g3⟩
     . rw[g2];refine gH ?_;have es:bu goal now x=mf now x:=by unfold bu;rw[g1]
       refine⟨_,rfl,_,rfl,p1,_,rfl,df.k (k:=.inr x) e2,_,rfl,?_⟩
       rcases Mb p2 Lg x with⟨k1,k2⟩ | ⟨m,t,k1,k2,k3⟩
       . rw[k2];refine gH ⟨_,kvs,rfl,s2,e2,?_⟩;rw[ai (by decide),es,Tp (jr.mp k1)];exact p2
       . rw[k2];refine gJ ⟨_,rfl,p1,rfl,.inl ⟨_,.inl e2⟩,_,rfl,kvs,.inr x,.ref t,e2,rfl,k2,?_⟩;refine⟨_,_,rfl,pY n1 s2,aI,?_⟩;rw[ai (by decide),es];exact To hk p2
     . rw[g2];refine gJ ⟨_,rfl,_,rfl,b,.ref t,rfl,by rw[←g2];exact df.k (k:=.inr x) F5,_,rfl,_,rfl,p1,_,rfl,fK.k (k:=.inr x) e2 (bI (by omega)),?_⟩;refine⟨_,_,rfl,pY n1 s2,aI,?_⟩;have es:bu goal now x=bU now x m:=by unfold bu;rw[g1]
       rw[ai (by decide),es];exact jL hk ⟨rfl,t,rfl,g3⟩ p2
   . rintro σ H2 ⟨u,kvs,rfl,s2,e2,p2⟩;rw[ai (by simp)]at p2;exact⟨_,rfl,q p1 H2 n1 s2 ⟨kvs,e2,aK p2 fun _ _=>dA.same s2⟩⟩
def Uw:Sp:=fun vs H Q _=>∃(a b z:Addr) (names:Ls),vs=[.ref a,.ref b]/\H a=some (.lst [.ref z])/\H z=some (.lst [])/\H b=some (.lst (names.map V.str))/\names.length<=50 /\
 ∀l ys H',H l=none->ag H H'->H' l=some (.lst ys)->Paired (gX [] H') ys names->Q (.ref l) H'
theorem Mg:aR [aFt,aE6,"larger",aED] [aFt,aE6] (aE Eo):=aZ
theorem aru{f:Addr}{fd:Fy}(F:ak K aE0 aE0 Eo f fd)(B:bV mg):aj P w K mg base al 1 f fd [aFt,aE6] Uw:=by
 refine F.okL Mg ?_
 . intro ay A outer s H vs Q E hr h xX dX;obtain⟨a,b,z,names,rfl,ha,hz,hb,n1,q⟩:=h;refine⟨_,(ao (aP (i:=2) Mg.nd rfl (Or.inl rfl) (cX ac))
    (ao (eA dY rfl (cy (pv 0)) (aY (i:=3) Mg.nd rfl (Or.inr rfl))
    (av (cI (dr gD qJ qK mK (pv 2) (aa (fM [aEf] [aED] [3] dL rfl (cy (pv 1)) (fun _ _ _ _=>(aY (i:=0) (show List.Nodup ([aEf,aED]:Ls) by decide +kernel) rfl (Or.inl rfl))) (fun _ _ _ _=>o4 (PW.pt (CJ (bM eV (dC (agG K) (by rfl) B.len fZ (aa (pv 1) ac)) ar (bE _)) (G7 (bM Q8 (pv 0) (bi (Ia K) (pv 1) (qU qV ar) (fun _ _=>rfl)) (bE _)))))) (fun _ _ _ _=>(aF wp (pv 1) (cX (aa (pv 0) ac))))) ac)))))
    (av (aU (pv 2))))),?_⟩
   refine i9 ?_;intro dD sS fD dP;refine⟨(by show 0<=sizeLine;decide),fun p1 H1 Kw s1 e1=>?_⟩;refine⟨_,rfl,a,rfl,⟨_,ae.of (s1 _ _ ha)⟩,?_⟩;refine gF (xs:=[.ref z]) (fun i σ H2=>∃u ys,σ=[some (.ref a),some (.ref b),some (.ref p1),u]/\ag H H2/\H2 p1=some (.lst ys)/\Paired (gX [p1] H2) ys (if i=0 then [] else names)) ⟨none,[],rfl,s1,e1,.nil⟩ ?_ ?_ ?_
   . rintro i σ H2 hi ⟨u,ys,rfl,s2,_⟩;exact ae.of (s2 _ _ ha)
   . intro i x σ H2 hx hQ;refine ba ?_;intro tT;obtain⟨u,ys,rfl,s2,e2,p2⟩:=hQ;have i0:i=0:=by have:=(ci.mp hx).1;simpa using this
     subst i0;cases hx;cases p2;refine⟨_,rfl,.inl ⟨rfl,_,ae.of e2⟩,_,rfl,b,rfl,⟨_,ae.of (s2 _ _ hb)⟩,?_⟩;intro D hD;have nD:p1≠D:=fun z=>by rw[←z,e2]at hD;cases hD
     refine rW (σ0:=[none,some (.ref z)]) hD (ae.of (s2 _ _ hb)) (fun σ=>∃v,σ=[v,some (.ref z)]) (fun j ws H3=>Paired (gX [D,p1] H3) ws (names.take j)) ⟨_,rfl⟩ .nil ?_ ?_
     . rintro j y ws σ H3 k k' hy ⟨v,rfl⟩ cO h3 hP eW iO;rw[db]at hy;cases hn:names[j]? with
       | none=>rw[hn]at hy;cases hy
       | some n=>
        rw[hn]at hy;cases hy;have Ux:=h3 _ _ (s2 _ _ hz);have wl:=bq hP;rw[eh]at wl;refine⟨_,rfl,z,_,rfl,.inl (ae.of Ux),rfl,_,rfl,gJ (gJ ⟨_,rfl,_,rfl,(by show 1<=sizeLine;decide),fun p5 H5 n5 s5 e5=>?_⟩)⟩;refine⟨z,p5,_,_,rfl,rfl,s5 _ _ Ux,e5,(show 0+1<=sizeLine by decide),fun p6 H6 n6 s6 e6=>?_⟩;have Uy:=s5.trans s6;refine eW _ _ _ ⟨_,rfl⟩ Uy (bI (by omega)) ?_;rw[pZ hn];refine iI (gX.mut (by simp) ⟨p6,rfl,?_,e6⟩) (aK hP fun _ _ z=>(z.same Uy).mut (by simp));intro z;have Bi:H3 p6=none:=s5.free n6
        rcases aX.mp z with e | e
        . rw[e,cO]at Bi;cases Bi
        . rw[bj.mp e]at Bi;have:=h3 _ _ e2;rw[this]at Bi;cases Bi
     . rintro ws H3 cO h3 hP;rw[am,eT]at hP;have wl:=bq hP;have e23:=h3 _ _ e2;refine⟨p1,D,_,_,rfl,rfl,e23,cO,kM (by simp;omega),?_⟩;refine⟨_,_,rfl,pY Kw (s2.trans h3),aI,?_⟩;rw[ai (by decide)];exact aK hP fun _ _ z=>(z.mut (D:=p1) (by simp)).sub (by simp)
   . rintro σ H2 ⟨u,ys,rfl,s2,e2,p2⟩;rw[ai (by simp)]at p2;exact⟨_,rfl,q p1 ys H2 Kw s2 e2 (aK p2 fun _ _ z=>z.sub (by simp))⟩
def Uz(C S:Addr):Sp:=fun vs H Q _=>∃(sv:V) (a b c:Addr) (xs:Lv) (ps:aT) (ns:Ls) (now goal:Ch) (x:Str) (names:Ls),vs=[sv,.ref a,.ref b,.ref c]/\k8 C S H sv xs ps ns/\di H a now/\di H b goal/\eP xs ps now/\eP xs ps goal/\H c=some (.lst ((x::names).map V.str))/\names.length<=40 /\
 ∀l H',ag H H'->H' l=some (.lst [.str x])->Q (.ref l) H'
theorem Bj:aR [aD7,aEx,aEm,aE6,aFt,"many",aED] [aD7,aEx,aEm,aE6] (aE En):=aZ
theorem arw{f C S F6 k9 Bl:Addr}{fd Mh p9 F7:Fy}(F:ak K aFe aFe En f fd)(B:bV mg)(Bm:ak K aE0 aE0 Eo F6 Mh)(Mi:mg aE0=some (.ref F6))(iQ:ak K aEu aEu wM k9 p9)(qa:mg aEu=some (.ref k9))
 (Bn:ak K aFG aFG Ec Bl F7) (Mj:mg aFG=some (.ref Bl)) (Ml:aj P w K mg base al 4 Bl F7 [aD7,aEb] (L7 C S)):aj P w K mg base al 5 f fd [aD7,aEx,aEm,aE6] (Uz C S):=by
 have arx:aj P w K mg base al 4 F6 Mh [aFt,aE6] Uw:=(aru Bm B).mono (by decide);have ary:=Bm.binds2 (l:=[aFt,aE6]) (fun _ _ _ _ _ _ _ _=>rfl);have Bo:aj P w K mg base al 4 k9 p9 [aEx,aEm,aED] F4:=(Mf iQ B).mono (by decide);have Bp:=iQ.binds3 (l:=[aEx,aEm,aED]) (fun _ _ _ _ _ _ _ _ _=>rfl);have arz:=Bn.binds2 (l:=[aD7,aEb]) (fun _ _ _ _ _ _ _ _=>rfl);refine F.okL Bj ?_
 . intro ay A outer s H vs Q E hr h xX dX;obtain⟨sv,a,b,c,xs,ps,ns,now,goal,x,names,rfl,hW,hA,hB,k1,k2,hc,n40,q⟩:=h;refine⟨_,(ao (aP (i:=4) Bj.nd rfl (Or.inl rfl) (cX (aa (cX ac) ac)))
    (ao (eA dY rfl (Hg rfl B.range (aa ar (aa (dC gc (by rfl) B.len fZ (aa (pv 3) ac)) ac))) (aY (i:=5) Bj.nd rfl (Or.inl rfl))
    (ao (aP (i:=4) Bj.nd rfl (Or.inl rfl) (aG arx hr rfl Mi Bm.kp ary .nil aD (aa (pv 4) (aa (pv 3) ac))))
     (av (eA dY rfl (cy (pv 4)) (aY (i:=6) Bj.nd rfl (Or.inl rfl))
     (av (cJ (mC (aG Ml hr rfl Mj Bn.kp arz .nil aD (aa (pv 0) (aa (aG Bo hr rfl qa iQ.kp Bp .nil aD (aa (pv 1) (aa (pv 2) (aa (pv 6) ac)))) ac))))
      (av (aU (pv 6))) dq))))))
    (av (aU (pv 3))))),?_⟩
   refine i9 ?_;intro dD sS fD dP;refine⟨(by show 0<=sizeLine;decide),fun p1 H1 n1 s1 e1=>?_⟩;refine⟨(by show 1<=sizeLine;decide),fun p2 H2 n2 s2 e2=>?_⟩;have bT:=s1.trans s2;have el:(((x::names).map V.str).length:Int)=1+(names.length:Int):=by rw[am,bO];omega
   refine⟨_,rfl,c,_,rfl,.inl (ae.of (bT _ _ hc)),1,_,rfl,⟨by omega,by omega,by omega,by omega⟩,?_⟩;refine wa (fun i σ H3=>i=0/\σ=[some sv,some (.ref a),some (.ref b),some (.ref c),some (.ref p2),none,none]/\H3=H2) ⟨rfl,rfl,rfl⟩ ?_ ?_
   . rintro i σ H3 hi ⟨rfl,rfl,rfl⟩;refine ba ?_;intro tT;refine⟨_,rfl,_,rfl,p2,c,p1,x::names,rfl,e2,s2 _ _ e1,bT _ _ hc,by rw[bO];omega,fun l ys H4 n4 s4 e4 pr=>?_⟩;refine⟨_,rfl,l,rfl,⟨_,ae.of e4⟩,?_⟩;cases pr with
     | @cons y _ bP _ hy pr'=>
     obtain⟨yl,rfl,_,UA⟩:=hy;refine gF (xs:=.ref yl::bP) (fun j σ H5=>j=0/\σ=[some sv,some (.ref a),some (.ref b),some (.ref c),some (.ref l),some (.int (1+(0:Nat))),none]/\H5=H4) ⟨rfl,rfl,rfl⟩ ?_ ?_ ?_
     . rintro j σ H5 hj ⟨rfl,rfl,rfl⟩;exact ae.of e4
     . rintro j z σ H5 hz ⟨rfl,rfl,rfl⟩;cases hz;have uT:=bT.trans s4;have l4:=k1.len hW.ap hW.n4;refine⟨_,rfl,_,rfl,_,rfl,_,rfl,a,b,yl,now,goal,x,rfl,hA.same uT,hB.same uT,k1.nd,k2.nd,UA,by omega,fun r H6 n6 s6 c6=>?_⟩;have k3:=k1.step k2 x;have W6:=hW.same (uT.trans s6);refine⟨sv,r,xs,ps,_,ns,rfl,W6.sh,W6.pc,W6.ap,c6,k3.va,k3.len hW.ap hW.n4,fun H7 s7=>⟨_,rfl,gJ ?_⟩⟩;exact⟨_,rfl,q yl H7 ((uT.trans s6).trans s7) ((s6.trans s7) _ _ UA)⟩
     . rintro σ H5 ⟨h,_⟩;exact absurd h (by simp)
   . rintro σ H3 ⟨h,rfl,rfl⟩;have n0:names=[]:=Cq.mp (by omega);rw[n0]at hc;exact⟨_,rfl,q c _ bT (bT _ _ hc)⟩
def Mm(C S:Addr):Sp:=fun vs H Q _=>∃(sv:V) (a b:Addr) (xs:Lv) (ps:aT) (ns:Ls) (now goal:Ch),vs=[sv,.ref a,.ref b]/\k8 C S H sv xs ps ns/\di H a now/\di H b goal/\eP xs ps now/\eP xs ps goal /\
 ∀l zs us H',H l=none->ag H H'->H' l=some (.lst zs)->jt now goal us->Paired (gX [l] H') zs us->Q (.ref l) H'
theorem vd:aR [aD7,aEx,aEm,aFt,"reached","left",aED] [aD7,aEx,aEm] (aE Em):=aZ
theorem arA{f C S F8 k9 sq:Addr}{fd Mn p9 xy:Fy}(F:ak K aFA aFA Em f fd)(B:bV mg)(Bq:ak K aFe aFe En F8 Mn)(Mo:mg aFe=some (.ref F8))(arB:aj P w K mg base al 5 F8 Mn [aD7,aEx,aEm,aE6] (Uz C S))
 (iQ:ak K aEu aEu wM k9 p9) (qa:mg aEu=some (.ref k9)) (mh:ak K aEo aEo uz sq xy) (uU:mg aEo=some (.ref sq)):aj P w K mg base al 6 f fd [aD7,aEx,aEm] (Mm C S):=by
 have Bo:aj P w K mg base al 1 k9 p9 [aEx,aEm,aED] F4:=Mf iQ B;have Fs:aj P w K mg base al 1 sq xy [aEC,aEv] Uv:=art mh B;have arC:=Bq.binds4 (l:=[aD7,aEx,aEm,aE6]) (fun _ _ _ _ _ _ _ _ _ _=>rfl);have Bp:=iQ.binds3 (l:=[aEx,aEm,aED]) (fun _ _ _ _ _ _ _ _ _=>rfl);have Ft:=mh.binds2 (l:=[aEC,aEv]) (fun _ _ _ _ _ _ _ _=>rfl);refine F.okL vd ?_
 . intro ay A outer s H vs Q E hr h xX dX;obtain⟨sv,a,b,xs,ps,ns,now,goal,rfl,hW,hA,hB,cA,cB,q⟩:=h;have dF:=hr.mono (j:=1) (by decide);have nl:=cA.len hW.ap hW.n4;have gl:=cB.len hW.ap hW.n4;refine⟨_,(ao (aP (i:=3) vd.nd rfl (Or.inl rfl) (cX ac))
    (ao (aP (i:=4) vd.nd rfl (Or.inl rfl) (pv 1))
    (ao (aP (i:=5) vd.nd rfl (Or.inl rfl) (aG Fs dF rfl uU mh.kp Ft .nil aD (aa (pv 4) (aa (pv 2) ac))))
    (ao (Hd dY (bM OP (dC gc (by rfl) B.len fZ (aa (pv 5) ac)) ar (bE _)) (ao (aP (i:=6) vd.nd rfl (Or.inl rfl) (aG arB hr rfl Mo Bq.kp arC .nil aD (aa (pv 0) (aa (pv 4) (aa (pv 2) (aa (pv 5) ac))))))
     (ao (cI (dr gD vU vV oU (pv 3) (aa (pv 6) ac)))
     (ao (aP (i:=4) vd.nd rfl (Or.inl rfl) (aG Bo dF rfl qa iQ.kp Bp .nil aD (aa (pv 4) (aa (pv 2) (aa (pv 6) ac)))))
     (av (aP (i:=5) vd.nd rfl (Or.inl rfl) (aG Fs dF rfl uU mh.kp Ft .nil aD (aa (pv 4) (aa (pv 2) ac)))))))))
    (av (aU (pv 3))))))),?_⟩
   refine Qe ?_;intro dD sS ET m9 fD dP;refine⟨(by show 0<=sizeLine;decide),fun p1 H1 n1 s1 e1=>?_⟩;refine⟨_,rfl,?_⟩;obtain⟨ka,ha1,ha2⟩:=hA.same s1;obtain⟨kb,sk,fO⟩:=hB.same s1;refine⟨_,rfl,_,rfl,a,b,ka,kb,now,goal,rfl,ha1,sk,ha2,fO,cA.nd,cB.nd,trivial,trivial,by omega,fun l2 H2 us n2 s2 e2 U=>?_⟩;have bT:=s1.trans s2;have ul:=U.len;refine⟨fun m σ H3=>∃i re lf u zs,m=us.length - i/\i<=us.length/\σ=[some sv,some (.ref a),some (.ref b),some (.ref p1),some (.ref re),some (.ref lf),u]/\ag H H3/\H3 p1=some (.lst zs)/\Paired (gX [p1] H3) zs (us.take i)/\di H3 re ((us.take i).foldl (bu goal) now)/\lf≠p1/\H3 lf=some (.lst ((us.drop i).map V.str)),
    ⟨_,0,a,l2,none,[],rfl,dw _,rfl,bT,s2 _ _ e1,.nil,hA.same bT,(aL e1 n2).symm,e2⟩,?_⟩
   intro m σ H3 hQ;refine ba ?_;intro tT;obtain⟨i,re,lf,u,zs,rfl,hi,rfl,s3,e3,p3,c3,nlf,el⟩:=hQ;have zl:=bq p3;rw[eh]at zl;have k3:eP xs ps ((us.take i).foldl (bu goal) now):=cB.steps cA;refine⟨_,rfl,lf,_,rfl,.inl (ae.of el),_,_,rfl,rfl,_,rfl,?_⟩;refine bw (fun h=>?_) (fun h=>?_)
   . have ri:(0:Int)<(((us.drop i).map V.str).length:Int):=cZ h;rw[am,mx]at ri;have aN:i<us.length:=by omega
     have hx:us[i]?=some us[i]:=ir aN;have ed:us.drop i=us[i]::us.drop (i+1):=Cm aN;rw[ed]at el;refine⟨fun σ' H'=>∃m',m'<us.length - i/\∃i re lf u zs,m'=us.length - i/\i<=us.length/\σ'=[some sv,some (.ref a),some (.ref b),some (.ref p1),some (.ref re),some (.ref lf),u]/\ag H H'/\H' p1=some (.lst zs)/\Paired (gX [p1] H') zs (us.take i)/\di H' re ((us.take i).foldl (bu goal) now)/\lf≠p1/\H' lf=some (.lst ((us.drop i).map V.str)),fun σ' H' h=>h,?_⟩;refine rf ?_
     intros
     refine⟨_,rfl,_,rfl,_,rfl,_,rfl,sv,re,b,lf,xs,ps,ns,_,goal,us[i],us.drop (i+1),rfl,hW.same s3,c3,hB.same s3,k3,cB,el,by rw[mx];omega,fun l4 H4 s4 e4=>?_⟩;have F9:=s4 _ _ e3;have n4:l4≠p1:=fun z=>by
      rw[z,F9]at e4;injection e4 with e4
      injection e4 with e4
      rw[e4]at p3;obtain⟨_,_,l,hl,_⟩:=eG (i:=0) p3 rfl;cases hl
     refine⟨_,rfl,.inl ⟨rfl,_,ae.of F9⟩,_,rfl,p1,_,_,rfl,rfl,F9,bI (by omega),?_⟩;have m5:ag H (ah H4 p1 (.lst (zs++[.ref l4]))):=pY n1 (s3.trans s4);have cc:di (ah H4 p1 (.lst (zs++[.ref l4]))) re ((us.take i).foldl (bu goal) now):=di.mut F9 (c3.same s4);have e5:ah H4 p1 (.lst (zs++[.ref l4])) l4=some (.lst [.str us[i]]):=by rw[aV n4];exact e4
     have cl:=k3.len hW.ap hW.n4;refine⟨_,rfl,_,rfl,_,rfl,re,b,l4,_,goal,us[i],rfl,cc,hB.same m5,k3.nd,cB.nd,e5,by omega,fun r6 H6 n6 s6 c6=>?_⟩;have st:bu goal ((us.take i).foldl (bu goal) now) us[i]=(us.take (i+1)).foldl (bu goal) now:=by rw[pZ hx,qI];rfl
     rw[st]at c6;have k6:eP xs ps ((us.take (i+1)).foldl (bu goal) now):=cB.steps cA;have cl6:=k6.len hW.ap hW.n4;obtain⟨kr,arF,arG⟩:=id c6;obtain⟨kg,hg1,F5⟩:=hB.same (m5.trans s6);refine⟨_,rfl,_,rfl,r6,b,kr,kg,_,goal,rfl,arF,hg1,arG,F5,k6.nd,cB.nd,trivial,trivial,by omega,fun l7 H7 us7 n7 s7 e7 U7=>?_⟩;have eu:us7=us.drop (i+1):=U7.eq (U.drop (i+1));subst eu;have gy:=s6.trans s7;have e57:=gy _ _ (aI (H:=H4) (a:=p1) (o:=.lst (zs++[.ref l4])));refine⟨_,(show us.length - (i+1)<us.length - i by omega),i+1,r6,l7,_,_,rfl,aN,rfl,m5.trans gy,e57,?_,c6.same s7,(aL (s6 _ _ aI) n7).symm,e7⟩;rw[pZ hx];exact iI ⟨l4,rfl,by simpa using n4,gy _ _ e5⟩ (aK p3 fun _ _ z=>((z.same s4).mut (by simp)).same gy)
   . have l0:i=us.length:=aCJ fun z=>h (bG (by
      show(0:Int)<(((us.drop i).map V.str).length:Int);rw[am,mx];omega))
     subst l0;rw[eT]at p3;exact⟨_,rfl,q p1 zs us H3 n1 s3 e3 U p3⟩
end
end K64
namespace K64
open PySem L2 PySem.Spec
variable {H H2 H3:Hp}{dc dh dO:Addr}{ch:Ch}{cs:Cs}{ow:Ow}
theorem dA.put{H1:Hp}{d:Addr}{ks mz:List (aw×V)}(hd:H1 d=some (.dK ks)){kv:aw×V}{e:Str×List Int}(h:dA H1 kv e):dA (ah H1 d (.dK mz)) kv e:=h.elim fun a arK=>arK.elim fun m arL=>arL.elim fun b c=>⟨a,m,b,aB c (aO c hd (by intro z;cases z))⟩
theorem jh.put{H1:Hp}{d:Addr}{ks mz:List (aw×V)}(hd:H1 d=some (.dK ks)){kv:aw×V}{e:Str×(Ls×Ls)}(h:jh H1 kv e):jh (ah H1 d (.dK mz)) kv e:=
 h.elim fun a arM=>arM.elim fun t arN=>arN.elim fun l1 arO=>arO.elim fun l2 arP=>arP.elim fun b arQ=>arQ.elim fun c arR=>arR.elim fun d' f=>⟨a,t,l1,l2,b,aB c (aO c hd (by intro z;cases z)),aB d' (aO d' hd (by intro z;cases z)),aB f (aO f hd (by intro z;cases z))⟩
structure mn(ch:Ch)(cs:Cs)(ow:Ow):Prop where
 ok:wJ ch cs ow
 d1:(ch.map (·.1)).Nodup
 d2:(cs.map (·.1)).Nodup
 d3:(ow.map (·.1)).Nodup
 n1:ch.length<=4
 n2:cs.length<=4
 n3:ow.length<=5
 ln:∀e∈ow,e.2.1.length<=4/\e.2.2.length<=4
structure lg(H H2:Hp)(dc dh dO:Addr)(ch:Ch)(cs:Cs)(ow:Ow):Prop where
 old:ag H H2
 nc:H dc=none
 nh:H dh=none
 no:H dO=none
 d1:dc≠dh
 d2:dc≠dO
 d3:dh≠dO
 ch:di H2 dc ch
 cs:wX H2 dh cs
 ow:rQ H2 dO ow
theorem lg.same(N:lg H H2 dc dh dO ch cs ow)(s:ag H2 H3):lg H H3 dc dh dO ch cs ow:=⟨N.old.trans s,N.nc,N.nh,N.no,N.d1,N.d2,N.d3,N.ch.same s,N.cs.same s,N.ow.same s⟩
theorem lg.putH(N:lg H H2 dc dh dO ch cs ow){kh:List (aw×V)}(hh:H2 dh=some (.dK kh)){c n:Str}:lg H (ah H2 dh (.dK (cD kh (.inr c) (.str n)))) dc dh dO ch (bU cs c n) ow:=by
 obtain⟨kc,a1,a2⟩:=N.ch;obtain⟨kh',b1,b2⟩:=N.cs;rw[hh]at b1;cases b1;obtain⟨ko,o1,o2⟩:=N.ow;exact⟨fun b z e=>aB (N.old b z e) (aL e N.nh),N.nc,N.nh,N.no,N.d1,N.d2,N.d3,⟨kc,aB a1 N.d1,aK a2 fun _ _=>dA.put hh⟩,⟨_,aI,jL (F:=wW) (fun kv f z=>z.1) (x:=c) (ls:=n) (v:=.str n) ⟨rfl,rfl⟩ b2⟩,⟨ko,aB o1 N.d3.symm,aK o2 fun _ _=>jh.put hh⟩⟩
theorem lg.putO(N:lg H H2 dc dh dO ch cs ow){ko:List (aw×V)}(ho:H2 dO=some (.dK ko)){p:Str}{b m:Ls}{t l1 l2:Addr}(ht:H2 t=some (.tup [.ref l1,.ref l2]))(h1:H2 l1=some (.lst (b.map V.str)))(h2:H2 l2=some (.lst (m.map V.str))):lg H (ah H2 dO (.dK (cD ko (.inr p) (.ref t)))) dc dh dO ch cs (bU ow p (b,m)):=by
 obtain⟨kc,a1,a2⟩:=N.ch;obtain⟨kh,b1,b2⟩:=N.cs;obtain⟨JO,o1,o2⟩:=N.ow;rw[ho]at o1;cases o1;exact⟨fun b z e=>aB (N.old b z e) (aL e N.no),N.nc,N.nh,N.no,N.d1,N.d2,N.d3,⟨kc,aB a1 N.d2,aK a2 fun _ _=>dA.put ho⟩,⟨kh,aB b1 N.d3,b2⟩,⟨_,aI,aK (jL (F:=jh H2) (fun kv f z=>z.1) (x:=p) (ls:=(b,m)) (v:=.ref t) ⟨rfl,t,l1,l2,rfl,ht,h1,h2⟩ o2) fun _ _=>jh.put ho⟩⟩
structure li(ch:Ch)(cs:Cs)(ow:Ow)(a b c:Nat):Prop where
 ok:wJ ch cs ow
 d1:(ch.map (·.1)).Nodup
 d2:(cs.map (·.1)).Nodup
 d3:(ow.map (·.1)).Nodup
 n1:ch.length<=a
 n2:cs.length<=b
 n3:ow.length<=c
 ln:∀e∈ow,e.2.1.length<=4/\e.2.2.length<=4
theorem li.putH{ch:Ch}{cs:Cs}{ow:Ow}{a b c:Nat}(o:li ch cs ow a b c){n m:Str}(h1:cr n)(h2:cr m):li ch (bU cs n m) ow a (b+1) c:=
 ⟨⟨o.ok.ch,fun e he=>(rC he).elim (fun z=>by rw[z];exact⟨h1,h2⟩) (o.ok.cs e),o.ok.ow⟩,o.d1,lZ o.d2,o.d3,o.n1,ce (l8 _ _ _) (Wu o.n2),o.n3,o.ln⟩
theorem li.putO{ch:Ch}{cs:Cs}{ow:Ow}{a b c:Nat}(o:li ch cs ow a b c){p:Str}{x y:Ls}(h1:fC p)(h2:∀z∈x,iJ z)(h3:∀z∈y,iJ z)(h4:x.length<=4)(h5:y.length<=4):li ch cs (bU ow p (x,y)) a b (c+1):=
 ⟨⟨o.ok.ch,o.ok.cs,fun e he=>(rC he).elim (fun z=>by rw[z];exact⟨h1,h2,h3⟩) (o.ok.ow e)⟩,o.d1,o.d2,lZ o.d3,o.n1,o.n2,ce (l8 _ _ _) (Wu o.n3),fun e he=>(rC he).elim (fun z=>by rw[z];exact⟨h4,h5⟩) (o.ln e)⟩
theorem li.mono{ch:Ch}{cs:Cs}{ow:Ow}{a b c a' b' c':Nat}(o:li ch cs ow a b c)(h1:a<=a')(h2:b<=b')(h3:c<=c'):li ch cs ow a' b' c':=⟨o.ok,o.d1,o.d2,o.d3,ce o.n1 h1,ce o.n2 h2,ce o.n3 h3,o.ln⟩
theorem mn.bnd{ch:Ch}{cs:Cs}{ow:Ow}(h:mn ch cs ow):EL ch cs ow where
 nch:=by have:=h.n1;omega
 ncs:=by have:=h.n2;omega
 now:=by have:=h.n3;omega
 dch:=h.d1
 dcs:=h.d2
 dow:=h.d3
 ch:=fun e he=>⟨by have:=(h.ok.ch e he).1.hi;omega,(h.ok.ch e he).2.ok⟩
 cs:=fun e he=>⟨by have:=(h.ok.cs e he).1.hi;omega,by have:=(h.ok.cs e he).2.hi;omega⟩
 ow:=fun e he=>by
  obtain⟨⟨ps,e1,p1,p2,p3⟩,l1,l2⟩:=h.ok.ow e he;obtain⟨k1,k2⟩:=h.ln e he;refine⟨?_,by omega,by omega,fun x hx=>(l1 x hx).hi,fun x hx=>(l2 x hx).hi⟩;rw[e1];have:=JQ (sep:=pq) (b:=8) (fun p hp=>(p3 p hp).hi) (by rw[Jn];decide);omega
theorem cr.ok{x:Str}(h:cr x):dZ x:=wm.mpr fun c hc=>by have:=h.az c hc;omega
theorem mn.perm{ch:Ch}{cs:Cs}{ow:Ow}(h:mn ch cs ow){bW:Ch}{bX:Cs}{bN:Ow}(p1:bW.Perm ch)(p2:bX.Perm cs)(p3:bN.Perm ow):mn bW bX bN where
 ok:=⟨fun e he=>h.ok.ch e (p1.mem_iff.mp he),fun e he=>h.ok.cs e (p2.mem_iff.mp he),fun e he=>h.ok.ow e (p3.mem_iff.mp he)⟩
 d1:=(p1.map _).nodup_iff.mpr h.d1
 d2:=(p2.map _).nodup_iff.mpr h.d2
 d3:=(p3.map _).nodup_iff.mpr h.d3
 n1:=by have:=p1.length_eq;have:=h.n1;omega
 n2:=by have:=p2.length_eq;have:=h.n2;omega
 n3:=by have:=p3.length_eq;have:=h.n3;omega
 ln:=fun e he=>h.ln e (p3.mem_iff.mp he)
theorem mn.rows{ch:Ch}{cs:Cs}{ow:Ow}(h:mn ch cs ow):(fT ch cs ow).length<=53:=by
 have:∀(l:Ow),(∀e∈l,e∈ow)->(l.flatMap dM).length<=l.length * 9:=by
  intro l
  induction l with
  | nil=>intro _;exact dw _
  | cons e l ih=>
   intro hm;have h1:=ih fun x hx=>hm x (bJ _ hx);obtain⟨h2,h3⟩:=h.ln e (hm e bB);rw[vS,bh,bO];have:(dM e).length<=9:=by
    unfold dM;simp only[bh,am,bO,ki];omega
   omega
 have h3:=this ow fun e he=>he;have:=h.n1;have:=h.n2;have:=h.n3;have h4:ow.length * 9<=5 * 9:=Of _ (by omega);unfold fT;rw[bh,bh,am,am];omega
theorem arS:mn [] [] []:=⟨⟨(fun _ h=>nomatch h),(fun _ h=>nomatch h),(fun _ h=>nomatch h)⟩,kj,kj,kj,by decide,by decide,by decide,(fun _ h=>nomatch h)⟩
theorem Mp{β:Type}:dN ([]:List (Str×β)) []:=⟨.nil,rfl⟩
open PyProof.Rows
seal PE PS c8 PA PT PW PG oH PI mM
abbrev Bk:=List (Str×Str)
def jV(H:Hp)(v:V)(e:Str×Str):Prop:=∃t,v=.ref t/\H t=some (.tup [.str e.1,.str e.2])
theorem jV.same{H H':Hp}(s:ag H H'){v:V}{e:Str×Str}(h:jV H v e):jV H' v e:=h.elim fun t arT=>arT.elim fun a b=>⟨t,a,s _ _ b⟩
def Mq(bk:Bk):Prop:=∀e∈bk,dZ e.1/\dZ e.2
def fW:Str×Str:=("end","")
def dv:Str:="begin"
def gY(bk:Bk):Bool:=match bk.getLast? with
 | none=>true
 | some e=>decide (e=fW)
theorem arU{H:Hp}{tb:Lv}{bk:Bk}(h:Paired (jV H) tb bk):(tb=[]/\bk=[])\/∃xv t gk e,tb=xv++[.ref t]/\bk=gk++[e]/\H t=some (.tup [.str e.1,.str e.2]):=by
 induction h with
 | nil=>exact .inl ⟨rfl,rfl⟩
 | @cons v e tb bk r t ih=>
  rcases ih with⟨e1,e2⟩ | ⟨xv,t',gk,e',e1,e2,e3⟩
  . subst e1 e2;obtain⟨t,rfl,ht⟩:=r;exact .inr ⟨[],t,[],e,rfl,rfl,ht⟩
  . subst e1 e2;exact .inr ⟨v::xv,t',e::gk,e',rfl,rfl,e3⟩
theorem UB(r:Lv)(v:V):bZ (r++[v]) (-1)=some v:=by
 unfold bZ;have e:oP (r++[v]).length (-1)=some r.length:=by
  unfold oP;rw[bh,iW,ai (by omega),aq (by omega)]
  congr 1
  omega
 rw[e];show(r++[v])[r.length]?=_;rw[yt (aJ _),Nat.sub_self];rfl
section
variable {P:Program}{w:World}{K:Fg}{mg:Mv}{base:Heap}
def xM(D:Addr):Sp:=fun vs H Q _=>∃(x dx d b:Addr) (v:V) (tb:Lv) (bk:Bk),vs=[.ref x]/\H x=some (.ins D dx (cu d b v))/\H b=some (.lst tb)/\Paired (jV H) tb bk/\Mq bk/\∀H',ag H H'->Q (.bl (gY bk)) H'
theorem UC:aR [aD9,"book"] [aD9] (aE wO):=aZ
theorem arV{f D f1 gW f3 f4 f5 f6 f7:Addr}{fd mo:Fy}(F:ak K aEZ aEZ wO f fd)(B:bV mg)(T:im K mg D f1 gW f3 f4 f5 f6 f7)(lj:ak K aFE "Disk.book_now" pB gW mo):aj P w K mg base al 2 f fd [aD9] (xM D):=by
 have Br:aj P w K mg base al 1 gW mo [aD4] (Fj D):=K7 lj T B;have Bs:=lj.binds1 (l:=[aD4]) (fun _ _ _ _ _ _ _=>rfl);refine F.okL UC ?_
 . intro ay A outer s H vs Q E hr h xX dX;obtain⟨x,dx,d,b,v,tb,bk,rfl,hx,hb,pb,ok,q⟩:=h;have hu:=hr.units;refine⟨_,(ao (aP (i:=1) UC.nd rfl (Or.inl rfl) (tL (pv 0) T.cl T.mBNo Br hr Bs .nil aD))
    (av (aU (OA (mG eV (dC gc (by rfl) B.len fZ (aa (pv 1) ac)) ar (bE _)) (CK (mG (C4 hu) (bi eL (pv 1) (qU qV ar) (fun _ _=>rfl)) (eK (aa bH (aa bH ac))) (bE _))))))),?_⟩
   refine⟨_,rfl,x,dx,_,rfl,hx,rfl,x,dx,d,b,v,tb,rfl,hx,hb,fun r H1 n1 s1 e1=>?_⟩;refine⟨_,rfl,r,_,rfl,.inl (ae.of e1),rfl,_,rfl,?_⟩
   rcases arU pb with⟨rfl,rfl⟩ | ⟨xv,t,gk,e,rfl,rfl,ht⟩
   . exact gJ (q H1 s1)
   . refine bw (fun h=>?_) (fun h=>?_)
     . have h:=cZ h;injection h with h
       rw[bh,iW]at h;omega
     . refine⟨_,rfl,_,rfl,r,_,_,_,rfl,rfl,ae.of e1,UB _ _,(by show 2<=sizeLine;decide),fun p2 H2 n2 s2 e2=>?_⟩;obtain⟨o1,o2⟩:=ok e (eS _ (bj.mpr rfl));refine⟨.tuple [.str e.1,.str e.2],.tuple [.str fW.1,.str fW.2],.tup (aW.of ((s1.trans s2) _ _ ht)) (.cons (.str _) (.cons (.str _) .nil)),.tup (aW.of e2) (.cons (.str _) (.cons (.str _) .nil)),?_,?_,fun bb ia=>?_⟩
       . simp only[PySem.W.kqdOk,GO,WA,WB,gB];exact⟨o1,o2⟩
       . simp only[PySem.W.kqdOk,GO,WA,WB,gB];exact⟨by decide +kernel,by decide +kernel⟩
       . have eb:bb=gY (gk++[e]):=by
          unfold gY;rw[List.getLast?_append,aCK,Option.some_or];show bb=decide (e=fW);rw[Ca,ia,Wx];refine⟨fun h=>?_,fun h=>by rw[h]⟩;injection h with h
          injection h with h1 h2
          injection h1 with h1
          injection h2 with h2
          injection h2 with h2
          exact Prod.ext h1 h2
         rw[eb];exact q H2 (s1.trans s2)
def bQ(bk:Bk):Ls:=(bk.filter fun e=>decide (e.1=dv)).map (·.2)
theorem Mr(bk:Bk)(e:Str×Str):bQ (bk++[e])=if e.1=dv then bQ bk++[e.2] else bQ bk:=by
 unfold bQ;rw[GY,cQ]
 by_cases h:e.1=dv
 . rw[aq h,qD,aq (bG h)];rfl
 . rw[ai h,qD,ai (by rw[cH h];decide)];exact lq _
def Ga(D:Addr):Sp:=fun vs H Q _=>∃(x dx d b:Addr) (v:V) (tb:Lv) (bk:Bk),vs=[.ref x]/\H x=some (.ins D dx (cu d b v))/\H b=some (.lst tb)/\Paired (jV H) tb bk/\bk.length<=500/\dJ H (.lst ((Str.empty::bQ bk).map V.str)) Q
theorem arW:aR [aD9] [aD9] (aE Ad):=aZ
theorem arX{f D f1 gW f3 f4 f5 f6 f7:Addr}{fd mo:Fy}(F:ak K aEK aEK Ad f fd)(B:bV mg)(T:im K mg D f1 gW f3 f4 f5 f6 f7)(lj:ak K aFE "Disk.book_now" pB gW mo):aj P w K mg base al 2 f fd [aD9] (Ga D):=by
 have Br:aj P w K mg base al 1 gW mo [aD4] (Fj D):=K7 lj T B;have Bs:=lj.binds1 (l:=[aD4]) (fun _ _ _ _ _ _ _=>rfl);refine F.okL arW ?_
 . intro ay A outer s H vs Q E hr h xX dX;obtain⟨x,dx,d,b,v,tb,bk,rfl,hx,hb,pb,pT,q⟩:=h;refine⟨_,(av (aU (aF wp (cX (aa bH ac)) (fM [aE1,aEl] [] [] dL rfl (cy (tL (pv 0) T.cl T.mBNo Br hr Bs .nil aD)) (fun _ _ _ _=>(Uk (n:=2) K rfl (fG (aY (i:=0) (show List.Nodup ([aE1,aEl]:Ls) by decide +kernel) rfl (Or.inl rfl)) (fG (aY (i:=1) (show List.Nodup ([aE1,aEl]:Ls) by decide +kernel) rfl (Or.inl rfl)) mD)))) (fun _ _ _ _=>o4 (bM eV (pv 0) bH (bE _))) (fun _ _ _ _=>(pv 1)))))),?_⟩;refine⟨(by show 1<=sizeLine;decide),fun p1 H1 n1 s1 e1=>?_⟩;have pl:=bq pb;refine⟨_,rfl,x,dx,_,rfl,s1 _ _ hx,rfl,x,dx,d,b,v,tb,rfl,s1 _ _ hx,s1 _ _ hb,fun r H2 n2 s2 e2=>⟨r,rfl,⟨_,ae.of e2⟩,?_⟩⟩;have bT:=s1.trans s2;intro D' jW;refine rW (σ0:=[none,none]) jW (ae.of e2) (fun σ=>∃u v,σ=[u,v]) (fun j zs _=>zs=(bQ (bk.take j)).map V.str) ⟨_,_,rfl⟩ rfl ?_ ?_
   . rintro j y zs σ H3 k k' hy ⟨u,v,rfl⟩ cO h3 rfl eW iO;obtain⟨e,he,t,rfl,ht⟩:=eG pb hy;have aN:=(ci.mp he).1;refine⟨t,_,rfl,aW.of ((bT.trans h3) _ _ ht),rfl,_,_,rfl,_,_,rfl,rfl,?_⟩;have bs:=Mr (bk.take j) e;rw[←pZ he]at bs;have bl:(bQ (bk.take j)).length<=500:=by
      unfold bQ;rw[am];exact ce (Cg _ _) (by rw[eh];omega)
     refine⟨_,rfl,rfl,_,rfl,?_⟩;refine bw (fun h=>?_) (fun h=>?_)
     . have h:=cZ h;injection h with h
       rw[aq (show e.1=dv from h)]at bs;refine⟨_,rfl,eW _ _ _ ⟨_,_,rfl⟩ (ag.refl _) (bI (by rw[am];omega)) ?_⟩;rw[bs,cQ];rfl
     . rw[ai (fun z=>h (by rw[z];exact bG rfl))]at bs;refine iO _ _ ⟨_,_,rfl⟩ (ag.refl _) ?_;rw[bs]
   . rintro zs H3 cO h3 rfl;rw[pl,eT]at cO;have bl:(bQ bk).length<=500:=by
      unfold bQ;rw[am];exact ce (Cg _ _) pT
     refine⟨p1,D',_,_,rfl,rfl,(s2.trans h3) _ _ e1,cO,kM (by rw[am,iW];omega),fun p4 H4 n4 s4 e4=>?_⟩;exact q p4 H4 ((bT.trans h3).free n4) ((bT.trans h3).trans s4) e4
structure jX(xs:Lv)(ps:aT)(ch:Ch)(cs:Cs)(ow:Ow):Prop where
 ok:mn ch cs ow
 va:pG xs ps ch
 o2:ow.length<=2
structure iR(xs:Lv)(ps:aT)(t:Str)(ch:Ch)(cs:Cs)(ow:Ow):Prop where
 so:jX xs ps ch cs ow
 s1:dN ch ch
 s2:dN cs cs
 s3:dN ow ow
 tx:t=Str.join jM (fT ch cs ow)
theorem jX.perm{xs:Lv}{ps:aT}{ch bW:Ch}{cs bX:Cs}{ow bN:Ow}(h:jX xs ps ch cs ow)(p1:bW.Perm ch)(p2:bX.Perm cs)(p3:bN.Perm ow):jX xs ps bW bX bN:=⟨h.ok.perm p1 p2 p3,fun e he=>h.va e (p1.mem_iff.mp he),by have:=p3.length_eq;have:=h.o2;omega⟩
theorem jX.tx{xs:Lv}{ps:aT}{ch bW:Ch}{cs bX:Cs}{ow bN:Ow}(h:jX xs ps ch cs ow)(p1:dN ch bW)(p2:dN cs bX)(p3:dN ow bN):iR xs ps (Str.join jM (fT bW bX bN)) bW bX bN:=⟨h.perm p1.pm p2.pm p3.pm,p1.self,p2.self,p3.self,rfl⟩
theorem Ms{xs:Lv}{ps:aT}:iR xs ps Str.empty [] [] []:=⟨⟨arS,(fun _ h=>nomatch h),by decide⟩,Mp,Mp,Mp,rfl⟩
theorem iR.not{xs:Lv}{ps:aT}{t:Str}{ch:Ch}{cs:Cs}{ow:Ow}(h:iR xs ps t ch cs ow){T:Addr}{H:Hp}{Q:VK}(q:∀v H',ag H H'->(∀L,iH H L->gj T (msk L H') v ch cs ow)->Q v H'):Aw T [.str t] H Q E0:=by
 have ok:=h.so.ok;have hb:rowsOf t=fT ch cs ow:=by rw[h.tx];exact alF (alE ok.ok)
 have hr:=ok.rows;obtain⟨_,arY⟩:=R9 ok.bnd (.refl _) (.refl _) (.refl _);have hl:=JQ (sep:=jM) arY (by rw[Jm];decide);obtain⟨ck,b,m,hn⟩:=alG ok.ok ok.d1 ok.d2 ok.d3;refine⟨_,rfl,?_,?_,?_,?_⟩
 . have h4:(fT ch cs ow).length * (140+1)<=53 * 141:=Of _ hr;rw[h.tx];omega
 . rw[hb];omega
 . rw[hb];exact alD ok.ok
 . rw[hb,hn];exact q
theorem iR.sho{xs:Lv}{ps:aT}{t:Str}{ch:Ch}{cs:Cs}{ow:Ow}(h:iR xs ps t ch cs ow){T:Addr}{H:Hp}{v:V}{Q:VK}(hs:gj T H v ch cs ow)(q:∀H',ag H H'->Q (.str t) H'):xb T [v] H Q E0:=by
 refine⟨v,ch,cs,ow,rfl,hs,h.so.ok.bnd,fun bW bX bN H' r1 r2 r3 s'=>?_⟩;rw[dN.eq h.so.ok.d1 r1 h.s1,dN.eq h.so.ok.d2 r2 h.s2,dN.eq h.so.ok.d3 r3 h.s3,←h.tx];exact q H' s'
theorem jX.sho{xs:Lv}{ps:aT}{ch:Ch}{cs:Cs}{ow:Ow}(h:jX xs ps ch cs ow){T:Addr}{H:Hp}{v:V}{Q:VK}(hs:gj T H v ch cs ow)(q:∀t bW bX bN H',dN ch bW->dN cs bX->dN ow bN->iR xs ps t bW bX bN->ag H H'->Q (.str t) H'):xb T [v] H Q E0:=
 ⟨v,ch,cs,ow,rfl,hs,h.ok.bnd,fun bW bX bN H' r1 r2 r3 s'=>q _ bW bX bN H' r1 r2 r3 (h.tx r1 r2 r3) s'⟩
def iS(xs:Lv)(ps:aT)(ts:Ls):Prop:=∀t∈ts,∃ch cs ow,iR xs ps t ch cs ow
theorem Mt(ts:Ls)(t:Str):bZ ((ts++[t]).map V.str) (-1)=some (.str t):=by
 rw[cQ];exact UB _ _
def Bt(D T:Addr):Sp:=fun vs H Q _=>∃(x dx d b:Addr) (v:V) (tb:Lv) (bk:Bk) (xs:Lv) (ps:aT) (t:Str) (ch:Ch) (cs:Cs) (ow:Ow),vs=[.ref x]/\H x=some (.ins D dx (cu d b v))/\H b=some (.lst tb)/\Paired (jV H) tb bk/\bk.length<=500/\(Str.empty::bQ bk).getLast?=some t/\iR xs ps t ch cs ow /\
 ∀v H',ag H H'->(∀L,iH H L->gj T (msk L H') v ch cs ow)->Q v H'
theorem arZ:aR [aD9] [aD9] (aE wP):=aZ
theorem ar0{f D T qb qe:Addr}{fd ve vf:Fy}(F:ak K aEF aEF wP f fd)(qf:ak K aEK aEK Ad qb ve)(xN:mg aEK=some (.ref qb))(xO:aj P w K mg base al 4 qb ve [aD9] (Ga D))
 (qg:ak K aEJ aEJ Ac qe vf) (xP:mg aEJ=some (.ref qe)) (xQ:aj P w K mg base al 4 qe vf [aEl] (Aw T)):aj P w K mg base al 5 f fd [aD9] (Bt D T):=by
 have Mu:=qf.binds1 (l:=[aD9]) (fun _ _ _ _ _ _ _=>rfl);have Mw:=qg.binds1 (l:=[aEl]) (fun _ _ _ _ _ _ _=>rfl);refine F.ok arZ (fun vs H Q E h=>?_) (fun ay A outer s H vs Q E hr h=>?_)
 . obtain⟨x,dx,d,b,v,tb,bk,xs,ps,t,ch,cs,ow,rfl,_⟩:=h;rfl
 . obtain⟨x,dx,d,b,v,tb,bk,xs,ps,t,ch,cs,ow,rfl,hx,hb,pb,pT,hl,ht,q⟩:=h;refine⟨_,(av (aU (aG xQ hr rfl xP qg.kp Mw .nil aD (aa (bi eL (aG xO hr rfl xN qf.kp Mu .nil aD (aa (pv 0) ac)) (qU qV ar) (fun _ _=>rfl)) ac)))),?_⟩;refine⟨_,rfl,x,dx,d,b,v,tb,bk,rfl,hx,hb,pb,pT,fun r H1 n1 s1 e1=>?_⟩;obtain⟨ts,Bu⟩:=WC.mp hl;rw[Bu]at e1;refine⟨_,rfl,r,_,_,_,rfl,rfl,ae.of e1,Mt ts t,?_⟩;exact ht.not fun v H' s' hv=>q v H' (s1.trans s') fun L hL=>hv L fun b hb=>(hL b hb).elim fun o ar1=>ar1.elim fun e n=>⟨o,s1 _ _ e,n⟩
def xR(xs:Lv)(ps:aT)(T:Addr)(H:Hp)(v:V)(t:Str):Prop:=∃ch cs ow,gj T H v ch cs ow/\iR xs ps t ch cs ow
theorem xR.same{xs:Lv}{ps:aT}{T:Addr}{H H':Hp}(s:ag H H'){v:V}{t:Str}(h:xR xs ps T H v t):xR xs ps T H' v t:=h.elim fun ch ar2=>ar2.elim fun cs ar3=>ar3.elim fun ow ar4=>ar4.elim fun a b=>⟨ch,cs,ow,a.same s,b⟩
def UE(D T:Addr):Sp:=fun vs H Q _=>∃(x dx d b:Addr) (v:V) (tb:Lv) (bk:Bk) (xs:Lv) (ps:aT),vs=[.ref x]/\H x=some (.ins D dx (cu d b v))/\H b=some (.lst tb)/\Paired (jV H) tb bk/\bk.length<=500/\iS xs ps (Str.empty::bQ bk) /\
 ∀l zs H',H l=none->ag H H'->H' l=some (.lst zs)->Paired (xR xs ps T (msk [l] H')) zs (Str.empty::bQ bk)->Q (.ref l) H'
theorem ar5:aR [aD9] [aD9] (aE Ep):=aZ
theorem ar6{f D T qb qe:Addr}{fd ve vf:Fy}(F:ak K aFp aFp Ep f fd)(qf:ak K aEK aEK Ad qb ve)(xN:mg aEK=some (.ref qb))(xO:aj P w K mg base al 4 qb ve [aD9] (Ga D))
 (qg:ak K aEJ aEJ Ac qe vf) (xP:mg aEJ=some (.ref qe)) (xQ:aj P w K mg base al 4 qe vf [aEl] (Aw T)):aj P w K mg base al 5 f fd [aD9] (UE D T):=by
 have Mu:=qf.binds1 (l:=[aD9]) (fun _ _ _ _ _ _ _=>rfl);have Mw:=qg.binds1 (l:=[aEl]) (fun _ _ _ _ _ _ _=>rfl);refine F.okL ar5 ?_
 . intro ay A outer s H vs Q E hr h xX dX;obtain⟨x,dx,d,b,v,tb,bk,xs,ps,rfl,hx,hb,pb,pT,tok,q⟩:=h;refine⟨_,(av (aU (fM [aEl] [] [] dL rfl (cy (aG xO hr rfl xN qf.kp Mu .nil aD (aa (pv 0) ac))) (fun _ _ _ _=>(aY (i:=0) (show List.Nodup ([aEl]:Ls) by decide +kernel) rfl (Or.inl rfl))) (fun _ _ _ _=>ge) (fun _ _ _ _=>(aG xQ hr rfl xP qg.kp Mw .nil aD (aa (pv 0) ac)))))),?_⟩;refine⟨_,rfl,x,dx,d,b,v,tb,bk,rfl,hx,hb,pb,pT,fun r H1 n1 s1 e1=>⟨r,rfl,⟨_,ae.of e1⟩,?_⟩⟩;have bl:(bQ bk).length<=500:=by
    unfold bQ;rw[am];exact ce (Cg _ _) pT
   generalize hts:Str.empty::bQ bk=ts at e1 tok q;have tl:ts.length<=501:=by rw[←hts,bO];omega
   intro D' jW;refine Ko (σ0:=[none]) jW (ae.of e1) (fun σ=>∃u,σ=[u]) (fun j zs Hx=>Paired (xR xs ps T (msk [D'] Hx)) zs (ts.take j)) ⟨_,rfl⟩ .nil ?_ ?_
   . rintro j y zs σ H3 k hy ⟨u,rfl⟩ cO h3 pr hk;rw[db]at hy;cases ht:ts[j]? with
     | none=>rw[ht]at hy;cases hy
     | some t=>
      rw[ht]at hy;cases hy;obtain⟨ch,cs,ow,hT⟩:=tok t (dG ht);have zl:=bq pr;rw[eh]at zl;have aN:=(ci.mp ht).1;refine⟨_,rfl,hT.not fun v H4 s4 hv=>?_⟩;refine hk _ _ _ ⟨_,rfl⟩ s4 (bI (by omega)) ?_;rw[uo bB,pZ ht];refine iI ⟨ch,cs,ow,hv [D'] fun b hb=>?_,hT⟩ (aK pr fun _ _=>xR.same (gr s4));rw[bj.mp hb];exact⟨_,cO,by intro vs z;cases z⟩
   . rintro zs H3 cO h3 pr;rw[am,eT]at pr;exact q D' zs H3 (s1.free jW) (s1.trans h3) cO pr
end
structure Dk(D x dx d b:Addr)(lf:Option Int)(fs:Tr)(bk:Bk)(H:Hp):Prop where
 ob:H x=some (.ins D dx (cu d b (lv lf)))
 fi:∃kd,H d=some (.dK kd)/\Paired (cT H) kd fs
 bo:∃tb,H b=some (.lst tb)/\Paired (jV H) tb bk
 nd:(fs.map (·.1)).Nodup
 ok:dU fs
 bz:bk=[]->fs=[]
 bt:Mq bk
 ps:∀m,lf=some m->0<=m
theorem Dk.same{D x dx d b:Addr}{lf:Option Int}{fs:Tr}{bk:Bk}{H H':Hp}(h:Dk D x dx d b lf fs bk H)(s:ag H H'):Dk D x dx d b lf fs bk H':=by
 obtain⟨kd,d1,d2⟩:=h.fi;obtain⟨tb,b1,b2⟩:=h.bo;exact⟨s _ _ h.ob,⟨kd,s _ _ d1,aK d2 fun _ _=>cT.same s⟩,⟨tb,s _ _ b1,aK b2 fun _ _=>jV.same s⟩,h.nd,h.ok,h.bz,h.bt,h.ps⟩
def cx(x d b Pt:Addr)(H H':Hp):Prop:=∀q o,H q=some o->q≠x->q≠d->q≠b->q≠Pt->H' q=some o
theorem cx.trans{x d b Pt:Addr}{H H1 H2:Hp}(a:cx x d b Pt H H1)(c:cx x d b Pt H1 H2):cx x d b Pt H H2:=fun q o e n1 n2 n3 n4=>c q o (a q o e n1 n2 n3 n4) n1 n2 n3 n4
theorem cx.of{x d b Pt:Addr}{H H':Hp}(s:ag H H'):cx x d b Pt H H':=fun q o e _ _ _ _=>s q o e
theorem cx.ofT{x d b Pt:Addr}{H H':Hp}(s:lY Pt H H'):cx x d b Pt H H':=fun q o e _ _ _ n=>s q o e n
theorem cx.msk{x d b Pt:Addr}{H H':Hp}(k:cx x d b Pt H H'):ag (msk [x,d,b,Pt] H) (msk [x,d,b,Pt] H'):=fun q o e=>by
 have n:q∉[x,d,b,Pt]:=fun z=>by unfold K64.msk at e;rw[aq z]at e;cases e
 have e':=bF q o e;simp only[aX,fe,ff,lC]at n;exact cg (by simp[n]) (k q o e' n.1 n.2.1 n.2.2.1 n.2.2.2)
theorem Dk.keepT{D x dx d b Pt:Addr}{lf:Option Int}{fs:Tr}{bk:Bk}{H H':Hp}{lp:Pos}{qu:Str}(h:Dk D x dx d b lf fs bk H)(t:aH H Pt lp qu)(k:lY Pt H H'):Dk D x dx d b lf fs bk H':=by
 obtain⟨kd,d1,d2⟩:=h.fi;obtain⟨tb,b1,b2⟩:=h.bo;have g:∀{q:Addr}{o:HO},H q=some o->(∀φ,o≠.ext φ)->H' q=some o:=fun e n=>k _ _ e (aH.ne t e n);exact⟨g h.ob (by intro φ z;cases z),⟨kd,g d1 (by intro φ z;cases z),aK d2 fun _ _ ar8=>ar8.elim fun z1 ar9=>ar9.elim fun l asa=>asa.elim fun z2 z3=>⟨z1,l,z2,g z3 (by intro φ z;cases z)⟩⟩,⟨tb,g b1 (by intro φ z;cases z),aK b2 fun _ _ asb=>asb.elim fun t asc=>asc.elim fun z1 z2=>⟨t,z1,g z2 (by intro φ z;cases z)⟩⟩,h.nd,h.ok,h.bz,h.bt,h.ps⟩
theorem UG{H:Hp}{b l:Addr}{tb:Lv}{bk:Bk}{ls:Ls}(hb:H b=some (.lst tb))(pb:Paired (jV H) tb bk)(n:bk≠[]\/ls≠[])(hl:H l=some (.lst (ls.map V.str))):l≠b:=fun e=>by
 rw[e,hb]at hl;injection hl with hl
 injection hl with hl
 subst hl;cases ls with
 | nil=>
  cases pb
  rcases n with z | z<;>exact z rfl
 | cons y ls=>
  cases pb with
  | cons r t=>
   obtain⟨t,z,_⟩:=r;cases z
theorem aH.kp{H H':Hp}{Pt:Addr}{lp:Pos}{qu:Str}(h:aH H Pt lp qu)(k:∀q φ,H q=some (.ext φ)->H' q=some (.ext φ)):aH H' Pt lp qu:=by
 rcases h with z | ⟨c',z1,z2⟩
 . exact .inl (k _ _ z)
 . exact .inr ⟨c',k _ _ z1,k _ _ z2⟩
section
variable {P:Program}{w:World}{K:Fg}{mg:Mv}{base:Heap}
def Gb(D Fa:Addr):Sp:=fun vs H Q E=>∃(x dx d b t:Addr) (lf:Option Int) (fs:Tr) (bk:Bk) (kt:List (aw×V)) (tr:Tr),vs=[.ref x,.ref t]/\Dk D x dx d b lf fs bk H/\bk≠[]/\H t=some (.dK kt)/\d≠t/\Paired (cT H) kt tr/\(tr.map (·.1)).Nodup/\dU tr/\fs.length+tr.length<=63 /\
 (∀lf' bC H',Dk D x dx d b lf' bC bk H'->bC.length=tr.length->(lf=none->lf'=none)->(∀p o,H p=some o->p≠x->p≠d->H' p=some o)->Q .non H') /\
 (∀bC H',lf≠none->Dk D x dx d b (some 0) bC bk H'->bC.length<=fs.length+tr.length->(∀p o,H p=some o->p≠x->p≠d->H' p=some o)->E (.ref Fa) none H')
theorem UH{D x dx d b:Addr}{lf lf':Option Int}{fs bC:Tr}{bk:Bk}{H H':Hp}(h:Dk D x dx d b lf fs bk H)(bn:bk≠[])(t:Tn D x dx d b lf' bC H H')(nd:(bC.map (·.1)).Nodup)(ok:dU bC)(ps:∀m,lf'=some m->0<=m):Dk D x dx d b lf' bC bk H':=by
 obtain⟨kd,d1,d2⟩:=h.fi;obtain⟨tb,b1,b2⟩:=h.bo;exact⟨t.ob,t.hd,⟨tb,t.kp _ _ b1 (aO b1 h.ob (by intro z;cases z)) (aO b1 d1 (by intro z;cases z)),aK b2 fun _ _ asd=>asd.elim fun t' ase=>ase.elim fun z1 z2=>⟨t',z1,t.kp _ _ z2 (aO z2 h.ob (by intro z;cases z)) (aO z2 d1 (by intro z;cases z))⟩⟩,nd,ok,fun z=>absurd z bn,h.bt,ps⟩
theorem asf{f D Fa:Addr}{fd:Fy}{k:Nat}(G:aj P w K mg base (cE P w) k f fd [aD9,aEG] (TJ D Fa)):aj P w K mg base (cE P w) k f fd [aD9,aEG] (Gb D Fa):=by
 refine G.imp fun vs H Q E h=>?_;obtain⟨x,dx,d,b,t,lf,fs,bk,kt,tr,e,hD,bn,ht,dt,pt,nt,ot,Mx,q1,q2⟩:=h;obtain⟨kd,d1,d2⟩:=id hD.fi;refine⟨x,dx,d,b,t,lf,kd,kt,fs,tr,e,hD.ob,d1,ht,dt,d2,pt,hD.nd,nt,hD.ok,ot,Mx,hD.ps,fun us H' U hm T=>?_,fun us j H' U hj aN T=>?_⟩
 . have nd:=K9 (tr:=tr) (ps:=us) hD.nd;refine q1 _ _ H' (UH hD bn T nd (La ot hD.ok) fun m z=>?_) (apu nd nt fun k=>U.all k) (fun z=>by rw[z];rfl) T.kp;cases lf with
   | none=>cases z
   | some m'=>
    have:=hm m' rfl;have z:some (m' - (us.length:Int))=some m:=z;cases z;omega
 . have nd:=K9 (tr:=tr) (ps:=us.take j) hD.nd;have ul:=U.len;refine q2 _ H' (by rw[hj];intro z;cases z) (UH hD bn T nd (La ot hD.ok) fun m z=>by cases z;omega) ?_ T.kp;have:=kO (ys:=fs.map (·.1)++tr.map (·.1)) nd fun z hz=>by
    refine bK.mpr (aCJ fun c=>?_);rw[lC]at c;refine jr.mp ?_ hz;rw[Fl];split
    . exact jr.mpr c.2
    . exact jr.mpr c.1
   rwa [bh,am,am,am]at this
def Gc(D Fa:Addr):Sp:=fun vs H Q E=>∃(x dx d b:Addr) (lf:Option Int) (fs:Tr) (bk:Bk) (y z:Str),vs=[.ref x,.str y,.str z]/\Dk D x dx d b lf fs bk H/\bk.length<=400/\dZ y/\dZ z /\
 (∀lf' H',fV lf=some lf'->Dk D x dx d b lf' fs (bk++[(y,z)]) H'->(∀p o,H p=some o->p≠x->p≠b->H' p=some o)->Q .non H')/\(fV lf=none->E (.ref Fa) none H)
theorem asg{f D Fa:Addr}{fd:Fy}{k:Nat}(G:aj P w K mg base (cE P w) k f fd [aD4,aE1,aEl] (Tk D Fa)):aj P w K mg base (cE P w) k f fd [aD4,aE1,aEl] (Gc D Fa):=by
 refine G.imp fun vs H Q E h=>?_;obtain⟨x,dx,d,b,lf,fs,bk,y,z,e,hD,l4,oy,oz,q1,q2⟩:=h;obtain⟨kd,d1,d2⟩:=id hD.fi;obtain⟨tb,b1,b2⟩:=id hD.bo;have pl:=bq b2;refine⟨x,dx,d,b,lf,y,z,tb,e,hD.ob,b1,by omega,fun lf' e' t H' nt gE kQ Kf kp fr=>?_,q2⟩;refine q1 lf' H' e' ⟨gE,⟨kd,kp _ _ d1 (aO d1 hD.ob (by intro z;cases z)) (aO d1 b1 (by intro z;cases z)),?_⟩,⟨_,kQ,iI ⟨t,rfl,Kf⟩ (aK b2 fun _ _ ash=>ash.elim fun t' asi=>asi.elim fun z1 z2=>⟨t',z1,kp _ _ z2 (aO z2 hD.ob (by intro z;cases z)) (aO z2 b1 (by intro z;cases z))⟩)⟩,hD.nd,hD.ok,fun z=>by simp at z,?_,?_⟩ kp
 . by_cases bn:bk=[]
   . have f0:=hD.bz bn;subst f0;cases d2;exact .nil
   . exact aK d2 fun kv f asj=>asj.elim fun z1 asl=>asl.elim fun l asm=>asm.elim fun z2 z3=>⟨z1,l,z2,kp _ _ z3 (aO z3 hD.ob (by intro z;cases z)) (UG b1 b2 (.inl bn) z3)⟩
 . intro e he
   rcases bK.mp he with z | z
   . exact hD.bt e z
   . rw[bj.mp z];exact⟨oy,oz⟩
 . intro m hm;cases lf with
   | none=>cases e';cases hm
   | some n=>
    by_cases h1:n<1
    . rw[K2 h1]at e';cases e'
    . rw[xw h1]at e';cases e';cases hm;omega
def Gd(D Fa:Addr):Sp:=fun vs H Q E=>∃(x dx d b t:Addr) (lf:Option Int) (fs:Tr) (bk:Bk) (kt:List (aw×V)) (tr:Tr),vs=[.ref x,.ref t]/\Dk D x dx d b lf fs bk H/\bk≠[]/\bk.length<=400/\H t=some (.dK kt)/\d≠t/\Paired (cT H) kt tr/\(tr.map (·.1)).Nodup/\dU tr/\fs.length+tr.length<=63 /\
 (∀lf' bC H',Dk D x dx d b lf' bC (bk++[fW]) H'->bC.length=tr.length->(lf=none->lf'=none)->(∀p o,H p=some o->p≠x->p≠d->p≠b->H' p=some o)->Q .non H') /\
 (∀bC H',lf≠none->Dk D x dx d b (some 0) bC bk H'->bC.length<=fs.length+tr.length->(∀p o,H p=some o->p≠x->p≠d->p≠b->H' p=some o)->E (.ref Fa) none H')
theorem asn:aR [aD9,aEG] [aD9,aEG] (aE Ae):=aZ
theorem UI{D x dx d b:Addr}{lf:Option Int}{fs:Tr}{bk:Bk}{H:Hp}(h:Dk D x dx d b lf fs bk H)(e:fV lf=none):lf=some 0:=by
 cases lf with
 | none=>cases e
 | some n=>
  have:=h.ps n rfl
  by_cases h1:n<1
  . congr 1;omega
  . rw[xw h1]at e;cases e
theorem aso{f D Fa f1 f2 f3 f4 jq f6 f7 qh:Addr}{fd qi vg:Fy}(F:ak K aFg aFg Ae f fd)(T:im K mg D f1 f2 f3 f4 jq f6 f7)(qj:ak K aET aET wN qh vg)(xS:mg aET=some (.ref qh))(xT:aj P w K mg base (cE P w) 3 qh vg [aD9,aEG] (Gb D Fa))
 (vh:ak K "note" "Disk.note" rJ jq qi) (vi:aj P w K mg base (cE P w) 3 jq qi [aD4,aE1,aEl] (Gc D Fa)):aj P w K mg base (cE P w) 4 f fd [aD9,aEG] (Gd D Fa):=by
 have My:=qj.binds2 (l:=[aD9,aEG]) (fun _ _ _ _ _ _ _ _=>rfl);have Ge:=vh.binds3 (l:=[aD4,aE1,aEl]) (fun _ _ _ _ _ _ _ _ _=>rfl);refine F.okR asn (fun vs H Q E h=>?_) (fun ay A outer s H vs Q E hr h=>?_)
 . obtain⟨x,dx,d,b,t,lf,fs,bk,kt,tr,rfl,_⟩:=h;rfl
 . obtain⟨x,dx,d,b,t,lf,fs,bk,kt,tr,rfl,hD,bn,l4,ht,dt,pt,nt,ot,Mx,q1,q2⟩:=h;refine⟨_,(ao (cI (aG xT hr rfl xS qj.kp My .nil kN (aa (pv 0) (aa (pv 1) ac))))
    (av (cI (qW (pv 0) T.cl T.mDNt vi hr Ge .nil kN (aa bH (aa bH ac)))))),?_⟩
   refine⟨_,rfl,_,rfl,x,dx,d,b,t,lf,fs,bk,kt,tr,rfl,hD,bn,ht,dt,pt,nt,ot,Mx,fun lf' bC H1 jY el hn kp=>?_,fun bC H1 ln jY le kp=>q2 bC H1 ln jY le fun p o e a1 a2 _=>kp p o e a1 a2⟩;refine⟨_,rfl,x,dx,_,rfl,jY.ob,rfl,x,dx,d,b,lf',bC,bk,_,_,rfl,jY,l4,(by decide +kernel),(by decide +kernel),fun lf2 H2 e2 me kp2=>?_,fun e2=>?_⟩
   . refine q1 lf2 bC H2 me el (fun z=>?_) fun p o e a1 a2 a3=>kp2 p o (kp p o e a1 a2) a1 a3;have:=hn z;rw[this]at e2;cases e2;rfl
   . have z:=UI jY e2;refine q2 bC H1 (fun y=>?_) (z▸jY) (by omega) fun p o e a1 a2 _=>kp p o e a1 a2;rw[hn y]at z;cases z
end
theorem lY.msk{Pt:Addr}{H H':Hp}(k:lY Pt H H'):ag (msk [Pt] H) (msk [Pt] H'):=fun q o e=>by
 have n:q∉[Pt]:=fun z=>by unfold K64.msk at e;rw[aq z]at e;cases e
 exact cg n (k q o (bF q o e) (by simpa using n))
theorem off{Pt q:Addr}{H:Hp}{o:HO}{lp:Pos}{qu:Str}(t:aH H Pt lp qu)(e:H q=some o)(n:∀φ,o≠.ext φ):msk [Pt] H q=some o:=cg (by simpa using aH.ne t e n) e
theorem di.off{Pt c:Addr}{H:Hp}{ch:Ch}{lp:Pos}{qu:Str}(t:aH H Pt lp qu)(h:di H c ch):di (msk [Pt] H) c ch:=by
 obtain⟨kvs,h1,h2⟩:=h;exact⟨kvs,K64.off t h1 (by intro φ z;cases z),aK h2 fun _ _ asr=>asr.elim fun a ass=>ass.elim fun m ast=>ast.elim fun b c=>⟨a,m,b,K64.off t c (by intro φ z;cases z)⟩⟩
theorem Mz{Pt q:Addr}{H H':Hp}{lp:Pos}{qu:Str}(s:ag (msk [Pt] H) (msk [Pt] H'))(t:aH H' Pt lp qu)(n:H' q=none):H q=none:=by
 cases e:H q with
 | none=>rfl
 | some o=>
  have np:q≠Pt:=fun z=>by
   obtain⟨φ,w⟩:=aH.at t;rw[z,w]at n;cases n
  have:=bF _ _ (s q o (cg (by simpa using np) e));rw[n]at this;cases this
theorem mn.okO{ch:Ch}{cs:Cs}{ow:Ow}(h:mn ch cs ow):LK ow:=fun e he=>by
 obtain⟨a,b,c⟩:=h.ok.ow e he;obtain⟨d,f⟩:=h.ln e he;exact⟨by have:=a.len;omega,⟨by omega,fun x hx=>(b x hx).ln⟩,⟨by omega,fun x hx=>(c x hx).ln⟩⟩
def Bv(H R:Hp)(v:V)(e:Str×Tr):Prop:=∃tp g t kvs,v=.ref tp/\H tp=none/\R tp=some (.tup [.ref g,.ref t])/\R g=some (.lst [.str e.1])/\cr e.1/\H t=none/\R t=some (.dK kvs)/\Paired (dj H R) kvs e.2/\(e.2.map (·.1)).Nodup/\e.2.length<=20/\dU e.2
theorem Bv.kp{H R R':Hp}(k:∀b o,R b=some o->(∀φ,o≠.ext φ)->R' b=some o){v:V}{e:Str×Tr}(h:Bv H R v e):Bv H R' v e:=by
 obtain⟨tp,g,t,kvs,h1,h2,h3,h4,h5,h6,h7,h8,h9⟩:=h;exact⟨tp,g,t,kvs,h1,h2,k _ _ h3 (by intro φ z;cases z),k _ _ h4 (by intro φ z;cases z),h5,h6,k _ _ h7 (by intro φ z;cases z),aK h8 fun _ _ asu=>asu.elim fun z1 asv=>asv.elim fun l asw=>asw.elim fun z2 asx=>asx.elim fun z3 z4=>⟨z1,l,z2,z3,k _ _ z4 (by intro φ z;cases z)⟩,h9⟩
section
variable {P:Program}{w:World}{K:Fg}{mg:Mv}{base:Heap}
def MA(C S T Pt:Addr):Sp:=fun vs H Q _=>∃(sv gv:V) (a:Addr) (xs:Lv) (ps:aT) (ns:Ls) (now ch:Ch) (cs:Cs) (ow:Ow),vs=[sv,.ref a,gv]/\k8 C S (msk [Pt] H) sv xs ps ns/\di (msk [Pt] H) a now/\eP xs ps now/\gj T (msk [Pt] H) gv ch cs ow/\jX xs ps ch cs ow/\aH H Pt cY cU /\
 ∀l zs es H',H l=none->lY Pt H H'->aH H' Pt cY cU->H' l=some (.lst zs)->Paired (Bv H (msk [l] H')) zs es->es.length<=8->Q (.ref l) H'
theorem Bw:aR [aD7,aEx,aEm,"steps","reached",aED] [aD7,aEx,aEm] (aE Eu):=aZ
theorem asy{f C S T Pt Bx k9 jZ ii:Addr}{fd Gf p9 nJ kR:Fy}(F:ak K aFH aFH Eu f fd)(UT:rO K mg T)(MT:Mk K T ii)(ni:ak K "__init__" "Stand.__init__" pA ii kR)(pE:aj P w K mg base al 5 ii kR [aD4,aEb,aEj,aEw] (wZ T))
 (By:ak K aFA aFA Em Bx Gf) (MB:mg aFA=some (.ref Bx)) (ME:aj P w K mg base al 6 Bx Gf [aD7,aEx,aEm] (Mm C S)) (iQ:ak K aEu aEu wM k9 p9) (qa:mg aEu=some (.ref k9)) (Bo:aj P w K mg base al 6 k9 p9 [aEx,aEm,aED] F4)
 (j0:ak K aEz aEz rK jZ nJ) (qk:mg aEz=some (.ref jZ)) (ql:aj P w K mg base al 6 jZ nJ [aD7,aEr] (A0 C S T Pt)):aj P w K mg base al 7 f fd [aD7,aEx,aEm] (MA C S T Pt):=by
 have Az:=ni.binds4 (l:=[aD4,aEb,aEj,aEw]) (fun _ _ _ _ _ _ _ _ _ _=>rfl);have asz:=By.binds3 (l:=[aD7,aEx,aEm]) (fun _ _ _ _ _ _ _ _ _=>rfl);have Bp:=iQ.binds3 (l:=[aEx,aEm,aED]) (fun _ _ _ _ _ _ _ _ _=>rfl);have Bz:=j0.binds2 (l:=[aD7,aEr]) (fun _ _ _ _ _ _ _ _=>rfl);refine F.okL Bw ?_
 . intro ay A outer s H vs Q E hr h xX dX;obtain⟨sv,gv,a,xs,ps,ns,now,ch,cs,ow,rfl,hW,hA,cA,hG,gz,tab,q⟩:=h;refine⟨_,(ao (aP (i:=3) Bw.nd rfl (Or.inl rfl) (cX ac))
    (ao (aP (i:=4) Bw.nd rfl (Or.inl rfl) (pv 1))
    (ao (eA dY rfl (cy (aG ME hr rfl MB By.kp asz .nil aD (aa (pv 0) (aa (pv 1) (aa (cW (pv 2) rfl) ac))))) (aY (i:=5) Bw.nd rfl (Or.inl rfl))
    (ao (aP (i:=4) Bw.nd rfl (Or.inl rfl) (aG Bo hr rfl qa iQ.kp Bp .nil aD (aa (pv 4) (aa (cW (pv 2) rfl) (aa (pv 5) ac)))))
     (av (cI (dr gD vU vV oU (pv 3) (aa (eK (aa (pv 5) (aa (aG ql hr rfl qk j0.kp Bz .nil aD (aa (pv 0) (aa (yS MT pE hr rfl UT.mgC Az .nil aD (aa (pv 4) (aa (cW (pv 2) rfl) (aa (cW (pv 2) rfl) ac)))) ac))) ac))) ac))))))
    (av (aU (pv 3)))))),?_⟩
   refine rf ?_;intro dD sS u4 u3 u2;obtain⟨ga,Gg,gfl,c,h,o,rfl,t1,t2,t3,t4,t5,t6,t7⟩:=id hG;have cB:eP xs ps ch:=⟨gz.ok.d1,gz.va⟩;refine⟨(by show 0<=sizeLine;decide),fun p1 H1 n1 s1 e1=>?_⟩;refine⟨_,rfl,?_⟩;have m1:=gr (L:=[Pt]) s1;refine⟨_,rfl,_,rfl,_,rfl,ga,T,Gg,_,_,rfl,s1 _ _ (bF _ _ t1),UT.cl,UT.nC,t2,?_⟩;refine⟨sv,a,c,xs,ps,ns,now,ch,rfl,hW.same (bF.trans s1),hA.same (bF.trans s1),t5.same (bF.trans s1),cA,cB,fun l zg us H2 n2 s2 e2 U pr=>⟨l,rfl,⟨_,ae.of e2⟩,?_⟩⟩;have m2:=m1.trans (gr (L:=[Pt]) s2);have sL:=(tab.same s1).same s2;have nl:=cA.len hW.ap hW.n4;have gl:=cB.len hW.ap hW.n4;have ul:=U.len;have UJ:H p1=none:=n1;have usN:∀z∈us,cr z:=fun z hz=>by
    have cq:=(U.mem z).mp hz;have key:∀{c:Ch},eP xs ps c->z∈c.map (·.1)->cr z:=fun k hz=>by
     obtain⟨e,he,rfl⟩:=cL.mp hz;obtain⟨v,p,hi,e1,_⟩:=k.va e he;exact e1▸hW.nm _ (hW.ap.nms p (Ma hi))
    by_cases z1:z∈now.map (·.1)
    . exact key cA z1
    . by_cases z2:z∈ch.map (·.1)
      . exact key cB z2
      . exact absurd ((jr.mpr z1).trans (jr.mpr z2).symm) cq
   have zgl:=bq pr;refine gF (xs:=zg) (fun i σ H3=>∃u re zs es,σ=[some sv,some (.ref a),some (.ref ga),some (.ref p1),some (.ref re),u]/\ag (msk [Pt] H) (msk [Pt] H3)/\aH H3 Pt cY cU/\H3 l=some (.lst zg)/\Paired (gX [l] H3) zg us/\H3 p1=some (.lst zs)/\Paired (Bv H (msk [p1] H3)) zs es/\es.length=i/\di (msk [Pt] H3) re ((us.take i).foldl (bu ch) now))
    ⟨none,a,[],[],rfl,m2,sL,e2,pr,s2 _ _ e1,.nil,rfl,hA.same m2⟩ ?_ ?_ ?_
   . rintro i σ H3 hi ⟨u,re,zs,es,rfl,_,_,e3,_⟩;exact ae.of e3
   . intro i z σ H3 hz hQ;refine ba ?_;intro tT;obtain⟨u,re,zs,es,rfl,m3,iT,UK,rX,xU,xV,il,c3⟩:=hQ;obtain⟨n,hn,g,rfl,gl',hg⟩:=eG rX hz;have aN:=(ci.mp hn).1;have k3:eP xs ps ((us.take i).foldl (bu ch) now):=cB.steps cA;have cl3:=k3.len hW.ap hW.n4;have G3:=hG.same m3;have zl:=bq xV;have gp:g≠p1:=fun z=>by
      rw[z,xU]at hg;injection hg with hg
      injection hg with hg
      subst hg;cases xV with
      | cons r t=>obtain⟨_,_,_,_,z,_⟩:=r;cases z
     refine⟨_,rfl,_,rfl,ga,T,Gg,_,_,rfl,bF _ _ (m3 _ _ t1),UT.cl,UT.nC,t2,_,rfl,?_⟩;refine⟨re,c,g,_,ch,n,rfl,c3.same bF,(t5.same m3).same bF,k3.nd,cB.nd,hg,by omega,fun r H4 n4 s4 c4=>?_⟩;have m4:=m3.trans (gr (L:=[Pt]) s4);have xW:=iT.same s4;have st:bu ch ((us.take i).foldl (bu ch) now) n=(us.take (i+1)).foldl (bu ch) now:=by rw[pZ hn,qI];rfl
     rw[st]at c4;have k4:eP xs ps ((us.take (i+1)).foldl (bu ch) now):=cB.steps cA;have UL:=s4 _ _ xU;refine⟨_,rfl,.inl ⟨rfl,_,ae.of UL⟩,_,rfl,_,rfl,_,rfl,_,rfl,ga,T,Gg,_,_,rfl,bF _ _ (m4 _ _ t1),UT.cl,UT.nH,t3,_,rfl,ga,T,Gg,_,_,rfl,bF _ _ (m4 _ _ t1),UT.cl,UT.nO,t4,?_⟩;refine JP (T:=T) c4 ((t6.same m4).same bF) ((t7.same m4).same bF) gz.ok.d3 (by have:=gz.o2;omega) fun x H5 n5 s5 fg=>?_;have m5:=m4.trans (gr (L:=[Pt]) s5);have gw:=xW.same s5;have W5:=(hW.same m5).same bF;have UM:=fg [] (fun b hb=>nomatch hb);rw[EQ]at UM;refine⟨sv,.ref x,xs,ps,_,cs,ow,ns,rfl,W5.sh,W5.pc,W5.pcok,hW.n4,UM,k4.va,k4.len hW.ap hW.n4,gz.o2,gz.ok.okO,fun e he=>(gz.ok.ok.cs e he).2.ln,gw,fun t H6 kvs tr n6 kT sG e6 BA BB pU rA=>?_⟩;refine⟨(by show 2<=sizeLine;decide),fun tp H7 n7 s7 e7=>?_⟩;have m6:=m5.trans (lY.msk kT);have m7:=m6.trans (gr (L:=[Pt]) s7);have sM:=sG.same s7;have go:∀{b:Addr}{o:HO},H3 b=some o->(∀φ,o≠.ext φ)->H7 b=some o:=fun e ne=>s7 _ _ (kT _ _ (s5 _ _ (s4 _ _ e)) (aH.ne gw (s5 _ _ (s4 _ _ e)) ne));have UN:∀{b:Addr}{o:HO},H5 b=some o->(∀φ,o≠.ext φ)->H7 b=some o:=fun e ne=>s7 _ _ (kT _ _ e (aH.ne gw e ne));have Gh:=go xU (by intro φ z;cases z);have Gi:=s5 _ _ UL;have lp:l≠p1:=(aL e1 n2).symm;refine⟨p1,_,_,rfl,rfl,Gh,bI (by omega),?_⟩;have hu:∀{b:Addr}{o o':HO},H7 b=some o->b≠p1->ah H7 p1 o' b=some o:=fun e ne=>aB e ne;have tp1:tp≠p1:=fun z=>by rw[z,kT _ _ Gi (aH.ne gw Gi (by intro φ z;cases z))]at n7;cases n7
     have t1':t≠p1:=fun z=>by rw[z,Gi]at n6;cases n6
     refine⟨_,r,zs++[.ref tp],es++[(n,tr)],rfl,?_,?_,hu (go UK (by intro φ z;cases z)) lp,aK rX fun _ _ yy=>?_,aI,?_,by rw[bh,il];rfl,?_⟩
     . refine fun b ob eb=>?_;have:=m7 b ob eb;have nb:b∉[Pt]:=fun z=>by unfold K64.msk at this;rw[aq z]at this;cases this
       exact cg nb (hu (bF _ _ this) fun z=>by have:=bF _ _ eb;rw[z,UJ]at this;cases this)
     . exact K64.aH.kp sM fun b φ e=>hu e (aO e Gh (by intro z;cases z))
     . obtain⟨l',y1,y2,y3⟩:=yy;refine⟨l',y1,y2,hu (go y3 (by intro φ z;cases z)) fun z=>?_⟩;rw[z,xU]at y3;injection y3 with y3
       injection y3 with y3
       subst y3;cases xV with
       | cons r t=>obtain⟨_,_,_,_,z,_⟩:=r;cases z
     . rw[uo bB];refine iI ?_ (aK xV fun _ _ z=>z.kp fun b ob eb ne=>?_)
       . have q1:∀{b:Addr}{o:HO},H7 b=some o->b≠p1->msk [p1] H7 b=some o:=fun e ne=>cg (by simpa using ne) e;refine⟨tp,g,t,kvs,rfl,Mz m6 sG n7,q1 e7 tp1,q1 (go hg (by intro φ z;cases z)) gp,usN n (dG hn),Mz m5 gw n6,q1 (s7 _ _ e6) t1',aK BA fun _ _ asD=>asD.elim fun y1 asE=>asE.elim fun l' asF=>asF.elim fun y2 asG=>asG.elim fun y3 y4=>⟨y1,l',y2,Mz m5 gw y3,q1 (s7 _ _ y4) fun z=>by rw[z,Gi]at y3;cases y3⟩,BB,pU,rA⟩
       . have nb:b∉[p1]:=fun z=>by unfold K64.msk at eb;rw[aq z]at eb;cases eb
         exact cg nb (go (bF _ _ eb) ne)
     . have c7:di H7 r ((us.take (i+1)).foldl (bu ch) now):=by
        obtain⟨kr,r1,r2⟩:=c4.same s5;exact⟨kr,UN r1 (by intro φ z;cases z),aK r2 fun _ _ asH=>asH.elim fun a asI=>asI.elim fun m asJ=>asJ.elim fun b c=>⟨a,m,b,UN c (by intro φ z;cases z)⟩⟩
       refine di.off (K64.aH.kp sM fun b φ e=>hu e (aO e Gh (by intro z;cases z))) (di.mut Gh c7)
   . rintro σ H3 ⟨u,re,zs,es,rfl,m3,iT,UK,rX,xU,xV,il,c3⟩;refine⟨_,rfl,q p1 zs es H3 UJ (fun b ob eb nb=>bF _ _ (m3 b ob (cg (by simpa using nb) eb))) iT xU xV (by omega)⟩
end
def sN:Str:="step"
def dB(st:Ls):Bk:=st.map fun z=>(sN,z)
theorem iR.txt{xs:Lv}{ps:aT}{t:Str}{ch:Ch}{cs:Cs}{ow:Ow}(h:iR xs ps t ch cs ow):dZ t:=by
 rw[h.tx,←uE];refine Ib (by decide +kernel) fun r hr=>?_;have l:∀{ys:Ls},(∀y∈ys,dZ y)->dZ (Str.join spS ys):=fun h=>by rw[←uE];exact Ib (by decide +kernel) h
 rcases Jy h.so.ok.ok hr with⟨e,a,b,rfl⟩ | ⟨e,a,b,rfl⟩ | ⟨p,a,rfl⟩ | ⟨x,a,rfl⟩ | ⟨x,a,rfl⟩
 . refine l fun y hy=>?_;simp only[aX,fe,ff]at hy
   rcases hy with rfl | rfl | rfl
   . decide +kernel
   . exact a.ok
   . exact wm.mpr fun c hc=>by have:=b.signs c hc;omega
 . refine l fun y hy=>?_;simp only[aX,fe,ff]at hy
   rcases hy with rfl | rfl | rfl
   . decide +kernel
   . exact a.ok
   . exact b.ok
 . refine l fun y hy=>?_;simp only[aX,fe,ff]at hy
   rcases hy with rfl | rfl
   . decide +kernel
   . exact a.ln.ok
 . exact C2 (by decide +kernel) a.ln.ok
 . exact C2 (by decide +kernel) a.ln.ok
def j6(xs:Lv)(ps:aT)(ch:Ch)(cs:Cs)(ow:Ow)(t:Str):Prop:=∃bW bX bN,dN ch bW/\dN cs bX/\dN ow bN/\iR xs ps t bW bX bN
theorem j6.uniq{xs:Lv}{ps:aT}{ch:Ch}{cs:Cs}{ow:Ow}{t t':Str}(ok:jX xs ps ch cs ow)(h:j6 xs ps ch cs ow t)(k:j6 xs ps ch cs ow t'):t=t':=by
 obtain⟨a,b,c,h1,h2,h3,h4⟩:=h;obtain⟨a',b',c',k1,k2,k3,k4⟩:=k;rw[h4.tx,k4.tx,dN.eq ok.ok.d1 h1 k1,dN.eq ok.ok.d2 h2 k2,dN.eq ok.ok.d3 h3 k3]
theorem j6.ok{xs:Lv}{ps:aT}{ch:Ch}{cs:Cs}{ow:Ow}{t:Str}(h:j6 xs ps ch cs ow t):∃ch cs ow,iR xs ps t ch cs ow:=h.elim fun a asK=>asK.elim fun b asL=>asL.elim fun c asM=>asM.elim fun _ asN=>asN.elim fun _ asO=>asO.elim fun _ h=>⟨a,b,c,h⟩
def Gj(R:Hp)(v:V)(e:Str×Tr):Prop:=∃tp g t kvs,v=.ref tp/\R tp=some (.tup [.ref g,.ref t])/\R g=some (.lst [.str e.1])/\cr e.1/\R t=some (.dK kvs)/\Paired (cT R) kvs e.2/\(e.2.map (·.1)).Nodup/\e.2.length<=20/\dU e.2
theorem Gj.same{R R':Hp}(s:ag R R'){v:V}{e:Str×Tr}(h:Gj R v e):Gj R' v e:=by
 obtain⟨tp,g,t,kvs,h1,h2,h3,h4,h5,h6,h7⟩:=h;exact⟨tp,g,t,kvs,h1,s _ _ h2,s _ _ h3,h4,s _ _ h5,aK h6 fun _ _=>cT.same s,h7⟩
theorem Dk.busy{D x dx d b Pt:Addr}{lf:Option Int}{fs:Tr}{bk:Bk}{H:Hp}{lp:Pos}{qu:Str}(h:Dk D x dx d b lf fs bk H)(t:aH H Pt lp qu):iH H [x,d,b,Pt]:=fun q hq=>by
 obtain⟨kd,d1,_⟩:=h.fi;obtain⟨tb,b1,_⟩:=h.bo;obtain⟨φ,w⟩:=aH.at t;simp only[aX,fe,ff]at hq
 rcases hq with rfl | rfl | rfl | rfl
 . exact⟨_,h.ob,by intro vs z;cases z⟩
 . exact⟨_,d1,by intro vs z;cases z⟩
 . exact⟨_,b1,by intro vs z;cases z⟩
 . exact⟨_,w,by intro vs z;cases z⟩
theorem aH.kx{D x dx d b Pt:Addr}{lf:Option Int}{fs:Tr}{bk:Bk}{H H':Hp}{lp:Pos}{qu:Str}(h:Dk D x dx d b lf fs bk H)(t:aH H Pt lp qu)(k:∀p o,H p=some o->p≠x->p≠d->p≠b->H' p=some o):aH H' Pt lp qu:=by
 obtain⟨kd,d1,_⟩:=h.fi;obtain⟨tb,b1,_⟩:=h.bo;exact K64.aH.kp t fun q φ e=>k _ _ e (aO e h.ob (by intro z;cases z)) (aO e d1 (by intro z;cases z)) (aO e b1 (by intro z;cases z))
section
variable {P:Program}{w:World}{K:Fg}{mg:Mv}{base:Heap}
def MF(C S T D Fa Pt:Addr):Sp:=fun vs H Q E=>∃(sv gv:V) (x dx d b:Addr) (lf:Option Int) (fs:Tr) (bk:Bk) (xs:Lv) (ps:aT) (ns:Ls) (ch:Ch) (cs:Cs) (ow:Ow),vs=[sv,.ref x,gv]/\k8 C S (msk [x,d,b,Pt] H) sv xs ps ns/\gj T (msk [x,d,b,Pt] H) gv ch cs ow/\jX xs ps ch cs ow /\
 Dk D x dx d b lf fs bk H/\fs.length<=20/\bk.length<=300/\iS xs ps (Str.empty::bQ bk)/\aH H Pt cY cU/\fV lf≠none /\
 (∀t H',j6 xs ps ch cs ow t->(Str.empty::bQ bk).getLast?=some t->Dk D x dx d b lf fs bk H'->cx x d b Pt H H'->aH H' Pt cY cU->Q .non H') /\
 (∀t lf' bC st H',j6 xs ps ch cs ow t->(Str.empty::bQ bk).getLast?≠some t->Dk D x dx d b lf' bC (bk++(dv,t)::dB st++[fW]) H'->bC.length<=20->st.length<=8->cx x d b Pt H H'->aH H' Pt cY cU->Q .non H') /\
 (∀t bC st H',j6 xs ps ch cs ow t->(Str.empty::bQ bk).getLast?≠some t->lf≠none->Dk D x dx d b (some 0) bC (bk++(dv,t)::dB st) H'->bC.length<=40->st.length<=8->cx x d b Pt H H'->aH H' Pt cY cU->E (.ref Fa) none H')
theorem vj:aR [aD7,aD9,aEm,aEr,aEl,"steps",aEG,aED,"between"] [aD7,aD9,aEm] (aE Et):=aZ
theorem asP{f C S T D Fa Pt f1 f2 f3 f4 jq f6 f7 j7 qm BC jZ qh qo:Addr}{fd qi nK vk Gk nJ vg vm:Fy}(F:ak K aFL aFL Et f fd)(UD:im K mg D f1 f2 f3 f4 jq f6 f7)(UT:rO K mg T)
 (jv:ak K aEF aEF wP j7 nK) (nQ:mg aEF=some (.ref j7)) (nU:aj P w K mg base al 7 j7 nK [aD9] (Bt D T)) (jw:ak K aEI aEI Ab qm vk) (mq:mg aEI=some (.ref qm)) (mr:aj P w K mg base al 7 qm vk [aEr] (xb T))
 (BD:ak K aFH aFH Eu BC Gk) (MG:mg aFH=some (.ref BC)) (MH:aj P w K mg base al 7 BC Gk [aD7,aEx,aEm] (MA C S T Pt)) (j0:ak K aEz aEz rK jZ nJ) (qk:mg aEz=some (.ref jZ)) (ql:aj P w K mg base al 7 jZ nJ [aD7,aEr] (A0 C S T Pt))
 (qj:ak K aET aET wN qh vg) (xS:mg aET=some (.ref qh)) (xT:aj P w K mg base (cE P w) 7 qh vg [aD9,aEG] (Gb D Fa)) (vh:ak K "note" "Disk.note" rJ jq qi) (vi:aj P w K mg base (cE P w) 7 jq qi [aD4,aE1,aEl] (Gc D Fa))
 (qp:ak K aFg aFg Ae qo vm) (xY:mg aFg=some (.ref qo)) (xZ:aj P w K mg base (cE P w) 7 qo vm [aD9,aEG] (Gd D Fa)):aj P w K mg base (cE P w) 8 f fd [aD7,aD9,aEm] (MF C S T D Fa Pt):=by
 have x5:=jv.binds1 (l:=[aD9]) (fun _ _ _ _ _ _ _=>rfl);have sO:=jw.binds1 (l:=[aEr]) (fun _ _ _ _ _ _ _=>rfl);have asQ:=BD.binds3 (l:=[aD7,aEx,aEm]) (fun _ _ _ _ _ _ _ _ _=>rfl);have Bz:=j0.binds2 (l:=[aD7,aEr]) (fun _ _ _ _ _ _ _ _=>rfl);have My:=qj.binds2 (l:=[aD9,aEG]) (fun _ _ _ _ _ _ _ _=>rfl);have Ge:=vh.binds3 (l:=[aD4,aE1,aEl]) (fun _ _ _ _ _ _ _ _ _=>rfl);have MI:=qp.binds2 (l:=[aD9,aEG]) (fun _ _ _ _ _ _ _ _=>rfl);refine F.okR vj (fun vs H Q E h=>?_) (fun ay A outer s H vs Q E hr h=>?_)
 . obtain⟨sv,gv,x,dx,d,b,lf,fs,bk,xs,ps,ns,ch,cs,ow,rfl,_⟩:=h;rfl
 . refine Qg ?_;intro xX dX;obtain⟨sv,gv,x,dx,d,b,lf,fs,bk,xs,ps,ns,ch,cs,ow,rfl,hW,hG,gz,hD,pU,aDK,tok,tab,hdn,q1,q2,q3⟩:=h;refine⟨_,(ao (aP (i:=3) vj.nd rfl (Or.inl rfl) (aG nU hr rfl nQ jv.kp x5 .nil aD (aa (pv 1) ac)))
    (ao (aP (i:=4) vj.nd rfl (Or.inl rfl) (aG mr hr rfl mq jw.kp sO .nil aD (aa (pv 2) ac)))
    (ao (cJ (bM eV (aG mr hr rfl mq jw.kp sO .nil aD (aa (pv 3) ac)) (pv 4) (bE _))
    (av OB) dq)
    (ao (aP (i:=5) vj.nd rfl (Or.inl rfl) (aG MH hr rfl MG BD.kp asQ .nil aD (aa (pv 0) (aa (cW (pv 3) rfl) (aa (pv 2) ac)))))
    (ao (aP (i:=6) vj.nd rfl (Or.inl rfl) (aG ql hr rfl qk j0.kp Bz .nil aD (aa (pv 0) (aa (pv 2) ac))))
    (ao (cI (qW (pv 1) UD.cl UD.mDNt vi hr Ge .nil kN (aa bH (aa (pv 4) ac))))
    (ao (eA PassesOwn.leaving rfl (cy (pv 5)) (oI rfl (fG (aY (i:=7) vj.nd rfl (Or.inl rfl)) (fG (aY (i:=8) vj.nd rfl (Or.inl rfl)) mD)))
    (ao (cI (aG xT hr rfl xS qj.kp My .nil kN (aa (pv 1) (aa (pv 8) ac))))
     (av (cI (qW (pv 1) UD.cl UD.mDNt vi hr Ge .nil kN (aa bH (aa (dr my yE yF wt bH (aa (pv 7) ac)) ac)))))))
    (av (cI (aG xZ hr rfl xY qp.kp MI .nil kN (aa (pv 1) (aa (pv 6) ac)))))))))))),?_⟩
   refine air ?_;intro dD sS u8 u7 u6 u5 u4 u3 u2;obtain⟨tb,b1,b2⟩:=id hD.bo;obtain⟨t0,iU⟩:∃t0,(Str.empty::bQ bk).getLast?=some t0:=⟨_,GZ (qH _ _)⟩;obtain⟨qr,vn,vo,iV⟩:=tok t0 (WD iU);have bPt:iH H [Pt]:=fun q hq=>(hD.busy tab) q (by rw[bj.mp hq];simp);refine⟨_,rfl,x,dx,d,b,_,tb,bk,xs,ps,t0,qr,vn,vo,rfl,hD.ob,b1,b2,by omega,iU,iV,fun v0 H1 s1 iG=>?_⟩;refine⟨_,rfl,?_⟩;dsimp only[fh,qC,vW];refine gz.sho ((hG.same bF).same s1) fun t bW bX bN H2 r1 r2 r3 hT s2=>?_;have hg:j6 xs ps ch cs ow t:=⟨bW,bX,bN,r1,r2,r3,hT⟩;have UO:=iG [Pt] bPt;obtain⟨va,vdx,vfl,c0,h0,o0,rfl,w1,w2,w3,w4,w5,w6,w7⟩:=id UO;refine⟨_,rfl,?_⟩;dsimp only[fh,qC,vW];refine iV.sho ((UO.same bF).same s2) fun H3 s3=>⟨_,rfl,rfl,_,rfl,?_⟩;have jk:=s2.trans s3;have nV:=s1.trans jk;refine bw (fun h=>?_) (fun h=>?_)
   . have e:=cZ h;injection e with e
     exact q1 t H3 hg (e▸iU) (hD.same nV) (.of nV) (tab.same nV)
   . have ne:(Str.empty::bQ bk).getLast?≠some t:=fun z=>h (by rw[iU]at z;injection z with z;rw[z];exact bG rfl);have m3:=gr (L:=[Pt]) nV;have less:∀{Hx:Hp},ag (msk [x,d,b,Pt] Hx) (msk [Pt] Hx):=Jj (by simp);have iT:=tab.same nV;have vp:=hD.same nV;refine⟨_,rfl,_,rfl,va,T,vdx,_,_,rfl,jk _ _ (bF _ _ w1),UT.cl,UT.nC,w2,_,rfl,?_⟩;refine⟨sv,gv,c0,xs,ps,ns,qr,ch,cs,ow,rfl,(hW.same less).same m3,w5.same (gr jk),⟨iV.so.ok.d1,iV.so.va⟩,(hG.same less).same m3,gz,iT,fun l zs es H4 nl kT xW el prS e8=>?_⟩;have k34:cx x d b Pt H3 H4:=.ofT kT;have MJ:cx x d b Pt H H4:=(cx.of nV).trans k34;have gZ:=vp.keepT iT kT;have W4:=(hW.same MJ.msk).same bF;have G4:=(hG.same MJ.msk).same bF;have cB:eP xs ps ch:=⟨gz.ok.d1,gz.va⟩;refine⟨_,rfl,_,rfl,sv,gv,xs,ps,ch,cs,ow,ns,rfl,W4.sh,W4.pc,W4.pcok,W4.n4,G4,gz.va,cB.len W4.ap W4.n4,gz.o2,gz.ok.okO,fun e he=>(gz.ok.ok.cs e he).2.ln,xW,fun t5 H5 kvs tr n5 BE gw e5 BA BB lT rA=>?_⟩;have UP:cx x d b Pt H4 H5:=.ofT BE;have Gm:=MJ.trans UP;have ik:=gZ.keepT xW BE;have by3:=vp.busy iT;have by4:=gZ.busy xW;have nb:∀{q:Addr},H3 q=none->q∉[x,d,b,Pt]:=fun e=>by3.free e;have R4:∀{q:Addr}{o:HO},H4 q=some o->H3 q=none->msk [x,d,b,Pt] H4 q=some o:=fun e n=>cg (nb n) e;obtain⟨UQ,c1,c2⟩:=id gZ.bo;obtain⟨kd4,c3,_⟩:=id gZ.fi;have Ar:Paired (Gj (msk [x,d,b,Pt] H4)) zs es:=aK prS fun v e z=>by
      obtain⟨tp,g,tt,kk,z1,z2,z3,z4,z5,z6,z7,z8,z9⟩:=z;have g4:=bF _ _ z4;obtain⟨φ,wφ⟩:=aH.at xW;have gn:g∉[x,d,b,Pt]:=fun m=>by
       simp only[aX,fe,ff]at m
       rcases m with m | m | m | m
       . rw[m,gZ.ob]at g4;cases g4
       . rw[m,c3]at g4;cases g4
       . exact UG (ls:=[e.1]) c1 c2 (.inr (by simp)) g4 m
       . rw[m,wφ]at g4;cases g4
      exact⟨tp,g,tt,kk,z1,R4 (bF _ _ z3) z2,cg gn g4,z5,R4 (bF _ _ z7) z6,aK z8 fun _ _ asX=>asX.elim fun y1 asY=>asY.elim fun l' asZ=>asZ.elim fun y2 as0=>as0.elim fun y3 y4=>⟨y1,l',y2,R4 (bF _ _ y4) y3⟩,z9⟩
     have l4:msk [x,d,b,Pt] H4 l=some (.lst zs):=R4 el nl;have Gn:t5∉[x,d,b,Pt]:=by4.free n5;have fE:Paired (cT (msk [x,d,b,Pt] H5)) kvs tr:=aK BA fun _ _ as1=>as1.elim fun y1 as2=>as2.elim fun l' as3=>as3.elim fun y2 as4=>as4.elim fun y3 y4=>⟨y1,l',y2,cg (by4.free y3) y4⟩;have e5m:msk [x,d,b,Pt] H5 t5=some (.dK kvs):=cg Gn e5;have dt5:d≠t5:=fun z=>Gn (by rw[←z];simp);refine⟨_,rfl,x,dx,_,rfl,ik.ob,rfl,_,rfl,x,dx,d,b,lf,fs,bk,_,t,rfl,ik,by omega,(by decide +kernel),hT.txt,fun UR H6 e6 nW UU=>?_,fun e=>absurd e hdn⟩;have x6:cx x d b Pt H5 H6:=fun q o e n1 _ n3 _=>UU q o e n1 n3;have sG:aH H6 Pt cY cU:=K64.aH.kx ik gw fun p o e n1 _ n3=>UU p o e n1 n3;have MK:=(UP.trans x6).msk;have m56:=x6.msk;have lfn:lf=none->UR=none:=fun z=>by rw[z]at e6;cases e6;rfl
     have zl:=bq Ar;refine⟨_,rfl,l,rfl,⟨_,ae.of (bF _ _ (MK _ _ l4))⟩,?_⟩;refine gF (xs:=zs) (fun i σ H7=>∃u v vq vt st,σ=[some sv,some (.ref x),some gv,some (.ref va),some (.str t),some (.ref l),some (.ref t5),u,v]/\cx x d b Pt H6 H7/\aH H7 Pt cY cU/\Dk D x dx d b vq vt (bk++(dv,t)::dB st) H7/\st.length=i/\vt.length<=20/\(lf=none->vq=none))
      ⟨none,none,UR,fs,[],rfl,.of (ag.refl _),sG,nW,rfl,pU,lfn⟩ ?_ ?_ ?_
     . rintro i σ H7 hi ⟨u,v,vq,vt,st,rfl,k7,_⟩;exact ae.of (bF _ _ ((MK.trans k7.msk) _ _ l4))
     . intro i z σ H7 hz hQ;refine ba ?_;intro tT;obtain⟨u,v,vq,vt,st,rfl,k7,sM,jU,il,j8,BF⟩:=hQ;obtain⟨e,he,hE⟩:=eG Ar hz;have aN:=(ci.mp hz).1;obtain⟨tp,g,tt,kk,rfl,z2,z3,z4,z5,z6,z7,z8,z9⟩:=hE.same (MK.trans k7.msk);have bn:bk++(dv,t)::dB st≠[]:=by simp
       have lb:(bk++(dv,t)::dB st).length<=309:=by
        rw[bh,bO];unfold dB;rw[am];omega
       have dtt:d≠tt:=fun z=>by
        obtain⟨kd,d1,_⟩:=id jU.fi;have:=z5;unfold msk at this;rw[aq (by rw[←z];simp)]at this;cases this
       refine⟨tp,_,rfl,aW.of (bF _ _ z2),rfl,_,_,rfl,_,_,rfl,rfl,?_⟩;refine mR ?_
       intros
       refine⟨_,rfl,_,rfl,x,dx,d,b,tt,vq,vt,_,kk,e.2,rfl,jU,bn,bF _ _ z5,dtt,aK z6 fun _ _=>cT.same bF,z7,z9,by omega,fun Go lm H8 iE UV BG jx=>?_,fun lm H8 ya iE le8 jx=>?_⟩
       . have qt:cx x d b Pt H7 H8:=fun q o e n1 n2 _ _=>jx q o e n1 n2;have g8:=bF _ _ (qt.msk _ _ z3);have UW:aH H8 Pt cY cU:=K64.aH.kx jU sM fun p o e n1 n2 _=>jx p o e n1 n2;refine⟨_,rfl,x,dx,_,rfl,iE.ob,rfl,rfl,_,rfl,_,g,[e.1],rfl,rfl,ae.of g8,?_,?_⟩
         . have:=z4.hi;show e.1.length+0+1 * (Str.ofString " ").length<=16777216;have:(Str.ofString " ").length=1:=by decide +kernel
           omega
         refine⟨x,dx,d,b,Go,lm,_,_,_,rfl,iE,by omega,(by decide +kernel),Ib (by decide +kernel) (fun y hy=>by rw[bj.mp hy];exact z4.ok),fun lf9 H9 e9 hD9 UX=>?_,fun e9=>?_⟩
         . have k89:cx x d b Pt H8 H9:=fun q o e n1 _ n3 _=>UX q o e n1 n3;refine⟨_,_,lf9,lm,st++[Txt.join " " [e.1]],rfl,k7.trans (qt.trans k89),K64.aH.kx iE UW fun p o e n1 _ n3=>UX p o e n1 n3,?_,by rw[bh,il];rfl,by omega,fun z=>?_⟩
           . have eb:bk++(dv,t)::dB st++[(sN,Txt.join " " [e.1])]=bk++(dv,t)::dB (st++[Txt.join " " [e.1]]):=by unfold dB;rw[cQ,jB];rfl
             rw[←eb];exact hD9
           . rw[BG (BF z)]at e9;cases e9;rfl
         . have z0:=UI iE e9;refine q3 t lm st H8 hg ne (fun y=>?_) (z0▸iE) (by omega) (by omega) (Gm.trans (x6.trans (k7.trans qt))) UW;rw[BG (BF y)]at z0;cases z0
       . have qt:cx x d b Pt H7 H8:=fun q o e n1 n2 _ _=>jx q o e n1 n2;exact q3 t lm st H8 hg ne (fun y=>ya (BF y)) iE (by omega) (by omega) (Gm.trans (x6.trans (k7.trans qt))) (K64.aH.kx jU sM fun p o e n1 n2 _=>jx p o e n1 n2)
     . rintro σ H7 ⟨u,v,vq,vt,st,rfl,k7,sM,jU,il,j8,BF⟩;have bn:bk++(dv,t)::dB st≠[]:=by simp
       have lb:(bk++(dv,t)::dB st).length<=309:=by
        rw[bh,bO];unfold dB;rw[am];omega
       have UY:=m56.trans k7.msk;refine⟨_,rfl,_,rfl,x,dx,d,b,t5,vq,vt,_,kvs,tr,rfl,jU,bn,by omega,bF _ _ (UY _ _ e5m),dt5,aK fE fun _ _ z=>(cT.same UY z).same bF,BB,rA,by omega,fun Go lm H8 iE UV BG jx=>?_,fun lm H8 ya iE le8 jx=>?_⟩
       . have qt:cx x d b Pt H7 H8:=fun q o e n1 n2 n3 _=>jx q o e n1 n2 n3;exact q2 t Go lm st H8 hg ne iE (by omega) (by omega) (Gm.trans (x6.trans (k7.trans qt))) (K64.aH.kx jU sM jx)
       . have qt:cx x d b Pt H7 H8:=fun q o e n1 n2 n3 _=>jx q o e n1 n2 n3;exact q3 t lm st H8 hg ne (fun y=>ya (BF y)) iE (by omega) (by omega) (Gm.trans (x6.trans (k7.trans qt))) (K64.aH.kx jU sM jx)
def ML(C S D Pt:Addr):Sp:=fun vs H Q _=>∃(sv:V) (x dx d b:Addr) (fs:Tr) (bk:Bk) (xs:Lv) (ps:aT) (ns:Ls),vs=[sv,.ref x]/\k8 C S (msk [x,d,b,Pt] H) sv xs ps ns/\Dk D x dx d b none fs bk H/\fs.length<=40/\bk.length<=390/\iS xs ps (Str.empty::bQ bk)/\aH H Pt cY cU /\
 (gY bk=true->∀H',Dk D x dx d b none fs bk H'->cx x d b Pt H H'->aH H' Pt cY cU->Q (.bl false) H') /\
 (gY bk=false->∀bC H',Dk D x dx d b none bC (bk++[fW]) H'->bC.length<=20->cx x d b Pt H H'->aH H' Pt cY cU->Q (.bl true) H')
theorem ate:aR [aD7,aD9] [aD7,aD9] (aE Es):=aZ
theorem atf{f C S T D Fa Pt j9 j7 jZ qo:Addr}{fd nX nK nJ vm:Fy}(F:ak K aFM aFM Es f fd)
 (jy:ak K aEZ aEZ wO j9 nX) (nY:mg aEZ=some (.ref j9)) (nZ:aj P w K mg base al 7 j9 nX [aD9] (xM D)) (jv:ak K aEF aEF wP j7 nK) (nQ:mg aEF=some (.ref j7)) (nU:aj P w K mg base al 7 j7 nK [aD9] (Bt D T))
 (j0:ak K aEz aEz rK jZ nJ) (qk:mg aEz=some (.ref jZ)) (ql:aj P w K mg base al 7 jZ nJ [aD7,aEr] (A0 C S T Pt))
 (qp:ak K aFg aFg Ae qo vm) (xY:mg aFg=some (.ref qo)) (xZ:aj P w K mg base (cE P w) 7 qo vm [aD9,aEG] (Gd D Fa)):aj P w K mg base (cE P w) 8 f fd [aD7,aD9] (ML C S D Pt):=by
 have yc:=jy.binds1 (l:=[aD9]) (fun _ _ _ _ _ _ _=>rfl);have x5:=jv.binds1 (l:=[aD9]) (fun _ _ _ _ _ _ _=>rfl);have Bz:=j0.binds2 (l:=[aD7,aEr]) (fun _ _ _ _ _ _ _ _=>rfl);have MI:=qp.binds2 (l:=[aD9,aEG]) (fun _ _ _ _ _ _ _ _=>rfl);refine F.okR ate (fun vs H Q E h=>?_) (fun ay A outer s H vs Q E hr h=>?_)
 . obtain⟨sv,x,dx,d,b,fs,bk,xs,ps,ns,rfl,_⟩:=h;rfl
 . obtain⟨sv,x,dx,d,b,fs,bk,xs,ps,ns,rfl,hW,hD,l40,aDO,tok,tab,q1,q2⟩:=h;refine⟨_,(ao (cJ (mC (aG nZ hr rfl nY jy.kp yc .nil aD (aa (pv 1) ac)))
    (av (aU kz)) dq)
    (ao (cI (aG xZ hr rfl xY qp.kp MI .nil kN (aa (pv 1) (aa (aG ql hr rfl qk j0.kp Bz .nil aD (aa (pv 0) (aa (aG nU hr rfl nQ jv.kp x5 .nil aD (aa (pv 1) ac)) ac))) ac))))
    (av (aU kz)))),?_⟩
   obtain⟨tb,b1,b2⟩:=id hD.bo;refine⟨_,rfl,x,dx,d,b,_,tb,bk,rfl,hD.ob,b1,b2,hD.bt,fun H1 s1=>⟨_,rfl,?_⟩⟩;refine bw (fun h=>?_) (fun h=>?_)
   . exact q1 h H1 (hD.same s1) (.of s1) (tab.same s1)
   . have hf:gY bk=false:=qE.mpr h;have bn:bk≠[]:=fun z=>by rw[z]at hf;cases hf
     obtain⟨t0,iU⟩:∃t0,(Str.empty::bQ bk).getLast?=some t0:=⟨_,GZ (qH _ _)⟩;obtain⟨qr,vn,vo,iV⟩:=tok t0 (WD iU);have jY:=hD.same s1;obtain⟨zN,c1,c2⟩:=id jY.bo;refine⟨_,rfl,_,rfl,_,rfl,x,dx,d,b,_,zN,bk,xs,ps,t0,qr,vn,vo,rfl,jY.ob,c1,c2,by omega,iU,iV,fun v0 H2 s2 iG=>?_⟩;have vc:=s1.trans s2;have W2:=(hW.same bF).same vc;have hv:=iG [] (fun b hb=>nomatch hb);rw[EQ]at hv;have sL:=tab.same vc;have cB:eP xs ps qr:=⟨iV.so.ok.d1,iV.so.va⟩;have me:=hD.same vc;refine⟨sv,v0,xs,ps,qr,vn,vo,ns,rfl,W2.sh,W2.pc,W2.pcok,W2.n4,hv,iV.so.va,cB.len W2.ap W2.n4,iV.so.o2,iV.so.ok.okO,fun e he=>(iV.so.ok.ok.cs e he).2.ln,sL,fun t5 H5 kvs tr n5 BE gw e5 BA BB lT rA=>?_⟩;have ik:=me.keepT sL BE;have by2:=me.busy sL;have Gn:t5∉[x,d,b,Pt]:=by2.free n5;refine⟨x,dx,d,b,t5,none,fs,bk,kvs,tr,rfl,ik,bn,by omega,e5,fun z=>Gn (by rw[←z];simp),aK BA fun _ _ ath=>ath.elim fun y1 ati=>ati.elim fun l' atj=>atj.elim fun y2 atk=>atk.elim fun y3 y4=>⟨y1,l',y2,y4⟩,BB,rA,by omega,fun Go lm H8 iE UV BG jx=>?_,fun lm H8 ya=>absurd rfl ya⟩;have k58:cx x d b Pt H5 H8:=fun q o e n1 n2 n3 _=>jx q o e n1 n2 n3;have z:=BG rfl;subst z;exact q2 hf lm H8 iE (by omega) ((cx.of vc).trans ((cx.ofT BE).trans k58)) (K64.aH.kx ik gw jx)
def MM(C T:Addr):Sp:=fun vs H Q _=>∃(a n:Addr) (cell:Int) (xs:Lv) (ps:aT) (ns:Ls),vs=[.ref a,.ref n,.int cell]/\H a=some (.lst xs)/\dR C H xs ps/\ps.length<=100/\(∀p∈ps,cr p.nm/\fk p.ms)/\H n=some (.lst (ns.map V.str))/\1<=ns.length/\ns.length<=4/\(∀n∈ns,cr n) /\
 ∀v ch cs ow H',ag H H'->(∀L,iH H L->gj T (msk L H') v ch cs ow)->jX xs ps ch cs ow->Q v H'
theorem qv:aR [aEq,aEe,aD5,"_law_chosen_here","_law_choices","_law_own",aEc,"_law_common",aD6,"_law_base"] [aEq,aEe,aD5] (aE Ez):=aZ
theorem atm{f C T Gp fU pL rZ ii:Addr}{fd MN iK uM xh kR:Fy}(F:ak K aFq aFq Ez f fd)(B:bV mg)(UT:rO K mg T)(MT:Mk K T ii)(ni:ak K "__init__" "Stand.__init__" pA ii kR)(pE:aj P w K mg base al 2 ii kR [aD4,aEb,aEj,aEw] (wZ T))
 (BH:ak K aFa aFa Ey Gp MN) (MO:mg aFa=some (.ref Gp)) (atn:aj P w K mg base al 3 Gp MN [aEq,aEe,aD5] (SM K C)) (cG:ak K aEi aEi rL fU iK) (dQ:mg aEi=some (.ref fU)) (fm:aj P w K mg base al 3 fU iK [aD5,aEc] wV)
 (nu:ak K aEL aEL Ag pL uM) (uN:mg aEL=some (.ref pL)) (uO:aj P w K mg base al 3 pL uM [aD6] EG) (nj:ak K aEO aEO Ah rZ xh) (xi:mg aEO=some (.ref rZ)) (Ku:aj P w K mg base al 3 rZ xh [aD6] JF):aj P w K mg base al 4 f fd [aEq,aEe,aD5] (MM C T):=by
 have Az:=ni.binds4 (l:=[aD4,aEb,aEj,aEw]) (fun _ _ _ _ _ _ _ _ _ _=>rfl);have ato:=BH.binds3 (l:=[aEq,aEe,aD5]) (fun _ _ _ _ _ _ _ _ _=>rfl);have fo:=cG.binds2 (l:=[aD5,aEc]) (fun _ _ _ _ _ _ _ _=>rfl);have E7:=nu.binds1 (l:=[aD6]) (fun _ _ _ _ _ _ _=>rfl);have Kv:=nj.binds1 (l:=[aD6]) (fun _ _ _ _ _ _ _=>rfl);refine F.okL qv ?_
 . intro ay A outer s H vs Q E hr h xX dX;obtain⟨a,n,cell,xs,ps,ns,rfl,ha,bp,wY,MP,hn,n1,n4,nok,q⟩:=h;have hu:=hr.units;refine⟨_,(ao (aP (i:=3) qv.nd rfl (Or.inl rfl) (aG atn hr rfl MO BH.kp ato .nil aD (aa (pv 0) (aa (pv 1) (aa (aG fm hr rfl dQ cG.kp fo .nil aD (aa (pv 2) (aa ar ac))) ac)))))
    (ao (aP (i:=4) qv.nd rfl (Or.inl rfl) lV)
    (ao (aP (i:=5) qv.nd rfl (Or.inl rfl) lV)
    (ao (eA dY rfl (oK rfl B.range (aa (aF cz (aG fm hr rfl dQ cG.kp fo .nil aD (aa (pv 2) (aa ar ac))) ar) ac)) (aY (i:=6) qv.nd rfl (Or.inl rfl))
    (ao (aP (i:=7) qv.nd rfl (Or.inl rfl) (bi eL (pv 1) (aF cz (aG fm hr rfl dQ cG.kp fo .nil aD (aa (pv 2) (aa (aF dH ar (pv 6)) ac))) (dC gc (by rfl) B.len fZ (aa (pv 1) ac))) (fun _ _=>rfl)))
     (av (iZ hu (pv 4) (pv 7) (bi eL (pv 1) (aF cz (aG fm hr rfl dQ cG.kp fo .nil aD (aa (pv 2) (aa (aF dH ar (pv 6)) ac))) (dC gc (by rfl) B.len fZ (aa (pv 1) ac))) (fun _ _=>rfl)) rfl))))
    (ao (eA dY rfl (oK rfl B.range (aa (aF cz (aG fm hr rfl dQ cG.kp fo .nil aD (aa (pv 2) (aa ar ac))) ar) ac)) (aY (i:=6) qv.nd rfl (Or.inl rfl))
    (ao (aP (i:=8) qv.nd rfl (Or.inl rfl) (aG fm hr rfl dQ cG.kp fo .nil aD (aa (pv 2) (aa (aF dH ar (pv 6)) ac))))
     (ao (aP (i:=9) qv.nd rfl (Or.inl rfl) (aG uO hr rfl uN nu.kp E7 .nil aD (aa (aG fm hr rfl dQ cG.kp fo .nil aD (aa (pv 2) (aa (aF dH ar (pv 6)) ac))) ac)))
     (av (iZ hu (pv 5) (aG Ku hr rfl xi nj.kp Kv .nil aD (aa (pv 8) ac)) (eK (aa (pv 9) (aa (aG uO hr rfl uN nu.kp E7 .nil aD (aa (aG fm hr rfl dQ cG.kp fo .nil aD (aa (pv 2) (aa (aF dH ar (pv 6)) ac))) ac)) ac))) rfl)))))
    (av (aU (yS MT pE hr rfl UT.mgC Az .nil aD (aa (pv 3) (aa (pv 4) (aa (pv 5) ac))))))))))),?_⟩
   refine zt ?_;intro dD sS u6 u5 u4 u3 u2;have name:∀r:Int,∃z,bZ (ns.map V.str) (r % ((ns.map V.str).length:Int))=some (V.str z)/\cr z:=fun r=>by
    have hl:((ns.map V.str).length:Int)=ns.length:=by rw[am]
    rw[hl];have h0:=yB r (show(ns.length:Int)≠0 by omega);have h1:=Cr r (show(0:Int)<ns.length by omega);obtain⟨z,hz,zm⟩:=zh (xs:=ns) (r:=r % (ns.length:Int)) h0 h1;exact⟨z,hz,nok z (dG zm)⟩
   have UZ:(0:Int)<((ns.map V.str).length:Int):=by rw[am];omega
   refine⟨_,rfl,_,rfl,_,rfl,cell,_,rfl,fun m0=>?_⟩;refine⟨a,n,m0,xs,ps,ns,rfl,ha,bp,wY,hn,n4,fun dc H1 ch nc s1 hc hv nd c4=>?_⟩;refine fun dh H2 nh s2 e2=>?_;refine fun dO H3 no s3 e3=>?_;have jk:=s1.trans (s2.trans s3);obtain⟨kc,eW,iO⟩:=id hc;have P0:lg H H3 dc dh dO ch [] []:=⟨jk,nc,s1.free nh,(s1.trans s2).free no,aL eW nh,aL (s2 _ _ eW) no,aL e2 no,hc.same (s2.trans s3),⟨[],s3 _ _ e2,.nil⟩,⟨[],e3,.nil⟩⟩;have o0:li ch [] [] 4 0 0:=⟨⟨fun e he=>?_,(fun _ h=>nomatch h),(fun _ h=>nomatch h)⟩,nd,kj,kj,c4,aJ _,aJ _,(fun _ h=>nomatch h)⟩
   rotate_left
   . obtain⟨v,p,hi,e1,e2⟩:=hv e he;obtain⟨a1,a2⟩:=MP p (Ma hi);exact⟨e1▸a1,e2▸a2⟩
   refine⟨_,rfl,cell,_,rfl,fun m1=>?_⟩;refine⟨_,_,rfl,rfl,(by show(0:Int)<3;decide),m1 % 3,rfl,by omega,by omega,?_⟩;refine wa (fun i σ H4=>∃u v cs,σ=[some (.ref a),some (.ref n),some (.int cell),some (.ref dc),some (.ref dh),some (.ref dO),u,v,none,none]/\lg H H4 dc dh dO ch cs []/\li ch cs [] 4 i 0) ⟨none,none,[],rfl,P0,o0⟩ ?_ ?_
   . intro i σ H4 hi hQ;refine ba ?_;intro tT;obtain⟨u,v,cs,rfl,N,ok⟩:=hQ;have Gq:=N.old _ _ hn;refine⟨_,rfl,_,rfl,_,rfl,_,_,rfl,rfl,cell,_,rfl,fun m2=>?_⟩;obtain⟨z1,Fb,nz1⟩:=name m2;refine⟨_,rfl,n,_,rfl,.inl (ae.of Gq),_,_,rfl,rfl,UZ,n,_,_,_,rfl,rfl,ae.of Gq,Fb,?_⟩;refine⟨_,rfl,_,rfl,_,rfl,_,_,rfl,rfl,cell,_,rfl,fun m3=>?_⟩;obtain⟨z2,hz2,nz2⟩:=name m3;obtain⟨kh,c1,c2⟩:=id N.cs;have lc:=bq c2;have:=ok.n2;refine⟨_,rfl,n,_,rfl,.inl (ae.of Gq),_,_,rfl,rfl,UZ,n,_,_,_,rfl,rfl,ae.of Gq,hz2,_,rfl,_,rfl,dh,_,rfl,fK.k (k:=.inr z1) c1 (bI (by omega)),?_⟩;exact⟨_,_,_,rfl,N.putH c1,ok.putH nz1 nz2⟩
   . intro σ H4 hQ;refine ba ?_;intro tT;obtain⟨u,v,cs,rfl,N4,ok4⟩:=hQ;refine⟨_,rfl,cell,_,rfl,fun m5=>?_⟩;refine⟨_,_,rfl,rfl,(by show(0:Int)<3;decide),m5 % 3,rfl,by omega,by omega,?_⟩;refine wa (fun i σ H5=>∃u x8 x9 ow,σ=[some (.ref a),some (.ref n),some (.int cell),some (.ref dc),some (.ref dh),some (.ref dO),u,v,x8,x9]/\lg H H5 dc dh dO ch cs ow/\li ch cs ow 4 4 i) ⟨u,none,none,[],rfl,N4,ok4.mono (aJ _) (by omega) (aJ _)⟩ ?_ ?_
     . intro i σ H5 hi hQ;refine ba ?_;intro tT;obtain⟨u,x8,x9,ow,rfl,N,ok⟩:=hQ;refine⟨_,rfl,_,rfl,_,_,rfl,rfl,cell,_,rfl,fun m6=>?_⟩;refine⟨_,rfl,_,rfl,_,_,rfl,rfl,cell,_,rfl,fun m7=>⟨m7,rfl,fun l1 H6 ls1 nl1 s6 e6 k6 o6=>?_⟩⟩;refine⟨_,rfl,_,rfl,_,rfl,_,_,rfl,rfl,cell,_,rfl,fun m8=>⟨m8,rfl,fun l2 H7 ls2 T8 s7 e7 k7 o7=>?_⟩⟩;refine⟨(by show 2<=sizeLine;decide),fun t H8 nt s8 e8=>?_⟩;refine⟨_,rfl,_,rfl,m6,rfl,fun pt H9 hpt s9=>?_⟩;have N9:=N.same (s6.trans (s7.trans (s8.trans s9)));obtain⟨ko,c1,c2⟩:=id N9.ow;have lc:=bq c2;have:=ok.n3;refine⟨dO,_,rfl,fK.k (k:=.inr pt) c1 (bI (by omega)),?_⟩;exact⟨_,_,_,_,rfl,N9.putO c1 (s9 _ _ e8) ((s7.trans (s8.trans s9)) _ _ e6) ((s8.trans s9) _ _ e7),ok.putO hpt o6 o7 k6 k7⟩
     . intro σ H5 hQ;refine ba ?_;intro tT;obtain⟨u,x8,x9,ow,rfl,N,ok⟩:=hQ;have o2:ow.length<=2:=ce ok.n3 (by omega);refine⟨_,rfl,_,rfl,_,rfl,?_⟩;refine JP (T:=T) N.ch N.cs N.ow ok.d3 (by omega) fun x H6 nx s6 fg=>?_;refine q (.ref x) ch cs ow H6 (N.old.trans s6) (fun L hL=>fg L fun b hb=>(hL b hb).elim fun o atv=>atv.elim fun e n=>⟨o,N.old b o e,n⟩) ⟨⟨ok.ok,ok.d1,ok.d2,ok.d3,ok.n1,ok.n2,by omega,ok.ln⟩,hv,o2⟩
end
end K64
namespace L2
open PySem PySem.Spec PyProof.Rows
section
variable {X:Cx}
theorem atw:cR X (compareOp .Is) (fun x y H Q=>∃b c:Bool,x=.bl b/\y=.bl c/\Q (.bl (b == c)) H):=by
 intro pins s σ H x y v u Q I rx ry h;obtain⟨b,c,rfl,rfl,q⟩:=h;cases rx;cases ry;exact is_bool (cS I q rfl)
end
end L2
namespace K64
open PySem L2 PySem.Spec PyProof.Rows
seal PE PS c8 PA PT PW PG oH PI mM
theorem Dk.allow{D x dx d b:Addr}{lf lf':Option Int}{fs:Tr}{bk:Bk}{H:Hp}(h:Dk D x dx d b lf fs bk H)(p:∀m,lf'=some m->0<=m):Dk D x dx d b lf' fs bk (ah H x (.ins D dx (cu d b (lv lf')))):=by
 obtain⟨kd,d1,d2⟩:=h.fi;obtain⟨tb,b1,b2⟩:=h.bo;have k:∀{q:Addr}{o:HO},H q=some o->(∀c d f,o≠.ins c d f)->ah H x (.ins D dx (cu d b (lv lf'))) q=some o:=fun e n=>aB e (aO e h.ob (n _ _ _));exact⟨aI,⟨kd,k d1 (by intro _ _ _ z;cases z),aK d2 fun _ _ atx=>atx.elim fun z1 aty=>aty.elim fun l atz=>atz.elim fun z2 z3=>⟨z1,l,z2,k z3 (by intro _ _ _ z;cases z)⟩⟩,⟨tb,k b1 (by intro _ _ _ z;cases z),aK b2 fun _ _ atA=>atA.elim fun t atB=>atB.elim fun z1 z2=>⟨t,z1,k z2 (by intro _ _ _ z;cases z)⟩⟩,h.nd,h.ok,h.bz,h.bt,p⟩
theorem cx.allow{x d b Pt:Addr}{H:Hp}{o:HO}:cx x d b Pt H (ah H x o):=fun q _ e n _ _ _=>aB e n
theorem aH.allow{D x dx d b Pt:Addr}{lf:Option Int}{fs:Tr}{bk:Bk}{H:Hp}{lp:Pos}{qu:Str}{o:HO}(h:Dk D x dx d b lf fs bk H)(t:aH H Pt lp qu):aH (ah H x o) Pt lp qu:=K64.aH.kp t fun q φ e=>aB e (aO e h.ob (by intro z;cases z))
theorem atC(bk:Bk):∀st:Ls,bQ (bk++dB st)=bQ bk:=fun st=>by
 unfold bQ dB;rw[GY,cQ];have e:(st.map fun z=>(sN,z)).filter (fun e=>decide (e.1=dv))=[]:=by
  rw[List.filter_eq_nil_iff];intro e he;obtain⟨z,_,rfl⟩:=cL.mp he;exact fun h=>absurd (cZ h) (show sN≠dv by decide +kernel)
 rw[e];exact lq _
theorem U0(bk:Bk)(t:Str)(st:Ls):bQ (bk++(dv,t)::dB st)=bQ bk++[t]:=by
 have e:bk++(dv,t)::dB st=(bk++[(dv,t)])++dB st:=by rw[jB];rfl
 rw[e,atC,Mr,aq rfl]
theorem U1(bk:Bk)(t:Str)(st:Ls):bQ (bk++(dv,t)::dB st++[fW])=bQ bk++[t]:=by
 rw[Mr,ai (show fW.1≠dv by decide +kernel),U0]
theorem U2(bk:Bk):gY (bk++[fW])=true:=by
 unfold gY;rw[List.getLast?_append,aCK,Option.some_or];exact bG rfl
theorem atD(bk:Bk)(t:Str)(st:Ls):gY (bk++(dv,t)::dB st)=false:=by
 unfold gY;have key:∃e:Str×Str,(bk++(dv,t)::dB st).getLast?=some e/\e.1≠fW.1:=by
  have ne:(bk++(dv,t)::dB st)≠[]:=by simp
  refine⟨_,GZ ne,?_⟩;rw[List.getLast_append_of_ne_nil _ (qH _ _)];have hm:=List.getLast_mem (qH (dv,t) (dB st))
  rcases aX.mp hm with z | z
  . rw[z];exact show dv≠fW.1 by decide +kernel
  . obtain⟨y,_,ey⟩:=cL.mp z;rw[←ey];exact show sN≠fW.1 by decide +kernel
 obtain⟨e,h1,h2⟩:=key;rw[h1];exact cH fun z=>h2 (by rw[z])
theorem iS.snoc{xs:Lv}{ps:aT}{bk:Bk}{t:Str}(h:iS xs ps (Str.empty::bQ bk))(k:∃ch cs ow,iR xs ps t ch cs ow):iS xs ps (Str.empty::(bQ bk++[t])):=fun y hy=>by
 rcases aX.mp hy with z | z
 . exact h y (by rw[z];exact bB)
 . rcases bK.mp z with z | z
   . exact h y (bJ _ z)
   . rw[bj.mp z];exact k
def Gr(bk:Bk)(t:Str)(gk:Bk):Prop:=((Str.empty::bQ bk).getLast?=some t/\gk=bk)\/((Str.empty::bQ bk).getLast?≠some t/\∃st:Ls,st.length<=8/\gk=bk++(dv,t)::dB st++[fW])
section
variable {P:Program}{w:World}{K:Fg}{mg:Mv}{base:Heap}
def MQ(C S T D Pt:Addr):Sp:=fun vs H Q _=>∃(sv gv:V) (x dx d b:Addr) (lf:Option Int) (fs:Tr) (bk:Bk) (xs:Lv) (ps:aT) (ns:Ls) (ch:Ch) (cs:Cs) (ow:Ow) (cell:Int),vs=[sv,.ref x,gv,.int cell]/\k8 C S (msk [x,d,b,Pt] H) sv xs ps ns/\gj T (msk [x,d,b,Pt] H) gv ch cs ow/\jX xs ps ch cs ow /\
 Dk D x dx d b lf fs bk H/\fs.length<=20/\bk.length<=280/\gY bk=true/\iS xs ps (Str.empty::bQ bk)/\aH H Pt cY cU /\
 ∀t bC gk H',j6 xs ps ch cs ow t->Gr bk t gk->Dk D x dx d b none bC gk H'->bC.length<=20->gY gk=true->cx x d b Pt H H'->aH H' Pt cY cU->Q (.bl true) H'
theorem MR:aR [aE2,aE7,aE8,aD5,"_law_fell"] [aE2,aE7,aE8,aD5] (aE EA):=aZ
theorem atE{f C S T D Fa Pt f1 f2 f3 f4 f5 pQ f7 BI j9 BJ:Addr}{fd BK Gs nX Gu:Fy}(F:ak K aFB aFB EA f fd)(B:bV mg)(UD:im K mg D f1 f2 f3 f4 f5 pQ f7)(mF:mg "Fallen"=some (.ref Fa))(ex:PySem.W.exmOne K (.ref Fa) (.ref Fa)=some true)
 (Gv:ak K "allow" "Disk.allow" uy pQ BK) (U3:aj P w K mg base al 8 pQ BK [aD4,"many"] (Tl D)) (BL:ak K aFL aFL Et BI Gs) (MU:mg aFL=some (.ref BI)) (MV:aj P w K mg base (cE P w) 8 BI Gs [aD7,aD9,aEm] (MF C S T D Fa Pt))
 (jy:ak K aEZ aEZ wO j9 nX) (nY:mg aEZ=some (.ref j9)) (nZ:aj P w K mg base al 8 j9 nX [aD9] (xM D)) (BM:ak K aFM aFM Es BJ Gu) (MW:mg aFM=some (.ref BJ)) (MX:aj P w K mg base (cE P w) 8 BJ Gu [aD7,aD9] (ML C S D Pt)):aj P w K mg base al 9 f fd [aE2,aE7,aE8,aD5] (MQ C S T D Pt):=by
 have U4:=Gv.binds2 (l:=[aD4,"many"]) (fun _ _ _ _ _ _ _ _=>rfl);have atF:=BL.binds3 (l:=[aD7,aD9,aEm]) (fun _ _ _ _ _ _ _ _ _=>rfl);have yc:=jy.binds1 (l:=[aD9]) (fun _ _ _ _ _ _ _=>rfl);have atG:=BM.binds2 (l:=[aD7,aD9]) (fun _ _ _ _ _ _ _ _=>rfl);refine F.ok MR (fun vs H Q E h=>?_) (fun ay A outer s H vs Q E hr h=>?_)
 . obtain⟨sv,gv,x,dx,d,b,lf,fs,bk,xs,ps,ns,ch,cs,ow,cell,rfl,_⟩:=h;rfl
 . obtain⟨sv,gv,x,dx,d,b,lf,fs,bk,xs,ps,ns,ch,cs,ow,cell,rfl,hW,hG,gz,hD,pU,aDR,hup,tok,tab,q⟩:=h;refine⟨_,(ao (cI (qW (pv 1) UD.cl UD.mDAl U3 hr U4 .nil aD (aa (bi eL (cX (aa oG (aa (aF dH ar (aF cz (aF iA (pv 3) ar) ar)) ac))) (eB Zy (by rfl) B.int aCG (aa (mG eV (aF cz (pv 3) ar) ar (bE _)) ac)) (fun _ _=>rfl)) ac)))
    (ao (aP (i:=4) MR.nd rfl (Or.inl rfl) kz)
    (Qc (aiI rfl rfl mF rfl (fun XE pn E hp=>av (cI (aiC MV hr rfl MU BL.kp atF .nil hp (aa (pv 0) (aa (pv 1) (aa (pv 2) ac)))))) (fun a=>av (aP (i:=4) MR.nd rfl (Or.inl rfl) kz)))
    (ao (cJ (bM eV (aG nZ hr rfl nY jy.kp yc .nil aD (aa (pv 1) ac)) (pv 4) (bE _))
    (av (aU kz)) dq)
    (ao (cI (qW (pv 1) UD.cl UD.mDAl U3 hr U4 .nil aD (aa oG ac)))
    (av (aU (Oz (mG eV (aG MX hr rfl MW BM.kp atG .nil aiH (aa (pv 0) (aa (pv 1) ac))) (pv 4) (bE _)) (CK (mG atw (aG nZ hr rfl nY jy.kp yc .nil aD (aa (pv 1) ac)) kz (bE _))))))))))),?_⟩
   refine⟨_,rfl,x,dx,_,rfl,hD.ob,rfl,_,rfl,_,_,rfl,rfl,⟨by decide,by decide⟩,_,_,rfl,rfl,(by show(0:Int)<5;decide),_,_,rfl,rfl,(by show 2<=sizeLine;decide),fun p1 H1 n1 s1 e1=>?_⟩;obtain⟨qw,ln1,at1,dn1⟩:∃qw:Option Int,(∀m,qw=some m->0<=m)/\bZ [V.non,V.int (1+cell / 4 % 5)] (if decide (V.int (cell % 4)=V.int 1)=true then 1 else 0)=some (lv qw)/\fV qw≠none:=by
    cases decide (V.int (cell % 4)=V.int 1) with
    | false=>exact⟨none,(fun m z=>nomatch z),rfl,by intro z;cases z⟩
    | true=>
     refine⟨some (1+cell / 4 % 5),fun m z=>by cases z;omega,rfl,?_⟩;rw[xw (by omega)];intro z;cases z
   refine⟨_,rfl,_,_,rfl,rfl,(by show(0:Int)<4;decide),rfl,.inr ⟨_,rfl,p1,_,_,_,rfl,rfl,ae.of e1,at1,?_⟩⟩;have jY:=hD.same s1;refine⟨x,dx,d,b,_,_,rfl,jY.ob,?_⟩;have me:=jY.allow ln1;have k2:cx x d b Pt H (ah H1 x (.ins D dx (cu d b (lv qw)))):=(cx.of s1).trans .allow;have sL:aH (ah H1 x (.ins D dx (cu d b (lv qw)))) Pt cY cU:=K64.aH.allow jY (tab.same s1);generalize ah H1 x (.ins D dx (cu d b (lv qw)))=H2 at me k2 sL ⊢;refine⟨fun σ' H'=>∃t bC gk lf' pW,σ'=[some sv,some (.ref x),some gv,some (.int cell),some (.bl pW)]/\j6 xs ps ch cs ow t/\Dk D x dx d b lf' bC gk H'/\cx x d b Pt H H'/\aH H' Pt cY cU/\((pW=false/\gY gk=true/\bC.length<=20/\Gr bk t gk)\/(pW=true/\bC.length<=40/\(Str.empty::bQ bk).getLast?≠some t/\∃st:Ls,st.length<=8/\gk=bk++(dv,t)::dB st)),?_,?_⟩
   . refine⟨_,rfl,_,rfl,_,rfl,sv,gv,x,dx,d,b,qw,fs,bk,xs,ps,ns,ch,cs,ow,rfl,hW.same k2.msk,hG.same k2.msk,gz,me,pU,by omega,tok,sL,dn1,fun t H' hg hl jW k' BN=>?_,fun t lf' bC st H' hg hl jW j8 s8 k' BN=>?_,fun t bC st H' hg hl ya jW f40 s8 k' BN=>?_⟩
     . exact⟨t,fs,bk,qw,false,rfl,hg,jW,k2.trans k',BN,.inl ⟨rfl,hup,pU,.inl ⟨hl,rfl⟩⟩⟩
     . exact⟨t,bC,_,lf',false,rfl,hg,jW,k2.trans k',BN,.inl ⟨rfl,U2 _,j8,.inr ⟨hl,st,s8,rfl⟩⟩⟩
     . exact⟨ex,t,bC,_,some 0,true,rfl,hg,jW,k2.trans k',BN,.inr ⟨rfl,f40,hl,st,s8,rfl⟩⟩
   . rintro σ' H3 ⟨t,Gw,vv,lf3,pW,rfl,hg,vp,k3,iT,BO⟩;obtain⟨BP,MY,MZ⟩:=id vp.bo;have cq:gY vv = !pW:=by
      rcases BO with⟨rfl,h,_⟩ | ⟨rfl,_,_,st,_,rfl⟩
      . exact h
      . exact atD bk t st
     refine⟨_,rfl,x,dx,d,b,_,BP,vv,rfl,vp.ob,MY,MZ,vp.bt,fun H4 s4=>⟨_,rfl,rfl,_,rfl,?_⟩⟩;refine bw (fun h=>?_) (fun _=>?_)
     . have h:=cZ h;injection h with h
       rw[cq]at h;cases pW<;>cases h
     . have gZ:=vp.same s4;refine⟨_,rfl,x,dx,_,rfl,gZ.ob,rfl,x,dx,d,b,_,_,rfl,gZ.ob,?_⟩;have ik:Dk D x dx d b none Gw vv (ah H4 x (.ins D dx (cu d b .non))):=gZ.allow (lf':=none) (fun m z=>nomatch z);have k5:cx x d b Pt H (ah H4 x (.ins D dx (cu d b .non))):=k3.trans ((cx.of s4).trans .allow);have gw:aH (ah H4 x (.ins D dx (cu d b .non))) Pt cY cU:=K64.aH.allow gZ (iT.same s4);generalize ah H4 x (.ins D dx (cu d b .non))=H5 at ik k5 gw ⊢;have atN:iS xs ps (Str.empty::bQ vv):=by
        rcases BO with⟨rfl,_,_,⟨_,rfl⟩ | ⟨_,st,_,rfl⟩⟩ | ⟨rfl,_,_,st,_,rfl⟩
        . exact tok
        . rw[U1];exact tok.snoc hg.ok
        . rw[U0];exact tok.snoc hg.ok
       have l3:Gw.length<=40/\vv.length<=290:=by
        have sl:∀st:Ls,(dB st).length=st.length:=fun st=>by unfold dB;rw[am]
        rcases BO with⟨rfl,_,h,⟨_,rfl⟩ | ⟨_,st,_,rfl⟩⟩ | ⟨rfl,h,_,st,_,rfl⟩
        . exact⟨by omega,by omega⟩
        . refine⟨by omega,?_⟩;rw[bh,bh,bO,sl,iW];omega
        . refine⟨by omega,?_⟩;rw[bh,bO,sl];omega
       have fin:∀(yd:Tr) (ye:Bk) (H6:Hp),Dk D x dx d b none yd ye H6->yd.length<=20->gY ye=true->Gr bk t ye->cx x d b Pt H H6->aH H6 Pt cY cU->xM D [.ref x] H6 (fun v H7=>∃b c:Bool,v=.bl b/\V.bl true=.bl c/\Q (.bl (b == c)) H7) E0:=by
        intro yd ye H6 nW j8 u6 hn k6 t6;obtain⟨tb6,c1,c2⟩:=id nW.bo;refine⟨x,dx,d,b,_,tb6,ye,rfl,nW.ob,c1,c2,nW.bt,fun H7 s7=>⟨_,_,rfl,rfl,?_⟩⟩;rw[u6];exact q t yd ye H7 hg hn (nW.same s7) j8 u6 (k6.trans (.of s7)) (t6.same s7)
       refine⟨_,rfl,_,rfl,sv,x,dx,d,b,Gw,vv,xs,ps,ns,rfl,hW.same k5.msk,ik,l3.1,by omega,atN,gw,fun u H6 nW k6 t6=>?_,fun u yd H6 nW j8 k6 t6=>?_⟩
       . rw[u]at cq
         rcases BO with⟨rfl,_,j8,hn⟩ | ⟨rfl,_⟩
         . refine⟨_,rfl,rfl,_,rfl,gJ ⟨_,rfl,?_⟩⟩;exact fin Gw vv H6 nW j8 u hn (k5.trans k6) t6
         . cases cq
       . rw[u]at cq
         rcases BO with⟨rfl,_⟩ | ⟨rfl,_,hl,st,s8,rfl⟩
         . cases cq
         . refine⟨_,rfl,rfl,_,rfl,gJ ⟨_,rfl,?_⟩⟩;exact fin yd _ H6 nW j8 (U2 _) (.inr ⟨hl,st,s8,rfl⟩) (k5.trans k6) t6
end
def da(e:Str×Ls):Bk:=(dv,e.1)::(dB e.2++[fW])
theorem U5(e:Str×Ls):(da e).length=e.2.length+2:=by
 unfold da dB;rw[bO,bh,am,iW]
theorem atP(e:Str×Ls){j:Nat}{z:Str}(h:e.2[j]?=some z):(da e)[1+j]?=some (sN,z):=by
 have hl:=(ci.mp h).1;unfold da dB;rw[Nat.add_comm,aCL,GN (by rw[am];exact hl),db,h];rfl
theorem atQ(e:Str×Ls):(da e)[1+e.2.length]?=some fW:=by
 unfold da dB;rw[Nat.add_comm,aCL,yt (by rw[am];exact aJ _),am,Nat.sub_self];rfl
theorem atU{ds:List (Str×Ls)}{i:Nat}{e:Str×Ls}(h:ds[i]?=some e){k:Nat}{y:Str×Str}(hk:(da e)[k]?=some y):(ds.flatMap da)[((ds.take i).flatMap da).length+k]?=some y:=by
 have hl:=(ci.mp h).1;have e1:ds=ds.take i++e::ds.drop (i+1):=by
  have hd:ds.drop i=ds[i]::ds.drop (i+1):=Cm hl;have he:ds[i]=e:=(ci.mp h).2;rw[←he,←hd,Wv]
 have e2:ds.flatMap da=(ds.take i).flatMap da++(da e++(ds.drop (i+1)).flatMap da):=by
  conv=>lhs;rw[e1,vT,vS]
 rw[e2,yt (by omega),aCM,GN (ci.mp hk).1];exact hk
theorem Gx{xs:Lv}{k:Nat}{v:V}(h:xs[k]?=some v):oO xs (some (k:Int)) (some ((k:Int)+1))=[v]:=by
 obtain⟨hl,hv⟩:=ci.mp h;have e:((k:Int)+1)=((k+1:Nat):Int):=by omega
 unfold oO;rw[e,HT.we,HT.we,NU (by omega),NU (by omega),Cm hl,hv,aCM];rfl
def qx(e:Str×Str):PySem.W.Dat:=.list [.tuple [.str e.1,.str e.2]]
theorem yf{e:Str×Str}(h:dZ e.1/\dZ e.2):PySem.W.kqdOk 9 (qx e)=true:=by
 unfold qx;simp only[PySem.W.kqdOk,GO,WA,WB,gB];exact h
theorem yg{K:Fg}{H:Hp}{p t:Addr}{e:Str×Str}(h1:H p=some (.lst [.ref t]))(h2:H t=some (.tup [.str e.1,.str e.2])):DV K H (.ref p) (qx e):=.lst (ae.of h1) (.cons (.tup (aW.of h2) (.cons (.str _) (.cons (.str _) .nil))) .nil)
section
variable {P:Program}{w:World}{K:Fg}{mg:Mv}{base:Heap}
def U6:Sp:=fun vs H Q _=>∃(r tx:Addr) (rows:Lv) (ds:List (Str×Ls)),vs=[.ref r,.ref tx]/\H r=some (.lst rows)/\Paired (jV H) rows (ds.flatMap da)/\Mq (ds.flatMap da)/\H tx=some (.lst ((ds.map (·.1)).map V.str))/\∀H',ag H H'->Q (.bl true) H'
theorem yh:aR [aFC,aE3,"_law_at","_law_text"] [aFC,aE3] (aE EB):=aZ
theorem atW{f:Addr}{fd:Fy}(F:ak K aFD aFD EB f fd)(B:bV mg):aj P w K mg base al 1 f fd [aFC,aE3] U6:=by
 refine F.okL yh ?_
 . intro ay A outer s H vs Q E hr h xX dX;obtain⟨r,tx,rows,ds,rfl,vw,pb,ok,ht,q⟩:=h;have hu:=hr.units;refine⟨_,(ao (aP (i:=2) yh.nd rfl (Or.inl rfl) ar)
    (ao (eA dY rfl (cy (pv 1)) (aY (i:=3) yh.nd rfl (Or.inl rfl))
    (ao (cJ (bM (wo hu) (iX mO (pv 0) (gb (pv 2)) (gb (aF dH (pv 2) ar))) (cX (aa (eK (aa bH (aa (pv 3) ac))) ac)) (bE _))
     (av (aU kz)) dq)
     (ao (aP (i:=2) yh.nd rfl (Or.inl rfl) (aF dH (pv 2) ar))
     (ao (Hd dY (PW.pt (qQ (bM (wo hu) (iX mO (pv 0) (gb (pv 2)) (gb (aF dH (pv 2) ar))) (cX ac) (bE _)) (v9 (bM eV (bi eJ (bi eL (pv 0) (pv 2) (fun _ _=>rfl)) ar (fun _ _=>rfl)) bH (bE _))))) (av (aP (i:=2) yh.nd rfl (Or.inl rfl) (aF dH (pv 2) ar))))
     (ao (cJ (bM (wo hu) (iX mO (pv 0) (gb (pv 2)) (gb (aF dH (pv 2) ar))) (cX (aa (eK (aa bH (aa bH ac))) ac)) (bE _))
     (av (aU kz)) dq)
     (av (aP (i:=2) yh.nd rfl (Or.inl rfl) (aF dH (pv 2) ar))))))))
    (av (aU (mG eV (pv 2) (dC gc (by rfl) B.len fZ (aa (pv 0) ac)) (bE _)))))),?_⟩
   refine i9 ?_;intro dD sS u3 u2;have row:∀{k:Nat}{y:Str×Str},(ds.flatMap da)[k]?=some y->∃t,rows[k]?=some (.ref t)/\H t=some (.tup [.str y.1,.str y.2])/\dZ y.1/\dZ y.2:=fun h=>by
    obtain⟨v,hv,t,rfl,ht⟩:=DJ pb h;exact⟨t,hv,ht,ok _ (dG h)⟩
   refine⟨_,rfl,tx,rfl,⟨_,ae.of ht⟩,?_⟩;refine gF (xs:=(ds.map (·.1)).map V.str) (fun i σ H1=>∃u,∃o:Nat,((ds.take i).flatMap da).length=o/\σ=[some (.ref r),some (.ref tx),some (.int (o:Int)),u]/\ag H H1) ⟨none,0,rfl,rfl,ag.refl _⟩ ?_ ?_ ?_
   . rintro i σ H1 hi ⟨u,o,ho,rfl,s1⟩;exact ae.of (s1 _ _ ht)
   . intro i z σ H1 hz hQ;refine ba ?_;intro tT;obtain⟨u,o,ho,rfl,s1⟩:=hQ;rw[db,db]at hz;cases he:ds[i]? with
     | none=>rw[he]at hz;cases hz
     | some e=>
      rw[he]at hz;cases hz;have at_:∀{k:Nat}{y:Str×Str},(da e)[k]?=some y->(ds.flatMap da)[o+k]?=some y:=fun hk=>by rw[←ho];exact atU he hk
      obtain⟨tb,sk,fO,uW⟩:=row (at_ (k:=0) (y:=(dv,e.1)) rfl);refine⟨_,rfl,_,rfl,_,rfl,_,rfl,_,_,rfl,rfl,_,rfl,r,_,rfl,ae.of (s1 _ _ vw),fun p1 H2 n2 s2 e2=>?_⟩;rw[Gx (k:=o) sk]at e2;refine⟨_,rfl,(by show 2<=sizeLine;decide),fun p2 H3 n3 s3 e3=>?_⟩;refine⟨(by show 1<=sizeLine;decide),fun p3 H4 n4 s4 e4=>?_⟩;have xF:=s3.trans s4;have iL:=(s1.trans s2).trans xF;refine⟨qx (dv,e.1),qx (dv,e.1),yg (xF _ _ e2) (iL _ _ fO),yg e4 (s4 _ _ e3),yf uW,yf uW,fun bb ia=>⟨_,rfl,?_⟩⟩;rw[ia.mpr rfl];refine gH ?_;refine⟨_,rfl,_,_,rfl,rfl,?_⟩;refine⟨fun m σ H5=>∃j:Nat,m=e.2.length - j/\j<=e.2.length/\σ=[some (.ref r),some (.ref tx),some (.int ((o+(1+j):Nat):Int)),some (.str e.1)]/\ag H H5,⟨_,0,rfl,dw _,?_,iL⟩,?_⟩
      . rfl
      intro m σ H5 hQ;refine ba ?_;intro tT;obtain⟨j,rfl,hj,rfl,s5⟩:=hQ;have go:∀{y:Str×Str},(da e)[1+j]?=some y->∃t,rows[o+(1+j)]?=some (.ref t)/\H t=some (.tup [.str y.1,.str y.2])/\dZ y.1/\dZ y.2:=fun h=>row (at_ h)
      by_cases aN:j<e.2.length
      . obtain⟨t,h1,h2,h3⟩:=go (atP e (ir aN));refine⟨_,rfl,_,rfl,_,rfl,_,rfl,_,_,rfl,rfl,_,rfl,r,_,rfl,ae.of (s5 _ _ vw),fun p4 H6 n6 s6 e6=>?_⟩;rw[Gx (k:=o+(1+j)) h1]at e6;refine⟨(by show 0<=sizeLine;decide),fun p5 H7 n7 s7 e7=>?_⟩;have gy:=(s5.trans s6).trans s7;refine⟨qx (sN,e.2[j]),.list [],yg (s7 _ _ e6) (gy _ _ h2),.lst (ae.of e7) .nil,yf h3,rfl,fun bb ia=>⟨_,rfl,?_⟩⟩;have b0:bb=false:=by
         cases bb with
         | false=>rfl
         | true=>have:=ia.mp rfl;cases this
        rw[b0];refine gJ ?_;refine⟨_,rfl,_,rfl,r,_,_,_,rfl,rfl,ae.of (gy _ _ vw),yV (j:=o+(1+j)) h1,t,_,_,_,rfl,rfl,aW.of (gy _ _ h2),rfl,rfl,_,rfl,?_⟩;refine gJ ?_;refine⟨fun σ' H8=>σ'=[some (.ref r),some (.ref tx),some (.int ((o+(1+j):Nat)+1)),some (.str e.1)]/\H8=H7,?_,?_⟩
        . rintro σ' H8 ⟨rfl,rfl⟩;exact⟨_,(show e.2.length - (j+1)<e.2.length - j by omega),j+1,rfl,aN,rfl,gy⟩
        . exact⟨_,rfl,_,_,rfl,rfl,rfl,rfl⟩
      . have ej:j=e.2.length:=by omega
        subst ej;obtain⟨t,h1,h2,h3⟩:=go (atQ e);refine⟨_,rfl,_,rfl,_,rfl,_,rfl,_,_,rfl,rfl,_,rfl,r,_,rfl,ae.of (s5 _ _ vw),fun p4 H6 n6 s6 e6=>?_⟩;rw[Gx (k:=o+(1+e.2.length)) h1]at e6;refine⟨(by show 0<=sizeLine;decide),fun p5 H7 n7 s7 e7=>?_⟩;have gy:=(s5.trans s6).trans s7;refine⟨qx fW,.list [],yg (s7 _ _ e6) (gy _ _ h2),.lst (ae.of e7) .nil,yf h3,rfl,fun bb ia=>⟨_,rfl,?_⟩⟩;have b0:bb=false:=by
         cases bb with
         | false=>rfl
         | true=>have:=ia.mp rfl;cases this
        rw[b0];refine gJ ?_;refine⟨_,rfl,_,rfl,r,_,_,_,rfl,rfl,ae.of (gy _ _ vw),yV (j:=o+(1+e.2.length)) h1,t,_,_,_,rfl,rfl,aW.of (gy _ _ h2),rfl,rfl,_,rfl,?_⟩;refine bw (fun h=>absurd (cZ h) (by intro z;injection z with z;exact absurd z (show fW.1≠sN by decide +kernel))) (fun _=>?_);refine⟨_,rfl,_,rfl,_,rfl,_,rfl,_,_,rfl,rfl,_,rfl,r,_,rfl,ae.of (gy _ _ vw),fun p6 H8 n8 s8 e8=>?_⟩;rw[Gx (k:=o+(1+e.2.length)) h1]at e8;refine⟨(by show 2<=sizeLine;decide),fun p7 H9 n9 s9 e9=>?_⟩;refine⟨(by show 1<=sizeLine;decide),fun p8 Ha na sa ea=>?_⟩;have U8:=s9.trans sa;have U9:=(gy.trans s8).trans U8;refine⟨qx fW,qx fW,yg (U8 _ _ e8) (U9 _ _ h2),yg ea (sa _ _ e9),yf h3,yf h3,fun b2 fO=>⟨_,rfl,?_⟩⟩;rw[fO.mpr rfl];refine gH ?_;have el:((ds.take (i+1)).flatMap da).length=o+(1+e.2.length)+1:=by
         rw[pZ he,vT,bh,ho,Wt,U5];omega
        exact⟨_,rfl,_,_,rfl,rfl,_,_,el,rfl,U9⟩
   . rintro σ H1 ⟨u,o,ho,rfl,s1⟩;refine⟨_,rfl,_,rfl,r,_,rfl,.inl (ae.of (s1 _ _ vw)),rfl,?_⟩;have pl:=bq pb;have el:((ds.take ((ds.map (·.1)).map V.str).length).flatMap da).length=rows.length:=by rw[am,am,eT,pl]
     rw[←ho,el,bG rfl];exact q H1 s1
end
theorem BQ{H:Hp}{t:Addr}:msk [t] H t=none:=by
 unfold msk;rw[aq bB]
theorem jz{H:Hp}{t q:Addr}(n:q≠t):msk [t] H q=H q:=by
 unfold msk;rw[ai (by simpa using n)]
theorem atX{H:Hp}{t:Addr}{o:HO}(n:H t=none):msk [t] (ah H t o)=H:=by
 rw[uo bB]
 funext q
 by_cases e:q=t
 . rw[e,BQ,n]
 . rw[jz e]
def atY(sp:Sp):Sp:=fun vs H Q E=>∃t xs,H t=some (.lst xs)/\sp vs (msk [t] H) (fun v H'=>H' t=none->Q v (ah H' t (.lst xs))) E
theorem atZ{P:Program}{w:World}{K:Fg}{mg:Mv}{base:Heap}{k:Nat}{f:Addr}{fd:Fy}{ps:Ls}{sp:Sp}(F:aj P w K mg base al k f fd ps sp):aj P w K mg base al k f fd ps (atY sp):=by
 refine⟨fun vs H Q E at2=>at2.elim fun t at3=>at3.elim fun xs at4=>at4.elim fun _ h=>F.len vs _ _ _ h,fun A outer s H args us vs Q E hr e0 hb hv hh=>?_⟩;obtain⟨t,xs,ht,hs⟩:=hh;have own:∀{H':Hp}{q:Addr}{o:HO},H' q=some o->(∀xs,o≠.lst xs)->H' t=some (.lst xs)->q≠t:=fun e n z=>aO e z (n _);have hm:bY P w (msk [t] H) s.heap:=fun a o e=>by
  have e':=bF _ _ e;exact(e0.hok a o e').stay (fun _ _ _ z=>z) (fun b z=>by rw[jz (own z (by intro _ z;cases z) ht)];exact z) fun b xs z=>by rw[jz (own z (by intro _ z;cases z) ht)];exact z
 have nn:∀{b:Addr},H b=none->msk [t] H b=none:=fun {b} e=>by
  by_cases z:b=t
  . rw[z];exact BQ
  . rw[jz z];exact e
 have e1:kD P w K mg base A outer s (msk [t] H):=⟨e0.frames,e0.mod,fun b o e=>⟨(e0.bs b o e).1,nn (e0.bs b o e).2⟩,e0.bsz,e0.funs,fun b z=>nn (e0.frf b z),hm,e0.bare⟩;refine oq (F.run A outer s (msk [t] H) args us vs _ E hr e1 hb hv hs) fun r s' hq=>?_;cases r with
 | error e=>exact hq.elim
 | ok fl=>
  cases fl with
  | next=>exact False.elim hq
  | brk=>exact False.elim hq
  | cont=>exact False.elim hq
  | ret u=>
   obtain⟨v,H',os,bare,un,hok,r,q⟩:=hq;have tfs:t∉cn outer:=fun z=>by rw[e0.frf t z]at ht;cases ht
   obtain⟨l1,its,n,r1,g1⟩:=e0.hok t _ ht;have g2:=un.keep t _ g1 BQ tfs (by simp);have f2:=un.free t _ g1 BQ (by simp);have up:∀{b:Addr}{o:HO},H' b=some o->ah H' t (.lst xs) b=some o:=fun e=>aB e (aL e f2);refine⟨v,ah H' t (.lst xs),os,bare,⟨fun b o e z=>un.keep b o e (nn z),fun b o e z=>un.slot b o e (nn z),fun b o e z x=>?_,un.there,fun b ys z=>?_,fun b o u z=>?_,fun b ps z=>?_⟩,fun a o e=>?_,r,q f2⟩
   . rw[aV (aL ht z).symm];exact un.free b o e (nn z) x
   . exact up (un.tups b ys (by rw[jz (own z (by intro _ z;cases z) ht)];exact z))
   . exact up (un.frzs b o u (by rw[jz (own z (by intro _ z;cases z) ht)];exact z))
   . obtain⟨more,e⟩:=un.tbls b ps (by rw[jz (own z (by intro _ z;cases z) ht)];exact z);exact⟨more,up e⟩
   . by_cases z:a=t
     . subst z;rw[aI]at e;cases e;exact⟨l1,its,n,r1,g2⟩
     . rw[aV z]at e;exact(hok a o e).stay (fun _ _ _ z=>z) (fun b z=>up z) fun b xs z=>up z
theorem at6(a b:Bk):bQ (a++b)=bQ a++bQ b:=by
 unfold bQ;rw[GY,cQ]
theorem at7(e:Str×Ls):bQ (da e)=[e.1]:=U1 [] e.1 e.2
theorem M0:∀ds:List (Str×Ls),bQ (ds.flatMap da)=ds.map (·.1)
 | []=>rfl
 | e::ds=>by rw[vS,at6,at7,M0 ds];rfl
theorem M2:∀{ds:List (Str×Ls)},(∀e∈ds,e.2.length<=8)->(ds.flatMap da).length<=10 * ds.length
 | [],_=>aJ _
 | e::ds,h=>by
  have h1:=M2 fun y hy=>h y (bJ e hy);have h2:=h e bB;rw[vS,bh,U5,bO];omega
theorem M3{R H:Hp}{L:List Addr}(s:ag R H)(v:∀q∈L,R q=none):ag R (msk L H):=fun q o e=>cg (fun hq=>by rw[v q hq]at e;cases e) (s q o e)
structure Lp(D x dx d b tx Pt:Addr)(R:Hp)(xs:Lv)(ps:aT)(ts:Ls)(fs:Tr)(ds:List (Str×Ls))(i:Nat)(H:Hp):Prop where
 te:H tx=some (.lst (ts.map V.str))
 dk:Dk D x dx d b none fs (ds.flatMap da) (msk [tx] H)
 tb:aH H Pt cY cU
 rs:ag R H
 f2:fs.length<=20
 up:gY (ds.flatMap da)=true
 tk:iS xs ps (Str.empty::ds.map (·.1))
 dl:ds.length<=i
 d8:∀e∈ds,e.2.length<=8
section
variable {D x dx d b tx Pt:Addr}{R H H':Hp}{xs:Lv}{ps:aT}{ts ts':Ls}{fs bC:Tr}{ds ip:List (Str×Ls)} {i j:Nat}
theorem Lp.same(h:Lp D x dx d b tx Pt R xs ps ts fs ds i H)(s:ag H H'):Lp D x dx d b tx Pt R xs ps ts fs ds i H':=
 ⟨s _ _ h.te,h.dk.same (gr s),h.tb.same s,h.rs.trans s,h.f2,h.up,h.tk,h.dl,h.d8⟩
theorem Lp.put(h:Lp D x dx d b tx Pt R xs ps ts fs ds i H)(n:R tx=none):Lp D x dx d b tx Pt R xs ps ts' fs ds i (ah H tx (.lst (ts'.map V.str))):=
 ⟨aI,by rw[uo bB];exact h.dk,K64.aH.kp h.tb fun q φ e=>aB e (aO e h.te (by intro z;cases z)),pY n h.rs,h.f2,h.up,h.tk,h.dl,h.d8⟩
theorem Lp.len(h:Lp D x dx d b tx Pt R xs ps ts fs ds i H):(ds.flatMap da).length<=10 * i:=by
 have:=M2 h.d8;have:=h.dl;omega
theorem Lp.tab(h:Lp D x dx d b tx Pt R xs ps ts fs ds i H):aH (msk [tx] H) Pt cY cU:=K64.aH.kp h.tb fun q φ e=>by rw[jz (aO e h.te (by intro z;cases z))];exact e
theorem Lp.full(h:Lp D x dx d b tx Pt R xs ps ts fs ds i H):Dk D x dx d b none fs (ds.flatMap da) H:=h.dk.same bF
theorem Lp.deed(h:Lp D x dx d b tx Pt R xs ps ts fs ds i H)(v:∀q∈[tx,x,d,b,Pt],R q=none)(n:H' tx=none)(hD:Dk D x dx d b none bC (ip.flatMap da) H')(j8:bC.length<=20)(up:gY (ip.flatMap da)=true)(k:cx x d b Pt (msk [tx] H) H')(tb:aH H' Pt cY cU)
 (tk:iS xs ps (Str.empty::ip.map (·.1))) (dl:ip.length<=j) (d8:∀e∈ip,e.2.length<=8):Lp D x dx d b tx Pt R xs ps ts bC ip j (ah H' tx (.lst (ts.map V.str))):=by
 refine⟨aI,by rw[atX n];exact hD,K64.aH.kp tb fun q φ e=>aB e (aL e n),fun q o e=>?_,j8,up,tk,dl,d8⟩;have nq:∀{z:Addr},z∈[tx,x,d,b,Pt]->q≠z:=fun hz c=>by rw[c,v _ hz]at e;cases e
 have n1:q≠tx:=nq (by simp);refine aB (k q o (by rw[jz n1];exact h.rs _ _ e) (nq (by simp)) (nq (by simp)) (nq (by simp)) (nq (by simp))) n1
theorem Lp.busy(h:Lp D x dx d b tx Pt R xs ps ts fs ds i H):iH H [tx,x,d,b,Pt]:=fun q hq=>by
 rcases aX.mp hq with rfl | hq
 . exact⟨_,h.te,by intro vs z;cases z⟩
 . exact h.full.busy h.tb q hq
end
theorem at8{H:Hp}{tx x d b Pt:Addr}:ag (msk [tx,x,d,b,Pt] H) (msk [x,d,b,Pt] (msk [tx] H)):=fun q o e=>by
 have n:q∉[tx,x,d,b,Pt]:=fun z=>by unfold msk at e;rw[aq z]at e;cases e
 have e':=bF q o e;rw[aX,lC]at n;exact cg n.2 (by rw[jz n.1];exact e')
theorem M4{K:Fg}{H:Hp}:∀ts:Ls,gm K H (ts.map V.str) (ts.map PySem.W.Dat.str)
 | []=>.nil
 | t::ts=>.cons (.str t) (M4 ts)
theorem Va{ts:Ls}(h:∀t∈ts,dZ t):PySem.W.kqdOk 9 (.list (ts.map PySem.W.Dat.str))=true:=by
 simp only[PySem.W.kqdOk,iq,cL];rintro d ⟨t,ht,rfl⟩;simp only[PySem.W.kqdOk];exact h t ht
theorem iS.txt{xs:Lv}{ps:aT}{ts:Ls}(h:iS xs ps ts):∀t∈ts,dZ t:=fun t ht=>(h t ht).elim fun _ at9=>at9.elim fun _ aua=>aua.elim fun _ z=>z.txt
section
variable {P:Program}{w:World}{K:Fg}{mg:Mv}{base:Heap}
theorem aub{C S:Addr}{H:Hp}{Q:Addr->Hp->Prop}{E:XK}{a:Addr}{xs:Lv}{ps:aT}(ha:H a=some (.lst xs))(bp:dR C H xs ps)(E2:ps.length<=100)(rT:(ps.map kU).Nodup)(q:∀x H',H x=none->ag H H'->iN S H' (.ref x) xs ps->Q x H') :
 ∀x dx,H x=none->H dx=none->dx≠x->Kj K C S (.ref x::([.ref a]++[])) (ah (ah H dx (.own x)) x (.ins S dx [])) (fun v H2=>v=.non/\Q x H2) E:=by
 intro x dx hx uD nx;have s1:ag H (ah (ah H dx (.own x)) x (.ins S dx [])):=fw (fL uD) hx;refine⟨x,dx,a,xs,ps,rfl,aI,s1 _ _ ha,bp.same s1,E2,rT,fun H' keep hS=>⟨rfl,q x H' hx (fun b o e=>keep b o (s1 _ _ e) (aL e hx)) hS⟩⟩
theorem auc{C:Addr}{H:Hp}{Q:Addr->Hp->Prop}{E:XK}(q:∀x dx d b H',H x=none->H d=none->H b=none->ag H H'->Dk C x dx d b none [] [] H'->Q x H') :
 ∀x dx,H x=none->H dx=none->dx≠x->K3 C [.ref x] (ah (ah H dx (.own x)) x (.ins C dx [])) (fun v H2=>v=.non/\Q x H2) E:=by
 intro x dx hx uD nx;have s1:ag H (ah (ah H dx (.own x)) x (.ins C dx [])):=fw (fL uD) hx;exact⟨x,dx,rfl,aI,fun d b H' nd nb h1 h2 h3 k=>⟨rfl,q x dx d b H' hx (s1.free nd) (s1.free nb) (fun p o e=>k p o (s1 _ _ e) (aL e hx)) ⟨h1,⟨[],h2,.nil⟩,⟨[],h3,.nil⟩,kj,(fun f z=>nomatch z),fun _=>rfl,(fun e z=>nomatch z),fun m z=>nomatch z⟩⟩⟩
theorem iN.off{S Pt:Addr}{H:Hp}{v:V}{xs:Lv}{ps:aT}(n:∃φ,H Pt=some (.ext φ))(h:iN S H v xs ps):iN S (msk [Pt] H) v xs ps:=by
 obtain⟨φ,n⟩:=n;obtain⟨a,dx,fl,d,kvs,e,h1,h2,h3,h4,h5⟩:=h;exact⟨a,dx,fl,d,kvs,e,by rw[jz (aO h1 n (by intro z;cases z))];exact h1,h2,h3,by rw[jz (aO h4 n (by intro z;cases z))];exact h4,h5⟩
end
theorem M6{x:V}(h:(!decide (x=x))=true):False:=by simp at h
section
variable {P:Program}{w:World}{K:Fg}{mg:Mv}{base:Heap}
def Gy(K:Fg)(Pt:Addr):Sp:=fun vs H Q _=>∃(a:Addr) (ns:List Int),vs=[.ref a]/\ae K H a (ns.map V.int)/\ns.length<=63/\aH H Pt cY cU/\∀H',aH H' Pt cY cU->Q (.bl true) H'
theorem sP:aR [aEd,aEe,aEq,aE2,aE7,aE3,aD5,aE8] [aEd] (aE wS):=aZ
theorem aud{f C S T D Pt fP f1 gW f3 f4 f5 f6 f7 vx vy rY Gz GA j9 qm j7 GB BR fU BS GC:Addr}{fd mo BU BV xg M7 M8 nX vk nK M9 GD iK GF Nb:Fy}(F:ak K "law" "law" wS f fd)(B:bV mg)(US:uH K mg S fP)(UD:im K mg D f1 gW f3 f4 f5 f6 f7)(MS:Mk K S vx)(MD:Mk K D vy)
 (GG:ak K "__init__" "Shelf.__init__" ut vx BU) (aue:aj P w K mg base al 8 vx BU [aD4,aD8] (Kj K C S)) (GH:ak K "__init__" "Disk.__init__" uu vy BV) (auf:aj P w K mg base al 8 vy BV [aD4] (K3 D)) (lj:ak K aFE "Disk.book_now" pB gW mo) (Br:aj P w K mg base al 9 gW mo [aD4] (Fj D))
 (kW:ak K aEA aEA Af rY xg) (r9:mg aEA=some (.ref rY)) (AI:aj P w K mg base al 9 rY xg [aEd,aEc] (JB K)) (BW:ak K aFu aFu Ev Gz M7) (Nc:mg aFu=some (.ref Gz)) (aug:aj P w K mg base al 9 Gz M7 [aD5,aFr] RK)
 (BX:ak K aEs aEs wQ GA M8) (Nd:mg aEs=some (.ref GA)) (auh:aj P w K mg base al 9 GA M8 [aEd,aEe,aFl] (SQ K C))
 (jy:ak K aEZ aEZ wO j9 nX) (nY:mg aEZ=some (.ref j9)) (nZ:aj P w K mg base al 9 j9 nX [aD9] (xM D)) (jw:ak K aEI aEI Ab qm vk) (mq:mg aEI=some (.ref qm)) (mr:aj P w K mg base al 9 qm vk [aEr] (xb T))
 (jv:ak K aEF aEF wP j7 nK) (nQ:mg aEF=some (.ref j7)) (nU:aj P w K mg base al 9 j7 nK [aD9] (Bt D T)) (vz:ak K aFp aFp Ep GB M9) (BY:mg aFp=some (.ref GB)) (Nf:aj P w K mg base al 9 GB M9 [aD9] (UE D T))
 (BZ:ak K aFq aFq Ez BR GD) (Ng:mg aFq=some (.ref BR)) (Nh:aj P w K mg base al 9 BR GD [aEq,aEe,aD5] (MM C T)) (cG:ak K aEi aEi rL fU iK) (dQ:mg aEi=some (.ref fU)) (fm:aj P w K mg base al 9 fU iK [aD5,aEc] wV)
 (B0:ak K aFB aFB EA BS GF) (Ni:mg aFB=some (.ref BS)) (aui:aj P w K mg base al 9 BS GF [aE2,aE7,aE8,aD5] (MQ C S T D Pt)) (B1:ak K aFD aFD EB GC Nb) (Nj:mg aFD=some (.ref GC)) (auj:aj P w K mg base al 9 GC Nb [aFC,aE3] U6):aj P w K mg base al 10 f fd [aEd] (Gy K Pt):=by
 have Nk:=atZ aui;have auk:=GG.binds2 (l:=[aD4,aD8]) (fun _ _ _ _ _ _ _ _=>rfl);have aul:=GH.binds1 (l:=[aD4]) (fun _ _ _ _ _ _ _=>rfl);have Bs:=lj.binds1 (l:=[aD4]) (fun _ _ _ _ _ _ _=>rfl);have AJ:=kW.binds2 (l:=[aEd,aEc]) (fun _ _ _ _ _ _ _ _=>rfl);have aum:=BW.binds2 (l:=[aD5,aFr]) (fun _ _ _ _ _ _ _ _=>rfl);have aun:=BX.binds3 (l:=[aEd,aEe,aFl]) (fun _ _ _ _ _ _ _ _ _=>rfl);have yc:=jy.binds1 (l:=[aD9]) (fun _ _ _ _ _ _ _=>rfl);have sO:=jw.binds1 (l:=[aEr]) (fun _ _ _ _ _ _ _=>rfl);have x5:=jv.binds1 (l:=[aD9]) (fun _ _ _ _ _ _ _=>rfl);have Nl:=vz.binds1 (l:=[aD9]) (fun _ _ _ _ _ _ _=>rfl);have auo:=BZ.binds3 (l:=[aEq,aEe,aD5]) (fun _ _ _ _ _ _ _ _ _=>rfl);have fo:=cG.binds2 (l:=[aD5,aEc]) (fun _ _ _ _ _ _ _ _=>rfl);have aup:=B0.binds4 (l:=[aE2,aE7,aE8,aD5]) (fun _ _ _ _ _ _ _ _ _ _=>rfl);have auq:=B1.binds2 (l:=[aFC,aE3]) (fun _ _ _ _ _ _ _ _=>rfl);refine F.okL sP ?_
 . intro ay A outer s H vs Q E hr h xX dX;obtain⟨a,is,rfl,hS,h63,tab,q⟩:=h;have hu:=hr.units;refine⟨_,(ao (q9 (i:=1) [aFr] [aEd] [0] sP.nd rfl rfl dL rfl (oK rfl B.range (aa (aF dH ar (aF cz (aG AI hr rfl r9 kW.kp AJ .nil aD (aa (pv 0) (aa ar ac))) ar)) ac)) (fun _ _ _ _=>(aY (i:=0) (show List.Nodup ([aFr,aEd]:Ls) by decide +kernel) rfl (Or.inl rfl))) (fun _ _ _ _=>ge) (fun _ _ _ _=>(aG aug hr rfl Nc BW.kp aum .nil aD (aa (aG AI hr rfl r9 kW.kp AJ .nil aD (aa (pv 1) (aa ar ac))) (aa (pv 0) ac)))))
    (ao (aP (i:=2) sP.nd rfl (Or.inl rfl) (aG auh hr rfl Nd BX.kp aun .nil aD (aa (pv 0) (aa (pv 1) (aa ar ac)))))
    (ao (aP (i:=3) sP.nd rfl (Or.inl rfl) (yS MS aue hr rfl US.mgC auk .nil aD (aa (pv 2) ac)))
    (ao (aP (i:=4) sP.nd rfl (Or.inl rfl) (abg MD auf hr rfl UD.mgC aul .nil aD))
    (ao (cJ (PW.pt (CJ (G8 (mC (aG nZ hr rfl nY jy.kp yc .nil aD (aa (pv 4) ac)))) (CJ (bM yM (aG mr hr rfl mq jw.kp sO .nil aD (aa (aG nU hr rfl nQ jv.kp x5 .nil aD (aa (pv 4) ac)) ac)) bH (bE _)) (G7 (bM yM (dC gc (by rfl) B.len fZ (aa (aG Nf hr rfl BY vz.kp Nl .nil aD (aa (pv 4) ac)) ac)) ar (bE _))))))
    (av (aU kz)) dq)
    (ao (aP (i:=5) sP.nd rfl (Or.inl rfl) (cX (aa bH ac)))
    (ao (eA dY rfl (cy (fM [aEc] [aEd] [0] dL rfl (Hg rfl B.range (aa ar (aa ar ac))) (fun _ _ _ _=>(aY (i:=0) (show List.Nodup ([aEc,aEd]:Ls) by decide +kernel) rfl (Or.inl rfl))) (fun _ _ _ _=>ge) (fun _ _ _ _=>(aG AI hr rfl r9 kW.kp AJ .nil aD (aa (pv 1) (aa (pv 0) ac)))))) (aY (i:=6) sP.nd rfl (Or.inl rfl))
    (ao (aP (i:=7) sP.nd rfl (Or.inl rfl) (aG Nh hr rfl Ng BZ.kp auo .nil aD (aa (pv 2) (aa (pv 1) (aa (aF cz (aG fm hr rfl dQ cG.kp fo .nil aD (aa (pv 6) (aa ar ac))) ar) ac)))))
     (ao (cJ (G8 (mC (aG Nk hr rfl Ni B0.kp aup .nil aD (aa (pv 3) (aa (pv 4) (aa (pv 7) (aa (pv 6) ac)))))))
     (av (aU kz)) dq)
     (av (cJ (bM yM (aG mr hr rfl mq jw.kp sO .nil aD (aa (pv 7) ac)) (bi eL (pv 5) (qU qV ar) (fun _ _=>rfl)) (bE _))
     (av (cI (dr gD vU vV oU (pv 5) (aa (aG mr hr rfl mq jw.kp sO .nil aD (aa (pv 7) ac)) ac)))) dq)))))
    (ao (cJ (bM (wo hu) (fM [aEV] [] [] dL rfl (cy (aG Nf hr rfl BY vz.kp Nl .nil aD (aa (pv 4) ac))) (fun _ _ _ _=>(aY (i:=0) (show List.Nodup ([aEV]:Ls) by decide +kernel) rfl (Or.inl rfl))) (fun _ _ _ _=>ge) (fun _ _ _ _=>(aG mr hr rfl mq jw.kp sO .nil aD (aa (pv 0) ac)))) (pv 5) (bE _))
    (av (aU kz)) dq)
    (ao (cI (ab7 gD PySem.F.slot_list_clear PySem.F.type_list_clear acs (aG Nf hr rfl BY vz.kp Nl .nil aD (aa (pv 4) ac))))
    (av (aU (Oz (mG eV (aG mr hr rfl mq jw.kp sO .nil aD (aa (aG nU hr rfl nQ jv.kp x5 .nil aD (aa (pv 4) ac)) ac)) (bi eL (pv 5) (qU qV ar) (fun _ _=>rfl)) (bE _)) (CK (aG auj hr rfl Nj B1.kp auq .nil aD (aa (tL (pv 4) UD.cl UD.mBNo Br hr Bs .nil aD) (aa (iX mO (pv 5) (gb ar) oN) ac)))))))))))))))),?_⟩
   refine ait ?_;intro dD sS Qf u9 u8 u7 u6 u5 u4 u3 u2;refine⟨_,rfl,a,0,is,rfl,by omega,hS,fun c0=>?_⟩;refine⟨_,_,rfl,rfl,(by show(0:Int)<4;decide),_,_,rfl,rfl,1+c0 % 4,rfl,by omega,by omega,?_⟩;refine wq (σ0:=[none,some (.ref a)]) (fun σ=>∃v,σ=[v,some (.ref a)]) (fun i ys _=>∃xs:Ls,ys=xs.map V.str/\xs.length=i/\∀x∈xs,cr x) ⟨_,rfl⟩ (fun _ _=>⟨[],rfl,rfl,fun x hx=>nomatch hx⟩) ?_ ?_
   . intro D i ys σ H2 k hD hi eY hd hs gg hk;refine ba ?_;intro tT;obtain⟨v,rfl⟩:=eY;obtain⟨xs,rfl,hx,hxs⟩:=gg;refine⟨_,rfl,a,1,is,rfl,by omega,hs.seq hS,fun c1=>⟨_,rfl,_,_,rfl,fun x H3 lx s3=>?_⟩⟩;refine hk _ _ _ ⟨_,rfl⟩ s3 (bI (by rw[am];omega)) ⟨xs++[x],tV xs x,by rw[bh,hx];rfl,fun y hy=>?_⟩
     rcases bK.mp hy with z | z
     . exact hxs y z
     . rw[bj.mp z];exact lx
   intro nA ys H1 nD hn s1 gi;refine ba ?_;intro tT;obtain⟨ns,rfl,nl,kL⟩:=gi;have n1:1<=ns.length:=by omega
   have n4:ns.length<=4:=by omega
   refine⟨_,rfl,_,rfl,a,nA,is,ns,rfl,s1.seq hS,hn,n1,n4,fun fa H2 xs ps _ s2 e2 bp ap=>?_⟩;have p6:=ap.len;refine⟨_,rfl,?_⟩;dsimp only[List.set,fh];refine aub (K:=K) (C:=C) (S:=S) e2 bp (by omega) ap.nd fun sh H3 n3 s3 hSh=>?_;have aut:=bp.same s3
   try dsimp only[List.set,fh]
   refine auc (Q:=fun x H1=>_) fun x dx d b H4 nx nd nb s4 gZ=>?_;have nV:ag H H3:=s1.trans (s2.trans s3);have iT:aH H3 Pt cY cU:=tab.same nV;obtain⟨UQ,b41,b42⟩:=id gZ.bo;refine⟨_,rfl,x,dx,d,b,_,UQ,[],rfl,gZ.ob,b41,b42,gZ.bt,fun H5 s5=>?_⟩;refine⟨_,rfl,gH ?_⟩;have ik:=gZ.same s5;obtain⟨Nm,No,Np⟩:=id ik.bo;refine⟨_,rfl,x,dx,d,b,_,Nm,[],xs,ps,Str.empty,[],[],[],rfl,ik.ob,No,Np,by decide,rfl,Ms,fun v H6 s6 hv=>?_⟩;have Nq:gj T H6 v [] [] []:=by
    have:=hv [] fun b z=>nomatch z
    rwa [EQ]at this
   dsimp only[fh,qC,vW];refine(Ms (xs:=xs) (ps:=ps)).sho Nq fun H7 s7=>?_;refine⟨rfl,_,rfl,?_⟩;refine bw (fun h=>(M6 h).elim) fun _=>?_;have jU:=ik.same (s6.trans s7);obtain⟨pX,Nr,Nu⟩:=id jU.bo;have Vb:iS xs ps [Str.empty]:=fun t ht=>⟨[],[],[],by rw[bj.mp ht];exact Ms⟩;refine⟨_,rfl,x,dx,d,b,_,pX,[],xs,ps,rfl,jU.ob,Nr,Nu,by decide,Vb,fun l zs H8 nl s8 e8 pr=>?_⟩;have zl:=bq pr;refine⟨l,_,rfl,.inl (ae.of e8),rfl,_,rfl,?_⟩;rw[zl];refine bw (fun h=>(M6 h).elim) fun _=>?_;refine⟨(by show 1<=sizeLine;decide),fun tx H9 n9 s9 e9=>?_⟩;have nv:ag H4 H9:=(s5.trans (s6.trans (s7.trans s8))).trans s9;have Vc:H4 tx=none:=(s5.trans (s6.trans (s7.trans s8))).free n9;refine⟨9,14,rfl,⟨by omega,by omega,by omega,by omega⟩,?_⟩;refine wq (lo:=9) (n:=5) (σ0:=[none,some (.ref a)]) (fun σ=>∃v,σ=[v,some (.ref a)]) (fun i ys _=>∃ms:List Int,ys=ms.map V.int/\ms.length=i) ⟨_,rfl⟩ (fun _ _=>⟨[],rfl,rfl⟩) ?_ ?_
   . rintro D' i ys σ jp k jW hi ⟨v,rfl⟩ hd hs ⟨ms,rfl,hm⟩ hk;refine⟨_,rfl,_,rfl,a,9+(i:Int),is,rfl,by omega,(nV.trans (s4.trans (nv.trans hs))).seq hS,fun cc=>?_⟩;exact hk _ _ _ ⟨_,rfl⟩ (ag.refl _) (bI (by rw[am];omega)) ⟨ms++[cc],by rw[cQ];rfl,by rw[bh,hm];rfl⟩
   rintro lc ys jp GI Vd Fc ⟨ms,rfl,hm⟩;refine⟨lc,rfl,⟨_,ae.of Vd⟩,?_⟩;have Ve:ag H4 jp:=nv.trans Fc;have Vf:ag H3 jp:=s4.trans Ve;have auw:=iT.same Vf;have vR:∀q∈[tx,x,d,b,Pt],msk [tx,x,d,b,Pt] jp q=none:=fun q hq=>by unfold msk;rw[aq hq]
   have sR:ag (msk [Pt] H3) (msk [tx,x,d,b,Pt] jp):=fun q o e=>by
    have e3:=bF q o e;have np:q≠Pt:=fun z=>by rw[z,BQ]at e;cases e
    refine cg (fun z=>?_) (Vf q o e3);simp only[aX,fe,ff]at z
    rcases z with z | z | z | z | z
    . rw[z,s4.free Vc]at e3;cases e3
    . rw[z,nx]at e3;cases e3
    . rw[z,nd]at e3;cases e3
    . rw[z,nb]at e3;cases e3
    . exact np z
   have aux:∀{v:V}{p:cM},iM C H3 v p->iM C (msk [Pt] H3) v p:=fun z=>z.off fun b' hb o eo=>by
    obtain⟨φ,w⟩:=aH.at iT;rw[bj.mp hb,w]at eo;cases eo;exact⟨(by intro _ _ _ z;cases z),(by intro _ z;cases z),(by intro _ z;cases z)⟩
   have wR:k8 C S (msk [tx,x,d,b,Pt] jp) (.ref sh) xs ps ns:=⟨(iN.off (aH.at iT) hSh).same sR,dR.same sR (aK aut fun _ _=>aux),ap,n4,kL⟩;have Vg:∀{q:Addr}{o:HO},H3 q=some o->(∀φ,o≠.ext φ)->msk [tx,x,d,b,Pt] jp q=some o:=fun e n=>sR _ _ (by rw[jz (aH.ne iT e n)];exact e);have fR:=Vg (s3 _ _ e2) (by intro φ z;cases z);have nR:=Vg (s3 _ _ (s2 _ _ hn)) (by intro φ z;cases z);have Vh:Lp D x dx d b tx Pt (msk [tx,x,d,b,Pt] jp) xs ps [Str.empty] [] [] 0 jp:=⟨Fc _ _ e9,gZ.same (M3 Ve fun q hq=>by rw[bj.mp hq];exact Vc),auw,bF,by decide,rfl,Vb,aJ _,fun e z=>nomatch z⟩;have lR:msk [tx,x,d,b,Pt] jp lc=some (.lst (ms.map V.int)):=by
    have bz:=(gZ.same nv).busy (iT.same (s4.trans nv));refine cg (fun z=>?_) Vd
    rcases aX.mp z with z | z
    . rw[z,e9]at GI;cases GI
    . obtain⟨o,e,_⟩:=bz lc z;rw[e]at GI;cases GI
   generalize msk [tx,x,d,b,Pt] jp=R at vR wR fR nR Vh lR;have MP:∀p∈ps,cr p.nm/\fk p.ms:=fun p hp=>⟨kL _ (ap.nms p hp),ap.mks p hp⟩;refine gF (xs:=ms.map V.int) (fun i σ H1=>∃v6 v7 fs ds,σ=[some (.ref a),some (.ref nA),some (.ref fa),some (.ref sh),some (.ref x),some (.ref tx),v6,v7]/\Lp D x dx d b tx Pt R xs ps (Str.empty::ds.map (·.1)) fs ds i H1) ⟨none,none,[],[],rfl,Vh⟩ ?_ ?_ ?_
   . rintro i σ sj hi ⟨v6,v7,fs,ds,rfl,lp⟩;exact ae.of (lp.rs _ _ lR)
   . intro i z σ sj hz hQ;refine ba ?_;intro tT;obtain⟨v6,v7,fs,ds,rfl,lp⟩:=hQ;obtain⟨cell,G6,rfl⟩:=cL.mp (dG hz);have hi5:i<5:=by have:=(ci.mp hz).1;rw[am,hm]at this;exact this
     refine i9 ?_
     intros
     refine⟨_,rfl,_,rfl,_,rfl,cell,1,rfl,fun mm=>?_⟩;refine⟨_,_,rfl,rfl,(by show(0:Int)<3;decide),?_⟩;refine⟨fa,nA,_,xs,ps,ns,rfl,lp.rs _ _ fR,wR.pc.same lp.rs,by omega,MP,lp.rs _ _ nR,n1,n4,kL,fun gv ch cs ow H12 bT hgv so=>?_⟩;have qy:=lp.same bT;have g2:=hgv _ lp.busy;have ln2:=qy.len;have bf:=M0 ds;refine⟨_,rfl,_,rfl,_,rfl,_,rfl,tx,_,qy.te,.ref sh,gv,x,dx,d,b,none,fs,_,xs,ps,ns,ch,cs,ow,cell,rfl,wR.same (M3 (M3 qy.rs fun q hq=>vR q (by rw[bj.mp hq];simp)) fun q hq=>vR q (bJ _ hq)),g2.same at8,so,qy.dk,qy.f2,by omega,qy.up,by rw[bf];exact qy.tk,qy.tab,fun t bC gk B2 hg hb auA j8 up3 k3 BP nI=>?_⟩;refine⟨_,rfl,gH ?_⟩;unfold Gr at hb;rw[bf]at hb;obtain⟨t0,iU⟩:∃t0,(Str.empty::ds.map (·.1)).getLast?=some t0:=⟨_,GZ (qH _ _)⟩;obtain⟨Nv,Bu⟩:=WC.mp iU;have wx:bZ ((Str.empty::ds.map (·.1)).map V.str) (-1)=some (.str t0):=by rw[Bu];exact Mt Nv t0
     obtain⟨ip,ebk,B3⟩:∃ip,gk=ip.flatMap da/\((t0=t/\ip=ds)\/(t0≠t/\∃st:Ls,st.length<=8/\ip=ds++[(t,st)])):=by
      rcases hb with⟨h1,h2⟩ | ⟨h1,st,h2,h3⟩
      . rw[iU]at h1;injection h1 with h1
        exact⟨ds,h2,.inl ⟨h1,rfl⟩⟩
      . rw[iU]at h1;refine⟨ds++[(t,st)],?_,.inr ⟨fun z=>h1 (by rw[z]),st,h2,rfl⟩⟩;rw[h3,vT,Wt,jB];rfl
     subst ebk;have kP:iS xs ps (Str.empty::ip.map (·.1)):=by
      rcases B3 with⟨_,rfl⟩ | ⟨_,st,_,rfl⟩
      . exact lp.tk
      . intro y hy;rw[cQ]at hy
        rcases aX.mp hy with z | z
        . exact lp.tk y (by rw[z];exact bB)
        . rcases bK.mp z with z | z
          . exact lp.tk y (bJ _ z)
          . rw[bj.mp z];exact hg.ok
     have dl':ip.length<=i+1:=by
      have:=lp.dl
      rcases B3 with⟨_,rfl⟩ | ⟨_,st,_,rfl⟩
      . omega
      . rw[bh,iW];omega
     have d8':∀e∈ip,e.2.length<=8:=by
      rcases B3 with⟨_,rfl⟩ | ⟨_,st,h8,rfl⟩
      . exact lp.d8
      . intro e he
        rcases bK.mp he with z | z
        . exact lp.d8 e z
        . rw[bj.mp z];exact h8
     have vA:Lp D x dx d b tx Pt R xs ps (Str.empty::ds.map (·.1)) bC ip (i+1) (ah B2 tx (.lst ((Str.empty::ds.map (·.1)).map V.str))):=qy.deed vR nI auA j8 up3 k3 BP kP dl' d8';have g3:gj T (ah B2 tx (.lst ((Str.empty::ds.map (·.1)).map V.str))) gv ch cs ow:=g2.same fun q o e=>by
      have n:q∉[tx,x,d,b,Pt]:=fun z=>by unfold msk at e;rw[aq z]at e;cases e
      have e':=bF q o e;simp only[aX,fe,ff,lC]at n;exact aB (k3 q o (by rw[jz n.1];exact e') n.2.1 n.2.2.1 n.2.2.2.1 n.2.2.2.2) n.1
     generalize ah B2 tx (.lst ((Str.empty::ds.map (·.1)).map V.str))=Nw at vA g3 ⊢;refine⟨_,rfl,?_⟩;dsimp only[fh,qC,vW];refine so.sho g3 fun t' bW bX bN H15 r1 r2 r3 hT EU=>?_;have et:t'=t:=j6.uniq so ⟨bW,bX,bN,r1,r2,r3,hT⟩ hg;subst et;have qz:=vA.same EU;refine⟨_,rfl,_,rfl,tx,_,_,_,rfl,rfl,ae.of qz.te,wx,rfl,_,rfl,?_⟩;refine bw (fun h=>?_) (fun h=>?_)
     . refine⟨_,rfl,.inl ⟨rfl,_,ae.of qz.te⟩,_,rfl,?_⟩;dsimp only[fh,qC,vW];refine so.sho (g3.same EU) fun t2 ch2 cs2 ow2 Vi r4 r5 r6 AU Nx=>?_;have et2:t2=t':=j6.uniq so ⟨ch2,cs2,ow2,r4,r5,r6,AU⟩ hg;subst et2;have Vj:=qz.same Nx;have dl:=lp.dl;refine⟨tx,_,_,rfl,rfl,Vj.te,bI (by rw[am,bO,am];omega),?_⟩
       rcases B3 with⟨ht,_⟩ | ⟨_,st,_,rfl⟩
       . rw[ht]at h;exact(M6 h).elim
       . refine⟨_,_,bC,ds++[(t2,st)],rfl,?_⟩;have:=Vj.put (ts':=Str.empty::(ds++[(t2,st)]).map (·.1)) (vR tx bB);rw[cQ]at this;simpa only[cQ,bL,yu,qC]using this
     . rcases B3 with⟨_,rfl⟩ | ⟨ht,_⟩
       . exact⟨_,_,bC,ip,rfl,qz⟩
       . exact absurd (show(!decide (V.str t'=V.str t0))=true by rw[cH (fun z=>ht (by injection z with z;exact z.symm))];rfl) h
   . rintro σ sj ⟨v6,v7,fs,ds,rfl,lp⟩;refine ba ?_;intro tT;refine i9 ?_
     intros
     have d5:=lp.dl;rw[am,hm]at d5;have ln:=M2 lp.d8;have bf:=M0 ds;have tok:iS xs ps (Str.empty::bQ (ds.flatMap da)):=by rw[bf];exact lp.tk
     obtain⟨zN,b1,b2⟩:=id lp.full.bo;refine⟨_,rfl,x,dx,d,b,_,zN,_,xs,ps,rfl,lp.full.ob,b1,b2,by omega,tok,fun l2 zs2 H12 T8 bT Vk xJ=>⟨l2,rfl,⟨_,ae.of Vk⟩,?_⟩⟩;rw[bf]at xJ;intro D' jW;refine Ko (σ0:=[none]) jW (ae.of Vk) (fun σ=>∃u,σ=[u]) (fun j ws _=>ws=((Str.empty::ds.map (·.1)).take j).map V.str) ⟨_,rfl⟩ rfl ?_ ?_
     . rintro j y ws σ B2 k hy ⟨u,rfl⟩ cO h3 rfl hk;obtain⟨t,ht,ch,cs,ow,fg,hT⟩:=eG xJ hy;refine⟨_,rfl,?_⟩;dsimp only[fh,qC,vW];refine hT.sho (fg.same (bF.trans h3)) fun Nw iL=>?_;refine hk _ _ _ ⟨_,rfl⟩ iL (bI (by rw[am,eh,bO,am];omega)) ?_;rw[pZ ht,cQ];rfl
     rintro ws B2 cO h3 rfl;rw[bq xJ,eT]at cO;have vA:=lp.same (bT.trans h3);have Vl:=lp.tk.txt;refine⟨_,rfl,.list ((Str.empty::ds.map (·.1)).map PySem.W.Dat.str),.list ((Str.empty::ds.map (·.1)).map PySem.W.Dat.str),.lst (ae.of cO) (M4 _),.lst (ae.of vA.te) (M4 _),Va Vl,Va Vl,fun bb ia=>⟨_,rfl,?_⟩⟩;rw[ia.mpr rfl];refine gH ?_;obtain⟨BP,MY,MZ⟩:=id vA.full.bo;refine⟨_,rfl,x,dx,d,b,_,BP,_,xs,ps,rfl,vA.full.ob,MY,MZ,by omega,tok,fun l4 zs4 Nw nl4 iL Vm Ar=>?_⟩;refine⟨.inl ⟨rfl,_,ae.of Vm⟩,l4,_,rfl,rfl,Vm,?_⟩;have qz:=vA.same (fw (o:=.lst []) iL nl4);generalize ah Nw l4 (.lst [])=H15 at qz ⊢;obtain⟨Nm,No,Np⟩:=id qz.full.bo;obtain⟨t0,iU⟩:∃t0,(Str.empty::ds.map (·.1)).getLast?=some t0:=⟨_,GZ (qH _ _)⟩;obtain⟨Nv,Bu⟩:=WC.mp iU;have wx:bZ ((Str.empty::ds.map (·.1)).map V.str) (-1)=some (.str t0):=by rw[Bu];exact Mt Nv t0
     obtain⟨qr,vn,vo,iV⟩:=lp.tk t0 (WD iU);refine⟨_,rfl,x,dx,d,b,_,Nm,_,xs,ps,t0,qr,vn,vo,rfl,qz.full.ob,No,Np,by omega,by rw[bf];exact iU,iV,fun v Vi Nx hv=>?_⟩;have Nq:gj T Vi v qr vn vo:=by
      have:=hv [] fun b z=>nomatch z
      rwa [EQ]at this
     dsimp only[fh,qC,vW];refine iV.sho Nq fun H17 s17=>?_;have B4:=qz.same (Nx.trans s17);obtain⟨pX,Nr,Nu⟩:=id B4.full.bo;refine⟨_,rfl,_,rfl,tx,_,_,_,rfl,rfl,ae.of B4.te,wx,rfl,_,rfl,?_⟩;refine bw (fun _=>?_) (fun h=>absurd (bG rfl) h);refine⟨_,rfl,x,dx,_,rfl,B4.full.ob,rfl,x,dx,d,b,_,pX,rfl,B4.full.ob,Nr,fun r H18 n18 Vn e18=>?_⟩;have Vo:=B4.same Vn;refine⟨_,rfl,_,rfl,tx,_,rfl,ae.of Vo.te,fun p2 H19 n19 Ny Vp=>?_⟩;rw[tU,C8 (by omega)]at Vp;have lp9:=Vo.same Ny;refine⟨r,p2,pX,ds,rfl,Ny _ _ e18,aK Nu fun _ _=>jV.same (Vn.trans Ny),lp.full.bt,Vp,fun H20 s20=>?_⟩;exact q H20 (lp9.tb.same s20)
end
end K64
set_option maxHeartbeats 8000000
namespace K64
open PySem L2
def Vq(K:Fg)(mg:Mv):Prop:=∃C uL AG,Txt K mg C/\Mk K C uL/\ak K "__init__" "Parcel.__init__" rH uL AG
theorem auQ{K:Fg}{h:Heap}{mg:Mv}{C f0:Addr}{vB vC:Oa}{vD:Array (Option Value)}{vE vF vG vH mv vI:Value}(X:K.In h)(G:h.Ns mainGlobals mg)
 (aC:PySem.W.nsIn K mainGlobals "Parcel"=some (some (.ref C))) (a0:PySem.W.findIn K (.ref C) "__init__"=some (some (.ref f0))) (i0:PySem.W.isFn K (.ref f0)=true)
 (l0:K.lookup f0=some ⟨vE,vB,.func (PySem.W.fnOf "__init__" "Parcel.__init__" (eD rH) (dg rH) (aE rH) .none vF vG vH vC mv vI),vD⟩) (c0:PySem.W.codeIn K mv "Parcel.__init__"=true) (k0:PySem.W.keepIn K (.ref f0)=true)
 (pg:PySem.W.plainGet K C Str.empty=true) (hd:PySem.W.hasDictIn K C=true) (po:PySem.W.plainOver K C=true) (sa:PySem.W.findIn K (.ref C) "__setattr__"=some (some (.builtin "object.__setattr__"))) (mk:PySem.W.makesIn K C=true) (kc:PySem.W.keepIn K (.ref C)=true) (n0:PySem.W.findIn K (.ref C) "name"=some none) (n1:PySem.W.findIn K (.ref C) "make"=some none) (n2:PySem.W.findIn K (.ref C) "rank"=some none) (n3:PySem.W.findIn K (.ref C) "files"=some none) (n4:PySem.W.findIn K (.ref C) "needs"=some none) (n5:PySem.W.findIn K (.ref C) "shuts"=some none) (n6:PySem.W.findIn K (.ref C) "offers"=some none):Vq K mg:=
 ⟨C,f0,_,⟨⟨pg,hd,po,sa⟩,n0,n1,n2,n3,n4,n5,n6,yx X G aC⟩,⟨mk,a0,i0,kc⟩,jI l0 c0 k0⟩
def Vr(K:Fg)(mg:Mv):Prop:=∃S vx BU jR pH,uH K mg S jR/\Mk K S vx/\ak K "__init__" "Shelf.__init__" ut vx BU/\ak K "parcel" "Shelf.parcel" py jR pH
theorem auR{K:Fg}{h:Heap}{mg:Mv}{S f0 f1:Addr}{vB vC:Oa}{vD:Array (Option Value)}{vE vF vG vH mv vI:Value}{Nz NA:Oa}{NC:Array (Option Value)}{ND NE NF jP B5 NG:Value}(X:K.In h)(G:h.Ns mainGlobals mg)
 (aC:PySem.W.nsIn K mainGlobals "Shelf"=some (some (.ref S))) (a0:PySem.W.findIn K (.ref S) "__init__"=some (some (.ref f0))) (i0:PySem.W.isFn K (.ref f0)=true)
 (l0:K.lookup f0=some ⟨vE,vB,.func (PySem.W.fnOf "__init__" "Shelf.__init__" (eD ut) (dg ut) (aE ut) .none vF vG vH vC mv vI),vD⟩) (c0:PySem.W.codeIn K mv "Shelf.__init__"=true) (k0:PySem.W.keepIn K (.ref f0)=true) (a1:PySem.W.findIn K (.ref S) "parcel"=some (some (.ref f1))) (i1:PySem.W.isFn K (.ref f1)=true)
 (l1:K.lookup f1=some ⟨ND,Nz,.func (PySem.W.fnOf "parcel" "Shelf.parcel" (eD py) (dg py) (aE py) .none NE NF jP NA B5 NG),NC⟩) (c1:PySem.W.codeIn K B5 "Shelf.parcel"=true) (k1:PySem.W.keepIn K (.ref f1)=true)
 (pg:PySem.W.plainGet K S Str.empty=true) (hd:PySem.W.hasDictIn K S=true) (po:PySem.W.plainOver K S=true) (sa:PySem.W.findIn K (.ref S) "__setattr__"=some (some (.builtin "object.__setattr__"))) (mk:PySem.W.makesIn K S=true) (kc:PySem.W.keepIn K (.ref S)=true) (n0:PySem.W.findIn K (.ref S) "shelved"=some none):Vr K mg:=
 ⟨S,f0,_,f1,_,⟨⟨pg,hd,po,sa⟩,n0,⟨a1,i1,k1⟩,yx X G aC⟩,⟨mk,a0,i0,kc⟩,jI l0 c0 k0,jI l1 c1 k1⟩
def Vs(K:Fg)(mg:Mv):Prop:=∃T ii kR,rO K mg T/\Mk K T ii/\ak K "__init__" "Stand.__init__" pA ii kR
theorem auS{K:Fg}{h:Heap}{mg:Mv}{T f0:Addr}{vB vC:Oa}{vD:Array (Option Value)}{vE vF vG vH mv vI:Value}(X:K.In h)(G:h.Ns mainGlobals mg)
 (aC:PySem.W.nsIn K mainGlobals "Stand"=some (some (.ref T))) (a0:PySem.W.findIn K (.ref T) "__init__"=some (some (.ref f0))) (i0:PySem.W.isFn K (.ref f0)=true)
 (l0:K.lookup f0=some ⟨vE,vB,.func (PySem.W.fnOf "__init__" "Stand.__init__" (eD pA) (dg pA) (aE pA) .none vF vG vH vC mv vI),vD⟩) (c0:PySem.W.codeIn K mv "Stand.__init__"=true) (k0:PySem.W.keepIn K (.ref f0)=true)
 (pg:PySem.W.plainGet K T Str.empty=true) (hd:PySem.W.hasDictIn K T=true) (po:PySem.W.plainOver K T=true) (sa:PySem.W.findIn K (.ref T) "__setattr__"=some (some (.builtin "object.__setattr__"))) (mk:PySem.W.makesIn K T=true) (kc:PySem.W.keepIn K (.ref T)=true) (n0:PySem.W.findIn K (.ref T) "chosen"=some none) (n1:PySem.W.findIn K (.ref T) "choices"=some none) (n2:PySem.W.findIn K (.ref T) "own"=some none):Vs K mg:=
 ⟨T,f0,_,⟨⟨pg,hd,po,sa⟩,n0,n1,n2,yx X G aC⟩,⟨mk,a0,i0,kc⟩,jI l0 c0 k0⟩
def Vt(K:Fg)(mg:Mv):Prop:=∃D vy BV pO AQ gW mo ny xx pP AR jq qi pQ BK gx kX,im K mg D pO gW ny pP jq pQ gx/\Mk K D vy/\ak K "__init__" "Disk.__init__" uu vy BV/\ak K "files_now" "Disk.files_now" uv pO AQ/\ak K "book_now" "Disk.book_now" pB gW mo/\ak K "put" "Disk.put" uw ny xx/\ak K "erase" "Disk.erase" ux pP AR/\ak K "note" "Disk.note" rJ jq qi/\ak K "allow" "Disk.allow" uy pQ BK/\ak K "take_write" "Disk.take_write" pC gx kX
theorem auT{K:Fg}{h:Heap}{mg:Mv}{D f0 f1 f2 f3 f4 f5 f6 f7:Addr}{vB vC:Oa}{vD:Array (Option Value)}{vE vF vG vH mv vI:Value}{Nz NA:Oa}{NC:Array (Option Value)}{ND NE NF jP B5 NG:Value}{od2 an2:Oa}{zI:Array (Option Value)}{oc2 kV2 dc2 ma Vu ct2:Value}{A7 an3:Oa}{sl3:Array (Option Value)}{oc3 kV3 dc3 jQ Vv ct3:Value}{od4 an4:Oa}{sl4:Array (Option Value)}{oc4 kV4 dc4 pm4 Vw ct4:Value}{od5 an5:Oa}{sl5:Array (Option Value)}{oc5 kV5 dc5 pm5 Vx ct5:Value}{od6 an6:Oa}{sl6:Array (Option Value)}{oc6 kV6 dc6 pm6 Vy ct6:Value}{od7 an7:Oa}{sl7:Array (Option Value)}{oc7 kV7 dc7 pm7 Vz ct7:Value}(X:K.In h)(G:h.Ns mainGlobals mg)
 (aC:PySem.W.nsIn K mainGlobals "Disk"=some (some (.ref D))) (a0:PySem.W.findIn K (.ref D) "__init__"=some (some (.ref f0))) (i0:PySem.W.isFn K (.ref f0)=true)
 (l0:K.lookup f0=some ⟨vE,vB,.func (PySem.W.fnOf "__init__" "Disk.__init__" (eD uu) (dg uu) (aE uu) .none vF vG vH vC mv vI),vD⟩) (c0:PySem.W.codeIn K mv "Disk.__init__"=true) (k0:PySem.W.keepIn K (.ref f0)=true) (a1:PySem.W.findIn K (.ref D) "files_now"=some (some (.ref f1))) (i1:PySem.W.isFn K (.ref f1)=true)
 (l1:K.lookup f1=some ⟨ND,Nz,.func (PySem.W.fnOf "files_now" "Disk.files_now" (eD uv) (dg uv) (aE uv) .none NE NF jP NA B5 NG),NC⟩) (c1:PySem.W.codeIn K B5 "Disk.files_now"=true) (k1:PySem.W.keepIn K (.ref f1)=true) (a2:PySem.W.findIn K (.ref D) "book_now"=some (some (.ref f2))) (i2:PySem.W.isFn K (.ref f2)=true)
 (l2:K.lookup f2=some ⟨oc2,od2,.func (PySem.W.fnOf "book_now" "Disk.book_now" (eD pB) (dg pB) (aE pB) .none kV2 dc2 ma an2 Vu ct2),zI⟩) (c2:PySem.W.codeIn K Vu "Disk.book_now"=true) (k2:PySem.W.keepIn K (.ref f2)=true) (a3:PySem.W.findIn K (.ref D) "put"=some (some (.ref f3))) (i3:PySem.W.isFn K (.ref f3)=true)
 (l3:K.lookup f3=some ⟨oc3,A7,.func (PySem.W.fnOf "put" "Disk.put" (eD uw) (dg uw) (aE uw) .none kV3 dc3 jQ an3 Vv ct3),sl3⟩) (c3:PySem.W.codeIn K Vv "Disk.put"=true) (k3:PySem.W.keepIn K (.ref f3)=true) (a4:PySem.W.findIn K (.ref D) "erase"=some (some (.ref f4))) (i4:PySem.W.isFn K (.ref f4)=true)
 (l4:K.lookup f4=some ⟨oc4,od4,.func (PySem.W.fnOf "erase" "Disk.erase" (eD ux) (dg ux) (aE ux) .none kV4 dc4 pm4 an4 Vw ct4),sl4⟩) (c4:PySem.W.codeIn K Vw "Disk.erase"=true) (k4:PySem.W.keepIn K (.ref f4)=true) (a5:PySem.W.findIn K (.ref D) "note"=some (some (.ref f5))) (i5:PySem.W.isFn K (.ref f5)=true)
 (l5:K.lookup f5=some ⟨oc5,od5,.func (PySem.W.fnOf "note" "Disk.note" (eD rJ) (dg rJ) (aE rJ) .none kV5 dc5 pm5 an5 Vx ct5),sl5⟩) (c5:PySem.W.codeIn K Vx "Disk.note"=true) (k5:PySem.W.keepIn K (.ref f5)=true) (a6:PySem.W.findIn K (.ref D) "allow"=some (some (.ref f6))) (i6:PySem.W.isFn K (.ref f6)=true)
 (l6:K.lookup f6=some ⟨oc6,od6,.func (PySem.W.fnOf "allow" "Disk.allow" (eD uy) (dg uy) (aE uy) .none kV6 dc6 pm6 an6 Vy ct6),sl6⟩) (c6:PySem.W.codeIn K Vy "Disk.allow"=true) (k6:PySem.W.keepIn K (.ref f6)=true) (a7:PySem.W.findIn K (.ref D) "take_write"=some (some (.ref f7))) (i7:PySem.W.isFn K (.ref f7)=true)
 (l7:K.lookup f7=some ⟨oc7,od7,.func (PySem.W.fnOf "take_write" "Disk.take_write" (eD pC) (dg pC) (aE pC) .none kV7 dc7 pm7 an7 Vz ct7),sl7⟩) (c7:PySem.W.codeIn K Vz "Disk.take_write"=true) (k7:PySem.W.keepIn K (.ref f7)=true)
 (pg:PySem.W.plainGet K D Str.empty=true) (hd:PySem.W.hasDictIn K D=true) (po:PySem.W.plainOver K D=true) (sa:PySem.W.findIn K (.ref D) "__setattr__"=some (some (.builtin "object.__setattr__"))) (mk:PySem.W.makesIn K D=true) (kc:PySem.W.keepIn K (.ref D)=true) (n0:PySem.W.findIn K (.ref D) "files"=some none) (n1:PySem.W.findIn K (.ref D) "book"=some none) (n2:PySem.W.findIn K (.ref D) "left"=some none):Vt K mg:=
 ⟨D,f0,_,f1,_,f2,_,f3,_,f4,_,f5,_,f6,_,f7,_,⟨⟨pg,hd,po,sa⟩,n0,n1,n2,⟨a1,i1,k1⟩,⟨a2,i2,k2⟩,⟨a3,i3,k3⟩,⟨a4,i4,k4⟩,⟨a5,i5,k5⟩,⟨a6,i6,k6⟩,⟨a7,i7,k7⟩,yx X G aC⟩,⟨mk,a0,i0,kc⟩,jI l0 c0 k0,jI l1 c1 k1,jI l2 c2 k2,jI l3 c3 k3,jI l4 c4 k4,jI l5 c5 k5,jI l6 c6 k6,jI l7 c7 k7⟩
structure avC(K:Fg)(mg:Mv)(Fa:Addr):Prop where
 xc:Dl K Fa
 mF:mg "Fallen"=some (.ref Fa)
 ex:PySem.W.exmOne K (.ref Fa) (.ref Fa)=some true
def VA(K:Fg)(mg:Mv):Prop:=∃Fa,avC K mg Fa
theorem avD{K:Fg}{h:Heap}{mg:Mv}{Fa:Addr}(X:K.In h)(G:h.Ns mainGlobals mg)(nFa:PySem.W.nsIn K mainGlobals "Fallen"=some (some (.ref Fa)))(exc:PySem.W.excIn K Fa [.type "ValueError",.type "Exception",.type "BaseException",.type "object"] "ValueError.__new__"=true)(ga:PySem.W.findIn K (.ref Fa) "__getattribute__"=some (some (.builtin "BaseException.__getattribute__")))(gh:PySem.W.findIn K (.ref Fa) "__getattr__"=some none)(cls:PySem.W.findIn K (.ref Fa) "__class__"=some (some (.builtin "object.__class__")))(spc:PySem.W.specialIn K (.builtin "object.__class__") "__get__"=some (some (.builtin "getset_descriptor.__get__")))(tak:PySem.W.takesIn K (.builtin "object.__class__")=some true)(mro:PySem.W.mroIn K Fa (.type "object")=some true)(mrb:PySem.W.mroIn K Fa (.type "BaseException")=some true)(ex:PySem.W.exmOne K (.ref Fa) (.ref Fa)=some true):VA K mg:=
 ⟨Fa,⟨exc,ga,gh,cls,spc,tak,mro,mrb⟩,yx X G nFa,ex⟩
def VB(K:Fg)(mg:Mv)(x:Str)(st:Stmt)(Pt:Addr):Prop:=∃f c fd,mg x=some (.ref f)/\xu K x x st f c fd/\PySem.W.codeHdIn K c Pt=true/\K.lookup Pt=none
theorem avF{K:Fg}{h:Heap}{mg:Mv}{x:Str}{st:Stmt}{f c Pt:Addr}{od an:Oa}{sl:Array (Option Value)}{oc kV dc pm ct:Value}(X:K.In h)(G:h.Ns mainGlobals mg)
 (a:PySem.W.nsIn K mainGlobals x=some (some (.ref f))) (l:K.lookup f=some ⟨oc,od,.func (PySem.W.fnOf x x (eD st) (dg st) (aE st) .none kV dc pm an (.ref c) ct),sl⟩) (cc:PySem.W.codeIn K (.ref c) x=true) (k:PySem.W.keepIn K (.ref f)=true) (hd:PySem.W.codeHdIn K c Pt=true) (hn:K.lookup Pt=none) :
 VB K mg x st Pt:=⟨f,c,_,yx X G a,⟨⟨_,_,_,_,_,_,_,_,rfl,l,cc⟩,k⟩,hd,hn⟩
theorem avG{K:Fg}{h:Heap}{mg:Mv}(X:K.In h)(G:h.Ns mainGlobals mg)(z0:PySem.W.nsIn K mainGlobals "range"=some none)(z1:PySem.W.nsIn K mainGlobals "len"=some none)(z2:PySem.W.nsIn K mainGlobals "min"=some none)(z3:PySem.W.nsIn K mainGlobals "list"=some none)(z4:PySem.W.nsIn K mainGlobals "dict"=some none)(z5:PySem.W.nsIn K mainGlobals "set"=some none)(z6:PySem.W.nsIn K mainGlobals "sorted"=some none)(z7:PySem.W.nsIn K mainGlobals "isinstance"=some none)(z8:PySem.W.nsIn K mainGlobals "str"=some none)(z9:PySem.W.nsIn K mainGlobals "tuple"=some none)(z10:PySem.W.nsIn K mainGlobals "all"=some none)(z11:PySem.W.nsIn K mainGlobals "enumerate"=some none)(z12:PySem.W.nsIn K mainGlobals "int"=some none):bV mg:=
 ⟨lF X G z0,lF X G z1,lF X G z2,lF X G z3,lF X G z4,lF X G z5,lF X G z6,lF X G z7,lF X G z8,lF X G z9,lF X G z10,lF X G z11,lF X G z12⟩
theorem avK{P:Program}{w:World}{K:Fg}{mg:Mv}{fa Pt:Addr}(jl:mg "law"=some (.ref fa))(B:bV mg)(CC:Vq K mg)(CS:Vr K mg)(CT:Vs K mg)(CD:Vt K mg)(CR:VA K mg)(DN:VB K mg "name_behind" wL Pt)(avL:bA K mg "_law_book" EB)(avM:bA K mg "_law_cell_at" Af)(avN:bA K mg "_law_chosen" Ey)(avO:bA K mg "_law_deed" EA)(avP:bA K mg "_law_line" Ew)(avQ:bA K mg "_law_lines" Ag)(avR:bA K mg "_law_make" Ex)(avS:bA K mg "_law_mixed" rL)(avT:bA K mg "_law_name" Ev)(avU:bA K mg "_law_parcels_apart" wQ)(avV:bA K mg "_law_path" Ah)(avW:bA K mg "_law_stand" Ez)(avX:bA K mg "alike_ahead" DY)(avY:bA K mg "are_apart" D0)(avZ:bA K mg "block_of" DX)(av0:bA K mg "brought_by" Eh)(av1:bA K mg "change_rows" Ek)(av2:bA K mg "changes_copied" Eg)(av3:bA K mg "clash_faults" Ef)(av4:bA K mg "come_up" Es)(av5:bA K mg "commons_of" Ej)(av6:bA K mg "do_deed" Et)(av7:bA K mg "faults_of" Eb)(av8:bA K mg "files_of_change" Ei)(av9:bA K mg "finish" Ae)(awa:bA K mg "first_group" En)(awb:bA K mg "formers_of" Ep)(awc:bA K mg "groups_to" Em)(awd:bA K mg "is_ahead" zY)(awe:bA K mg "is_sound" Ec)(awf:bA K mg "is_up" wO)(awg:bA K mg "keys_unlike" uz)(awh:bA K mg "law" wS)(awi:bA K mg "make_noted" El)(awj:bA K mg "make_shown" Ea)(awk:bA K mg "need_faults" Ed)(awl:bA K mg "parcels_of" zZ)(awm:bA K mg "paths_of" Aa)(awn:bA K mg "put_together" D8)(awo:bA K mg "rows_of" D9)(awp:bA K mg "set_behind" wM)(awq:bA K mg "shut_faults" Ee)(awr:bA K mg "stand_noted" Ac)(aws:bA K mg "stand_on" wP)(awt:bA K mg "stand_shown" Ab)(awu:bA K mg "steps_to" Eu)(awv:bA K mg "takes_none" DZ)(aww:bA K mg "texts_begun" Ad)(awx:bA K mg "tree_of" rK)(awy:bA K mg "turn_to" wN)(awz:bA K mg "with_both" D3)(awA:bA K mg "with_one_more" Eo) :
 ∃(fd:Fy) (c:Addr),(∀(s:Shared) (v:Value),BindsTo s fd ⟨[v],[]⟩ [("_law_script",v)])/\PySem.W.codeHdIn K c Pt=true/\K.lookup Pt=none/\∀base:Heap,K.In base->base.Ns mainGlobals mg->base.BuiltinsAt mg Pt->aj P w K mg base al 10 fa fd ["_law_script"] (Gy K Pt):=by
 obtain⟨C,uL,AG,TC,MC,E6⟩:=CC;obtain⟨S,vx,BU,jR,pH,US,MS,GG,pJ⟩:=CS;obtain⟨T,ii,kR,UT,MT,ni⟩:=CT;obtain⟨D,vy,BV,pO,AQ,gW,mo,ny,xx,pP,AR,jq,qi,pQ,BK,gx,kX,UD,MD,GH,Fo,lj,Fp,Fq,vh,Gv,nz⟩:=CD;obtain⟨Fa,R⟩:=CR;obtain⟨A2,cN,FS,LR,A6,VC,hPt⟩:=DN;obtain⟨GC,Nb,Nj,B1,_⟩:=avL;obtain⟨rY,xg,r9,kW,_⟩:=avM;obtain⟨Gp,MN,MO,BH,_⟩:=avN;obtain⟨BS,GF,Ni,B0,_⟩:=avO;obtain⟨EH,JC,JD,Al,_⟩:=avP;obtain⟨pL,uM,uN,nu,_⟩:=avQ;obtain⟨E5,Ks,Kt,AH,_⟩:=avR;obtain⟨fU,iK,dQ,cG,_⟩:=avS;obtain⟨Gz,M7,Nc,BW,_⟩:=avT;obtain⟨GA,M8,Nd,BX,_⟩:=avU;obtain⟨rZ,xh,xi,nj,_⟩:=avV;obtain⟨BR,GD,Ng,BZ,_⟩:=avW;obtain⟨Fx,Lr,Fz,xz,_⟩:=avX;obtain⟨FG,LB,LD,AW,_⟩:=avY;obtain⟨FF,LA,FI,xD,_⟩:=avZ;obtain⟨FP,LL,LN,A3,_⟩:=av0;obtain⟨EN,JT,JV,Au,_⟩:=av1;obtain⟨EK,JL,JM,Ao,_⟩:=av2;obtain⟨F2,L1,L6,Bf,_⟩:=av3;obtain⟨BJ,Gu,MW,BM,_⟩:=av4;obtain⟨FQ,LM,LO,A4,_⟩:=av5;obtain⟨BI,Gs,MU,BL,_⟩:=av6;obtain⟨F3,L8,L9,Bh,_⟩:=av7;obtain⟨A1,FR,LP,A5,_⟩:=av8;obtain⟨qo,vm,xY,qp,_⟩:=av9;obtain⟨F8,Mn,Mo,Bq,_⟩:=awa;obtain⟨GB,M9,BY,vz,_⟩:=awb;obtain⟨Bx,Gf,MB,By,_⟩:=awc;obtain⟨su,xA,uV,mi,_⟩:=awd;obtain⟨Bl,F7,Mj,Bn,_⟩:=awe;obtain⟨j9,nX,nY,jy,_⟩:=awf;obtain⟨sq,xy,uU,mh,_⟩:=awg;obtain⟨aD2,aD3,awC,VD,_⟩:=awh;obtain⟨ES,J2,J4,Ay,_⟩:=awi;obtain⟨EM,JS,JU,As,_⟩:=awj;obtain⟨F0,LZ,L3,Bd,_⟩:=awk;obtain⟨sy,xG,xH,nG,_⟩:=awl;obtain⟨vb,Bc,xL,sK,_⟩:=awm;obtain⟨FN,LG,LH,AY,_⟩:=awn;obtain⟨ER,JZ,J3,Ax,_⟩:=awo;obtain⟨k9,p9,qa,iQ,_⟩:=awp;obtain⟨F1,L0,L4,Be,_⟩:=awq;obtain⟨qe,vf,xP,qg,_⟩:=awr;obtain⟨j7,nK,nQ,jv,_⟩:=aws;obtain⟨qm,vk,mq,jw,_⟩:=awt;obtain⟨BC,Gk,MG,BD,_⟩:=awu;obtain⟨FA,Lx,FC,xB,_⟩:=awv;obtain⟨qb,ve,xN,qf,_⟩:=aww;obtain⟨jZ,nJ,qk,j0,_⟩:=awx;obtain⟨qh,vg,xS,qj,_⟩:=awy;obtain⟨FH,LC,FJ,xE,_⟩:=awz;obtain⟨F6,Mh,Mi,Bm,_⟩:=awA;have e:=jl.symm.trans awC;cases e;obtain⟨oc,od,kV,doc,pm,an,ay,ct,iB,rfl,lk,g9⟩:=id VD.ex;refine⟨PySem.W.fnOf "law" "law" (eD wS) (dg wS) (aE wS) .none kV doc pm an ay ct,cN,fun s v=>.of_eq rfl,VC,hPt,fun base _ _ hB=>?_⟩;have pR:aj P w K mg base (cE P w) 1 gx kX ["self"] (AN D Fa):=ao4 nz UD R.xc R.mF;have Li:aj P w K mg base (cE P w) 2 ny xx ["self","path","lines"] (K4 K D Fa):=ao8 Fp UD B nz pR;have xT:aj P w K mg base (cE P w) 3 qh vg ["disk","tree"] (Gb D Fa):=asf (apA qj B UD Fo Fp Li Fq (apa Fq UD nz pR) mh uU);have vi:aj P w K mg base (cE P w) 2 jq qi ["self","kind","text"] (Gc D Fa):=asg (apc vh UD nz pR);have xZ:aj P w K mg base (cE P w) 4 qo vm ["disk","tree"] (Gd D Fa):=aso qp UD qj xS xT vh (vi.mono (by decide));have pE:aj P w K mg base al 2 ii kR ["self","chosen","choices","own"] (wZ T):=amC ni UT B Ao JM;have uO:aj P w K mg base al 2 pL uM ["_law_number"] EG:=alS nu B cG dQ Al JD;have xQ:aj P w K mg base al 4 qe vf ["text"] (Aw T):=anr qg B UT MT Ax J3 Ay J4 ni pE;have mr:aj P w K mg base al 2 qm vk ["stand"] (xb T):=amK jw UT B As JU Au JV;have xO:aj P w K mg base al 4 qb ve ["disk"] (Ga D):=(arX qf B UD lj).mono (by decide);have nU:aj P w K mg base al 5 j7 nK ["disk"] (Bt D T):=ar0 jv qf xN xO qg xP xQ;have LQ:aj P w K mg base al 4 A1 FR ["path","change","brought"] LF:=aqf A5 B AY LH (ap8 AY B xD FI AW LD mi uV xE FJ (apY xD B xz Fz) (ap3 AW mi uV xB FC));have ql:aj P w K mg base al 5 jZ nJ ["shelf","stand"] (A0 C S T Pt):=aqy j0 B TC US UT pJ nG xH A3 LN A4 LO A5 LP LQ A6.fn LR (aoX A6 B TC VC hB);have Ml:aj P w K mg base al 4 Bl F7 ["shelf","chosen"] (L7 C S):=are Bn B Bh L9 (aq5 Bh B TC US pJ nG xH Bd L3 Be L4 Bf L6 sK xL);have ME:aj P w K mg base al 6 Bx Gf ["shelf","now","goal"] (Mm C S):=arA By B Bq Mo (arw Bq B Bm Mi iQ qa Bn Mj Ml) iQ qa mh uU;have MH:aj P w K mg base al 7 BC Gk ["shelf","now","goal"] (MA C S T Pt):=asy BD UT MT ni (pE.mono (by decide)) By MB ME iQ qa ((Mf iQ B).mono (by decide)) j0 qk (ql.mono (by decide));have MV:aj P w K mg base (cE P w) 8 BI Gs ["shelf","disk","goal"] (MF C S T D Fa Pt):=asP BL UD UT jv nQ (nU.mono (by decide)) jw mq (mr.mono (by decide)) BD MG MH j0 qk (ql.mono (by decide)) qj xS (xT.mono (by decide)) vh (vi.mono (by decide)) qp xY (xZ.mono (by decide));have nZ:aj P w K mg base al 2 j9 nX ["disk"] (xM D):=arV jy B UD lj;have MX:aj P w K mg base (cE P w) 8 BJ Gu ["shelf","disk"] (ML C S D Pt):=atf BM jy nY (nZ.mono (by decide)) jv nQ (nU.mono (by decide)) j0 qk (ql.mono (by decide)) qp xY (xZ.mono (by decide));have Nh:aj P w K mg base al 4 BR GD ["_law_parcels","_law_names","_law_cell"] (MM C T):=atm BZ B UT MT ni pE BH MO ((aon BH B TC cG dQ).mono (by decide)) cG dQ ((Aj cG).mono (by decide)) nu uN (uO.mono (by decide)) nj xi ((RO nj).mono (by decide));have Nk:aj P w K mg base al 9 BS GF ["_law_shelf","_law_disk","_law_goal","_law_cell"] (MQ C S T D Pt):=atE B0 B UD R.mF R.ex Gv ((apf Gv UD).mono (by decide)) BL MU MV jy nY (nZ.mono (by decide)) BM MW MX;exact aud VD B US UD MS MD GG ((anQ GG TC US).mono (by decide)) GH ((ao6 GH UD).mono (by decide)) lj ((K7 lj UD B).mono (by decide)) kW r9 ((RJ kW B).mono (by decide)) BW Nc ((alO BW B).mono (by decide)) BX Nd ((aoy BX B TC MC E6 cG dQ kW r9 nj xi nu uN uO AH Kt).mono (by decide)) jy nY (nZ.mono (by decide)) jw mq (mr.mono (by decide)) jv nQ (nU.mono (by decide)) vz BY ((ar6 vz qf xN xO qg xP xQ).mono (by decide)) BZ Ng (Nh.mono (by decide)) cG dQ ((Aj cG).mono (by decide)) B0 Ni Nk B1 Nj ((atW B1 B).mono (by decide))
theorem awD{l:PySem.W.OpenLaw}{q:Program}{loose:Ls}{XP:(Mv)->Heap->Prop}{YP:World->Heap->Prop}{d:DefRec}{K:Params->Fg}{Pt:Addr}(hn:l.most=some 63)(za:d.params.defaults=[])
 (hY:∀(w:World) (h:Heap),YP w h->(K w.params).In h/\h.get? Pt=some (PySem.W.tabObj #[]))
 (F:∀(w:World) (mg:Mv) (fa:Addr) (h:Heap),(K w.params).In h->h.Ns mainGlobals mg->mg d.name=some (.ref fa) ->
  ∃(fd:Fy) (c:Addr),(∀(s:Shared) (u:Value),BindsTo s fd ⟨[u],[]⟩ [("_law_script",u)])/\PySem.W.codeHdIn (K w.params) c Pt=true/\(K w.params).lookup Pt=none/\∀base:Heap,(K w.params).In base->base.Ns mainGlobals mg->base.BuiltinsAt mg Pt->aj l.prog w (K w.params) mg base al 10 fa fd ["_law_script"] (Gy (K w.params) Pt)) :
 PySem.W.WalkO q loose XP YP l.row.toRowW d [] (fun f vs=>PySem.call f vs):=
 L2.ale (n:=63) (k:=10) (x:="_law_script") (qual:=cU) (lpos:=cY) (Pt:=Pt) (CX:=fun _=>al) (sp:=fun w=>Gy (K w.params) Pt) hn (by decide) za ⟨rfl,by decide,by decide,rfl⟩ hY F (fun _ _ a ns hl hT hS=>⟨a,ns,rfl,hS,hl,.inl hT,fun _ t=>⟨rfl,t⟩⟩) fun _ _ _ _ _ z=>z
end K64
open PySem PySem.W PyProof.Rows
namespace PySem.W.Fast
def tw8510819829815446169:=0
def tw15737765738612810542:=0
def tw11186776045418089135:=0
def tw1582903206282527782:=0
def tw12438544789904268462:=0
def tw11395786720061649962:=0
def tw7979464040998602507:=0
def tw8624341224923742229:=0
def tw10785549544231295121:=0
def tw4497625163372749885:=0
def tw18098532779514611595:=0
def tw14734861039008807965:=0
def tw14894986951076696308:=0
def tw470478612416398114:=0
def tw3456719943084692232:=0
def tw3506674111989999062:=0
def tw369206164244781412:=0
def tw6793020966869997346:=0
def tw12809893367629164403:=0
def tw10562562507451029113:=0
def tw16929450342473412398:=0
def tw16581291043529849024:=0
def tw6345127525012031672:=0
def tw9410295901166215523:=0
def tw18318967818670658487:=0
def tw12536187565762258256:=0
def tw5149076451583733382:=0
def tw4825944770664896445:=0
def tw11075321805448121744:=0
def tw11223969668094773358:=0
def tw14845353532951274618:=0
def tw11178374382658838630:=0
def tw4362021772662051231:=0
def tw2285559957240033394:=0
def tw13464236042406223056:=0
def tw16684325696766116667:=0
def tw4000904558019564621:=0
def tw2237160221515162501:=0
def tw4806005886233701181:=0
def tw9967933964922741932:=0
def tw584373114445874867:=0
def tw14225603839289209262:=0
def tw4296396033247963898:=0
def tw6044747284945459709:=0
def tw7292604039846204284:=0
def tw15464569122150038850:=0
def tw8106601162329483001:=0
def tw11186928078460350994:=0
def tw1293042554385921424:=0
def tw4264138813337428566:=0
def tw7561613584158983979:=0
def tw17438487412480912015:=0
def tw9106736957502955147:=0
def tw18224810737414270494:=0
def tw12466385957622263852:=0
def tw15426338646458518697:=0
def tw8440741263165473415:=0
def tw15736079972365128729:=0
def tw11213987889289761684:=0
def tw4966499590143511208:=0
def tw7265091057594268354:=0
def tw6486379360109303284:=0
def tw8385455983797699807:=0
def tw4780914231858021504:=0
def tw9632280437562842547:=0
def tw26085384104881319:=0
def tw9575862639551988283:=0
def tw15234971642807629629:=0
def tw212289313194501910:=0
def tw10355608463082678281:=0
def tw12986166271968778929:=0
def tw2062623133865009372:=0
def tw3193202182726702028:=0
def tw10421368279876913847:=0
def tw5525760695585826740:=0
def tw1969157757738588875:=0
def tw11359103192570673971:=0
def tw13397759538831634024:=0
def tw1604753364938389809:=0
def tw17521243339935534417:=0
def tw7188629526245748931:=0
def tw5218376137129865403:=0
def tw15478439227390432768:=0
def tw11263557732171256342:=0
def tw9202297712960166857:=0
def tw13647742935426001199:=0
def tw11490026124745667861:=0
def tw14955116251977335587:=0
def tw1215898918895101390:=0
def tw4838777603458977693:=0
def tw17013639959022271767:=0
def tw7862864401763765121:=0
def tw8153665096781436256:=0
def tw7141326441675070508:=0
def tw8383061744259218624:=0
def tw8237386041217162088:=0
def tw12952859608580260432:=0
def tw1391533374354265582:=0
def tw17391863110799603519:=0
def tw591829122610141757:=0
def tw14110520046919321945:=0
def tw8338263289542186831:=0
def tw11351841939755999975:=0
def tw4998226298350779153:=0
def tw6136301438810333636:=0
def tw8158832046178151483:=0
def tw6957173484093176245:=0
def tw18235150453452780115:=0
def tw8870954476499400397:=0
def tw9725102242306269810:=0
def tw600800435218968573:=0
def tw13155962008187269593:=0
def tw8079635993141117151:=0
def tw7635346608992508039:=0
def tw12506338077158484293:=0
def tw7351764133324273586:=0
def tw14610357063607997494:=0
def tw10525294182107025906:=0
def tw1518899213168479002:=0
def tw10363706389152135733:=0
def tw6112270230048552072:=0
def tw6292331719551960984:=0
def tw698895629014601313:=0
def tw7066181917393446883:=0
def tw5186238437055316113:=0
def tw9915084471305353737:=0
def tw3243899314847058231:=0
def tw15253291799809753316:=0
def tw9874937925367417075:=0
def tw8701061507726791725:=0
def tw14011560263376116685:=0
def tw8299929478830849179:=0
def tw9757604187391818963:=0
def tw15649112506782263674:=0
def tw17245570187521056690:=0
def tw14177975654590037685:=0
def tw242605185356258607:=0
def tw4513757644324677177:=0
def tw12567243099478127775:=0
def tw13286942846080378183:=0
def tw16905633140289296549:=0
end PySem.W.Fast
def PySem.W.Fast.tw18363840590556106276:PySem.Program:=PySem.Challenge.pw_parcelmend_k64_former_stands
set_option maxRecDepth 100000 in
set_option maxHeartbeats 0 in
theorem PySem.Challenge.cw_parcelmend_k64_former_stands_holds : PySem.Challenge.rw_parcelmend_k64_former_stands.Holds := by
 w_on;o_law;k_head;(case hw=>w_witness2)
 k_fill
 refine K64.awD (l:=PySem.Challenge.rw_parcelmend_k64_former_stands) rfl rfl (fun w h Y=>⟨PySem.W.km_in_of Y,PySem.W.km_tabs_of Y _ bB⟩) ?F
 case F=>
  intro w mg fa h KX G zc
  refine' K64.avK zc (K64.avG KX G ?awE ?awF ?awG ?awH ?awI ?awJ ?awK ?awL ?awM ?awN ?awO ?awP ?awQ) (K64.auQ KX G ?awR ?awS ?awT ?awU ?awV ?awW ?awX ?awY ?awZ ?aw0 ?aw1 ?aw2 ?aw3 ?aw4 ?aw5 ?aw6 ?aw7 ?aw8 ?aw9) (K64.auR KX G ?axa ?axb ?axc ?axd ?axe ?axf ?axg ?axh ?axi ?axj ?axk ?axl ?axm ?axn ?axo ?axp ?axq ?axr) (K64.auS KX G ?axs ?axt ?axu ?axv ?axw ?axx ?axy ?axz ?axA ?axB ?axC ?axD ?axE ?axF ?axG) (K64.auT KX G ?axH ?axI ?axJ ?axK ?axL ?axM ?axN ?axO ?axP ?axQ ?axR ?axS ?axT ?axU ?axV ?axW ?axX ?axY ?axZ ?ax0 ?ax1 ?ax2 ?ax3 ?ax4 ?ax5 ?ax6 ?ax7 ?ax8 ?ax9 ?aya ?ayb ?ayc ?ayd ?aye ?ayf ?ayg ?ayh ?ayi ?ayj ?ayk ?ayl ?aym ?ayn ?ayo ?ayp ?ayq ?ayr ?ays ?ayt ?ayu) (K64.avD KX G ?ayv ?ayw ?ayx ?ayy ?ayz ?ayA ?ayB ?ayC ?ayD ?ayE) (K64.avF KX G ?ayF ?ayG ?ayH ?ayI ?ayJ ?ayK)
   (L2.bD KX G ?ayL ?ayM ?ayN ?ayO)
   (L2.bD KX G ?ayP ?ayQ ?ayR ?ayS)
   (L2.bD KX G ?ayT ?ayU ?ayV ?ayW)
   (L2.bD KX G ?ayX ?ayY ?ayZ ?ay0)
   (L2.bD KX G ?ay1 ?ay2 ?ay3 ?ay4)
   (L2.bD KX G ?ay5 ?ay6 ?ay7 ?ay8)
   (L2.bD KX G ?ay9 ?aza ?azb ?azc)
   (L2.bD KX G ?azd ?aze ?azf ?azg)
   (L2.bD KX G ?azh ?azi ?azj ?azk)
   (L2.bD KX G ?azl ?azm ?azn ?azo)
   (L2.bD KX G ?azp ?azq ?azr ?azs)
   (L2.bD KX G ?azt ?azu ?azv ?azw)
   (L2.bD KX G ?azx ?azy ?azz ?azA)
   (L2.bD KX G ?azB ?azC ?azD ?azE)
   (L2.bD KX G ?azF ?azG ?azH ?azI)
   (L2.bD KX G ?azJ ?azK ?azL ?azM)
   (L2.bD KX G ?azN ?azO ?azP ?azQ)
   (L2.bD KX G ?azR ?azS ?azT ?azU)
   (L2.bD KX G ?azV ?azW ?azX ?azY)
   (L2.bD KX G ?azZ ?az0 ?az1 ?az2)
   (L2.bD KX G ?az3 ?az4 ?az5 ?az6)
   (L2.bD KX G ?az7 ?az8 ?az9 ?aAa)
   (L2.bD KX G ?aAb ?aAc ?aAd ?aAe)
   (L2.bD KX G ?aAf ?aAg ?aAh ?aAi)
   (L2.bD KX G ?aAj ?aAk ?aAl ?aAm)
   (L2.bD KX G ?aAn ?aAo ?aAp ?aAq)
   (L2.bD KX G ?aAr ?aAs ?aAt ?aAu)
   (L2.bD KX G ?aAv ?aAw ?aAx ?aAy)
   (L2.bD KX G ?aAz ?aAA ?aAB ?aAC)
   (L2.bD KX G ?aAD ?aAE ?aAF ?aAG)
   (L2.bD KX G ?aAH ?aAI ?aAJ ?aAK)
   (L2.bD KX G ?aAL ?aAM ?aAN ?aAO)
   (L2.bD KX G ?aAP ?aAQ ?aAR ?aAS)
   (L2.bD KX G ?aAT ?aAU ?aAV ?aAW)
   (L2.bD KX G ?aAX ?aAY ?aAZ ?aA0)
   (L2.bD KX G ?aA1 ?aA2 ?aA3 ?aA4)
   (L2.bD KX G ?aA5 ?aA6 ?aA7 ?aA8)
   (L2.bD KX G ?aA9 ?aBa ?aBb ?aBc)
   (L2.bD KX G ?aBd ?aBe ?aBf ?aBg)
   (L2.bD KX G ?aBh ?aBi ?aBj ?aBk)
   (L2.bD KX G ?aBl ?aBm ?aBn ?aBo)
   (L2.bD KX G ?aBp ?aBq ?aBr ?aBs)
   (L2.bD KX G ?aBt ?aBu ?aBv ?aBw)
   (L2.bD KX G ?aBx ?aBy ?aBz ?aBA)
   (L2.bD KX G ?aBB ?aBC ?aBD ?aBE)
   (L2.bD KX G ?aBF ?aBG ?aBH ?aBI)
   (L2.bD KX G ?aBJ ?aBK ?aBL ?aBM)
   (L2.bD KX G ?aBN ?aBO ?aBP ?aBQ)
   (L2.bD KX G ?aBR ?aBS ?aBT ?aBU)
   (L2.bD KX G ?aBV ?aBW ?aBX ?aBY)
   (L2.bD KX G ?aBZ ?aB0 ?aB1 ?aB2)
   (L2.bD KX G ?aB3 ?aB4 ?aB5 ?aB6)
  (case awE=>k_is);(case awF=>k_is);(case awG=>k_is);(case awH=>k_is);(case awI=>k_is);(case awJ=>k_is);(case awK=>k_is);(case awL=>k_is);(case awM=>k_is);(case awN=>k_is);(case awO=>k_is);(case awP=>k_is);(case awQ=>k_is)
  (case awR=>k_is);(case awS=>k_is);(case awT=>k_is);(case awU=>k_is);(case awV=>k_is);(case awW=>k_is);(case awX=>k_is);(case awY=>k_is);(case awZ=>k_is);(case aw0=>k_is);(case aw1=>k_is);(case aw2=>k_is);(case aw3=>k_is);(case aw4=>k_is);(case aw5=>k_is);(case aw6=>k_is);(case aw7=>k_is);(case aw8=>k_is);(case aw9=>k_is)
  (case axa=>k_is);(case axb=>k_is);(case axc=>k_is);(case axd=>k_is);(case axe=>k_is);(case axf=>k_is);(case axg=>k_is);(case axh=>k_is);(case axi=>k_is);(case axj=>k_is);(case axk=>k_is);(case axl=>k_is);(case axm=>k_is);(case axn=>k_is);(case axo=>k_is);(case axp=>k_is);(case axq=>k_is);(case axr=>k_is)
  (case axs=>k_is);(case axt=>k_is);(case axu=>k_is);(case axv=>k_is);(case axw=>k_is);(case axx=>k_is);(case axy=>k_is);(case axz=>k_is);(case axA=>k_is);(case axB=>k_is);(case axC=>k_is);(case axD=>k_is);(case axE=>k_is);(case axF=>k_is);(case axG=>k_is)
  (case axH=>k_is);(case axI=>k_is);(case axJ=>k_is);(case axK=>k_is);(case axL=>k_is);(case axM=>k_is);(case axN=>k_is);(case axO=>k_is);(case axP=>k_is);(case axQ=>k_is);(case axR=>k_is);(case axS=>k_is);(case axT=>k_is);(case axU=>k_is);(case axV=>k_is);(case axW=>k_is);(case axX=>k_is);(case axY=>k_is);(case axZ=>k_is);(case ax0=>k_is);(case ax1=>k_is);(case ax2=>k_is);(case ax3=>k_is);(case ax4=>k_is);(case ax5=>k_is);(case ax6=>k_is);(case ax7=>k_is);(case ax8=>k_is);(case ax9=>k_is);(case aya=>k_is);(case ayb=>k_is);(case ayc=>k_is);(case ayd=>k_is);(case aye=>k_is);(case ayf=>k_is);(case ayg=>k_is);(case ayh=>k_is);(case ayi=>k_is);(case ayj=>k_is);(case ayk=>k_is);(case ayl=>k_is);(case aym=>k_is);(case ayn=>k_is);(case ayo=>k_is);(case ayp=>k_is);(case ayq=>k_is);(case ayr=>k_is);(case ays=>k_is);(case ayt=>k_is);(case ayu=>k_is)
  (case ayv=>k_is);(case ayw=>k_exc);(case ayx=>k_is);(case ayy=>k_is);(case ayz=>k_is);(case ayA=>k_is);(case ayB=>k_is);(case ayC=>k_is);(case ayD=>k_is);(case ayE=>kts_exm)
  (case ayF=>k_is);(case ayG=>k_is);(case ayH=>k_is);(case ayI=>k_is);(case ayJ=>(first | k_is | kernel_rfl));(case ayK=>(first | k_is | kernel_rfl))
  (case ayL=>k_is);(case ayM=>k_is);(case ayN=>k_is);(case ayO=>k_is)
  (case ayP=>k_is);(case ayQ=>k_is);(case ayR=>k_is);(case ayS=>k_is)
  (case ayT=>k_is);(case ayU=>k_is);(case ayV=>k_is);(case ayW=>k_is)
  (case ayX=>k_is);(case ayY=>k_is);(case ayZ=>k_is);(case ay0=>k_is)
  (case ay1=>k_is);(case ay2=>k_is);(case ay3=>k_is);(case ay4=>k_is)
  (case ay5=>k_is);(case ay6=>k_is);(case ay7=>k_is);(case ay8=>k_is)
  (case ay9=>k_is);(case aza=>k_is);(case azb=>k_is);(case azc=>k_is)
  (case azd=>k_is);(case aze=>k_is);(case azf=>k_is);(case azg=>k_is)
  (case azh=>k_is);(case azi=>k_is);(case azj=>k_is);(case azk=>k_is)
  (case azl=>k_is);(case azm=>k_is);(case azn=>k_is);(case azo=>k_is)
  (case azp=>k_is);(case azq=>k_is);(case azr=>k_is);(case azs=>k_is)
  (case azt=>k_is);(case azu=>k_is);(case azv=>k_is);(case azw=>k_is)
  (case azx=>k_is);(case azy=>k_is);(case azz=>k_is);(case azA=>k_is)
  (case azB=>k_is);(case azC=>k_is);(case azD=>k_is);(case azE=>k_is)
  (case azF=>k_is);(case azG=>k_is);(case azH=>k_is);(case azI=>k_is)
  (case azJ=>k_is);(case azK=>k_is);(case azL=>k_is);(case azM=>k_is)
  (case azN=>k_is);(case azO=>k_is);(case azP=>k_is);(case azQ=>k_is)
  (case azR=>k_is);(case azS=>k_is);(case azT=>k_is);(case azU=>k_is)
  (case azV=>k_is);(case azW=>k_is);(case azX=>k_is);(case azY=>k_is)
  (case azZ=>k_is);(case az0=>k_is);(case az1=>k_is);(case az2=>k_is)
  (case az3=>k_is);(case az4=>k_is);(case az5=>k_is);(case az6=>k_is)
  (case az7=>k_is);(case az8=>k_is);(case az9=>k_is);(case aAa=>k_is)
  (case aAb=>k_is);(case aAc=>k_is);(case aAd=>k_is);(case aAe=>k_is)
  (case aAf=>k_is);(case aAg=>k_is);(case aAh=>k_is);(case aAi=>k_is)
  (case aAj=>k_is);(case aAk=>k_is);(case aAl=>k_is);(case aAm=>k_is)
  (case aAn=>k_is);(case aAo=>k_is);(case aAp=>k_is);(case aAq=>k_is)
  (case aAr=>k_is);(case aAs=>k_is);(case aAt=>k_is);(case aAu=>k_is)
  (case aAv=>k_is);(case aAw=>k_is);(case aAx=>k_is);(case aAy=>k_is)
  (case aAz=>k_is);(case aAA=>k_is);(case aAB=>k_is);(case aAC=>k_is)
  (case aAD=>k_is);(case aAE=>k_is);(case aAF=>k_is);(case aAG=>k_is)
  (case aAH=>k_is);(case aAI=>k_is);(case aAJ=>k_is);(case aAK=>k_is)
  (case aAL=>k_is);(case aAM=>k_is);(case aAN=>k_is);(case aAO=>k_is)
  (case aAP=>k_is);(case aAQ=>k_is);(case aAR=>k_is);(case aAS=>k_is)
  (case aAT=>k_is);(case aAU=>k_is);(case aAV=>k_is);(case aAW=>k_is)
  (case aAX=>k_is);(case aAY=>k_is);(case aAZ=>k_is);(case aA0=>k_is)
  (case aA1=>k_is);(case aA2=>k_is);(case aA3=>k_is);(case aA4=>k_is)
  (case aA5=>k_is);(case aA6=>k_is);(case aA7=>k_is);(case aA8=>k_is)
  (case aA9=>k_is);(case aBa=>k_is);(case aBb=>k_is);(case aBc=>k_is)
  (case aBd=>k_is);(case aBe=>k_is);(case aBf=>k_is);(case aBg=>k_is)
  (case aBh=>k_is);(case aBi=>k_is);(case aBj=>k_is);(case aBk=>k_is)
  (case aBl=>k_is);(case aBm=>k_is);(case aBn=>k_is);(case aBo=>k_is)
  (case aBp=>k_is);(case aBq=>k_is);(case aBr=>k_is);(case aBs=>k_is)
  (case aBt=>k_is);(case aBu=>k_is);(case aBv=>k_is);(case aBw=>k_is)
  (case aBx=>k_is);(case aBy=>k_is);(case aBz=>k_is);(case aBA=>k_is)
  (case aBB=>k_is);(case aBC=>k_is);(case aBD=>k_is);(case aBE=>k_is)
  (case aBF=>k_is);(case aBG=>k_is);(case aBH=>k_is);(case aBI=>k_is)
  (case aBJ=>k_is);(case aBK=>k_is);(case aBL=>k_is);(case aBM=>k_is)
  (case aBN=>k_is);(case aBO=>k_is);(case aBP=>k_is);(case aBQ=>k_is)
  (case aBR=>k_is);(case aBS=>k_is);(case aBT=>k_is);(case aBU=>k_is)
  (case aBV=>k_is);(case aBW=>k_is);(case aBX=>k_is);(case aBY=>k_is)
  (case aBZ=>k_is);(case aB0=>k_is);(case aB1=>k_is);(case aB2=>k_is)
  (case aB3=>k_is);(case aB4=>k_is);(case aB5=>k_is);(case aB6=>k_is)
