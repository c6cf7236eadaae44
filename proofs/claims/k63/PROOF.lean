import PyProof.Rows.All
import Wide.All
import OpenK.AllK
import Wide.FinOn
import Lean
import PyProof.EqAt
import PyProof.EqKinds
import PyProof.TupleCall
import KE.KRevSl
import KE.KDictSum
import KE.KEqDict
import PyProof.P3Eq
import KE.KTryMore
import KE.KSortTup
import PyProof.NeKinds
import KE.KLam
import PyProof.SetRoads
import KE.KIntText
import PyProof.DictValues
import PyProof.DictWalks
import KE.KItemsList
import PyProof.Toks
import PyProof.StrReplace2
import PyProof.StrLawsFirst
import KE.KMinKey
import PyProof.StrLawsTight
import PyProof.StrLawsIdx
import PyProof.Rows.StrSplitJoin
import PySem.Challenge.RW_parcelmend_k63_a_deed_that_falls
import KE.RegKIsAll
import KE.RegKTryMore
noncomputable section
set_option Elab.async false
set_option linter.all false
set_option genInjectivity false
set_option genSizeOf false
set_option genSizeOfSpec false
set_option maxRecDepth 100000
section
open PyProof PyProof.Rows PySem PySem.AutoSeq1 PySem.Builtin PySem.Builtin.Getset_descriptor PySem.Builtin.ObjectAttr PySem.Builtin.Str PySem.Calls PySem.MeetsSeq PySem.MeetsSeq2 PySem.MeetsSeq3 PySem.SeqAt PySem.Spec PySem.W
def af:=@wpAny_bind
def ai:=@if_neg
def al:=@if_pos
def ao:=@List.length_map
def au:=@wpAny_pure
def aI:=@Nat.le_refl
def aY:=@List.mem_cons
def bj:=@List.length_append
def bw:=@List.mem_singleton
def bG:=@Heap.lt_size
def bK:=@List.mem_cons_self
def bL:=@List.map_cons
def bN:=@decide_eq_true
def bR:=@List.mem_cons_of_mem
def bS:=@List.mem_append
def bX:=@Heap.get?_push_of_some
def cg:=@List.length_cons
def cu:=@Nat.le_trans
def cD:=@List.mem_map
def cI:=@decide_eq_false
def cK:=@Bool.false_ne_true
def cS:=@Nat.ne_of_lt
def cT:=@of_decide_eq_true
def cW:=@List.getElem?_eq_some_iff
def dz:=@List.map_append
def dG:=@Nat.zero_le
def dH:=@List.getElem?_map
def dR:=@Heap.get?_push_size
def d8:=@wpAny_mono
def eg:=@List.mem_of_getElem?
def eF:=@List.mem_append_right
def eG:=@List.length_take
def eI:=@PassesOwn.never
def eN:=@congrArg
def eT:=@Array.length_toList
def eZ:=@List.take_length
def fo:=@List.size_toArray
def fq:=@List.not_mem_nil
def ft:=@or_false
def gc:=@Nat.lt_of_lt_of_le
def ge:=@Ne.symm
def gf:=@List.mem_map_of_mem
def gz:=@Option.some.inj
def gA:=@PySem.boot_len
def gR:=@Bool.and_eq_true
def gT:=@List.take_add_one
def iu:=@wpAny_setState_of
def iN:=@List.length_singleton
def iO:=@PySem.F.plainAttrs_list
def jk:=@List.all_eq_true
def jl:=@List.getElem?_eq_getElem
def jO:=@wpAny_holding
def jP:=@PyProof.Rows.boot_list
def kJ:=@Nat.ne_of_gt
def kK:=@beq_iff_eq
def kL:=@List.length_nil
def kM:=@List.nodup_nil
def kN:=@List.append_assoc
def lX:=@List.append_nil
def lY:=@Int.toNat_natCast
def lZ:=@Heap.SameBut.update
def l8:=@List.foldl_cons
def ma:=@PySem.W.mg_none_of
def nu:=@Sum.inr.inj
def nv:=@if_false
def nw:=@List.length_drop
def ny:=@PySem.F.plainAttrs_str
def pi:=@wpAny_rule
def pj:=@wpAny_isInstance
def pq:=@Nat.lt_irrefl
def py:=@not_or
def pA:=@List.map_map
def qK:=@Bool.false_eq_true
def qL:=@List.mem_filter
def qM:=@codeAny_mono
def qN:=@List.nodup_cons
def qO:=@List.filter_cons
def qQ:=@Bool.eq_false_iff
def qR:=@Array.getElem?_eq_getElem
def qS:=@wpAny_askSetting
def qT:=@List.foldl_append
def qU:=@PySem.F.slot_list_extend
def qV:=@PySem.F.type_list_extend
def tF:=@wpAny_call_entry
def tG:=@Heap.size_push
def tH:=@Nat.le_succ
def tI:=@Bool.or_false
def tJ:=@List.any_cons
def tK:=@List.find?_cons
def tL:=@Option.map_some
def tM:=@List.cons_append
def tN:=@List.nodup_append
def tO:=@plainId_quiet
def tP:=@codeAny_builtin
def tQ:=@List.cons.inj
def we:=@if_true
def wf:=@wpAny_truthy_bool
def wg:=@Nat.le_of_lt
def wj:=@Bool.and_false
def wk:=@Array.getElem?_toList
def wm:=@Around.under_plainId
def wn:=@PySem.F.called_set
def yA:=@beq_eq_false_iff_ne
def yB:=@wpAny_forIn_list
def yC:=@wpAny_seqItems
def yD:=@List.mem_append_left
def yE:=@wpAny_passesOwn
def yF:=@sizeLine_eq
def yG:=@Nat.lt_succ_self
def yH:=@wpAny_Call_Name_kw
def yI:=@List.length_filter_le
def yJ:=@Nat.lt_trans
def yK:=@PySem.W.kqd_eqv
def yL:=@PySem.W.mg_of
def yM:=@List.any_eq_true
def yN:=@Bool.and_eq_true_iff
def yO:=@Int.emod_nonneg
def yP:=@fits_of_scanBound
def yQ:=@PySem.F.plain_min_loop
def yR:=@List.cons_ne_nil
def yS:=@List.mem_flatMap
def yT:=@PySem.F.slot_str_join
def yU:=@PySem.F.type_str_join
def yV:=@PyProof.Rows.boot_sorted
def yW:=@PySem.F.slot_list_append
def yX:=@PySem.F.type_list_append
def yY:=@List.nil_append
def B8:=@wpAny_specialOf
def B9:=@Bool.not_true
def Ca:=@List.mem_range
def Cb:=@Bool.eq_iff_iff
def Cc:=@Nat.le_of_eq
def Cd:=@PySem.mem_of_lookup
def Ce:=@typeIs_str
def Cf:=@List.map_nil
def Cg:=@call_meetsIn
def Ci:=@wpAny_newObj_type
def Cj:=@List.drop_eq_nil_iff
def Ck:=@StrLaws.glued_eq_join
def Cm:=@Heap.get?_update_self
def Cn:=@List.length_eq_zero_iff
def Co:=@Int.emod_lt_of_pos
def Cp:=@wpAny_storeSet_of
def Cq:=@wpAny_tryCatch
def Cr:=@decide_eq_decide
def Ct:=@decide_eq_true_eq
def GL:=@List.filterMap_cons
def GN:=@wpAny_execs_nil
def GO:=@wpAny_call
def GP:=@List.getElem?_append_right
def GQ:=@Heap.get?_update_other
def GR:=@call_meets
def GS:=@PySem.F.plainAttrs_dict
def GU:=@Bool.true_and
def GV:=@Nat.zero_add
def GW:=@Nat.mod_lt
def GX:=@Heap.SameBut.refl
def GY:=@wpAny_updateSeq
def GZ:=@List.flatMap_cons
def G0:=@List.flatMap_append
def NK:=@F.slot_tuple_hash
def NL:=@Nat.add_assoc
def NM:=@F.slot_tuple_eq
def NN:=@PyProof.Rows.callWith_type1
def NO:=@List.mem_filterMap
def NP:=@PySem.W.callWith_K
def NQ:=@List.of_mem_zip
def NR:=@Option.isSome_iff_exists
def NS:=@Subscript_
def NT:=@List.all_cons
def NU:=@Calls.callWith_builtin
def NW:=@Calls.evalArgs_plain
def NX:=@List.drop_eq_getElem_cons
def NY:=@List.mem_of_mem_drop
def NZ:=@List.mem_of_mem_take
def N1:=@wpAny_dictEntries
def N2:=@entryFor_alias
def N3:=@wpAny_typeOf
def N5:=@Nat.add_zero
def N6:=@Nat.not_lt_zero
def N7:=@List.length_range
def N8:=@Array.getD_eq_getD_getElem?
def Ob:=@List.getElem_mem
def Oc:=@Obj.data_mapFields
def Od:=@Walks.list
def Oe:=@Nat.not_lt
def Of:=@wpAny_letGo
def Og:=@List.map_congr_left
def Oh:=@PyProof.Rows.boot_dict
def Oj:=@Nat.mul_le_mul_right
def Ol:=@List.filter_append
def Om:=@List.filter_sublist
def Oo:=@of_decide_eq_false
def Op:=@Classical.byContradiction
def V5:=@wpAny_tupleItemsOf
def V6:=@Array.forIn_toList
def V7:=@isSubtype_tuple_tuple
def V8:=@List.zip_cons_cons
def V9:=@Paired.length
def Wa:=@wpAny_execs_cons
def Wb:=@wpAny_pyIter_list
def Wc:=@PySem.W.plainGet_of
def Wd:=@Calls.spliced_nil
def We:=@Calls.spliced_cons
def Wf:=@wpAny_standAt
def Wg:=@PySem.W.cellsFrom_some
def Wh:=@List.getElem?_append_left
def Wi:=@List.length_replicate
def Wj:=@evalPart_none
def Wk:=@slot_list_getitem
def Wl:=@Bool.true_or
def Wm:=@Option.isSome_map
def Wn:=@PySem.F.slot_dict_get
def Wo:=@Nat.lt_of_le_of_lt
def Wp:=@List.lookup_cons
def Wq:=@List.length_reverse
def Wr:=@List.map_take
def Ws:=@List.take_of_length_le
def Wt:=@Nat.succ_mul
def Wu:=@List.find?_eq_none
def Wv:=@wpAny_newList
def Ww:=@Array.toArray_toList
def Wx:=@Nat.lt_succ_of_lt
def Wy:=@StrsAre.length
def Wz:=@wpAny_pyIter_slot
def WA:=@typeLookup_type
def WB:=@builtinLookup_eq_fast
def WC:=@isSubtype_type
def WD:=@wpAny_ite_split
def WE:=@List.mem_iff_getElem
def WF:=@Array.getElem?_eq_none
def WG:=@wpAny_setField
def WH:=@Bool.and_self
def WI:=@sub_set_self
def WJ:=@PyProof.Rows.F.plain_set_update_loop
def WK:=@F.slot_str_split
def WL:=@F.entry_str_split
def WM:=@F.args_str_split_2
def WN:=@ne_true_of_eq_false
def WO:=@PySem.F.entry_min_loop
def WP:=@List.le_antisymm
def WQ:=@PySem.F.slot_str_split
def WR:=@PySem.F.type_str_split
def WS:=@List.getElem?_inj
def WT:=@Nat.succ_le_succ
def WU:=@List.lt_irrefl
def WV:=@decide_eq_true_iff
def WW:=@PyProof.Rows.boot_set
def WX:=@List.getLast?_append
def axA:=@List.getElem?_set_self
def axB:=@Calls.Name_function_global
def axC:=@wpAny_isTrue_Compare1
def axD:=@PySem.W.methodCall_KW
def axE:=@List.getElem?_replicate
def axF:=@wpAny_newFunctionEnv_cells
def axG:=@subscriptTail_builtinR
def axH:=@wpAny_getItem_list_slice
def axI:=@Option.map_eq_some_iff
def axJ:=@PySem.F.slot_dict_pop
def axK:=@PySem.F.entry_dict_get
def axL:=@PySem.F.args_dict_get_2
def axM:=@wpAny_comprehension_free
def axN:=@List.take_eq_take_iff
def axO:=@PySem.F.slot_dict_setdefault
def axP:=@Option.map_eq_none_iff
def axQ:=@Calls.call_function_entry
def axR:=@PySem.F.slot_dict_itemiterator_iter
def axS:=@PySem.F.slot_dict_items
def axT:=@PySem.F.slot_dict_update
def axU:=@PySem.F.excBase_ValueError
def axV:=@List.getElem?_eq_none
def axW:=@List.length_eraseIdx_of_lt
def axX:=@Obj.isFreed_of_fields
def axY:=@PySem.F.slot_set_iter
def axZ:=@filterMap_getElem?_range
def ax0:=@PySem.F.plain_extend_loop
def ax1:=@PySem.F.plain_list_iadd
def ax2:=@List.length_pos_of_mem
def ax3:=@PySem.F.plain_set_new
def ax4:=@PyProof.Rows.F.entry_set_update_loop
def ax5:=@Array.mem_of_getElem?
def ax6:=@List.Perm.eq_of_pairwise
def ax7:=@PySem.toDigits_len_ge
def ax8:=@PySem.F.slot_str_startswith
def ax9:=@PySem.F.type_str_startswith
def aya:=@List.take_append_drop
def ayb:=@List.getLast?_singleton
def ayc:=@List.getLast?_eq_getLast
end
abbrev Fg:=PySem.W.Frag
abbrev VP:=PySem.Value->PySem.Shared->Prop
abbrev Po:=List (PySem.Addr×PySem.Obj)
abbrev Mv:=PySem.Str->Option PySem.Value
abbrev Oi:=Option (List Int)
abbrev Ll:=List (List Int)
abbrev Ls:=List PySem.Str
abbrev Lw:=List PySem.Value
abbrev Av:=Array PySem.Value
abbrev Oa:=Option PySem.Addr
abbrev Fy:=PySem.FuncData
namespace L2
open PySem PySem.Spec PyProof.Rows
abbrev ar:=Sum Int Str
def pB:ar->Value->Bool
 | .inl k,v=>Value.isInt k v
 | .inr x,v=>Value.isStrOf x v
def md(w:World):ar->Int
 | .inl k=>hashInt k
 | .inr x=>hashStr w x
theorem iP:∀{k:ar}{v:Value},pB k v=true->(∃i t,k=Sum.inl i/\v=Value.int i t)\/(∃x t,k=Sum.inr x/\v=Value.str x t)
 | .inl i,v,h=>by
  obtain⟨t,e⟩:=Value.isInt_shape (k:=i) (v:=v) h;exact .inl ⟨i,t,rfl,e⟩
 | .inr x,v,h=>by
  obtain⟨t,e⟩:=Value.isStrOf_shape (x:=x) (v:=v) h;exact .inr ⟨x,t,rfl,e⟩
theorem WY(i:Int)(t:Tok):pB (.inl i) (.int i t)=true:=by simp[pB,Value.isInt]
theorem WZ(x:Str)(t:Tok):pB (.inr x) (.str x t)=true:=by simp[pB,Value.isStrOf]
theorem W0(a b:Int):decide ((Sum.inl a:ar)=Sum.inl b)=(a == b):=by
 by_cases e:a=b
 . subst e;simp
 . have h:¬(Sum.inl a:ar)=Sum.inl b:=fun q=>e (Sum.inl.inj q);rw[cI h];exact(yA.mpr e).symm
theorem W1(a b:Str):decide ((Sum.inr a:ar)=Sum.inr b)=decide (a=b):=by
 by_cases e:a=b
 . subst e;simp
 . have h:¬(Sum.inr a:ar)=Sum.inr b:=fun q=>e (nu q);rw[cI h,cI e]
theorem W3(a:Int)(b:Str):decide ((Sum.inl a:ar)=Sum.inr b)=false:=cI (fun q=>nomatch q)
theorem W7(a:Str)(b:Int):decide ((Sum.inr a:ar)=Sum.inl b)=false:=cI (fun q=>nomatch q)
def cw(prog:Program)(w:World):PySem.KeyKind prog w ar where
 is:=pB
 hash:=md w
 inj:=fun v a b ha hb=>by
  rcases iP ha with⟨i,t,rfl,rfl⟩ | ⟨x,t,rfl,rfl⟩
  . rcases iP hb with⟨j,u,rfl,e⟩ | ⟨y,u,rfl,e⟩
    . injection e with e1 _;rw[e1]
    . exact nomatch e
  . rcases iP hb with⟨j,u,rfl,e⟩ | ⟨y,u,rfl,e⟩
    . exact nomatch e
    . injection e with e1 _;rw[e1]
 byValue:=fun k v h=>by
  rcases iP h with⟨i,t,rfl,rfl⟩ | ⟨x,t,rfl,rfl⟩<;>rfl
 pyHash:=fun hv h=>by
  rcases iP hv with⟨i,t,rfl,rfl⟩ | ⟨x,t,rfl,rfl⟩
  . exact wpAny_pyHash_int h
  . exact wpAny_pyHash_str h
 eqBool:=fun hu hv h=>by
  rcases iP hu with⟨i,t,rfl,rfl⟩ | ⟨x,t,rfl,rfl⟩
  . rcases iP hv with⟨j,u,rfl,rfl⟩ | ⟨y,u,rfl,rfl⟩
    . rw[W0]at h;exact wpAny_eqBool_int h
    . rw[W3]at h;exact SeqAt.EqAt.int_str i t y u _ _ _ _ h
  . rcases iP hv with⟨j,u,rfl,rfl⟩ | ⟨y,u,rfl,rfl⟩
    . rw[W7]at h;exact SeqAt.EqAt.str_int x t j u _ _ _ _ h
    . rw[W1]at h;exact wpAny_eqBool_str h
 «strs»:=fun k x t v h=>by
  rcases iP h with⟨i,u,rfl,e⟩ | ⟨y,u,rfl,e⟩
  . exact nomatch e
  . injection e with e1 _
    subst e1;cases v<;>rfl
theorem W8(prog:Program)(w:World)(i:Int)(t:Tok):(cw prog w).is (.inl i) (.int i t)=true:=WY i t
theorem tR(prog:Program)(w:World)(x:Str)(t:Tok):(cw prog w).is (.inr x) (.str x t)=true:=WZ x t
abbrev NI:=Sum ar (List ar)
section
variable {P:Program}{w:World}
def me(P:Program)(w:World)(h:Heap):NI->Value->Prop
 | .inl k,v=>pB k v=true
 | .inr ls,v=>∃b,v=.ref b/\IsTupleKey (cw P w) h ls b
inductive iQ (P:Program) (w:World) (h:Heap):List NI->Lw->Prop
 | nil:iQ P w h [] []
 | cons {i:NI}{v:Value}{ks:List NI}{vs:Lw}:me P w h i v->iQ P w h ks vs->iQ P w h (i::ks) (v::vs)
def iR(P:Program)(w:World)(h:Heap)(ks:List NI)(a:Addr):Prop:=∃o items n,h.get? a=some o/\o.cls=.type "tuple"/\o.data=.seq items n/\iQ P w h ks items.toList
def Cu(P:Program)(w:World):NI->Int
 | .inl k=>md w k
 | .inr ls=>tupleKeyHash (cw P w) ls
def G1:NI->Nat
 | .inl _=>1
 | .inr ls=>ls.length+1
def G2(P:Program)(w:World)(ks:List NI):Int:=reduceHash (Builtin.Tuple.tupleHashOf (ks.map (Cu P w)))
def Cv(ks:List NI):Nat:=(ks.map G1).sum+1
theorem me.inj{h:Heap}{i j:NI}{v:Value}(a:me P w h i v)(b:me P w h j v):i=j:=by
 cases i with
 | inl k=>
  cases j with
  | inl l=>rw[(cw P w).inj v k l a b]
  | inr l=>
   obtain⟨c,rfl,_⟩:=b
   rcases iP a with⟨_,_,_,e⟩ | ⟨_,_,_,e⟩<;>cases e
 | inr k=>
  obtain⟨c,rfl,hc⟩:=a;cases j with
  | inl l=>rcases iP b with⟨_,_,_,e⟩ | ⟨_,_,_,e⟩<;>cases e
  | inr l=>
   obtain⟨d,e,hd⟩:=b;cases e;rw[hc.inj hd]
theorem iQ.inj{h:Heap}{x y:List NI}{vs:Lw}(a:iQ P w h x vs)(b:iQ P w h y vs):x=y:=by
 induction a generalizing y with
 | nil=>cases b;rfl
 | cons p _ ih=>
  cases b with
  | cons q r=>rw[p.inj q,ih r]
theorem iR.typeIs{s:Shared}{ks:List NI}{a:Addr}(x:iR P w s.heap ks a):s.TypeIs (.ref a) "tuple":=x.elim fun o W9=>W9.elim fun _ Xa=>Xa.elim fun _ Xb=>Xb.elim fun ho Xc=>Xc.elim fun hc _=>⟨o,ho,hc⟩
theorem iR.inj{h:Heap}{a:Addr}{x y:List NI}(p:iR P w h x a)(q:iR P w h y a):x=y:=by
 obtain⟨o,its,n,e,_,d,i⟩:=p;obtain⟨o',its',n',e',_,d',i'⟩:=q;rw[e]at e';cases e';rw[d]at d';injection d' with d1 _
 subst d1;exact i.inj i'
theorem iQ.keeps{h h':Heap}{ks:List NI}{vs:Lw}(k:∀ls b,IsTupleKey (cw P w) h ls b->IsTupleKey (cw P w) h' ls b)(x:iQ P w h ks vs):iQ P w h' ks vs:=by
 induction x with
 | nil=>exact .nil
 | @cons i v ks vs p _ ih=>
  refine .cons ?_ ih;cases i with
  | inl l=>exact p
  | inr l=>
   obtain⟨b,e,hb⟩:=p;exact⟨b,e,k _ _ hb⟩
theorem iR.keeps{h h':Heap}{ks:List NI}{a d:Addr}{o:Obj}{es:Array DictEntry}{ep:Nat}(x:iR P w h ks a)(ho:h.get? d=some o)(hd:o.data=.dict es ep)(hs:Heap.SameBut d h h'):iR P w h' ks a:=by
 obtain⟨oa,its,n,e,c,e2,i⟩:=x;have ne:a≠d:=by
  intro z;rw[z,ho]at e;cases e;rw[hd]at e2;cases e2
 exact⟨oa,its,n,(hs.2 a ne).trans e,c,e2,i.keeps fun ls b hb=>hb.keeps ho hd hs⟩
variable {A:Around}{E:VP}{s:Shared}
theorem me.hash{i:NI}{v:Value}{Q:Int->Shared->Prop}(hu:A.units<cLine)(x:me P w s.heap i v)(h:Q (Cu P w i) { s with toks:=s.toks+G1 i }):wpAny (model P w) A (pyHash v) Q E s:=by
 cases i with
 | inl k=>exact(cw P w).pyHash (k:=k) x h
 | inr ls=>
  obtain⟨b,rfl,hb⟩:=x;exact wpAny_pyHash_tuple hu hb h
theorem me.eq{i j:NI}{u v:Value}{Q:Bool->Shared->Prop}(hu:A.units<cLine)(x:me P w s.heap i u)(y:me P w s.heap j v)(h:Q (decide (i=j)) s):wpAny (model P w) A (eqBool u v) Q E s:=by
 cases i with
 | inl k=>
  cases j with
  | inl l=>
   have e:decide ((Sum.inl k:NI)=Sum.inl l)=decide (k=l):=by
    by_cases q:k=l
    . rw[q];simp
    . rw[cI q,cI (fun z=>q (Sum.inl.inj z))]
   rw[e]at h;exact(cw P w).eqBool (a:=k) (b:=l) x y h
  | inr l=>
   rw[cI (fun z=>nomatch z)]at h;obtain⟨b,rfl,o,its,n,e,c,d,_⟩:=y
   rcases iP x with⟨a,t,_,rfl⟩ | ⟨a,t,_,rfl⟩
   . exact SeqAt.EqAt.int_tuple a t ⟨o,e,c,n,d⟩ hu _ _ _ _ h
   . exact SeqAt.EqAt.str_tuple a t ⟨o,e,c,n,d⟩ hu _ _ _ _ h
 | inr k=>
  obtain⟨a,rfl,ha⟩:=x;cases j with
  | inl l=>
   rw[cI (fun z=>nomatch z)]at h;obtain⟨o,its,n,e,c,d,_⟩:=ha
   rcases iP y with⟨b,t,_,rfl⟩ | ⟨b,t,_,rfl⟩
   . exact SeqAt.EqAt.tuple_int b t ⟨o,e,c,n,d⟩ hu _ _ _ _ h
   . exact SeqAt.EqAt.tuple_str b t ⟨o,e,c,n,d⟩ hu _ _ _ _ h
  | inr l=>
   obtain⟨b,rfl,hb⟩:=y;have e:decide ((Sum.inr k:NI)=Sum.inr l)=decide (k=l):=by
    by_cases q:k=l
    . rw[q];simp
    . rw[cI q,cI (fun z=>q (nu z))]
   rw[e]at h;exact wpAny_eqBool_tuple hu ha hb h
theorem Xd{ks:List NI}{a:Addr}{Q:Int->Shared->Prop}(hu:A.units+8<cLine)(hk:iR P w s.heap ks a)(h:Q (G2 P w ks) { s with toks:=s.toks+Cv ks }):wpAny (model P w) A (pyHash (.ref a)) Q E s:=by
 have hT:=hk.typeIs;obtain⟨o,its,n,ho,_,hd,hi⟩:=hk;have Xe:A.units<cLine:=by omega
 unfold pyHash
 first | unfold pyHashByItsType | skip
 first | refine af (wpAny_cRoomFor_or (.inr Xe) ?_) | skip
 refine af (B8 hT NK.lookup ?_);show wpAny _ _ (if (some (Value.builtin "tuple.__hash__") == some Value.none)=true then _ else _) Q E s;rw[ai (by rw[beq_builtin_none];exact cK)];refine af (B8 hT NK.lookup ?_);show wpAny _ _ (callSpecialIfBoundUnlessNone? (.ref a) "__hash__" _ >>= _) Q E s;refine af (wpAny_callSpecialIfBoundUnlessNone?_slot hT NK (tF NK hT F.entry_tuple_hash ?_ (F.args_tuple_hash_1 _)));show wpAny _ _ (Builtin.Tuple.tupleItemsOf (.ref a) >>= _) _ _ s;refine af (V5 ho hd ?_);refine af ?_;rw[←V6];refine yB _
  (fun rest (b:Array Int) s'=>∃done left,ks=done++left/\iQ P w s.heap left rest/\b.toList=done.map (Cu P w)/\s'={ s with toks:=s.toks+(done.map G1).sum })
  _ ?_ ?_ _ _ ⟨[],ks,rfl,hi,rfl,rfl⟩
 . rintro x rest b s' ⟨done,left,rfl,hl,hb,rfl⟩;cases hl with
   | @cons k _ nz _ h1 qW=>
    refine af (me.hash (i:=k) (show A.units+1<cLine by omega) h1 ?_)
    first
     | exact au ⟨done++[k],nz,by simp,qW,by simp[hb],by simp[NL]⟩
     | exact af (au (au ⟨done++[k],nz,by simp,qW,by simp[hb],by simp[NL]⟩))
 . rintro b s' ⟨done,left,rfl,hl,hb,rfl⟩;cases hl;rw[lX]at h;show wpAny _ _ (retInt (Builtin.Tuple.tupleHashOf b.toList)) _ _ _;rw[hb];refine wpAny_ret_mkInt ?_;generalize hz:Builtin.Tuple.tupleHashOf (done.map (Cu P w))=z at h ⊢;show wpAny _ _ (if (decide (-(2:Int) ^ 63<=z) && decide (z<2 ^ 63))=true then _ else _) Q E _;unfold G2 reduceHash at h;rw[hz]at h
   by_cases hr:(decide (-(2:Int) ^ 63<=z) && decide (z<2 ^ 63))=true
   . rw[al hr];rw[al hr]at h;exact au (by simpa [NL,Cv]using h)
   . rw[ai hr];rw[ai hr]at h;exact af (pi (au (by simpa [NL,Cv]using h)))
theorem Xf{x y:List NI}{a b:Addr}{R:PySem.Fin->Shared->Prop}(hu:A.units<cLine)(hx:iR P w s.heap x a)(hy:iR P w s.heap y b)(h:R (.done (.ret (.bool (decide (x=y))))) s) :
 wpAny (model P w) A (Builtin.«tuple.__eq__» ⟨[.ref a,.ref b],[]⟩) R E s:=by
 have Xg:=hy.typeIs;obtain⟨oa,xs,na,G5,_,Xh,Xi⟩:=hx;obtain⟨ob,ys,nb,qX,_,gU,Xj⟩:=hy;show wpAny _ _ (isInstance (.ref b) (.type "tuple") >>= _) _ _ s;refine af (pj Xg V7 ?_);simp only[B9,qK,nv];refine af (V5 G5 Xh ?_);refine af (V5 qX gU ?_);refine af ?_;refine yB _
  (fun rest r s'=>r.1=none/\s'=s/\∃x' y' jQ bW,rest=List.zip jQ bW/\iQ P w s.heap x' jQ/\iQ P w s.heap y' bW/\decide (x'=y')=decide (x=y)/\(jQ.length == bW.length)=(xs.size == ys.size))
  _ ?_ ?_ _ _ ⟨rfl,rfl,x,y,xs.toList,ys.toList,rfl,Xi,Xj,rfl,by simp⟩
 . rintro⟨u,v⟩ rest r s' ⟨hr,rfl,x',y',jQ,bW,hz,gW,kO,Cw,hlen⟩;cases gW with
   | nil=>simp at hz
   | @cons k1 u' Oq Xk h1 Xl=>
    cases kO with
    | nil=>simp at hz
    | @cons k2 v' Ot Xm h2 Xn=>
     simp only[V8,List.cons.injEq,Prod.mk.injEq]at hz;obtain⟨⟨rfl,rfl⟩,rfl⟩:=hz;refine af (me.eq (i:=k1) (j:=k2) hu h1 h2 ?_)
     by_cases hk:k1=k2
     . subst hk;rw[bN rfl];simp only[B9,qK,nv];refine au ⟨rfl,rfl,Oq,Ot,Xk,Xm,rfl,Xl,Xn,?_,by simpa using hlen⟩;rw[←Cw]
       by_cases Ou:Oq=Ot
       . simp[Ou]
       . simp[Ou]
     . rw[cI hk];simp only[Bool.not_false,we];have hf:decide (x=y)=false:=by rw[←Cw];simp[hk]
       rw[hf]at h;exact af (au (au (au h)))
 . rintro⟨r1,r2⟩ s' ⟨hr,rfl,x',y',jQ,bW,hz,gW,kO,Cw,hlen⟩;simp only at hr;subst hr;refine au ?_;have Xo:(xs.size == ys.size)=decide (x=y):=by
    rw[←Cw,←hlen];cases gW with
    | nil=>
     cases kO with
     | nil=>simp
     | cons _ _=>simp
    | cons _ _=>
     cases kO with
     | nil=>simp
     | cons _ _=>simp at hz
   show R (.done (.ret (.bool (xs.size == ys.size)))) s';rw[Xo];exact h
theorem Xp{x y:List NI}{a b:Addr}{Q:Bool->Shared->Prop}(hu:A.units+8<cLine)(hx:iR P w s.heap x a)(hy:iR P w s.heap y b)(h:Q (decide (x=y)) s) :
 wpAny (model P w) A (eqBool (.ref a) (.ref b)) Q E s:=by
 unfold eqBool
 try with_reducible refine jO ?_
 show wpAny _ _ (if (Value.ref a == Value.ref b)=true then _ else _) Q E s
 by_cases jR:(Value.ref a == Value.ref b)=true
 . rw[al jR];have e:a=b:=by have:=eq_of_beq jR;injection this
   subst e;obtain rfl:=hx.inj hy;exact af (pi (au (by simpa using h)))
 . rw[ai jR];exact af (wpAny_richCompare_same_room (op:=.Eq) hx.typeIs hy.typeIs NM
    (tF NM hx.typeIs F.entry_tuple_eq (Xf (show A.units+1<cLine by omega) hx hy ⟨_,rfl,(fun e=>nomatch e),wf h⟩) (F.args_tuple_eq_2 _ _)) (by omega))
theorem Xq{M:Model}{ls:List ar}{a:Addr}{n:Nat}{Q:Bool->Shared->Prop}(hk:IsTupleKey (cw P w) s.heap ls a)(h:Q true s):wpAny M A (eqIsQuiet (n+1) (.ref a)) Q E s:=by
 have hT:=hk.typeIs;obtain⟨o,its,m,ho,_,hd,hi⟩:=hk;unfold eqIsQuiet;refine af (B8 hT NM.lookup ?_);show wpAny _ _ (isInstance (.ref a) (.type "tuple") >>= _) _ _ s;refine af (pj hT V7 ?_);simp only[B9,qK,nv];refine af (yC ho hd ?_);refine af ?_;show wpAny _ _ (forIn its _ _) _ _ s;rw[←V6];refine yB _ (fun rest r s'=>r.1=none/\s'=s/\∀v∈rest,carriedByValue v=true) _ ?_ ?_ _ _ ⟨rfl,rfl,hi.byValue⟩
 . rintro v rest r s' ⟨hr,rfl,qY⟩;rw[eqIsQuiet_byValue _ (qY v bK)];refine af (au ?_);simp only[B9,qK,nv];exact au ⟨rfl,rfl,fun u Xr=>qY u (bR _ Xr)⟩
 . rintro⟨r1,r2⟩ s' ⟨hr,rfl,_⟩;simp only at hr;subst hr;exact au h
theorem Xs{M:Model}{ks:List NI}{a:Addr}{Q:Bool->Shared->Prop}(hk:iR P w s.heap ks a)(h:Q true s):wpAny M A (eqIsQuiet 8 (.ref a)) Q E s:=by
 have hT:=hk.typeIs;obtain⟨o,its,m,ho,_,hd,hi⟩:=hk;unfold eqIsQuiet;refine af (B8 hT NM.lookup ?_);show wpAny _ _ (isInstance (.ref a) (.type "tuple") >>= _) _ _ s;refine af (pj hT V7 ?_);simp only[B9,qK,nv];refine af (yC ho hd ?_);refine af ?_;show wpAny _ _ (forIn its _ _) _ _ s;rw[←V6];refine yB _ (fun rest r s'=>r.1=none/\s'=s/\∃ls,iQ P w s.heap ls rest) _ ?_ ?_ _ _ ⟨rfl,rfl,ks,hi⟩
 . rintro v rest r s' ⟨hr,rfl,ls,Cy⟩;cases Cy with
   | @cons i _ yZ _ h1 h2=>
    have fin:∀{R:Bool->Shared->Prop},R true s'->wpAny M A (eqIsQuiet 7 v) R E s':=fun {R} q=>by
     cases i with
     | inl k=>
      rw[eqIsQuiet_byValue _ ((cw P w).byValue k v h1)];exact au q
     | inr l=>
      obtain⟨b,rfl,hb⟩:=h1;exact Xq hb q
    refine af (fin ?_);simp only[B9,qK,nv];exact au ⟨rfl,rfl,yZ,h2⟩
 . rintro⟨r1,r2⟩ s' ⟨hr,rfl,_⟩;simp only at hr;subst hr;exact au h
end
def tS(P:Program)(w:World):HeapKind P w (List NI) where
 is:=iR P w
 hash:=G2 P w
 draws:=Cv
 room:=fun A=>A.units+8<cLine
 inj:=fun a b=>a.inj b
 keeps:=fun x ho hd hs=>x.keeps ho hd hs
 pyHash:=fun hu hk h=>Xd hu hk h
 eqBool:=fun hu hx hy h=>Xp hu hx hy h
 quiet:=fun hk h=>Xs hk h
theorem y6{P:Program}{w:World}{A:Around}(hu:A.units+64<cLine):(tS P w).room A.in1:=show A.units+1+8<cLine by omega
set_option genInjectivity true in
inductive V where
 | non | bl (b:Bool) | int (i:Int) | str (x:Str) | byt (b:Array UInt8) | flt (b:UInt64) | ref (a:Addr) | ty (n:String)
 deriving DecidableEq
abbrev Lv:=List V
def RelV:V->Value->Prop
 | .non,u=>u=Value.none
 | .bl b,u=>u=Value.bool b
 | .int i,u=>∃t,u=Value.int i t
 | .str x,u=>∃t,u=Value.str x t
 | .byt b,u=>∃t,u=Value.bytes b t
 | .flt b,u=>∃t,u=Value.float b t
 | .ref a,u=>u=Value.ref a
 | .ty n,u=>u=Value.type n
abbrev aQ:Lv->Lw->Prop:=Paired RelV
theorem aQ.length{xs:Lv}{us:Lw}(r:aQ xs us):xs.length=us.length:=V9 r
theorem aQ.get:∀{xs:Lv}{us:Lw}{i:Nat}{x:V},aQ xs us->xs[i]?=some x->∃u,us[i]?=some u/\RelV x u
 | _,_,_,_,.nil,e=>by simp at e
 | _,_,0,_,.cons r _,e=>by simp at e;subst e;exact⟨_,rfl,r⟩
 | _,_,i+1,x,.cons _ t,e=>by
  obtain⟨u,h1,h2⟩:=aQ.get (i:=i) (x:=x) t (by simpa using e);exact⟨u,by simpa using h1,h2⟩
theorem aQ.append:∀{xs ys:Lv}{us ws:Lw},aQ xs us->aQ ys ws->aQ (xs++ys) (us++ws)
 | _,_,_,_,.nil,s=>s
 | _,_,_,_,.cons r t,s=>.cons r (aQ.append t s)
theorem aQ.take:∀{xs:Lv}{us:Lw} (n:Nat),aQ xs us->aQ (xs.take n) (us.take n)
 | _,_,0,_=>.nil
 | _,_,_+1,.nil=>.nil
 | _,_,n+1,.cons r t=>.cons r (aQ.take n t)
theorem aQ.drop:∀{xs:Lv}{us:Lw} (n:Nat),aQ xs us->aQ (xs.drop n) (us.drop n)
 | _,_,0,r=>r
 | _,_,_+1,.nil=>.nil
 | _,_,n+1,.cons _ t=>aQ.drop n t
def gg:Option V->Option Value->Prop
 | some v,some u=>RelV v u
 | none,none=>True
 | _,_=>False
def KV{κ:Type}:List (κ×V)->List (κ×Value)->Prop:=Paired fun(p:κ×V) (q:κ×Value)=>p.1=q.1/\RelV p.2 q.2
def kV:ar->V
 | .inl i=>.int i
 | .inr x=>.str x
inductive HO where
 | lst (xs:Lv)
 | tup (xs:Lv)
 | dK (kvs:List (ar×V)) | dT (kvs:List (List NI×V))
 | set (S:Int->Bool) (n:Nat)
 | ins (C dx:Addr) (fs:List (Str×V))
 | own (x:Addr)
 | xd (fs:List (Str×V))
 | met (f x:Addr)
 | rng (lo hi:Int)
 | frz (o:Obj) (u:HO)
 | tbl (ps:Av)
 | ext (φ:Heap->Prop)
abbrev Hp:=Addr->Option HO
def ah(H:Hp)(a:Addr)(o:HO):Hp:=fun b=>if b=a then some o else H b
theorem aH{H:Hp}{a:Addr}{o:HO}:ah H a o a=some o:=by unfold ah;rw[al rfl]
theorem aW{H:Hp}{a b:Addr}{o:HO}(h:b≠a):ah H a o b=H b:=by unfold ah;rw[ai h]
theorem aK{H:Hp}{a b:Addr}{o u:HO}(h:H a=some o)(h':H b=some u)(d:o≠u):a≠b:=by
 intro e;subst e;rw[h]at h';exact d (gz h')
theorem aL{H:Hp}{a b:Addr}{o:HO}(h:H a=some o)(h':H b=none):a≠b:=by
 intro e;subst e;rw[h]at h';cases h'
def NV(H:Hp):NI->V->Prop
 | .inl k,v=>v=kV k
 | .inr ls,v=>∃b,v=.ref b/\H b=some (.tup (ls.map kV))
abbrev Ov (H:Hp):List NI->Lv->Prop:=Paired (NV H)
def kP(H:Hp)(ks:List NI)(a:Addr):Prop:=∃vs,H a=some (.tup vs)/\Ov H ks vs
theorem aE{α β:Type}{F G:α->β->Prop}:∀{l₁:List α}{l₂:List β},Paired F l₁ l₂->(∀a b,F a b->G a b)->Paired G l₁ l₂
 | _,_,.nil,_=>.nil
 | _,_,.cons r t,f=>.cons (f _ _ r) (aE t f)
theorem kP.keeps{H H':Hp}{ks:List NI}{a:Addr}(x:kP H ks a)(ht:∀b xs,H b=some (.tup xs)->H' b=some (.tup xs)):kP H' ks a:=by
 obtain⟨vs,e,r⟩:=x;refine⟨vs,ht _ _ e,aE r fun i v z=>?_⟩;cases i with
 | inl k=>exact z
 | inr l=>
  obtain⟨b,e1,e2⟩:=z;exact⟨b,e1,ht _ _ e2⟩
section
variable (P:Program)(w:World)
def ci(H:Hp)(h:Heap)(a:Addr):HO->Prop
 | .lst xs=>xs.length<=sizeLine/\∃(its:Lw) (n:Nat),aQ xs its/\h.get? a=some { cls:=.type "list",data:=.seq its.toArray n }
 | .tup xs=>xs.length<=sizeLine/\∃its:Lw,aQ xs its/\IsTup h a its.toArray
 | .dK kvs=>kvs.length<=sizeLine/\(a == sysModules)=false/\∃vs,KV kvs vs/\h.DictOf (cw P w) a vs
 | .dT kvs=>kvs.length<=sizeLine/\(a == sysModules)=false/\∃xs:List (List NI×Addr×Value),
  Paired (fun(p:List NI×V) (q:List NI×Addr×Value)=>p.1=q.1/\kP H p.1 q.2.1/\RelV p.2 q.2.2) kvs xs /\
  ∃o es ep,h.get? a=some o/\o.ExactDict/\o.data=.dict es ep/\es.toList=xs.map (entryOfKey (tS P w))/\(xs.map (·.1)).Nodup
 | .set S n=>h.SetOf (intKind P w) a S n
 | .ins C dx fs=>H dx=some (.own a)/\fs.length<=1000/\dx≠a/\h.get? a=some (PySem.W.instObj C dx) /\
  ∃mA,h.Ns1 dx mA/\(∀f,gg (fs.lookup f) (mA f))/\PySem.Within mA (fs.map (·.1))
 | .own _=>∃o,h.get? a=some o
 | .xd fs=>∃mA,h.Ns1 a mA/\∀f,gg (fs.lookup f) (mA f)
 | .rng lo hi=>∃t u v,h.get? a=some { cls:=.type "range",data:=.fields #[.int lo t,.int hi u,.int 1 v] }
 | .frz o u=>h.get? a=some o/\ci H h a u
 | .tbl ps=>h.get? a=some { cls:=.none,data:=.fields ps }
 | .met f x=>h.get? a=some (PySem.W.methodObj (.ref f) (.ref x))
 | .ext φ=>φ h/\(∃o,h.get? a=some o)/\∀h1 h2:Heap,φ h1->(∀o,h1.get? a=some o->h2.get? a=some o)->φ h2
def cj(H:Hp)(h:Heap):Prop:=∀a o,H a=some o->ci P w H h a o
end
section
variable {P:Program}{w:World}{H H':Hp}{h h':Heap}{a:Addr}{o:HO}
theorem ci.lt(x:ci P w H h a o):a<h.objs.size:=by
 cases o with
 | lst xs=>obtain⟨_,_,_,_,e⟩:=x;exact bG e
 | tup xs=>obtain⟨_,_,_,p⟩:=x;exact p.lt
 | dK kvs=>obtain⟨_,_,_,_,o,_,_,e,_⟩:=x;exact bG e
 | dT kvs=>obtain⟨_,_,_,_,o,_,_,e,_⟩:=x;exact bG e
 | set S n=>obtain⟨o,_,_,_,e,_⟩:=x;exact bG e
 | ins C dx fs=>obtain⟨_,_,_,e,_⟩:=x;exact bG e
 | own y=>obtain⟨_,e⟩:=x;exact bG e
 | xd fs=>obtain⟨_,⟨_,_,_,e,_⟩,_⟩:=x;exact bG e
 | rng lo hi=>obtain⟨_,_,_,e⟩:=x;exact bG e
 | frz ob u=>obtain⟨e,_⟩:=x;exact bG e
 | tbl ps=>exact bG (show h.get? a=some _ from x)
 | met f y=>exact bG (show h.get? a=some _ from x)
 | ext φ=>obtain⟨_,⟨_,e⟩,_⟩:=x;exact bG e
theorem Paired.mapP{α β:Type}{F G:α->β->Prop}:∀{l₁:List α}{l₂:List β},Paired F l₁ l₂->(∀a b,F a b->G a b)->Paired G l₁ l₂
 | _,_,.nil,_=>.nil
 | _,_,.cons r t,f=>.cons (f _ _ r) (Paired.mapP t f)
theorem ci.stay(x:ci P w H h a o)(k:∀b u,(b=a\/H b=some (.own a))->h.get? b=some u->h'.get? b=some u)
 (ho:∀b,H b=some (.own a)->H' b=some (.own a)) (ht:∀b xs,H b=some (.tup xs)->H' b=some (.tup xs)):ci P w H' h' a o:=by
 induction o with
 | lst xs=>obtain⟨z,its,n,r,e⟩:=x;exact⟨z,its,n,r,k _ _ (.inl rfl) e⟩
 | tup xs=>obtain⟨z,its,r,ob,e,c⟩:=x;exact⟨z,its,r,ob,k _ _ (.inl rfl) e,c⟩
 | dK kvs=>obtain⟨z,y,vs,r,ob,es,ep,e,c⟩:=x;exact⟨z,y,vs,r,ob,es,ep,k _ _ (.inl rfl) e,c⟩
 | dT kvs=>
  obtain⟨z,y,xs,r,ob,es,ep,e,c⟩:=x;exact⟨z,y,xs,Paired.mapP r fun p q z=>⟨z.1,z.2.1.keeps ht,z.2.2⟩,ob,es,ep,k _ _ (.inl rfl) e,c⟩
 | set S n=>obtain⟨ob,es,ep,t,e,c⟩:=x;exact⟨ob,es,ep,t,k _ _ (.inl rfl) e,c⟩
 | ins C dx fs=>
  obtain⟨d,z,ne,e,mA,⟨od,es,ep,e2,c⟩,r⟩:=x;exact⟨ho _ d,z,ne,k _ _ (.inl rfl) e,mA,⟨od,es,ep,k _ _ (.inr d) e2,c⟩,r⟩
 | own y=>obtain⟨ob,e⟩:=x;exact⟨ob,k _ _ (.inl rfl) e⟩
 | xd fs=>obtain⟨mA,⟨od,es,ep,e,c⟩,r⟩:=x;exact⟨mA,⟨od,es,ep,k _ _ (.inl rfl) e,c⟩,r⟩
 | rng lo hi=>obtain⟨t,u,v,e⟩:=x;exact⟨t,u,v,k _ _ (.inl rfl) e⟩
 | frz ob u ih=>obtain⟨e,q⟩:=x;exact⟨k _ _ (.inl rfl) e,ih q⟩
 | tbl ps=>
  have e:h.get? a=some { cls:=.none,data:=.fields ps }:=x;show h'.get? a=some { cls:=.none,data:=.fields ps };exact k a _ (.inl rfl) e
 | met f y=>
  have e:h.get? a=some (PySem.W.methodObj (.ref f) (.ref y)):=x;show h'.get? a=some (PySem.W.methodObj (.ref f) (.ref y));exact k a _ (.inl rfl) e
 | ext φ=>obtain⟨p,⟨o,e⟩,st⟩:=x;exact⟨st _ _ p fun o q=>k _ _ (.inl rfl) q,⟨o,k _ _ (.inl rfl) e⟩,st⟩
theorem cj.lt(x:cj P w H h)(e:H a=some o):a<h.objs.size:=(x a o e).lt
theorem cj.fresh(x:cj P w H h)(e:h.objs.size<=a):H a=none:=by
 cases q:H a with
 | none=>rfl
 | some u=>exact absurd (gc (x.lt q) e) (pq _)
theorem cj.kept(x:cj P w H h)(k:∀b u,h.get? b=some u->h'.get? b=some u):cj P w H h':=fun a o e=>
 (x a o e).stay (fun b u _ q=>k b u q) (fun _ q=>q) fun _ _ q=>q
theorem cj.laid(x:cj P w H h)(k:∀b u,h.get? b=some u->h'.get? b=some u)(hp:h.objs.size<=a)(new:ci P w (ah H a o) h' a o):cj P w (ah H a o) h':=fun b u e=>by
 have hn:=x.fresh hp
 by_cases hb:b=a
 . subst hb;rw[aH]at e;cases e;exact new
 . rw[aW hb]at e;exact(x b u e).stay (fun c v _ q=>k c v q) (fun c q=>by rw[aW (aL q hn)];exact q) fun c xs q=>by rw[aW (aL q hn)];exact q
end
def Rd(H:Hp)(a:Addr)(u:HO):Prop:=H a=some u\/∃o,H a=some (.frz o u)
theorem Rd.ok{P:Program}{w:World}{H:Hp}{h:Heap}{a:Addr}{u:HO}(r:Rd H a u)(x:cj P w H h):ci P w H h a u:=by
 rcases r with r | ⟨o,r⟩
 . exact x a u r
 . obtain⟨_,q⟩:=x a _ r;exact q
def y7:Option HO->Prop
 | some (.lst _)=>True
 | some (.dK _)=>True
 | some (.dT _)=>True
 | some (.set _ _)=>True
 | some (.ins _ _ _)=>True
 | some (.ext _)=>True
 | _=>False
section
variable {P:Program}{w:World}{H:Hp}{h h':Heap}{x e:Addr}{o':HO}
theorem cj.write(ok:cj P w H h)(mu:y7 (H x))(he:e=x\/H e=some (.own x))(k:∀b u,b≠e->h.get? b=some u->h'.get? b=some u)(wo:∃u,h'.get? e=some u)
 (new:ci P w (ah H x o') h' x o'):cj P w (ah H x o') h':=fun b u q=>by
 have Ox:∀c y,H c=some (.own y)->c≠x:=fun c y r z=>by subst z;rw[r]at mu;exact mu
 have Xt:∀c xs,H c=some (.tup xs)->c≠x:=fun c xs r z=>by subst z;rw[r]at mu;exact mu
 by_cases hb:b=x
 . subst hb;rw[aH]at q;cases q;exact new
 . rw[aW hb]at q
   by_cases tU:b=e
   . have q':H b=some (.own x):=by
      rcases he with z | z
      . exact absurd (tU.trans z) hb
      . rw[tU];exact z
     rw[q]at q';cases q';obtain⟨v,hv⟩:=wo;exact⟨v,by rw[tU];exact hv⟩
   . refine(ok b u q).stay (fun c v hc r=>k c v ?_ r) (fun c r=>by rw[aW (Ox c b r)];exact r) fun c xs r=>by rw[aW (Xt c xs r)];exact r
     rcases hc with rfl | hc
     . exact tU
     . rintro rfl
       rcases he with z | z
       . exact Ox c b hc z
       . rw[hc]at z;cases z;exact hb rfl
end
structure Un(fs ex:List Addr)(H H':Hp)(h h':Heap):Prop where
 keep:∀b o,h.get? b=some o->H b=none->b∉fs->b∉ex->h'.get? b=some o
 slot:∀b o,h.get? b=some o->H b=none->b∈fs->b∉ex->∃sl,h'.get? b=some { o with slots:=sl }
 free:∀b o,h.get? b=some o->H b=none->b∉ex->H' b=none
 there:∀b o,h.get? b=some o->b∉ex->∃o',h'.get? b=some o'
 tups:∀b xs,H b=some (.tup xs)->H' b=some (.tup xs)
 frzs:∀b o u,H b=some (.frz o u)->H' b=some (.frz o u)
 tbls:∀b ps,H b=some (.tbl ps)->∃more,H' b=some (.tbl (ps++more))
section
variable {fs aM ex ex':List Addr}{H H1 H2:Hp}{h h1 h2 h':Heap}{a x e:Addr}{o:HO}
theorem Un.any(u:Un fs ex H H1 h h1){b:Addr}{ob:Obj}(q:h.get? b=some ob)(n:H b=none)(hx:b∉ex):∃sl,h1.get? b=some { ob with slots:=sl }:=by
 by_cases hb:b∈fs
 . exact u.slot b ob q n hb hx
 . exact⟨ob.slots,u.keep b ob q n hb hx⟩
theorem Un.trans(a:Un fs ex H H1 h h1)(b:Un fs ex H1 H2 h1 h2):Un fs ex H H2 h h2 where
 keep:=fun c ob q n hc hx=>b.keep c ob (a.keep c ob q n hc hx) (a.free c ob q n hx) hc hx
 slot:=fun c ob q n hc hx=>by
  obtain⟨sl,e1⟩:=a.slot c ob q n hc hx;obtain⟨tV,e2⟩:=b.slot c _ e1 (a.free c ob q n hx) hc hx;exact⟨tV,e2⟩
 free:=fun c ob q n hx=>by
  obtain⟨o',e1⟩:=a.there c ob q hx;exact b.free c o' e1 (a.free c ob q n hx) hx
 there:=fun c ob q hx=>by
  obtain⟨o',e1⟩:=a.there c ob q hx;exact b.there c o' e1 hx
 tups:=fun c xs q=>b.tups c xs (a.tups c xs q)
 frzs:=fun c ob xs q=>b.frzs c ob xs (a.frzs c ob xs q)
 tbls:=fun c ps q=>by
  obtain⟨m1,e1⟩:=a.tbls c ps q;obtain⟨m2,e2⟩:=b.tbls c _ e1;exact⟨m1++m2,by rw[e2,Array.append_assoc]⟩
theorem Un.kept(k:∀b u,h.get? b=some u->h'.get? b=some u):Un fs ex H H h h':=
 ⟨fun b ob q _ _ _=>k b ob q,fun b ob q _ _ _=>⟨ob.slots,k b ob q⟩,fun _ _ _ n _=>n,fun b ob q _=>⟨ob,k b ob q⟩,fun _ _ q=>q,fun _ _ _ q=>q,fun _ ps q=>⟨#[],by rw[q];simp⟩⟩
theorem Un.refl:Un fs ex H H h h:=Un.kept fun _ _ q=>q
theorem Un.laid(k:∀b u,h.get? b=some u->h'.get? b=some u)(hp:h.objs.size<=a)(hn:H a=none):Un fs ex H (ah H a o) h h' where
 keep:=fun b u q _ _ _=>k b u q
 slot:=fun b u q _ _ _=>⟨u.slots,k b u q⟩
 free:=fun b u q n _=>by rw[aW (cS (gc (bG q) hp))];exact n
 there:=fun b u q _=>⟨u,k b u q⟩
 tups:=fun b xs q=>by rw[aW (aL q hn)];exact q
 frzs:=fun b u xs q=>by rw[aW (aL q hn)];exact q
 tbls:=fun b ps q=>⟨#[],by rw[aW (aL q hn),q];simp⟩
theorem Un.write(mu:y7 (H x))(he:e=x\/H e=some (.own x))(k:∀b u,b≠e->h.get? b=some u->h'.get? b=some u)(wo:∃u,h'.get? e=some u):Un fs ex H (ah H x o) h h':=by
 have hx:∀b,H b=none->b≠x:=fun b n z=>by subst z;rw[n]at mu;exact mu
 have hb:∀b,H b=none->b≠e:=fun b n z=>by
  subst z
  rcases he with r | r
  . exact hx b n r
  . rw[n]at r;cases r
 have hm:∀b u,H b=some u->¬y7 (some u)->b≠x:=fun b u q nm z=>by subst z;rw[q]at mu;exact nm mu
 refine⟨fun b u q n _ _=>k b u (hb b n) q,fun b u q n _ _=>⟨u.slots,k b u (hb b n) q⟩,fun b u q n _=>by rw[aW (hx b n)];exact n,fun b u q _=>?_,
  fun b xs q=>by rw[aW (hm b _ q fun z=>z)];exact q,fun b u xs q=>by rw[aW (hm b _ q fun z=>z)];exact q,fun b ps q=>⟨#[],by rw[aW (hm b _ q fun z=>z),q];simp⟩⟩
 by_cases tU:b=e
 . subst tU;exact wo
 . exact⟨u,k b u tU q⟩
end
def Cz(h:Heap)(H:Hp):List Addr:=(List.range h.objs.size).filter fun a=>(H a).isSome
def nG(h:Heap)(H:Hp):Heap:=PySem.W.hideAll h (Cz h H)
theorem Xu(h:Heap)(H:Hp):(nG h H).objs.size=h.objs.size:=PySem.W.hideAll_size _ _
theorem Xv{h:Heap}{H:Hp}{b:Addr}{o:Obj}(e:h.get? b=some o)(n:H b=none):(nG h H).get? b=some o:=
 PySem.W.hideAll_get _ e fun hm=>by
  have q:(H b).isSome=true:=(qL.mp hm).2;rw[n]at q;simp at q
theorem Xw{h:Heap}{H:Hp}{b:Addr}{o:Obj}(e:(nG h H).get? b=some o):h.get? b=some o/\H b=none:=by
 have e':h.get? b=some o:=PySem.W.of_hideAll (Cz h H) e;refine⟨e',?_⟩;cases q:H b with
 | none=>rfl
 | some x=>
  have hm:b∈Cz h H:=qL.mpr ⟨Ca.mpr (bG e'),by simp[q]⟩;have z:(nG h H).get? b=none:=PySem.W.hideAll_none (Cz h H) hm;rw[z]at e;cases e
structure Mod(K:Fg)(mg:Mv)(base:Heap):Prop where
 kin:K.In base
 glob:base.Ns mainGlobals mg
 blt:∃mb,base.Ns builtinsNs mb/\∀x:Str,x≠"__name__"->mb x=bootBuiltins x
 nolimit:base.NoLimit
structure Cx where
 prog:Program
 w:World
 K:Fg
 mg:Mv
 base:Heap
 A:Around
 N:Ls
 s₀:Shared
 H₀:Hp
 env:Env
 outer:List Env
 stack:List Env
 ex:List Addr
 fn:Str->Bool
 calm:Bool
 pn:Po
 xe:VP
def cE(l:List Env):List Addr:=l.filterMap (·.frame)
abbrev Cx.fs (X:Cx):List Addr:=cE X.outer
def CA(sc:Scope)(x:Str):Prop:=sc.names.lookup x=some .local\/sc.names.lookup x=some .cell\/sc.names.lookup x=some .free
def Loc(sc:Scope)(x:Str):Prop:=sc.names.lookup x=some .local\/sc.names.lookup x=some .cell
def Look(env:Env)(h:Heap)(m:Mv)(x:Str)(u:Value):Prop:=
 (env.kindOf x=some .local/\m x=some u)\/((env.kindOf x=some .cell\/env.kindOf x=some .free)/\∃c,env.cells.lookup x=some c/\h.IsCell c (some u))
structure Cx.Ok(X:Cx):Prop where
 mod:Mod X.K X.mg X.base
 kind:X.env.scope.kind=.function
 glob:X.env.globals=mainGlobals
 blt:X.env.builtins=builtinsNs
 above:X.s₀.heap.objs.size<=X.env.locals
 inj:∀x y c,X.env.cells.lookup x=some c->X.env.cells.lookup y=some c->x=y
 has:∀x,(X.env.kindOf x=some .cell\/X.env.kindOf x=some .free)->∃c,X.env.cells.lookup x=some c
 cab:∀x c,X.fn x=true->X.env.cells.lookup x=some c->X.s₀.heap.objs.size<=c
 hd:X.calm=true->X.A.handled=none
 frames:X.A.frames=some X.stack
 stk:X.stack=X.outer\/(X.stack=X.env::X.outer/\X.env.frame=some X.env.locals)
 exf:∀b∈X.ex,b≠X.env.locals/\∀x c,X.env.cells.lookup x=some c->c≠b
 bs:∀b o,X.base.get? b=some o->X.s₀.heap.get? b=some o/\X.H₀ b=none
 bsz:X.base.objs.size<=X.s₀.heap.objs.size
 noex:∀b o,X.base.get? b=some o->b∉X.ex
 exfs:∀b∈X.ex,b∉X.fs
 funs:X.s₀.heap.FunFrames X.base X.outer
 frf:∀b∈X.fs,X.H₀ b=none
structure Inv(X:Cx)(pins:Po)(σ:List (Option V))(H:Hp)(s:Shared):Prop where
 ok:X.Ok
 os:s.os=X.s₀.os
 bare:AllBare s.gens
 base:Un X.fs X.ex X.H₀ H X.s₀.heap s.heap
 loc:∃m,s.heap.Ns X.env.locals m/\∀(i:Nat) (x:Str) (v:V),X.N[i]?=some x->σ[i]?=some (some v)->CA X.env.scope x->∃u,RelV v u/\Look X.env s.heap m x u
 cell:∀x c,X.env.cells.lookup x=some c->∃v,s.heap.IsCell c v
 free:H X.env.locals=none
 freeC:∀x c,X.env.cells.lookup x=some c->H c=none
 pin:∀p∈X.pn++pins,s.heap.get? p.1=some p.2/\H p.1=none/\p.1≠X.env.locals/\p.1∉X.fs/\∀v,p.2.data≠.cell v
 hok:cj X.prog X.w H s.heap
 len:σ.length=X.N.length
section
variable {X:Cx}{pins:Po}{σ:List (Option V)} {H H':Hp}{s:Shared}{h':Heap}
theorem Cx.Ok.nofr(ok:X.Ok){b:Addr}{o:Obj}(e:X.base.get? b=some o):b∉X.fs:=fun hb=>by
 have:=(ok.funs.mem hb).1;rw[e]at this;cases this
theorem Inv.bs(I:Inv X pins σ H s):∀b o,X.base.get? b=some o->s.heap.get? b=some o/\H b=none:=fun b o e=>
 ⟨I.base.keep b o (I.ok.bs b o e).1 (I.ok.bs b o e).2 (I.ok.nofr e) (I.ok.noex b o e),I.base.free b o (I.ok.bs b o e).1 (I.ok.bs b o e).2 (I.ok.noex b o e)⟩
theorem Inv.bk(I:Inv X pins σ H s):∀b o,X.base.get? b=some o->s.heap.get? b=some o:=fun b o e=>(I.bs b o e).1
theorem Inv.mod(I:Inv X pins σ H s):Mod X.K X.mg X.base:=I.ok.mod
theorem Inv.kIn(I:Inv X pins σ H s):X.K.In s.heap:=I.ok.mod.kin.keeps I.bk
theorem Inv.lt(I:Inv X pins σ H s):X.env.locals<s.heap.objs.size:=I.loc.elim fun _ Xx=>Xx.elim fun hn _=>hn.lt
theorem Inv.sz(I:Inv X pins σ H s):X.s₀.heap.objs.size<=s.heap.objs.size:=cu I.ok.above (wg I.lt)
theorem Inv.nofs(I:Inv X pins σ H s){a:Addr}(h:s.heap.objs.size<=a):a∉X.fs:=fun hb=>by
 obtain⟨_,o,ho,_⟩:=I.ok.funs.mem hb;exact absurd (gc (bG ho) (cu I.sz h)) (pq _)
theorem Inv.cne(I:Inv X pins σ H s):∀x c,X.env.cells.lookup x=some c->c≠X.env.locals:=fun x c e z=>by
 obtain⟨v,o,ho,hd⟩:=I.cell x c e;obtain⟨m,⟨o',es,ep,iS,nI,_⟩,_⟩:=I.loc;rw[z,iS]at ho;cases ho;rw[nI]at hd;cases hd
theorem Inv.funs(I:Inv X pins σ H s):s.heap.FunFrames X.base X.outer:=by
 have all:∀(l:List Env),(∀b∈cE l,b∈X.fs)->X.s₀.heap.FunFrames X.base l->s.heap.FunFrames X.base l:=by
  intro l
  induction l with
  | nil=>intro _ _;trivial
  | cons env r ih=>
   intro hs hl;obtain⟨hk,⟨L,o,hf,hn,ho,hd⟩,hr⟩:=hl;have hL:L∈X.fs:=hs L (by unfold cE;rw[GL,hf];exact bK);obtain⟨sl,e⟩:=I.base.slot L o ho (I.ok.frf L hL) hL fun z=>I.ok.exfs L z hL;exact⟨hk,⟨L,_,hf,hn,e,hd⟩,ih (fun b hb=>hs b (by unfold cE;rw[GL,hf];exact bR _ hb)) hr⟩
 exact all X.outer (fun _ hb=>hb) I.ok.funs
theorem Inv.stack(I:Inv X pins σ H s):s.heap.FunFrames X.base X.stack:=by
 rcases I.ok.stk with e | ⟨e,hf⟩
 . rw[e];exact I.funs
 . rw[e];obtain⟨m,hn,_⟩:=I.loc;refine .cons (by rw[I.ok.kind];decide) hf hn ?_ I.funs;exact Heap.get?_none_of_le (cu I.ok.bsz I.ok.above)
theorem Inv.stkSub(I:Inv X pins σ H s):∀b∈cE X.stack,b∈X.env.locals::X.fs:=fun b hb=>by
 rcases I.ok.stk with e | ⟨e,hf⟩
 . rw[e]at hb;exact bR _ hb
 . rw[e]at hb;unfold cE at hb;rw[GL,hf]at hb;exact hb
theorem Inv.stkFree(I:Inv X pins σ H s):∀b∈cE X.stack,H b=none:=fun b hb=>by
 rcases aY.mp (I.stkSub b hb) with e | hb
 . rw[e];exact I.free
 . obtain⟨_,o,ho,_⟩:=I.ok.funs.mem hb;exact I.base.free b o ho (I.ok.frf b hb) fun z=>I.ok.exfs b z hb
theorem Inv.step{g':Array GenState}{t':Nat}{d':Drawn}{ch:List Addr}(I:Inv X pins σ H s)
 (kQ:∀b∈ch,(b∈X.ex\/X.s₀.heap.objs.size<=b)/\b≠X.env.locals/\(∀x c,X.env.cells.lookup x=some c->c≠b)/\∀p∈X.pn++pins,p.1≠b)
 (keep:∀b o,b≠X.env.locals->b∉X.fs->b∉ch->s.heap.get? b=some o->H b=none->h'.get? b=some o)
 (slot:∀b o,b≠X.env.locals->b∈X.fs->b∉ch->s.heap.get? b=some o->H b=none->∃sl,h'.get? b=some { o with slots:=sl }) (free:∀b o,b∉ch->s.heap.get? b=some o->H b=none->H' b=none)
 (there:∀b o,b∉ch->s.heap.get? b=some o->∃o',h'.get? b=some o')
 (tups:∀b xs,H b=some (.tup xs)->H' b=some (.tup xs)) (frzs:∀b o u,H b=some (.frz o u)->H' b=some (.frz o u)) (tbls:∀b ps,H b=some (.tbl ps)->∃more,H' b=some (.tbl (ps++more)))
 (ns:∀m,s.heap.Ns X.env.locals m->h'.Ns X.env.locals m) (hok:cj X.prog X.w H' h') (hg:AllBare g') :
 Inv X pins σ H' { s with heap:=h',gens:=g',drawn:=d',toks:=t' }:=by
 have Oy:∀b o,X.s₀.heap.get? b=some o->b≠X.env.locals:=fun b o e=>cS (gc (bG e) I.ok.above);have CB:∀b o,X.s₀.heap.get? b=some o->b∉X.ex->b∉ch:=fun b o e hx hb=>by
  rcases(kQ b hb).1 with z | z
  . exact hx z
  . exact absurd (gc (bG e) z) (pq _)
 have cellK:∀x c,X.env.cells.lookup x=some c->∀v,s.heap.IsCell c v->h'.IsCell c v:=fun x c e v Xy=>Xy.elim fun o Xz=>Xz.elim fun ho hd=>by
  have nch:c∉ch:=fun z=>(kQ c z).2.2.1 x c e rfl
  by_cases hc:c∈X.fs
  . obtain⟨sl,q⟩:=slot c o (I.cne x c e) hc nch ho (I.freeC x c e);exact⟨_,q,hd⟩
  . exact⟨o,keep c o (I.cne x c e) hc nch ho (I.freeC x c e),hd⟩
 refine⟨I.ok,I.os,hg,⟨fun b o e n hb hx=>?_,fun b o e n hb hx=>?_,fun b o e n hx=>?_,fun b o e hx=>?_,fun b xs e=>tups b xs (I.base.tups b xs e),fun b o xs e=>frzs b o xs (I.base.frzs b o xs e),fun b ps e=>?_⟩,?_,fun x c e=>?_,?_,fun x c e=>?_,fun p hp=>?_,hok,I.len⟩
 . exact keep b o (Oy b o e) hb (CB b o e hx) (I.base.keep b o e n hb hx) (I.base.free b o e n hx)
 . obtain⟨sl,e1⟩:=I.base.slot b o e n hb hx;obtain⟨tV,e2⟩:=slot b _ (Oy b o e) hb (CB b o e hx) e1 (I.base.free b o e n hx);exact⟨tV,e2⟩
 . obtain⟨o',e1⟩:=I.base.there b o e hx;exact free b o' (CB b o e hx) e1 (I.base.free b o e n hx)
 . obtain⟨o',e1⟩:=I.base.there b o e hx;exact there b o' (CB b o e hx) e1
 . obtain⟨m1,e1⟩:=I.base.tbls b ps e;obtain⟨m2,e2⟩:=tbls b _ e1;exact⟨m1++m2,by rw[e2,Array.append_assoc]⟩
 . obtain⟨m,hn,hl⟩:=I.loc;refine⟨m,ns m hn,fun i x v e1 e2 e3=>?_⟩;obtain⟨u,r,l⟩:=hl i x v e1 e2 e3;refine⟨u,r,?_⟩
   rcases l with l | ⟨k,c,e,z⟩
   . exact .inl l
   . exact .inr ⟨k,c,e,cellK x c e _ z⟩
 . obtain⟨v,z⟩:=I.cell x c e;exact⟨v,cellK x c e v z⟩
 . obtain⟨m,⟨o,_,_,ho,_⟩,_⟩:=I.loc;exact free _ o (fun z=>(kQ _ z).2.1 rfl) ho I.free
 . obtain⟨v,o,ho,hd⟩:=I.cell x c e;exact free c o (fun z=>(kQ c z).2.2.1 x c e rfl) ho (I.freeC x c e)
 . obtain⟨e,n,ne,nf,d⟩:=I.pin p hp;have nch:p.1∉ch:=fun z=>(kQ p.1 z).2.2.2 p hp rfl;exact⟨keep p.1 p.2 ne nf nch e n,free p.1 p.2 nch e n,ne,nf,d⟩
theorem Inv.un{t':Nat}(I:Inv X pins σ H s)(u:Un X.fs [] H H' s.heap h')(hok:cj X.prog X.w H' h'):Inv X pins σ H' { s with heap:=h',toks:=t' }:=by
 obtain⟨m,⟨o,es,ep,ho,r⟩,_⟩:=id I.loc;obtain⟨sl,hL⟩:=u.any ho I.free (by simp);exact I.step (g':=s.gens) (d':=s.drawn) (ch:=[]) (fun _ z=>nomatch z) (fun b o _ hb _ e n=>u.keep b o e n hb (by simp)) (fun b o _ hb _ e n=>u.slot b o e n hb (by simp)) (fun b o _ e n=>u.free b o e n (by simp)) (fun b o _ e=>u.there b o e (by simp)) u.tups u.frzs u.tbls (fun m' hm=>by
  obtain⟨o',es',wp,iS,r'⟩:=hm;rw[ho]at iS;cases iS;exact⟨_,es',wp,hL,r'⟩) hok I.bare
theorem Inv.call{g':Array GenState}{t':Nat}{d':Drawn}{ch:List Addr}(I:Inv X pins σ H s)(u:Un (cE X.stack) ch H H' s.heap h')(hok:cj X.prog X.w H' h')(hg:AllBare g')
 (kQ:∀b∈ch,(b∈X.ex\/X.s₀.heap.objs.size<=b)/\b≠X.env.locals/\(∀x c,X.env.cells.lookup x=some c->c≠b)/\∀p∈X.pn++pins,p.1≠b) :
 Inv X pins σ H' { s with heap:=h',gens:=g',drawn:=d',toks:=t' }:=by
 obtain⟨m,⟨o,es,ep,ho,r⟩,_⟩:=id I.loc;obtain⟨sl,hL⟩:=u.any ho I.free fun z=>(kQ _ z).2.1 rfl;exact I.step (ch:=ch) kQ (fun b o hL hb hc e n=>u.keep b o e n (fun z=>(aY.mp (I.stkSub b z)).elim hL hb) hc) (fun b o _ _ hc e n=>u.any e n hc) (fun b o hc e n=>u.free b o e n hc) (fun b o hc e=>u.there b o e hc) u.tups u.frzs u.tbls (fun m' hm=>by
  obtain⟨o',es',wp,iS,r'⟩:=hm;rw[ho]at iS;cases iS;exact⟨_,es',wp,hL,r'⟩) hok hg
theorem Inv.turned{t':Nat}{it:Addr}(I:Inv X pins σ H s)(k:∀b o,b≠it->s.heap.get? b=some o->h'.get? b=some o)(hn:H it=none)(hL:it≠X.env.locals)
 (h1:it∈X.ex\/X.s₀.heap.objs.size<=it) (h2:∀x c,X.env.cells.lookup x=some c->c≠it) (h3:∀p∈X.pn++pins,p.1≠it):Inv X pins σ H { s with heap:=h',toks:=t' }:=by
 have y8:∀b u,H b=some u->b≠it:=fun b u e z=>by rw[z,hn]at e;cases e
 refine I.step (g':=s.gens) (d':=s.drawn) (ch:=[it]) (fun b hb=>?_) (fun b o _ _ hc e _=>k b o (fun z=>hc (by simp[z])) e) (fun b o _ _ hc e _=>⟨o.slots,k b o (fun z=>hc (by simp[z])) e⟩) (fun _ _ _ _ n=>n)
  (fun b o hc e=>⟨o,k b o (fun z=>hc (by simp[z])) e⟩) (fun _ _ e=>e) (fun _ _ _ e=>e) (fun b ps e=>⟨#[],by rw[e];simp⟩) (fun m hm=>?_) (fun b u e=>?_) I.bare
 . have e:b=it:=by simpa using hb
   subst e;exact⟨h1,hL,h2,h3⟩
 . obtain⟨o,es,ep,ho,r⟩:=hm;exact⟨o,es,ep,k _ o (ge hL) ho,r⟩
 . refine(I.hok b u e).stay (fun c v hc q=>k c v ?_ q) (fun _ q=>q) fun _ _ q=>q
   rcases hc with z | z
   . rw[z];exact y8 b u e
   . exact y8 c _ z
theorem Inv.tok(I:Inv X pins σ H s)(t:Nat):Inv X pins σ H { s with toks:=t }:=I.un (h':=s.heap) (t':=t) Un.refl I.hok
theorem Inv.kept{t':Nat}(I:Inv X pins σ H s)(k:∀b u,s.heap.get? b=some u->h'.get? b=some u):Inv X pins σ H { s with heap:=h',toks:=t' }:=I.un (Un.kept k) (I.hok.kept k)
theorem Inv.laid{a:Addr}{o:HO}{t':Nat}(I:Inv X pins σ H s)(k:∀b u,s.heap.get? b=some u->h'.get? b=some u)(hp:s.heap.objs.size<=a)(new:ci X.prog X.w (ah H a o) h' a o) :
 Inv X pins σ (ah H a o) { s with heap:=h',toks:=t' }:=I.un (Un.laid k hp (I.hok.fresh hp)) (I.hok.laid k hp new)
theorem Inv.write{x e:Addr}{o:HO}{t':Nat}(I:Inv X pins σ H s)(mu:y7 (H x))(he:e=x\/H e=some (.own x))(k:∀b u,b≠e->s.heap.get? b=some u->h'.get? b=some u)(wo:∃u,h'.get? e=some u)
 (new:ci X.prog X.w (ah H x o) h' x o):Inv X pins σ (ah H x o) { s with heap:=h',toks:=t' }:=I.un (Un.write mu he k wo) (I.hok.write mu he k wo new)
theorem Inv.pins_of{G6:Po}(I:Inv X pins σ H s)(h:∀p∈G6,s.heap.get? p.1=some p.2/\H p.1=none/\p.1≠X.env.locals/\p.1∉X.fs/\∀v,p.2.data≠.cell v):Inv X G6 σ H s:=
 ⟨I.ok,I.os,I.bare,I.base,I.loc,I.cell,I.free,I.freeC,fun p hp=>(bS.mp hp).elim (fun z=>I.pin p (yD _ z)) (h p),I.hok,I.len⟩
theorem Oz{N:Ls}(hN:N.Nodup){i j:Nat}{x:Str}(a:N[i]?=some x)(b:N[j]?=some x):i=j:=by
 obtain⟨h1,e1⟩:=cW.mp a;obtain⟨h2,e2⟩:=cW.mp b;exact(List.getElem_inj hN).mp (e1.trans e2.symm)
theorem OA{M:Model}{A:Around}{E:VP}{i:Nat}{x:Str}{v:V}{u:Value}{Q:Unit->Shared->Prop}(I:Inv X pins σ H s)(hN:X.N.Nodup)(hi:X.N[i]?=some x)(hx:Loc X.env.scope x)(r:RelV v u)
 (h:∀s',Inv X pins (σ.set i (some v)) H s'->(∃a,Heap.SameBut a s.heap s'.heap/\(a=X.env.locals\/X.env.cells.lookup x=some a))->Q () s') (hf:X.fn x=true\/X.env.scope.names.lookup x=some .local:=by first | exact .inl rfl | exact .inr rfl | assumption):wpAny M A (storeName X.env x u) Q E s:=by
 obtain⟨m,hn,hl⟩:=id I.loc;have XA:(X.env.scope.kind == .class || (X.env.scope.kind == .module && X.env.locals != X.env.globals))=false:=by rw[I.ok.kind];rfl
 have OB:i<σ.length:=by rw[I.len];exact(cW.mp hi).1
 have cne:=I.cne;have tracked:∀{a:Addr}{h':Heap},(∃o,s.heap.get? a=some o/\H a=none)->Heap.SameBut a s.heap h'->cj X.prog X.w H h':=fun {a h'} ha hs b ob e=>by
  obtain⟨_,_,OC⟩:=ha;refine(I.hok b ob e).stay (fun c w' hc q=>(hs.2 c ?_).trans q) (fun _ q=>q) fun _ _ q=>q;rintro rfl
  rcases hc with rfl | hc
  . rw[OC]at e;cases e
  . rw[OC]at hc;cases hc
 rcases hx with hk | hk
 . refine wpAny_storeName_local hk hn (fun h' jS hs=>?_) XA;obtain⟨oL,_,_,pC,_⟩:=id hn;refine h _ ⟨I.ok,I.os,I.bare,⟨fun b o e n hb hx=>?_,fun b o e n hb hx=>?_,I.base.free,fun b o e hx=>?_,I.base.tups,I.base.frzs,I.base.tbls⟩,⟨_,jS,fun j y v' e1 e2 e3=>?_⟩,fun y c e=>?_,I.free,I.freeC,fun p hp=>?_,tracked ⟨oL,pC,I.free⟩ hs,by simpa using I.len⟩ ⟨_,hs,.inl rfl⟩
   . exact(hs.2 b (cS (gc (bG e) I.ok.above))).trans (I.base.keep b o e n hb hx)
   . obtain⟨sl,e1⟩:=I.base.slot b o e n hb hx;exact⟨sl,(hs.2 b (cS (gc (bG e) I.ok.above))).trans e1⟩
   . obtain⟨o',e1⟩:=I.base.there b o e hx;exact⟨o',(hs.2 b (cS (gc (bG e) I.ok.above))).trans e1⟩
   . by_cases hj:j=i
     . subst hj;rw[hi]at e1;cases e1;rw[axA OB]at e2;cases e2;exact⟨u,r,.inl ⟨hk,by simp⟩⟩
     . rw[List.getElem?_set_ne (ge hj)]at e2;obtain⟨u',r',q⟩:=hl j y v' e1 e2 e3;refine⟨u',r',?_⟩
       rcases q with⟨k,e⟩ | ⟨k,c,e,z⟩
       . refine .inl ⟨k,?_⟩;have:y≠x:=fun e=>hj (Oz hN e1 (e▸hi));simp[this,e]
       . exact .inr ⟨k,c,e,z.sameBut hs (cne y c e)⟩
   . obtain⟨w',z⟩:=I.cell y c e;exact⟨w',z.sameBut hs (cne y c e)⟩
   . obtain⟨e,n,ne,nf,d⟩:=I.pin p hp;exact⟨(hs.2 p.1 ne).trans e,n,ne,nf,d⟩
 . have wq:X.fn x=true:=by
    rcases hf with z | z
    . exact z
    . rw[z]at hk;cases hk
   obtain⟨c,hc⟩:=I.ok.has x (.inl hk);obtain⟨w',z⟩:=I.cell x c hc;refine wpAny_storeName_cell I.ok.kind hk hc z (fun h' jT hs=>?_);obtain⟨oc,pD,XB⟩:=id z;refine h { s with heap:=h' } ⟨I.ok,I.os,I.bare,⟨fun b o e n hb hx=>?_,fun b o e n hb hx=>?_,I.base.free,fun b o e hx=>?_,I.base.tups,I.base.frzs,I.base.tbls⟩,⟨m,hn.sameBut hs (ge (cne x c hc)),fun j y v' e1 e2 e3=>?_⟩,fun y c' e=>?_,I.free,I.freeC,fun p hp=>?_,tracked ⟨oc,pD,I.freeC x c hc⟩ hs,by simpa using I.len⟩ ⟨c,hs,.inr hc⟩
   . exact(hs.2 b (cS (gc (bG e) (I.ok.cab x c wq hc)))).trans (I.base.keep b o e n hb hx)
   . obtain⟨sl,e1⟩:=I.base.slot b o e n hb hx;exact⟨sl,(hs.2 b (cS (gc (bG e) (I.ok.cab x c wq hc)))).trans e1⟩
   . obtain⟨o',e1⟩:=I.base.there b o e hx;exact⟨o',(hs.2 b (cS (gc (bG e) (I.ok.cab x c wq hc)))).trans e1⟩
   . by_cases hj:j=i
     . subst hj;rw[hi]at e1;cases e1;rw[axA OB]at e2;cases e2;exact⟨u,r,.inr ⟨.inl hk,c,hc,jT⟩⟩
     . rw[List.getElem?_set_ne (ge hj)]at e2;obtain⟨u',r',q⟩:=hl j y v' e1 e2 e3;refine⟨u',r',?_⟩
       rcases q with q | ⟨k,c',e,z'⟩
       . exact .inl q
       . refine .inr ⟨k,c',e,z'.sameBut hs ?_⟩;rintro rfl;exact hj (Oz hN e1 (I.ok.inj _ _ _ e hc▸hi))
   . by_cases OD:c'=c
     . subst OD;exact⟨_,jT⟩
     . obtain⟨w2,z2⟩:=I.cell y c' e;exact⟨w2,z2.sameBut hs OD⟩
   . obtain⟨e,n,ne,nf,d⟩:=I.pin p hp;refine⟨(hs.2 p.1 ?_).trans e,n,ne,nf,d⟩;intro q;rw[q,pD]at e;have q':oc=p.2:=gz e;exact d w' (by rw[←q'];exact XB)
theorem OE{M:Model}{A:Around}{E:VP}{i:Nat}{x:Str}{v:V}{u:Value}{Q:Unit->Shared->Prop}(I:Inv X pins σ H s)(hN:X.N.Nodup)(hi:X.N[i]?=some x)(hx:Loc X.env.scope x)(r:RelV v u)
 (h:∀s',Inv X pins (σ.set i (some v)) H s'->Q () s') (hf:X.fn x=true\/X.env.scope.names.lookup x=some .local:=by first | exact .inl rfl | exact .inr rfl | assumption):wpAny M A (storeName X.env x u) Q E s:=
 OA I hN hi hx r (fun s' I' _=>h s' I') hf
theorem Inv.call'{s':Shared}{ch:List Addr}(I:Inv X pins σ H s)(ho:s'.os=s.os)(u:Un (cE X.stack) ch H H' s.heap s'.heap)(hok:cj X.prog X.w H' s'.heap)(hg:AllBare s'.gens)
 (kQ:∀b∈ch,(b∈X.ex\/X.s₀.heap.objs.size<=b)/\b≠X.env.locals/\(∀x c,X.env.cells.lookup x=some c->c≠b)/\∀p∈X.pn++pins,p.1≠b):Inv X pins σ H' s':=by
 obtain⟨h',g',d',t',o'⟩:=s';have e:o'=s.os:=ho;subst e;exact I.call (g':=g') (t':=t') (d':=d') u hok hg kQ
end
abbrev XK:=Value->Oa->Hp->Prop
abbrev St:=List (Option V)
abbrev VK:=V->Hp->Prop
abbrev TE:=St->Hp->VK->Prop
abbrev TT:=St->Hp->(Bool->Hp->Prop)->Prop
abbrev TA:=St->Hp->(Lv->Hp->Prop)->Prop
structure Ends where
 nx:St->Hp->Prop
 rt:VK
 bk:St->Hp->Prop:=fun _ _=>False
 ct:St->Hp->Prop:=fun _ _=>False
abbrev TS:=Ends->St->Hp->Prop
def EP(X:Cx)(pins:Po)(σ:St)(Q:VK)(u:Value)(s':Shared):Prop:=∃v H',Inv X pins σ H' s'/\RelV v u/\Q v H'
def TP(X:Cx)(pins:Po)(σ:St)(Q:Bool->Hp->Prop)(b:Bool)(s':Shared):Prop:=∃H',Inv X pins σ H' s'/\Q b H'
def AP(X:Cx)(pins:Po)(σ:St)(Q:Lv->Hp->Prop)(us:Lw)(s':Shared):Prop:=∃vs H',Inv X pins σ H' s'/\aQ vs us/\Q vs H'
def SP(X:Cx)(pins:Po)(D:Ends)(f:Flow)(s':Shared):Prop:=
 match f with
 | .next=>∃σ' H',Inv X pins σ' H' s'/\D.nx σ' H'
 | .brk=>∃σ' H',Inv X pins σ' H' s'/\D.bk σ' H'
 | .cont=>∃σ' H',Inv X pins σ' H' s'/\D.ct σ' H'
 | .ret u=>∃v σ' H',Inv X pins σ' H' s'/\RelV v u/\D.rt v H'
def PE(X:Cx)(e:Expr)(t:TE):Prop:=
 ∀(pins:Po) (s:Shared) (σ:St) (H:Hp) (Q:VK),Inv X pins σ H s->t σ H Q->wpAny (model X.prog X.w) X.A (eval e X.env) (EP X pins σ Q) X.xe s
def PT(X:Cx)(e:Expr)(t:TT):Prop:=
 ∀(pins:Po) (s:Shared) (σ:St) (H:Hp) (Q:Bool->Hp->Prop),Inv X pins σ H s->t σ H Q->wpAny (model X.prog X.w) X.A (isTrue e X.env (eval e X.env)) (TP X pins σ Q) X.xe s
def PW(X:Cx)(e:Expr)(t:TT):Prop:=
 ∀(whole:Sem Value) (pins:Po) (s:Shared) (σ:St) (H:Hp) (Q:Bool->Hp->Prop),Inv X pins σ H s->t σ H Q->wpAny (model X.prog X.w) X.A (isTrue e X.env whole) (TP X pins σ Q) X.xe s
theorem PW.pt{X:Cx}{e:Expr}{t:TT}(h:PW X e t):PT X e t:=h _
def PA(X:Cx)(es:List Expr)(t:TA):Prop:=
 ∀(pos:Pos) (pins:Po) (s:Shared) (σ:St) (H:Hp) (Q:Lv->Hp->Prop),Inv X pins σ H s->t σ H Q->wpAny (model X.prog X.w) X.A (spliced (backTo pos (starEach es X.env))) (AP X pins σ Q) X.xe s
def PS(X:Cx)(st:Stmt)(t:TS):Prop:=
 ∀(pins:Po) (s:Shared) (σ:St) (H:Hp) (D:Ends),Inv X pins σ H s->t D σ H->wpAny (model X.prog X.w) X.A (exec st X.env) (SP X pins D) X.xe s
def cn(X:Cx)(st:List Stmt)(t:TS):Prop:=
 ∀(pins:Po) (s:Shared) (σ:St) (H:Hp) (D:Ends),Inv X pins σ H s->t D σ H->wpAny (model X.prog X.w) X.A (execs st X.env) (SP X pins D) X.xe s
theorem thn{α:Type}{t:Sem α}{Q Q':α->Shared->Prop}{M:Model}{A:Around}{E:VP}{s:Shared}(h:wpAny M A t Q E s)(hQ:∀a s,Q a s->Q' a s):wpAny M A t Q' E s:=d8 h hQ fun _ _ x=>x
section
variable {X:Cx}
def wt(i:Nat):TE:=fun σ H Q=>∃v,σ[i]?=some (some v)/\Q v H
def tC(v:V):TE:=fun _ H Q=>Q v H
theorem XC{i:Nat}{x:Str}{pos:Pos}(hN:X.N[i]?=some x)(hv:CA X.env.scope x)(hd:(x == ("__debug__":Str))=false:=by decide)(iw:(x == ("__classdict__":Str))=false:=by decide):PE X (.Name x pos) (wt i):=by
 intro pins s σ H Q I h;obtain⟨v,e,h⟩:=h;obtain⟨m,hn,hl⟩:=I.loc;obtain⟨u,r,l⟩:=hl i x v hN e hv;have fin:EP X pins σ Q u s:=⟨v,H,I,r,h⟩
 rcases l with⟨hk,hm⟩ | ⟨hk,c,hc,hcell⟩
 . exact wpAny_Name (wpAny_loadName_local I.ok.kind hk hn hm fin) hd
 . rcases hk with hk | hk
   . exact wpAny_Name (wpAny_loadName_cell I.ok.kind hk hc hcell fin) hd
   . exact wpAny_Name (wpAny_loadName_free I.ok.kind hk hc hcell fin iw) hd
theorem aq{i j pos}:PE X (.Constant (.int i) j pos) (tC (.int i)):=fun _ _ _ H _ I h=>wpAny_Constant_int ⟨.int i,H,I.tok _,⟨_,rfl⟩,h⟩
theorem pE{b j pos}:PE X (.Constant (.bool b) j pos) (tC (.bl b)):=fun _ _ _ H _ I h=>Constant_bool ⟨.bl b,H,I,rfl,h⟩
theorem kR{j pos}:PE X (.Constant .none j pos) (tC .non):=fun _ _ _ H _ I h=>Constant_none ⟨.non,H,I,rfl,h⟩
theorem bV{x j pos}:PE X (.Constant (.str x) j pos) (tC (.str x)):=fun _ _ _ H _ I h=>Calls.Constant_str ⟨.str x,H,I.tok _,⟨_,rfl⟩,h⟩
def Gl(X:Cx)(x:Str):Prop:=X.env.kindOf x=some .globalImplicit
theorem wu{E:VP}{pins:Po}{s:Shared}{σ:St}{H:Hp}{x:Str}{u:Value}{pos:Pos}{Q:VP}(I:Inv X pins σ H s)(hg:Gl X x)(hm:X.mg x=some u)(h:Q u s)
 (hd:(x == ("__debug__":Str))=false:=by decide):wpAny (model X.prog X.w) X.A (eval (.Name x pos) X.env) Q E s:=
 axB I.ok.kind hg (Calls.loadGlobal_global (by rw[I.ok.glob];exact I.mod.glob.keeps I.bk) hm h) hd
theorem wv{E:VP}{pins:Po}{s:Shared}{σ:St}{H:Hp}{x:Str}{u:Value}{pos:Pos}{Q:VP}(I:Inv X pins σ H s)(hg:Gl X x)(hm:X.mg x=none)(hv:bootBuiltins x=some u)(h:Q u s)
 (hn:x≠"__name__":=by decide) (hd:(x == ("__debug__":Str))=false:=by decide):wpAny (model X.prog X.w) X.A (eval (.Name x pos) X.env) Q E s:=by
 obtain⟨mb,h1,h2⟩:=I.mod.blt;exact axB I.ok.kind hg (Calls.loadGlobal_builtin (by rw[I.ok.glob];exact I.mod.glob.keeps I.bk) hm (by rw[I.ok.blt];exact h1.keeps I.bk) ((h2 x hn).trans hv) h) hd
variable {a b:Expr}{ta tb:TE}{pos:Pos}
def PC(X:Cx)(op:CmpOp)(a b:Expr)(t:TE):Prop:=
 ∀(pins:Po) (s:Shared) (σ:St) (H:Hp) (Q:VK),Inv X pins σ H s->t σ H Q ->
  wpAny (model X.prog X.w) X.A (eval a X.env) (fun v s₁=>wpAny (model X.prog X.w) X.A (eval b X.env) (fun u s₂=>wpAny (model X.prog X.w) X.A (compareOp op v u) (EP X pins σ Q) X.xe s₂) X.xe s₁) X.xe s
def tB(t:TE):TT:=fun σ H Q=>t σ H fun x H1=>∃c,x=.bl c/\Q c H1
theorem ww{op:CmpOp}{t:TE}(h:PC X op a b t)(h1:behindInMarks op b=false:=by first | exact nobehind _ (by decide) (by decide) | rfl):PT X (.Compare a [op] [b] pos) (tB t):=by
 intro pins s σ H Q I hw;refine axC (thn (h pins s σ H _ I hw) fun v s1 h1=>thn h1 fun u s2 h2=>thn h2 fun c s3 XD=>XD.elim fun x XF=>XF.elim fun H1 XG=>XG.elim fun I1 XH=>XH.elim fun r1 q1=>?_) h1;obtain⟨d,rfl,q⟩:=q1;cases r1;exact wf ⟨H1,I1,q⟩
theorem kS{e:Expr}{t:TE}(h:PE X e t)(he:∀whole,isTrue e X.env whole=(do let v ←whole;standAt e.pos;holding [v] (truthy v)):=by intro _;rfl):PT X e (tB t):=by
 intro pins s σ H Q I hw;refine isTrue_plain (thn (h pins s σ H _ I hw) fun v s1 XI=>XI.elim fun x XJ=>XJ.elim fun H1 XM=>XM.elim fun I1 XN=>XN.elim fun r1 q1=>?_) (he _);obtain⟨d,rfl,q⟩:=q1;cases r1;exact wf ⟨H1,I1,q⟩
variable {tA CF:TT}{rest:List Expr}
def XO(t u:TT):TT:=fun σ H Q=>t σ H fun c H1=>if c=true then u σ H1 Q else Q false H1
def XQ(t u:TT):TT:=fun σ H Q=>t σ H fun c H1=>if c=true then Q true H1 else u σ H1 Q
def XR(t:TT):TT:=fun σ H Q=>t σ H fun c H1=>Q (!c) H1
theorem qZ(ha:PT X a tA):PW X (.BoolOp .And [a] pos) tA:=by
 intro wh pins s σ H Q I h;refine isTrue_and (thn (ha pins s σ H Q I h) fun c s1 e=>?_);cases c with
 | true=>exact isTrue_and_nil e
 | false=>exact e
theorem G7(ha:PT X a tA):PW X (.BoolOp .Or [a] pos) tA:=by
 intro wh pins s σ H Q I h;refine isTrue_or (thn (ha pins s σ H Q I h) fun c s1 e=>?_);cases c with
 | false=>exact isTrue_or_nil e
 | true=>exact e
theorem mf(ha:PT X a tA)(hb:PW X (.BoolOp .And (b::rest) pos) CF):PW X (.BoolOp .And (a::b::rest) pos) (XO tA CF):=by
 intro wh pins s σ H Q I h;refine isTrue_and (thn (ha pins s σ H _ I h) fun c s1 XS=>XS.elim fun H1 XT=>XT.elim fun I1 q1=>?_);cases c with
 | true=>exact hb wh pins s1 σ H1 Q I1 q1
 | false=>exact⟨H1,I1,q1⟩
theorem G8(ha:PT X a tA)(hb:PW X (.BoolOp .Or (b::rest) pos) CF):PW X (.BoolOp .Or (a::b::rest) pos) (XQ tA CF):=by
 intro wh pins s σ H Q I h;refine isTrue_or (thn (ha pins s σ H _ I h) fun c s1 XU=>XU.elim fun H1 XV=>XV.elim fun I1 q1=>?_);cases c with
 | true=>exact⟨H1,I1,q1⟩
 | false=>exact hb wh pins s1 σ H1 Q I1 q1
theorem G9(ha:PT X a tA):PT X (.UnaryOp .Not a pos) (XR tA):=by
 intro pins s σ H Q I h;exact isTrue_not (ha pins s σ H (fun c H1=>Q (!c) H1) I h)
def XW(ta tb:TE):TE:=fun σ H Q=>ta σ H fun x H1=>∃c,x=.bl c/\if c=true then tb σ H1 Q else Q (.bl false) H1
def XX(ta tb:TE):TE:=fun σ H Q=>ta σ H fun x H1=>∃c,x=.bl c/\if c=true then Q (.bl true) H1 else tb σ H1 Q
def XY(ta:TE):TE:=fun σ H Q=>ta σ H fun x H1=>∃c,x=.bl c/\Q (.bl (!c)) H1
theorem Hd{op}{t:TE}(h:PE X a t):PE X (.BoolOp op [a] pos) t:=fun pins s σ H Q I hw=>BoolOp_one (h pins s σ H Q I hw)
theorem XZ(ha:PE X a ta)(hb:PE X (.BoolOp .And (b::rest) pos) tb):PE X (.BoolOp .And (a::b::rest) pos) (XW ta tb):=by
 intro pins s σ H Q I h;refine BoolOp_and (thn (ha pins s σ H _ I h) fun v s1 X2=>X2.elim fun x X3=>X3.elim fun H1 X4=>X4.elim fun I1 X5=>X5.elim fun r1 q1=>?_);obtain⟨c,rfl,q1⟩:=q1;cases r1;refine wf ?_;cases c with
 | true=>exact hb pins s1 σ H1 Q I1 q1
 | false=>exact⟨.bl false,H1,I1,rfl,q1⟩
theorem OF(ha:PE X a ta)(hb:PE X (.BoolOp .Or (b::rest) pos) tb):PE X (.BoolOp .Or (a::b::rest) pos) (XX ta tb):=by
 intro pins s σ H Q I h;refine BoolOp_or (thn (ha pins s σ H _ I h) fun v s1 X6=>X6.elim fun x X7=>X7.elim fun H1 X8=>X8.elim fun I1 X9=>X9.elim fun r1 q1=>?_);obtain⟨c,rfl,q1⟩:=q1;cases r1;refine wf ?_;cases c with
 | false=>exact hb pins s1 σ H1 Q I1 q1
 | true=>exact⟨.bl true,H1,I1,rfl,q1⟩
theorem OG(ha:PE X a ta):PE X (.UnaryOp .Not a pos) (XY ta):=by
 intro pins s σ H Q I h;refine UnaryOp_ (thn (ha pins s σ H _ I h) fun v s1 Ya=>Ya.elim fun x Yb=>Yb.elim fun H1 Yc=>Yc.elim fun I1 Yd=>Yd.elim fun r1 q1=>?_);obtain⟨c,rfl,q1⟩:=q1;cases r1;exact not_of (wf ⟨.bl (!c),H1,I1,rfl,q1⟩)
def Ye(t:TT)(ta tb:TE):TE:=fun σ H Q=>t σ H fun c H1=>if c=true then ta σ H1 Q else tb σ H1 Q
theorem Yf{c:Expr}(hc:PT X c tA)(ha:PE X a ta)(hb:PE X b tb):PE X (.IfExp c a b pos) (Ye tA ta tb):=by
 intro pins s σ H Q I h;refine wpAny_IfExp (thn (hc pins s σ H _ I h) fun d s1 Yg=>Yg.elim fun H1 Yh=>Yh.elim fun I1 q1=>?_);cases d with
 | true=>exact ha pins s1 σ H1 Q I1 q1
 | false=>exact hb pins s1 σ H1 Q I1 q1
end
def ae(K:Fg)(H:Hp)(a:Addr)(xs:Lv):Prop:=
 Rd H a (.lst xs) \/
  ∃(o:Obj) (its:Av) (n:Nat),K.lookup a=some o/\o.cls=.type "list"/\o.dict=none/\o.data=.seq its n/\its.size<=sizeLine/\aQ xs its.toList
def aX(K:Fg)(H:Hp)(a:Addr)(xs:Lv):Prop:=
 Rd H a (.tup xs) \/
  ∃(o:Obj) (its:Av) (n:Nat),K.lookup a=some o/\o.cls=.type "tuple"/\o.data=.seq its n/\its.size<=sizeLine/\aQ xs its.toList
def Yi:Value->Option V
 | .none=>some .non
 | .bool b=>some (.bl b)
 | .int i _=>some (.int i)
 | .str x _=>some (.str x)
 | .bytes b _=>some (.byt b)
 | .float b _=>some (.flt b)
 | .ref a=>some (.ref a)
 | .type n=>some (.ty n)
 | _=>none
theorem RelV.abs{x:V}{u:Value}(r:RelV x u):Yi u=some x:=by
 cases x with
 | non=>cases r;rfl
 | bl _=>cases r;rfl
 | int _=>obtain⟨t,rfl⟩:=r;rfl
 | str _=>obtain⟨t,rfl⟩:=r;rfl
 | byt _=>obtain⟨t,rfl⟩:=r;rfl
 | flt _=>obtain⟨t,rfl⟩:=r;rfl
 | ref _=>cases r;rfl
 | ty _=>cases r;rfl
theorem RelV.inj{x y:V}{u:Value}(r:RelV x u)(q:RelV y u):x=y:=gz (r.abs.symm.trans q.abs)
theorem aQ.inj:∀{xs ys:Lv}{us:Lw},aQ xs us->aQ ys us->xs=ys
 | _,_,_,.nil,.nil=>rfl
 | _,_,_,.cons r t,.cons r' t'=>by rw[r.inj r',aQ.inj t t']
section
variable {X:Cx}{pins:Po}{σ:St}{H:Hp}{s:Shared}{a:Addr}{xs ys:Lv}
theorem ae.of{K:Fg}(h:H a=some (.lst xs)):ae K H a xs:=.inl (.inl h)
theorem aX.of{K:Fg}(h:H a=some (.tup xs)):aX K H a xs:=.inl (.inl h)
theorem Inv.list(I:Inv X pins σ H s)(h:ae X.K H a xs):∃its:Lw,aQ xs its/\PlainL s.heap a its.toArray/\xs.length<=sizeLine:=by
 rcases h with h | ⟨o,its,n,hk,hc,hd,hs,hz,r⟩
 . obtain⟨z,its,n,r,e⟩:=h.ok I.hok;exact⟨its,r,⟨_,n,e,rfl,rfl,rfl⟩,z⟩
 . refine⟨its.toList,r,⟨o,n,I.kIn a o hk,hc,hd,by simpa using hs⟩,?_⟩;have e:=r.length;simp only[eT]at e;omega
theorem Inv.tuple(I:Inv X pins σ H s)(h:aX X.K H a xs):∃its:Lw,aQ xs its/\IsTup s.heap a its.toArray/\xs.length<=sizeLine:=by
 rcases h with h | ⟨o,its,n,hk,hc,hs,hz,r⟩
 . obtain⟨z,its,r,p⟩:=h.ok I.hok;exact⟨its,r,p,z⟩
 . refine⟨its.toList,r,⟨o,I.kIn a o hk,hc,n,by simpa using hs⟩,?_⟩;have e:=r.length;simp only[eT]at e;omega
theorem Inv.list_inj(I:Inv X pins σ H s)(h:ae X.K H a xs)(h':ae X.K H a ys):xs=ys:=by
 obtain⟨its,r,⟨o,n,e,_,_,d⟩,_⟩:=I.list h;obtain⟨its',r',⟨o',n',e',_,_,d'⟩,_⟩:=I.list h';rw[e]at e';cases e';rw[d]at d';injection d' with d1 _
 have:its=its':=by simpa using eN Array.toList d1
 subst this;exact r.inj r'
theorem Inv.tuple_inj(I:Inv X pins σ H s)(h:aX X.K H a xs)(h':aX X.K H a ys):xs=ys:=by
 obtain⟨its,r,⟨o,e,_,n,d⟩,_⟩:=I.tuple h;obtain⟨its',r',⟨o',e',_,n',d'⟩,_⟩:=I.tuple h';rw[e]at e';cases e';rw[d]at d';injection d' with d1 _
 have:its=its':=by simpa using eN Array.toList d1
 subst this;exact r.inj r'
end
abbrev Cx.wish (X:Cx) (E:VP):Cx:={ X with xe:=E }
abbrev Cx.nox (X:Cx):Cx:=X.wish fun _ _=>False
theorem Cx.Ok.wish{X:Cx}(ok:X.Ok)(E:VP):(X.wish E).Ok:=
 ⟨ok.mod,ok.kind,ok.glob,ok.blt,ok.above,ok.inj,ok.has,ok.cab,ok.hd,ok.frames,ok.stk,ok.exf,ok.bs,ok.bsz,ok.noex,ok.exfs,ok.funs,ok.frf⟩
theorem Cx.Ok.unwish{X:Cx}{E:VP}(ok:(X.wish E).Ok):X.Ok:=
 ⟨ok.mod,ok.kind,ok.glob,ok.blt,ok.above,ok.inj,ok.has,ok.cab,ok.hd,ok.frames,ok.stk,ok.exf,ok.bs,ok.bsz,ok.noex,ok.exfs,ok.funs,ok.frf⟩
section
variable {X:Cx}{pins:Po}{σ:St}{H:Hp}{s:Shared}{E:VP}
theorem Inv.wish(I:Inv X pins σ H s)(E:VP):Inv (X.wish E) pins σ H s:=⟨I.ok.wish E,I.os,I.bare,I.base,I.loc,I.cell,I.free,I.freeC,I.pin,I.hok,I.len⟩
theorem Inv.unwish(I:Inv (X.wish E) pins σ H s):Inv X pins σ H s:=⟨I.ok.unwish,I.os,I.bare,I.base,I.loc,I.cell,I.free,I.freeC,I.pin,I.hok,I.len⟩
theorem SP.unwish{D:Ends}{f:Flow}{s':Shared}(h:SP (X.wish E) pins D f s'):SP X pins D f s':=by
 cases f with
 | next=>obtain⟨σ',H',I,q⟩:=h;exact⟨σ',H',I.unwish,q⟩
 | brk=>obtain⟨σ',H',I,q⟩:=h;exact⟨σ',H',I.unwish,q⟩
 | cont=>obtain⟨σ',H',I,q⟩:=h;exact⟨σ',H',I.unwish,q⟩
 | ret u=>obtain⟨v,σ',H',I,r,q⟩:=h;exact⟨v,σ',H',I.unwish,r,q⟩
theorem cn.nox{st:List Stmt}{t:TS}(h:cn X.nox st t):cn X st t:=fun pins s σ H D I hw=>
 d8 (h pins s σ H D (I.wish _) hw) (fun _ _ q=>q.unwish) fun _ _ z=>False.elim z
end
section
variable {X:Cx}{st:Stmt}{rest:List Stmt}{t u:TS}{e:Expr}{te:TE}{pos:Pos}
def Yj:TS:=fun D σ H=>D.nx σ H
def aT(t u:TS):TS:=fun D σ H=>t { D with nx:=u D } σ H
theorem dA:cn X [] Yj:=fun _ _ σ H _ I h=>GN ⟨σ,H,I,h⟩
theorem am(h1:PS X st t)(h2:cn X rest u):cn X (st::rest) (aT t u):=by
 intro pins s σ H D I h;refine Wa (thn (h1 pins s σ H { D with nx:=u D } I h) fun f s1 q=>?_);cases f with
 | next=>
  obtain⟨σ',H',I',q⟩:=q;exact h2 pins s1 σ' H' D I' q
 | ret v=>exact q
 | brk=>exact q
 | cont=>exact q
theorem av(h1:PS X st t):cn X [st] t:=by
 intro pins s σ H D I h;refine Wa (thn (h1 pins s σ H D I h) fun f s1 q=>?_);cases f with
 | next=>exact GN q
 | ret v=>exact q
 | brk=>exact q
 | cont=>exact q
theorem Inv.quiet{pins:Po}{σ:St}{H:Hp}{s:Shared}(I:Inv X pins σ H s):interactive X.env=false:=by simp[interactive,I.ok.kind]
def Yk(te:TE):TS:=fun D σ H=>te σ H fun _ H1=>D.nx σ H1
theorem cp(he:PE X e te)(hs:swapsWith e none pos.line X.env=pure false:=by rfl):PS X (.Expr e pos) (Yk te):=by
 intro pins s σ H D I h;exact wpAny_Expr_any (thn (he pins s σ H _ I h) fun v s1 Yl=>Yl.elim fun x Ym=>Ym.elim fun H1 Yn=>Yn.elim fun I1 Yo=>Yo.elim fun r1 q1=>⟨σ,H1,I1,q1⟩) I.quiet hs
def Yp(te:TE):TS:=fun D σ H=>te σ H D.rt
theorem aV(he:PE X e te):PS X (.Return (some e) pos) (Yp te):=by
 intro pins s σ H D I h;exact wpAny_Return_some (thn (he pins s σ H _ I h) fun v s1 Yq=>Yq.elim fun x Yr=>Yr.elim fun H1 Ys=>Ys.elim fun I1 Yt=>Yt.elim fun r1 q1=>⟨x,σ,H1,I1,r1,q1⟩)
def Yu:TS:=fun D _ H=>D.rt .non H
theorem OH:PS X (.Return none pos) Yu:=fun _ _ σ H _ I h=>wpAny_Return_none ⟨.non,σ,H,I,rfl,h⟩
def Yv(c:TT)(t u:TS):TS:=fun D σ H=>c σ H fun b H1=>if b=true then t D σ H1 else u D σ H1
theorem cO{c:Expr}{a b:List Stmt}{tc:TT}(hc:PT X c tc)(ha:cn X a t)(hb:cn X b u):PS X (.If c a b pos) (Yv tc t u):=by
 intro pins s σ H D I h;refine wpAny_If (thn (hc pins s σ H _ I h) fun d s1 Yw=>Yw.elim fun H1 Yx=>Yx.elim fun I1 q1=>?_);cases d with
 | true=>exact ha pins s1 σ H1 D I1 q1
 | false=>exact hb pins s1 σ H1 D I1 q1
def OI:TS:=fun _ _ _=>False
theorem Yy:PS X st OI:=fun _ _ _ _ _ _ h=>h.elim
theorem OJ{CG:List Stmt}:cn X CG OI:=fun _ _ _ _ _ _ h=>h.elim
end
abbrev TG:=V->St->Hp->(St->Hp->Prop)->Prop
abbrev q5:=Lv->St->Hp->(St->Hp->Prop)->Prop
def PG(X:Cx)(target:Expr)(t:TG):Prop:=
 ∀(pins:Po) (s:Shared) (σ:St) (H:Hp) (v:V) (u:Value) (Q:St->Hp->Prop),Inv X pins σ H s->RelV v u->t v σ H Q ->
  wpAny (model X.prog X.w) X.A (assign target X.env u) (fun _ s'=>∃σ' H',Inv X pins σ' H' s'/\Q σ' H') X.xe s
def gX(X:Cx)(ts:List Expr)(t:q5):Prop:=
 ∀(pins:Po) (s:Shared) (σ:St) (H:Hp) (vs:Lv) (us:Lw) (Q:St->Hp->Prop),Inv X pins σ H s->aQ vs us->t vs σ H Q ->
  wpAny (model X.prog X.w) X.A (assignInOrder ((assignEach ts X.env).map (·.2)) us) (fun _ s'=>∃σ' H',Inv X pins σ' H' s'/\Q σ' H') X.xe s
section
variable {X:Cx}{pos:Pos}
def mh(i:Nat):TG:=fun v σ H Q=>Q (σ.set i (some v)) H
theorem bc{i:Nat}{x:Str}(hN:X.N.Nodup)(hi:X.N[i]?=some x)(hx:Loc X.env.scope x)(hf:X.fn x=true\/X.env.scope.names.lookup x=some .local:=by first | exact .inl rfl | exact .inr rfl | assumption):PG X (.Name x pos) (mh i):=by
 intro pins s σ H v u Q I r h;exact wpAny_assign_Name (OE I hN hi hx r (fun s' I'=>⟨_,H,I',h⟩) hf)
def He:q5:=fun vs σ H Q=>vs=[]/\Q σ H
def y9(t:TG)(u:q5):q5:=fun vs σ H Q=>∃v r,vs=v::r/\t v σ H fun σ' H'=>u r σ' H' Q
theorem mi:gX X [] He:=by
 intro pins s σ H vs us Q I r h;obtain⟨e,h⟩:=h;subst e;cases r;exact assignInOrder_nil ⟨σ,H,I,h⟩
theorem fb{e:Expr}{es:List Expr}{t:TG}{u:q5}(h1:PG X e t)(h2:gX X es u)
 (hs:(assignEach (e::es) X.env).map (·.2)=assign e X.env::(assignEach es X.env).map (·.2):=by rfl):gX X (e::es) (y9 t u):=by
 intro pins s σ H vs us Q I r h;obtain⟨v,vr,e1,h⟩:=h;subst e1;cases r with
 | cons r rr=>
  rw[hs];refine assignInOrder_cons (thn (h1 pins s σ H _ _ _ I r h) fun _ s1 Yz=>Yz.elim fun σ1 YA=>YA.elim fun H1 YB=>YB.elim fun I1 q1=>?_);exact h2 pins s1 σ1 H1 _ _ Q I1 rr q1
def tW(K:Fg)(n:Nat)(t:q5):TG:=fun v σ H Q=>∃a xs,v=.ref a/\aX K H a xs/\xs.length=n/\t xs σ H Q
theorem pF{es:List Expr}{k:Nat}{t:q5}{n:Nat}(hc:X.calm=true)(h:gX X es t)
 (hn:(assignEach es X.env).length=n:=by rfl) (fM:(assignEach es X.env).findIdx? (·.1)=none:=by rfl):PG X (.Tuple es k pos) (tW X.K n t):=by
 intro pins s σ H v u Q I r hw;obtain⟨a,xs,e1,hq,hl,hw⟩:=hw;subst e1;cases r;obtain⟨its,rv,ht,hz⟩:=I.tuple hq;refine assign_Tuple_tuple (I.ok.hd hc) ht (by simp[hn,←hl,rv.length]) fM fun h' hx=>?_;have I1:Inv X pins σ H { s with heap:=h' }:=I.kept (t':=s.toks) fun b o e=>hx b o (cS (bG e)) e;exact h pins _ σ H xs _ Q I1 (by simpa using rv) hw
def OL(te:TE)(g:TG):TS:=fun D σ H=>te σ H fun x H1=>g x σ H1 D.nx
theorem aJ{i:Nat}{x:Str}{e:Expr}{te:TE}{pos':Pos}(hN:X.N.Nodup)(hi:X.N[i]?=some x)(hx:Loc X.env.scope x)(he:PE X e te)(hs:swapsWith e (some (.Name x pos')) pos.line X.env=pure false:=by rfl)(hf:X.fn x=true\/X.env.scope.names.lookup x=some .local:=by first | exact .inl rfl | exact .inr rfl | assumption) :
 PS X (.Assign [.Name x pos'] e pos) (OL te (mh i)):=by
 intro pins s σ H D I h;refine wpAny_Assign_Name (thn (he pins s σ H _ I h) fun v s1 YC=>YC.elim fun y YD=>YD.elim fun H1 YE=>YE.elim fun I1 YF=>YF.elim fun r1 q1=>?_) hs;exact OE I1 hN hi hx r1 (fun s2 I2=>⟨_,H1,I2,q1⟩) hf
def YG(c:TT)(tb:TS):TS:=fun D σ H=>∃W:Nat->St->Hp->Prop,(∃m,W m σ H)/\∀m σ H,W m σ H ->
 c σ H fun b H1=>if b=true then∃N:St->Hp->Prop,(∀σ' H',N σ' H'->∃m',m'<m/\W m' σ' H')/\tb { D with nx:=N,ct:=N,bk:=D.nx } σ H1 else D.nx σ H1
theorem OM{c:Expr}{body:List Stmt}{tc:TT}{tb:TS}(hp:PassesOwn (model X.prog X.w) X.A X.env X.xe)(hc:PT X c tc)(hb:cn X body tb):PS X (.While c body [] pos) (YG tc tb):=by
 intro pins s σ H D I h;obtain⟨W,⟨m0,w0⟩,turn⟩:=h;refine wpAny_While (codeAny_whileLoop (fun n s'=>∃σ' H',Inv X pins σ' H' s'/\W n σ' H') ?_ m0 ⟨σ,H,I,w0⟩);rintro n s1 ⟨σ1,H1,I1,w1⟩;refine yE hp (thn (hc pins s1 σ1 H1 _ I1 (turn n σ1 H1 w1)) fun b s2 YH=>YH.elim fun H2 YI=>YI.elim fun I2 q2=>?_);cases b with
 | true=>
  obtain⟨N,hN,q2⟩:=q2;rw[al rfl];refine yE hp (thn (hb pins s2 σ1 H2 _ I2 q2) fun f s3 q3=>?_);cases f with
  | next=>
   obtain⟨σ3,H3,I3,n3⟩:=q3;obtain⟨m',hm,w3⟩:=hN σ3 H3 n3;exact⟨m',hm,σ3,H3,I3,w3⟩
  | cont=>
   obtain⟨σ3,H3,I3,n3⟩:=q3;obtain⟨m',hm,w3⟩:=hN σ3 H3 n3;exact⟨m',hm,σ3,H3,I3,w3⟩
  | brk=>exact q3
  | ret v=>exact q3
 | false=>
  rw[ai cK];exact GN ⟨σ1,H2,I2,q2⟩
end
structure It where
 go:Nat->Hp->Prop
 yld:Nat->Hp->V->Hp->Prop
 stop:Nat->Hp->Prop
def eU(X:Cx)(pins:Po)(H:Hp)(b:Addr):Prop:=
 H b=none/\b≠X.env.locals/\b∉X.fs/\(b∈X.ex\/X.s₀.heap.objs.size<=b)/\(∀x c,X.env.cells.lookup x=some c->c≠b)/\∀p∈X.pn++pins,p.1≠b
theorem Inv.fpOk{X:Cx}{pins:Po}{σ:St}{H H':Hp}{s:Shared}{b:Addr}(I:Inv X pins σ H s)(hb:s.heap.objs.size<=b)(hn:H' b=none):eU X pins H' b:=by
 refine⟨hn,kJ (gc I.lt hb),I.nofs hb,.inr (cu I.sz hb),fun x c e z=>?_,fun p hp z=>?_⟩
 . obtain⟨v,q⟩:=I.cell x c e;exact absurd (gc q.lt (by rw[z];exact hb)) (pq _)
 . exact absurd (gc (bG (I.pin p hp).1) (by rw[z];exact hb)) (pq _)
structure q9(P:Program)(w:World)(K:Fg)(tg:Expr)(J:It)(fp:List Addr)(it:Addr)(tn:Nat->Heap->Prop):Prop where
 mem:it∈fp
 obj:∀i h,tn i h->∀b∈fp,∃o,h.get? b=some o/\∀v,o.data≠.cell v
 keep:∀i h h',tn i h->(∀b∈fp,∀o,h.get? b=some o->h'.get? b=some o)->tn i h'
 item:∀(X:Cx),X.prog=P->X.w=w->X.K=K->X.calm=true->∀(i:Nat) (pins:Po) (s:Shared) (σ:St) (H:Hp) (E:VP),Inv X pins σ H s->(∀b∈fp,eU X pins H b)->tn i s.heap->J.go i H ->
  wpAny (model P w) X.A (pyNext (.ref it)) (fun r s1=>∃u,r=some u /\
   wpAny (model P w) X.A (letOwnedTupleGo tg (.ref it) u) (fun _ s2=>∃x H',Inv X pins σ H' s2/\RelV x u/\J.yld i H x H'/\tn (i+1) s2.heap/\∀b∈fp,H' b=none) E s1) E s
 done:∀(X:Cx),X.prog=P->X.w=w->X.K=K->X.calm=true->∀(i:Nat) (pins:Po) (s:Shared) (σ:St) (H:Hp) (E:VP),Inv X pins σ H s->(∀b∈fp,eU X pins H b)->tn i s.heap->J.stop i H ->
  wpAny (model P w) X.A (pyNext (.ref it)) (fun r s1=>r=none/\Inv X pins σ H s1) E s
 self:∀(A:Around) (i:Nat) (s:Shared) (Q:VP) (E:VP),tn i s.heap->Q (.ref it) s->wpAny (model P w) A (pyIter (.ref it)) Q E s
abbrev TI:=St->Hp->(It->Hp->Prop)->Prop
def ON(X:Cx)(pins:Po)(σ:St)(tg:Expr)(R:It->Hp->Prop)(CH:Value)(s2:Shared):Prop:=
 ∃(it:Addr) (fp:List Addr) (tn:Nat->Heap->Prop) (J:It) (H':Hp),CH=.ref it/\Inv X pins σ H' s2/\q9 X.prog X.w X.K tg J fp it tn/\tn 0 s2.heap/\(∀b∈fp,eU X pins H' b)/\R J H'
def PI(X:Cx)(tg iter:Expr)(wi:TI):Prop:=
 ∀(pins:Po) (s:Shared) (σ:St) (H:Hp) (R:It->Hp->Prop),Inv X pins σ H s->wi σ H R ->
  wpAny (model X.prog X.w) X.A (eval iter X.env) (fun v s1=>wpAny (model X.prog X.w) X.A (pyIter v) (ON X pins σ tg R) X.xe s1) X.xe s
theorem Hf{M:Model}{A:Around}{E:VP}{s:Shared}{tg:Expr}{it:Addr}{u:Value}{o:Obj}{n:String}{vs:Av}{Q:Unit->Shared->Prop}(ho:s.heap.get? it=some o)(hc:o.cls=.type n)(hd:o.data=.fields vs)
 (hn:["enumerate","zip","dict_itemiterator","dict_reverseitemiterator","odict_iterator","itertools.zip_longest","itertools.pairwise"].contains n=false) (hQ:Q () s):wpAny M A (letOwnedTupleGo tg (.ref it) u) Q E s:=by
 unfold letOwnedTupleGo;cases tg<;>first
  | exact au hQ
  | (cases u<;>first
   | exact au hQ
   | (refine af (wpAny_load ho ?_)
      rw[hc,hd];show wpAny M A (if (["enumerate","zip","dict_itemiterator","dict_reverseitemiterator","odict_iterator","itertools.zip_longest","itertools.pairwise"].contains n && vs[0]? == some (rawInt _))=true then _ else _) Q E s;rw[ai (by intro h;rw[hn,Bool.false_and]at h;cases h)];exact au hQ))
def nJ(K:Fg)(a:Addr):It:=
 ⟨fun i H=>∃xs x,ae K H a xs/\xs[i]?=some x,fun i H x H'=>H'=H/\∀xs,ae K H a xs->xs[i]?=some x,fun i H=>∃xs,ae K H a xs/\xs.length<=i⟩
def Hg(K:Fg)(a:Addr):It:=
 ⟨fun i H=>∃xs x,aX K H a xs/\xs[i]?=some x,fun i H x H'=>H'=H/\∀xs,aX K H a xs->xs[i]?=some x,fun i H=>∃xs,aX K H a xs/\xs.length<=i⟩
def pG(lo:Int)(n:Nat):It:=⟨fun i _=>i<n,fun i H x H'=>H'=H/\x=.int (lo+i),fun i _=>n<=i⟩
theorem YJ{P:Program}{w:World}{K:Fg}{tg:Expr}(a it:Addr):q9 P w K tg (nJ K a) [it] it (fun i h=>h.IsListIter it a i) where
 mem:=by simp
 obj:=fun i h st b hb=>by
  have e:b=it:=by simpa using hb
  subst e;obtain⟨o,e,c,d⟩:=st;exact⟨o,e,fun v z=>by rw[d]at z;cases z⟩
 keep:=fun i h h' st k=>st.at fun o e=>k it (by simp) o e
 item:=by
  intro X hP hw hK hc i pins s σ H E I hf st hg;subst hP hw hK;obtain⟨xs,x,hq,hx⟩:=hg;obtain⟨its,rv,p,hz⟩:=I.list hq;obtain⟨u,hu,ru⟩:=rv.get hx;obtain⟨f0,f1,f2,f3,f4,f5⟩:=hf it (by simp);refine wpAny_pyNext_list_item st p.isList (x:=u) (by simpa using hu) fun h' gi sb=>?_;have I1:Inv X pins σ H { s with heap:=h' }:=I.turned (t':=s.toks) (fun b o hb e=>(sb.2 b hb).trans e) f0 f1 f3 f4 f5;obtain⟨o,e,c,d⟩:=id gi;exact⟨u,rfl,Hf (s:={ s with heap:=h' }) e c d (by decide) ⟨x,H,I1,ru,⟨rfl,fun ys hy=>by rw[I.list_inj hy hq];exact hx⟩,gi,fun b hb=>(hf b hb).1⟩⟩
 done:=by
  intro X hP hw hK hc i pins s σ H E I hf st hg;subst hP hw hK;obtain⟨xs,hq,hx⟩:=hg;obtain⟨its,rv,p,hz⟩:=I.list hq;obtain⟨f0,f1,f2,f3,f4,f5⟩:=hf it (by simp);have hl:=rv.length;exact wpAny_pyNext_list_end (I.ok.hd hc) st p.isList (by simp;omega) fun h' eb=>⟨rfl,I.turned (t':=s.toks) (fun b o hb e=>eb b o hb e) f0 f1 f3 f4 f5⟩
 self:=fun _ _ _ _ _ st h=>wpAny_pyIter_listiter st h
theorem YK{P:Program}{w:World}{K:Fg}{tg:Expr}(a it:Addr):q9 P w K tg (Hg K a) [it] it (fun i h=>h.IsTupleIter it a i) where
 mem:=by simp
 obj:=fun i h st b hb=>by
  have e:b=it:=by simpa using hb
  subst e;obtain⟨o,e,c,d⟩:=st;exact⟨o,e,fun v z=>by rw[d]at z;cases z⟩
 keep:=fun i h h' st k=>st.at fun o e=>k it (by simp) o e
 item:=by
  intro X hP hw hK hc i pins s σ H E I hf st hg;subst hP hw hK;obtain⟨xs,x,hq,hx⟩:=hg;obtain⟨its,rv,p,hz⟩:=I.tuple hq;obtain⟨u,hu,ru⟩:=rv.get hx;obtain⟨f0,f1,f2,f3,f4,f5⟩:=hf it (by simp);refine wpAny_pyNext_tuple_item st (show s.heap.IsTuple a its.toArray from p) (x:=u) (by simpa using hu) fun h' gi sb=>?_;have I1:Inv X pins σ H { s with heap:=h' }:=I.turned (t':=s.toks) (fun b o hb e=>(sb.2 b hb).trans e) f0 f1 f3 f4 f5;obtain⟨o,e,c,d⟩:=id gi;exact⟨u,rfl,Hf (s:={ s with heap:=h' }) e c d (by decide) ⟨x,H,I1,ru,⟨rfl,fun ys hy=>by rw[I.tuple_inj hy hq];exact hx⟩,gi,fun b hb=>(hf b hb).1⟩⟩
 done:=by
  intro X hP hw hK hc i pins s σ H E I hf st hg;subst hP hw hK;obtain⟨xs,hq,hx⟩:=hg;obtain⟨its,rv,p,hz⟩:=I.tuple hq;obtain⟨f0,f1,f2,f3,f4,f5⟩:=hf it (by simp);have hl:=rv.length;exact wpAny_pyNext_tuple_end (I.ok.hd hc) st (show s.heap.IsTuple a its.toArray from p) (by simp;omega) fun h' eb=>⟨rfl,I.turned (t':=s.toks) (fun b o hb e=>eb b o hb e) f0 f1 f3 f4 f5⟩
 self:=fun _ _ _ _ _ st h=>wpAny_pyIter_tupleiter st h
theorem YL{P:Program}{w:World}{K:Fg}{tg:Expr}(it:Addr)(lo:Int)(n:Nat):q9 P w K tg (pG lo n) [it] it (fun i h=>IsRangeIter h it (lo+(i:Nat) * 1) ((n:Int) - (i:Nat)) 1) where
 mem:=by simp
 obj:=fun i h st b hb=>by
  have e:b=it:=by simpa using hb
  subst e;exact⟨_,st,fun v z=>by
   have z':Data.fields _=Data.cell v:=z;cases z'⟩
 keep:=fun i h h' st k=>k it (by simp) _ st
 item:=by
  intro X hP hw hK hc i pins s σ H E I hf st hg;subst hP hw hK;obtain⟨f0,f1,f2,f3,f4,f5⟩:=hf it (by simp);have W:=Walks.range (prog:=X.prog) (w:=X.w) (I.ok.hd hc) it lo 1 n;refine W.item i s _ _ hg st fun v h' tk hv gi kk=>?_;obtain⟨t,rfl⟩:=hv;have I1:Inv X pins σ H { s with heap:=h',toks:=tk }:=I.turned (fun b o hb e=>kk b o (by simpa using hb) e) f0 f1 f3 f4 f5;refine⟨_,rfl,Hf (s:={ s with heap:=h',toks:=tk }) (n:="range_iterator") gi rfl rfl (by decide) ⟨.int (lo+i),H,I1,⟨t,?_⟩,⟨rfl,rfl⟩,gi,fun b hb=>(hf b hb).1⟩⟩;rw[Int.mul_one]
 done:=by
  intro X hP hw hK hc i pins s σ H E I hf st hg;subst hP hw hK;obtain⟨f0,f1,f2,f3,f4,f5⟩:=hf it (by simp);exact wpAny_pyNext_range_end (I.ok.hd hc) st (by have:n<=i:=hg;omega) fun h' eb=>⟨rfl,I.turned (t':=s.toks) (fun b o hb e=>eb b o hb e) f0 f1 f3 f4 f5⟩
 self:=fun _ _ _ _ _ st h=>wpAny_pyIter_rangeiter st h
section
variable {X:Cx}{tg:Expr}
def YM(K:Fg)(tl:TE):TI:=fun σ H R=>tl σ H fun x H1=>∃a,x=.ref a/\(∃xs,ae K H1 a xs)/\R (nJ K a) H1
def YN(K:Fg)(tl:TE):TI:=fun σ H R=>tl σ H fun x H1=>∃a,x=.ref a/\(∃xs,aX K H1 a xs)/\R (Hg K a) H1
theorem cQ{l:Expr}{tl:TE}(hl:PE X l tl):PI X tg l (YM X.K tl):=by
 intro pins s σ H R I h;refine thn (hl pins s σ H _ I h) fun v s1 YO=>YO.elim fun x YQ=>YQ.elim fun H1 YR=>YR.elim fun I1 YS=>YS.elim fun r1 q1=>?_;obtain⟨a,e,⟨xs,hq⟩,q⟩:=q1;subst e;cases r1;obtain⟨its,rv,p,hz⟩:=I1.list hq;refine Wb p.isList ?_;refine⟨s1.heap.objs.size,[s1.heap.objs.size],_,_,H1,rfl,I1.kept (t':=s1.toks) fun b o e=>bX _ e,YJ a _,⟨_,dR _ rfl,rfl,rfl⟩,fun b hb=>?_,q⟩;have e:b=s1.heap.objs.size:=by simpa using hb
 subst e;exact I1.fpOk (aI _) (I1.hok.fresh (aI _))
theorem YT{l:Expr}{tl:TE}(hl:PE X l tl):PI X tg l (YN X.K tl):=by
 intro pins s σ H R I h;refine thn (hl pins s σ H _ I h) fun v s1 YU=>YU.elim fun x YV=>YV.elim fun H1 YW=>YW.elim fun I1 YX=>YX.elim fun r1 q1=>?_;obtain⟨a,e,⟨xs,hq⟩,q⟩:=q1;subst e;cases r1;obtain⟨its,rv,p,hz⟩:=I1.tuple hq;refine wpAny_pyIter_tuple (show s1.heap.IsTuple a its.toArray from p) ?_;refine⟨s1.heap.objs.size,[s1.heap.objs.size],_,_,H1,rfl,I1.kept (t':=s1.toks) fun b o e=>bX _ e,YK a _,⟨_,dR _ rfl,rfl,rfl⟩,fun b hb=>?_,q⟩;have e:b=s1.heap.objs.size:=by simpa using hb
 subst e;exact I1.fpOk (aI _) (I1.hok.fresh (aI _))
theorem OO{pins:Po}{σ:St}{H:Hp}{s:Shared}{R:It->Hp->Prop}{E:VP}{lo hi:Int}{t u v:Tok}{tk:Nat}(I:Inv X pins σ H s)(h1:-(2 ^ 62)<=lo)(h2:lo<2 ^ 62)(h3:-(2 ^ 62)<=hi)(h4:hi<2 ^ 62)
 (q:R (pG lo (hi - lo).toNat) H):wpAny (model X.prog X.w) X.A (pyIter (.ref s.heap.objs.size)) (ON X pins σ tg R) E { s with heap:=s.heap.push { cls:=.type "range",data:=.fields #[.int lo t,.int hi u,.int 1 v] },toks:=tk }:=by
 refine wpAny_pyIter_range (IsRange.new ..) (small_one h1 h2 h3 h4) ?_;have I1:Inv X pins σ H { s with heap:=s.heap.push { cls:=.type "range",data:=.fields #[.int lo t,.int hi u,.int 1 v] },toks:=tk }:=I.kept fun b o e=>bX _ e;refine⟨(s.heap.push { cls:=.type "range",data:=.fields #[.int lo t,.int hi u,.int 1 v] }).objs.size,[(s.heap.push { cls:=.type "range",data:=.fields #[.int lo t,.int hi u,.int 1 v] }).objs.size],_,_,H,rfl,
  I1.kept (t':=tk) fun b o e=>bX _ e,YL _ lo (hi - lo).toNat,?_,fun b hb=>?_,q⟩
 . have e1:lo+((0:Nat):Int) * 1=lo:=by simp
   have e2:(((hi - lo).toNat:Nat):Int) - ((0:Nat):Int)=Builtin.Range.rangeSize lo hi 1:=by rw[rangeSize_one];split<;>omega
   show IsRangeIter _ _ (lo+((0:Nat):Int) * 1) ((((hi - lo).toNat:Nat):Int) - ((0:Nat):Int)) 1;rw[e1,e2];exact dR _ rfl
 . have e:b=(s.heap.push { cls:=.type "range",data:=.fields #[.int lo t,.int hi u,.int 1 v] }).objs.size:=by simpa using hb
   subst e;exact I1.fpOk (aI _) (I1.hok.fresh (aI _))
def YY(ta:TA):TI:=fun σ H R=>ta σ H fun vs H1=>∃j:Int,vs=[.int j]/\-(2 ^ 62)<=j/\j<2 ^ 62/\R (pG 0 j.toNat) H1
def YZ(ta:TA):TI:=fun σ H R=>ta σ H fun vs H1=>∃i j:Int,vs=[.int i,.int j]/\(-(2 ^ 62)<=i/\i<2 ^ 62/\-(2 ^ 62)<=j/\j<2 ^ 62)/\R (pG i (j - i).toNat) H1
theorem nK{a:Expr}{ta:TA}{p pos:Pos}(hg:Gl X "range")(hm:X.mg "range"=none)(ha:PA X [a] ta)(hs:starEach [a] X.env=[(false,eval a X.env)]:=by rfl):PI X tg (.Call (.Name "range" p) [a] [] pos) (YY ta):=by
 intro pins s σ H R I h;refine Call_ (wv I hg hm boot_range (NN (thn (ha pos pins s σ H _ I h) fun us s1 Y0=>Y0.elim fun vs Y1=>Y1.elim fun H1 Y2=>Y2.elim fun I1 Y3=>Y3.elim fun r1 q1=>?_) hs rfl));obtain⟨j,e,q1,q2,q⟩:=q1;subst e;cases r1 with
 | cons r rr=>
  cases rr;obtain⟨t,rfl⟩:=r;exact call_range_1 (OO I1 (by omega) (by omega) q1 q2 (by simpa using q))
theorem OP{a b:Expr}{ta:TA}{p pos:Pos}(hg:Gl X "range")(hm:X.mg "range"=none)(ha:PA X [a,b] ta)(hs:starEach [a,b] X.env=[(false,eval a X.env),(false,eval b X.env)]:=by rfl)(tX:starEach [b] X.env=[(false,eval b X.env)]:=by rfl) :
 PI X tg (.Call (.Name "range" p) [a,b] [] pos) (YZ ta):=by
 intro pins s σ H R I h;refine Call_ (wv I hg hm boot_range (NN (thn (ha pos pins s σ H _ I h) fun us s1 Y4=>Y4.elim fun vs Y5=>Y5.elim fun H1 Y6=>Y6.elim fun I1 Y7=>Y7.elim fun r1 q1=>?_) (by rw[hs,tX]) (by rw[tX];rfl)));obtain⟨i,j,e,⟨q1,q2,q3,q4⟩,q⟩:=q1;subst e;cases r1 with
 | cons r rr=>
  cases rr with
  | cons r' rr=>
   cases rr;obtain⟨t,rfl⟩:=r;obtain⟨t',rfl⟩:=r';exact call_range_2 (OO I1 q1 q2 q3 q4 q)
def Y8(wi:TI)(g:TG)(tb:TS):TS:=fun D σ H=>wi σ H fun J H1=>∃W:Nat->Nat->St->Hp->Prop,(∃m,W 0 m σ H1)/\∀i m σ H,W i m σ H ->
 (J.stop i H/\D.nx σ H)\/(J.go i H/\∃N:St->Hp->Prop,(∀σ' H',N σ' H'->∃m',m'<m/\W (i+1) m' σ' H')/\∀x H',J.yld i H x H'->g x σ H' fun σ2 H2=>tb { D with nx:=N,ct:=N,bk:=D.nx } σ2 H2)
def tY(fp:List Addr)(h:Heap):Po:=fp.filterMap fun b=>(h.get? b).map fun o=>(b,o)
theorem rc{fp:List Addr}{h:Heap}{b:Addr}{o:Obj}(hb:b∈fp)(e:h.get? b=some o):(b,o)∈tY fp h:=NO.mpr ⟨b,hb,by rw[e];rfl⟩
theorem Y9{fp:List Addr}{h:Heap}{p:Addr×Obj}(hp:p∈tY fp h):p.1∈fp/\h.get? p.1=some p.2:=by
 obtain⟨b,hb,e⟩:=NO.mp hp;cases q:h.get? b with
 | none=>rw[q]at e;cases e
 | some o=>
  rw[q]at e;have e':(b,o)=p:=gz e;subst e';exact⟨hb,q⟩
theorem Inv.pinned{pins:Po}{σ:St}{H:Hp}{s:Shared}{fp:List Addr}(I:Inv X pins σ H s)(hf:∀b∈fp,eU X pins H b)(ho:∀b∈fp,∃o,s.heap.get? b=some o/\∀v,o.data≠.cell v):Inv X (pins++tY fp s.heap) σ H s:=
 I.pins_of fun p hp=>(bS.mp hp).elim (fun z=>I.pin p (eF _ z)) fun z=>by
  obtain⟨hb,e⟩:=Y9 z;obtain⟨f0,f1,f2,_⟩:=hf p.1 hb;obtain⟨o,e',d⟩:=ho p.1 hb;rw[e]at e';cases e';exact⟨e,f0,f1,f2,d⟩
theorem Inv.unpinned{pins pl:Po}{σ:St}{H:Hp}{s:Shared}(I:Inv X (pins++pl) σ H s):Inv X pins σ H s:=I.pins_of fun p hp=>I.pin p (eF _ (yD _ hp))
theorem eJ{iter:Expr}{body:List Stmt}{wi:TI}{g:TG}{tb:TS}{pos:Pos}(hp:PassesOwn (model X.prog X.w) X.A X.env X.xe)(hc:X.calm=true)(hi:PI X tg iter wi)(hg:PG X tg g)(hb:cn X body tb)
 (hs:∀x,foldedSetIterable iter X.env x=pure x:=by intro _;rfl):PS X (.For tg iter body [] pos) (Y8 wi g tb):=by
 intro pins s σ H D I h;refine wpAny_For (thn (hi pins s σ H _ I h) fun v s1 h1=>thn h1 fun CH s2 h2=>?_) hs;obtain⟨it,fp,tn,J,H2,e,I2,T,fv,f2,W,⟨m0,w0⟩,turn⟩:=h2;subst e;have Hh:∀{H':Hp},(∀b∈fp,H' b=none)->∀b∈fp,eU X pins H' b:=fun hn b hb=>⟨hn b hb,(f2 b hb).2⟩;refine codeAny_forLoop_any (fun n s'=>∃i σ' H',Inv X pins σ' H' s'/\tn i s'.heap/\(∀b∈fp,H' b=none)/\W i n σ' H') ?_ m0 ⟨0,σ,H2,I2,fv,fun b hb=>(f2 b hb).1,w0⟩;rintro n s3 ⟨i,σ3,H3,I3,tZ,OQ,w3⟩
 rcases turn i n σ3 H3 w3 with⟨stop,qn⟩ | ⟨go,N,hN,step⟩
 . refine yE hp (thn (T.done X rfl rfl rfl hc i pins s3 σ3 H3 X.xe I3 (Hh OQ) tZ stop) fun r s4 Za=>Za.elim fun hr I4=>?_);subst hr;exact GN ⟨σ3,H3,I4,qn⟩
 . refine yE hp (thn (T.item X rfl rfl rfl hc i pins s3 σ3 H3 X.xe I3 (Hh OQ) tZ go) fun r s4 Zb=>Zb.elim fun u Zc=>Zc.elim fun hr h4=>?_);subst hr;refine yE hp (thn h4 fun _ s5 Zd=>Zd.elim fun x Ze=>Ze.elim fun H5 Zf=>Zf.elim fun I5 Zg=>Zg.elim fun r5 Zh=>Zh.elim fun y5 Zi=>Zi.elim fun ub Hi=>?_);have Zj:=I5.pinned (Hh Hi) (T.obj _ _ ub);refine yE hp (thn (hg _ s5 σ3 H5 x u _ Zj r5 (step x H5 y5)) fun _ s6 Zk=>Zk.elim fun σ6 Zl=>Zl.elim fun H6 Zm=>Zm.elim fun I6 q6=>?_);refine yE hp (thn (hb _ s6 σ6 H6 _ I6 q6) fun f s7 q7=>?_);have again:∀{σ7:St}{H7:Hp},Inv X (pins++tY fp s5.heap) σ7 H7 s7->N σ7 H7->∃m,m<n/\∃i σ' H',Inv X pins σ' H' s7/\tn i s7.heap/\(∀b∈fp,H' b=none)/\W i m σ' H':=fun {σ7 H7} I7 n7=>by
    obtain⟨m',hm,w7⟩:=hN σ7 H7 n7;refine⟨m',hm,i+1,σ7,H7,I7.unpinned,T.keep _ _ _ ub fun b hb o e=>(I7.pin (b,o) (eF _ (eF _ (rc hb e)))).1,fun b hb=>?_,w7⟩;obtain⟨o,e,d⟩:=T.obj _ _ ub b hb;exact(I7.pin (b,o) (eF _ (eF _ (rc hb e)))).2.1
   cases f with
   | next=>obtain⟨σ7,H7,I7,n7⟩:=q7;exact again I7 n7
   | cont=>obtain⟨σ7,H7,I7,n7⟩:=q7;exact again I7 n7
   | brk=>obtain⟨σ7,H7,I7,q7⟩:=q7;exact⟨σ7,H7,I7.unpinned,q7⟩
   | ret v=>obtain⟨x7,σ7,H7,I7,r7,q7⟩:=q7;exact⟨x7,σ7,H7,I7.unpinned,r7,q7⟩
end
theorem iT{K:Fg}{a:Addr}{xs:Lv}{g:TG}{tb:TS}{D:Ends}{σ:St}{H:Hp}(Pv:Nat->St->Hp->Prop)(h0:Pv 0 σ H)(hl:∀i σ H,i<=xs.length->Pv i σ H->ae K H a xs)
 (hs:∀i x σ H,xs[i]?=some x->Pv i σ H->g x σ H fun σ2 H2=>tb { D with nx:=Pv (i+1),ct:=Pv (i+1),bk:=D.nx } σ2 H2) (hd:∀σ H,Pv xs.length σ H->D.nx σ H) :
 ∃W:Nat->Nat->St->Hp->Prop,(∃m,W 0 m σ H)/\∀i m σ H,W i m σ H ->
  ((nJ K a).stop i H/\D.nx σ H)\/((nJ K a).go i H/\∃N:St->Hp->Prop,(∀σ' H',N σ' H'->∃m',m'<m/\W (i+1) m' σ' H')/\∀x H',(nJ K a).yld i H x H'->g x σ H' fun σ2 H2=>tb { D with nx:=N,ct:=N,bk:=D.nx } σ2 H2):=by
 refine⟨fun i m σ H=>m=xs.length - i/\i<=xs.length/\Pv i σ H,⟨xs.length,by simp,dG _,h0⟩,?_⟩;rintro i m σ H ⟨rfl,hi,p⟩;have q:=hl i σ H hi p
 by_cases aN:i<xs.length
 . refine .inr ⟨⟨xs,xs[i],q,by simp[aN]⟩,Pv (i+1),fun σ' H' p'=>⟨xs.length - (i+1),by omega,rfl,aN,p'⟩,fun x H' y=>?_⟩;obtain⟨e,y⟩:=y;subst e;exact hs i x σ _ (y xs q) p
 . have e:i=xs.length:=by omega
   subst e;exact .inl ⟨⟨xs,q,aI _⟩,hd σ H p⟩
theorem uc{lo:Int}{n:Nat}{g:TG}{tb:TS}{D:Ends}{σ:St}{H:Hp}(Pv:Nat->St->Hp->Prop)(h0:Pv 0 σ H)
 (hs:∀i σ H,i<n->Pv i σ H->g (.int (lo+i)) σ H fun σ2 H2=>tb { D with nx:=Pv (i+1),ct:=Pv (i+1),bk:=D.nx } σ2 H2) (hd:∀σ H,Pv n σ H->D.nx σ H) :
 ∃W:Nat->Nat->St->Hp->Prop,(∃m,W 0 m σ H)/\∀i m σ H,W i m σ H ->
  ((pG lo n).stop i H/\D.nx σ H)\/((pG lo n).go i H/\∃N:St->Hp->Prop,(∀σ' H',N σ' H'->∃m',m'<m/\W (i+1) m' σ' H')/\∀x H',(pG lo n).yld i H x H'->g x σ H' fun σ2 H2=>tb { D with nx:=N,ct:=N,bk:=D.nx } σ2 H2):=by
 refine⟨fun i m σ H=>m=n - i/\i<=n/\Pv i σ H,⟨n,by simp,dG _,h0⟩,?_⟩;rintro i m σ H ⟨rfl,hi,p⟩
 by_cases aN:i<n
 . refine .inr ⟨aN,Pv (i+1),fun σ' H' p'=>⟨n - (i+1),by omega,rfl,aN,p'⟩,fun x H' y=>?_⟩;obtain⟨e,y⟩:=y;subst e y;exact hs i σ _ aN p
 . have e:i=n:=by omega
   subst e;exact .inl ⟨aI _,hd σ H p⟩
abbrev R2:=V->V->Hp->VK->Prop
def cL(X:Cx)(f:Value->Value->Sem Value)(r:R2):Prop:=
 ∀(pins:Po) (s:Shared) (σ:St) (H:Hp) (x y:V) (v u:Value) (Q:VK),Inv X pins σ H s->RelV x v->RelV y u->r x y H Q ->
  wpAny (model X.prog X.w) X.A (f v u) (EP X pins σ Q) X.xe s
def Hl(X:Cx)(f:Value->Sem Value)(r:V->Hp->VK->Prop):Prop:=
 ∀(pins:Po) (s:Shared) (σ:St) (H:Hp) (x:V) (v:Value) (Q:VK),Inv X pins σ H s->RelV x v->r x H Q ->
  wpAny (model X.prog X.w) X.A (f v) (EP X pins σ Q) X.xe s
def fN(X:Cx)(f:Value)(r:Lv->Hp->VK->Prop):Prop:=
 ∀(pins:Po) (s:Shared) (σ:St) (H:Hp) (xs:Lv) (us:Lw) (Q:VK),Inv X pins σ H s->aQ xs us->r xs H Q ->
  wpAny (model X.prog X.w) X.A (call f us) (EP X pins σ Q) X.xe s
def CI(r:R2)(ta tb:TE):TE:=fun σ H Q=>ta σ H fun x H1=>tb σ H1 fun y H2=>r x y H2 Q
def Zn(r:V->Hp->VK->Prop)(ta:TE):TE:=fun σ H Q=>ta σ H fun x H1=>r x H1 Q
def rI(C:Int->Int->Prop)(g:Int->Int->V):R2:=fun x y H Q=>∃i j,x=.int i/\y=.int j/\C i j/\Q (g i j) H
def ud(g:Int->Int->V):R2:=fun x y H Q=>∃i j,x=.int i/\y=.int j/\Q (g i j) H
def rU(g:Int->V):V->Hp->VK->Prop:=fun x H Q=>∃i,x=.int i/\Q (g i) H
section
variable {X:Cx}{a b c:Expr}{ta tb tc:TE}{pos:Pos}
theorem Hm(ha:PE X a ta)(hb:PE X b tb){pins:Po}{s:Shared}{σ:St}{H:Hp}{R:V->V->Hp->Prop}(I:Inv X pins σ H s)
 (h:ta σ H fun x H1=>tb σ H1 fun y H2=>R x y H2) {Q:VP}{f:Value->Value->Sem Value}
 (hf:∀v u s2 x y H2,Inv X pins σ H2 s2->RelV x v->RelV y u->R x y H2->wpAny (model X.prog X.w) X.A (f v u) Q X.xe s2) :
 wpAny (model X.prog X.w) X.A (eval a X.env) (fun v s₁=>wpAny (model X.prog X.w) X.A (eval b X.env) (fun u s₂=>wpAny (model X.prog X.w) X.A (f v u) Q X.xe s₂) X.xe s₁) X.xe s:=by
 refine thn (ha pins s σ H _ I h) fun v s1 Zo=>Zo.elim fun x Zp=>Zp.elim fun H1 Zq=>Zq.elim fun I1 Zr=>Zr.elim fun r1 q1=>?_;refine thn (hb pins s1 σ H1 _ I1 q1) fun u s2 Zs=>Zs.elim fun y Zt=>Zt.elim fun H2 Zu=>Zu.elim fun I2 Zv=>Zv.elim fun r2 q2=>?_;exact hf v u s2 x y H2 I2 r1 r2 q2
theorem aF{op:Operator}{r:R2}(ho:cL X (binaryOp op) r)(ha:PE X a ta)(hb:PE X b tb):PE X (.BinOp a op b pos) (CI r ta tb):=by
 intro pins s σ H Q I h;exact wpAny_BinOp (Hm ha hb I h fun v u s2 x y H2 I2 rx ry q=>ho pins s2 σ H2 x y v u Q I2 rx ry q)
theorem wx{op:UnaryOp}{r:V->Hp->VK->Prop}(ho:Hl X (unaryOp op) r)(ha:PE X a ta):PE X (.UnaryOp op a pos) (Zn r ta):=by
 intro pins s σ H Q I h;exact UnaryOp_ (thn (ha pins s σ H _ I h) fun v s1 Zw=>Zw.elim fun x Zx=>Zx.elim fun H1 Zy=>Zy.elim fun I1 Zz=>Zz.elim fun r1 q1=>ho pins s1 σ H1 x v Q I1 r1 q1)
theorem CJ{f:Value->Value->Sem Value}{C:Int->Int->Prop}{g:Int->Int->Int}
 (rule:∀(i j:Int) (t u:Tok) (s:Shared) (Q:VP) (E:VP),C i j->Q (.int (g i j) s.toks) { s with toks:=s.toks+1 }->wpAny (model X.prog X.w) X.A (f (.int i t) (.int j u)) Q E s) :
 cL X f (rI C fun i j=>.int (g i j)):=by
 intro pins s σ H x y v u Q I rx ry h;obtain⟨i,j,rfl,rfl,hc,q⟩:=h;obtain⟨t,rfl⟩:=rx;obtain⟨t',rfl⟩:=ry;exact rule i j t t' s _ _ hc ⟨.int (g i j),H,I.tok _,⟨_,rfl⟩,q⟩
theorem OR{f:Value->Value->Sem Value}{g:Int->Int->Int}
 (rule:∀(i j:Int) (t u:Tok) (s:Shared) (Q:VP) (E:VP),Q (.int (g i j) s.toks) { s with toks:=s.toks+1 }->wpAny (model X.prog X.w) X.A (f (.int i t) (.int j u)) Q E s) :
 cL X f (ud fun i j=>.int (g i j)):=by
 intro pins s σ H x y v u Q I rx ry h;obtain⟨i,j,rfl,rfl,q⟩:=h;obtain⟨t,rfl⟩:=rx;obtain⟨t',rfl⟩:=ry;exact rule i j t t' s _ _ ⟨.int (g i j),H,I.tok _,⟨_,rfl⟩,q⟩
theorem Hn{f:Value->Value->Sem Value}{g:Int->Int->Bool}
 (rule:∀(i j:Int) (t u:Tok) (s:Shared) (Q:VP) (E:VP),Q (.bool (g i j)) s->wpAny (model X.prog X.w) X.A (f (.int i t) (.int j u)) Q E s) :
 cL X f (ud fun i j=>.bl (g i j)):=by
 intro pins s σ H x y v u Q I rx ry h;obtain⟨i,j,rfl,rfl,q⟩:=h;obtain⟨t,rfl⟩:=rx;obtain⟨t',rfl⟩:=ry;exact rule i j t t' s _ _ ⟨.bl (g i j),H,I,rfl,q⟩
def ZA(i j:Int):Prop:=0<j/\j<1073741824
def ZB(i j:Int):Prop:=0<=j/\j<=1000000/\i.natAbs<2 ^ 64
def Ho(i j:Int):Prop:=(-(2 ^ 64)<i/\i<2 ^ 64)\/(-(2 ^ 64)<j/\j<2 ^ 64)
theorem Ho.ok{i j:Int}(h:Ho i j):IntMulOk i j:=by
 rcases h with⟨h1,h2⟩ | ⟨h1,h2⟩
 . exact .of_left (intBits_le_64 h1 h2)
 . exact .of_right (intBits_le_64 h1 h2)
theorem fc:cL X (binaryOp .Add) (ud fun i j=>.int (i+j)):=OR fun _ _ _ _ _ _ _ q=>add_int q
theorem CK:cL X (binaryOp .Sub) (ud fun i j=>.int (i - j)):=OR fun _ _ _ _ _ _ _ q=>sub_int q
theorem wy:cL X (binaryOp .Mult) (rI Ho fun i j=>.int (i * j)):=CJ fun _ _ _ _ _ _ _ hc q=>mul_int q hc.ok
theorem ix:cL X (binaryOp .FloorDiv) (rI ZA fun i j=>.int (i / j)):=CJ fun i j _ _ _ _ _ hc q=>by
 have h1:(0:Int)<j:=hc.1;have h2:j<1073741824:=hc.2;exact floordiv_int (by omega) (by rw[Int.fdiv_eq_ediv_of_nonneg i (by omega)];exact q) (.inl (PyProof.noPylong_small (by omega)))
theorem cF:cL X (binaryOp .Mod) (rI (fun _ j=>0<j) fun i j=>.int (i % j)):=CJ fun i j _ _ _ _ _ hc q=>by
 have h1:(0:Int)<j:=hc;exact mod_int' (by omega) (by rw[Int.fmod_eq_emod_of_nonneg i (by omega)];exact q)
theorem Hq:cL X (binaryOp .Pow) (rI ZB fun i j=>.int (i ^ j.toNat)):=CJ fun _ _ _ _ _ _ _ hc q=>pow_int_small hc.1 hc.2.1 hc.2.2 q
theorem ZC{f:Value->Sem Value}{g:Int->Int}
 (rule:∀(i:Int) (t:Tok) (s:Shared) (Q:VP) (E:VP),Q (.int (g i) s.toks) { s with toks:=s.toks+1 }->wpAny (model X.prog X.w) X.A (f (.int i t)) Q E s) :
 Hl X f (rU fun i=>.int (g i)):=by
 intro pins s σ H x v Q I rx h;obtain⟨i,rfl,q⟩:=h;obtain⟨t,rfl⟩:=rx;exact rule i t s _ _ ⟨.int (g i),H,I.tok _,⟨_,rfl⟩,q⟩
theorem wz:Hl X (unaryOp .USub) (rU fun i=>.int (-i)):=ZC fun _ _ _ _ _ q=>neg_int q
end
def OS:V->V->Bool
 | .non,.non=>true | .non,.int _=>true | .int _,.non=>true | .non,.bl _=>true | .bl _,.non=>true | .non,.str _=>true | .str _,.non=>true
 | .int _,.int _=>true | .bl _,.bl _=>true | .str _,.str _=>true | .byt _,.byt _=>true
 | .int _,.str _=>true | .str _,.int _=>true | .bl _,.str _=>true | .str _,.bl _=>true
 | _,_=>false
def ZD:R2:=fun x y H Q=>OS x y=true/\Q (.bl (decide (x=y))) H
def ZE:R2:=fun x y H Q=>OS x y=true/\Q (.bl (!decide (x=y))) H
theorem OT{i j:Int}:decide (V.int i=V.int j)=(i == j):=by
 rw[Cb];simp
theorem OU{i j:Bool}:decide (V.bl i=V.bl j)=(i == j):=by
 rw[Cb];simp
theorem OV{i j:Str}:decide (V.str i=V.str j)=(i == j):=by
 rw[Cb];simp
theorem OW{i j:Array UInt8}:decide (V.byt i=V.byt j)=(i.toList == j.toList):=by
 rw[Cb];cases i;cases j;simp
section
variable {X:Cx}{a b c:Expr}{ta tb tc:TE}{pos:Pos}
theorem cR{pins:Po}{σ:St}{H:Hp}{s:Shared}{Q:VK}{k k':Bool}(I:Inv X pins σ H s)(q:Q (.bl k) H)(e:k=k'):EP X pins σ Q (.bool k') s:=by
 subst e;exact⟨.bl k,H,I,rfl,q⟩
theorem fw:cL X (compareOp .Eq) ZD:=by
 intro pins s σ H x y v u Q I rx ry h;obtain⟨hs,q⟩:=h;cases x with
 | non=>
  cases rx;cases y with
  | non=>cases ry;exact PySem.EqNone.eq_none_none (cR I q (by simp))
  | bl j=>cases ry;exact PySem.EqNone.eq_none_bool (cR I q (by simp))
  | int j=>obtain⟨t',rfl⟩:=ry;exact PySem.EqNone.eq_none_int (cR I q (by simp))
  | str j=>obtain⟨t',rfl⟩:=ry;exact PySem.EqNone.eq_none_str (cR I q (by simp))
  | _=>exact absurd (show false=true from hs) cK
 | bl i=>
  cases rx;cases y with
  | non=>cases ry;exact PySem.EqNone.eq_bool_none (cR I q (by simp))
  | bl j=>cases ry;exact eq_bool (cR I q OU)
  | str j=>obtain⟨t',rfl⟩:=ry;exact PySem.EqMixed.eq_bool_str (cR I q (by simp))
  | _=>exact absurd (show false=true from hs) cK
 | int i=>
  obtain⟨t,rfl⟩:=rx;cases y with
  | non=>cases ry;exact PySem.EqNone.eq_int_none (cR I q (by simp))
  | int j=>obtain⟨t',rfl⟩:=ry;exact eq_int (cR I q OT)
  | str j=>obtain⟨t',rfl⟩:=ry;exact PySem.EqMixed.eq_int_str (cR I q (by simp))
  | _=>exact absurd (show false=true from hs) cK
 | str i=>
  obtain⟨t,rfl⟩:=rx;cases y with
  | non=>cases ry;exact PySem.EqNone.eq_str_none (cR I q (by simp))
  | bl j=>cases ry;exact PySem.EqMixed.eq_str_bool (cR I q (by simp))
  | int j=>obtain⟨t',rfl⟩:=ry;exact PySem.EqMixed.eq_str_int (cR I q (by simp))
  | str j=>obtain⟨t',rfl⟩:=ry;exact eq_str (cR I q OV)
  | _=>exact absurd (show false=true from hs) cK
 | byt i=>
  obtain⟨t,rfl⟩:=rx;cases y with
  | byt j=>obtain⟨t',rfl⟩:=ry;exact PySem.W.eq_bytes (cR I q OW)
  | _=>exact absurd (show false=true from hs) cK
 | _=>cases y<;>exact absurd (show false=true from hs) cK
theorem za:cL X (compareOp .NotEq) ZE:=by
 intro pins s σ H x y v u Q I rx ry h;obtain⟨hs,q⟩:=h;cases x with
 | non=>
  cases rx;cases y with
  | non=>cases ry;exact PySem.EqNone.ne_none_none (cR I q (by simp))
  | bl j=>cases ry;exact PySem.EqNone.ne_none_bool (cR I q (by simp))
  | int j=>obtain⟨t',rfl⟩:=ry;exact PySem.EqNone.ne_none_int (cR I q (by simp))
  | str j=>obtain⟨t',rfl⟩:=ry;exact PySem.EqNone.ne_none_str (cR I q (by simp))
  | _=>exact absurd (show false=true from hs) cK
 | bl i=>
  cases rx;cases y with
  | non=>cases ry;exact PySem.EqNone.ne_bool_none (cR I q (by simp))
  | bl j=>cases ry;exact ne_bool (cR I q (eN not OU))
  | str j=>obtain⟨t',rfl⟩:=ry;exact PySem.EqMixed.ne_bool_str (cR I q (by simp))
  | _=>exact absurd (show false=true from hs) cK
 | int i=>
  obtain⟨t,rfl⟩:=rx;cases y with
  | non=>cases ry;exact PySem.EqNone.ne_int_none (cR I q (by simp))
  | int j=>obtain⟨t',rfl⟩:=ry;exact ne_int (cR I q (eN not OT))
  | str j=>obtain⟨t',rfl⟩:=ry;exact PySem.EqMixed.ne_int_str (cR I q (by simp))
  | _=>exact absurd (show false=true from hs) cK
 | str i=>
  obtain⟨t,rfl⟩:=rx;cases y with
  | non=>cases ry;exact PySem.EqNone.ne_str_none (cR I q (by simp))
  | bl j=>cases ry;exact PySem.EqMixed.ne_str_bool (cR I q (by simp))
  | int j=>obtain⟨t',rfl⟩:=ry;exact PySem.EqMixed.ne_str_int (cR I q (by simp))
  | str j=>obtain⟨t',rfl⟩:=ry;exact ne_str (cR I q (eN not OV))
  | _=>exact absurd (show false=true from hs) cK
 | byt i=>
  obtain⟨t,rfl⟩:=rx;cases y with
  | byt j=>obtain⟨t',rfl⟩:=ry;exact PySem.W.ne_bytes (cR I q (eN not OW))
  | _=>exact absurd (show false=true from hs) cK
 | _=>cases y<;>exact absurd (show false=true from hs) cK
theorem zc:cL X (compareOp .Lt) (ud fun i j=>.bl (decide (i<j))):=Hn fun _ _ _ _ _ _ _ q=>lt_int q
theorem ZF:cL X (compareOp .LtE) (ud fun i j=>.bl (decide (i<=j))):=Hn fun _ _ _ _ _ _ _ q=>le_int q
theorem OX:cL X (compareOp .Gt) (ud fun i j=>.bl (decide (j<i))):=Hn fun _ _ _ _ _ _ _ q=>gt_int q
theorem ZG:cL X (compareOp .Is) (fun x y H Q=>y=.non/\Q (.bl (decide (x=.non))) H):=by
 intro pins s σ H x y v u Q I rx ry h;obtain⟨rfl,q⟩:=h;cases ry;refine is_none_gen (cR I q ?_);cases x<;>first
  | (cases rx;rfl)
  | (obtain⟨t,rfl⟩:=rx;rfl)
theorem OY:cL X (compareOp .IsNot) (fun x y H Q=>y=.non/\Q (.bl (!decide (x=.non))) H):=by
 intro pins s σ H x y v u Q I rx ry h;obtain⟨rfl,q⟩:=h;cases ry;refine isnot_none_gen (cR I q ?_);cases x<;>first
  | (cases rx;rfl)
  | (obtain⟨t,rfl⟩:=rx;rfl)
theorem bT(b:Expr){op:CmpOp}(h:op≠.In:=by decide)(h2:op≠.NotIn:=by decide):behindInMarks op b=false:=by
 have e1:(op == CmpOp.In)=false:=by cases op<;>first | rfl | exact absurd rfl h
 have e2:(op == CmpOp.NotIn)=false:=by cases op<;>first | rfl | exact absurd rfl h2
 cases b<;>simp[behindInMarks,e1,e2]
theorem rf{op:CmpOp}{r:R2}(ho:cL X (compareOp op) r)(ha:PE X a ta)(hb:PE X b tb)(hm:behindInMarks op b=false):PE X (.Compare a [op] [b] pos) (CI r ta tb):=by
 intro pins s σ H Q I h;exact wpAny_Compare1 (Hm ha hb I h fun v u s2 x y H2 I2 rx ry q=>ho pins s2 σ H2 x y v u Q I2 rx ry q) hm
def ZH(t:TE):TT:=fun σ H Q=>t σ H fun x H'=>∃k,x=.bl k/\Q k H'
theorem bY{op:CmpOp}{r:R2}(ho:cL X (compareOp op) r)(ha:PE X a ta)(hb:PE X b tb)(hm:behindInMarks op b=false):PT X (.Compare a [op] [b] pos) (ZH (CI r ta tb)):=by
 intro pins s σ H Q I h;refine axC (thn (ha pins s σ H _ I h) fun v s1 ZI=>ZI.elim fun x ZJ=>ZJ.elim fun H1 ZK=>ZK.elim fun I1 ZL=>ZL.elim fun r1 q1=>thn (hb pins s1 σ H1 _ I1 q1) fun u s2 ZM=>ZM.elim fun y ZN=>ZN.elim fun H2 ZO=>ZO.elim fun I2 ZP=>ZP.elim fun r2 q2=>
  thn (ho pins s2 σ H2 x y v u _ I2 r1 r2 q2) fun c s3 ZQ=>ZQ.elim fun z ZR=>ZR.elim fun H3 ZS=>ZS.elim fun I3 ZT=>ZT.elim fun r3 ZU=>ZU.elim fun k ZV=>ZV.elim fun e q3=>?_) hm
 subst e;cases r3;exact wf ⟨H3,I3,q3⟩
theorem zd:(sizeLine:Nat)<2 ^ 63:=by rw[yF];decide
theorem zf:cL X (binaryOp .Add) (fun x y H Q=>∃i j,x=.str i/\y=.str j/\i.length+j.length<=sizeLine/\Q (.str (i++j)) H):=by
 intro pins s σ H x y v u Q I rx ry h;obtain⟨i,j,rfl,rfl,hz,q⟩:=h;obtain⟨t,rfl⟩:=rx;obtain⟨t',rfl⟩:=ry;exact add_str (fun t' tk=>⟨.str (i++j),H,I.tok _,⟨_,rfl⟩,q⟩) hz
theorem vals1{x:V}{us:Lw}(r:aQ [x] us):∃u,us=[u]/\RelV x u:=by
 cases r with
 | cons r1 r2=>cases r2;exact⟨_,rfl,r1⟩
theorem vals2{x y:V}{us:Lw}(r:aQ [x,y] us):∃u w',us=[u,w']/\RelV x u/\RelV y w':=by
 cases r with
 | cons r1 r2=>
  cases r2 with
  | cons r3 r4=>cases r4;exact⟨_,_,rfl,r1,r3⟩
theorem ZW(hc:X.calm=true):fN X (.builtin "min") (fun xs H Q=>∃i j,xs=[.int i,.int j]/\Q (.int (if j<i then j else i)) H):=by
 intro pins s σ H xs us Q I r h;obtain⟨i,j,rfl,q⟩:=h;obtain⟨u,w',rfl,⟨t,rfl⟩,⟨t',rfl⟩⟩:=vals2 r;refine min_two_ints (I.ok.hd hc) fun h' tk k=>⟨_,H,I.kept k,?_,q⟩
 by_cases hj:j<i
 . rw[al hj,al hj];exact⟨_,rfl⟩
 . rw[ai hj,ai hj];exact⟨_,rfl⟩
theorem ZX:fN X (.type "str") (fun xs H Q=>∃i,xs=[.int i]/\i.natAbs.log2<1920/\Q (.str (toString i)) H):=by
 intro pins s σ H xs us Q I r h;obtain⟨i,rfl,hz,q⟩:=h;obtain⟨u,rfl,t,rfl⟩:=vals1 r;exact PySem.P.str_of_int hz ⟨.str _,H,I.tok _,⟨_,rfl⟩,q⟩
end
structure ue(h:Heap)(x dx C:Addr)(mA:Mv):Prop where
 obj:h.get? x=some (PySem.W.instObj C dx)
 ns:h.Ns1 dx mA
 ne:dx≠x
theorem ZY{h:Heap}{dx:Addr}{mA:Mv}(n:h.Ns1 dx mA):∃od,h.get? dx=some od/\∀name,PySem.W.lookIn name od=some (mA name):=by
 obtain⟨o,es,ep,ho,hd,hk,_,hm⟩:=n;refine⟨o,ho,fun name=>?_⟩;have e:=hm name;unfold nsFind findBy at e;rw[←Array.find?_toList]at e;unfold PySem.W.lookIn;rw[hd];dsimp only;split
 . rename_i y q;rw[q]at e;exact eN some e
 . rename_i q;rw[q]at e;have a:es.toList.any (·.refKey)=false:=by
    rw[List.any_eq_false];intro y hy;obtain⟨z,t,kU⟩:=hk y (Array.mem_toList_iff.mp hy);simp[DictEntry.refKey,kU]
   have a':¬es.toList.any (·.refKey)=true:=by rw[a];exact cK
   rw[ai a'];exact eN some e
theorem ue.look{h:Heap}{x dx C:Addr}{mA:Mv}(I:ue h x dx C mA):∃od,PySem.W.InstAt h x (PySem.W.instObj C dx) C (some od)/\∀name,PySem.W.lookIn name od=some (mA name):=
 (ZY I.ns).elim fun od ZZ=>ZZ.elim fun ho hl=>⟨od,⟨I.obj,rfl,rfl,ho⟩,hl⟩
section
variable {prog:Program}{w:World}{A:Around}{E:VP}{s:Shared}{K:Fg}{x dx C f:Addr}{mA:Mv}{name:Str}{v:Value}
theorem Z0{expr:Bool}{Q:VP}(X:K.In s.heap)(I:ue s.heap x dx C mA)(hg:PySem.W.plainGet K C name=true)(hh:PySem.W.hasDictIn K C=true)
 (ha:PySem.W.findIn K (.ref C) name=some none) (hv:mA name=some v) (zh:PySem.W.handedIn v=true) (h:Q v { s with toks:=s.toks+1 }) :
 wpAny (model prog w) A (getAttr (.ref x) name expr) Q E s:=by
 obtain⟨od,J,hl⟩:=I.look;exact PySem.W.get_value X J (Wc hg).1 (PySem.W.findObj_own hh ha rfl (by rw[hl,hv])) zh h
theorem Z1{pl:Sem Bool}{Q:Value×Lw->Shared->Prop}(X:K.In s.heap)(I:ue s.heap x dx C mA)(hg:PySem.W.plainGet K C name=true)
 (hf:PySem.W.findIn K (.ref C) name=some (some (.ref f))) (ht:PySem.W.isFn K (.ref f)=true) (hv:mA name=none) (h:Q (.ref f,[.ref x]) s) :
 wpAny (model prog w) A (getMethod (.ref x) name pl) Q E s:=by
 obtain⟨od,J,hl⟩:=I.look;exact PySem.W.method_fn X J (Wc hg).1 (Wc hg).2 hf (kK.mp ht) (by show(PySem.W.lookIn name od).map (·.isSome)=some false;rw[hl,hv];rfl) h
theorem Z3{ns:Ls}{Q:Unit->Shared->Prop}(X:K.In s.heap)(I:ue s.heap x dx C mA)
 (hs:PySem.W.findIn K (.ref C) "__setattr__"=some (some (.builtin "object.__setattr__"))) (hp:PySem.W.plainOver K C=true) (ht:PySem.W.takerIn K C name=some none) (hh:PySem.W.hasDictIn K C=true)
 (hw:PySem.Within mA ns) (hsz:ns.length<=sizeLine)
 (h:∀h',ue h' x dx C (fun y=>if y=name then some v else mA y)->Heap.SameBut dx s.heap h'->Q () { s with heap:=h',toks:=s.toks+2 }) :
 wpAny (model prog w) A (setAttr (.ref x) name v) Q E s:=by
 obtain⟨od,J,hl⟩:=I.look;refine PySem.W.set_plain X J hs (PySem.W.osa_open (s:={ s with toks:=s.toks+1 }) (r:=none) X J hp ht fun b=>?_);obtain⟨cd,hc,nI⟩:=PySem.W.any_some hh;have hx:s.heap.get? x=some ⟨.ref C,some dx,.plain,#[]⟩:=I.obj;refine af (au (af (af (wpAny_loadPart hx (af (PySem.W.Looks.here (s:={ s with toks:=s.toks+1 }) (PySem.W.looks_clsIn X hc) ?_))))));rw[nI];refine au (a:=some dx) (af (au (af ?_)));refine wpAny_nsSet1 (s:={ s with toks:=s.toks+1 }) I.ns fun h' zi tX=>?_;obtain⟨oD,esD,epD,Z4,Z5,Z6⟩:=zi.count (PySem.Within.cons name v hw);refine af (wpAny_lookBehind Z4 (by rw[Z5];exact pastItsLine_dict (cu Z6 (by rw[cg];omega))) ?_);exact au (h _ ⟨(tX.2 _ (ge I.ne)).trans I.obj,zi,I.ne⟩ tX)
theorem Z7{R:Result->Shared->Prop}{vs:Lw}{kw:List (Str×Value)}(X:K.In s.heap)(hm:PySem.W.makesIn K C=true)
 (hi:PySem.W.findIn K (.ref C) "__init__"=some (some (.ref f))) (hf:PySem.W.typeIn K (.ref f)=some (.type "function"))
 (h:codeAny (model prog w) (A.under (.builtin "type.__call__" ⟨.ref C::vs,kw⟩)) (.call (.ref f) ⟨.ref (s.heap.objs.size+1)::vs,kw⟩) (PySem.W.InitBack (s.heap.objs.size+1) R)
  { s with heap:=(s.heap.push PySem.W.emptyDict).push (PySem.W.instObj C s.heap.objs.size) }) :
 codeAny (model prog w) A (.call (.ref C) ⟨vs,kw⟩) R s:=by
 obtain⟨hh,g,d,t,os⟩:=s;exact PySem.W.make_core (PySem.W.makes_of X hm) (PySem.W.looks_findIn X hi) (fun self=>PySem.W.bind_fn X self hf) (.inl rfl) h
end
def ay(f:Str)(v:V):List (Str×V)->List (Str×V)
 | []=>[(f,v)]
 | (g,x)::r=>if g=f then(g,v)::r else(g,x)::ay f v r
theorem cx(f g:Str)(v:V):∀fs:List (Str×V),(ay f v fs).lookup g=if g=f then some v else fs.lookup g
 | []=>by
  show List.lookup g [(f,v)]=_
  by_cases h:g=f
  . have hb:(g == f)=true:=kK.mpr h;simp only[List.lookup,hb,al h]
  . have hb:(g == f)=false:=yA.mpr h;simp only[List.lookup,hb,ai h]
 | (k,x)::r=>by
  have ih:=cx f g v r;rw[show ay f v ((k,x)::r)=(if k=f then(k,v)::r else(k,x)::ay f v r) from rfl]
  by_cases hk:k=f
  . rw[al hk]
    by_cases h:g=k
    . have hb:(g == k)=true:=kK.mpr h;simp only[List.lookup,hb,al (h.trans hk)]
    . have hb:(g == k)=false:=yA.mpr h;simp only[List.lookup,hb,ai (fun e:g=f=>h (e.trans hk.symm))]
  . rw[ai hk]
    by_cases h:g=k
    . have hb:(g == k)=true:=kK.mpr h;simp only[List.lookup,hb,ai (fun e:g=f=>hk (h.symm.trans e))]
    . have hb:(g == k)=false:=yA.mpr h;simp only[List.lookup,hb];exact ih
theorem Hr(f:Str)(v:V):∀fs:List (Str×V),f∈(ay f v fs).map (·.1)/\∀g,g∈fs.map (·.1)->g∈(ay f v fs).map (·.1)
 | []=>⟨by simp[ay],fun g h=>by simp at h⟩
 | (k,x)::r=>by
  obtain⟨i1,i2⟩:=Hr f v r;rw[show ay f v ((k,x)::r)=(if k=f then(k,v)::r else(k,x)::ay f v r) from rfl]
  by_cases hk:k=f
  . rw[al hk];subst hk;exact⟨by simp,fun g h=>by simpa using h⟩
  . rw[ai hk];refine⟨?_,fun g h=>?_⟩
    . rw[bL];exact bR _ i1
    . rw[bL]at h ⊢
      rcases aY.mp h with e | e
      . exact aY.mpr (.inl e)
      . exact bR _ (i2 g e)
theorem Hs(f:Str)(v:V):∀fs:List (Str×V),(ay f v fs).length<=fs.length+1
 | []=>by simp[ay]
 | (k,x)::r=>by
  have ih:=Hs f v r;rw[show ay f v ((k,x)::r)=(if k=f then(k,v)::r else(k,x)::ay f v r) from rfl]
  by_cases hk:k=f
  . rw[al hk,cg,cg];omega
  . rw[ai hk,cg,cg];omega
theorem gg.some_of{v:V}{o:Option Value}(r:gg (some v) o):∃u,o=some u/\RelV v u:=by
 cases o with
 | none=>exact(show False from r).elim
 | some u=>exact⟨u,rfl,r⟩
theorem gg.none_of{o:Option Value}(r:gg none o):o=none:=by
 cases o with
 | none=>rfl
 | some u=>exact(show False from r).elim
theorem Z8{v:V}{u:Value}(r:RelV v u):PySem.W.handedIn u=true:=by
 cases v with
 | non=>cases (show u=Value.none from r);rfl
 | bl b=>cases (show u=Value.bool b from r);rfl
 | int i=>obtain⟨t,e⟩:=(show∃t,u=Value.int i t from r);cases e;rfl
 | str x=>obtain⟨t,e⟩:=(show∃t,u=Value.str x t from r);cases e;rfl
 | byt b=>obtain⟨t,e⟩:=(show∃t,u=Value.bytes b t from r);cases e;rfl
 | flt b=>obtain⟨t,e⟩:=(show∃t,u=Value.float b t from r);cases e;rfl
 | ref a=>cases (show u=Value.ref a from r);rfl
 | ty n=>cases (show u=Value.type n from r);rfl
section
variable {P:Program}{w:World}{H H':Hp}{h h':Heap}{a C dx:Addr}{fs aM:List (Str×V)}
theorem Ht(hok:cj P w H h)(e:H a=some (.ins C dx fs)):∃mA,ue h a dx C mA/\(∀f,gg (fs.lookup f) (mA f))/\PySem.Within mA (fs.map (·.1))/\fs.length<=1000/\H dx=some (.own a):=by
 obtain⟨d,z,ne,ob,mA,n,r,q⟩:=(show ci P w H h a (.ins C dx fs) from hok a _ e);exact⟨mA,⟨ob,n,ne⟩,r,q,z,d⟩
end
structure jU(K:Fg)(C:Addr):Prop where
 pg:PySem.W.plainGet K C Str.empty=true
 hd:PySem.W.hasDictIn K C=true
 po:PySem.W.plainOver K C=true
 sa:PySem.W.findIn K (.ref C) "__setattr__"=some (some (.builtin "object.__setattr__"))
theorem jU.get{K:Fg}{C:Addr}(c:jU K C)(f:Str):PySem.W.plainGet K C f=true:=c.pg
def fO(K:Fg)(C:Addr)(f:Str):Prop:=PySem.W.findIn K (.ref C) f=some none
theorem fO.taker{K:Fg}{C:Addr}{f:Str}(n:fO K C f):PySem.W.takerIn K C f=some none:=by
 unfold PySem.W.takerIn;rw[show PySem.W.findIn K (.ref C) f=some none from n];rfl
structure mj(K:Fg)(C:Addr)(m:Str)(f:Addr):Prop where
 at_:PySem.W.findIn K (.ref C) m=some (some (.ref f))
 fn:PySem.W.isFn K (.ref f)=true
 kp:PySem.W.keepIn K (.ref f)=true
section
variable {X:Cx}{pins:Po}{σ:St}{H:Hp}{s:Shared}{a C dx:Addr}{fs:List (Str×V)} {f:Str}{v:V}{A:Around}{E:VP}
theorem Z9{b:Bool}{Q:VP}(I:Inv X pins σ H s)(e:H a=some (.ins C dx fs))(c:jU X.K C)(n:fO X.K C f)(l:fs.lookup f=some v)
 (h:∀u s',Inv X pins σ H s'->RelV v u->Q u s'):wpAny (model X.prog X.w) A (getAttr (.ref a) f b) Q E s:=by
 obtain⟨mA,O,r,_,_,_⟩:=Ht I.hok e;obtain⟨u,hu,ru⟩:=gg.some_of (v:=v) (o:=mA f) (by rw[←l];exact r f);exact Z0 I.kIn O (c.get f) c.hd n hu (Z8 ru) (h u _ (I.tok _) ru)
theorem OZ{m:Str}{g:Addr}{pl:Sem Bool}{Q:Value×Lw->Shared->Prop}(I:Inv X pins σ H s)(e:H a=some (.ins C dx fs))(c:jU X.K C)(k:mj X.K C m g)(l:fs.lookup m=none)
 (h:Q (.ref g,[.ref a]) s):wpAny (model X.prog X.w) A (getMethod (.ref a) m pl) Q E s:=by
 obtain⟨mA,O,r,_,_,_⟩:=Ht I.hok e;have hn:mA m=none:=gg.none_of (by rw[←l];exact r m);exact Z1 I.kIn O (c.get m) k.at_ k.fn hn h
theorem aaa{y:V}{u:Value}{Q:Unit->Shared->Prop}(I:Inv X pins σ H s)(e:H a=some (.ins C dx fs))(c:jU X.K C)(n:fO X.K C f)(hl:fs.length<1000)(ry:RelV y u)
 (h:∀s',Inv X pins σ (ah H a (.ins C dx (ay f y fs))) s'->Q () s'):wpAny (model X.prog X.w) A (setAttr (.ref a) f u) Q E s:=by
 obtain⟨mA,O,r,wi,_,ho⟩:=Ht I.hok e;have hz:(fs.map (·.1)).length<=sizeLine:=by rw[ao,yF];omega
 refine Z3 I.kIn O c.sa c.po n.taker c.hd wi hz fun h' O' sb=>h _ ?_;have hd:∃o,h'.get? dx=some o:=O'.ns.elim fun o aab=>aab.elim fun _ aac=>aac.elim fun _ aad=>aad.elim fun e' _=>⟨o,e'⟩;refine I.write (x:=a) (e:=dx) (by rw[e];exact True.intro) (.inr ho) (fun b q hb z=>(sb.2 b hb).trans z) hd ?_;refine⟨by rw[aW O.ne];exact ho,?_,O.ne,O'.obj,_,O'.ns,fun g=>?_,fun g hg=>?_⟩
 . have:=Hs f y fs;omega
 . show gg ((ay f y fs).lookup g) (if g=f then some u else mA g);rw[cx]
   by_cases q:g=f
   . rw[al q,al q];exact ry
   . rw[ai q,ai q];exact r g
 . by_cases q:g=f
   . rw[q];exact(Hr f y fs).1
   . refine(Hr f y fs).2 g (wi g fun z=>hg ?_);show(if g=f then some u else mA g)=none;rw[ai q];exact z
theorem Inv.made(I:Inv X pins σ H s):Inv X pins σ (ah (ah H s.heap.objs.size (.own (s.heap.objs.size+1))) (s.heap.objs.size+1) (.ins C s.heap.objs.size []))
 { s with heap:=(s.heap.push PySem.W.emptyDict).push (PySem.W.instObj C s.heap.objs.size) }:=by
 have e1:(s.heap.push PySem.W.emptyDict).get? s.heap.objs.size=some PySem.W.emptyDict:=dR s.heap rfl;have e2:((s.heap.push PySem.W.emptyDict).push (PySem.W.instObj C s.heap.objs.size)).get? (s.heap.objs.size+1)=some (PySem.W.instObj C s.heap.objs.size):=by
  have:=dR (s.heap.push PySem.W.emptyDict) (o:=PySem.W.instObj C s.heap.objs.size) rfl
  rwa [tG]at this
 have e3:(s.heap.push PySem.W.emptyDict).Ns s.heap.objs.size (fun _=>none):=⟨PySem.W.emptyDict,#[],_,e1,rfl,(fun e he=>absurd he (by simp)),fun _=>rfl⟩;have I1:=I.laid (a:=s.heap.objs.size) (o:=.own (s.heap.objs.size+1)) (h':=s.heap.push PySem.W.emptyDict) (t':=s.toks) (fun b u q=>bX _ q) (aI _) ⟨_,e1⟩;refine I1.laid (a:=s.heap.objs.size+1) (o:=.ins C s.heap.objs.size []) (t':=s.toks) (fun b u q=>bX _ q) (Cc (tG _ _)) ?_;have ne:s.heap.objs.size≠s.heap.objs.size+1:=cS (yG _);refine⟨by rw[aW ne,aH],dG _,ne,e2,fun _=>none,(Heap.Ns1.of_empty e3).at fun o q=>bX _ q,fun _=>True.intro,fun y hy=>absurd rfl hy⟩
theorem aae{prog:Program}{w:World}{env:Env}{e:Expr}{f:Str}{pos:Pos}{s:Shared}{Q:VP}(hb:attributeBase e f env (eval e env)=eval e env)
 (h:wpAny (model prog w) A (eval e env) (fun o s₁=>wpAny (model prog w) A (getAttr o f true) Q E s₁) E s):wpAny (model prog w) A (eval (.Attribute e f pos) env) Q E s:=
 Attribute_any_ h (by rw[arm_eval_Attribute,hb])
end
def O0(K:Fg)(ta:TE)(f:Str):TE:=fun σ H Q=>ta σ H fun x H1=>∃a C dx fs v,x=.ref a/\H1 a=some (.ins C dx fs)/\jU K C/\fO K C f/\fs.lookup f=some v/\Q v H1
def aaf(K:Fg)(ta tv:TE)(f:Str):TS:=fun D σ H=>tv σ H fun y H1=>ta σ H1 fun x H2=>∃a C dx fs,x=.ref a/\H2 a=some (.ins C dx fs)/\jU K C/\fO K C f/\fs.length<1000 /\
 D.nx σ (ah H2 a (.ins C dx (ay f y fs)))
section
variable {X:Cx}{o e value:Expr}{f:Str}{pos pos' wA:Pos}{ta tv:TE}
theorem cU(he:PE X e ta)(hb:attributeBase e f X.env (eval e X.env)=eval e X.env):PE X (.Attribute e f pos) (O0 X.K ta f):=by
 intro pins s σ H Q I h;refine aae hb (thn (he pins s σ H _ I h) fun u s1 aag=>aag.elim fun x aah=>aah.elim fun H1 aai=>aai.elim fun I1 aaj=>aaj.elim fun rx aak=>aak.elim fun a aal=>aal.elim fun C aam=>aam.elim fun dx aan=>aan.elim fun fs aao=>aao.elim fun v aap=>aap.elim fun ex aaq=>aaq.elim fun ea aar=>aar.elim fun c aas=>aas.elim fun n aat=>aat.elim fun l q=>?_);subst ex;obtain rfl:u=Value.ref a:=rx;exact Z9 I1 ea c n l fun u' s2 I2 ru=>⟨v,H1,I2,ru,q⟩
theorem iy(ha:PE X o ta)(hv:PE X value tv)(hs:swapsWith value (some (.Attribute o f pos')) pos.line X.env=pure false):PS X (.Assign [.Attribute o f pos'] value pos) (aaf X.K ta tv f):=by
 intro pins s σ H D I h;refine plainObj_wpAny_Assign_Attribute (thn (hv pins s σ H _ I h) fun u s1 aau=>aau.elim fun y aav=>aav.elim fun H1 aaw=>aaw.elim fun I1 aax=>aax.elim fun ry q=>thn (ha pins s1 σ H1 _ I1 q) fun ov s2 aay=>aay.elim fun x aaz=>aaz.elim fun H2 aaA=>aaA.elim fun I2 aaB=>aaB.elim fun rx aaC=>aaC.elim fun a aaD=>aaD.elim fun C aaE=>aaE.elim fun dx aaF=>aaF.elim fun fs aaG=>aaG.elim fun ex aaH=>aaH.elim fun ea aaI=>aaI.elim fun c aaJ=>aaJ.elim fun n aaK=>aaK.elim fun l q2=>?_) hs;subst ex;obtain rfl:ov=Value.ref a:=rx;exact aaa I2 ea c n l ry fun s3 I3=>⟨σ,_,I3,q2⟩
end
section
variable {X:Cx}{pins:Po}{σ:St}{H:Hp}{s:Shared}{A:Around}{E:VP}{Q:VP}{c:Value}{b:Bool}
end
structure ce(k:Nat)(A:Around):Prop where
 hd:A.handled=none
 dp:A.depth+3 * k+5<recursionLimit
 un:A.units+16 * k+200<cLine
 gd:A.guards=some []
theorem ce.mono{j k:Nat}{A:Around}(r:ce k A)(h:j<=k):ce j A:=⟨r.hd,by have:=r.dp;omega,by have:=r.un;omega,r.gd⟩
theorem ce.deeper{k:Nat}{A:Around}(r:ce (k+1) A)(env:Env):ce k (A.deeper env):=
 ⟨r.hd,by have:=r.dp;show A.depth+1+3 * k+5<_;omega,by have:=r.un;show A.units+3+16 * k+200<_;omega,r.gd⟩
theorem ce.in1{k:Nat}{A:Around}(r:ce (k+1) A):ce k A.in1:=
 ⟨r.hd,by have:=r.dp;show A.depth+3 * k+5<_;omega,by have:=r.un;show A.units+1+16 * k+200<_;omega,r.gd⟩
theorem aaL{A:Around}{C:Addr}{us:Lw}{kw:List (Str×Value)}:(A.under (.builtin "type.__call__" ⟨.ref C::us,kw⟩)).depth=A.depth+1:=by
 first | rfl | simp[Around.under,Code.weight,Code.isCreation,Code.isGuard,Code.isCaller,Code.frames,Code.isFrame,guardIds]
theorem aaM{A:Around}{C:Addr}{us:Lw}{kw:List (Str×Value)}:(A.under (.builtin "type.__call__" ⟨.ref C::us,kw⟩)).units=A.units+1:=by
 first | rfl | simp[Around.under,Code.cUnits,Code.frames,Code.isFrame]
theorem aaN{A:Around}{C:Addr}{us:Lw}{kw:List (Str×Value)}:(A.under (.builtin "type.__call__" ⟨.ref C::us,kw⟩)).guards=A.guards:=by
 first | rfl | simp[Around.under,pushGuards,Code.guards,Code.isGuard,guardIds]
theorem ce.make{k:Nat}{A:Around}(r:ce (k+1) A)(C:Addr)(us:Lw)(kw:List (Str×Value)):ce k (A.under (.builtin "type.__call__" ⟨.ref C::us,kw⟩)):=
 ⟨r.hd,by have:=r.dp;rw[aaL];omega,by have:=r.un;rw[aaM];omega,aaN.trans r.gd⟩
theorem ce.depth{k:Nat}{A:Around}(r:ce k A):A.depth<recursionLimit:=by have:=r.dp;omega
theorem ce.units{k:Nat}{A:Around}(r:ce k A):A.units+64<cLine:=by have:=r.un;omega
def fz:TA:=fun _ H Q=>Q [] H
def kW(ta:TE)(tr:TA):TA:=fun σ H Q=>ta σ H fun x H1=>tr σ H1 fun xs H2=>Q (x::xs) H2
section
variable {X:Cx}{e:Expr}{es:List Expr}{te:TE}{t:TA}{pos:Pos}
theorem ac:PA X [] fz:=fun _ _ _ _ H Q I h=>Wd ⟨[],H,I,.nil,h⟩
theorem aa(ha:PE X e te)(hr:PA X es t)(hs:starEach (e::es) X.env=(false,eval e X.env)::starEach es X.env:=by rfl):PA X (e::es) (kW te t):=by
 intro pos pins s σ H Q I h;rw[hs];show wpAny _ _ (spliced ((false,eval e X.env)::backTo pos (starEach es X.env))) _ _ s;refine We (thn (ha pins s σ H _ I h) fun u s1 aaO=>aaO.elim fun x aaP=>aaP.elim fun H1 aaQ=>aaQ.elim fun I1 aaR=>aaR.elim fun r1 q1=>?_);exact thn (hr pos pins s1 σ H1 _ I1 q1) fun us s2 aaS=>aaS.elim fun xs aaT=>aaT.elim fun H2 aaU=>aaU.elim fun I2 aaV=>aaV.elim fun r2 q2=>⟨x::xs,H2,I2,.cons r1 r2,q2⟩
def Hu(t:TA):TE:=fun σ H Q=>t σ H fun xs H1=>xs.length<=sizeLine/\∀p,H1 p=none->Q (.ref p) (ah H1 p (.tup xs))
def aaW(t:TA):TE:=fun σ H Q=>t σ H fun xs H1=>xs.length<=sizeLine/\∀p,H1 p=none->Q (.ref p) (ah H1 p (.lst xs))
theorem O1{x1}(h:PA X es t):PE X (.Tuple es x1 pos) (Hu t):=by
 intro pins s σ H Q I hq;refine wpAny_Tuple_spliced (thn (h pos pins s σ H _ I hq) fun us s1 aaX=>aaX.elim fun xs aaY=>aaY.elim fun H1 aaZ=>aaZ.elim fun I1 aa0=>aa0.elim fun r aa1=>aa1.elim fun z q=>⟨by rw[←r.length];exact z,?_⟩);have hf:H1 s1.heap.objs.size=none:=I1.hok.fresh (aI _);refine⟨.ref s1.heap.objs.size,ah H1 s1.heap.objs.size (.tup xs),I1.laid (t':=s1.toks) (fun b u e=>bX _ e) (aI _) ?_,rfl,q _ hf⟩;exact⟨z,us,r,⟨_,dR _ rfl,rfl,_,rfl⟩⟩
theorem aa2(h:PA X es t):PE X (.List es pos) (aaW t):=by
 intro pins s σ H Q I hq;refine wpAny_List_spliced (thn (h pos pins s σ H _ I hq) fun us s1 aa3=>aa3.elim fun xs aa4=>aa4.elim fun H1 aa5=>aa5.elim fun I1 aa6=>aa6.elim fun r aa7=>aa7.elim fun z q=>⟨by rw[←r.length];exact z,?_⟩);have hf:H1 s1.heap.objs.size=none:=I1.hok.fresh (aI _);refine⟨.ref s1.heap.objs.size,ah H1 s1.heap.objs.size (.lst xs),I1.laid (t':=s1.toks) (fun b u e=>bX _ e) (aI _) ?_,rfl,q _ hf⟩;exact⟨z,us,0,r,dR _ rfl⟩
end
abbrev Sp:=Lv->Hp->VK->XK->Prop
abbrev iz:=List Env->Hp->Shared->XK->Value->Shared->Prop
structure mn(P:Program)(w:World)(K:Fg)(mg:Mv)(base:Heap)(A:Around)(outer:List Env)(s:Shared)(H:Hp):Prop where
 frames:A.frames=some outer
 mod:Mod K mg base
 bs:∀b o,base.get? b=some o->s.heap.get? b=some o/\H b=none
 bsz:base.objs.size<=s.heap.objs.size
 funs:s.heap.FunFrames base outer
 frf:∀b∈cE outer,H b=none
 hok:cj P w H s.heap
 bare:AllBare s.gens
def CE(outer:List Env)(P:Program)(w:World)(H:Hp)(s:Shared)(Q:VK)(u:Value)(s':Shared):Prop:=
 ∃v H',s'.os=s.os/\AllBare s'.gens/\Un (cE outer) [] H H' s.heap s'.heap/\cj P w H' s'.heap/\RelV v u/\Q v H'
def CR(CX:iz)(outer:List Env)(P:Program)(w:World)(H:Hp)(s:Shared)(Q:VK)(E:XK)(r:Result)(s':Shared):Prop:=
 match r with
 | .ok (.ret u)=>CE outer P w H s Q u s'
 | .ok _=>False
 | .error e=>CX outer H s E e s'
structure aj(P:Program)(w:World)(K:Fg)(mg:Mv)(base:Heap)(CX:iz)(k:Nat)(f:Addr)(fd:Fy)(ps:Ls)(sp:Sp):Prop where
 len:∀vs H Q E,sp vs H Q E->vs.length=ps.length
 run:∀(A:Around) (outer:List Env) (s:Shared) (H:Hp) (args:Args) (us:Lw) (vs:Lv) (Q:VK) (E:XK),ce k A->mn P w K mg base A outer s H->BindsTo s fd args (ps.zip us)->aQ vs us->sp vs H Q E ->
  codeAny (model P w) A (.call (.ref f) args) (CR CX outer P w H s Q E) s
theorem aj.mono{P:Program}{w:World}{K:Fg}{mg:Mv}{base:Heap}{CX:iz}{j k:Nat}{f:Addr}{fd:Fy}{ps:Ls}{sp:Sp}(F:aj P w K mg base CX j f fd ps sp)(h:j<=k) :
 aj P w K mg base CX k f fd ps sp:=⟨F.len,fun A outer s H args us vs Q E hr=>F.run A outer s H args us vs Q E (hr.mono h)⟩
theorem aj.imp{P:Program}{w:World}{K:Fg}{mg:Mv}{base:Heap}{CX:iz}{k:Nat}{f:Addr}{fd:Fy}{ps:Ls}{sp O2:Sp}(F:aj P w K mg base CX k f fd ps sp)
 (h:∀vs H Q E,O2 vs H Q E->sp vs H Q E):aj P w K mg base CX k f fd ps O2:=
 ⟨fun vs H Q E q=>F.len vs H Q E (h _ _ _ _ q),fun A outer s H args us vs Q E hr he hb hv hs=>F.run A outer s H args us vs Q E hr he hb hv (h _ _ _ _ hs)⟩
theorem mn.make{P:Program}{w:World}{K:Fg}{mg:Mv}{base:Heap}{A:Around}{outer:List Env}{s:Shared}{H:Hp}(e:mn P w K mg base A outer s H)(C:Addr)(us:Lw)(kw:List (Str×Value)) :
 mn P w K mg base (A.under (.builtin "type.__call__" ⟨.ref C::us,kw⟩)) outer s H:=⟨by first | exact e.frames | (simpa [Around.under,Code.envs,Code.isFrame,pushEnvs]using e.frames),e.mod,e.bs,e.bsz,e.funs,e.frf,e.hok,e.bare⟩
theorem mn.in1{P:Program}{w:World}{K:Fg}{mg:Mv}{base:Heap}{A:Around}{outer:List Env}{s:Shared}{H:Hp}(e:mn P w K mg base A outer s H) :
 mn P w K mg base A.in1 outer s H:=⟨e.frames,e.mod,e.bs,e.bsz,e.funs,e.frf,e.hok,e.bare⟩
section
variable {X:Cx}{pins:Po}{σ:St}{H:Hp}{s s':Shared}
theorem Inv.env0(I:Inv X pins σ H s):mn X.prog X.w X.K X.mg X.base X.A X.stack s H:=
 ⟨I.ok.frames,I.ok.mod,I.bs,cu I.ok.bsz I.sz,I.stack,I.stkFree,I.hok,I.bare⟩
theorem Inv.after{Q:VK}{u:Value}(I:Inv X pins σ H s)(h:CE X.stack X.prog X.w H s Q u s'):EP X pins σ Q u s':=by
 obtain⟨v,H',os,bare,un,hok,r,q⟩:=h;obtain⟨hh,g,d,t,CL⟩:=s';obtain rfl:CL=s.os:=os;exact⟨v,H',I.call (h':=hh) (g':=g) (d':=d) (t':=t) (ch:=[]) un hok bare (fun b z=>absurd z (by simp)),r,q⟩
end
def Hv(sp:Sp)(cZ:Lv)(E:XK)(t:TA):TE:=fun σ H Q=>t σ H fun vs H1=>sp (vs++cZ) H1 Q E
def O3(C:Addr)(m:Str)(sp:Sp)(cZ:Lv)(E:XK)(ta:TE)(t:TA):TE:=fun σ H Q=>ta σ H fun x H1=>∃a dx fs,x=.ref a/\H1 a=some (.ins C dx fs)/\fs.lookup m=none /\
 t σ H1 fun vs H2=>sp (x::(vs++cZ)) H2 Q E
def O4(C:Addr)(sp:Sp)(cZ:Lv)(E:XK)(t:TA):TE:=fun σ H Q=>t σ H fun vs H1=>∀x dx,H1 x=none->H1 dx=none->dx≠x ->
 sp (.ref x::(vs++cZ)) (ah (ah H1 dx (.own x)) x (.ins C dx [])) (fun v H2=>v=.non/\Q (.ref x) H2) E
def Binds(K:Fg)(fd:Fy)(ps:Ls)(ds:Lw):Prop:=
 ∀(s:Shared) (us:Lw),K.In s.heap->(us++ds).length=ps.length->BindsTo s fd ⟨us,[]⟩ (ps.zip (us++ds))
theorem Binds.all{K:Fg}{fd:Fy}{ps:Ls}(h:∀us:Lw,us.length=ps.length->bindArgs fd ⟨us,[]⟩=pure (ps.zip us)):Binds K fd ps []:=fun s us _ hl=>by
 rw[lX]at hl ⊢;exact .of_eq (h us hl)
def nQ(CX:iz)(X:Cx)(E:XK):Prop:=∀(pins:Po) (σ:St) (H:Hp) (s:Shared) (e:Value) (s':Shared),Inv X pins σ H s->CX X.stack H s E e s'->X.xe e s'
section
variable {X:Cx}{CX:iz}{k:Nat}{f C:Addr}{fd:Fy}{ps:Ls}{sp:Sp}{cZ:Lv}{ds:Lw}{E:XK}{x m:Str}{p pos apos:Pos}{e o:Expr}{es:List Expr}{ta:TE}{t:TA}
theorem Hw{pins:Po}{σ:St}{H:Hp}{s:Shared}{Q:VK}{us:Lw}{vs:Lv}(F:aj X.prog X.w X.K X.mg X.base CX k f fd ps sp)(hr:ce k X.A)(hb:Binds X.K fd ps ds)(hd:aQ cZ ds)(hx:nQ CX X E)
 (I:Inv X pins σ H s) (r:aQ vs us) (h:sp (vs++cZ) H Q E):wpAny (model X.prog X.w) X.A (call (.ref f) us) (EP X pins σ Q) X.xe s:=by
 have r2:aQ (vs++cZ) (us++ds):=r.append hd;have hl:(us++ds).length=ps.length:=by rw[←r2.length];exact F.len _ _ _ _ h
 refine GO (qM (F.run X.A X.stack s H ⟨us,[]⟩ (us++ds) (vs++cZ) Q E hr I.env0 (hb s us I.kIn hl) r2 h) fun r s' hq=>?_);cases r with
 | error e=>exact hx pins σ H s e s' I hq
 | ok fl=>
  cases fl with
  | ret u=>exact I.after hq
  | next=>exact False.elim hq
  | brk=>exact False.elim hq
  | cont=>exact False.elim hq
theorem mo(F:aj X.prog X.w X.K X.mg X.base CX k f fd ps sp)(hr:ce k X.A)(hg:Gl X x)(hm:X.mg x=some (.ref f))(hk:PySem.W.keepIn X.K (.ref f)=true)(hb:Binds X.K fd ps ds)(hd:aQ cZ ds)(hx:nQ CX X E)
 (ha:PA X (e::es) t) (gU:(x == ("__debug__":Str))=false:=by decide) (he:starEach (e::es) X.env=(false,eval e X.env)::starEach es X.env:=by rfl) (dU:(backTo pos (starEach es X.env)).any (·.1)=false:=by rfl) :
 PE X (.Call (.Name x p) (e::es) [] pos) (Hv sp cZ E t):=by
 intro pins s σ H Q I h;refine yH (wu I hg hm ?_ gU);refine NP (h₀:=X.base) I.ok.mod.kin hk (thn (ha pos pins s σ H _ I h) fun us s1 aa8=>aa8.elim fun vs aa9=>aa9.elim fun H1 aba=>aba.elim fun I1 abb=>abb.elim fun r q=>⟨I1.kIn,?_⟩) he dU;exact Hw F hr hb hd hx I1 r q
theorem jV{pl:Sem Bool}(he:PE X o ta)(c:jU X.K C)(hm:mj X.K C m f)(F:aj X.prog X.w X.K X.mg X.base CX k f fd ps sp)(hr:ce k X.A)(hb:Binds X.K fd ps ds)(hd:aQ cZ ds)(hx:nQ CX X E)(ha:PA X (e::es) t)
 (fM:starEach (e::es) X.env=(false,eval e X.env)::starEach es X.env:=by rfl) (dU:(backTo pos (starEach es X.env)).any (·.1)=false:=by rfl)
 (ht:eval (.Call (.Attribute o m apos) (e::es) [] pos) X.env=(do
  let ov ←eval o X.env
  standAt apos.atName
  let (f,first) ←holding [ov] (getMethod ov m pl)
  callWith pos f first (backTo pos (starEach (e::es) X.env)) (backToKw pos (keywordEach [] X.env))):=by rfl) :
 PE X (.Call (.Attribute o m apos) (e::es) [] pos) (O3 C m sp cZ E ta t):=by
 intro pins s σ H Q I h;refine axD (pl:=pl) (thn (he pins s σ H _ I h) fun u s1 abc=>abc.elim fun x abd=>abd.elim fun H1 abe=>abe.elim fun I1 abf=>abf.elim fun rx abg=>abg.elim fun a abh=>abh.elim fun dx abi=>abi.elim fun fs abj=>abj.elim fun ex abk=>abk.elim fun ea abl=>abl.elim fun l q=>?_) ht;subst ex;obtain rfl:u=Value.ref a:=rx;refine OZ I1 ea c hm l ?_;refine NP (first:=[.ref a]) (h₀:=X.base) I.ok.mod.kin hm.kp (thn (ha pos pins s1 σ H1 _ I1 q) fun us s2 abm=>abm.elim fun vs abn=>abn.elim fun H2 abo=>abo.elim fun I2 abp=>abp.elim fun r q2=>⟨I2.kIn,?_⟩) fM dU;exact Hw (us:=.ref a::us) (vs:=.ref a::vs) F hr hb hd hx I2 (.cons rfl r) q2
theorem rh{pl:Sem Bool}(he:PE X o ta)(c:jU X.K C)(hm:mj X.K C m f)(F:aj X.prog X.w X.K X.mg X.base CX k f fd ps sp)(hr:ce k X.A)(hb:Binds X.K fd ps ds)(hd:aQ cZ ds)(hx:nQ CX X E)
 (ht:eval (.Call (.Attribute o m apos) [] [] pos) X.env=(do
  let ov ←eval o X.env
  standAt apos.atName
  let (f,first) ←holding [ov] (getMethod ov m pl)
  callWith pos f first (backTo pos (starEach [] X.env)) (backToKw pos (keywordEach [] X.env))):=by rfl) :
 PE X (.Call (.Attribute o m apos) [] [] pos) (O3 C m sp cZ E ta fz):=by
 intro pins s σ H Q I h;refine axD (pl:=pl) (thn (he pins s σ H _ I h) fun u s1 abq=>abq.elim fun x abr=>abr.elim fun H1 abt=>abt.elim fun I1 abu=>abu.elim fun rx abv=>abv.elim fun a abw=>abw.elim fun dx abx=>abx.elim fun fs aby=>aby.elim fun ex abz=>abz.elim fun ea abA=>abA.elim fun l q=>?_) ht;subst ex;obtain rfl:u=Value.ref a:=rx;refine OZ I1 ea c hm l ?_;exact PySem.W.callWith_K0 (first:=[.ref a]) I1.kIn hm.kp (Hw (us:=[.ref a]) (vs:=[.ref a]) F hr hb hd hx I1 (.cons rfl .nil) q)
structure Mk(K:Fg)(C f:Addr):Prop where
 makes:PySem.W.makesIn K C=true
 init:PySem.W.findIn K (.ref C) "__init__"=some (some (.ref f))
 fn:PySem.W.isFn K (.ref f)=true
 kp:PySem.W.keepIn K (.ref C)=true
theorem O5{pins:Po}{σ:St}{H:Hp}{s:Shared}{Q:VK}{us:Lw}{vs:Lv}(M:Mk X.K C f)(F:aj X.prog X.w X.K X.mg X.base CX k f fd ps sp)(hr:ce (k+1) X.A)(hb:Binds X.K fd ps ds)(hd:aQ cZ ds)
 (hx:nQ CX X E) (I:Inv X pins σ H s) (r:aQ vs us)
 (h:∀x dx,H x=none->H dx=none->dx≠x->sp (.ref x::(vs++cZ)) (ah (ah H dx (.own x)) x (.ins C dx [])) (fun v H2=>v=.non/\Q (.ref x) H2) E) :
 wpAny (model X.prog X.w) X.A (call (.ref C) us) (EP X pins σ Q) X.xe s:=by
 have hq:=h (s.heap.objs.size+1) s.heap.objs.size (I.hok.fresh (tH _)) (I.hok.fresh (aI _)) (cS (yG _));have I2:=Inv.made (C:=C) I;have r2:aQ (V.ref (s.heap.objs.size+1)::(vs++cZ)) (Value.ref (s.heap.objs.size+1)::(us++ds)):=.cons rfl (r.append hd);have hl:(Value.ref (s.heap.objs.size+1)::us++ds).length=ps.length:=by
  have e:=r2.length;rw[F.len _ _ _ _ hq]at e;exact e.symm
 refine GO (Z7 (f:=f) I.kIn M.makes M.init (kK.mp M.fn) (qM (F.run _ X.stack _ _ ⟨Value.ref (s.heap.objs.size+1)::us,[]⟩ (Value.ref (s.heap.objs.size+1)::(us++ds)) _ _ E (hr.make C us [])
  (I2.env0.make C us []) (hb _ (Value.ref (s.heap.objs.size+1)::us) I2.kIn hl) r2 hq) fun r s' kX=>?_))
 cases r with
 | error e=>exact hx pins σ _ _ e s' I2 kX
 | ok fl=>
  cases fl with
  | ret u=>
   obtain⟨v,H',I3,rv,ev,q3⟩:=I2.after kX;subst ev;exact⟨rv,⟨V.ref (s.heap.objs.size+1),H',I3,rfl,q3⟩⟩
  | next=>exact False.elim kX
  | brk=>exact False.elim kX
  | cont=>exact False.elim kX
theorem zj(M:Mk X.K C f)(F:aj X.prog X.w X.K X.mg X.base CX k f fd ps sp)(hr:ce (k+1) X.A)(hg:Gl X x)(hm:X.mg x=some (.ref C))(hb:Binds X.K fd ps ds)(hd:aQ cZ ds)(hx:nQ CX X E)
 (ha:PA X (e::es) t) (gU:(x == ("__debug__":Str))=false:=by decide) (he:starEach (e::es) X.env=(false,eval e X.env)::starEach es X.env:=by rfl) (dU:(backTo pos (starEach es X.env)).any (·.1)=false:=by rfl) :
 PE X (.Call (.Name x p) (e::es) [] pos) (O4 C sp cZ E t):=by
 intro pins s σ H Q I h;refine yH (wu I hg hm ?_ gU);refine NP (h₀:=X.base) I.ok.mod.kin M.kp (thn (ha pos pins s σ H _ I h) fun us s1 abB=>abB.elim fun vs abC=>abC.elim fun H1 abD=>abD.elim fun I1 abE=>abE.elim fun r q=>⟨I1.kIn,?_⟩) he dU;exact O5 M F hr hb hd hx I1 r q
theorem abF(M:Mk X.K C f)(F:aj X.prog X.w X.K X.mg X.base CX k f fd ps sp)(hr:ce (k+1) X.A)(hg:Gl X x)(hm:X.mg x=some (.ref C))(hb:Binds X.K fd ps ds)(hd:aQ cZ ds)(hx:nQ CX X E)
 (gU:(x == ("__debug__":Str))=false:=by decide):PE X (.Call (.Name x p) [] [] pos) (O4 C sp cZ E fz):=by
 intro pins s σ H Q I h;refine yH (wu I hg hm ?_ gU);exact PySem.W.callWith_K0 I.kIn M.kp (O5 (us:=[]) M F hr hb hd hx I .nil h)
end
def PK(X:Cx)(gB:List Keyword)(t:TA):Prop:=
 ∀(pos:Pos) (pins:Po) (s:Shared) (σ:St) (H:Hp) (Q:Lv->Hp->Prop),Inv X pins σ H s->t σ H Q->wpAny (model X.prog X.w) X.A (evalAll ((backToKw pos (keywordEach gB X.env)).map (·.2))) (AP X pins σ Q) X.xe s
section
variable {X:Cx}{CX:iz}{k:Nat}{f C:Addr}{fd:Fy}{ps ks:Ls}{sp:Sp}{E:XK}{x m:Str}{p pos apos zk:Pos}{e o:Expr}{es:List Expr}{gB:List Keyword}{te ta:TE}{t tk:TA}{nm:Option Str}
theorem abG:PK X [] fz:=fun _ _ _ _ H Q I h=>wpAny_evalAll_nil ⟨[],H,I,.nil,h⟩
theorem abH(ha:PE X e te)(hr:PK X gB t):PK X (⟨nm,e,zk⟩::gB) (kW te t):=by
 intro pos pins s σ H Q I h;show wpAny _ _ (evalAll ((do let v ←eval e X.env;standAt pos;pure v)::(backToKw pos (keywordEach gB X.env)).map (·.2))) _ _ s;refine wpAny_evalAll_cons (af (thn (ha pins s σ H _ I h) fun u s1 abI=>abI.elim fun x abJ=>abJ.elim fun H1 abK=>abK.elim fun I1 abL=>abL.elim fun r1 q1=>af (Wf (au ?_))));exact thn (hr pos pins s1 σ H1 _ I1 q1) fun us s2 abM=>abM.elim fun xs abN=>abN.elim fun H2 abO=>abO.elim fun I2 abP=>abP.elim fun r2 q2=>⟨x::xs,H2,I2,.cons r1 r2,q2⟩
variable {g:Lw->Lw->Lw}{gV:Lv->Lv->Lv}
end
structure aP(N P:Ls)(sc:Scope):Prop where
 kind:sc.kind=.function
 co:sc.isCoroutine=false
 gen:sc.isGenerator=false
 nd:N.Nodup
 pre:N.take P.length=P
 par:∀x∈P,sc.names.lookup x=some .local\/sc.names.lookup x=some .cell
 nofree:∀y∈sc.names,y.2≠.free
theorem O6{kindOf:Str->Option NameKind}{x:Str}:∀{binds:List (Str×Value)}{m:Mv},(∀v,(x,v)∉binds)->bindL kindOf binds m x=m x
 | [],_,_=>rfl
 | (n,v)::r,m,h=>by
  unfold bindL;rw[O6 fun w hw=>h w (bR _ hw)];split
  . have:x≠n:=by rintro rfl;exact h v bK
    simp[this]
  . rfl
theorem O7{kindOf:Str->Option NameKind}{x:Str}:∀{binds:List (Str×Value)}{m:Mv},(∀v,(x,v)∉binds)->bindC kindOf binds m x=m x
 | [],_,_=>rfl
 | (n,v)::r,m,h=>by
  unfold bindC;rw[O7 fun w hw=>h w (bR _ hw)];split
  . rfl
  . have:x≠n:=by rintro rfl;exact h v bK
    simp[this]
theorem O8{kindOf:Str->Option NameKind}{x:Str}{v:Value}:∀{P:Ls}{vs:Lw}{i:Nat}{m:Mv},P.Nodup->P[i]?=some x->vs[i]?=some v->kindOf x=some .local ->
 bindL kindOf (P.zip vs) m x=some v
 | [],_,_,_,_,h,_,_=>by simp at h
 | _::_,[],_,_,_,_,h,_=>by simp at h
 | p::P,w::vs,0,m,nd,h1,h2,hk=>by
  simp at h1 h2;subst h1;subst h2;show bindL kindOf ((p,w)::P.zip vs) m p=_;unfold bindL;rw[O6 fun v hv=>(qN.mp nd).1 (NQ hv).1,al hk];simp
 | p::P,w::vs,i+1,m,nd,h1,h2,hk=>by
  show bindL kindOf ((p,w)::P.zip vs) m x=_;unfold bindL;exact O8 (i:=i) (qN.mp nd).2 (by simpa using h1) (by simpa using h2) hk
theorem O9{kindOf:Str->Option NameKind}{x:Str}{v:Value}:∀{P:Ls}{vs:Lw}{i:Nat}{m:Mv},P.Nodup->P[i]?=some x->vs[i]?=some v->kindOf x≠some .local ->
 bindC kindOf (P.zip vs) m x=some v
 | [],_,_,_,_,h,_,_=>by simp at h
 | _::_,[],_,_,_,_,h,_=>by simp at h
 | p::P,w::vs,0,m,nd,h1,h2,hk=>by
  simp at h1 h2;subst h1;subst h2;show bindC kindOf ((p,w)::P.zip vs) m p=_;unfold bindC;rw[O7 fun v hv=>(qN.mp nd).1 (NQ hv).1,ai hk];simp
 | p::P,w::vs,i+1,m,nd,h1,h2,hk=>by
  show bindC kindOf ((p,w)::P.zip vs) m x=_;unfold bindC;exact O9 (i:=i) (qN.mp nd).2 (by simpa using h1) (by simpa using h2) hk
def start(N:Ls)(vs:Lv):St:=vs.map some++List.replicate (N.length - vs.length) none
def kY(CX:iz)(P:Program)(w:World)(K:Fg)(mg:Mv)(base:Heap)(N:Ls)(qual:Str)(scope:Scope)(f:Addr)(cd:Value)(A:Around)(outer:List Env)(s:Shared)(H:Hp)(E:XK):Cx where
 prog:=P
 w:=w
 K:=K
 mg:=mg
 base:=base
 A:=A.deeper (envOfC qual scope s.heap.objs.size f cd)
 N:=N
 s₀:=s
 H₀:=H
 env:=envOfC qual scope s.heap.objs.size f cd
 outer:=outer
 stack:=envOfC qual scope s.heap.objs.size f cd::outer
 ex:=[]
 calm:=true
 fn:=fun _=>true
 pn:=[]
 xe:=fun e s'=>wpAny (model P w) (A.deeper (envOfC qual scope s.heap.objs.size f cd)) (leaving (envOfC qual scope s.heap.objs.size f cd) e) (fun _ CM=>CX outer H s E e CM) (fun e' CM=>CX outer H s E e' CM) s'
theorem Pa{sc:Scope}{n:Nat}{x:Str}(h:sc.names.lookup x=some .cell):∃c,(cellsFrom n sc.names []).lookup x=some c:=by
 have q:=Wg sc.names n [] (.inl h);exact NR.mp q
theorem Pb{CX:iz}{P:Program}{w:World}{K:Fg}{mg:Mv}{base:Heap}{N ps:Ls}{qual:Str}{scope:Scope}{f:Addr}{cd:Value}{A:Around}{outer:List Env}{s s1:Shared}{H:Hp}{E:XK}{us:Lw}{vs:Lv}
 (S:aP N ps scope) (hd:A.handled=none) (e0:mn P w K mg base A outer s H) (hl:vs.length=ps.length) (r:aQ vs us)
 (x:InCallC s s.heap.objs.size (bindL (envOfC qual scope s.heap.objs.size f cd).kindOf (ps.zip us) fun _=>none) (cellsFrom (s.heap.objs.size+1) scope.names []) (bindC (envOfC qual scope s.heap.objs.size f cd).kindOf (ps.zip us) fun _=>none) s1) :
 Inv (kY CX P w K mg base N qual scope f cd A outer s H E) [] (start N vs) H s1:=by
 have dU:ps.length<=N.length:=by have:=eN List.length S.pre;rw[eG]at this;omega
 obtain⟨h1,tk,rfl,hk⟩:=x.done;have Hy:∀b:Addr,b∉(kY CX P w K mg base N qual scope f cd A outer s H E).ex:=fun b z=>absurd (show b∈([]:List Addr) from z) (by simp);refine⟨⟨e0.mod,S.kind,rfl,rfl,aI _,fun y z c h1 h2=>?_,fun y hy=>?_,fun y c _ h=>?_,fun _=>hd,Around.frames_deeper e0.frames,.inr ⟨rfl,rfl⟩,fun b z=>absurd z (Hy b),e0.bs,e0.bsz,fun b _ _=>Hy b,fun b z=>absurd z (Hy b),e0.funs,e0.frf⟩,
  rfl,e0.bare,Un.kept hk,⟨_,x.toInCall.ns,fun i y v h1 h2 h3=>?_⟩,fun y c h=>⟨_,x.cell y c h⟩,e0.hok.fresh (aI _),fun y c h=>?_,fun p hp=>absurd (show p∈([]:Po) from hp) (by simp),e0.hok.kept hk,?_⟩
 . exact name_of_addr x.apart (Cd h1) (Cd h2)
 . have hy:scope.names.lookup y=some .cell\/scope.names.lookup y=some .free:=hy
   rcases hy with hy | hy
   . exact Pa hy
   . exact absurd rfl (S.nofree _ (Cd hy))
 . exact wg (x.above y c (Cd h))
 . have hi:i<vs.length:=by
    unfold start at h2
    by_cases hi:i<vs.length
    . exact hi
    . rw[GP (by simpa using hi)]at h2;rw[axE]at h2;split at h2<;>cases h2
   have ha:vs[i]?=some v:=by
    unfold start at h2;rw[Wh (by simpa using hi),dH]at h2;cases e:vs[i]? with
    | none=>rw[e]at h2;cases h2
    | some a=>rw[e]at h2;cases h2;rfl
   obtain⟨u,hu,rv⟩:=r.get ha;have hp:ps[i]?=some y:=by
    rw[←S.pre,List.getElem?_take_of_lt (by omega)];exact h1
   have Pc:ps.Nodup:=by rw[←S.pre];exact S.nd.sublist (List.take_sublist _ _)
   refine⟨u,rv,?_⟩
   rcases S.par y (eg hp) with k | k
   . exact .inl ⟨k,O8 Pc hp hu k⟩
   . obtain⟨c,e⟩:=Pa (n:=s.heap.objs.size+1) k;refine .inr ⟨.inl k,c,e,?_⟩;have q:=x.cell y c e;rw[O9 Pc hp hu (by show scope.names.lookup y≠_;rw[k];decide)]at q;exact q
 . exact e0.hok.fresh (wg (x.above y c (Cd h)))
 . unfold start;show _=N.length;rw[bj,ao,Wi];omega
theorem Hz{CX:iz}{P:Program}{w:World}{K:Fg}{mg:Mv}{base:Heap}{k:Nat}{f:Addr}{name qual:Str}{params:Arguments}{body:List Stmt}{scope:Scope}{dV kV doc pm aw ct oc:Value}{an od:Oa}
 {iU:Array (Option Value)}{N ps:Ls}{sp:Sp} (lk:K.lookup f=some ⟨oc,od,.func (PySem.W.fnOf name qual params body scope dV kV doc pm an aw ct),iU⟩) (iw:PySem.W.codeIn K aw qual=true) (S:aP N ps scope)
 (len:∀vs H Q E,sp vs H Q E->vs.length=ps.length)
 (pH:∀(A:Around) (outer:List Env) (s:Shared) (H:Hp) (vs:Lv) (Q:VK) (E:XK),ce k (A.deeper (envOfC qual scope s.heap.objs.size f aw))->sp vs H Q E ->
  ∃t,cn (kY CX P w K mg base N qual scope f aw A outer s H E) body t/\t { nx:=fun _ H'=>Q .non H',rt:=Q } (start N vs) H) :
 aj P w K mg base CX (k+1) f (PySem.W.fnOf name qual params body scope dV kV doc pm an aw ct) ps sp:=by
 refine⟨len,fun A outer s H args us vs Q E hr e0 hb r kZ=>?_⟩;have hl:=len _ _ _ _ kZ;have KX:K.In s.heap:=e0.mod.kin.keeps fun b o e=>(e0.bs b o e).1;have lim:s.heap.NoLimit:=e0.mod.nolimit.keeps fun b o e=>(e0.bs b o e).1;have HA:∀y∈ps.zip us,scope.names.lookup y.1=some .local\/(scope.names.lookup y.1=some .cell/\((cellsFrom (s.heap.objs.size+1) scope.names []).lookup y.1).isSome=true):=fun⟨n,v⟩ hy=>by
  rcases S.par n (NQ hy).1 with q | q
  . exact .inl q
  . exact .inr ⟨q,Wg _ _ _ (.inl q)⟩
 refine codeAny_call_function hr.depth (KX _ _ lk) rfl S.co S.gen rfl (PySem.W.codeRec_of KX iw) (hb _ _ _ _ ?_);refine axF S.kind HA fun env he s1 x=>?_;subst he;refine⟨lim.keeps x.toInCall.keep,codeAny_func ?_⟩;obtain⟨t,ht,hq⟩:=pH A outer s H vs Q E (hr.deeper _) kZ;have I:Inv (kY CX P w K mg base N qual scope f aw A outer s H E) [] (start N vs) H s1:=Pb S hr.hd e0 hl r x;refine d8 (ht [] s1 (start N vs) H _ I hq) (fun fl s' hs=>?_) fun e s' hs=>hs;have fin:∀{σ':St}{H':Hp}{v:V}{u:Value},Inv (kY CX P w K mg base N qual scope f aw A outer s H E) [] σ' H' s'->RelV v u->Q v H'->CE outer P w H s Q u s':=
  fun {σ' H' v u} J rv q=>⟨v,H',J.os,J.bare,J.base,J.hok,rv,q⟩
 cases fl with
 | ret u=>
  obtain⟨v,σ',H',J,rv,q⟩:=hs;exact fin J rv q
 | next=>
  obtain⟨σ',H',J,q⟩:=hs;exact fin (v:=V.non) (u:=Value.none) J rfl q
 | brk=>
  obtain⟨_,_,_,q⟩:=hs;exact False.elim q
 | cont=>
  obtain⟨_,_,_,q⟩:=hs;exact False.elim q
section
variable {X:Cx}{x:Str}{p pos:Pos}{e:Expr}{es:List Expr}{t:TA}{id T:String}{r:Lv->Hp->VK->Prop}
def CN(r:Lv->Hp->VK->Prop)(t:TA):TE:=fun σ H Q=>t σ H fun vs H1=>r vs H1 Q
theorem dJ(hc:fN X (.builtin id) r)(hg:Gl X x)(hm:X.mg x=none)(hv:bootBuiltins x=some (.builtin id))(ha:PA X (e::es) t)(hn:x≠"__name__":=by decide)(gU:(x == ("__debug__":Str))=false:=by decide)
 (he:starEach (e::es) X.env=(false,eval e X.env)::starEach es X.env:=by rfl) (dU:(backTo pos (starEach es X.env)).any (·.1)=false:=by rfl):PE X (.Call (.Name x p) (e::es) [] pos) (CN r t):=by
 intro pins s σ H Q I h;refine yH (wv I hg hm hv ?_ hn gU);exact PyProof.Rows.callWith_builtin1 (thn (ha pos pins s σ H _ I h) fun us s1 abQ=>abQ.elim fun vs abR=>abR.elim fun H1 abS=>abS.elim fun I1 abT=>abT.elim fun r1 q1=>hc pins s1 σ H1 vs us Q I1 r1 q1) he dU
theorem eK(hc:fN X (.type T) r)(hg:Gl X x)(hm:X.mg x=none)(hv:bootBuiltins x=some (.type T))(ha:PA X (e::es) t)(hn:x≠"__name__":=by decide)(gU:(x == ("__debug__":Str))=false:=by decide)
 (he:starEach (e::es) X.env=(false,eval e X.env)::starEach es X.env:=by rfl) (dU:(backTo pos (starEach es X.env)).any (·.1)=false:=by rfl):PE X (.Call (.Name x p) (e::es) [] pos) (CN r t):=by
 intro pins s σ H Q I h;refine yH (wv I hg hm hv ?_ hn gU);exact NN (thn (ha pos pins s σ H _ I h) fun us s1 abU=>abU.elim fun vs abV=>abV.elim fun H1 abW=>abW.elim fun I1 abX=>abX.elim fun r1 q1=>hc pins s1 σ H1 vs us Q I1 r1 q1) he dU
end
end L2
namespace HT
open PySem PyProof.Rows
theorem abY(A:Around)(s:Shared)(a:Int)(t:Tok)(c:Int)(u:Tok):∃e,SeqAt.EqAt A s (.int a t) (.int c u) e/\(e=true↔a=c):=
 ⟨(a == c),SeqAt.EqAt.int_int a t c u,by simp⟩
theorem abZ(A:Around)(s:Shared)(a:Int)(t:Tok)(c:Int)(u:Tok)(prog:Program)(w:World)(E:VP)(Q:VP)(h:Q (.bool (decide (a<c))) s) :
 wpAny (model prog w) A (richCompare .Lt (.int a t) (.int c u)) Q E s:=
 (PyProof.Rows.lt_int h:wpAny (model prog w) A (compareOp .Lt (.int a t) (.int c u)) Q E s)
section
open PySem.SeqAt
open PySem.AutoSeq1 (wpAny_loadPart')
open PySem.MeetsSeq PySem.MeetsSeq2 PySem.MeetsSeq3
end
section
variable {prog:Program}{w:World}{A:Around}{E:VP}{s:Shared}
def fQ(n d:Nat):Option Int->Nat
 | none=>d
 | some v=>if v<0 then(v+(n:Int)).toNat else min v.toNat n
theorem Pd(n d:Nat):fQ n d none=d:=rfl
theorem CO(n d k:Nat):fQ n d (some (k:Int))=min k n:=by
 show(if (k:Int)<0 then((k:Int)+(n:Int)).toNat else min (k:Int).toNat n)=min k n;rw[ai (by omega),lY]
end
end HT
namespace L2
open PySem PySem.Spec PyProof.Rows
abbrev TO:=St->Hp->(Option Int->Hp->Prop)->Prop
def PO(X:Cx)(e:Option Expr)(t:TO):Prop:=
 ∀(pins:Po) (s:Shared) (σ:St) (H:Hp) (Q:Option Int->Hp->Prop),Inv X pins σ H s->t σ H Q ->
  wpAny (model X.prog X.w) X.A (evalPart e X.env) (fun u s'=>∃o H',Inv X pins σ H' s'/\IsPart u o/\Q o H') X.xe s
def ab0:TO:=fun _ H Q=>Q none H
def ab1(t:TE):TO:=fun σ H Q=>t σ H fun x H1=>∃i,x=.int i/\Q (some i) H1
section
variable {X:Cx}{e:Expr}{te:TE}{lo hi:Option Expr}{tl th:TO}{pos p2:Pos}
theorem ri:PO X none ab0:=by
 intro pins s σ H Q I h;rw[Wj];exact au ⟨none,H,I,.none,h⟩
theorem lg(h:PE X e te):PO X (some e) (ab1 te):=by
 intro pins s σ H Q I hw;rw[evalPart_some];refine thn (h pins s σ H _ I hw) fun u s1 ab2=>ab2.elim fun x ab3=>ab3.elim fun H1 ab4=>ab4.elim fun I1 ab5=>ab5.elim fun r1 q1=>?_;obtain⟨i,rfl,q⟩:=q1;obtain⟨t,rfl⟩:=r1;exact⟨some i,H1,I1,.int i t,q⟩
def uf(X:Cx)(r:V->Option Int->Option Int->Hp->VK->Prop):Prop:=
 ∀(pins:Po) (s:Shared) (σ:St) (H:Hp) (x:V) (v vl vu:Value) (lo hi:Option Int) (sl:Addr) (Q:VK),Inv X pins σ H s->RelV x v->s.heap.IsSliceOf sl vl vu .none->IsPart vl lo->IsPart vu hi->r x lo hi H Q ->
  ∃T id,typeLookup (.type T) "__getitem__"=pure (some (.builtin id))/\s.TypeIs v T/\wpAny (model X.prog X.w) X.A (getItem v (.ref sl)) (EP X pins σ Q) X.xe s
def tSl(r:V->Option Int->Option Int->Hp->VK->Prop)(te:TE)(tl th:TO):TE:=fun σ H Q=>te σ H fun x H1=>tl σ H1 fun l H2=>th σ H2 fun u H3=>r x l u H3 Q
theorem nU{r:V->Option Int->Option Int->Hp->VK->Prop}(hr:uf X r)(he:PE X e te)(hl:PO X lo tl)(hu:PO X hi th):PE X (.Subscript e (.Slice lo hi none p2) pos) (tSl r te tl th):=by
 intro pins s σ H Q I h;refine NS (thn (he pins s σ H _ I h) fun v s1 ab7=>ab7.elim fun x ab8=>ab8.elim fun H1 ab9=>ab9.elim fun I1 aca=>aca.elim fun r1 q1=>?_);refine wpAny_Slice (thn (hl pins s1 σ H1 _ I1 q1) fun vl s2 acb=>acb.elim fun l acd=>acd.elim fun H2 ace=>ace.elim fun I2 acf=>acf.elim fun pl q2=>thn (hu pins s2 σ H2 _ I2 q2) fun vu s3 acg=>acg.elim fun u ach=>ach.elim fun H3 aci=>aci.elim fun I3 acj=>acj.elim fun pu q3=>?_);rw[Wj];refine au ?_;have I4:Inv X pins σ H3 { s3 with heap:=s3.heap.push { cls:=.type "slice",data:=.fields #[vl,vu,.none] } }:=I3.kept (t':=s3.toks) fun b ob q=>bX _ q;obtain⟨T,id,hT,ht,hg⟩:=hr pins { s3 with heap:=s3.heap.push { cls:=.type "slice",data:=.fields #[vl,vu,.none] } } σ H3 x v vl vu l u s3.heap.objs.size Q I4 r1 (Heap.IsSliceOf.new ..) pl pu q3;show wpAny (model X.prog X.w) X.A (subscriptTail e (.Slice lo hi none p2) v (.ref s3.heap.objs.size)) (EP X pins σ Q) X.xe { s3 with heap:=s3.heap.push { cls:=.type "slice",data:=.fields #[vl,vu,.none] } };exact tail_any (ops:=[.ref s3.heap.objs.size,v]) ht hT hg (by with_unfolding_all rfl)
def ug(xs:Lv)(lo hi:Option Int):Lv:=(xs.drop (HT.fQ xs.length 0 lo)).take (HT.fQ xs.length xs.length hi - HT.fQ xs.length 0 lo)
theorem ack(xs:Lv)(lo hi:Option Int):(ug xs lo hi).length<=xs.length:=by
 unfold ug;rw[eG,nw];omega
end
def pJ(n:Nat)(i:Int):Option Nat:=if 0<=i then(if i<n then some i.toNat else none) else if -(n:Int)<=i then some (i+n).toNat else none
def cy{α:Type}(xs:List α)(i:Int):Option α:=(pJ xs.length i).bind fun j=>xs[j]?
theorem acl{n:Nat}{i:Int}{j:Nat}(h:pJ n i=some j):seqIndex? i n=some j/\j<n/\-(n:Int)<=i/\i<n:=by
 unfold pJ at h
 by_cases h0:0<=i
 . rw[al h0]at h
   by_cases h1:i<n
   . rw[al h1]at h;have e:i.toNat=j:=gz h;exact⟨by rw[seqIndex_of h0 h1,e],by omega,by omega,h1⟩
   . rw[ai h1]at h;cases h
 . rw[ai h0]at h
   by_cases h1:-(n:Int)<=i
   . rw[al h1]at h;have e:(i+n).toNat=j:=gz h;exact⟨by rw[seqIndex_neg (by omega) h1,e],by omega,h1,by omega⟩
   . rw[ai h1]at h;cases h
theorem CP{α:Type}{xs:List α}{i:Int}{v:α}(h:cy xs i=some v):∃j,seqIndex? i xs.length=some j/\xs[j]?=some v/\j<xs.length/\-(xs.length:Int)<=i/\i<xs.length:=by
 unfold cy at h;cases e:pJ xs.length i with
 | none=>rw[e]at h;cases h
 | some j=>
  rw[e]at h;obtain⟨h1,h2,h3,h4⟩:=acl e;exact⟨j,h1,h,h2,h3,h4⟩
theorem HB{α:Type}{xs:List α}{j:Nat}{v:α}(h:xs[j]?=some v):cy xs (j:Int)=some v:=by
 have hj:j<xs.length:=(cW.mp h).1;have e:pJ xs.length (j:Int)=some j:=by
  unfold pJ;rw[al (by omega),al (by omega)];simp
 unfold cy;rw[e];exact h
def acm(b:Expr):Prop:=∀o i,subscripted b false o i=operate [o,i] (getItem o i)
def wB(X:Cx)(r:R2):Prop:=
 ∀(value slice:Expr) (pins:Po) (s:Shared) (σ:St) (H:Hp) (x y:V) (v u:Value) (Q:VK),Inv X pins σ H s->RelV x v->RelV y u->r x y H Q ->
  subscripted slice false v u=operate [v,u] (getItem v u)->wpAny (model X.prog X.w) X.A (subscriptTail value slice v u) (EP X pins σ Q) X.xe s
def Pe(X:Cx)(id:String)(r:V->Lv->Hp->VK->Prop):Prop:=
 ∀(pins:Po) (s:Shared) (σ:St) (H:Hp) (x:V) (xs:Lv) (v:Value) (us:Lw) (Q:VK),Inv X pins σ H s->RelV x v->aQ xs us->r x xs H Q ->
  wpAny (model X.prog X.w) X.A (call (.builtin id) (v::us)) (EP X pins σ Q) X.xe s
section
variable {X:Cx}{a b:Expr}{ta tb:TE}{pos:Pos}
theorem bJ{r:R2}(hr:wB X r)(ha:PE X a ta)(hb:PE X b tb)(hs:acm b):PE X (.Subscript a b pos) (CI r ta tb):=by
 intro pins s σ H Q I h;exact NS (Hm ha hb I h fun v u s2 x y H2 I2 rx ry q=>hr a b pins s2 σ H2 x y v u Q I2 rx ry q (hs _ _))
def Pf(K:Fg):R2:=fun x y H Q=>∃p xs i v,x=.ref p/\y=.int i/\ae K H p xs/\cy xs i=some v/\Q v H
def Pg(K:Fg):R2:=fun x y H Q=>∃p xs i v,x=.ref p/\y=.int i/\aX K H p xs/\cy xs i=some v/\Q v H
def acn:R2:=fun x y H Q=>∃z i c,x=.str z/\y=.int i/\z.length<=sizeLine/\cy z.cps.toList i=some c/\Q (.str ⟨#[c]⟩) H
theorem fR:wB X (Pf X.K):=by
 intro value slice pins s σ H x y v u Q I rx ry h hs;obtain⟨p,xs,i,z,rfl,rfl,hq,he,q⟩:=h;cases rx;obtain⟨t,rfl⟩:=ry;obtain⟨its,r,pl,hz⟩:=I.list hq;obtain⟨j,h1,h2,h3,h4,h5⟩:=CP he;obtain⟨w,ew,gC⟩:=r.get h2;have hl:=r.length;have hn:=zd;have fin:EP X pins σ Q w s:=⟨z,H,I,gC,q⟩
 by_cases h0:0<=i
 . have hj:i.toNat=j:=by
    rw[seqIndex_of h0 h5]at h1;exact gz h1
   exact item_listR pl.isList h0 (by omega) (by rw[hj];simpa using ew) fin hs
 . have hj:(i+(its.toArray.size:Int)).toNat=j:=by
    rw[seqIndex_neg (by omega) h4]at h1;rw[fo,←hl];exact gz h1
   exact axG (x:=w) pl.isList.typeIs Wk.lookup
    (wpAny_getItem_list_neg (Q:=fun r s'=>r=w/\EP X pins σ Q r s') pl.isList (by omega) (by rw[fo]<;>omega) (by omega) (by rw[hj];simpa using ew) ⟨rfl,fin⟩) hs
theorem eO:wB X (Pg X.K):=by
 intro value slice pins s σ H x y v u Q I rx ry h hs;obtain⟨p,xs,i,z,rfl,rfl,hq,he,q⟩:=h;cases rx;obtain⟨t,rfl⟩:=ry;obtain⟨its,r,pl,hz⟩:=I.tuple hq;obtain⟨j,h1,h2,h3,h4,h5⟩:=CP he;obtain⟨w,ew,gC⟩:=r.get h2;have hl:=r.length;have hn:=zd;have fin:EP X pins σ Q w s:=⟨z,H,I,gC,q⟩;exact axG (x:=w) pl.typeIs slot_tuple_getitem.lookup
  (getItem_tuple (j:=j) (Q:=fun r s'=>r=w/\EP X pins σ Q r s') pl (by omega) (by omega) (by rw[fo,←hl];exact h1) (by simpa using ew) ⟨rfl,fin⟩) hs
theorem zn:wB X acn:=by
 intro value slice pins s σ H x y v u Q I rx ry h hs;obtain⟨z,i,c,rfl,rfl,hz,he,q⟩:=h;obtain⟨t,rfl⟩:=rx;obtain⟨t',rfl⟩:=ry;obtain⟨j,h1,h2,h3,h4,h5⟩:=CP he;have hl:z.cps.toList.length=z.length:=by simp[Str.length]
 rw[hl]at h1 h4 h5;have hn:=zd;exact tail_any (Ce s z t) slot_str_getitem.lookup (getItem_str (c:=c) (by
  have e1:decide (i < -(2 ^ 63:Int))=false:=cI (by omega);have e2:decide (i >= 2 ^ 63)=false:=cI (by omega);rw[e1,e2,tI]) (by rw[h1];simpa using h2) ⟨.str ⟨#[c]⟩,H,I.tok _,⟨_,rfl⟩,q⟩) hs
theorem aco(lo hi:Option Int)(n:Nat):(sliceBounds lo hi none n).1=((HT.fQ n 0 lo:Nat):Int)/\(sliceBounds lo hi none n).2.1=((HT.fQ n n hi:Nat):Int)/\(sliceBounds lo hi none n).2.2=1:=by
 refine⟨?_,?_,rfl⟩
 . cases lo with
   | none=>simp[sliceBounds,HT.fQ]
   | some i=>
    simp only[sliceBounds,HT.fQ,Option.getD_none,show(1:Int) > 0 by decide,we]
    by_cases h:i<0
    . simp only[h,we]<;>omega
    . simp only[h,nv]<;>omega
 . cases hi with
   | none=>simp[sliceBounds,HT.fQ]
   | some i=>
    simp only[sliceBounds,HT.fQ,Option.getD_none,show(1:Int) > 0 by decide,we]
    by_cases h:i<0
    . simp only[h,we]<;>omega
    . simp only[h,nv]<;>omega
theorem acp(its:Lw)(lo hi:Option Int):slicePick its.toArray lo hi none=((its.drop (HT.fQ its.length 0 lo)).take (HT.fQ its.length its.length hi - HT.fQ its.length 0 lo)).toArray:=by
 obtain⟨h1,h2,h3⟩:=aco lo hi its.toArray.size;unfold slicePick;rw[h1,h2,h3];simp only[sliceRange_one,pick_run,fo]<;>rfl
def acq(K:Fg):V->Option Int->Option Int->Hp->VK->Prop:=fun x lo hi H Q=>∃a xs,x=.ref a/\ae K H a xs/\∀p,H p=none->Q (.ref p) (ah H p (.lst (ug xs lo hi)))
theorem acr:uf X (acq X.K):=by
 intro pins s σ H x v vl vu lo hi sl Q I rx hs pl pu h;obtain⟨a,xs,rfl,hx,q⟩:=h;cases rx;obtain⟨its,r,ht,hz⟩:=I.list hx;have hlen:=r.length;refine⟨"list",_,Wk.lookup,ht.isList.typeIs,?_⟩;refine axH ht.isList hs pl pu .none (by simp) ?_ (by rw[fo]<;>omega);rw[acp,←hlen];refine⟨.ref s.heap.objs.size,_,I.laid (t':=s.toks) (o:=.lst (ug xs lo hi)) (fun b ob q=>bX _ q) (aI _) ?_,rfl,q _ (I.hok.fresh (aI _))⟩;exact⟨cu (ack xs lo hi) hz,_,0,(r.drop (HT.fQ xs.length 0 lo)).take (HT.fQ xs.length xs.length hi - HT.fQ xs.length 0 lo),dR _ rfl⟩
def pK:V->Bool
 | .non=>true
 | .bl _=>true
 | .int _=>true
 | .str _=>true
 | _=>false
def li:V->V->Bool
 | .non,.non=>true
 | .bl a,.bl b=>a == b
 | .bl a,.int b=>(if a then 1 else 0) == b
 | .int a,.bl b=>a == (if b then 1 else 0)
 | .int a,.int b=>a == b
 | .str a,.str b=>a == b
 | _,_=>false
theorem acs{A:Around}{s:Shared}{y x:V}{u v:Value}(ry:RelV y u)(rx:RelV x v)(fy:pK y=true)(fx:pK x=true):SeqAt.EqAt A s u v (li y x):=by
 cases y with
 | non=>
  cases ry;cases x with
  | non=>cases rx;exact SeqAt.EqAt.same _
  | bl b=>cases rx;exact SeqAt.EqAt.none_bool b
  | int b=>obtain⟨t,rfl⟩:=rx;exact SeqAt.EqAt.none_int b t
  | str b=>obtain⟨t,rfl⟩:=rx;exact SeqAt.EqAt.none_str b t
  | _=>exact absurd (show false=true from fx) cK
 | bl a=>
  cases ry;cases x with
  | non=>cases rx;exact SeqAt.EqAt.bool_none a
  | bl b=>cases rx;exact SeqAt.EqAt.bool_bool a b
  | int b=>obtain⟨t,rfl⟩:=rx;exact SeqAt.EqAt.bool_int a b t
  | str b=>obtain⟨t,rfl⟩:=rx;exact SeqAt.EqAt.bool_str a b t
  | _=>exact absurd (show false=true from fx) cK
 | int a=>
  obtain⟨t',rfl⟩:=ry;cases x with
  | non=>cases rx;exact SeqAt.EqAt.int_none a t'
  | bl b=>cases rx;exact SeqAt.EqAt.int_bool a t' b
  | int b=>obtain⟨t,rfl⟩:=rx;exact SeqAt.EqAt.int_int a t' b t
  | str b=>obtain⟨t,rfl⟩:=rx;exact SeqAt.EqAt.int_str a t' b t
  | _=>exact absurd (show false=true from fx) cK
 | str a=>
  obtain⟨t',rfl⟩:=ry;cases x with
  | non=>cases rx;exact SeqAt.EqAt.str_none a t'
  | bl b=>cases rx;exact SeqAt.EqAt.str_bool a t' b
  | int b=>obtain⟨t,rfl⟩:=rx;exact SeqAt.EqAt.str_int a t' b t
  | str b=>obtain⟨t,rfl⟩:=rx;exact SeqAt.EqAt.str_str a t' b t
  | _=>exact absurd (show false=true from fx) cK
 | _=>exact absurd (show false=true from fy) cK
def iV(x:V)(u:Value):Bool:=match u with
 | .none=>li .non x
 | .bool b=>li (.bl b) x
 | .int i _=>li (.int i) x
 | .str z _=>li (.str z) x
 | _=>false
theorem Ph{x y:V}{u:Value}(r:RelV y u)(f:pK y=true):iV x u=li y x:=by
 cases y with
 | non=>cases r;rfl
 | bl b=>cases r;rfl
 | int i=>obtain⟨t,rfl⟩:=r;rfl
 | str z=>obtain⟨t,rfl⟩:=r;rfl
 | _=>exact absurd (show false=true from f) cK
theorem zq{x:V}:∀{xs:Lv}{us:Lw},aQ xs us->xs.all pK=true->us.any (iV x)=xs.any fun y=>li y x
 | _,_,.nil,_=>rfl
 | y::xs,u::us,.cons r t,f=>by
  rw[NT,gR]at f;rw[tJ,tJ,Ph r f.1,zq t f.2]
theorem zr{A:Around}{s:Shared}{x:V}{v:Value}(rx:RelV x v)(fx:pK x=true):∀{xs:Lv}{us:Lw},aQ xs us->xs.all pK=true->∀u∈us,SeqAt.EqAt A s u v (iV x u)
 | _,_,.nil,_=>fun u hu=>by cases hu
 | y::xs,u::us,.cons r t,f=>fun u' hu=>by
  rw[NT,gR]at f
  rcases aY.mp hu with rfl | hu
  . rw[Ph r f.1];exact acs r rx f.1 fx
  . exact zr rx fx t f.2 u' hu
def nV(x:V)(xs:Lv):Bool:=xs.any fun y=>li y x
def HC(K:Fg)(neg:Bool):R2:=fun x y H Q=>∃p xs,y=.ref p/\(ae K H p xs\/aX K H p xs)/\pK x=true/\xs.all pK=true/\Q (.bl (if neg then !nV x xs else nV x xs)) H
theorem Pj:cL X (compareOp .In) (HC X.K false):=by
 intro pins s σ H x y v u Q I rx ry h;obtain⟨p,xs,rfl,hq,fx,fs,q⟩:=h;cases ry
 rcases hq with hq | hq
 . obtain⟨its,r,pl,hz⟩:=I.list hq;refine SeqAt.in_listAt (iV x) pl.isList (fun w hw=>zr rx fx r fs w (by simpa using hw)) ⟨.bl _,H,I,rfl,?_⟩;rw[show its.toArray.any (iV x)=its.any (iV x) by simp,zq r fs];exact q
 . obtain⟨its,r,pl,hz⟩:=I.tuple hq;refine SeqAt.in_tupleAt (iV x) pl (fun w hw=>zr rx fx r fs w (by simpa using hw)) ⟨.bl _,H,I,rfl,?_⟩;rw[show its.toArray.any (iV x)=its.any (iV x) by simp,zq r fs];exact q
theorem act:cL X (compareOp .NotIn) (HC X.K true):=by
 intro pins s σ H x y v u Q I rx ry h;obtain⟨p,xs,rfl,hq,fx,fs,q⟩:=h;cases ry
 rcases hq with hq | hq
 . obtain⟨its,r,pl,hz⟩:=I.list hq;refine SeqAt.notIn_listAt (iV x) pl.isList (fun w hw=>zr rx fx r fs w (by simpa using hw)) ⟨.bl _,H,I,rfl,?_⟩;rw[show its.toArray.any (iV x)=its.any (iV x) by simp,zq r fs];exact q
 . obtain⟨its,r,pl,hz⟩:=I.tuple hq;refine SeqAt.notIn_tupleAt (iV x) pl (fun w hw=>zr rx fx r fs w (by simpa using hw)) ⟨.bl _,H,I,rfl,?_⟩;rw[show its.toArray.any (iV x)=its.any (iV x) by simp,zq r fs];exact q
theorem gD:fN X (.builtin "len") (fun xs H Q=>∃p ys,xs=[.ref p]/\(ae X.K H p ys\/aX X.K H p ys)/\Q (.int ys.length) H):=by
 intro pins s σ H xs us Q I r h;obtain⟨p,ys,rfl,hq,q⟩:=h;obtain⟨u,rfl,rx⟩:=vals1 r;cases rx;have hn:=zd
 rcases hq with hq | hq
 . obtain⟨its,r',pl,hz⟩:=I.list hq;have hlen:=r'.length;exact Calls.call_len_list pl.isList (by simp only[fo]<;>omega) ⟨.int ys.length,H,I.tok _,⟨s.toks+1,by rw[fo,hlen]⟩,q⟩
 . obtain⟨its,r',pl,hz⟩:=I.tuple hq;have hlen:=r'.length;exact len_tuple pl (by simp only[fo]<;>omega) ⟨.int ys.length,H,I.tok _,⟨s.toks+1,by rw[fo,hlen]⟩,q⟩
theorem Pk:fN X (.builtin "len") (fun xs H Q=>∃z,xs=[.str z]/\z.length<=sizeLine/\Q (.int z.length) H):=by
 intro pins s σ H xs us Q I r h;obtain⟨z,rfl,hz,q⟩:=h;obtain⟨u,rfl,t,rfl⟩:=vals1 r;have hn:=zd;exact len_str (by omega) ⟨.int z.length,H,I.tok _,⟨_,rfl⟩,q⟩
theorem zt:fN X (.type "list") (fun xs H Q=>∃p ys,xs=[.ref p]/\(ae X.K H p ys\/aX X.K H p ys)/\∀l,H l=none->Q (.ref l) (ah H l (.lst ys))):=by
 intro pins s σ H xs us Q I r h;obtain⟨p,ys,rfl,hq,q⟩:=h;obtain⟨u,rfl,rx⟩:=vals1 r;cases rx;have fin:∀(its:Lw),aQ ys its->ys.length<=sizeLine->∀(h':Heap) (c':Nat),(∀b o',s.heap.get? b=some o'->h'.get? b=some o') ->
  h'.get? s.heap.objs.size=some { cls:=.type "list",dict:=none,data:=.seq its.toArray c',slots:=#[] }->EP X pins σ Q (.ref s.heap.objs.size) { s with heap:=h' }:=fun its r' hz h' c' kp e=>
  ⟨.ref s.heap.objs.size,_,I.laid (t':=s.toks) kp (aI _) (show ci X.prog X.w _ h' _ (.lst ys) from ⟨hz,its,c',r',e⟩),rfl,q _ (I.hok.fresh (aI _))⟩
 rcases hq with hq | hq
 . obtain⟨its,r',pl,hz⟩:=I.list hq;have hlen:=r'.length;obtain⟨o,ho,hc,n,hd⟩:=pl.isList;exact call_list_seq p (.inl rfl) ho hc hd (fun h' c' kp e=>fin its r' hz h' c' kp e) (by simp only[fo]<;>omega)
 . obtain⟨its,r',pl,hz⟩:=I.tuple hq;have hlen:=r'.length;obtain⟨o,ho,hc,n,hd⟩:=pl;exact call_list_seq p (.inr rfl) ho hc hd (fun h' c' kp e=>fin its r' hz h' c' kp e) (by simp only[fo]<;>omega)
theorem acu:fN X (.type "tuple") (fun xs H Q=>∃p ys,xs=[.ref p]/\((ae X.K H p ys/\∀l,H l=none->Q (.ref l) (ah H l (.tup ys)))\/(aX X.K H p ys/\Q (.ref p) H))):=by
 intro pins s σ H xs us Q I r h;obtain⟨p,ys,rfl,h⟩:=h;obtain⟨u,rfl,rx⟩:=vals1 r;cases rx
 rcases h with⟨hq,q⟩ | ⟨hq,q⟩
 . obtain⟨its,r',pl,hz⟩:=I.list hq;have hlen:=r'.length;refine call_tuple_list pl.isList (fun h' kp=>?_) (by simp only[fo]<;>omega);have I1:Inv X pins σ H { s with heap:=h' }:=I.kept (t':=s.toks) kp;have I2:Inv X pins σ (ah H h'.objs.size (.tup ys)) { s with heap:=h'.push { cls:=.type "tuple",data:=.seq its.toArray } }:=
    I1.laid (t':=s.toks) (fun b o e=>bX _ e) (aI _) (show ci X.prog X.w _ _ _ (.tup ys) from ⟨hz,its,r',IsTup.new _ _⟩)
   exact⟨.ref h'.objs.size,_,I2,rfl,q _ (I1.hok.fresh (aI _))⟩
 . obtain⟨its,r',pl,hz⟩:=I.tuple hq;exact call_tuple_same pl ⟨.ref p,H,I,rfl,q⟩
def Pl(K:Fg)(T:String)(x:V)(H:Hp):Prop:=match x with
 | .str _=>T="str"
 | .int _=>T="int"
 | .ref p=>(T="list"/\∃xs,ae K H p xs)\/(T="tuple"/\∃o,K.lookup p=some o/\o.cls=.type "tuple"/\o.dict=none) \/
  (T="dict"/\((∃kvs,H p=some (.dK kvs))\/∃kvs,H p=some (.dT kvs)))\/(T="set"/\∃S n,H p=some (.set S n))
 | _=>False
theorem Pm{pins:Po}{σ:St}{H:Hp}{s:Shared}{T:String}{x:V}{v:Value}(I:Inv X pins σ H s)(r:RelV x v)(ty:Pl X.K T x H) :
 s.TypeIs v T/\∀a,v=.ref a->∃ob,s.heap.get? a=some ob/\ob.dict=none:=by
 cases x with
 | str z=>
  obtain⟨t,rfl⟩:=r;cases (show T="str" from ty);exact⟨Ce s z t,fun _ e=>nomatch e⟩
 | int i=>
  obtain⟨t,rfl⟩:=r;cases (show T="int" from ty);exact⟨typeIs_int s i t,fun _ e=>nomatch e⟩
 | ref p=>
  cases r
  rcases ty with⟨rfl,xs,hq⟩ | ⟨rfl,o,hk,hc,hd⟩ | ⟨rfl,hk⟩ | ⟨rfl,S,n,hk⟩
  . obtain⟨its,_,pl,_⟩:=I.list hq;refine⟨pl.isList.typeIs,fun a e=>?_⟩;cases e;obtain⟨o,n,e,c,hd,_⟩:=pl;exact⟨o,e,hd⟩
  . refine⟨⟨o,I.kIn p o hk,hc⟩,fun a e=>?_⟩;cases e;exact⟨o,I.kIn _ o hk,hd⟩
  . have z:∃o,s.heap.get? p=some o/\o.ExactDict:=by
     rcases hk with⟨kvs,hk⟩ | ⟨kvs,hk⟩
     . obtain⟨_,_,_,_,o,_,_,e,ex,_⟩:=I.hok p _ hk;exact⟨o,e,ex⟩
     . obtain⟨_,_,_,_,o,_,_,e,ex,_⟩:=I.hok p _ hk;exact⟨o,e,ex⟩
    obtain⟨o,e,ex⟩:=z;refine⟨⟨o,e,ex.1⟩,fun a e2=>?_⟩;cases e2;exact⟨o,e,ex.2.1⟩
  . obtain⟨o,_,_,_,e,ex,_⟩:=I.hok p _ hk;refine⟨⟨o,e,ex.1⟩,fun a e2=>?_⟩;cases e2;exact⟨o,e,ex.2.1⟩
 | _=>exact False.elim ty
def Pn(K:Fg)(T:String)(r:V->Lv->Hp->VK->Prop)(to:TE)(t:TA):TE:=fun σ H Q=>to σ H fun x H1=>Pl K T x H1/\t σ H1 fun xs H2=>r x xs H2 Q
variable {o e:Expr}{es:List Expr}{to:TE}{t:TA}{name:Str}{apos cM:Pos}{T id:String}{r:V->Lv->Hp->VK->Prop}
theorem dj(pa:PlainAttrs T)(slot:Slot T name id)(HD:typeOf (.builtin id)=pure (.type "method_descriptor"))(hm:Pe X id r)(ho:PE X o to)(ha:PA X (e::es) t)
 (uh:attributeBase o name X.env (eval o X.env)=eval o X.env:=by rfl)
 (HE:((backTo cM (starEach (e::es) X.env)).all (fun x=>!x.1) && (backToKw cM (keywordEach [] X.env)).all (fun x=>x.1.isSome)
  && decide ((e::es).length+([]:List Keyword).length+(if ([]:List Keyword).isEmpty then 0 else 1)<30))=true:=by rfl)
 (ui:(apos.endLine == cM.line)=true:=by rfl) (hs:starEach (e::es) X.env=(false,eval e X.env)::starEach es X.env:=by rfl) (HF:(backTo cM (starEach es X.env)).any (·.1)=false:=by rfl) :
 PE X (.Call (.Attribute o name apos) (e::es) [] cM) (Pn X.K T r to t):=by
 intro pins s σ H Q I h;refine wpAny_Call_method_late uh HE ui rfl (thn (ho pins s σ H _ I h) fun v s1 acv=>acv.elim fun x acw=>acw.elim fun H1 acx=>acx.elim fun I1 acy=>acy.elim fun r1 acz=>acz.elim fun ty q1=>?_);obtain⟨h1,h2⟩:=Pm I1 r1 ty;refine⟨T,id,pa,slot,HD,h1,h2,?_⟩;have hA:=ha cM pins s1 σ H1 _ I1 q1;rw[hs]at hA ⊢;refine NU (by show(false || (backTo cM (starEach es X.env)).any (·.1))=false;rw[HF]<;>rfl) (NW ?_);exact thn hA fun us s2 acA=>acA.elim fun vs acB=>acB.elim fun H2 acC=>acC.elim fun I2 acD=>acD.elim fun r2 q2=>hm pins s2 σ H2 x vs v us Q I2 r1 r2 q2
end
def pL(X:Cx)(id:String)(r:V->Lv->Hp->VK->Prop):Prop:=
 ∀(pins:Po) (s:Shared) (σ:St) (H:Hp) (x:V) (xs:Lv) (v:Value) (us:Lw) (Q:VK),Inv X pins σ H s->RelV x v->aQ xs us->r x xs H Q ->
  wpAny (model X.prog X.w) X.A (call (.builtin id) (v::us)) (EP X pins σ Q) X.xe s
theorem aQ.one:∀{x:V}{us:Lw},aQ [x] us->∃u,us=[u]/\RelV x u
 | _,_,.cons r .nil=>⟨_,rfl,r⟩
section
variable {X:Cx}{pins:Po}{σ:St}{H:Hp}{s:Shared}{l b:Addr}{xs ys zs:Lv}
theorem Inv.lset{its its':Lw}{n:Nat}{f:Av->Av}{t':Nat}(I:Inv X pins σ H s)(hH:H l=some (.lst xs))
 (e:s.heap.get? l=some { cls:=.type "list",data:=.seq its.toArray n }) (hf:f its.toArray=its'.toArray) (hv:aQ ys its') (hz:ys.length<=sizeLine) :
 Inv X pins σ (ah H l (.lst ys)) { s with heap:=s.heap.update l (Obj.mapSeq f),toks:=t' }:=by
 have q:=PySem.IsL.update e f;rw[hf]at q;refine I.write (x:=l) (e:=l) (by rw[hH];exact trivial) (.inl rfl) (fun b' u hb hu=>(GQ s.heap (Obj.mapSeq f) (ge hb)).trans hu) ⟨_,q⟩ ?_;exact⟨hz,its',_,hv,q⟩
theorem Inv.lnew{its:Lw}{t':Nat}(I:Inv X pins σ H s)(hv:aQ ys its)(hz:ys.length<=sizeLine) :
 Inv X pins σ (ah H s.heap.objs.size (.lst ys)) { s with heap:=s.heap.push { cls:=.type "list",data:=.seq its.toArray },toks:=t' }:=
 I.laid (fun _ _ q=>bX _ q) (aI _) ⟨hz,its,0,hv,dR _ rfl⟩
theorem Inv.fresh(I:Inv X pins σ H s):H s.heap.objs.size=none:=I.hok.fresh (aI _)
theorem Inv.lstM(I:Inv X pins σ H s)(hH:H l=some (.lst xs)):xs.length<=sizeLine/\∃(its:Lw) (n:Nat),aQ xs its/\xs.length=its.length/\s.heap.get? l=some { cls:=.type "list",data:=.seq its.toArray n }:=by
 obtain⟨z,its,n,r,e⟩:=I.hok l _ hH;exact⟨z,its,n,r,r.length,e⟩
theorem acE{n:Nat}(h:n<=sizeLine):Builtin.List.listTooLong n=false:=by
 unfold Builtin.List.listTooLong;exact cI (by omega)
end
section
variable {X:Cx}
def acF:V->Lv->Hp->VK->Prop:=fun x vs H Q=>∃l xs y,x=.ref l/\vs=[y]/\H l=some (.lst xs)/\xs.length<sizeLine/\Q .non (ah H l (.lst (xs++[y])))
theorem rj:pL X "list.append" acF:=by
 intro pins s σ H x vs v us Q I rx rv h;obtain⟨l,xs,y,rfl,rfl,hH,hz,q⟩:=h;cases rx;obtain⟨u,rfl,ru⟩:=rv.one;obtain⟨z,its,n,r,hl,e⟩:=I.lstM hH;refine GR F.slot_list_append ⟨_,e,rfl⟩ F.entry_list_append (F.args_list_append_2 _ _) (PySem.list_append l its.toArray n u (by rw[fo];omega)) ⟨e,?_⟩;refine⟨.non,_,I.lset (its':=its++[u]) hH e (by simp) (r.append (.cons ru .nil)) ?_,rfl,q⟩;rw[bj,iN];omega
def acG:V->Lv->Hp->VK->Prop:=fun x vs H Q=>∃l b xs zs,x=.ref l/\vs=[.ref b]/\H l=some (.lst xs)/\H b=some (.lst zs)/\xs.length+zs.length<=sizeLine/\Q .non (ah H l (.lst (xs++zs)))
theorem nW:pL X "list.extend" acG:=by
 intro pins s σ H x vs v us Q I rx rv h;obtain⟨l,b,xs,zs,rfl,rfl,hH,hB,hz,q⟩:=h;cases rx;obtain⟨u,rfl,ru⟩:=rv.one;cases ru;obtain⟨z,its,n,r,hl,e⟩:=I.lstM hH;obtain⟨z2,uj,n2,r2,zu,e2⟩:=I.lstM hB;have hsz:its.toArray.size+uj.toArray.size<=sizeLine:=by rw[fo,fo];omega
 have acH:¬(!its.toArray.isEmpty && Builtin.List.listTooLong (its.toArray.size+uj.toArray.size))=true:=by
  rw[acE hsz,wj];exact cK
 refine GR F.slot_list_extend ⟨_,e,rfl⟩ F.entry_list_extend (F.args_list_extend_2 _ _)
  (AutoSeq1.list_extend_list_list_0 l its.toArray n b uj.toArray n2 acH (by rw[fo];omega) (by omega)) ⟨e,e2,?_⟩
 refine⟨.non,_,I.lset (its':=its++uj) hH e (by simp) (r.append r2) ?_,rfl,q⟩;rw[bj];omega
def acI:R2:=fun x y H Q=>∃l b xs zs,x=.ref l/\y=.ref b/\H l=some (.lst xs)/\H b=some (.lst zs)/\xs.length+zs.length<=sizeLine/\∀p,H p=none->Q (.ref p) (ah H p (.lst (xs++zs)))
theorem acJ:cL X (binaryOp .Add) acI:=by
 intro pins s σ H x y v u Q I rx ry h;obtain⟨l,b,xs,zs,rfl,rfl,hH,hB,hz,q⟩:=h;cases rx;cases ry;obtain⟨z,its,n,r,hl,e⟩:=I.lstM hH;obtain⟨z2,uj,n2,r2,zu,e2⟩:=I.lstM hB;refine PySem.P.add_list e e2 ?_ (by rw[fo,fo];omega);have ea:its.toArray++uj.toArray=(its++uj).toArray:=by simp
 rw[ea];exact⟨.ref _,_,I.lnew (t':=s.toks) (r.append r2) (by rw[bj];omega),rfl,q _ I.fresh⟩
end
section
variable {prog:Program}{w:World}{A:Around}{E:VP}{s:Shared}
set_option maxRecDepth 100000 in
end
section
variable {X:Cx}
end
section
variable {κ:Type} [DecidableEq κ]
def bh(kvs:List (κ×V))(k:κ):Option V:=(kvs.find? fun kv=>decide (kv.1=k)).map (·.2)
def cz(kvs:List (κ×V))(k:κ)(v:V):List (κ×V):=
 if (kvs.any fun kv=>decide (kv.1=k))=true then kvs.map (fun kv=>if kv.1=k then(kv.1,v) else kv) else kvs++[(k,v)]
def pM(kvs:List (κ×V))(k:κ):List (κ×V):=kvs.filter fun kv=>decide (kv.1≠k)
theorem jW{p:κ×V}{r:List (κ×V)}{k:κ}(e:p.1=k):bh (p::r) k=some p.2:=by simp[bh,tK,e]
theorem iW{p:κ×V}{r:List (κ×V)}{k:κ}(e:¬p.1=k):bh (p::r) k=bh r k:=by simp[bh,tK,e]
theorem zv(k:κ):∀kvs:List (κ×V),(kvs.any fun kv=>decide (kv.1=k))=(bh kvs k).isSome
 | []=>rfl
 | p::r=>by
  rw[tJ]
  by_cases e:p.1=k
  . simp only[jW e,bN e,Wl,Option.isSome_some]
  . rw[iW e,cI e,Bool.false_or];exact zv k r
theorem Pp(k j:κ)(y:V):∀kvs:List (κ×V),bh (kvs.map fun kv=>if kv.1=k then(kv.1,y) else kv) j=(bh kvs j).map fun x=>if j=k then y else x
 | []=>rfl
 | p::r=>by
  have ih:=Pp k j y r;rw[bL]
  by_cases h:p.1=k
  . rw[al h]
    by_cases e:p.1=j
    . rw[jW (p:=(p.1,y)) e,jW e,tL,al (e.symm.trans h)]
    . rw[iW (p:=(p.1,y)) e,iW e,ih]
  . rw[ai h]
    by_cases e:p.1=j
    . rw[jW (p:=p) e,jW e,tL,ai (fun z=>h (e.trans z))]
    . rw[iW (p:=p) e,iW e,ih]
theorem Pq(k j:κ)(y:V):∀kvs:List (κ×V),bh kvs k=none->bh (kvs++[(k,y)]) j=if j=k then some y else bh kvs j
 | [],_=>by
  by_cases e:k=j
  . rw[al e.symm];exact jW (p:=(k,y)) e
  . rw[ai (fun z=>e z.symm)];exact iW (p:=(k,y)) e
 | p::r,hn=>by
  rw[tM];have hk:¬p.1=k:=fun z=>by rw[jW z]at hn;cases hn
  rw[iW hk]at hn;have ih:=Pq k j y r hn
  by_cases e:p.1=j
  . rw[jW e,jW e,ai (fun z=>hk (e.trans z))]
  . rw[iW e,iW e,ih]
theorem CQ(kvs:List (κ×V))(k j:κ)(y:V):bh (cz kvs k y) j=if j=k then some y else bh kvs j:=by
 unfold cz
 by_cases a:(kvs.any fun kv=>decide (kv.1=k))=true
 . rw[al a,Pp];rw[zv]at a
   by_cases e:j=k
   . obtain⟨x,hx⟩:=NR.mp a;rw[al e,e,hx,tL,al rfl]
   . rw[ai e];cases bh kvs j with
     | none=>rfl
     | some x=>rw[tL,ai e]
 . rw[ai a];refine Pq k j y kvs ?_;rw[zv]at a;cases q:bh kvs k with
   | none=>rfl
   | some x=>rw[q]at a;exact(a rfl).elim
theorem zw(kvs:List (κ×V))(k:κ)(v:V):(cz kvs k v).length<=kvs.length+1:=by
 unfold cz;split
 . rw[ao];omega
 . rw[bj,cg,kL];omega
theorem HG{kvs:List (κ×V)}{k:κ}(v:V)(h:bh kvs k=none):cz kvs k v=kvs++[(k,v)]:=by
 unfold cz;rw[zv,h];exact ai (by decide)
theorem gg.isSome_eq{o:Option V}{u:Option Value}(r:gg o u):o.isSome=u.isSome:=by
 cases o with
 | none=>cases u with
  | none=>rfl
  | some _=>exact(show False from r).elim
 | some _=>cases u with
  | none=>exact(show False from r).elim
  | some _=>rfl
theorem gg.getD{o:Option V}{u:Option Value}{d:V}{d':Value}(r:gg o u)(rd:RelV d d'):RelV (o.getD d) (u.getD d'):=by
 cases o with
 | none=>cases u with
  | none=>exact rd
  | some _=>exact(show False from r).elim
 | some _=>cases u with
  | none=>exact(show False from r).elim
  | some _=>exact r
theorem KV.val{kvs:List (κ×V)}{vs:List (κ×Value)}(r:KV kvs vs)(k:κ):gg (bh kvs k) (valueAt vs k):=by
 unfold KV at r
 induction r with
 | nil=>exact True.intro
 | @cons p q ps qs h t ih=>
  obtain⟨h1,h2⟩:=h
  by_cases e:p.1=k
  . have e':q.1=k:=h1.symm.trans e;have b:valueAt (q::qs) k=some q.2:=by simp[valueAt,tK,e']
    rw[jW e,b];exact h2
  . have e':¬q.1=k:=fun z=>e (h1.trans z);have b:valueAt (q::qs) k=valueAt qs k:=by simp[valueAt,tK,e']
    rw[iW e,b];exact ih
theorem KV.any{kvs:List (κ×V)}{vs:List (κ×Value)}(r:KV kvs vs)(k:κ):(kvs.any fun kv=>decide (kv.1=k))=vs.any fun kv=>decide (kv.1=k):=by
 unfold KV at r
 induction r with
 | nil=>rfl
 | cons h t ih=>rw[tJ,tJ,ih,h.1]
theorem KV.repl{kvs:List (κ×V)}{vs:List (κ×Value)}(r:KV kvs vs)(k:κ){y:V}{u:Value}(ry:RelV y u) :
 KV (kvs.map fun kv=>if kv.1=k then(kv.1,y) else kv) (vs.map fun kv=>if kv.1=k then(kv.1,u) else kv):=by
 unfold KV at r ⊢
 induction r with
 | nil=>exact .nil
 | @cons p q ps qs h t ih=>
  rw[bL,bL];refine .cons ?_ ih;obtain⟨h1,h2⟩:=h
  by_cases e:p.1=k
  . rw[al e,al (h1.symm.trans e)];exact⟨h1,ry⟩
  . rw[ai e,ai (fun z=>e (h1.trans z))];exact⟨h1,h2⟩
theorem KV.put{kvs:List (κ×V)}{vs:List (κ×Value)}(r:KV kvs vs)(k:κ){y:V}{u:Value}(ry:RelV y u):KV (cz kvs k y) (stored vs k u):=by
 unfold cz stored;rw[r.any k]
 by_cases e:(vs.any fun kv=>decide (kv.1=k))=true
 . rw[al e,al e];exact r.repl k ry
 . rw[ai e,ai e];exact Paired.snoc r ⟨rfl,ry⟩
theorem KV.drop{kvs:List (κ×V)}{vs:List (κ×Value)}(r:KV kvs vs)(k:κ):KV (pM kvs k) (without vs k):=by
 unfold KV at r ⊢;unfold pM without
 induction r with
 | nil=>exact .nil
 | @cons p q ps qs h t ih=>
  obtain⟨h1,h2⟩:=h;rw[qO,qO]
  by_cases e:p.1=k
  . have a:¬decide (p.1≠k)=true:=by simp[e]
    have b:¬decide (q.1≠k)=true:=by simp[h1.symm.trans e]
    rw[ai a,ai b];exact ih
  . have e':¬q.1=k:=fun z=>e (h1.trans z);have a:decide (p.1≠k)=true:=by simp[e]
    have b:decide (q.1≠k)=true:=by simp[e']
    rw[al a,al b];exact .cons ⟨h1,h2⟩ ih
theorem KV.length{kvs:List (κ×V)}{vs:List (κ×Value)}(r:KV kvs vs):kvs.length=vs.length:=V9 r
theorem acK(kvs:List (κ×V))(k:κ):(pM kvs k).length<=kvs.length:=yI _ _
end
theorem nX{P:Program}{w:World}{k:ar}{u:Value}(r:RelV (kV k) u):(cw P w).is k u=true:=by
 cases k with
 | inl i=>obtain⟨t,e⟩:=(show∃t,u=Value.int i t from r);subst e;exact W8 P w i t
 | inr x=>obtain⟨t,e⟩:=(show∃t,u=Value.str x t from r);subst e;exact tR P w x t
theorem Ps{P:Program}{w:World}:∀{ks:List ar}{us:Lw},aQ (ks.map kV) us->ItemsAre (cw P w) ks us
 | [],_,r=>by rw[Cf]at r;cases r;exact .nil
 | k::ks,_,r=>by
  rw[bL]at r;cases r with
  | cons h t=>exact .cons (nX h) (Ps t)
abbrev KT (H:Hp):List (List NI×V)->List (List NI×Addr×Value)->Prop:=Paired fun p q=>p.1=q.1/\kP H p.1 q.2.1/\RelV p.2 q.2.2
theorem KT.val{H:Hp}{kvs:List (List NI×V)}{xs:List (List NI×Addr×Value)}(r:KT H kvs xs)(k:List NI):gg (bh kvs k) ((atKey xs k).map (·.2)):=by
 induction r with
 | nil=>exact True.intro
 | @cons p q ps qs h t ih=>
  obtain⟨h1,_,h2⟩:=h
  by_cases e:p.1=k
  . have e':q.1=k:=h1.symm.trans e;have b:atKey (q::qs) k=some q.2:=by simp[atKey,tK,e']
    rw[jW e,b];exact h2
  . have e':¬q.1=k:=fun z=>e (h1.trans z);have b:atKey (q::qs) k=atKey qs k:=by simp[atKey,tK,e']
    rw[iW e,b];exact ih
theorem KT.repl{H:Hp}{kvs:List (List NI×V)}{xs:List (List NI×Addr×Value)}(r:KT H kvs xs)(k:List NI){y:V}{u:Value}(ry:RelV y u) :
 KT H (kvs.map fun kv=>if kv.1=k then(kv.1,y) else kv) (xs.map (putAt k u)):=by
 induction r with
 | nil=>exact .nil
 | @cons p q ps qs h t ih=>
  rw[bL,bL];refine .cons ?_ ih;obtain⟨h1,h2,h3⟩:=h;unfold putAt
  by_cases e:p.1=k
  . rw[al e,al (h1.symm.trans e)];exact⟨h1,h2,ry⟩
  . rw[ai e,ai (fun z=>e (h1.trans z))];exact⟨h1,h2,h3⟩
theorem KT.put{H:Hp}{kvs:List (List NI×V)}{xs:List (List NI×Addr×Value)}(r:KT H kvs xs)(k:List NI){b:Addr}{y:V}{u:Value}(hb:kP H k b)(ry:RelV y u) :
 KT H (cz kvs k y) (storedH xs k b u):=by
 have e:(kvs.any fun kv=>decide (kv.1=k))=(atKey xs k).isSome:=by
  rw[zv,(r.val k).isSome_eq,Wm]
 unfold cz storedH;rw[e]
 by_cases q:(atKey xs k).isSome=true
 . rw[al q,al q];exact r.repl k ry
 . rw[ai q,ai q];exact Paired.snoc r ⟨rfl,hb,ry⟩
theorem KT.keeps{H H':Hp}{kvs:List (List NI×V)}{xs:List (List NI×Addr×Value)}(r:KT H kvs xs)(ht:∀b ys,H b=some (.tup ys)->H' b=some (.tup ys)):KT H' kvs xs:=
 Paired.mapP r fun _ _ z=>⟨z.1,z.2.1.keeps ht,z.2.2⟩
section
variable {P:Program}{w:World}{H:Hp}{h:Heap}{a:Addr}
theorem Pu{u:HO}(ok:cj P w H h)(e:Rd H a u):ci P w H h a u:=e.ok ok
theorem rm{kvs:List (ar×V)}(ok:cj P w H h)(e:Rd H a (.dK kvs)):kvs.length<=sizeLine/\(a == sysModules)=false/\∃vs,KV kvs vs/\h.DictOf (cw P w) a vs:=
 show ci P w H h a (.dK kvs) from Pu ok e
theorem mq{kvs:List (ar×V)}(ok:cj P w H h)(e:H a=some (.dK kvs)):kvs.length<=sizeLine/\(a == sysModules)=false/\∃vs,KV kvs vs/\h.DictOf (cw P w) a vs:=rm ok (.inl e)
theorem acL{ks:List NI}{vs:Lv}{us:Lw}(ok:cj P w H h)(x:Ov H ks vs)(r:aQ vs us):iQ P w h ks us:=by
 induction x generalizing us with
 | nil=>cases r;exact .nil
 | @cons i v ks vs p _ ih=>
  cases r with
  | cons rv rr=>
   refine .cons ?_ (ih rr);cases i with
   | inl k=>
    have p:v=kV k:=p;subst p;exact nX (P:=P) (w:=w) rv
   | inr l=>
    obtain⟨b,rfl,e⟩:=p;cases rv;obtain⟨_,its,r2,o,h1,h2,n,h3⟩:=(show ci P w H h b (.tup (l.map kV)) from ok b _ e);exact⟨b,rfl,o,its.toArray,n,h1,h2,h3,by simpa using Ps r2⟩
theorem wC{ks:List NI}(ok:cj P w H h)(e:kP H ks a):(tS P w).is h ks a:=by
 obtain⟨vs,e,x⟩:=e;obtain⟨_,its,r,o,h1,h2,n,h3⟩:=(show ci P w H h a (.tup vs) from ok a _ e);exact⟨o,its.toArray,n,h1,h2,h3,by simpa using acL ok x r⟩
theorem um{kvs:List (List NI×V)}(ok:cj P w H h)(e:Rd H a (.dT kvs)):kvs.length<=sizeLine/\(a == sysModules)=false /\
 ∃xs,KT H kvs xs/\h.DictOfH (tS P w) a xs:=by
 obtain⟨z,y,xs,r,o,es,ep,h1,h2,h3,h4,h5⟩:=(show ci P w H h a (.dT kvs) from Pu ok e);refine⟨z,y,xs,r,o,es,ep,h1,h2,h3,h4,fun x hx=>?_,h5⟩;have all:∀{l:List (List NI×V)}{m:List (List NI×Addr×Value)},KT H l m->∀x∈m,(tS P w).is h x.1 x.2.1:=by
  intro l m q
  induction q with
  | nil=>intro x hx;exact nomatch hx
  | @cons p q ps qs hq t ih=>
   intro x hx
   rcases aY.mp hx with e | hx
   . subst e;exact wC ok (by rw[←hq.1];exact hq.2.1)
   . exact ih x hx
 exact all r x hx
theorem acM{kvs:List (List NI×V)}(ok:cj P w H h)(e:H a=some (.dT kvs)):kvs.length<=sizeLine/\(a == sysModules)=false /\
 ∃xs,KT H kvs xs/\h.DictOfH (tS P w) a xs:=um ok (.inl e)
end
def c8(H:Hp)(a:Addr)(y:V)(r:Option V):Prop:=
 (∃kvs k,Rd H a (.dK kvs)/\y=kV k/\r=bh kvs k)\/∃kvs k b,Rd H a (.dT kvs)/\y=.ref b/\kP H k b/\r=bh kvs k
def fT(H:Hp)(a:Addr)(y v:V)(H':Hp):Prop:=
 (∃kvs k,H a=some (.dK kvs)/\y=kV k/\kvs.length<sizeLine/\H'=ah H a (.dK (cz kvs k v))) \/
 ∃kvs k b,H a=some (.dT kvs)/\y=.ref b/\kP H k b/\kvs.length<sizeLine/\H'=ah H a (.dT (cz kvs k v))
theorem c8.k{H:Hp}{a:Addr}{kvs:List (ar×V)}{k:ar}(e:H a=some (.dK kvs)):c8 H a (kV k) (bh kvs k):=.inl ⟨kvs,k,.inl e,rfl,rfl⟩
theorem c8.t{H:Hp}{a b:Addr}{kvs:List (List NI×V)}{k:List NI}(e:H a=some (.dT kvs))(eb:kP H k b):c8 H a (.ref b) (bh kvs k):=.inr ⟨kvs,k,b,.inl e,rfl,eb,rfl⟩
theorem fT.k{H:Hp}{a:Addr}{kvs:List (ar×V)}{k:ar}{v:V}(e:H a=some (.dK kvs))(hl:kvs.length<sizeLine):fT H a (kV k) v (ah H a (.dK (cz kvs k v))):=.inl ⟨kvs,k,e,rfl,hl,rfl⟩
theorem fT.t{H:Hp}{a b:Addr}{kvs:List (List NI×V)}{k:List NI}{v:V}(e:H a=some (.dT kvs))(eb:kP H k b)(hl:kvs.length<sizeLine) :
 fT H a (.ref b) v (ah H a (.dT (cz kvs k v))):=.inr ⟨kvs,k,b,e,rfl,eb,hl,rfl⟩
section
variable {X:Cx}{pins:Po}{σ:St}{H:Hp}{s:Shared}{a:Addr}{y v:V}{u r:Value}{o:Option V}{A:Around}{E:VP}
theorem Inv.big(I:Inv X pins σ H s):sysModules<s.heap.objs.size:=by
 have h:mainGlobals<s.heap.objs.size:=(I.mod.glob.keeps I.bk).lt;exact yJ (by decide) h
theorem acN{Q:VP}(hu:A.units+64<cLine)(I:Inv X pins σ H s)(g:c8 H a y (some v))(ry:RelV y u)(h:∀w' s',Inv X pins σ H s'->RelV v w'->Q w' s') :
 wpAny (model X.prog X.w) A (getItem (.ref a) u) Q E s:=by
 rcases g with⟨kvs,k,e,ey,l⟩ | ⟨kvs,k,b,e,ey,eb,l⟩
 . subst ey;obtain⟨z,hd,vs,rel,dd⟩:=rm I.hok e;obtain⟨w',hw,gC⟩:=gg.some_of (v:=v) (o:=valueAt vs k) (by rw[l];exact rel.val k);exact wpAny_getItem_of (nX ry) dd.mapOf hw (h w' _ (I.tok _) gC)
 . subst ey;cases (show u=Value.ref b from ry);obtain⟨z,hd,xs,rel,dd⟩:=um I.hok e;obtain⟨w',hw,gC⟩:=gg.some_of (v:=v) (o:=(atKey xs k).map (·.2)) (by rw[l];exact rel.val k);obtain⟨p,hp,HH⟩:=axI.mp hw;refine wpAny_getItem_heap (y6 hu) (wC I.hok eb) dd hp ?_;rw[HH];exact h w' _ (I.tok _) gC
theorem acO{Q:VP}(hu:A.units+64<cLine)(I:Inv X pins σ H s)(g:c8 H a y o)(ry:RelV y u)(h:∀s',Inv X pins σ H s'->Q (.bool o.isSome) s') :
 wpAny (model X.prog X.w) A (compareOp .In u (.ref a)) Q E s:=by
 rcases g with⟨kvs,k,e,ey,l⟩ | ⟨kvs,k,b,e,ey,eb,l⟩
 . subst ey;obtain⟨z,hd,vs,rel,dd⟩:=rm I.hok e;refine wpAny_in_of (nX ry) hd dd.mapOf ?_;rw[←(rel.val k).isSome_eq,←l];exact h _ (I.tok _)
 . subst ey;cases (show u=Value.ref b from ry);obtain⟨z,hd,xs,rel,dd⟩:=um I.hok e;refine wpAny_in_heap (y6 hu) (wC I.hok eb) hd dd ?_;have q:=(rel.val k).isSome_eq;rw[Wm]at q;rw[←q,←l];exact h _ (I.tok _)
theorem acP{Q:VP}(hu:A.units+64<cLine)(I:Inv X pins σ H s)(g:c8 H a y o)(ry:RelV y u)(h:∀s',Inv X pins σ H s'->Q (.bool (!o.isSome)) s') :
 wpAny (model X.prog X.w) A (compareOp .NotIn u (.ref a)) Q E s:=by
 rcases g with⟨kvs,k,e,ey,l⟩ | ⟨kvs,k,b,e,ey,eb,l⟩
 . subst ey;obtain⟨z,hd,vs,rel,dd⟩:=rm I.hok e;refine wpAny_notIn_of (nX ry) hd dd.mapOf ?_;rw[←(rel.val k).isSome_eq,←l];exact h _ (I.tok _)
 . subst ey;cases (show u=Value.ref b from ry);obtain⟨z,hd,xs,rel,dd⟩:=um I.hok e;refine wpAny_notIn_heap (y6 hu) (wC I.hok eb) hd dd ?_;have q:=(rel.val k).isSome_eq;rw[Wm]at q;rw[←q,←l];exact h _ (I.tok _)
theorem wD{h':Heap}{t':Nat}{ob:HO}(I:Inv X pins σ H s)(mu:y7 (H a))(hs:Heap.SameBut a s.heap h')(he:∃q,h'.get? a=some q)(new:ci X.prog X.w (ah H a ob) h' a ob) :
 Inv X pins σ (ah H a ob) { s with heap:=h',toks:=t' }:=
 I.write (x:=a) (e:=a) mu (.inl rfl) (fun b q hb z=>(hs.2 b hb).trans z) he new
theorem wE{P:Program}{w:World}{H':Hp}{h':Heap}{kvs:List (ar×V)}{vs:List (ar×Value)}(z:kvs.length<=sizeLine)(hd:(a == sysModules)=false)(rel:KV kvs vs)(dd:h'.DictOf (cw P w) a vs) :
 ci P w H' h' a (.dK kvs):=⟨z,hd,vs,rel,dd⟩
theorem acQ{H':Hp}{Q:Unit->Shared->Prop}(hu:A.units+64<cLine)(I:Inv X pins σ H s)(g:fT H a y v H')(ry:RelV y u)(rv:RelV v r)(h:∀s',Inv X pins σ H' s'->Q () s') :
 wpAny (model X.prog X.w) A (setItem (.ref a) u r) Q E s:=by
 rcases g with⟨kvs,k,e,ey,l,eH⟩ | ⟨kvs,k,b,e,ey,eb,l,eH⟩
 . subst ey eH;obtain⟨z,hd,vs,rel,dd⟩:=mq I.hok e;have hz:vs.length<=sizeLine:=by rw[←rel.length];exact z
   have hl:(cz kvs k v).length<=sizeLine:=by have:=zw kvs k v;omega
   refine wpAny_setItem_pairs (hsz:=hz) (nX ry) dd fun h' gj hs=>h _ ?_;have he:∃q,h'.get? a=some q:=gj.elim fun q acR=>acR.elim fun _ acS=>acS.elim fun _ acT=>acT.elim fun hq _=>⟨q,hq⟩;exact wD I (by rw[e];exact True.intro) hs he (wE hl hd (rel.put k rv) gj)
 . subst ey eH;cases (show u=Value.ref b from ry);obtain⟨z,hd,xs,rel,dd⟩:=acM I.hok e;have hz:xs.length<=sizeLine:=by rw[←V9 rel];exact z
   have hl:(cz kvs k v).length<=sizeLine:=by have:=zw kvs k v;omega
   refine wpAny_setItem_heap (hsz:=hz) (y6 hu) (wC I.hok eb) dd fun h' gj hs=>h _ ?_;obtain⟨q,es,ep,hq,h2,h3,h4,_,h5⟩:=gj;refine wD I (by rw[e];exact True.intro) hs ⟨q,hq⟩ ⟨hl,hd,_,(rel.put k eb rv).keeps fun c ys ec=>?_,q,es,ep,hq,h2,h3,h4,h5⟩;rw[aW (aK ec e (fun z=>nomatch z))];exact ec
end
section
variable {X:Cx}{pins:Po}{σ:St}{H:Hp}{s:Shared}{a:Addr}{kvs:List (ar×V)} {k:ar}{u:Value}{A:Around}{E:VP}
theorem acU{v:V}{more:Lw}{Q:VP}(I:Inv X pins σ H s)(e:H a=some (.dK kvs))(ry:RelV (kV k) u)(l:bh kvs k=some v)(hm:more=[]\/∃x,more=[x])
 (h:∀w' s',Inv X pins σ (ah H a (.dK (pM kvs k))) s'->RelV v w'->Q w' s'):wpAny (model X.prog X.w) A (call (.builtin "dict.pop") (.ref a::u::more)) Q E s:=by
 obtain⟨z,hd,vs,rel,dd⟩:=mq I.hok e;obtain⟨w',hw,gC⟩:=gg.some_of (v:=v) (o:=valueAt vs k) (by rw[←l];exact rel.val k);have hp:(keyPart u).isSome=true:=by
  cases k with
  | inl i=>obtain⟨t,q⟩:=(show∃t,u=Value.int i t from ry);subst q;rfl
  | inr x=>obtain⟨t,q⟩:=(show∃t,u=Value.str x t from ry);subst q;rfl
 have ha:argsOk "dict.pop" ⟨.ref a::u::more,[]⟩:=by
  rcases hm with q | ⟨x,q⟩
  . subst q;exact PySem.F.args_dict_pop_2 _ _
  . subst q;exact PySem.F.args_dict_pop_3 _ _ _
 refine Cg axJ dd.typeIs PySem.F.entry_dict_pop ha (meets_dict_pop_there (cw X.prog X.w) a (nX ry) more hm hp)
  ⟨vs,w',dd,by rw[←rel.length];exact z,hw,fun h' gj hs=>h w' _ ?_ gC⟩
 have he:∃q,h'.get? a=some q:=gj.elim fun q acV=>acV.elim fun _ acW=>acW.elim fun _ acX=>acX.elim fun hq _=>⟨q,hq⟩;exact wD I (by rw[e];exact True.intro) hs he (wE (cu (acK kvs k) z) hd (rel.drop k) gj)
end
def Pw(i:Expr):Prop:=∀ov iv,subscripted i false ov iv=operate [ov,iv] (getItem ov iv)
theorem acY{prog:Program}{w:World}{A:Around}{E:VP}{s:Shared}{env:Env}{value slice:Expr}{pos:Pos}{T id:String}{Q:VP}
 (hl:typeLookup (.type T) "__getitem__"=pure (some (.builtin id))) (hs:Pw slice)
 (h:wpAny (model prog w) A (eval value env) (fun o s₁=>wpAny (model prog w) A (eval slice env) (fun i s₂=>s₂.TypeIs o T/\wpAny (model prog w) A (getItem o i) Q E s₂) E s₁) E s) :
 wpAny (model prog w) A (eval (.Subscript value slice pos) env) Q E s:=by
 refine NS (d8 h (fun o s₁ h₁=>d8 h₁ (fun i s₂ h₂=>?_) fun _ _ x=>x) fun _ _ x=>x);obtain⟨hT,h₂⟩:=h₂;unfold subscriptTail;refine af ?_;rw[getitemInPython_of_ne hT.not_modules];refine af (B8 hT hl ?_);have fin:wpAny (model prog w) A (subscripted slice false o i) (fun r s₃=>wpAny (model prog w) A (letTemporaryGo value o r >>= fun _=>pure r) Q E s₃) E s₂:=by
  rw[hs o i];exact wpAny_operating (d8 h₂ (fun r s₃ h₃=>af (wpAny_letTemporaryGo (au h₃))) fun _ _ x=>x)
 first
  | exact au (af fin)
  | exact af (au (af fin))
  | exact af fin
theorem acZ{X:Cx}{pins:Po}{σ:St}{H:Hp}{s:Shared}{a:Addr}{y:V}{o:Option V}(I:Inv X pins σ H s)(g:c8 H a y o):s.TypeIs (.ref a) "dict":=by
 rcases g with⟨kvs,k,e,_,_⟩ | ⟨kvs,k,b,e,_,_,_⟩
 . obtain⟨_,_,vs,_,dd⟩:=rm I.hok e;exact dd.typeIs
 . obtain⟨_,_,xs,_,dd⟩:=um I.hok e;exact dd.typeIs
def ac0(td ty:TE):TE:=fun σ H Q=>td σ H fun x H1=>ty σ H1 fun y H2=>∃a v,x=.ref a/\c8 H2 a y (some v)/\Q v H2
def ac1(ty td:TE):TE:=fun σ H Q=>ty σ H fun y H1=>td σ H1 fun x H2=>∃a o,x=.ref a/\c8 H2 a y o/\Q (.bl o.isSome) H2
def ac2(ty td:TE):TE:=fun σ H Q=>ty σ H fun y H1=>td σ H1 fun x H2=>∃a o,x=.ref a/\c8 H2 a y o/\Q (.bl (!o.isSome)) H2
def ac3(td ty tv:TE):TS:=fun D σ H=>tv σ H fun v H1=>td σ H1 fun x H2=>ty σ H2 fun y H3=>∃a H4,x=.ref a/\fT H3 a y v H4/\D.nx σ H4
section
variable {X:Cx}{o i e value:Expr}{pos pos' wA:Pos}{td ty tv:TE}
theorem rn(hu:X.A.units+64<cLine)(ho:PE X o td)(hi:PE X i ty)(hs:Pw i):PE X (.Subscript o i pos) (ac0 td ty):=by
 intro pins s σ H Q I h;refine acY PySem.F.slot_dict_getitem.lookup hs (thn (ho pins s σ H _ I h) fun u s1 ac4=>ac4.elim fun x ac5=>ac5.elim fun H1 ac6=>ac6.elim fun I1 ac7=>ac7.elim fun rx q1=>thn (hi pins s1 σ H1 _ I1 q1) fun iv s2 ac8=>ac8.elim fun y ac9=>ac9.elim fun H2 ada=>ada.elim fun I2 adb=>adb.elim fun ry adc=>adc.elim fun a add=>add.elim fun v ade=>ade.elim fun ex adf=>adf.elim fun g q2=>?_);subst ex;obtain rfl:u=Value.ref a:=rx;exact⟨acZ I2 g,acN hu I2 g ry fun w' s3 I3 gC=>⟨v,H2,I3,gC,q2⟩⟩
theorem CU(hu:X.A.units+64<cLine)(hi:PE X i ty)(ho:PE X o td):PC X .In i o (ac1 ty td):=by
 intro pins s σ H Q I h;refine thn (hi pins s σ H _ I h) fun iv s1 adg=>adg.elim fun y adh=>adh.elim fun H1 adi=>adi.elim fun I1 adj=>adj.elim fun ry q1=>thn (ho pins s1 σ H1 _ I1 q1) fun u s2 adk=>adk.elim fun x adl=>adl.elim fun H2 adm=>adm.elim fun I2 adn=>adn.elim fun rx ado=>ado.elim fun a adp=>adp.elim fun ov adq=>adq.elim fun ex adr=>adr.elim fun g q2=>?_;subst ex;obtain rfl:u=Value.ref a:=rx;exact acO hu I2 g ry fun s3 I3=>⟨.bl ov.isSome,H2,I3,rfl,q2⟩
theorem Px(hu:X.A.units+64<cLine)(hi:PE X i ty)(ho:PE X o td):PC X .NotIn i o (ac2 ty td):=by
 intro pins s σ H Q I h;refine thn (hi pins s σ H _ I h) fun iv s1 ads=>ads.elim fun y adt=>adt.elim fun H1 adu=>adu.elim fun I1 adv=>adv.elim fun ry q1=>thn (ho pins s1 σ H1 _ I1 q1) fun u s2 adw=>adw.elim fun x adx=>adx.elim fun H2 ady=>ady.elim fun I2 adz=>adz.elim fun rx adA=>adA.elim fun a adB=>adB.elim fun ov adC=>adC.elim fun ex adD=>adD.elim fun g q2=>?_;subst ex;obtain rfl:u=Value.ref a:=rx;exact acP hu I2 g ry fun s3 I3=>⟨.bl (!ov.isSome),H2,I3,rfl,q2⟩
theorem jm(hu:X.A.units+64<cLine)(ho:PE X o td)(hi:PE X i ty)(hv:PE X value tv)(hs:swapsWith value (some (.Subscript o i pos')) pos.line X.env=pure false) :
 PS X (.Assign [.Subscript o i pos'] value pos) (ac3 td ty tv):=by
 intro pins s σ H D I h;refine wpAny_Assign_Subscript (thn (hv pins s σ H _ I h) fun r s1 adE=>adE.elim fun v adF=>adF.elim fun H1 adG=>adG.elim fun I1 adH=>adH.elim fun rv q1=>thn (ho pins s1 σ H1 _ I1 q1) fun u s2 adI=>adI.elim fun x adJ=>adJ.elim fun H2 adK=>adK.elim fun I2 adL=>adL.elim fun rx q2=>thn (hi pins s2 σ H2 _ I2 q2) fun iv s3 adM=>adM.elim fun y adN=>adN.elim fun H3 adO=>adO.elim fun I3 adP=>adP.elim fun ry adQ=>adQ.elim fun a adR=>adR.elim fun H4 adS=>adS.elim fun ex adT=>adT.elim fun g q3=>?_) hs;subst ex;obtain rfl:u=Value.ref a:=rx;exact acQ hu I3 g ry rv fun s4 I4=>⟨σ,H4,I4,q3⟩
end
theorem Py{P:Program}{w:World}{H:Hp}(h:Heap)(hb:sysModules<h.objs.size):ci P w H (h.push { cls:=.type "dict",data:=.dict #[] }) h.objs.size (.dK []):=
 ⟨dG _,yA.mpr (ge (cS hb)),[],.nil,Heap.DictOf.new h⟩
theorem adU{P:Program}{w:World}{H:Hp}(h:Heap)(hb:sysModules<h.objs.size):ci P w H (h.push { cls:=.type "dict",data:=.dict #[] }) h.objs.size (.dT []):=
 ⟨dG _,yA.mpr (ge (cS hb)),[],.nil,_,#[],0,dR _ rfl,⟨rfl,rfl,rfl⟩,rfl,rfl,kM⟩
def adV:TE:=fun _ H Q=>∀p,H p=none->Q (.ref p) (ah H p (.dK []))
def adW:TE:=fun _ H Q=>∀p,H p=none->Q (.ref p) (ah H p (.dT []))
section
variable {X:Cx}{pos:Pos}
theorem adX:PE X (.Dict [] [] pos) adV:=fun pins s σ H Q I h=>
 wpAny_Dict_empty ⟨.ref s.heap.objs.size,_,I.laid (a:=s.heap.objs.size) (o:=.dK []) (t':=s.toks) (fun _ _ q=>bX _ q) (aI _) (Py s.heap I.big),rfl,h _ (I.hok.fresh (aI _))⟩
theorem adY:PE X (.Dict [] [] pos) adW:=fun pins s σ H Q I h=>
 wpAny_Dict_empty ⟨.ref s.heap.objs.size,_,I.laid (a:=s.heap.objs.size) (o:=.dT []) (t':=s.toks) (fun _ _ q=>bX _ q) (aI _) (adU s.heap I.big),rfl,h _ (I.hok.fresh (aI _))⟩
end
def HI:List (TE×TE)->St->Hp->(List (V×V)->Hp->Prop)->Prop
 | [],_,H,Q=>Q [] H
 | (tk,tv)::r,σ,H,Q=>tk σ H fun x H1=>tv σ H1 fun y H2=>HI r σ H2 fun ps H3=>Q ((x,y)::ps) H3
abbrev VV:List (V×V)->List (Value×Value)->Prop:=Paired fun p q=>RelV p.1 q.1/\RelV p.2 q.2
def CV(X:Cx)(pos:Pos)(keys:List (Option Expr))(values:List Expr)(pN:List (TE×TE)):Prop:=
 ∀(pins:Po) (s:Shared) (σ:St) (H:Hp) (Q:List (V×V)->Hp->Prop),Inv X pins σ H s->HI pN σ H Q ->
  wpAny (model X.prog X.w) X.A (evalPairs (pairTrees keys values X.env pos)) (fun vs s'=>∃ps H',Inv X pins σ H' s'/\VV ps vs/\Q ps H') X.xe s
theorem Pz{X:Cx}{pos:Pos}:CV X pos [] [] []:=fun pins s σ H Q I h=>pairTrees_nil_walk ⟨[],H,I,.nil,h⟩
theorem PB{X:Cx}{pos:Pos}{k v:Expr}{ks:List (Option Expr)}{vs:List Expr}{tk tv:TE}{pN:List (TE×TE)}(hk:PE X k tk)(hv:PE X v tv)(hr:CV X pos ks vs pN) :
 CV X pos (some k::ks) (v::vs) ((tk,tv)::pN):=fun pins s σ H Q I h=>
 pairTrees_cons_walk (thn (hk pins s σ H _ I h) fun u s1 adZ=>adZ.elim fun x ad0=>ad0.elim fun H1 ad1=>ad1.elim fun I1 ad2=>ad2.elim fun rx q1=>thn (hv pins s1 σ H1 _ I1 q1) fun w2 s2 ad3=>ad3.elim fun y ad4=>ad4.elim fun H2 ad5=>ad5.elim fun I2 ad6=>ad6.elim fun ry q2=>
  thn (hr pins s2 σ H2 _ I2 q2) fun ws s3 ad7=>ad7.elim fun ps ad8=>ad8.elim fun H3 ad9=>ad9.elim fun I3 aea=>aea.elim fun rel q3=>⟨(x,y)::ps,H3,I3,.cons ⟨rx,ry⟩ rel,q3⟩)
def mr(kvs more:List (ar×V)):List (ar×V):=more.foldl (fun acc kv=>cz acc kv.1 kv.2) kvs
theorem KV.merge:∀{more:List (ar×V)}{rs:List (ar×Value)}{kvs:List (ar×V)}{vs:List (ar×Value)},KV more rs->KV kvs vs->KV (mr kvs more) (merged vs rs):=by
 intro more rs kvs vs r;unfold KV at r
 induction r generalizing kvs vs with
 | nil=>intro q;exact q
 | @cons p q ps qs h t ih=>
  intro r0;have e:KV (cz kvs p.1 p.2) (stored vs q.1 q.2):=by
   have:=r0.put p.1 h.2;rw[←h.1];exact this
  exact ih e
theorem HJ:∀(more kvs:List (ar×V)),(mr kvs more).length<=kvs.length+more.length
 | [],kvs=>by show kvs.length<=kvs.length+0;omega
 | p::r,kvs=>by
  have h1:=HJ r (cz kvs p.1 p.2);have h2:=zw kvs p.1 p.2;show(mr (cz kvs p.1 p.2) r).length<=_;rw[cg];omega
theorem PD{P:Program}{w:World}:∀{kvs:List (ar×V)}{ws:List (Value×Value)},VV (kvs.map fun kv=>(kV kv.1,kv.2)) ws->∃rs,Carries (cw P w) ws rs/\KV kvs rs
 | [],_,r=>by rw[Cf]at r;cases r;exact⟨[],True.intro,.nil⟩
 | p::kvs,_,r=>by
  rw[bL]at r;cases r with
  | @cons a b as bs h t=>
   obtain⟨rs,c,q⟩:=PD (P:=P) (w:=w) t;obtain⟨b1,b2⟩:=b;exact⟨(p.1,b2)::rs,⟨nX h.1,rfl,c⟩,.cons ⟨rfl,h.2⟩ q⟩
def aeb(pN:List (TE×TE)):TE:=fun σ H Q=>∀p,H p=none->HI pN σ (ah H p (.dK [])) fun ps H2=>H2 p=some (.dK [])/\∃kvs:List (ar×V),ps=kvs.map (fun kv=>(kV kv.1,kv.2))/\kvs.length<=15/\Q (.ref p) (ah H2 p (.dK (mr [] kvs)))
theorem PF{X:Cx}{pos:Pos}{keys:List (Option Expr)}{values:List Expr}{pN:List (TE×TE)}(h:CV X pos keys values pN)(qY:keys.all (·.isSome)=true)(hl:keys.length=values.length)(h0:keys≠[])
 (uo:keys.length<=15):PE X (.Dict keys values pos) (aeb pN):=by
 intro pins s σ H Q I q;have hn:=I.hok.fresh (aI s.heap.objs.size);have I1:=I.laid (a:=s.heap.objs.size) (o:=.dK []) (h':=s.heap.push { cls:=.type "dict",data:=.dict #[] }) (t':=s.toks) (fun _ _ q=>bX _ q) (aI _) (Py s.heap I.big);refine wpAny_Dict_walk (knd:=cw X.prog X.w) qY hl h0 uo (thn (h pins _ σ _ _ I1 (q _ hn)) fun ws s2 aec=>aec.elim fun ps aed=>aed.elim fun H2 aee=>aee.elim fun I2 aef=>aef.elim fun rel aeg=>aeg.elim fun e aeh=>aeh.elim fun kvs aei=>aei.elim fun ep aej=>aej.elim fun lk q2=>?_);subst ep;obtain⟨rs,c,rk⟩:=PD (P:=X.prog) (w:=X.w) rel;obtain⟨z,hd,vs0,r0,dd⟩:=mq I2.hok e;cases r0;refine⟨rs,c,dd,fun h' gj hs=>⟨.ref s.heap.objs.size,_,?_,rfl,q2⟩⟩;have hz:(mr [] kvs).length<=sizeLine:=by
  have h1:=HJ kvs [];rw[kL]at h1;rw[yF];omega
 have he:∃q,h'.get? s.heap.objs.size=some q:=gj.elim fun q aek=>aek.elim fun _ ael=>ael.elim fun _ aem=>aem.elim fun hq _=>⟨q,hq⟩;exact wD I2 (by rw[e];exact True.intro) hs he (wE hz hd (rk.merge .nil) gj)
structure M1(X:Cx)(o:Expr)(m:Str)(apos:Pos)(e:Expr)(cM:Pos):Prop where
 base:attributeBase o m X.env (eval o X.env)=eval o X.env
 few:((backTo cM (starEach [e] X.env)).all (fun x=>!x.1) && (backToKw cM (keywordEach [] X.env)).all (fun x=>x.1.isSome)
  && decide (([e]:List Expr).length+([]:List Keyword).length+(if ([]:List Keyword).isEmpty then 0 else 1)<30))=true
 line:(apos.endLine == cM.line)=true
 trees:backTo cM (starEach [e] X.env)=[(false,eval e X.env)]
def HK(H:Hp)(a:Addr):Prop:=(∃kvs,Rd H a (.dK kvs))\/∃kvs,Rd H a (.dT kvs)
theorem PH{X:Cx}{pins:Po}{σ:St}{H:Hp}{s:Shared}{a:Addr}(I:Inv X pins σ H s)(d:HK H a) :
 s.TypeIs (.ref a) "dict"/\(∀b,Value.ref a=.ref b->∃ob,s.heap.get? b=some ob/\ob.dict=none)/\(a == sysModules)=false:=by
 rcases d with⟨kvs,e⟩ | ⟨kvs,e⟩
 . obtain⟨_,hd,vs,_,dd⟩:=rm I.hok e;refine⟨dd.typeIs,fun b q=>?_,hd⟩;cases q;obtain⟨ob,_,_,h1,h2,_⟩:=dd;exact⟨ob,h1,h2.2.1⟩
 . obtain⟨_,hd,xs,_,dd⟩:=um I.hok e;refine⟨dd.typeIs,fun b q=>?_,hd⟩;cases q;obtain⟨ob,_,_,h1,h2,_⟩:=dd;exact⟨ob,h1,h2.2.1⟩
section
variable {X:Cx}{pins:Po}{σ:St}{H:Hp}{s:Shared}{a:Addr}{y d:V}{u r:Value}{o:Option V}{A:Around}{E:VP}
theorem aen{Q:VP}(hu:A.units+64<cLine)(I:Inv X pins σ H s)(g:c8 H a y o)(ry:RelV y u)(h:∀w' s',Inv X pins σ H s'->RelV (o.getD .non) w'->Q w' s') :
 wpAny (model X.prog X.w) A (call (.builtin "dict.get") [.ref a,u]) Q E s:=by
 rcases g with⟨kvs,k,e,ey,l⟩ | ⟨kvs,k,b,e,ey,eb,l⟩
 . subst ey;obtain⟨z,hd,vs,rel,dd⟩:=rm I.hok e;refine Cg Wn dd.typeIs axK (axL _ _) (meets_dict_get (cw X.prog X.w) a (nX ry) hd) ⟨_,dd.mapOf,h _ _ (I.tok _) ?_⟩;rw[l];exact(rel.val k).getD rfl
 . subst ey;cases (show u=Value.ref b from ry);obtain⟨z,hd,xs,rel,dd⟩:=um I.hok e;refine Cg Wn dd.typeIs axK (axL _ _) (meetsH_dict_get (tS X.prog X.w) a b hd) ⟨y6 hu,k,xs,wC I.hok eb,dd,h _ _ (I.tok _) ?_⟩;rw[l];exact(rel.val k).getD rfl
end
def aeo(td ty:TE):TE:=fun σ H Q=>td σ H fun x H1=>∃a,x=.ref a/\HK H1 a/\ty σ H1 fun y H2=>∃o,c8 H2 a y o/\Q (o.getD .non) H2
def aep(td ty:TE):TE:=fun σ H Q=>td σ H fun x H1=>∃a,x=.ref a/\HK H1 a/\ty σ H1 fun y H2=>∃kvs k v,H2 a=some (.dK kvs)/\y=kV k/\bh kvs k=some v/\Q v (ah H2 a (.dK (pM kvs k)))
section
variable {X:Cx}{o e f:Expr}{apos cM:Pos}{td ty tx:TE}
theorem HL(hu:X.A.units+64<cLine)(ho:PE X o td)(he:PE X e ty)(m:M1 X o "get" apos e cM):PE X (.Call (.Attribute o "get" apos) [e] [] cM) (aeo td ty):=by
 intro pins s σ H Q I h;refine wpAny_Call_method m.base m.few m.line GS Wn PySem.F.type_dict_get (thn (ho pins s σ H _ I h) fun u s1 aeq=>aeq.elim fun x aer=>aer.elim fun H1 aes=>aes.elim fun I1 aet=>aet.elim fun rx aeu=>aeu.elim fun a aev=>aev.elim fun ex aew=>aew.elim fun d q1=>?_);subst ex;obtain rfl:u=Value.ref a:=rx;obtain⟨t1,t2,_⟩:=PH I1 d;refine⟨t1,t2,?_⟩;rw[m.trees];refine NU rfl (NW (We (thn (he pins s1 σ H1 _ I1 q1) fun iv s2 aex=>aex.elim fun y aey=>aey.elim fun H2 aez=>aez.elim fun I2 aeA=>aeA.elim fun ry aeB=>aeB.elim fun ov aeC=>aeC.elim fun g q2=>Wd ?_)));exact aen hu I2 g ry fun w' s3 I3 gC=>⟨_,H2,I3,gC,q2⟩
theorem PJ(ho:PE X o td)(he:PE X e ty)(m:M1 X o "pop" apos e cM):PE X (.Call (.Attribute o "pop" apos) [e] [] cM) (aep td ty):=by
 intro pins s σ H Q I h;refine wpAny_Call_method m.base m.few m.line GS axJ PySem.F.type_dict_pop (thn (ho pins s σ H _ I h) fun u s1 aeD=>aeD.elim fun x aeE=>aeE.elim fun H1 aeF=>aeF.elim fun I1 aeG=>aeG.elim fun rx aeH=>aeH.elim fun a aeI=>aeI.elim fun ex aeJ=>aeJ.elim fun d q1=>?_);subst ex;obtain rfl:u=Value.ref a:=rx;obtain⟨t1,t2,_⟩:=PH I1 d;refine⟨t1,t2,?_⟩;rw[m.trees];refine NU rfl (NW (We (thn (he pins s1 σ H1 _ I1 q1) fun iv s2 aeK=>aeK.elim fun y aeL=>aeL.elim fun H2 aeM=>aeM.elim fun I2 aeN=>aeN.elim fun ry aeO=>aeO.elim fun kvs aeP=>aeP.elim fun k aeQ=>aeQ.elim fun v aeR=>aeR.elim fun ea aeS=>aeS.elim fun ey aeT=>aeT.elim fun l q2=>Wd ?_)));subst ey;exact acU I2 ea ry l (.inl rfl) fun w' s3 I3 gC=>⟨v,_,I3,gC,q2⟩
end
section
variable {X:Cx}{pins:Po}{σ:St}{H:Hp}{s:Shared}{a:Addr}{kvs:List (ar×V)} {A:Around}{E:VP}
theorem aeU{Q:VP}(I:Inv X pins σ H s)(e:Rd H a (.dK kvs))(h:∀p s',H p=none->Inv X pins σ (ah H p (.dK kvs)) s'->Q (.ref p) s'):wpAny (model X.prog X.w) A (call (.type "dict") [.ref a]) Q E s:=by
 obtain⟨z,hd,vs,rel,dd⟩:=rm I.hok e;refine kt_call_dict hd dd (by rw[←rel.length];exact z) fun h' gj hs=>?_;refine h _ _ (I.hok.fresh (aI _)) (I.laid (a:=s.heap.objs.size) (o:=.dK kvs) (t':=s.toks) (fun b q hq=>?_) (aI _) (wE z (yA.mpr (ge (cS I.big))) rel gj));exact(hs.2 b (cS (bG hq))).trans (bX _ hq)
end
section
variable {X:Cx}{pins:Po}{σ:St}{H:Hp}{s:Shared}{a:Addr}{y:V}{u:Value}{A:Around}{E:VP}
end
end L2
namespace Att
open PySem PySem.W PySem.Calls PyProof.Rows
theorem aeV{P:Params}{h:Heap}:∀(ns:List Int) (vs:Lw),WellAll P h vs (ns.map WData.int)->IntsAre vs ns:=by
 intro ns
 induction ns with
 | nil=>
  intro vs w;rw[Cf]at w;cases w;exact .nil
 | cons n ns ih=>
  intro vs w;rw[bL]at w;cases w with
  | cons a b=>
   cases a;exact .cons _ _ (ih _ b)
theorem aeW{l:OpenLaw}{n:Nat}(hn:l.most=some n){P:Params}{h:Heap}{args:List WData}{vals:Lw}
 (CW:l.row.toRowW.claim.pre args=true) (HM:WellAll P h vals args) :
 ∃a vs ns,vals=[Value.ref a]/\args=[WData.list (ns.map WData.int)]/\h.get? a=some { cls:=.type "list",data:=.seq vs.toArray }/\IntsAre vs ns/\ns.length<=n:=by
 have hsh:WShape.hasAll [] args [.list .int]=true:=(pre_splitW CW).1;have hc:l.pre.holds [] { args:=args } = true:=(pre_splitW CW).2;obtain⟨d,r,rfl,h1,h2⟩:=hasAllW_cons hsh;obtain rfl:=hasAllW_nil h2;obtain⟨xs,rfl,h3⟩:=hasW_list h1;obtain⟨ns,rfl⟩:=items_int h3;have hlen:ns.length<=n:=by
  unfold OpenLaw.pre at hc;have h4:(WTm.not (.lt (.lit (.int (n:Int))) (.len (.arg 0)))).holds [] { args:=[.list (ns.map .int)] } = true:=by
   have h4:=(holds_andW hc).1;rw[hn]at h4;exact h4
  have h5:=condW_of h4 (w_not (w_lt w_lit (w_len_list (w_arg rfl))));rw[ao]at h5;refine Nat.le_of_not_lt fun q=>?_;have q':(n:Int)<((ns.length:Nat):Int):=by omega
  first
   | (rw[bN q']at h5;exact absurd h5 (by decide))
   | (simp at h5;omega)
 cases HM with
 | cons w1 w2=>
  cases w2;cases w1 with
  | list ho qY=>exact⟨_,_,ns,rfl,rfl,ho,aeV ns _ qY,hlen⟩
theorem aeY(l:OpenLaw)(args:List WData):l.row.toRowW.claim.post args (.bool true) args=true:=
 postW_of (r:=l.row.toRowW) (X:=(true == true))
  (show WShape.has [] (.bool true) .bool=true by first | rfl | decide | simp[WShape.has,WShape.arms,WShape.armsAll])
  (show(WTm.eq .res (.lit (.bool true))).value [] { args:=args,res:=some (.bool true),after:=args } = some (.bool (true == true)) from w_eq_bool (w_res rfl) w_lit) rfl
theorem aeZ{l:OpenLaw}{n:Nat}{q:Program}{loose:Ls}{XP:(Mv)->Heap->Prop}{YP:World->Heap->Prop}{d:DefRec}
 (hn:l.most=some n) (zx:d.params.defaults=[])
 (call:∀(w:World) (s₀ s₁:Shared) (mg mb:Mv) (fa:Addr) (o:Obj) (pm cd doc:Value) (a:Addr) (vs:Lw) (ns:List Int),
  Ground q loose [] XP w s₀ mg mb s₁.heap->YP w s₁.heap ->
  s₁.heap.get? fa=some o->o.data=.func (docDef d.name d.params d.body d.scope pm cd doc)->s₁.heap.CodeRec cd d.name->mg d.name=some (.ref fa) ->
  s₁.heap.get? a=some { cls:=.type "list",data:=.seq vs.toArray }->IntsAre vs ns->ns.length<=n->s₁.gens = #[] ->
  codeAny (model l.prog w) callerA (.call (.ref fa) ⟨[.ref a],[]⟩) (fun r s'=>r=.ok (.ret (.bool true))/\OldK s₁.heap s'.heap/\s'.os=s₁.os/\AllBare s'.gens) s₁) :
 WalkO q loose XP YP l.row.toRowW d [] (fun f vs=>PySem.call f vs):=by
 intro w s₀ s₁ mg mb G Y fa o pm cd doc dV kV ho hd iw hD zy hg args vals as CW ayh hrd HM hlo;obtain rfl:dV=.none:=Dflts.none hD zx;obtain rfl:kV=.none:=Dflts.noKw hD;obtain⟨a,vs,ns,rfl,rfl,uq,hints,hlen⟩:=aeW hn CW HM;refine enter_call (qM (call w s₀ s₁ mg mb fa o pm cd doc a vs ns G Y ho (fd_plain hd) iw zy uq hints hlen hg) fun r s' hq=>?_);obtain⟨rfl,h2,h3,h4⟩:=hq;exact⟨.inl ⟨.bool true,.bool true,[],rfl,fun _=>rfl,.bool true,aeY l _,fun _=>⟨List.Pairwise.nil,fun _ hm=>(nomatch hm)⟩⟩,h2,h3,h4⟩
section
variable {prog:Program}{w:World}{A:Around}{E:VP}{s:Shared}{K:Frag}
end
end Att
namespace L2
open PySem PySem.Spec PyProof.Rows
theorem PL:∀{vs:Lw}{ns:List Int},IntsAre vs ns->aQ (ns.map V.int) vs
 | _,_,.nil=>.nil
 | _,_,.cons n t h=>.cons ⟨t,rfl⟩ (PL h)
def lj(s:Stmt)(j:Nat):Stmt:=match s with
 | .ClassDef _ _ _ body _ _ _ _ _ _ _=>body.getD j (.Pass ⟨0,0,0,0⟩)
 | _=>.Pass ⟨0,0,0,0⟩
def eh(s:Stmt):Arguments:=match s with
 | .FunctionDef _ a _ _ _ _ _ _ _ _=>a
 | _=>{ posonlyargs:=[],args:=[],vararg:=none,kwonlyargs:=[],kw_defaults:=[],kwarg:=none,defaults:=[] }
def da(s:Stmt):List Stmt:=match s with
 | .FunctionDef _ _ b _ _ _ _ _ _ _=>b
 | _=>[]
def aA(s:Stmt):Scope:=match s with
 | .FunctionDef _ _ _ _ _ _ sc _ _ _=>sc
 | _=>{ kind:=.function,names:=[],isGenerator:=false,isCoroutine:=false }
abbrev ak:iz:=fun _ _ _ _ _ _=>False
abbrev E0:XK:=fun _ _ _=>False
theorem fA{X:Cx}:nQ ak X E0:=fun _ _ _ _ _ _ _ h=>h.elim
structure aU(K:Fg)(x qual:Str)(st:Stmt)(f:Addr)(fd:Fy):Prop where
 ex:∃(oc:Value) (od:Oa) (kV doc pm:Value) (an:Oa) (aw ct:Value) (iU:Array (Option Value)),
  fd=PySem.W.fnOf x qual (eh st) (da st) (aA st) .none kV doc pm an aw ct/\K.lookup f=some ⟨oc,od,.func fd,iU⟩/\PySem.W.codeIn K aw qual=true
 kp:PySem.W.keepIn K (.ref f)=true
section
variable {P:Program}{w:World}{K:Fg}{mg:Mv}{base:Heap}
theorem aU.ok{x qual:Str}{st:Stmt}{f:Addr}{fd:Fy}{N ps:Ls}{k:Nat}{sp:Sp}(F:aU K x qual st f fd)(S:aP N ps (aA st))(len:∀vs H Q E,sp vs H Q E->vs.length=ps.length)
 (pH:∀(aw:Value) (A:Around) (outer:List Env) (s:Shared) (H:Hp) (vs:Lv) (Q:VK) (E:XK),ce k (A.deeper (envOfC qual (aA st) s.heap.objs.size f aw))->sp vs H Q E ->
  ∃t,cn (kY ak P w K mg base N qual (aA st) f aw A outer s H E).nox (da st) t/\t { nx:=fun _ H'=>Q .non H',rt:=Q } (start N vs) H):aj P w K mg base ak (k+1) f fd ps sp:=by
 obtain⟨oc,od,kV,doc,pm,an,aw,ct,iU,rfl,lk,iw⟩:=F.ex;refine Hz lk iw S len fun A outer s H vs Q E hr kZ=>?_;obtain⟨t,h,q⟩:=pH aw A outer s H vs Q E hr kZ;exact⟨t,h.nox,q⟩
theorem aU.binds{x qual:Str}{st:Stmt}{f:Addr}{fd:Fy}{ps:Ls}(F:aU K x qual st f fd)
 (h:∀(kV doc pm:Value) (an:Oa) (aw ct:Value) (us:Lw),us.length=ps.length->bindArgs (PySem.W.fnOf x qual (eh st) (da st) (aA st) .none kV doc pm an aw ct) ⟨us,[]⟩=pure (ps.zip us)):Binds K fd ps []:=by
 obtain⟨oc,od,kV,doc,pm,an,aw,ct,iU,rfl,lk,iw⟩:=F.ex;exact .all (h kV doc pm an aw ct)
theorem jX{x qual:Str}{st:Stmt}{f:Addr}{oc:Value}{od an:Oa}{iU:Array (Option Value)}{kV doc pm aw ct:Value}(l:K.lookup f=some ⟨oc,od,.func (PySem.W.fnOf x qual (eh st) (da st) (aA st) .none kV doc pm an aw ct),iU⟩)
 (c:PySem.W.codeIn K aw qual=true) (k:PySem.W.keepIn K (.ref f)=true):aU K x qual st f (PySem.W.fnOf x qual (eh st) (da st) (aA st) .none kV doc pm an aw ct):=⟨⟨oc,od,kV,doc,pm,an,aw,ct,iU,rfl,l,c⟩,k⟩
end
theorem bZ{n:Nat}(h:n<=1000):n<sizeLine:=Wo h (by decide)
section
variable {X:Cx}
theorem pv(i:Nat){x:Str}{pos:Pos}(hN:X.N[i]?=some x:=by rfl)(hv:CA X.env.scope x:=by first | exact Or.inl rfl | exact Or.inr (Or.inl rfl) | exact Or.inr (Or.inr rfl))(hd:(x == ("__debug__":Str))=false:=by decide)
 (iw:(x == ("__classdict__":Str))=false:=by decide):PE X (.Name x pos) (wt i):=XC hN hv hd iw
end
theorem gk{A B:Prop}(h:B):if false=true then A else B:=by
 rw[ai cK];exact h
theorem gY{A B:Prop}(h:A):if true=true then A else B:=by
 rw[al rfl];exact h
theorem bA{c A B:Prop}[Decidable c](h1:c->A)(h2:¬c->B):if c then A else B:=by
 by_cases h:c
 . rw[al h];exact h1 h
 . rw[ai h];exact h2 h
theorem ae0{c A B:Prop}[Decidable c](hc:c)(h:B):if (!decide c)=true then A else B:=by
 rw[bN hc];exact gk h
def ag(H H':Hp):Prop:=∀b o,H b=some o->H' b=some o
theorem ag.refl(H:Hp):ag H H:=fun _ _ h=>h
theorem ag.trans{H H1 H2:Hp}(a:ag H H1)(b:ag H1 H2):ag H H2:=fun c o h=>b c o (a c o h)
theorem ag.free{H H':Hp}(e:ag H H'){l:Addr}(h:H' l=Option.none):H l=Option.none:=by
 cases q:H l with
 | none=>rfl
 | some o=>
  rw[e l o q]at h;cases h
theorem ag.seq{K:Fg}{H H':Hp}{a:Addr}{xs:Lv}(e:ag H H')(h:ae K H a xs):ae K H' a xs:=by
 rcases h with(h | ⟨o,h⟩) | h
 . exact .inl (.inl (e _ _ h))
 . exact .inl (.inr ⟨o,e _ _ h⟩)
 . exact .inr h
section
variable {κ:Type} [DecidableEq κ]
end
section
variable {K:Fg}
theorem ayk {us : Lw} {n : Nat} (h : us.length = n + 1) : ∃ u r, us = u :: r ∧ r.length = n := by
  cases us with
  | nil=>cases h
  | cons u r=>exact⟨u,r,rfl,Nat.succ.inj h⟩
theorem ae1{us:Lw}{l:Ls}(hl:l.length=1)(h:us.length=l.length):∃u0,us=[u0]:=by
 rw[hl]at h
 match us,h with
 | [u0],_=>exact⟨u0,rfl⟩
theorem aU.binds1{x qual:Str}{st:Stmt}{f:Addr}{fd:Fy}{l:Ls}(F:aU K x qual st f fd)
 (h:∀(kV doc pm:Value) (an:Oa) (aw ct u0:Value),bindArgs (PySem.W.fnOf x qual (eh st) (da st) (aA st) .none kV doc pm an aw ct) ⟨[u0],[]⟩=pure (l.zip [u0])) (hl:l.length=1:=by rfl):Binds K fd l []:=
 F.binds (ps:=l) fun kV doc pm an aw ct us e=>by
  obtain⟨u0,rfl⟩:=ae1 hl e;exact h kV doc pm an aw ct u0
theorem ae2{us:Lw}{l:Ls}(hl:l.length=2)(h:us.length=l.length):∃u0 u1,us=[u0,u1]:=by
 rw[hl]at h
 match us,h with
 | [u0,u1],_=>exact⟨u0,u1,rfl⟩
theorem aU.binds2{x qual:Str}{st:Stmt}{f:Addr}{fd:Fy}{l:Ls}(F:aU K x qual st f fd)
 (h:∀(kV doc pm:Value) (an:Oa) (aw ct u0 u1:Value),bindArgs (PySem.W.fnOf x qual (eh st) (da st) (aA st) .none kV doc pm an aw ct) ⟨[u0,u1],[]⟩=pure (l.zip [u0,u1])) (hl:l.length=2:=by rfl):Binds K fd l []:=
 F.binds (ps:=l) fun kV doc pm an aw ct us e=>by
  obtain⟨u0,u1,rfl⟩:=ae2 hl e;exact h kV doc pm an aw ct u0 u1
theorem ae3{us:Lw}{l:Ls}(hl:l.length=3)(h:us.length=l.length):∃u0 u1 u2,us=[u0,u1,u2]:=by
 rw[hl]at h
 match us,h with
 | [u0,u1,u2],_=>exact⟨u0,u1,u2,rfl⟩
theorem aU.binds3{x qual:Str}{st:Stmt}{f:Addr}{fd:Fy}{l:Ls}(F:aU K x qual st f fd)
 (h:∀(kV doc pm:Value) (an:Oa) (aw ct u0 u1 u2:Value),bindArgs (PySem.W.fnOf x qual (eh st) (da st) (aA st) .none kV doc pm an aw ct) ⟨[u0,u1,u2],[]⟩=pure (l.zip [u0,u1,u2])) (hl:l.length=3:=by rfl):Binds K fd l []:=
 F.binds (ps:=l) fun kV doc pm an aw ct us e=>by
  obtain⟨u0,u1,u2,rfl⟩:=ae3 hl e;exact h kV doc pm an aw ct u0 u1 u2
theorem ae4{us:Lw}{l:Ls}(hl:l.length=4)(h:us.length=l.length):∃u0 u1 u2 u3,us=[u0,u1,u2,u3]:=by
 rw[hl]at h
 match us,h with
 | [u0,u1,u2,u3],_=>exact⟨u0,u1,u2,u3,rfl⟩
theorem aU.binds4{x qual:Str}{st:Stmt}{f:Addr}{fd:Fy}{l:Ls}(F:aU K x qual st f fd)
 (h:∀(kV doc pm:Value) (an:Oa) (aw ct u0 u1 u2 u3:Value),bindArgs (PySem.W.fnOf x qual (eh st) (da st) (aA st) .none kV doc pm an aw ct) ⟨[u0,u1,u2,u3],[]⟩=pure (l.zip [u0,u1,u2,u3])) (hl:l.length=4:=by rfl):Binds K fd l []:=
 F.binds (ps:=l) fun kV doc pm an aw ct us e=>by
  obtain⟨u0,u1,u2,u3,rfl⟩:=ae4 hl e;exact h kV doc pm an aw ct u0 u1 u2 u3
theorem ae5{us:Lw}{l:Ls}(hl:l.length=8)(h:us.length=l.length):∃u0 u1 u2 u3 u4 u5 u6 u7,us=[u0,u1,u2,u3,u4,u5,u6,u7]:=by
 rw[hl]at h
 match us,h with
 | [u0,u1,u2,u3,u4,u5,u6,u7],_=>exact⟨u0,u1,u2,u3,u4,u5,u6,u7,rfl⟩
theorem aU.binds8{x qual:Str}{st:Stmt}{f:Addr}{fd:Fy}{l:Ls}(F:aU K x qual st f fd)
 (h:∀(kV doc pm:Value) (an:Oa) (aw ct u0 u1 u2 u3 u4 u5 u6 u7:Value),bindArgs (PySem.W.fnOf x qual (eh st) (da st) (aA st) .none kV doc pm an aw ct) ⟨[u0,u1,u2,u3,u4,u5,u6,u7],[]⟩=pure (l.zip [u0,u1,u2,u3,u4,u5,u6,u7])) (hl:l.length=8:=by rfl):Binds K fd l []:=
 F.binds (ps:=l) fun kV doc pm an aw ct us e=>by
  obtain⟨u0,u1,u2,u3,u4,u5,u6,u7,rfl⟩:=ae5 hl e;exact h kV doc pm an aw ct u0 u1 u2 u3 u4 u5 u6 u7
end
end L2
set_option maxHeartbeats 4000000
namespace L2
open PySem PySem.Spec PyProof.Rows
theorem fU{H:Hp}{p:Addr}{o:HO}(h:H p=none):ag H (ah H p o):=fun b u e=>by
 rw[aW (aL e h)];exact e
theorem fV{H0 H:Hp}{p:Addr}{o:HO}(s:ag H0 H)(h:H0 p=none):ag H0 (ah H p o):=fun b u e=>by
 rw[aW (aL e h)];exact s b u e
theorem ae6{K:Fg}{H H':Hp}{a:Addr}{xs:Lv}(e:ag H H')(h:aX K H a xs):aX K H' a xs:=by
 rcases h with(h | ⟨o,h⟩) | h
 . exact .inl (.inl (e _ _ h))
 . exact .inl (.inr ⟨o,e _ _ h⟩)
 . exact .inr h
abbrev gm (x:Str):Prop:=PyData.strOk x=true
theorem wF{x:Str}:gm x↔∀c∈x.cps.toList,c<0x110000:=by
 unfold gm PyData.strOk;rw[Array.all_eq_true'];simp
theorem CY{x y:Str}(hx:gm x)(hy:gm y):gm (x++y):=by
 rw[wF]at *;intro c hc;have e:(x++y).cps.toList=x.cps.toList++y.cps.toList:=by
  show(x.cps++y.cps).toList=_;simp
 rw[e,bS]at hc;exact hc.elim (hx c) (hy c)
theorem jY(x y:Str):(x++y).length=x.length+y.length:=by
 show(x.cps++y.cps).size=_;rw[Array.size_append];rfl
theorem pO(c:Nat):(⟨#[c]⟩:Str).length=1:=rfl
section
variable {X:Cx}
def ae7:V->Option Int->Option Int->Hp->VK->Prop:=fun x lo hi H Q=>∃z,x=.str z/\z.length<=sizeLine/\Q (.str (Txt.slice z lo hi)) H
theorem CZ:uf X ae7:=by
 intro pins s σ H x v vl vu lo hi sl Q I rx hs pl pu h;obtain⟨z,rfl,hz,q⟩:=h;obtain⟨t,rfl⟩:=rx;refine⟨"str",_,PyProof.Rows.slot_str_getitem.lookup,Ce _ _ _,?_⟩;obtain⟨o,ho,hc,hd⟩:=hs;have fin:∀(l u:Option (Int×Tok)),vl=partValue l->vu=partValue u->lo=l.map (·.1)->hi=u.map (·.1)->wpAny (model X.prog X.w) X.A (getItem (.str z t) (.ref sl)) (EP X pins σ Q) X.xe s:=by
  intro l u e1 e2 e3 e4;subst e1 e2 e3 e4;refine wpAny_getItem_str_slice (l:=l) (u:=u) (st:=none) ⟨o,ho,hc,hd⟩ rfl ?_;exact post_val_or_str ⟨cu (Txt.slice_le z _ _) hz,fun t' k=>⟨.str (Txt.slice z (l.map (·.1)) (u.map (·.1))),H,I.tok _,⟨_,rfl⟩,q⟩⟩
 cases pl with
 | none=>
  cases pu with
  | none=>exact fin none none rfl rfl rfl rfl
  | int j tj=>exact fin none (some (j,tj)) rfl rfl rfl rfl
 | int i ti=>
  cases pu with
  | none=>exact fin (some (i,ti)) none rfl rfl rfl rfl
  | int j tj=>exact fin (some (i,ti)) (some (j,tj)) rfl rfl rfl rfl
end
end L2
namespace HT
open PySem PyProof.Rows
section
open PySem.SeqAt
open PySem.AutoSeq1 (wpAny_loadPart')
open PySem.MeetsSeq PySem.MeetsSeq2 PySem.MeetsSeq3
end
section
variable {prog:Program}{w:World}{A:Around}{E:VP}{s:Shared}
end
end HT
namespace L2
open PySem PySem.Spec PyProof.Rows
section
variable {X:Cx}
end
mutual
inductive DV (K:Fg) (H:Hp):V->PySem.W.Dat->Prop
 | non:DV K H .non .none
 | int (i:Int):DV K H (.int i) (.int i)
 | str (x:Str):DV K H (.str x) (.str x)
 | tup {a:Addr}{xs:Lv}{ds:List PySem.W.Dat}:aX K H a xs->gZ K H xs ds->DV K H (.ref a) (.tuple ds)
 | lst {a:Addr}{xs:Lv}{ds:List PySem.W.Dat}:ae K H a xs->gZ K H xs ds->DV K H (.ref a) (.list ds)
inductive gZ (K:Fg) (H:Hp):Lv->List PySem.W.Dat->Prop
 | nil:gZ K H [] []
 | cons {x:V}{d:PySem.W.Dat}{xs:Lv}{ds:List PySem.W.Dat}:DV K H x d->gZ K H xs ds->gZ K H (x::xs) (d::ds)
end
theorem PM{K:Fg}{H:Hp}:∀ns:List Int,gZ K H (ns.map V.int) (ns.map PySem.W.Dat.int)
 | []=>.nil
 | n::ns=>.cons (.int n) (PM ns)
theorem PN{K:Fg}{H:Hp}:∀xs:Ls,gZ K H (xs.map V.str) (xs.map PySem.W.Dat.str)
 | []=>.nil
 | n::ns=>.cons (.str n) (PN ns)
section
variable {X:Cx}{pins:Po}{σ:St}{H:Hp}{s:Shared}
mutual
theorem DV.reads(I:Inv X pins σ H s):∀{x:V}{d:PySem.W.Dat}{u:Value},DV X.K H x d->RelV x u->∃as,Reads s.heap u (PySem.W.kqdP d) as
 | _,_,_,.non,r=>by cases r;exact⟨_,Reads.none⟩
 | _,_,_,.int i,r=>by obtain⟨t,rfl⟩:=r;exact⟨_,Reads.int i t⟩
 | _,_,_,.str x,r=>by obtain⟨t,rfl⟩:=r;exact⟨_,Reads.str x t⟩
 | _,_,_,.tup h q,r=>by
  cases r;obtain⟨its,rv,⟨o,e,c,n,d⟩,_⟩:=I.tuple h;obtain⟨as,z⟩:=gZ.reads I q rv;rw[PySem.W.kqdP];exact⟨as,reads_tuple_at e c d (by simpa using z)⟩
 | _,_,_,.lst h q,r=>by
  cases r;obtain⟨its,rv,⟨o,n,e,c,_,d⟩,_⟩:=I.list h;obtain⟨as,z⟩:=gZ.reads I q rv;rw[PySem.W.kqdP];exact⟨_,reads_list_at e c d (by simpa using z)⟩
theorem gZ.reads(I:Inv X pins σ H s):∀{xs:Lv}{ds:List PySem.W.Dat}{us:Lw},gZ X.K H xs ds->aQ xs us->∃as,ReadsAll s.heap us (PySem.W.kqdPs ds) as
 | _,_,_,.nil,.nil=>⟨_,ReadsAll.nil⟩
 | _,_,_,.cons q qs,.cons r rs=>by
  obtain⟨as,z⟩:=DV.reads I q r;obtain⟨bs,y⟩:=gZ.reads I qs rs;rw[PySem.W.kqdPs];exact⟨_,ReadsAll.cons z y⟩
end
end
theorem rp{d:PySem.W.Dat}(h:PySem.W.kqdOk 9 d=true):SeqAt.shaped (PySem.W.kqdP d)=true:=by
 have l:=PySem.W.kqd_lay 9 d h;unfold SeqAt.shaped;rw[l.1,GU];exact bN (cu l.2 (by decide))
section
variable {X:Cx}
theorem C0(hu:X.A.units+64<cLine):cL X (compareOp .Eq) (fun x y H Q=>∃d e,DV X.K H x d/\DV X.K H y e/\PySem.W.kqdOk 9 d=true/\PySem.W.kqdOk 9 e=true/\∀b:Bool,(b=true↔d=e)->Q (.bl b) H):=by
 intro pins s σ H x y v u Q I rx ry h;obtain⟨d,e,hd,he,od,oe,q⟩:=h;obtain⟨as,ra⟩:=hd.reads I rx;obtain⟨bs,rb⟩:=he.reads I ry;exact eq_dataH ra rb (rp od) (rp oe) hu ⟨.bl _,H,I,rfl,q _ (yK 9 d e 9 od oe)⟩
theorem PP(hu:X.A.units+64<cLine):cL X (compareOp .NotEq) (fun x y H Q=>∃d e,DV X.K H x d/\DV X.K H y e/\PySem.W.kqdOk 9 d=true/\PySem.W.kqdOk 9 e=true/\∀b:Bool,(b=true↔d=e)->Q (.bl (!b)) H):=by
 intro pins s σ H x y v u Q I rx ry h;obtain⟨d,e,hd,he,od,oe,q⟩:=h;obtain⟨as,ra⟩:=hd.reads I rx;obtain⟨bs,rb⟩:=he.reads I ry;exact ne_dataH ra rb (rp od) (rp oe) hu ⟨.bl _,H,I,rfl,q _ (yK 9 d e 9 od oe)⟩
end
section
variable {X:Cx}{st:Stmt}{rest:List Stmt}{t u:TS}
def ae8(M:St->Hp->Prop)(t u:TS):TS:=fun D σ H=>t { D with nx:=M } σ H/\∀σ' H',M σ' H'->u D σ' H'
theorem C1(M:St->Hp->Prop)(h1:PS X st t)(h2:cn X rest u):cn X (st::rest) (ae8 M t u):=by
 intro pins s σ H D I h;refine Wa (thn (h1 pins s σ H { D with nx:=M } I h.1) fun f s1 q=>?_);cases f with
 | next=>
  obtain⟨σ',H',I',q⟩:=q;exact h2 pins s1 σ' H' D I' (h.2 σ' H' q)
 | ret v=>exact q
 | brk=>exact q
 | cont=>exact q
end
theorem iA{H:Hp}{p t:Addr}{o:HO}(h:ah H p o t=none):t≠p/\H t=none:=by
 by_cases e:t=p
 . subst e;rw[aH]at h;cases h
 . exact⟨e,by rw[aW e]at h;exact h⟩
theorem fit{a b:Str}(ha:a.length<=100)(hb:b.length<=100):a.length+b.length<=sizeLine:=wg (bZ (by omega))
theorem jZ{a:Str}(ha:a.length<=100):a.length<=sizeLine:=wg (bZ (by omega))
theorem HN{α:Type}{xs:List α}{r:Int}(h0:0<=r)(h1:r<xs.length):∃v,cy xs r=some v/\xs[r.toNat]?=some v:=by
 obtain⟨n,rfl⟩:∃n:Nat,r=n:=⟨r.toNat,by omega⟩;have hn:n<xs.length:=by omega
 have e:xs[n]?=some (xs[n]'hn):=by simp
 exact⟨_,HB e,by simpa using e⟩
theorem PQ{ns:List Int}{r:Int}(h0:0<=r)(h1:r<ns.length):∃z,cy (ns.map V.int) r=some (V.int z)/\ns[r.toNat]?=some z:=by
 obtain⟨v,e,e2⟩:=HN (xs:=ns.map V.int) h0 (by rw[ao];exact h1);rw[dH]at e2;cases q:ns[r.toNat]? with
 | none=>rw[q]at e2;cases e2
 | some z=>
  rw[q]at e2;cases e2;exact⟨z,e,rfl⟩
def bD(K:Fg)(mg:Mv)(x:Str)(st:Stmt):Prop:=∃f fd,mg x=some (.ref f)/\aU K x x st f fd/\PySem.W.keepIn K (.ref f)=true
theorem bH{K:Fg}{h:Heap}{mg:Mv}{x:Str}{st:Stmt}{f:Addr}{od an:Oa}{sl:Array (Option Value)}{oc kV dc pm cd ct:Value}(X:K.In h)(G:h.Ns mainGlobals mg)
 (a:PySem.W.nsIn K mainGlobals x=some (some (.ref f))) (l:K.lookup f=some ⟨oc,od,.func (PySem.W.fnOf x x (eh st) (da st) (aA st) .none kV dc pm an cd ct),sl⟩) (c:PySem.W.codeIn K cd x=true) (k:PySem.W.keepIn K (.ref f)=true) :
 bD K mg x st:=⟨f,_,yL X G a,jX l c k,k⟩
abbrev PR (ifs:List Expr) (env:Env):Sem Bool:=
 forIn ifs true fun c r=>if r=true then do let ok ←isTrue c env (eval c env);pure (ForInStep.yield ok) else pure (ForInStep.yield r)
def gE(X:Cx)(ifs:List Expr)(t:TT):Prop:=
 ∀(pins:Po) (s:Shared) (σ:St) (H:Hp) (Q:Bool->Hp->Prop),Inv X pins σ H s->t σ H Q->wpAny (model X.prog X.w) X.A (PR ifs X.env) (TP X pins σ Q) X.xe s
def ur:TT:=fun _ H Q=>Q true H
theorem iB{X:Cx}:gE X [] ur:=fun _ _ _ H _ I h=>wpAny_tests_nil ⟨H,I,h⟩
theorem nY{X:Cx}{c:Expr}{t:TT}(h:PT X c t):gE X [c] t:=fun pins s σ H Q I q=>wpAny_tests_one (h pins s σ H Q I q)
section
variable {prog:Program}{w:World}{A:Around}{R:Result->Shared->Prop}{s:Shared}
theorem ae9{elt target iter:Expr}{ifs:List Expr}{scope:Scope}{pos:Pos}{it acc:Value}{env:Env}(I:Nat->Shared->Prop)
 (turn:∀n s,I n s->wpAny (model prog w) A (pyNext it) (fun r s₁=>match r with
  | none=>R (.ok .next) s₁
  | some v=>wpAny (model prog w) A (letOwnedTupleGo target it v) (fun _ s₀=>wpAny (model prog w) A (assign target env v) (fun _ s₂=>
   wpAny (model prog w) A (PR ifs env) (fun ok s₃=>
    if ok=true then wpAny (model prog w) A (eval elt env) (fun x s₄=>
     wpAny (model prog w) A (call (.builtin "list.append") [acc,x]) (fun _ s₅=>∃m,m<n/\I m s₅) (notedBy (model prog w) A env fun e s'=>R (.error e) s') s₄) (notedBy (model prog w) A env fun e s'=>R (.error e) s') s₃
    else∃m,m<n/\I m s₃) (notedBy (model prog w) A env fun e s'=>R (.error e) s') s₂) (notedBy (model prog w) A env fun e s'=>R (.error e) s') s₀) (notedBy (model prog w) A env fun e s'=>R (.error e) s') s₁) (notedBy (model prog w) A env fun e s'=>R (.error e) s') s)
 (n:Nat) (h:I n s):codeAny (model prog w) A (.compLoop (.ListComp elt [⟨target,iter,ifs,0⟩] scope pos) 0 it acc env) R s:=by
 refine codeAny_loop rfl I (fun n s hI=>?_) n h;show wpAny _ A ((compTurn (.ListComp elt [⟨target,iter,ifs,0⟩] scope pos) 0 it acc env).onRaise (fun x=>do noteFrame x env;theTreesLotGoes x)) _ _ s;refine wpAny_noted ?_;rw[compTurn_list];refine af (Wf (af (d8 (turn n s hI) (fun r s₁ h₁=>?_) fun _ _ h'=>h')));cases r with
 | none=>exact au h₁
 | some v=>
  refine af (d8 h₁ (fun _ s₀ h₀=>?_) fun _ _ h'=>h');refine af (d8 h₀ (fun _ s₂ h₂=>af (d8 h₂ (fun ok s₃ h₃=>?_) fun _ _ h'=>h')) fun _ _ h'=>h');cases ok with
  | false=>exact au ⟨rfl,h₃⟩
  | true=>
   exact af (af (d8 h₃ (fun x s₄ h₄=>af (d8 h₄ (fun _ s₅ h₅=>au (au ⟨rfl,h₅⟩)) fun _ _ h'=>h')) fun _ _ h'=>h'))
end
theorem afa{P:Program}{w:World}{H:Hp}{h1 h2:Heap}{C:Addr}(ok:cj P w H h1)(sb:Heap.SameBut C h1 h2)(hn:H C=none):cj P w H h2:=fun b ob e=>by
 refine(ok b ob e).stay (fun c w' hc q=>(sb.2 c ?_).trans q) (fun _ q=>q) fun _ _ q=>q;rintro rfl
 rcases hc with rfl | hc
 . rw[hn]at e;cases e
 . rw[hn]at hc;cases hc
def mv(J:It)(g:TG)(tt:TT)(te:TE)(D:Addr)(Qd:Hp->Prop)(W:Nat->Nat->St->Hp->Prop):Prop:=
 ∀i m σ H,W i m σ H->(J.stop i H/\Qd H)\/(J.go i H/\∀x H2,J.yld i H x H2->g x σ H2 fun σ3 H3=>tt σ3 H3 fun ok H4=>
  if ok=true then te σ3 H4 fun y H5=>∃ys,H5 D=some (.lst ys)/\ys.length<sizeLine/\∃m',m'<m/\W (i+1) m' σ3 (ah H5 D (.lst (ys++[y])))
  else∃m',m'<m/\W (i+1) m' σ3 H4)
section
variable {X:Cx}{pins:Po}{σ:St}{H3:Hp}{s3:Shared}
end
def g0(env:Env):List (Str×NameKind)->List (Str×Addr)->List (Str×Addr)
 | [],cs=>cs
 | (n,k)::r,cs=>if k=.free then g0 env r ((n,(env.cells.lookup n).getD 0)::cs) else g0 env r cs
theorem afb{scope:Scope}{env:Env}(h:∀y∈scope.names,y.2=.free->∃c,env.cells.lookup y.1=some c):closureFor scope env=pure (g0 env scope.names []):=by
 unfold closureFor;generalize scope.names=l at h;have go:∀(l:List (Str×NameKind)) (cs:List (Str×Addr)),(∀y∈l,y.2=.free->∃c,env.cells.lookup y.1=some c) ->
  (forIn l cs fun(x:Str×NameKind) (r:List (Str×Addr))=>(if (x.2 == .free)=true then do let y ←cellOf env x.1;pure (ForInStep.yield ((x.1,y)::r)) else pure (ForInStep.yield r):Sem (ForInStep (List (Str×Addr)))))=pure (g0 env l cs):=by
  intro l
  induction l with
  | nil=>intro cs _;rfl
  | cons x l ih=>
   intro cs h;obtain⟨n,k⟩:=x;rw[List.forIn_cons]
   by_cases e:k=.free
   . subst e;obtain⟨c,hc⟩:=h _ bK rfl;have hc:env.cells.lookup n=some c:=hc;have e1:cellOf env n=pure c:=by unfold cellOf;rw[hc]
     simp only[e1,g0,hc,we,Option.getD_some,beq_self_eq_true,pure_bind];exact ih _ fun y hy=>h y (bR _ hy)
   . have e':(k == NameKind.free)=false:=by simpa using e
     simp only[e',g0,e,nv,qK,pure_bind];exact ih _ fun y hy=>h y (bR _ hy)
 have:=go l [] h;simpa using this
theorem HP{env:Env}:∀{l:List (Str×NameKind)}{cs:List (Str×Addr)}{x:Str}{c:Addr},(∀y∈l,y.2=.free->∃c,env.cells.lookup y.1=some c)->(∀x c,cs.lookup x=some c->env.cells.lookup x=some c) ->
 (g0 env l cs).lookup x=some c->env.cells.lookup x=some c
 | [],_,_,_,_,hc,e=>hc _ _ e
 | (n,k)::l,cs,x,c,h,hc,e=>by
  unfold g0 at e;have h':∀y∈l,y.2=.free->∃c,env.cells.lookup y.1=some c:=fun y hy=>h y (bR _ hy);split at e
  . refine HP h' (fun z d hz=>?_) e;rename_i hk;rw[Wp]at hz;split at hz
    . rename_i q;obtain⟨d',hd⟩:=h (n,k) bK hk;have hd:env.cells.lookup n=some d':=hd;have:z=n:=by simpa using q
      subst this;rw[hd]at hz ⊢;exact hz
    . exact hc _ _ hz
  . exact HP h' hc e
theorem HQ{env:Env}:∀{l:List (Str×NameKind)}{cs:List (Str×Addr)}{x:Str},(cs.lookup x).isSome=true->((g0 env l cs).lookup x).isSome=true
 | [],_,_,h=>h
 | (n,k)::l,cs,x,h=>by
  unfold g0;split
  . refine HQ ?_;rw[Wp];split
    . rfl
    . exact h
  . exact HQ h
theorem HR{env:Env}{x:Str}:∀{l:List (Str×NameKind)}{cs:List (Str×Addr)},(x,NameKind.free)∈l->((g0 env l cs).lookup x).isSome=true
 | (n,k)::l,cs,h=>by
  unfold g0
  rcases aY.mp h with e | e
  . cases e;rw[al rfl];refine HQ ?_;rw[Wp];simp
  . split
    . exact HR e
    . exact HR e
def dq(X:Cx)(N:Ls)(sc:Scope)(s₀:Shared)(H₀:Hp)(C:Addr)(ex:List Addr):Cx where
 prog:=X.prog
 w:=X.w
 K:=X.K
 mg:=X.mg
 base:=X.base
 A:=X.A
 N:=N
 s₀:=s₀
 H₀:=H₀
 env:=compEnvC sc (g0 X.env sc.names []) C X.env
 outer:=X.stack
 stack:=X.stack
 ex:=ex
 fn:=fun _=>false
 calm:=X.calm
 pn:=[]
 xe:=fun _ _=>False
structure lm(X:Cx)(own bf:Ls)(js:List Nat)(sc:Scope):Prop where
 kind:sc.kind=.function
 nocell:∀y∈sc.names,y.2≠.cell
 names:∀y∈sc.names,y.2=.local->sc.names.lookup y.1=some .local
 nd:(own++bf).Nodup
 frees:∀y∈sc.names,y.2=.free->y.1∈bf
 slots:js.map (fun j=>X.N[j]?)=bf.map some
 outer':bf.map X.env.kindOf=bf.map fun _=>some NameKind.cell
 capk':bf.map (fun x=>(relabel sc X.env).names.lookup x)=bf.map fun _=>some NameKind.cell
theorem HS{α β:Type}{f:α->β}{c:β}:∀{l:List α},l.map f=l.map (fun _=>c)->∀x∈l,f x=c
 | [],_,_,h=>nomatch h
 | y::l,e,x,h=>by
  rw[bL,bL]at e;injection e with e1 e2
  rcases aY.mp h with q | q
  . rw[q];exact e1
  . exact HS e2 x q
theorem lm.outer{X:Cx}{own bf:Ls}{js:List Nat}{sc:Scope}(S:lm X own bf js sc):∀x∈bf,X.env.kindOf x=some .cell:=HS S.outer'
theorem lm.capk{X:Cx}{own bf:Ls}{js:List Nat}{sc:Scope}(S:lm X own bf js sc):∀x∈bf,(relabel sc X.env).names.lookup x≠some .local:=fun x hx h=>by
 rw[HS S.capk' x hx]at h;cases h
def compStart(n:Nat)(js:List Nat)(σ:St):St:=List.replicate n none++js.map fun j=>(σ[j]?).join
def HU(wi:TI)(n:Nat)(js:List Nat)(g:TG)(tt:TT)(te:TE):TE:=fun σ H Q=>wi σ H fun J H1=>∀D,H1 D=none ->
 ∃W:Nat->Nat->St->Hp->Prop,(∃m,W 0 m (compStart n js σ) (ah H1 D (.lst [])))/\mv J g tt te D (fun H'=>Q (.ref D) H') W
section
variable {X:Cx}{pins:Po}{σ:St}{H3:Hp}{s3:Shared}
theorem PU{sc:Scope}{env:Env}{x:Str}{k:NameKind}(h:(relabel sc env).names.lookup x=some k):k=.local\/k=.globalImplicit\/(x,k)∈sc.names\/(x,NameKind.free)∈sc.names:=by
 have hm:=Cd h;unfold relabel at hm;obtain⟨⟨n,k'⟩,hn,e⟩:=cD.mp hm;dsimp only at e;split at e
 . rename_i c;cases e;simp only[gR,kK]at c;obtain⟨⟨c,_⟩,_⟩:=c;subst c;exact .inr (.inr (.inr hn))
 . cases e;exact .inr (.inr (.inl hn))
theorem afc{elt tg iter:Expr}{ifs:List Expr}{sc:Scope}{pos:Pos}{own bf:Ls}{js:List Nat}{g:TG}{tt:TT}{te:TE}{it C D:Addr}{fp:List Addr}{tn:Nat->Heap->Prop}{J:It}{h4:Heap}{tk:Nat}{m:Mv}
 {W:Nat->Nat->St->Hp->Prop}{Qd:Hp->Prop}{m0:Nat} (S:lm X own bf js sc) (hc:X.calm=true) (I3:Inv X pins σ H3 s3) (T:q9 X.prog X.w X.K tg J fp it tn) (tZ:tn 0 s3.heap) (f3:∀b∈fp,eU X pins H3 b)
 (eC:C=s3.heap.objs.size) (j0:h4.Ns C m) (hk:∀b o,s3.heap.get? b=some o->h4.get? b=some o)
 (hg:PG (dq X (own++bf) sc s3 H3 C fp) tg g) (ht:gE (dq X (own++bf) sc s3 H3 C fp) ifs tt) (he:PE (dq X (own++bf) sc s3 H3 C fp) elt te)
 (w0:W 0 m0 (compStart own.length js σ) H3) (ask:mv J g tt te D Qd W) :
 codeAny (model X.prog X.w) X.A (.compStart (.ListComp elt [⟨tg,iter,ifs,0⟩] sc pos) 0 (.ref it) (.ref D) (compEnvC sc (g0 X.env sc.names []) C X.env))
  (fun r s'=>r=.ok .next/\∃m' H',s'.heap.Ns C m'/\s'.os=s3.os/\AllBare s'.gens/\Un (cE X.stack) fp H3 H' s3.heap s'.heap/\cj X.prog X.w H' s'.heap/\H' C=none/\Qd H') { s3 with heap:=h4,toks:=tk }:=by
 have afd:∀y∈sc.names,y.2=.free->∃c,X.env.cells.lookup y.1=some c:=fun y hy e=>I3.ok.has _ (.inl (S.outer _ (S.frees y hy e)));have rq:∀(x:Str) (c:Addr),(dq X (own++bf) sc s3 H3 C fp).env.cells.lookup x=some c->X.env.cells.lookup x=some c:=fun x c e=>
  HP afd (fun x c h=>by cases (show([]:List (Str×Addr)).lookup x=some c from h)) e
 have ltC:∀(x:Str) (c:Addr),X.env.cells.lookup x=some c->c<s3.heap.objs.size:=fun x c e=>by
  obtain⟨v,q⟩:=I3.cell x c e;exact q.lt
 have C2:∀b∈fp,b<s3.heap.objs.size:=fun b hb=>by
  obtain⟨o,e,_⟩:=T.obj 0 _ tZ b hb;exact bG e
 have C3:(dq X (own++bf) sc s3 H3 C fp).Ok:=by
  refine⟨I3.ok.mod,S.kind,I3.ok.glob,I3.ok.blt,Cc eC.symm,fun x y c e1 e2=>I3.ok.inj x y c (rq x c e1) (rq y c e2),fun x hx=>?_,(fun x c z _=>nomatch (show false=true from z)),I3.ok.hd,I3.ok.frames,.inl rfl,fun b hb=>?_,
   I3.bs,cu I3.ok.bsz I3.sz,fun b o e hb=>?_,fun b hb hs=>?_,I3.stack,I3.stkFree⟩
  . have gW:(relabel sc X.env).names.lookup x=some .cell\/(relabel sc X.env).names.lookup x=some .free:=hx;have hm:(x,NameKind.free)∈sc.names:=by
     rcases gW with z | z
     . rcases PU z with q | q | q | q
       . cases q
       . cases q
       . exact absurd rfl (S.nocell _ q)
       . exact q
     . rcases PU z with q | q | q | q
       . cases q
       . cases q
       . exact q
       . exact q
    exact NR.mp (HR hm)
  . refine⟨?_,fun x c e=>(f3 b hb).2.2.2.2.1 x c (rq x c e)⟩;show b≠C;rw[eC];exact cS (C2 b hb)
  . rcases(f3 b hb).2.2.2.1 with z | z
    . exact I3.ok.noex b o e z
    . have h1:b<X.base.objs.size:=bG e;exact absurd (gc h1 (cu I3.ok.bsz z)) (pq _)
  . obtain⟨_,f1,f2,_⟩:=f3 b hb
    rcases aY.mp (I3.stkSub b hs) with z | z
    . exact f1 z
    . exact f2 z
 have hCn:H3 C=none:=by rw[eC];exact I3.hok.fresh (aI _)
 have sl:js.length=bf.length:=by have:=eN List.length S.slots;simpa using this
 have I4:Inv (dq X (own++bf) sc s3 H3 C fp) [] (compStart own.length js σ) H3 { s3 with heap:=h4,toks:=tk }:=by
  refine⟨C3,rfl,I3.bare,Un.kept hk,⟨m,j0,fun i x v e1 e2 hv=>?_⟩,fun x c e=>?_,hCn,fun x c e=>I3.freeC x c (rq x c e),fun p hp=>?_,I3.hok.kept hk,?_⟩
  . have e1:(own++bf)[i]?=some x:=e1;unfold compStart at e2
    by_cases hi:i<own.length
    . rw[Wh (by simpa using hi),axE,al hi]at e2;cases e2
    . rw[GP (by omega)]at e1;rw[GP (by simpa using hi),Wi,dH]at e2;obtain⟨j,hj⟩:∃j,js[i - own.length]?=some j:=by
       cases q:js[i - own.length]? with
       | none=>rw[q]at e2;cases e2
       | some j=>exact⟨j,rfl⟩
      rw[hj]at e2;have e2:(σ[j]?).join=some v:=gz e2;have e3:σ[j]?=some (some v):=by
       cases q:σ[j]? with
       | none=>rw[q]at e2;cases e2
       | some z=>rw[q]at e2;rw[show z=some v from e2]
      have hs:=eN (fun l=>l[i - own.length]?) S.slots;simp only[dH,hj,e1,tL]at hs;have hN:X.N[j]?=some x:=gz hs;have hx:x∈bf:=eg e1;obtain⟨m2,zi,zu⟩:=I3.loc;obtain⟨u,ru,lk⟩:=zu j x v hN e3 (.inr (.inl (S.outer x hx)));refine⟨u,ru,?_⟩
      rcases lk with⟨k1,_⟩ | ⟨_,c,hc1,mw⟩
      . rw[S.outer x hx]at k1;cases k1
      . have hv:CA (relabel sc X.env) x:=hv;have kd:(dq X (own++bf) sc s3 H3 C fp).env.kindOf x=some .cell\/(dq X (own++bf) sc s3 H3 C fp).env.kindOf x=some .free\/(dq X (own++bf) sc s3 H3 C fp).env.kindOf x=some .local:=by
         rcases hv with z | z | z
         . exact .inr (.inr z)
         . exact .inl z
         . exact .inr (.inl z)
        rcases kd with kd | kd | kd
        . obtain⟨c',jT⟩:=C3.has x (.inl kd);have:=rq x c' jT;rw[hc1]at this;cases this;exact .inr ⟨.inl kd,c,jT,mw.keeps hk⟩
        . obtain⟨c',jT⟩:=C3.has x (.inr kd);have:=rq x c' jT;rw[hc1]at this;cases this;exact .inr ⟨.inr kd,c,jT,mw.keeps hk⟩
        . have kd:(relabel sc X.env).names.lookup x=some .local:=kd;exact absurd kd (S.capk x hx)
  . obtain⟨v,q⟩:=I3.cell x c (rq x c e);exact⟨v,q.keeps hk⟩
  . have b8:p∈([]:Po):=hp;cases b8
  . show(compStart own.length js σ).length=(own++bf).length;unfold compStart;rw[bj,Wi,ao,bj,sl]
 have HV:∀{H':Hp},(∀b∈fp,H' b=none)->∀b∈fp,eU (dq X (own++bf) sc s3 H3 C fp) [] H' b:=fun {H'} hn b hb=>by
  refine⟨hn b hb,?_,fun hs=>C3.exfs b hb hs,.inl hb,fun x c e=>(f3 b hb).2.2.2.2.1 x c (rq x c e),fun p hp=>?_⟩
  . show b≠C;rw[eC];exact cS (C2 b hb)
  . have b8:p∈([]:Po):=hp;cases b8
 have PV:tn 0 h4:=T.keep 0 _ _ tZ fun b _ o e=>hk b o e;have loop:codeAny (model X.prog X.w) X.A (.compLoop (.ListComp elt [⟨tg,iter,ifs,0⟩] sc pos) 0 (.ref it) (.ref D) (compEnvC sc (g0 X.env sc.names []) C X.env))
  (fun r s'=>r=.ok .next/\∃m' H',s'.heap.Ns C m'/\s'.os=s3.os/\AllBare s'.gens/\Un (cE X.stack) fp H3 H' s3.heap s'.heap/\cj X.prog X.w H' s'.heap/\H' C=none/\Qd H') { s3 with heap:=h4,toks:=tk }:=by
  refine ae9 (fun n s'=>∃i σ' H',Inv (dq X (own++bf) sc s3 H3 C fp) [] σ' H' s'/\tn i s'.heap/\(∀b∈fp,H' b=none)/\W i n σ' H') ?_ m0 ⟨0,_,H3,I4,PV,fun b hb=>(f3 b hb).1,w0⟩;rintro n s' ⟨i,σ',H',J',gi,PX,w'⟩
  rcases ask i n σ' H' w' with⟨stop,qd⟩ | ⟨go,step⟩
  . refine thn (T.done (dq X (own++bf) sc s3 H3 C fp) rfl rfl rfl hc i [] s' σ' H' _ J' (HV PX) gi stop) fun r s1 aff=>aff.elim fun hr J1=>?_;subst hr;obtain⟨m1,hn1,_⟩:=J1.loc;exact⟨rfl,m1,H',hn1,J1.os,J1.bare,J1.base,J1.hok,J1.free,qd⟩
  . refine thn (T.item (dq X (own++bf) sc s3 H3 C fp) rfl rfl rfl hc i [] s' σ' H' _ J' (HV PX) gi go) fun r s1 afh=>afh.elim fun u afi=>afi.elim fun hr h1=>?_;subst hr;refine thn h1 fun _ s2 afj=>afj.elim fun x afk=>afk.elim fun H5 afl=>afl.elim fun J5 afm=>afm.elim fun r5 afn=>afn.elim fun y5 afo=>afo.elim fun ub Hi=>?_;have J5':=J5.pinned (HV Hi) (T.obj _ _ ub);refine d8 (hg _ s2 σ' H5 x u _ J5' r5 (step x H5 y5)) (fun _ s6 afq=>afq.elim fun σ6 afr=>afr.elim fun H6 afs=>afs.elim fun J6 q6=>?_) (fun _ _ z=>z.elim);refine d8 (ht _ s6 σ6 H6 _ J6 q6) (fun ok s7 aft=>aft.elim fun H7 afu=>afu.elim fun J7 q7=>?_) (fun _ _ z=>z.elim);have again:∀{s9:Shared}{H9:Hp}{m':Nat},Inv (dq X (own++bf) sc s3 H3 C fp) ([]++tY fp s2.heap) σ6 H9 s9->m'<n->W (i+1) m' σ6 H9 ->
     ∃m,m<n/\∃i σ' H',Inv (dq X (own++bf) sc s3 H3 C fp) [] σ' H' s9/\tn i s9.heap/\(∀b∈fp,H' b=none)/\W i m σ' H':=fun {s9 H9 m'} J9 hm w9=>by
     refine⟨m',hm,i+1,σ6,H9,J9.unpinned,T.keep _ _ _ ub fun b hb o e=>(J9.pin (b,o) (eF _ (eF _ (rc hb e)))).1,fun b hb=>?_,w9⟩;obtain⟨o,e,d⟩:=T.obj _ _ ub b hb;exact(J9.pin (b,o) (eF _ (eF _ (rc hb e)))).2.1
    cases ok with
    | false=>
     rw[ai cK]at q7 ⊢;obtain⟨m',hm,w7⟩:=q7;exact again J7 hm w7
    | true=>
     rw[al rfl]at q7 ⊢;refine d8 (he _ s7 σ6 H7 _ J7 q7) (fun y s8 afv=>afv.elim fun yv afw=>afw.elim fun H8 afx=>afx.elim fun J8 afy=>afy.elim fun r8 afz=>afz.elim fun ys afA=>afA.elim fun gr afB=>afB.elim fun hz afC=>afC.elim fun m' afD=>afD.elim fun hm w8=>?_) (fun _ _ z=>z.elim);refine d8 (rj (X:=dq X (own++bf) sc s3 H3 C fp) _ s8 σ6 H8 (.ref D) [yv] (.ref D) [y] (fun v H9=>H9=ah H8 D (.lst (ys++[yv]))) J8 rfl (.cons r8 .nil) ⟨D,ys,yv,rfl,rfl,gr,hz,rfl⟩) (fun _ s9 afE=>afE.elim fun _ afF=>afF.elim fun H9 afG=>afG.elim fun J9 afH=>afH.elim fun _ eH=>?_) (fun _ _ z=>z.elim);subst eH;exact again J9 hm w8
 exact codeAny_compStart_list loop (T.self X.A 0 _ _ _ PV loop)
theorem PY{elt tg iter:Expr}{ifs:List Expr}{sc:Scope}{pos:Pos}{own bf:Ls}{js:List Nat}{g:TG}{tt:TT}{te:TE}{it:Addr}{fp:List Addr}{tn:Nat->Heap->Prop}{J:It}{H2:Hp}{s2:Shared}{use:Option (Value->Sem Unit)}{Qr:VP}{Er:VP}
 {Q:V->Hp->Prop} (S:lm X own bf js sc) (hc:X.calm=true) (I2:Inv X pins σ H2 s2) (T:q9 X.prog X.w X.K tg J fp it tn) (fv:tn 0 s2.heap) (f2:∀b∈fp,eU X pins H2 b)
 (hg:∀s₀ H₀ C ex,PG (dq X (own++bf) sc s₀ H₀ C ex) tg g) (ht:∀s₀ H₀ C ex,gE (dq X (own++bf) sc s₀ H₀ C ex) ifs tt) (he:∀s₀ H₀ C ex,PE (dq X (own++bf) sc s₀ H₀ C ex) elt te)
 (q2:∀D,H2 D=none->∃W:Nat->Nat->St->Hp->Prop,(∃m,W 0 m (compStart own.length js σ) (ah H2 D (.lst [])))/\mv J g tt te D (fun H'=>Q (.ref D) H') W)
 (fin:∀(D C:Addr) (H':Hp) (s':Shared) (m':Mv),s2.heap.objs.size<C->s'.heap.Ns C m'->Inv X pins σ H' s'->H' C=none->Q (.ref D) H'->compPost (model X.prog X.w) X.A Er use Qr (.ref D) C (.ok .next) s') :
 wpAny (model X.prog X.w) X.A (newList []) (fun acc s₃=>wpAny (model X.prog X.w) X.A (newFunctionEnv sc X.env.globals (g0 X.env sc.names []) [] X.env.qual none .none (some X.env)) (fun PZ s₄=>
  codeAny (model X.prog X.w) X.A (.compStart (.ListComp elt [⟨tg,iter,ifs,0⟩] sc pos) 0 (.ref it) acc { PZ with scope:=relabel sc X.env }) (compPost (model X.prog X.w) X.A Er use Qr acc PZ.locals) s₄) Er s₃) Er s2:=by
 have P1:H2 s2.heap.objs.size=none:=I2.fresh;obtain⟨W,⟨m0,w0⟩,ask⟩:=q2 _ P1;have I3:=I2.lnew (ys:=[]) (its:=[]) (t':=s2.toks) .nil (dG _);have C2:∀b∈fp,b<s2.heap.objs.size:=fun b hb=>by
  obtain⟨o,e,_⟩:=T.obj 0 _ fv b hb;exact bG e
 have f3:∀b∈fp,eU X pins (ah H2 s2.heap.objs.size (.lst [])) b:=fun b hb=>by
  refine⟨?_,(f2 b hb).2⟩;rw[aW (cS (C2 b hb))];exact(f2 b hb).1
 refine Ci (hd:=by size_fits) (wpAny_newFunctionEnv S.nocell (by intro y hy;simp at hy) (fun h4 j0 P2=>?_) S.kind);dsimp only at j0 P2 ⊢;have hkp:∀b o,(s2.heap.push { cls:=.type "list",dict:=none,data:=.seq ([]:Lw).toArray }).get? b=some o->h4.get? b=some o:=fun b o e=>
  P2.extBut b o (cS (bG e)) (bX _ e)
 have tZ:tn 0 (s2.heap.push { cls:=.type "list",dict:=none,data:=.seq ([]:Lw).toArray }):=T.keep 0 _ _ fv fun b _ o e=>bX _ e;refine qM (afc (s3:={ s2 with heap:=s2.heap.push { cls:=.type "list",dict:=none,data:=.seq ([]:Lw).toArray } }) (tk:=s2.toks+([]:List (Str×Value)).length) S hc I3 T tZ f3 rfl j0 hkp (hg _ _ _ _) (ht _ _ _ _) (he _ _ _ _) w0 ask) fun r s' hr=>?_;obtain⟨er,m',H',jS,CL,afJ,un',ut,zz,qd⟩:=hr;subst er;have un1:Un (cE X.stack) fp H2 (ah H2 s2.heap.objs.size (.lst [])) s2.heap (s2.heap.push { cls:=.type "list",dict:=none,data:=.seq ([]:Lw).toArray }):=Un.laid (fun b o e=>bX _ e) (aI _) P1;refine fin _ _ H' s' m' ?_ jS (I2.call' (s':=s') (ch:=fp) CL (un1.trans un') ut afJ (fun b hb=>⟨(f2 b hb).2.2.2.1,(f2 b hb).2.1,(f2 b hb).2.2.2.2.1,(f2 b hb).2.2.2.2.2⟩)) zz qd;show s2.heap.objs.size<(s2.heap.push { cls:=.type "list",dict:=none,data:=.seq ([]:Lw).toArray }).objs.size;rw[tG];exact yG _
theorem Inv.letGo{H:Hp}{s:Shared}{C:Addr}{h':Heap}(I:Inv X pins σ H s)(sb:Heap.SameBut C s.heap h')(hn:H C=none)(h0:X.s₀.heap.objs.size<=C)(h1:C≠X.env.locals)(h2:∀x c,X.env.cells.lookup x=some c->c≠C)(h3:∀p∈X.pn++pins,p.1≠C) :
 Inv X pins σ H { s with heap:=h' }:=by
 refine I.call' (s':={ s with heap:=h' }) (ch:=[C]) rfl ⟨fun b o e _ _ hb=>?_,fun b o e _ _ hb=>⟨o.slots,?_⟩,fun _ _ _ n _=>n,fun b o e hb=>⟨o,?_⟩,fun _ _ q=>q,fun _ _ _ q=>q,fun _ ps q=>⟨#[],by rw[q];simp⟩⟩ (afa I.hok sb hn) I.bare (fun b hb=>?_)
 . exact(sb.2 b (by simpa using hb)).trans e
 . exact(sb.2 b (by simpa using hb)).trans e
 . exact(sb.2 b (by simpa using hb)).trans e
 . have:b=C:=by simpa using hb
   subst this;exact⟨.inr h0,h1,h2,h3⟩
theorem Inv.goes{H2 H:Hp}{s2 s:Shared}{σ':St}{C:Addr}{h':Heap}(I2:Inv X pins σ' H2 s2)(hC:s2.heap.objs.size<C)(I:Inv X pins σ H s)(sb:Heap.SameBut C s.heap h')(hn:H C=none):Inv X pins σ H { s with heap:=h' }:=by
 refine I.letGo sb hn (wg (Wo I2.sz hC)) (kJ (yJ I2.lt hC)) (fun x c e z=>?_) (fun p hp z=>?_)
 . obtain⟨v,q⟩:=I2.cell x c e;exact absurd (yJ q.lt hC) (by rw[z];exact pq _)
 . exact absurd (yJ (bG (I2.pin p hp).1) hC) (by rw[z];exact pq _)
theorem lm.clos{own bf:Ls}{js:List Nat}{sc:Scope}(S:lm X own bf js sc)(ok:X.Ok):closureFor sc X.env=pure (g0 X.env sc.names []):=
 afb fun y hy e=>ok.has _ (.inl (S.outer _ (S.frees y hy e)))
theorem gF{elt tg iter:Expr}{ifs:List Expr}{sc:Scope}{pos:Pos}(own bf:Ls)(js:List Nat){wi:TI}{g:TG}{tt:TT}{te:TE}(S:lm X own bf js sc)(hc:X.calm=true)(hi:PI X tg iter wi)
 (hg:∀s₀ H₀ C ex,PG (dq X (own++bf) sc s₀ H₀ C ex) tg g) (ht:∀s₀ H₀ C ex,gE (dq X (own++bf) sc s₀ H₀ C ex) ifs tt) (he:∀s₀ H₀ C ex,PE (dq X (own++bf) sc s₀ H₀ C ex) elt te)
 (hs:∀x,foldedSetIterable iter X.env x=pure x:=by intro _;rfl):PE X (.ListComp elt [⟨tg,iter,ifs,0⟩] sc pos) (HU wi own.length js g tt te):=by
 intro pins s σ H Q I h;rw[eval_ListComp];refine axM (use:=none) rfl hs (S.clos I.ok) S.kind S.names (thn (hi pins s σ H _ I h) fun v s1 h1=>thn h1 fun CH s2 h2=>?_);obtain⟨it,fp,tn,J,H2,e,I2,T,fv,f2,q2⟩:=h2;subst e;refine PY (Q:=Q) S hc I2 T fv f2 hg ht he q2 fun D C H' s' m' hC jS I' zz qd=>?_;exact⟨m',jS,fun h' sb=>⟨.ref D,H',I2.goes hC I' sb zz,rfl,qd⟩⟩
theorem rA{i:Nat}{x:Str}{elt tg iter:Expr}{ifs:List Expr}{sc:Scope}{pos px ps:Pos}(own bf:Ls)(js:List Nat){wi:TI}{g:TG}{tt:TT}{te:TE}(hN:X.N.Nodup)(hx:X.N[i]?=some x)(hl:X.env.scope.names.lookup x=some .local)(S:lm X own bf js sc)(hc:X.calm=true)
 (hi:PI X tg iter wi) (hg:∀s₀ H₀ C ex,PG (dq X (own++bf) sc s₀ H₀ C ex) tg g) (ht:∀s₀ H₀ C ex,gE (dq X (own++bf) sc s₀ H₀ C ex) ifs tt) (he:∀s₀ H₀ C ex,PE (dq X (own++bf) sc s₀ H₀ C ex) elt te)
 (hsw:swapsWith (.ListComp elt [⟨tg,iter,ifs,0⟩] sc pos) (some (.Name x px)) ps.line X.env=pure true:=by rfl)
 (hs:∀x,foldedSetIterable iter X.env x=pure x:=by intro _;rfl):PS X (.Assign [.Name x px] (.ListComp elt [⟨tg,iter,ifs,0⟩] sc pos) ps) (OL (HU wi own.length js g tt te) (mh i)):=by
 intro pins s σ H D I h;rw[exec_Assign_Name_used _ _ _ _ hsw];refine af (Wf (af ?_));show wpAny _ X.A (do let _ ←comprehension (.ListComp elt [⟨tg,iter,ifs,0⟩] sc pos) sc X.env _ (newList []) false (eval iter X.env) (some (assign (.Name x px) X.env))) _ _ s;refine af (d8 (axM (use:=some (assign (.Name x px) X.env)) (Q:=fun _ s'=>∃σ' H',Inv X pins σ' H' s'/\D.nx σ' H') rfl hs (S.clos I.ok) S.kind S.names
  (thn (hi pins s σ H _ I h) fun v s1 h1=>thn h1 fun CH s2 h2=>?_)) (fun _ s' hq=>au (au hq)) fun _ _ e=>e)
 obtain⟨it,fp,tn,J,H2,e,I2,T,fv,f2,q2⟩:=h2;subst e;refine PY (Q:=fun v H1=>mh i v σ H1 D.nx) S hc I2 T fv f2 hg ht he q2 fun D' C H' s' m' hC jS I' zz qd=>?_;show wpAny _ X.A (assign (.Name x px) X.env (.ref D')) _ _ s';refine wpAny_assign_Name (OA (v:=.ref D') I' hN hx (.inl hl) rfl (fun CM I'' afO=>afO.elim fun a afP=>afP.elim fun sb ha=>?_) (.inr hl));have ne:C≠a:=by
  rcases ha with z | z
  . rw[z];exact kJ (yJ I2.lt hC)
  . obtain⟨v,q⟩:=I2.cell x a z;exact kJ (yJ q.lt hC)
 exact⟨m',jS.sameBut sb ne,fun h' sb'=>⟨_,H',I2.goes hC I'' sb' zz,qd⟩⟩
end
section
variable {X:Cx}{e k:Expr}{te tk:TE}{pos p2:Pos}
def afR(K:Fg)(te tk:TE):TE:=fun σ H Q=>te σ H fun x H1=>tk σ H1 fun z H2=>z=.int (-1)/\∃a xs,x=.ref a/\ae K H2 a xs/\∀p,H2 p=none->Q (.ref p) (ah H2 p (.lst xs.reverse))
theorem Paired.rev{α β:Type}{R:α->β->Prop}:∀{xs:List α}{ys:List β},Paired R xs ys->∀{jQ:List α}{bW:List β},Paired R jQ bW->Paired R (xs.reverseAux jQ) (ys.reverseAux bW)
 | _,_,.nil,_,_,h=>h
 | _,_,.cons r rs,_,_,h=>Paired.rev rs (.cons r h)
theorem afS(he:PE X e te)(hk:PE X k tk):PE X (.Subscript e (.Slice none none (some k) p2) pos) (afR X.K te tk):=by
 intro pins s σ H Q I h;refine NS (thn (he pins s σ H _ I h) fun v s1 afT=>afT.elim fun x afU=>afU.elim fun H1 afV=>afV.elim fun I1 afW=>afW.elim fun r1 q1=>?_);refine wpAny_Slice ?_;rw[Wj];refine au (au ?_);rw[evalPart_some];refine thn (hk pins s1 σ H1 _ I1 q1) fun u s3 afX=>afX.elim fun z afY=>afY.elim fun H3 afZ=>afZ.elim fun I3 af0=>af0.elim fun r3 q3=>?_;obtain⟨ez,a,xs,ex,hx,q⟩:=q3;subst ez ex;obtain⟨t,rfl⟩:=r3;cases r1;have I4:Inv X pins σ H3 { s3 with heap:=s3.heap.push { cls:=.type "slice",data:=.fields #[.none,.none,.int (-1) t] } }:=I3.kept (t':=s3.toks) fun b ob q=>bX _ q;obtain⟨its,r,ht,hz⟩:=I4.list hx;have hlen:=r.length;show wpAny (model X.prog X.w) X.A (subscriptTail e (.Slice none none (some k) p2) (.ref a) (.ref s3.heap.objs.size)) (EP X pins σ Q) X.xe { s3 with heap:=s3.heap.push { cls:=.type "slice",data:=.fields #[.none,.none,.int (-1) t] } };refine tail_any (ops:=[.ref a,.ref s3.heap.objs.size]) (T:="list") ht.isList.typeIs Wk.lookup ?_ (by with_unfolding_all rfl);refine axH ht.isList (Heap.IsSliceOf.new ..) .none .none (.int (-1) t) (by decide) ?_ (by rw[fo];omega);rw[PySem.W.krv_pick];refine⟨.ref _,_,I4.laid (t':=s3.toks) (o:=.lst xs.reverse) (fun b ob q=>bX _ q) (aI _) ?_,rfl,q _ (I4.hok.fresh (aI _))⟩;exact⟨by rw[Wq];exact hz,_,0,Paired.rev r .nil,dR _ rfl⟩
end
section
variable {X:Cx}{a b c d:Expr}{ta tb tc td:TE}{pos:Pos}
end
abbrev dL (H:Hp) (o:HO) (Q:V->Hp->Prop):Prop:=∀p H',H p=none->ag H H'->H' p=some o->Q (.ref p) H'
theorem dL.at{H:Hp}{o:HO}{Q:V->Hp->Prop}(h:dL H o Q):∀p,H p=none->Q (.ref p) (ah H p o):=fun p hp=>h p _ hp (fU hp) aH
theorem cL.weak{X:Cx}{f:Value->Value->Sem Value}{r r':R2}(h:cL X f r)(w:∀x y H Q,r' x y H Q->r x y H Q):cL X f r':=fun pins s σ H x y v u Q I rx ry q=>h pins s σ H x y v u Q I rx ry (w _ _ _ _ q)
theorem fN.weak{X:Cx}{f:Value}{r r':Lv->Hp->VK->Prop}(h:fN X f r)(w:∀xs H Q,r' xs H Q->r xs H Q):fN X f r':=fun pins s σ H xs us Q I rx q=>h pins s σ H xs us Q I rx (w _ _ _ q)
theorem uf.weak{X:Cx}{r r':V->Option Int->Option Int->Hp->VK->Prop}(h:uf X r)(w:∀x l u H Q,r' x l u H Q->r x l u H Q):uf X r':=fun pins s σ H x v vl vu lo hi sl Q I rx hs pl pu q=>h pins s σ H x v vl vu lo hi sl Q I rx hs pl pu (w _ _ _ _ _ q)
section
variable {X:Cx}{e k:Expr}{es:List Expr}{te tk:TE}{t:TA}{pos p2:Pos}
def af1:R2:=fun x y H Q=>∃l b xs zs,x=.ref l/\y=.ref b/\H l=some (.lst xs)/\H b=some (.lst zs)/\xs.length+zs.length<=sizeLine/\dL H (.lst (xs++zs)) Q
theorem wG:cL X (binaryOp .Add) af1:=acJ.weak fun x y H Q af2=>af2.elim fun l af3=>af3.elim fun b af4=>af4.elim fun xs af5=>af5.elim fun zs af6=>af6.elim fun a1 af7=>af7.elim fun a2 af8=>af8.elim fun a3 af9=>af9.elim fun a4 aga=>aga.elim fun a5 a6=>⟨l,b,xs,zs,a1,a2,a3,a4,a5,a6.at⟩
def agb(K:Fg):V->Option Int->Option Int->Hp->VK->Prop:=fun x lo hi H Q=>∃a xs,x=.ref a/\ae K H a xs/\dL H (.lst (ug xs lo hi)) Q
theorem wH:uf X (agb X.K):=acr.weak fun x l u H Q agc=>agc.elim fun a agd=>agd.elim fun xs age=>age.elim fun a1 agf=>agf.elim fun a2 a3=>⟨a,xs,a1,a2,a3.at⟩
theorem mx:fN X (.type "list") (fun xs H Q=>∃p ys,xs=[.ref p]/\(ae X.K H p ys\/aX X.K H p ys)/\dL H (.lst ys) Q):=zt.weak fun xs H Q agg=>agg.elim fun p agh=>agh.elim fun ys agi=>agi.elim fun a1 agj=>agj.elim fun a2 a3=>⟨p,ys,a1,a2,a3.at⟩
def agk(t:TA):TE:=fun σ H Q=>t σ H fun xs H1=>xs.length<=sizeLine/\dL H1 (.tup xs) Q
def agl(t:TA):TE:=fun σ H Q=>t σ H fun xs H1=>xs.length<=sizeLine/\dL H1 (.lst xs) Q
theorem PA.thn{t:TA}(h:PA X es t){A:Hp->Prop}{F:VK->Lv->Hp->Prop}{G:VK->Lv->Hp->Prop}(w:∀Q xs H,F Q xs H->G Q xs H):PA X es (fun σ H R=>∃Q:VK,t σ H (F Q)/\R=G Q):=by
 intro pos pins s σ H R I ⟨Q,q,e⟩;subst e;exact L2.thn (h pos pins s σ H _ I q) fun us s1 agm=>agm.elim fun vs agn=>agn.elim fun H1 ago=>ago.elim fun I1 agp=>agp.elim fun r1 q1=>⟨vs,H1,I1,r1,w _ _ _ q1⟩
theorem eV{x1}(h:PA X es t):PE X (.Tuple es x1 pos) (agk t):=by
 intro pins s σ H Q I q;exact O1 (PA.thn (A:=fun _=>True) (F:=fun Q xs H1=>xs.length<=sizeLine/\dL H1 (.tup xs) Q) (G:=fun Q xs H1=>xs.length<=sizeLine/\∀p,H1 p=none->Q (.ref p) (ah H1 p (.tup xs))) h (fun Q xs H agq=>agq.elim fun a b=>⟨a,b.at⟩)) pins s σ H Q I ⟨Q,q,rfl⟩
theorem df(h:PA X es t):PE X (.List es pos) (agl t):=by
 intro pins s σ H Q I q;exact aa2 (PA.thn (A:=fun _=>True) (F:=fun Q xs H1=>xs.length<=sizeLine/\dL H1 (.lst xs) Q) (G:=fun Q xs H1=>xs.length<=sizeLine/\∀p,H1 p=none->Q (.ref p) (ah H1 p (.lst xs))) h (fun Q xs H agr=>agr.elim fun a b=>⟨a,b.at⟩)) pins s σ H Q I ⟨Q,q,rfl⟩
def ags(K:Fg)(te:TE):TE:=fun σ H Q=>te σ H fun x H2=>∃a xs,x=.ref a/\ae K H2 a xs/\dL H2 (.lst xs.reverse) Q
theorem PE.thn{t:TE}{F G:VK->VK}(h:PE X e t)(w:∀Q v H,F Q v H->G Q v H):PE X e (fun σ H R=>∃Q:VK,t σ H (F Q)/\R=G Q):=by
 intro pins s σ H R I ⟨Q,q,e⟩;subst e;exact L2.thn (h pins s σ H _ I q) fun u s1 agt=>agt.elim fun v agu=>agu.elim fun H1 agv=>agv.elim fun I1 agw=>agw.elim fun r1 q1=>⟨v,H1,I1,r1,w _ _ _ q1⟩
theorem P4{j p3 p4}(he:PE X e te):PE X (.Subscript e (.Slice none none (some (.UnaryOp .USub (.Constant (.int 1) j p3) p4)) p2) pos) (ags X.K te):=by
 intro pins s σ H Q I q;refine afS (k:=.UnaryOp .USub (.Constant (.int 1) j p3) p4) (PE.thn (F:=fun Q x H2=>∃a xs,x=.ref a/\ae X.K H2 a xs/\dL H2 (.lst xs.reverse) Q)
  (G:=fun Q x H1=>∃i,V.int 1=.int i/\(V.int (-i)=.int (-1)/\∃a xs,x=.ref a/\ae X.K H1 a xs/\∀p,H1 p=none->Q (.ref p) (ah H1 p (.lst xs.reverse)))) he
  fun Q v H agx=>agx.elim fun a agy=>agy.elim fun xs agz=>agz.elim fun a1 agA=>agA.elim fun a2 a3=>⟨1,rfl,rfl,a,xs,a1,a2,a3.at⟩) (wx wz aq) pins s σ H Q I ⟨Q,q,rfl⟩
end
section
variable {g:TG}{tt:TT}{te:TE}{H1:Hp}{Q:Addr->Hp->Prop}
theorem agB{lo:Int}{n:Nat}{σ0:St}(S:St->Prop)(P:Nat->Lv->Hp->Prop)(s0:S σ0)(st:∀D,H1 D=none->P 0 [] (ah H1 D (.lst [])))
 (turn:∀D i ys σ H (k:St->V->Hp->Prop) (k':St->Hp->Prop),H1 D=none->i<n->S σ->H D=some (.lst ys)->ag H1 H->P i ys H ->
  (∀σ3 y H5,S σ3->ag H H5->ys.length<sizeLine->P (i+1) (ys++[y]) (ah H5 D (.lst (ys++[y])))->k σ3 y H5)->(∀σ3 H4,S σ3->ag H H4->P (i+1) ys H4->k' σ3 H4) ->
  g (.int (lo+i)) σ H fun σ3 H3=>tt σ3 H3 fun ok H4=>if ok=true then te σ3 H4 (k σ3) else k' σ3 H4)
 (done:∀D ys H,H1 D=none->H D=some (.lst ys)->ag H1 H->P n ys H->Q D H) :
 ∀D,H1 D=none->∃W:Nat->Nat->St->Hp->Prop,(∃m,W 0 m σ0 (ah H1 D (.lst [])))/\mv (pG lo n) g tt te D (fun H'=>Q D H') W:=by
 intro D hD;refine⟨fun i m σ H=>m=n - i/\i<=n/\S σ/\∃ys,H D=some (.lst ys)/\ag H1 H/\P i ys H,⟨n,by simp,dG _,s0,[],aH,fU hD,st D hD⟩,?_⟩;rintro i m σ H ⟨rfl,hi,hS,ys,hd,hs,hp⟩
 by_cases aN:i<n
 . refine .inr ⟨aN,fun x H2 hy=>?_⟩;obtain⟨e1,e2⟩:=hy;subst e1 e2;exact turn D i ys σ _ (fun σ3 y H5=>∃ys,H5 D=some (.lst ys)/\ys.length<sizeLine/\∃m',m'<n - i/\(m'=n - (i+1)/\i+1<=n/\S σ3/\∃zs,ah H5 D (.lst (ys++[y])) D=some (.lst zs)/\ag H1 (ah H5 D (.lst (ys++[y])))/\P (i+1) zs (ah H5 D (.lst (ys++[y])))))
    (fun σ3 H4=>∃m',m'<n - i/\(m'=n - (i+1)/\i+1<=n/\S σ3/\∃zs,H4 D=some (.lst zs)/\ag H1 H4/\P (i+1) zs H4)) hD aN hS hd hs hp
    (fun σ3 y H5 a1 a2 a3 a4=>⟨ys,a2 _ _ hd,a3,n - (i+1),by omega,rfl,aN,a1,ys++[y],aH,fV (hs.trans a2) hD,a4⟩)
    (fun σ3 H4 a1 a2 a3=>⟨n - (i+1),by omega,rfl,aN,a1,ys,a2 _ _ hd,hs.trans a2,a3⟩)
 . have e:i=n:=by omega
   subst e;exact .inl ⟨aI _,done D ys H hD hd hs hp⟩
theorem HW{K:Fg}{a:Addr}{xs:Lv}{σ0:St}(hx:ae K H1 a xs)(S:St->Prop)(P:Nat->Lv->Hp->Prop)(s0:S σ0)(st:∀D,H1 D=none->P 0 [] (ah H1 D (.lst [])))
 (turn:∀D i x ys σ H (k:St->V->Hp->Prop) (k':St->Hp->Prop),H1 D=none->xs[i]?=some x->S σ->H D=some (.lst ys)->ag H1 H->P i ys H ->
  (∀σ3 y H5,S σ3->ag H H5->ys.length<sizeLine->P (i+1) (ys++[y]) (ah H5 D (.lst (ys++[y])))->k σ3 y H5)->(∀σ3 H4,S σ3->ag H H4->P (i+1) ys H4->k' σ3 H4) ->
  g x σ H fun σ3 H3=>tt σ3 H3 fun ok H4=>if ok=true then te σ3 H4 (k σ3) else k' σ3 H4)
 (done:∀D ys H,H1 D=none->H D=some (.lst ys)->ag H1 H->P xs.length ys H->Q D H) :
 ∀D,H1 D=none->∃W:Nat->Nat->St->Hp->Prop,(∃m,W 0 m σ0 (ah H1 D (.lst [])))/\mv (nJ K a) g tt te D (fun H'=>Q D H') W:=by
 intro D hD;refine⟨fun i m σ H=>m=xs.length - i/\i<=xs.length/\S σ/\∃ys,H D=some (.lst ys)/\ag H1 H/\P i ys H,⟨xs.length,by simp,dG _,s0,[],aH,fU hD,st D hD⟩,?_⟩;rintro i m σ H ⟨rfl,hi,hS,ys,hd,hs,hp⟩;have q:ae K H a xs:=ag.seq hs hx
 by_cases aN:i<xs.length
 . refine .inr ⟨⟨xs,xs[i],q,by simp[aN]⟩,fun x H2 hy=>?_⟩;obtain⟨e1,e2⟩:=hy;subst e1;exact turn D i x ys σ _ (fun σ3 y H5=>∃ys,H5 D=some (.lst ys)/\ys.length<sizeLine/\∃m',m'<xs.length - i/\(m'=xs.length - (i+1)/\i+1<=xs.length/\S σ3/\∃zs,ah H5 D (.lst (ys++[y])) D=some (.lst zs)/\ag H1 (ah H5 D (.lst (ys++[y])))/\P (i+1) zs (ah H5 D (.lst (ys++[y])))))
    (fun σ3 H4=>∃m',m'<xs.length - i/\(m'=xs.length - (i+1)/\i+1<=xs.length/\S σ3/\∃zs,H4 D=some (.lst zs)/\ag H1 H4/\P (i+1) zs H4)) hD (e2 xs q) hS hd hs hp
    (fun σ3 y H5 a1 a2 a3 a4=>⟨ys,a2 _ _ hd,a3,xs.length - (i+1),by omega,rfl,aN,a1,ys++[y],aH,fV (hs.trans a2) hD,a4⟩)
    (fun σ3 H4 a1 a2 a3=>⟨xs.length - (i+1),by omega,rfl,aN,a1,ys,a2 _ _ hd,hs.trans a2,a3⟩)
 . have e:i=xs.length:=by omega
   subst e;exact .inl ⟨⟨xs,q,aI _⟩,done D ys H hD hd hs hp⟩
theorem zA{lo:Int}{n:Nat}{σ0:St}(S:St->Prop)(P:Nat->Lv->Hp->Prop)(s0:S σ0)(st:∀D,H1 D=none->P 0 [] (ah H1 D (.lst [])))
 (turn:∀D i ys σ H (k:St->V->Hp->Prop),H1 D=none->i<n->S σ->H D=some (.lst ys)->ag H1 H->P i ys H ->
  (∀σ3 y H5,S σ3->ag H H5->ys.length<sizeLine->P (i+1) (ys++[y]) (ah H5 D (.lst (ys++[y])))->k σ3 y H5)->g (.int (lo+i)) σ H fun σ3 H3=>te σ3 H3 (k σ3))
 (done:∀D ys H,H1 D=none->H D=some (.lst ys)->ag H1 H->P n ys H->Q D H) :
 ∀D,H1 D=none->∃W:Nat->Nat->St->Hp->Prop,(∃m,W 0 m σ0 (ah H1 D (.lst [])))/\mv (pG lo n) g ur te D (fun H'=>Q D H') W:=
 agB S P s0 st (fun D i ys σ H k k' a1 a2 a3 a4 a5 a6 a7 _=>turn D i ys σ H k a1 a2 a3 a4 a5 a6 a7) done
theorem zB{K:Fg}{a:Addr}{xs:Lv}{σ0:St}(hx:ae K H1 a xs)(S:St->Prop)(P:Nat->Lv->Hp->Prop)(s0:S σ0)(st:∀D,H1 D=none->P 0 [] (ah H1 D (.lst [])))
 (turn:∀D i x ys σ H (k:St->V->Hp->Prop),H1 D=none->xs[i]?=some x->S σ->H D=some (.lst ys)->ag H1 H->P i ys H ->
  (∀σ3 y H5,S σ3->ag H H5->ys.length<sizeLine->P (i+1) (ys++[y]) (ah H5 D (.lst (ys++[y])))->k σ3 y H5)->g x σ H fun σ3 H3=>te σ3 H3 (k σ3))
 (done:∀D ys H,H1 D=none->H D=some (.lst ys)->ag H1 H->P xs.length ys H->Q D H) :
 ∀D,H1 D=none->∃W:Nat->Nat->St->Hp->Prop,(∃m,W 0 m σ0 (ah H1 D (.lst [])))/\mv (nJ K a) g ur te D (fun H'=>Q D H') W:=
 HW hx S P s0 st (fun D i x ys σ H k k' a1 a2 a3 a4 a5 a6 a7 _=>turn D i x ys σ H k a1 a2 a3 a4 a5 a6 a7) done
end
end L2
namespace Lcp
open PySem
def fB:Ls->Ls->Nat
 | x::xs,y::ys=>if x=y then fB xs ys+1 else 0
 | _,_=>0
theorem HX:∀(xs ys:Ls),fB xs ys<=xs.length/\fB xs ys<=ys.length
 | [],_=>by simp[fB]
 | _::_,[]=>by simp[fB]
 | x::xs,y::ys=>by
  unfold fB;have:=HX xs ys;split<;>simp only[cg]<;>omega
theorem agC{xs ys:Ls}{i:Nat}{x y:Str}(hx:xs[i]?=some x)(hy:ys[i]?=some y):fB (xs.drop i) (ys.drop i)=if x=y then fB (xs.drop (i+1)) (ys.drop (i+1))+1 else 0:=by
 obtain⟨h1,e1⟩:=cW.mp hx;obtain⟨h2,e2⟩:=cW.mp hy;rw[NX h1,NX h2,e1,e2];rfl
theorem P5{xs ys:Ls}{i:Nat}(h:xs.length<=i\/ys.length<=i):fB (xs.drop i) (ys.drop i)=0:=by
 rcases h with h | h
 . rw[Cj.mpr h];rfl
 . rw[Cj.mpr h];cases xs.drop i<;>rfl
def fst(xs ys:Ls):Nat:=fB xs ys
def pP(xs ys:Ls):Nat:=fB (xs.drop (fst xs ys)).reverse (ys.drop (fst xs ys)).reverse
def jn(xs ys:Ls):Nat:=xs.length - pP xs ys
def uu(xs ys:Ls):Ls:=(ys.drop (fst xs ys)).take (ys.length - pP xs ys - fst xs ys)
theorem P6(xs ys:Ls):fst xs ys+pP xs ys<=xs.length/\fst xs ys+pP xs ys<=ys.length:=by
 have h1:=HX xs ys;have h2:=HX (xs.drop (fst xs ys)).reverse (ys.drop (fst xs ys)).reverse;rw[Wq,nw,Wq,nw]at h2;unfold pP;unfold fst at *;omega
theorem P7(xs ys:Ls):(uu xs ys).length=ys.length - pP xs ys - fst xs ys:=by
 obtain⟨l1,l2⟩:=P6 xs ys;unfold uu;rw[eG,nw];omega
theorem P8{xs ys:Ls}{x:Str}(h:x∈uu xs ys):x∈ys:=NY (NZ h)
end Lcp
namespace L2
open PySem PySem.Spec PyProof.Rows
structure Ln(x:Str):Prop where
 ok:gm x
 len:x.length<=60
structure my(xs:Ls):Prop where
 len:xs.length<=20
 all:∀x∈xs,Ln x
theorem agD{x:Str}(h:(PyData.strOk x && decide (x.length<=60))=true):Ln x:=by
 rw[gR]at h;exact⟨h.1,cT h.2⟩
def rB(xs:Ls)(lo hi:Option Int):Ls:=(xs.drop (HT.fQ xs.length 0 lo)).take (HT.fQ xs.length xs.length hi - HT.fQ xs.length 0 lo)
theorem wI(xs:Ls)(lo hi:Option Int):ug (xs.map V.str) lo hi=(rB xs lo hi).map V.str:=by
 unfold ug rB;rw[ao,Wr,List.map_drop]
theorem agE{xs:Ls}{k:Int}(h:0<=k):rB xs none (some k)=xs.take k.toNat:=by
 obtain⟨n,rfl⟩:∃n:Nat,k=n:=⟨k.toNat,by omega⟩;unfold rB;rw[HT.Pd,HT.CO,List.drop_zero,Nat.sub_zero];exact axN.mpr (by simp)
theorem HY{xs:Ls}{k:Int}(h:0<=k):rB xs (some k) none=xs.drop k.toNat:=by
 obtain⟨n,rfl⟩:∃n:Nat,k=n:=⟨k.toNat,by omega⟩;unfold rB;rw[HT.Pd,HT.CO,lY];rw[Ws (by rw[nw];omega)]
 by_cases q:n<=xs.length
 . rw[Nat.min_eq_left q]
 . rw[Nat.min_eq_right (by omega),Cj.mpr (aI _),Cj.mpr (by omega)]
theorem P9{xs:Ls}{i j:Int}(h:0<=i)(h':0<=j):rB xs (some i) (some j)=(xs.drop i.toNat).take (j.toNat - i.toNat):=by
 obtain⟨n,rfl⟩:∃n:Nat,i=n:=⟨i.toNat,by omega⟩;obtain⟨m,rfl⟩:∃n:Nat,j=n:=⟨j.toNat,by omega⟩;unfold rB;rw[HT.CO,HT.CO,lY,lY]
 by_cases q:n<=xs.length
 . rw[Nat.min_eq_left q];exact axN.mpr (by rw[nw];omega)
 . rw[Cj.mpr (show xs.length<=n by omega),Cj.mpr (show xs.length<=min n xs.length by omega)];simp
theorem zC{xs:Ls}{r:Int}(h0:0<=r)(h1:r<xs.length):∃z,cy (xs.map V.str) r=some (V.str z)/\xs[r.toNat]?=some z:=by
 obtain⟨v,e,e2⟩:=HN (xs:=xs.map V.str) h0 (by rw[ao];exact h1);rw[dH]at e2;cases q:xs[r.toNat]? with
 | none=>rw[q]at e2;cases e2
 | some z=>
  rw[q]at e2;cases e2;exact⟨z,e,rfl⟩
theorem C4(xs ys:Ls):xs.map V.str++ys.map V.str=(xs++ys).map V.str:=(dz ..).symm
theorem Qa(xs:Ls):(xs.map V.str).reverse=xs.reverse.map V.str:=List.map_reverse.symm
theorem uv(xs:Ls)(y:Str):xs.map V.str++[V.str y]=(xs++[y]).map V.str:=by rw[dz];rfl
theorem lq{n:Nat}(h:n<=1000):n<=sizeLine:=wg (bZ h)
abbrev dS (xs:Ls):PySem.W.Dat:=.list (xs.map PySem.W.Dat.str)
theorem pQ{K:Fg}{H:Hp}{a:Addr}{xs:Ls}(h:ae K H a (xs.map V.str)):DV K H (.ref a) (dS xs):=.lst h (PN xs)
theorem HZ(n:Nat){xs:Ls}(h:∀x∈xs,Ln x):PySem.W.kqdOk (n+1) (dS xs)=true:=by
 simp only[dS,PySem.W.kqdOk,jk,cD];rintro d ⟨x,hx,rfl⟩;cases n with
 | zero=>exact(h x hx).ok
 | succ n=>exact(h x hx).ok
theorem agF{xs ys:Ls}(h:xs.map PySem.W.Dat.str=ys.map PySem.W.Dat.str):xs=ys:=by
 induction xs generalizing ys with
 | nil=>cases ys with
  | nil=>rfl
  | cons y ys=>cases h
 | cons x xs ih=>cases ys with
  | nil=>cases h
  | cons y ys=>
   rw[bL,bL]at h;injection h with h1 h2
   injection h1 with h1
   rw[h1,ih h2]
theorem agG{xs ys:Ls}:dS xs=dS ys↔xs=ys:=⟨fun h=>agF (PySem.W.Dat.list.inj h),fun h=>by rw[h]⟩
theorem Ia{b:Bool}{xs ys:Ls}(h:b=true↔dS xs=dS ys):b=decide (xs=ys):=by
 rw[agG]at h
 by_cases q:xs=ys
 . rw[bN q];exact h.mpr q
 . rw[cI q];exact qQ.mpr fun z=>q (h.mp z)
theorem agH{c A B:Prop}[Decidable c](hc:¬c)(h:A):if (!decide c)=true then A else B:=by rw[cI hc];exact gY h
end L2
namespace Lcp
open PySem L2
def uw(b x y:Ls):Ls:=(((b.take (fst b x)++uu b x)++(b.drop (jn b x)).take (fst b y - jn b x))++uu b y)++b.drop (jn b y)
def C5(a1 b1 a2 b2:Int):Bool:=if (a1=b1/\a2=b2)/\a1=a2 then false else(decide (b1<=a2) || decide (b2<=a1))
def apart(b o n:Ls):Bool:=C5 (fst b o) (jn b o) (fst b n) (jn b n)
def merge(b o n:Ls):Ls×Option (Ls):=
 if o=b then(n,none) else if n=b\/o=n then(o,none) else if apart b o n=false then(n,some o) else if jn b o<=fst b n then(uw b o n,none) else(uw b n o,none)
theorem agI{b o n:Ls}(h:o=b):merge b o n=(n,none):=by unfold merge;rw[al h]
theorem agJ{b o n:Ls}(h:o≠b)(h':n=b\/o=n):merge b o n=(o,none):=by unfold merge;rw[ai h,al h']
theorem agK{b o n:Ls}(h:o≠b)(h':¬(n=b\/o=n))(h2:apart b o n=false):merge b o n=(n,some o):=by unfold merge;rw[ai h,ai h',al h2]
theorem agL{b o n:Ls}(h:o≠b)(h':¬(n=b\/o=n))(h2:apart b o n=true)(h3:jn b o<=fst b n):merge b o n=(uw b o n,none):=by unfold merge;rw[ai h,ai h',ai (by rw[h2];decide),al h3]
theorem agM{b o n:Ls}(h:o≠b)(h':¬(n=b\/o=n))(h2:apart b o n=true)(h3:¬jn b o<=fst b n):merge b o n=(uw b n o,none):=by unfold merge;rw[ai h,ai h',ai (by rw[h2];decide),ai h3]
theorem Qb{b x y:Ls}{z:Str}(h:z∈uw b x y):z∈b\/z∈x\/z∈y:=by
 unfold uw at h
 rcases bS.mp h with h | h
 . rcases bS.mp h with h | h
   . rcases bS.mp h with h | h
     . rcases bS.mp h with h | h
       . exact .inl (NZ h)
       . exact .inr (.inl (P8 h))
     . exact .inl (NY (NZ h))
   . exact .inr (.inr (P8 h))
 . exact .inl (NY h)
theorem agN{b o n:Ls}{z:Str}(h:z∈(merge b o n).1):z∈b\/z∈o\/z∈n:=by
 unfold merge at h;split at h
 . exact .inr (.inr h)
 . split at h
   . exact .inr (.inl h)
   . split at h
     . exact .inr (.inr h)
     . split at h
       . exact Qb h
       . rcases Qb h with h | h | h
         . exact .inl h
         . exact .inr (.inr h)
         . exact .inr (.inl h)
theorem agO(b o n:Ls):(merge b o n).2=none\/(merge b o n).2=some o:=by
 unfold merge;split
 . exact .inl rfl
 . split
   . exact .inl rfl
   . split
     . exact .inr rfl
     . split<;>exact .inl rfl
theorem agP{b o n:Ls}(h1:∀x∈b,Ln x)(h2:∀x∈o,Ln x)(h3:∀x∈n,Ln x):∀x∈(merge b o n).1,Ln x:=fun x hx=>by
 rcases agN hx with h | h | h
 . exact h1 x h
 . exact h2 x h
 . exact h3 x h
end Lcp
namespace L2
open PySem PySem.Spec PyProof.Rows Lcp
def agQ(H:Hp)(r:V):Option (Ls)->Prop
 | none=>r=.non
 | some z=>∃l2,r=.ref l2/\H l2=some (.lst (z.map V.str))
structure agR(H:Hp)(t l:Addr)(r:V)(m:Ls×Option (Ls)):Prop where
 tup:H t=some (.tup [.ref l,r])
 lst:H l=some (.lst (m.1.map V.str))
 bes:agQ H r m.2
end L2
namespace L2
open PySem PySem.Spec PyProof.Rows
section
variable {X:Cx}
theorem Qc{ys:Ls}:∀{us:Lw},aQ (ys.map V.str) us->StrsAre us ys:=by
 induction ys with
 | nil=>intro us r;rw[Cf]at r;cases r;exact .nil
 | cons n ns ih=>
  intro us r;rw[bL]at r;cases r with
  | cons r1 r2=>
   obtain⟨t,e⟩:=r1;subst e;exact .cons n t (ih r2)
def Qe(K:Fg):V->Lv->Hp->VK->Prop:=fun x vs H Q=>∃sep p ys,x=.str sep/\vs=[.ref p]/\ae K H p (ys.map V.str)/\(ys.map (·.length)).sum+ys.length * sep.length<=16777216/\Q (.str (Txt.join sep ys)) H
theorem wJ:pL X "str.join" (Qe X.K):=by
 intro pins s σ H x xs v us Q I rx rs h;obtain⟨sep,p,ys,rfl,rfl,hp,hz,q⟩:=h;obtain⟨t,rfl⟩:=rx;cases rs with
 | cons r1 r2=>
  cases r1;cases r2;obtain⟨its,r,ht,_⟩:=I.list hp;exact join_list ht.isList (by simpa using Qc r) hz fun t' k=>⟨.str _,H,I.tok k,⟨_,rfl⟩,q⟩
end
section
variable {X:Cx}{K:Fg}
theorem Ib(K:Fg)(h:X.K=K:=by rfl):wB X (Pf K):=h▸fR
theorem agS(K:Fg)(h:X.K=K:=by rfl):wB X (Pg K):=h▸eO
theorem Qf(K:Fg)(h:X.K=K:=by rfl):cL X (compareOp .In) (HC K false):=h▸Pj
def agT(K:Fg):Lv->Hp->VK->Prop:=fun xs H Q=>∃p ys,xs=[.ref p]/\(ae K H p ys\/aX K H p ys)/\Q (.int ys.length) H
theorem agU(K:Fg)(h:X.K=K:=by rfl):fN X (.builtin "len") (agT K):=by subst h;exact gD
end
theorem zD{ys:Ls}{b:Nat}(h:∀y∈ys,y.length<=b):(ys.map (·.length)).sum<=ys.length * b:=by
 induction ys with
 | nil=>simp
 | cons y ys ih=>
  have h1:=h y bK;have h2:=ih fun z hz=>h z (bR _ hz);simp only[bL,List.sum_cons,cg,Wt];omega
theorem C6{ys:Ls}{sep:Str}:(Txt.join sep ys).length<=(ys.map (·.length)).sum+ys.length * sep.length:=by
 have e:Txt.join sep ys=Str.join sep ys:=Ck sep ys;rw[e];cases ys with
 | nil=>exact dG _
 | cons a l=>
  rw[len_join_cons];simp only[cg,Wt];omega
theorem agV:gm Str.empty:=by decide +kernel
theorem Ic{sep:Str}(hs:gm sep):∀{ys:Ls},(∀y∈ys,gm y)->gm (Txt.join sep ys):=by
 intro ys h;have e:Txt.join sep ys=Str.join sep ys:=Ck sep ys;rw[e];clear e
 induction ys with
 | nil=>exact agV
 | cons a l ih=>
  cases l with
  | nil=>exact h a bK
  | cons b r=>
   show gm (a++sep++Str.join sep (b::r));exact CY (CY (h a bK) hs) (ih fun y hy=>h y (bR _ hy))
end L2
namespace Lcp
open PySem L2
end Lcp
namespace L2
open PySem PySem.Spec PyProof.Rows
section
variable {X:Cx}{pins:Po}{σ:St}{H:Hp}{s:Shared}
theorem Inv.rehp{H':Hp}(I:Inv X pins σ H s)(h0:∀b,H b=none->H' b=none)(ht:∀b xs,H b=some (.tup xs)->H' b=some (.tup xs))(hf:∀b o u,X.H₀ b=some (.frz o u)->H' b=some (.frz o u))
 (hb:∀b ps,H b=some (.tbl ps)->H' b=some (.tbl ps)) (hok:cj X.prog X.w H' s.heap):Inv X pins σ H' s:=
 ⟨I.ok,I.os,I.bare,⟨I.base.keep,I.base.slot,fun b o e n hx=>h0 b (I.base.free b o e n hx),I.base.there,fun b xs e=>ht b xs (I.base.tups b xs e),hf,fun b ps e=>(I.base.tbls b ps e).elim fun m q=>⟨m,hb _ _ q⟩⟩,I.loc,I.cell,h0 _ I.free,
  fun x c e=>h0 _ (I.freeC x c e),fun p hp=>⟨(I.pin p hp).1,h0 _ (I.pin p hp).2.1,(I.pin p hp).2.2⟩,hok,I.len⟩
theorem Inv.freeze{d:Addr}{kvs:List (ar×V)}{o:Obj}(I:Inv X pins σ H s)(e:H d=some (.dK kvs))(ho:s.heap.get? d=some o):Inv X pins σ (ah H d (.frz o (.dK kvs))) s:=by
 have ne:∀b u,H b=some u->(∀ks,u≠.dK ks)->b≠d:=fun b u q hu z=>by rw[z,e]at q;cases q;exact hu _ rfl
 refine I.rehp (fun b q=>?_) (fun b xs q=>?_) (fun b o' u q=>?_) (fun b ps q=>?_) fun b u q=>?_
 . rw[aW (fun z=>by rw[z,e]at q;cases q)];exact q
 . rw[aW (ne b _ q (by intro ks z;cases z))];exact q
 . have q:=I.base.frzs b o' u q;rw[aW (ne b _ q (by intro ks z;cases z))];exact q
 . rw[aW (ne b _ q (by intro ks z;cases z))];exact q
 . have up:∀{c:Addr}{w:HO},H c=some w->(∀ks,w≠.dK ks)->ah H d (.frz o (.dK kvs)) c=some w:=fun {c w} hc hw=>by rw[aW (ne c _ hc hw)];exact hc
   by_cases z:b=d
   . subst z;rw[aH]at q;cases q;exact⟨ho,(I.hok b _ e).stay (fun _ _ _ q=>q) (fun c hc=>up hc (by intro ks z;cases z)) fun c xs hc=>up hc (by intro ks z;cases z)⟩
   . rw[aW z]at q;exact(I.hok b _ q).stay (fun _ _ _ q=>q) (fun c hc=>up hc (by intro ks z;cases z)) fun c xs hc=>up hc (by intro ks z;cases z)
theorem Inv.thaw{d:Addr}{kvs:List (ar×V)}{o:Obj}(I:Inv X pins σ H s)(e:H d=some (.frz o (.dK kvs)))(hz:∀o' u,X.H₀ d≠some (.frz o' u)):Inv X pins σ (ah H d (.dK kvs)) s:=by
 have ne:∀b u,H b=some u->(∀o' u',u≠.frz o' u')->b≠d:=fun b u q hu z=>by rw[z,e]at q;cases q;exact hu _ _ rfl
 have up:∀{c:Addr}{w:HO},H c=some w->(∀o' u',w≠.frz o' u')->ah H d (.dK kvs) c=some w:=fun {c w} hc hw=>by rw[aW (ne c _ hc hw)];exact hc
 refine I.rehp (fun b q=>?_) (fun b xs q=>up q (by intro _ _ z;cases z)) (fun b o' u q=>?_) (fun b ps q=>up q (by intro _ _ z;cases z)) fun b u q=>?_
 . rw[aW (fun z=>by rw[z,e]at q;cases q)];exact q
 . have nb:b≠d:=fun z=>hz o' u (z▸q);rw[aW nb];exact I.base.frzs b o' u q
 . by_cases z:b=d
   . subst z;rw[aH]at q;cases q;exact(show ci X.prog X.w H s.heap b (.dK kvs) from (show ci X.prog X.w H s.heap b (.frz o (.dK kvs)) from I.hok b _ e).2).stay (fun _ _ _ q=>q) (fun c hc=>up hc (by intro _ _ z;cases z)) fun c xs hc=>up hc (by intro _ _ z;cases z)
   . rw[aW z]at q;exact(I.hok b _ q).stay (fun _ _ _ q=>q) (fun c hc=>up hc (by intro _ _ z;cases z)) fun c xs hc=>up hc (by intro _ _ z;cases z)
theorem Inv.track{a:Addr}{o:HO}(I:Inv X pins σ H s)(hn:H a=none)(h0:X.s₀.heap.objs.size<=a)(h1:a≠X.env.locals)(h2:∀x c,X.env.cells.lookup x=some c->c≠a)(h3:∀p∈X.pn++pins,p.1≠a)
 (new:ci X.prog X.w (ah H a o) s.heap a o):Inv X pins σ (ah H a o) s:=by
 have up:∀{c:Addr}{w:HO},H c=some w->ah H a o c=some w:=fun {c w} hc=>by rw[aW (aL hc hn)];exact hc
 refine⟨I.ok,I.os,I.bare,⟨I.base.keep,I.base.slot,fun b ob e n hx=>?_,I.base.there,fun b xs e=>up (I.base.tups b xs e),fun b o' u e=>up (I.base.frzs b o' u e),fun b ps e=>(I.base.tbls b ps e).elim fun m q=>⟨m,up q⟩⟩,I.loc,I.cell,?_,fun x c e=>?_,
  fun p hp=>⟨(I.pin p hp).1,?_,(I.pin p hp).2.2⟩,fun b u q=>?_,I.len⟩
 . rw[aW (cS (gc (bG e) h0))];exact I.base.free b ob e n hx
 . rw[aW (ge h1)];exact I.free
 . rw[aW (h2 x c e)];exact I.freeC x c e
 . rw[aW (h3 p hp)];exact(I.pin p hp).2.1
 . by_cases z:b=a
   . subst z;rw[aH]at q;cases q;exact new
   . rw[aW z]at q;exact(I.hok b _ q).stay (fun _ _ _ q=>q) (fun c hc=>up hc) fun c xs hc=>up hc
end
section
variable {X:Cx}
theorem C7:fN X (.type "dict") (fun xs H Q=>∃a kvs,xs=[.ref a]/\H a=some (.dK kvs)/\dL H (.dK kvs) Q):=by
 intro pins s σ H xs us Q I r h;obtain⟨a,kvs,rfl,e,q⟩:=h;obtain⟨u,rfl,ru⟩:=vals1 r;cases ru;exact aeU I (.inl e) fun p s' hp I'=>⟨.ref p,_,I',rfl,q.at p hp⟩
theorem agW{prog:Program}{w:World}{K:Type}[DecidableEq K]{knd:KeyKind prog w K}{A:Around}{E:VP}{s:Shared}{d:Addr}{kvs:List (K×Value)}{k:K}{key dflt:Value}{Q:VP}(kU:knd.is k key=true)(hm:s.heap.DictOf knd d kvs)
 (agX:∀v,valueAt kvs k=some v->Q v { s with toks:=s.toks+1 })
 (agY:valueAt kvs k=none->∀h',h'.DictOf knd d (kvs++[(k,dflt)])->Heap.SameBut d s.heap h'->Q dflt { s with heap:=h',toks:=s.toks+1 }) (hsz:kvs.length<=sizeLine) :
 wpAny (model prog w) A (dictSetDefault d key dflt) Q E s:=by
 have agZ:=hm.mapOf;obtain⟨o,es,ep,ho,hc,hd,hk,hp,hn⟩:=hm;obtain⟨o',es',wp,iS,jT,nI,fC,hf⟩:=agZ;rw[ho]at iS;cases iS;rw[hd]at nI;cases nI;have Ie:es.size<=sizeLine:=by
  have e1:=hp.length;have e2:es.toList.length=es.size:=by simp
  omega
 unfold dictSetDefault
 try with_reducible refine jO ?_
 refine af (knd.pyHash kU ?_);refine af (wpAny_dictFind_of (s:={ s with toks:=s.toks+1 }) kU ho hd hk ?_);have ag0:(es.findIdx? fun e=>knd.is k e.key)=kvs.findIdx? fun kv=>decide (kv.1=k):=by
  rw[←hp.findIdx k];obtain⟨l⟩:=es;simp
 cases hi:es.findIdx? fun e=>knd.is k e.key with
 | some i=>
  have C8:valueAt kvs k=(es[i]?).map (·.val):=by rw[←hf k,findBy_of_findIdx?,hi]
  refine af (N1 (s:={ s with toks:=s.toks+1 }) ho hd ?_);cases he:es[i]? with
  | none=>
   exfalso;have:=Array.findIdx?_eq_some_iff_findIdx_eq.mp hi;have aN:i<es.size:=this.1;rw[qR aN]at he;exact nomatch he
  | some e=>
   rw[he]at C8;exact af (pi (au (agX e.val C8)))
 | none=>
  have C8:valueAt kvs k=none:=by rw[←hf k,findBy_of_findIdx?,hi]
  have ag1:k∉kvs.map (·.1):=not_mem_of_findIdx_none (ag0▸hi);refine af (pi (af (wpAny_updateDictKeys (hz:=Ie) (s:={ s with toks:=s.toks+1 }) ho hd (au (agY C8 _ ⟨_,_,ep+1,Cm _ ho (Obj.isFreed_of_dict (Obj.data_mapDictKeys hd _)),
   hc.mapDictKeys _,Obj.data_mapDictKeys hd _,hk.push kU _,?_,?_⟩ (lZ ..))))))
  . have:=hp.append kU (knd.hash k) dflt;obtain⟨l⟩:=es;simpa using this
  . rw[dz,tN];refine⟨hn,by simp,?_⟩;intro a ha b hb;simp only[bL,Cf,bw]at hb;subst hb;exact fun e=>ag1 (e▸ha)
theorem ag2{prog:Program}{w:World}{K:Type}[DecidableEq K]{knd:KeyKind prog w K}{d:Addr}{k:K}{key:Value}(kU:knd.is k key=true)(hd:(d == sysModules)=false)(dflt:Value) :
 MeetsIn prog w (Builtin.«dict.setdefault» ⟨[.ref d,key,dflt],[]⟩) (fun _ R s=>∃kvs,s.heap.DictOf knd d kvs/\kvs.length<=sizeLine /\
  (∀v,valueAt kvs k=some v->R (.ok (.ret v)) { s with toks:=s.toks+1 }) /\
  (valueAt kvs k=none->∀h',h'.DictOf knd d (kvs++[(k,dflt)])->Heap.SameBut d s.heap h'->R (.ok (.ret dflt)) { s with heap:=h',toks:=s.toks+1 })):=
 .of_wp fun A R s ag3=>ag3.elim fun kvs ag4=>ag4.elim fun hm ag5=>ag5.elim fun hz ag6=>ag6.elim fun h1 h2=>by
  unfold Builtin.«dict.setdefault»;refine af ?_;unfold Builtin.Dict.keyAndDefault;refine af (wpAny_notOrdered_dict hm.typeIs ?_);show wpAny _ _ (pure (d,key,some dflt)) _ _ s;refine au ?_;show wpAny _ _ (if (d == sysModules)=true then _ else(dictSetDefault d key dflt >>= _)) _ _ s;rw[ai (by rw[hd];exact cK)];exact af (agW kU hm (fun v hv=>au ⟨v,rfl,h1 v hv⟩) (fun hn h' Ig zE=>au ⟨dflt,rfl,h2 hn h' Ig zE⟩) hz)
def ag7:V->Lv->Hp->VK->Prop:=fun x vs H Q=>∃a kvs k y,x=.ref a/\vs=[kV k,y]/\H a=some (.dK kvs)/\kvs.length<sizeLine/\(∀z,bh kvs k=some z->Q z H)/\(bh kvs k=none->Q y (ah H a (.dK (cz kvs k y))))
theorem ag8:pL X "dict.setdefault" ag7:=by
 intro pins s σ H x xs v us Q I rx rs h;obtain⟨a,kvs,k,y,rfl,rfl,e,hl,q1,q2⟩:=h;cases rx;cases rs with
 | cons r1 r2=>
  cases r2 with
  | cons r3 r4=>
   cases r4;obtain⟨z,hd,vs,rel,dd⟩:=mq I.hok e;refine Cg axO dd.typeIs PySem.F.entry_dict_setdefault (PySem.F.args_dict_setdefault_3 _ _ _) (ag2 (knd:=cw X.prog X.w) (nX r1) hd _) ⟨vs,dd,by rw[←rel.length];exact z,fun u hu=>?_,fun hn h' gj hs=>?_⟩
   . obtain⟨z',Qg,rz⟩:∃z',bh kvs k=some z'/\RelV z' u:=by
      have:=rel.val k;rw[hu]at this;cases q:bh kvs k with
      | none=>rw[q]at this;cases this
      | some z'=>rw[q]at this;exact⟨z',rfl,this⟩
     exact⟨z',H,I.tok _,rz,q1 z' Qg⟩
   . have Ih:bh kvs k=none:=by
      have:=rel.val k;rw[hn]at this;cases q:bh kvs k with
      | none=>rfl
      | some z'=>rw[q]at this;cases this
     have he:∃q,h'.get? a=some q:=gj.elim fun q ag9=>ag9.elim fun _ aha=>aha.elim fun _ ahb=>ahb.elim fun hq _=>⟨q,hq⟩;have Ii:=rel.put k r3;rw[HG _ Ih]at Ii;refine⟨y,_,wD I (ob:=.dK (cz kvs k y)) (by rw[e];exact True.intro) hs he ?_,r3,q2 Ih⟩;rw[HG _ Ih];refine wE (by rw[bj];simp;omega) hd ?_ gj;have e2:∀b,stored vs k b=vs++[(k,b)]:=by
      intro b;unfold stored;rw[ai];rw[yM];rintro⟨kv,ux,he⟩;have:valueAt vs k≠none:=by
       unfold valueAt;rw[Ne,axP,Wu];exact fun z=>z kv ux he
      exact this hn
     rw[e2]at Ii;exact Ii
end
theorem ahc{k:ar}{v:Value}(h:pB k v=true):RelV (kV k) v:=by
 rcases iP h with⟨i,t,rfl,rfl⟩ | ⟨x,t,rfl,rfl⟩
 . exact⟨t,rfl⟩
 . exact⟨t,rfl⟩
theorem Ij:∀{us:Lw}{ys:Ls},StrsAre us ys->aQ (ys.map V.str) us
 | _,_,.nil=>.nil
 | _,_,.cons x t r=>.cons ⟨t,rfl⟩ (Ij r)
section
variable {prog:Program}{w:World}{A:Around}{E:VP}{s:Shared}
theorem ahd{r:Addr}{Q:VP}(Ik:wpAny (model prog w) A.in1 (collect (.ref r)) (fun us s'=>∃(ys:Ls) (h':Heap) (tk:Nat),s'={ s with heap:=h',toks:=tk }/\StrsAre us ys/\us.length<64 /\
 ∀(h2:Heap) (out:Lw) (bW:Ls) (e:Nat),(∀b o,h'.get? b=some o->h2.get? b=some o)->h2.get? h'.objs.size=some (seqObj "list" out.toArray e)->StrsAre out bW->bW.Perm ys->sortedS bW=true->Q (.ref h'.objs.size) { s with heap:=h2,toks:=tk }) E s) :
 wpAny (model prog w) A (call (.builtin "sorted") [.ref r]) Q E s:=by
 refine axQ kind_sorted plain_sorted entry_sorted (args_sorted1 _) ?_;unfold Builtin.«sorted»;refine af (m:=checkCount "sorted" 1 1 _) (au ?_);refine af (d8 Ik (fun us s' ahe=>ahe.elim fun ys ahf=>ahf.elim fun h' ahg=>ahg.elim fun tk ahh=>ahh.elim fun es ahi=>ahi.elim fun hS ahj=>ahj.elim fun uy fin=>?_) fun _ _ e=>e);subst es;refine af (Wv ?_ (by rw[yF];omega));have pC:(h'.push (seqObj "list" us.toArray 0)).get? h'.objs.size=some (seqObj "list" us.toArray 0):=dR _ rfl;show wpAny _ _ _ _ _ { s with heap:=h'.push (seqObj "list" us.toArray 0),toks:=tk };refine af (jO (tF slot_list_sort ⟨_,pC,rfl⟩ entry_list_sort (list_sort_treeK strKind_oneLt pC hS.keysOf (fun v₁ v₂ rest e=>keyKind_strs (by rw[←e];exact hS)) uy fun gi a1 a2=>⟨_,rfl,?_⟩) (args_list_sort _)));obtain⟨bW,h1,h2,h3⟩:=sorted_out_str hS a1 a2;obtain⟨e,he⟩:=sortedHeap_at (vs:=us) (out:=(arrOf gi).map (·.2)) pC;refine au ⟨_,rfl,fin _ ((arrOf gi).map (·.2)).toList bW e (fun b o q=>?_) (by rw[Ww];exact he) h1 h2 h3⟩;have hb:=bG q;rw[sortedHeap_old (cS hb) (by rw[tG];exact Wx hb)];exact bX _ q
end
section
variable {X:Cx}
theorem Qh{pins:Po}{σ:St}{H:Hp}{s:Shared}{h' h2:Heap}{tk e:Nat}{out:Lw}{bW:Ls}(I:Inv X pins σ H { s with heap:=h',toks:=tk })(k:∀b o,h'.get? b=some o->h2.get? b=some o)
 (he:h2.get? h'.objs.size=some (seqObj "list" out.toArray e)) (hS:StrsAre out bW) (hl:bW.length<=sizeLine):Inv X pins σ (ah H h'.objs.size (.lst (bW.map V.str))) { s with heap:=h2,toks:=tk }:=
 I.laid (s:={ s with heap:=h',toks:=tk }) (t':=tk) k (aI _) ⟨by rw[ao];exact hl,out,e,Ij hS,he⟩
theorem ahk:fN X (.builtin "sorted") (fun xs H Q=>∃p ys,xs=[.ref p]/\ae X.K H p (ys.map V.str)/\ys.length<64/\∀bW,bW.Perm ys->sortedS bW=true->dL H (.lst (bW.map V.str)) Q):=by
 intro pins s σ H xs us Q I r h;obtain⟨p,ys,rfl,hp,uy,q⟩:=h;obtain⟨u,rfl,ru⟩:=vals1 r;cases ru;obtain⟨its,rv,ht,hz⟩:=I.list hp;have hS:StrsAre its ys:=Qc rv;have hlen:=Wy hS;refine sorted_strs ht.isList hS (by omega) fun out bW a1 a2 a3=>?_;obtain⟨e,he⟩:=sortedAll_at s.heap its out;have hl:=a2.length_eq;refine⟨.ref (s.heap.objs.size+1),_,I.laid (t':=s.toks) (a:=s.heap.objs.size+1) (o:=.lst (bW.map V.str)) (fun b o q=>sortedAll_old q) (tH _) ⟨by rw[ao];exact lq (by omega),out.toList,e,Ij a1,by rw[Ww];exact he⟩,rfl,?_⟩;exact(q bW a2 a3).at _ (I.hok.fresh (tH _))
def uz(kvs:List (ar×V))(ks:Ls):Prop:=kvs.map (·.1)=ks.map Sum.inr
theorem Qi{kvs:List (ar×V)}{ks:Ls}(h:uz kvs ks){vs:List (ar×Value)}(rel:KV kvs vs){us:Lw}(hl:us.length=vs.length)(hv:∀(j:Nat) (v:Value),us[j]?=some v->∃k x,vs[j]?=some (k,x)/\(cw X.prog X.w).is k v=true):StrsAre us ks:=by
 induction us generalizing kvs vs ks with
 | nil=>
  have:vs=[]:=Cn.mp hl.symm;subst this;cases rel;unfold uz at h;cases ks with
  | nil=>exact .nil
  | cons a b=>cases h
 | cons u us ih=>
  cases rel with
  | nil=>cases hl
  | @cons p q ps qs r rr=>
   cases ks with
   | nil=>cases h
   | cons a ks=>
    unfold uz at h;rw[bL,bL]at h;injection h with h1 h2
    obtain⟨k,x,e,hk⟩:=hv 0 u rfl;have e:q=(k,x):=gz e;have hp:p.1=k:=by rw[r.1,e]
    have hk:pB k u=true:=hk;rw[←hp,h1]at hk
    rcases iP hk with⟨i,t,e1,e2⟩ | ⟨x',t,e1,e2⟩
    . cases e1
    . cases e1;subst e2;exact .cons _ _ (ih h2 rr (by simpa using hl) fun j v hj=>hv (j+1) v (by simpa using hj))
theorem C9(hc:X.calm=true):fN X (.builtin "sorted") (fun xs H Q=>∃d kvs ks,xs=[.ref d]/\H d=some (.dK kvs)/\uz kvs ks/\kvs.length<64/\∀bW,bW.Perm ks->sortedS bW=true->dL H (.lst (bW.map V.str)) Q):=by
 intro pins s σ H xs us Q I r h;obtain⟨d,kvs,ks,rfl,e,Db,uy,q⟩:=h;obtain⟨u,rfl,ru⟩:=vals1 r;cases ru;obtain⟨z,hd,vs,rel,dd⟩:=mq I.hok e;obtain⟨ep,nZ⟩:=dd.dictAt;have hlen:=rel.length;refine ahd (PySem.W.kdu_collect (PySem.W.kdl_dict (knd:=cw X.prog X.w) (kvs:=vs) (ep:=ep) hd) (I.ok.hd hc) nZ (by omega) fun h' tk acc hk uA=>?_);have hS:StrsAre acc.toList ks:=Qi (X:=X) Db rel (by rw[eT];exact uA.1) fun j v hj=>uA.2 j v (by rw[←wk];exact hj);have zu:acc.toList.length=vs.length:=by rw[eT];exact uA.1
 have I':Inv X pins σ H { s with heap:=h',toks:=tk }:=I.kept hk;refine⟨ks,h',tk,rfl,hS,by omega,fun h2 out bW e' k2 he iC b8 zE=>?_⟩;have hl:=b8.length_eq;have hl3:=Wy hS;exact⟨.ref h'.objs.size,_,Qh I' k2 he iC (lq (by omega)),rfl,(q bW b8 zE).at _ (I'.hok.fresh (aI _))⟩
theorem ahm{pins:Po}{σ:St}{H:Hp}{s:Shared}(hu:X.A.units+65<cLine)(I:Inv X pins σ H s){x:V}{v:Value}{xs:Lv}{us:Lw}{d:PySem.W.Dat}{ds:List PySem.W.Dat}(rx:RelV x v)(rs:aQ xs us)(hd:DV X.K H x d)(pR:gZ X.K H xs ds)(od:PySem.W.kqdOk 9 d=true)(wK:∀e∈ds,PySem.W.kqdOk 9 e=true) :
 ∃e:Value->Bool,(∀y∈us.toArray,SeqAt.EqAt X.A.in1 s y v (e y))/\(us.toArray.any e=true↔d∈ds):=by
 obtain⟨as,ra⟩:=hd.reads I rx
 classical
 have key:∀{xs:Lv}{us:Lw}{ds:List PySem.W.Dat},aQ xs us->gZ X.K H xs ds->∀y∈us,∃e∈ds,∃bs,Reads s.heap y (PySem.W.kqdP e) bs:=by
  intro xs us ds rs
  induction rs generalizing ds with
  | nil=>intro _ y hy;cases hy
  | cons r rr ih=>
   intro pR y hy;cases pR with
   | cons q qs=>
    rcases aY.mp hy with e | e
    . subst e;obtain⟨bs,z⟩:=q.reads I r;exact⟨_,bK,bs,z⟩
    . obtain⟨e',mz,z⟩:=ih qs y e;exact⟨e',bR _ mz,z⟩
 have ahn:∀{xs:Lv}{us:Lw}{ds:List PySem.W.Dat},aQ xs us->gZ X.K H xs ds->∀e∈ds,∃y∈us,∃bs,Reads s.heap y (PySem.W.kqdP e) bs:=by
  intro xs us ds rs
  induction rs generalizing ds with
  | nil=>intro h e he;cases h;cases he
  | cons r rr ih=>
   intro pR e he;cases pR with
   | cons q qs=>
    rcases aY.mp he with z | z
    . subst z;obtain⟨bs,w⟩:=q.reads I r;exact⟨_,bK,bs,w⟩
    . obtain⟨y,hy,w⟩:=ih qs e z;exact⟨y,bR _ hy,w⟩
 refine⟨fun y=>decide (∃bs,Reads s.heap y (PySem.W.kqdP d) bs),fun y hy=>?_,?_⟩
 . obtain⟨e,he,bs,rb⟩:=key rs pR y (by simpa using hy);have x1:=PySem.W.keq_at (A:=X.A) rb ra (rp (wK e he)) (rp od) (by show X.A.units+1+64<cLine;omega);have hb:(PyData.eqv (PySem.W.kqdP e) (PySem.W.kqdP d)=true)↔e=d:=yK 9 e d 9 (wK e he) od;have rC:PyData.eqv (PySem.W.kqdP e) (PySem.W.kqdP d)=decide (∃bs,Reads s.heap y (PySem.W.kqdP d) bs):=by
    by_cases z:e=d
    . rw[hb.mpr z];subst z;exact(bN ⟨bs,rb⟩).symm
    . rw[qQ.mpr fun w=>z (hb.mp w)];refine(cI ?_).symm;rintro⟨wL,Il⟩;have l:=PySem.W.kqd_lay 9 e (wK e he);have eq:=(rb.unique _ _ Il).1;have:PyData.eqv (PySem.W.kqdP e) (PySem.W.kqdP d)=true:=by
       rw[eq];exact(yK 9 d d 9 od od).mpr rfl
      exact z (hb.mp this)
   rw[rC]at x1;exact x1
 . constructor
   . intro h;rw[List.any_toArray,yM]at h;obtain⟨y,hy,hz⟩:=h;obtain⟨wL,Il⟩:=cT hz;obtain⟨e,he,bs,rb⟩:=key rs pR y hy;have eq:=(rb.unique _ _ Il).1;have:PyData.eqv (PySem.W.kqdP e) (PySem.W.kqdP d)=true:=by
      rw[eq];exact(yK 9 d d 9 od od).mpr rfl
     rw[←(yK 9 e d 9 (wK e he) od).mp this];exact he
   . intro h;obtain⟨y,hy,z⟩:=ahn rs pR d h;rw[List.any_toArray,yM];exact⟨y,hy,bN z⟩
def aho(K:Fg)(neg:Bool):R2:=fun x y H Q=>∃p xs d ds,y=.ref p/\ae K H p xs/\DV K H x d/\gZ K H xs ds/\PySem.W.kqdOk 9 d=true/\(∀e∈ds,PySem.W.kqdOk 9 e=true)/\∀b:Bool,(b=true↔d∈ds)->Q (.bl (if neg then !b else b)) H
theorem ahp(hu:X.A.units+65<cLine):cL X (compareOp .NotIn) (aho X.K true):=by
 intro pins s σ H x y v u Q I rx ry h;obtain⟨p,xs,d,ds,rfl,hq,hd,pR,od,wK,q⟩:=h;cases ry;obtain⟨its,r,pl,hz⟩:=I.list hq;obtain⟨e,he,hb⟩:=ahm hu I rx r hd pR od wK;exact SeqAt.notIn_listAt e pl.isList he ⟨.bl _,H,I,rfl,q _ hb⟩
end
def zF(o:Obj):Nat:=match o.data with
 | .dict _ ep=>ep
 | _=>0
def Qj(d:Addr)(kvs:List (ar×V))(o:Obj):It:=
 ⟨fun i H=>H d=some (.frz o (.dK kvs))/\i<kvs.length,fun i H x H'=>∃k v p,kvs[i]?=some (k,v)/\H p=none/\x=.ref p/\H'=ah H p (.tup [kV k,v]),fun i H=>H d=some (.frz o (.dK kvs))/\kvs.length<=i⟩
theorem Qk{P:Program}{w:World}{H:Hp}{h:Heap}{d:Addr}{kvs:List (ar×V)}{o:Obj}(ok:cj P w H h)(e:H d=some (.frz o (.dK kvs))):∃vs,KV kvs vs/\h.DictAt (cw P w) d vs (zF o)/\(d == sysModules)=false:=by
 obtain⟨ho,_,hd,vs,rel,o',es,ep,iS,hc,Dc,r⟩:=(show ci P w H h d (.frz o (.dK kvs)) from ok d _ e);rw[ho]at iS;cases iS;refine⟨vs,rel,⟨o,es,ho,hc,?_,r⟩,hd⟩;unfold zF;rw[Dc]
theorem ahq{kvs:List (ar×V)}{vs:List (ar×Value)}(r:KV kvs vs){i:Nat}{k:ar}{v:V}(h:kvs[i]?=some (k,v)):∃u,vs[i]?=some (k,u)/\RelV v u:=by
 unfold KV at r
 induction r generalizing i with
 | nil=>simp at h
 | @cons p q ps qs r1 rr ih=>
  cases i with
  | zero=>
   simp at h;subst h;obtain⟨a,b⟩:=q;exact⟨b,by simp;exact r1.1.symm,r1.2⟩
  | succ i=>exact ih (by simpa using h)
theorem ahr:entryFor table "dict_itemiterator.__iter__"=some Builtin.«dict_keyiterator.__iter__»:=
 N2 (id':="dict_keyiterator.__iter__") (by kernel_rfl) rfl (by decide +kernel) (by kernel_rfl)
theorem ahs{prog:Program}{w:World}{A:Around}{E:VP}{s:Shared}{it d:Addr}{i n ep:Nat}{ok ov:Value}{Q:VP}(hit:IsItemIter s.heap it d i n ep ok ov)(h:Q (.ref it) s):wpAny (model prog w) A (pyIter (.ref it)) Q E s:=by
 have hT:s.TypeIs (.ref it) "dict_itemiterator":=⟨_,hit,rfl⟩;refine Wz hT axR (tF axR hT ahr ?_ (PySem.F.args_dict_itemiterator_iter_1 _));show wpAny _ _ (ret (.ref it)) _ _ s;exact au ⟨_,rfl,"dict_itemiterator",_,hT,PySem.F.slot_dict_itemiterator_next.lookup,h⟩
theorem aht{P:Program}{w:World}{K:Fg}{elts:List Expr}{x1:Nat}{pos:Pos}(d it:Addr)(kvs:List (ar×V))(o:Obj):q9 P w K (.Tuple elts x1 pos) (Qj d kvs o) [it] it (fun i h=>∃ok ov,IsItemIter h it d i kvs.length (zF o) ok ov) where
 mem:=by simp
 obj:=fun i h st b hb=>by
  have e:b=it:=by simpa using hb
  subst e;obtain⟨ok,ov,st⟩:=st;exact⟨_,st,fun v z=>by
   have z':Data.fields _=Data.cell v:=z;cases z'⟩
 keep:=fun i h h' ahu k=>ahu.elim fun ok ahv=>ahv.elim fun ov st=>⟨ok,ov,k it (by simp) _ st⟩
 item:=by
  intro X hP hw hK hc i pins s σ H E I hf st hg;subst hP hw hK;obtain⟨ok,ov,st⟩:=st;obtain⟨hd,aN⟩:=hg;obtain⟨f0,f1,f2,f3,f4,f5⟩:=hf it (by simp);obtain⟨vs,rel,nZ,hS⟩:=Qk I.hok hd;have hlen:=rel.length;obtain⟨kv,ux⟩:∃kv,kvs[i]?=some kv:=⟨_,jl aN⟩;obtain⟨k,v⟩:=kv;obtain⟨u,hu,ru⟩:=ahq rel ux;rw[hlen]at st;refine wpAny_pyNext_items_item st nZ hu fun key h1 kU ahw Im hsz eL=>⟨.ref s.heap.objs.size,rfl,?_⟩;refine wpAny_letOwnedTupleGo_items ahw fun h2 fv sb=>?_;have Dd:it<s.heap.objs.size:=bG st;have sb:Heap.SameBut it h1 h2:=sb;have I1:Inv X pins σ H { s with heap:=h2 }:=I.turned (t':=s.toks) (fun b ob hb e=>(sb.2 b hb).trans (eL b ob hb e)) f0 f1 f3 f4 f5;have hn:H s.heap.objs.size=none:=I.hok.fresh (aI _);have fp:=I.fpOk (H':=H) (aI _) hn;have uq:h2.get? s.heap.objs.size=some { cls:=.type "tuple",data:=.seq #[key,u] }:=(sb.2 _ (kJ Dd)).trans Im;have I2:Inv X pins σ (ah H s.heap.objs.size (.tup [kV k,v])) { s with heap:=h2 }:=by
   refine I1.track hn I.sz fp.2.1 fp.2.2.2.2.1 fp.2.2.2.2.2 ?_;exact⟨by show 2<=sizeLine;decide,[key,u],.cons (ahc kU) (.cons ru .nil),_,uq,rfl,0,rfl⟩
  refine⟨.ref s.heap.objs.size,_,I2,rfl,⟨k,v,_,ux,hn,rfl,rfl⟩,⟨key,u,by rw[hlen];exact fv⟩,fun b hb=>?_⟩;have e:b=it:=by simpa using hb
  subst e;rw[aW (cS Dd)];exact f0
 done:=by
  intro X hP hw hK hc i pins s σ H E I hf st hg;subst hP hw hK;obtain⟨ok,ov,st⟩:=st;obtain⟨hd,hle⟩:=hg;obtain⟨f0,f1,f2,f3,f4,f5⟩:=hf it (by simp);obtain⟨vs,rel,nZ,hS⟩:=Qk I.hok hd;have hlen:=rel.length;rw[hlen]at st;exact wpAny_pyNext_items_end (I.ok.hd hc) st nZ (by rw[List.getElem?_eq_none_iff];omega) fun h' eb=>⟨rfl,I.turned (t':=s.toks) (fun b o hb e=>eb b o hb e) f0 f1 f3 f4 f5⟩
 self:=fun _ _ _ _ _ ahx h=>ahx.elim fun ok ahy=>ahy.elim fun ov st=>ahs st h
section
variable {X:Cx}
theorem PE.weak{e:Expr}{t:TE}(h:PE X e t):PE X e (fun σ H Q=>∃Q':VK,t σ H Q'/\∀v H,Q' v H->Q v H):=by
 intro pins s σ H Q I ⟨Q',q,w⟩;exact L2.thn (h pins s σ H _ I q) fun u s1 ahz=>ahz.elim fun v ahA=>ahA.elim fun H1 ahB=>ahB.elim fun I1 ahC=>ahC.elim fun r1 q1=>⟨v,H1,I1,r1,w _ _ q1⟩
theorem PG.weak{e:Expr}{g:TG}(h:PG X e g):PG X e (fun x σ H Q=>∃Q':St->Hp->Prop,g x σ H Q'/\∀σ H,Q' σ H->Q σ H):=by
 intro pins s σ H v u Q I r ⟨Q',q,w⟩;exact L2.thn (h pins s σ H v u _ I r q) fun _ s1 ahD=>ahD.elim fun σ1 ahE=>ahE.elim fun H1 ahF=>ahF.elim fun I1 q1=>⟨σ1,H1,I1,w _ _ q1⟩
theorem cn.weak{b:List Stmt}{t:TS}(h:cn X b t):cn X b (fun D σ H=>∃D':Ends,t D' σ H/\(∀σ H,D'.nx σ H->D.nx σ H)/\(∀v H,D'.rt v H->D.rt v H)/\(∀σ H,D'.bk σ H->D.bk σ H)/\∀σ H,D'.ct σ H->D.ct σ H):=by
 intro pins s σ H D I ⟨D',q,w1,w2,w3,w4⟩;refine L2.thn (h pins s σ H D' I q) fun f s1 q1=>?_;cases f with
 | next=>obtain⟨σ1,H1,I1,q1⟩:=q1;exact⟨σ1,H1,I1,w1 _ _ q1⟩
 | ret v=>obtain⟨x,σ1,H1,I1,r,q1⟩:=q1;exact⟨x,σ1,H1,I1,r,w2 _ _ q1⟩
 | brk=>obtain⟨σ1,H1,I1,q1⟩:=q1;exact⟨σ1,H1,I1,w3 _ _ q1⟩
 | cont=>obtain⟨σ1,H1,I1,q1⟩:=q1;exact⟨σ1,H1,I1,w4 _ _ q1⟩
end
theorem ahG{o:Expr}{elts:List Expr}{x1:Nat}{wA apos cM:Pos}{X:Cx}{td:TE}(ho:PE X o td)(uh:attributeBase o "items" X.env (eval o X.env)=eval o X.env:=by rfl)(ui:(apos.endLine == cM.line)=true:=by rfl) :
 PI X (.Tuple elts x1 wA) (.Call (.Attribute o "items" apos) [] [] cM) (fun σ H R=>td σ H fun x H1=>∃d kvs,x=.ref d/\H1 d=some (.dK kvs)/\∀ob,(∀o' u,X.H₀ d≠some (.frz o' u))->R (Qj d kvs ob) (ah H1 d (.frz ob (.dK kvs)))):=by
 intro pins s σ H R I h;refine wpAny_Call_method0_late uh ui (thn (ho pins s σ H _ I h) fun v s1 ahH=>ahH.elim fun x ahI=>ahI.elim fun H1 ahJ=>ahJ.elim fun I1 ahK=>ahK.elim fun r1 ahL=>ahL.elim fun d ahM=>ahM.elim fun kvs ahN=>ahN.elim fun e ahO=>ahO.elim fun ed q=>?_);subst e;cases r1;obtain⟨z,hd,vs,rel,dd⟩:=mq I1.hok ed;obtain⟨h1,h2⟩:=Pm I1 (x:=.ref d) rfl (T:="dict") (.inr (.inr (.inl ⟨rfl,.inl ⟨kvs,ed⟩⟩)));refine⟨"dict","dict.items",GS,axS,PySem.F.type_dict_items,h1,h2,NU rfl (PySem.evalArgs_none ?_)⟩;refine Cg axS dd.typeIs PySem.F.entry_dict_items (PySem.F.args_dict_items_1 _) (meets_dict_items (cw X.prog X.w) d hd) ⟨⟨vs,dd⟩,?_⟩;have zG:=dd.push { cls:=.type "dict_items",data:=.fields #[.ref d] };obtain⟨ob,es,ep,qX,hc,Dc,rest⟩:=id zG;have nZ:(s1.heap.push { cls:=.type "dict_items",data:=.fields #[.ref d] }).DictAt (cw X.prog X.w) d vs ep:=⟨ob,es,qX,hc,Dc,rest⟩;have I2:Inv X pins σ H1 { s1 with heap:=s1.heap.push { cls:=.type "dict_items",data:=.fields #[.ref d] } }:=I1.kept (t':=s1.toks) fun b o e=>bX _ e;refine wpAny_pyIter_items (s:={ s1 with heap:=s1.heap.push { cls:=.type "dict_items",data:=.fields #[.ref d] } }) ⟨_,dR _ rfl,rfl,rfl⟩ nZ ?_;have hep:zF ob=ep:=by unfold zF;rw[Dc]
 have hlen:=rel.length;have I3:Inv X pins σ H1 { s1 with heap:=(s1.heap.push { cls:=.type "dict_items",data:=.fields #[.ref d] }).push { cls:=.type "dict_itemiterator",data:=.fields #[.none,.bool false,.ref d,.int 0 0,.int vs.length 0,.int ep 0,.none,.none] } }:=
  I2.kept (t':=s1.toks) fun b o e=>bX _ e
 have hn:=I2.hok.fresh (aI (s1.heap.push { cls:=.type "dict_items",data:=.fields #[.ref d] }).objs.size);have hz:∀o' u,X.H₀ d≠some (.frz o' u):=fun o' u hq=>by
  have:=I1.base.frzs d o' u hq;rw[ed]at this;cases this
 refine⟨_,[_],_,_,_,rfl,I3.freeze ed (bX _ qX),aht d _ kvs ob,⟨.none,.none,?_⟩,fun b hb=>?_,q ob hz⟩
 . show Heap.get? _ _=_;rw[hep,hlen];exact dR _ rfl
 . have e:b=(s1.heap.push { cls:=.type "dict_items",data:=.fields #[.ref d] }).objs.size:=by simpa using hb
   subst e;refine I2.fpOk (aI _) ?_;rw[aW (ge (aL ed hn))];exact hn
def ahQ(td:TE)(g:TG)(tb:TS):TS:=fun D σ H=>td σ H fun x H1=>∃d kvs,x=.ref d/\H1 d=some (.dK kvs)/\∀ob,∃W:Nat->Nat->St->Hp->Prop,(∃m,W 0 m σ (ah H1 d (.frz ob (.dK kvs))))/\∀i m σ H,W i m σ H ->
 H d=some (.frz ob (.dK kvs))/\((kvs.length<=i/\D.nx σ (ah H d (.dK kvs)))\/(i<kvs.length/\∃N:St->Hp->Prop,(∀σ' H',N σ' H'->∃m',m'<m/\W (i+1) m' σ' H') /\
  ∀k v p,kvs[i]?=some (k,v)->H p=none->g (.ref p) σ (ah H p (.tup [kV k,v])) fun σ2 H2=>
   tb { nx:=N,ct:=N,bk:=fun σ' H'=>H' d=some (.frz ob (.dK kvs))/\D.nx σ' (ah H' d (.dK kvs)),rt:=fun v' H'=>H' d=some (.frz ob (.dK kvs))/\D.rt v' (ah H' d (.dK kvs)) } σ2 H2))
theorem Io{o:Expr}{elts:List Expr}{x1:Nat}{wA apos cM pos:Pos}{X:Cx}{td:TE}{g:TG}{tb:TS}{body:List Stmt}(hp:PassesOwn (model X.prog X.w) X.A X.env X.xe)(hc:X.calm=true)(ho:PE X o td)(hg:PG X (.Tuple elts x1 wA) g)(hb:cn X body tb)
 (uh:attributeBase o "items" X.env (eval o X.env)=eval o X.env:=by rfl) (ui:(apos.endLine == cM.line)=true:=by rfl) (hs:∀x,foldedSetIterable (.Call (.Attribute o "items" apos) [] [] cM) X.env x=pure x:=by intro _;rfl) :
 PS X (.For (.Tuple elts x1 wA) (.Call (.Attribute o "items" apos) [] [] cM) body [] pos) (ahQ td g tb):=by
 intro pins s σ H D I h;refine thn (eJ (X:=X) hp hc (ahG ho.weak uh ui) hg.weak hb.weak hs pins s σ H
  { nx:=fun σ' H'=>∃d kvs ob,H' d=some (.frz ob (.dK kvs))/\(∀o' u,X.H₀ d≠some (.frz o' u))/\D.nx σ' (ah H' d (.dK kvs)),rt:=fun v' H'=>∃d kvs ob,H' d=some (.frz ob (.dK kvs))/\(∀o' u,X.H₀ d≠some (.frz o' u))/\D.rt v' (ah H' d (.dK kvs)) } I ?_) fun f s' q=>?_
 . refine⟨_,h,fun x H1 ahR=>ahR.elim fun d ahS=>ahS.elim fun kvs ahT=>ahT.elim fun e ahU=>ahU.elim fun ed q=>⟨d,kvs,e,ed,fun ob hz=>?_⟩⟩;obtain⟨W,w0,turn⟩:=q ob;refine⟨W,w0,fun i m σ H hw=>?_⟩;obtain⟨hd,c | ⟨aN,N,hN,step⟩⟩:=turn i m σ H hw
   . exact .inl ⟨⟨hd,c.1⟩,d,kvs,ob,hd,hz,c.2⟩
   . refine .inr ⟨⟨hd,aN⟩,N,hN,fun x H' ahV=>ahV.elim fun k ahW=>ahW.elim fun v ahX=>ahX.elim fun p ahY=>ahY.elim fun hk ahZ=>ahZ.elim fun hp ah0=>ah0.elim fun e eH=>?_⟩;subst e eH;exact⟨_,step k v p hk hp,fun σ2 H2 q2=>⟨_,q2,fun _ _ z=>z,fun v' H' ah1=>ah1.elim fun a b=>⟨d,kvs,ob,a,hz,b⟩,fun σ' H' ah2=>ah2.elim fun a b=>⟨d,kvs,ob,a,hz,b⟩,fun _ _ z=>z⟩⟩
 . cases f with
   | next=>
    obtain⟨σ',H',I',d,kvs,ob,hd,hz,q⟩:=q;exact⟨σ',_,I'.thaw hd hz,q⟩
   | ret v=>
    obtain⟨x,σ',H',I',r,d,kvs,ob,hd,hz,q⟩:=q;exact⟨x,σ',_,I'.thaw hd hz,r,q⟩
   | brk=>obtain⟨_,_,_,q⟩:=q;exact q.elim
   | cont=>obtain⟨_,_,_,q⟩:=q;exact q.elim
theorem De:Slot "set_iterator" "__next__" "set_iterator.__next__":=
 .of (owner:="set_iterator") (n:="__next__") (by rw[WA,WB];kernel_rfl) (by decide +kernel) (by decide +kernel) (by decide +kernel)
  (by first | exact .inl (by decide +kernel) | exact .inr (by decide +kernel)) (by rw[WC];kernel_rfl)
theorem Ql:Slot "set_iterator" "__iter__" "set_iterator.__iter__":=
 .of (owner:="set_iterator") (n:="__iter__") (by rw[WA,WB];kernel_rfl) (by decide +kernel) (by decide +kernel) (by decide +kernel)
  (by first | exact .inl (by decide +kernel) | exact .inr (by decide +kernel)) (by rw[WC];kernel_rfl)
theorem ah3:entryFor table "set_iterator.__next__"=some Builtin.«set_iterator.__next__»:=entryFor_of_tree (by kernel_rfl)
theorem ah4:entryFor table "set_iterator.__iter__"=some Builtin.«dict_keyiterator.__iter__»:=N2 (id':="dict_keyiterator.__iter__") (by kernel_rfl) rfl (by decide +kernel) (by kernel_rfl)
theorem ah5:entryFor table "set.__iter__"=some Builtin.«frozenset.__iter__»:=N2 (id':="frozenset.__iter__") (by kernel_rfl) rfl (by decide +kernel) (by kernel_rfl)
theorem Qm:Manifest.owners.lookup (String.ofList ['r','o','t','a','r','e','t','i','_','t','e','s'].reverse)=some Manifest.sig_set_iterator:=by kernel_rfl
theorem ah6(a:Value):argsOk "set_iterator.__next__" ⟨[a],[]⟩:=by
 unfold argsOk;rw[signature?_of (id:="set_iterator.__next__") (n:=['_','_','t','x','e','n','_','_']) (o:=['r','o','t','a','r','e','t','i','_','t','e','s']) (by kernel_rfl) Qm];kernel_rfl
theorem ah7(a:Value):argsOk "set_iterator.__iter__" ⟨[a],[]⟩:=by
 unfold argsOk;rw[signature?_of (id:="set_iterator.__iter__") (n:=['_','_','r','e','t','i','_','_']) (o:=['r','o','t','a','r','e','t','i','_','t','e','s']) (by kernel_rfl) Qm];kernel_rfl
section
variable {prog:Program}{w:World}{A:Around}{E:VP}{s:Shared}{a it:Addr}{ep:Nat}{t:SetTable}
theorem ah8:typeLookup (.type "set") "__len__"=pure (some (.builtin "set.__len__")):=by rw[WA,WB];kernel_rfl
theorem ah9{Q:Bool->Shared->Prop}(hT:s.TypeIs (.ref a) "set")(h:Q false s):wpAny (model prog w) A (Builtin.List.listLengthHint (.ref a)) Q E s:=by
 unfold Builtin.List.listLengthHint;refine af (B8 hT ah8 ?_);generalize Qn:("set.__len__":String)=id0
 wp_delta
 rw[show splitId id0=some ("set","__len__") from by subst Qn;decide +kernel];subst Qn;refine af (pj (T:="set") (b:=true) hT (by rw[WC];kernel_rfl) ?_);refine WD (fun jR=>absurd jR (by decide)) (fun _=>?_);refine WD (fun _=>?_) (fun jR=>absurd (by decide +kernel) jR);refine af (N3 hT ?_);exact au h
end
section
variable {X:Cx}
theorem mB{pos:Pos}:PE X (.Dict [] [] pos) (fun _ H Q=>dL H (.dK []) Q):=fun pins s σ H Q I h=>adX pins s σ H Q I h.at
theorem aia{pos:Pos}:PE X (.Dict [] [] pos) (fun _ H Q=>dL H (.dT []) Q):=fun pins s σ H Q I h=>adY pins s σ H Q I h.at
theorem iD(K:Fg){e:Expr}{f:Str}{pos:Pos}{ta:TE}(he:PE X e ta)(hb:attributeBase e f X.env (eval e X.env)=eval e X.env)(h:X.K=K:=by rfl):PE X (.Attribute e f pos) (O0 K ta f):=h▸cU he hb
def aib:V->Lv->Hp->VK->Prop:=fun x vs H Q=>∃a b kvs more,x=.ref a/\vs=[.ref b]/\a≠b/\H a=some (.dK kvs)/\H b=some (.dK more)/\kvs.length+more.length<=sizeLine/\Q .non (ah H a (.dK (mr kvs more)))
theorem aic:pL X "dict.update" aib:=by
 intro pins s σ H x xs v us Q I rx rs h;obtain⟨a,b,kvs,more,rfl,rfl,jR,ea,eb,hl,q⟩:=h;cases rx;cases rs with
 | cons r1 r2=>
  cases r2;cases r1;obtain⟨z,hd,vs,rel,dd⟩:=mq I.hok ea;obtain⟨z',nI,ws,zH,gj⟩:=mq I.hok eb;refine Cg axT dd.typeIs PySem.F.entry_dict_update (PySem.F.args_dict_update_2 _ _) (meets_dict_update (cw X.prog X.w) a b jR nI) ⟨vs,ws,dd,gj,by rw[←rel.length,←zH.length];exact hl,fun h' dm _ hs=>?_⟩;have he:∃q,h'.get? a=some q:=dm.elim fun q aid=>aid.elim fun _ aie=>aie.elim fun _ aif=>aif.elim fun hq _=>⟨q,hq⟩;exact⟨.non,_,wD I (ob:=.dK (mr kvs more)) (by rw[ea];exact True.intro) hs he (wE (cu (HJ _ _) hl) hd (zH.merge rel) dm),rfl,q⟩
theorem aig(x:Str):Str.empty++x=x:=by
 obtain⟨c⟩:=x;show(⟨#[]++c⟩:Str)=⟨c⟩;rw[Array.empty_append]
variable {e e1 e2:Expr}{te t1 t2:TE}{pos:Pos}
def aih(te:TE):TE:=fun σ H Q=>te σ H fun x H1=>∃y,x=.str y/\y.length<=sizeLine/\Q x H1
theorem zI(he:PE X e te):PE X (.FormattedValue e (-1) none pos) (aih te):=by
 intro pins s σ H Q I h;refine FormattedValue_plain (thn (he pins s σ H _ I h) fun v s1 aii=>aii.elim fun x aij=>aij.elim fun H1 aik=>aik.elim fun I1 ail=>ail.elim fun r1 aim=>aim.elim fun y ain=>ain.elim fun ex aio=>aio.elim fun hl q=>?_);subst ex;obtain⟨t,rfl⟩:=r1;exact formatField_str (fun t' tk=>⟨.str y,H1,I1.tok _,⟨_,rfl⟩,q⟩) hl
def aip(t1 t2:TE):TE:=fun σ H Q=>t1 σ H fun a H1=>∃x,a=.str x/\x.length<=sizeLine/\t2 σ H1 fun b H2=>∃y,b=.str y/\x.length+y.length<=sizeLine/\Q (.str (x++y)) H2
theorem zJ(h1:PE X e1 t1)(h2:PE X e2 t2):PE X (.JoinedStr [e1,e2] pos) (aip t1 t2):=by
 intro pins s σ H Q I h;refine JoinedStr_many (joinParts_cons (thn (h1 pins s σ H _ I h) fun v s1 aiq=>aiq.elim fun a air=>air.elim fun H1 ais=>ais.elim fun I1 ait=>ait.elim fun r1 aiu=>aiu.elim fun x aiv=>aiv.elim fun ex aiw=>aiw.elim fun hx q1=>?_));subst ex;obtain⟨t,rfl⟩:=r1;show(Str.empty++x).length<=sizeLine/\wpAny _ _ (joinParts (Str.empty++x) (eval e2 X.env::evalEach [] X.env)) _ _ s1;rw[aig];refine⟨hx,joinParts_cons (thn (h2 pins s1 σ H1 _ I1 q1) fun v s2 aix=>aix.elim fun b aiy=>aiy.elim fun H2 aiz=>aiz.elim fun I2 aiA=>aiA.elim fun r2 aiB=>aiB.elim fun y aiC=>aiC.elim fun ey aiD=>aiD.elim fun hl q2=>?_)⟩;subst ey;obtain⟨t',rfl⟩:=r2;have hz:(x++y).length<=sizeLine:=by rw[jY];exact hl
 exact⟨hz,joinParts_nil ⟨.str (x++y),H2,I2.tok _,⟨_,rfl⟩,q2⟩ hz⟩
end
end L2
namespace L2
open PySem
theorem wM{X:Cx}{st:Stmt}{CG:List Stmt}{t u:TS}(h1:PS X st t)(h2:cn X CG u):cn X (st::CG) (fun D σ H=>∃P:St->Hp->Prop,t { D with nx:=P } σ H/\∀σ' H',P σ' H'->u D σ' H'):=by
 intro pins s σ H D I ⟨P,a,b⟩;exact C1 P h1 h2 pins s σ H D I ⟨a,b⟩
end L2
namespace L2
theorem mC{t1 t2:TS}{D:Ends}{σ:St}{H:Hp}(h:let d:=D;let s:=σ;let u2:=t2;aT t1 u2 d s H):aT t1 (t2) D σ H:=h
theorem lw{t1 t2 t3:TS}{D:Ends}{σ:St}{H:Hp}(h:let d:=D;let s:=σ;let u3:=t3;let u2:=aT t2 u3;aT t1 u2 d s H):aT t1 (aT t2 (t3)) D σ H:=h
theorem j6{t1 t2 t3 t4:TS}{D:Ends}{σ:St}{H:Hp}(h:let d:=D;let s:=σ;let u4:=t4;let u3:=aT t3 u4;let u2:=aT t2 u3;aT t1 u2 d s H):aT t1 (aT t2 (aT t3 (t4))) D σ H:=h
theorem Iq{t1 t2 t3 t4 t5:TS}{D:Ends}{σ:St}{H:Hp}(h:let d:=D;let s:=σ;let u5:=t5;let u4:=aT t4 u5;let u3:=aT t3 u4;let u2:=aT t2 u3;aT t1 u2 d s H):aT t1 (aT t2 (aT t3 (aT t4 (t5)))) D σ H:=h
theorem wN{t1 t2 t3 t4 t5 t6:TS}{D:Ends}{σ:St}{H:Hp}(h:let d:=D;let s:=σ;let u6:=t6;let u5:=aT t5 u6;let u4:=aT t4 u5;let u3:=aT t3 u4;let u2:=aT t2 u3;aT t1 u2 d s H):aT t1 (aT t2 (aT t3 (aT t4 (aT t5 (t6))))) D σ H:=h
theorem Qo{t1 t2 t3 t4 t5 t6 t7:TS}{D:Ends}{σ:St}{H:Hp}(h:let d:=D;let s:=σ;let u7:=t7;let u6:=aT t6 u7;let u5:=aT t5 u6;let u4:=aT t4 u5;let u3:=aT t3 u4;let u2:=aT t2 u3;aT t1 u2 d s H):aT t1 (aT t2 (aT t3 (aT t4 (aT t5 (aT t6 (t7)))))) D σ H:=h
theorem aiE{t1 t2 t3 t4 t5 t6 t7 t8:TS}{D:Ends}{σ:St}{H:Hp}(h:let d:=D;let s:=σ;let u8:=t8;let u7:=aT t7 u8;let u6:=aT t6 u7;let u5:=aT t5 u6;let u4:=aT t4 u5;let u3:=aT t3 u4;let u2:=aT t2 u3;aT t1 u2 d s H):aT t1 (aT t2 (aT t3 (aT t4 (aT t5 (aT t6 (aT t7 (t8))))))) D σ H:=h
theorem aiF{t1 t2 t3 t4 t5 t6 t7 t8 t9:TS}{D:Ends}{σ:St}{H:Hp}(h:let d:=D;let s:=σ;let u9:=t9;let u8:=aT t8 u9;let u7:=aT t7 u8;let u6:=aT t6 u7;let u5:=aT t5 u6;let u4:=aT t4 u5;let u3:=aT t3 u4;let u2:=aT t2 u3;aT t1 u2 d s H):aT t1 (aT t2 (aT t3 (aT t4 (aT t5 (aT t6 (aT t7 (aT t8 (t9)))))))) D σ H:=h
theorem Qp{X:Cx}{b:List PySem.Stmt}{D:Ends}{σ:St}{H:Hp}(h:let x:=X;let d:=D;∃t,cn x b t/\t d σ H):∃t,cn X b t/\t D σ H:=h
section
open PySem PySem.Spec PyProof.Rows
theorem aZ{N P:Ls}{sc:Scope}(a:sc.kind=.function:=by rfl)(b:sc.isCoroutine=false:=by rfl)(c:sc.isGenerator=false:=by rfl)(d:N.Nodup:=by decide +kernel)(e:N.take P.length=P:=by rfl)(f:∀x∈P,sc.names.lookup x=some .local\/sc.names.lookup x=some .cell:=by decide +kernel)(g:∀y∈sc.names,y.2≠.free:=by decide +kernel):aP N P sc:=⟨a,b,c,d,e,f,g⟩
theorem eA{X:Cx}{own bf:Ls}{js:List Nat}{sc:Scope}(a:sc.kind=.function:=by rfl)(b:∀y∈sc.names,y.2≠.cell:=by decide +kernel)(c:∀y∈sc.names,y.2=.local->sc.names.lookup y.1=some .local:=by decide +kernel)(d:(own++bf).Nodup:=by decide +kernel)(e:∀y∈sc.names,y.2=.free->y.1∈bf:=by decide +kernel)(f:js.map (fun j=>X.N[j]?)=bf.map some:=by rfl)(g:bf.map X.env.kindOf=bf.map fun _=>some NameKind.cell:=by rfl)(h:bf.map (fun x=>(relabel sc X.env).names.lookup x)=bf.map fun _=>some NameKind.cell:=by rfl):lm X own bf js sc:=⟨a,b,c,d,e,f,g,h⟩
theorem aU.okL{P:Program}{w:World}{K:Fg}{mg:Mv}{base:Heap}{x qual:Str}{st:Stmt}{f:Addr}{fd:Fy}{N ps:Ls}{k:Nat}{sp:Sp}(F:aU K x qual st f fd)(S:aP N ps (aA st))(hb:∀(aw:Value) (A:Around) (outer:List Env) (s:Shared) (H:Hp) (vs:Lv) (Q:VK) (E:XK),ce k (A.deeper (envOfC qual (aA st) s.heap.objs.size f aw))->sp vs H Q E->let y:=(kY ak P w K mg base N qual (aA st) f aw A outer s H E).nox;let d:Ends:={ nx:=fun _ H'=>Q .non H',rt:=Q };∃t,cn y (da st) t/\t d (start N vs) H)(len:∀vs H Q E,sp vs H Q E->vs.length=ps.length:=by intro _ _ _ _ h;first | (obtain⟨_,rfl,_⟩:=h;rfl) | (obtain⟨_,_,rfl,_⟩:=h;rfl) | (obtain⟨_,_,_,rfl,_⟩:=h;rfl) | (obtain⟨_,_,_,_,rfl,_⟩:=h;rfl) | (obtain⟨_,_,_,_,_,rfl,_⟩:=h;rfl) | (obtain⟨_,_,_,_,_,_,rfl,_⟩:=h;rfl) | (obtain⟨_,_,_,_,_,_,_,rfl,_⟩:=h;rfl) | (obtain⟨_,_,_,_,_,_,_,_,rfl,_⟩:=h;rfl) | (obtain⟨_,_,_,_,_,_,_,_,_,rfl,_⟩:=h;rfl) | (obtain⟨_,_,_,_,_,_,_,_,_,_,rfl,_⟩:=h;rfl) | (obtain⟨_,_,_,_,_,_,_,_,_,_,_,rfl,_⟩:=h;rfl) | (obtain⟨_,_,_,_,_,_,_,_,_,_,_,_,rfl,_⟩:=h;rfl) | (obtain⟨_,_,_,_,_,_,_,_,_,_,_,_,_,rfl,_⟩:=h;rfl) | (obtain⟨_,_,_,_,_,_,_,_,_,_,_,_,_,_,rfl,_⟩:=h;rfl) | (obtain⟨_,_,_,_,_,_,_,_,_,_,_,_,_,_,_,_,rfl,_⟩:=h;rfl)):aj P w K mg base ak (k+1) f fd ps sp:=F.ok S len hb
end
theorem bg{p:Prop}(h:let T:=p;T):p:=h
theorem wO{g:TG}{tb:TS}{E:Ends}{x:V}{σ:St}{H:Hp}(h:let e:=E;let s:=σ;g x s H fun σ2 H2=>tb e σ2 H2):g x σ H fun σ2 H2=>tb E σ2 H2:=h
open PySem PySem.Spec PyProof.Rows PySem.W PySem.Builtin PySem.Builtin.ObjectAttr PySem.Builtin.Getset_descriptor
abbrev Qq:Lw:=[.type "ValueError",.type "Exception",.type "BaseException",.type "object"]
structure Df(K:Fg)(C:Addr):Prop where
 exc:PySem.W.excIn K C Qq "ValueError.__new__"=true
 ga:PySem.W.findIn K (.ref C) "__getattribute__"=some (some (.builtin "BaseException.__getattribute__"))
 gh:PySem.W.findIn K (.ref C) "__getattr__"=some none
 cls:PySem.W.findIn K (.ref C) "__class__"=some (some (.builtin "object.__class__"))
 spc:PySem.W.specialIn K (.builtin "object.__class__") "__get__"=some (some (.builtin "getset_descriptor.__get__"))
 tak:PySem.W.takesIn K (.builtin "object.__class__")=some true
 mro:PySem.W.mroIn K C (.type "object")=some true
 mrb:PySem.W.mroIn K C (.type "BaseException")=some true
section
variable {K:Fg}{D a:Addr}{M:Model}{h:Heap}
end
section
variable {prog:Program}{w:World}{A:Around}{E:VP}{s:Shared}{K:Fg}{D a:Addr}
end
end L2
namespace L2
open PySem PySem.Spec PyProof.Rows PySem.W
theorem ci.obj{P:Program}{w:World}{H:Hp}{h:Heap}{a:Addr}{o:HO}(x:ci P w H h a o):∃u,h.get? a=some u:=by
 cases o with
 | lst xs=>obtain⟨_,_,_,_,e⟩:=x;exact⟨_,e⟩
 | tup xs=>obtain⟨_,_,_,ob,e,_⟩:=x;exact⟨_,e⟩
 | dK kvs=>obtain⟨_,_,_,_,o,_,_,e,_⟩:=x;exact⟨_,e⟩
 | dT kvs=>obtain⟨_,_,_,_,o,_,_,e,_⟩:=x;exact⟨_,e⟩
 | set S n=>obtain⟨o,_,_,_,e,_⟩:=x;exact⟨_,e⟩
 | ins C dx fs=>obtain⟨_,_,_,e,_⟩:=x;exact⟨_,e⟩
 | own y=>obtain⟨_,e⟩:=x;exact⟨_,e⟩
 | xd fs=>obtain⟨_,⟨_,_,_,e,_⟩,_⟩:=x;exact⟨_,e⟩
 | rng lo hi=>obtain⟨_,_,_,e⟩:=x;exact⟨_,e⟩
 | frz ob u=>obtain⟨e,_⟩:=x;exact⟨_,e⟩
 | tbl ps=>exact⟨_,(show h.get? a=some _ from x)⟩
 | met f y=>exact⟨_,(show h.get? a=some _ from x)⟩
 | ext φ=>obtain⟨_,⟨_,e⟩,_⟩:=x;exact⟨_,e⟩
structure mD(l:List Env)(B:Heap)(H:Hp)(h0 h h':Heap):Prop where
 big:∀b o,h.get? b=some o->((H b).isSome=true\/∃o',h0.get? b=some o')->b∉cE l->B.get? b=some o
 stay:B.StaysIn h'
 slots:∀b o,h.get? b=some o->b∈cE l->∃sl,h'.get? b=some { o with slots:=sl }
section
variable {l:List Env}{B:Heap}{H H0:Hp}{h0 h h' Ir:Heap}{P:Program}{w:World}
theorem mD.at(f:mD l B H h0 h h'){b:Addr}{o:Obj}(e:h.get? b=some o)(t:(H b).isSome=true\/∃o',h0.get? b=some o')(n:b∉cE l):h'.get? b=some o:=f.stay _ _ (f.big b o e t n)
theorem mD.hok(f:mD l B H h0 h h')(ok:cj P w H h)(fr:∀b∈cE l,H b=none):cj P w H h':=fun b o e=>by
 have nf:∀c u,H c=some u->c∉cE l:=fun c u q z=>by rw[fr c z]at q;cases q
 refine(ok b o e).stay (fun c u hc q=>?_) (fun _ q=>q) fun _ _ q=>q
 rcases hc with rfl | hc
 . exact f.at q (.inl (by rw[e];rfl)) (nf _ _ e)
 . exact f.at q (.inl (by rw[hc];rfl)) (nf _ _ hc)
theorem mD.un{fs:List Addr}(f:mD l B H h0 h h')(u:Un fs [] H0 H h0 h)(hs:∀b∈cE l,b∈fs\/h0.get? b=none)(hf:∀b∈fs,b∈cE l):Un fs [] H0 H h0 h' where
 keep:=fun b o q n hb hx=>f.at (u.keep b o q n hb hx) (.inr ⟨o,q⟩) fun z=>by
  rcases hs b z with y | y
  . exact hb y
  . rw[y]at q;cases q
 slot:=fun b o q n hb hx=>by
  obtain⟨sl,e⟩:=u.slot b o q n hb hx;obtain⟨tV,e'⟩:=f.slots b _ e (hf b hb);exact⟨tV,e'⟩
 free:=u.free
 there:=fun b o q hx=>by
  obtain⟨o',e⟩:=u.there b o q hx
  by_cases hb:b∈cE l
  . obtain⟨sl,e'⟩:=f.slots b _ e hb;exact⟨_,e'⟩
  . exact⟨o',f.at e (.inr ⟨o,q⟩) hb⟩
 tups:=u.tups
 frzs:=u.frzs
 tbls:=u.tbls
theorem mD.on(f:mD l B H h0 h h')(st:B.StaysIn Ir)(sm:h'.UpToSlots Ir)(nf:∀b o,h.get? b=some o->b∈cE l->∀vs,o.data≠.fields vs):mD l B H h0 h Ir:=⟨f.big,st,fun b o e hb=>by
 obtain⟨sl,q⟩:=f.slots b o e hb;obtain⟨tV,q'⟩:=sm b _ q (nf b o e hb);exact⟨tV,q'⟩⟩
end
def ca(P:Program)(w:World):iz:=fun outer H s E e s'=>∃(a:Addr) (c:Value) (H':Hp) (B:Heap) (a0:Value),e=.ref a/\s'.os=s.os/\AllBare s'.gens/\Un (cE outer) [] H H' s.heap s'.heap/\cj P w H' s'.heap/\s.heap.get? a=none /\
 Heap.FlyingW B outer a c a0 s'.heap/\(∀b o,s'.heap.get? b=some o->((H' b).isSome=true\/∃o',s.heap.get? b=some o')->b∉cE outer->B.get? b=some o)/\E c none H'
section
variable {X:Cx}{pins:Po}{σ:St}{H:Hp}{s:Shared}{E:XK}
theorem Inv.nofld(I:Inv X pins σ H s){b:Addr}(hb:b∈cE X.stack):∃o,s.heap.get? b=some o/\∀vs,o.data≠.fields vs:=(I.stack.mem hb).2
theorem Qs{B h':Heap}{a:Addr}{c a0:Value}{g':Array GenState}{d':Drawn}{t':Nat}(I:Inv X pins σ H s)(hex:X.ex=[])(fM:X.stack=X.env::X.outer)(uB:X.env.frame=some X.env.locals)(f:mD X.stack B H X.s₀.heap s.heap h')(na:X.s₀.heap.get? a=none)
 (fl:Heap.FlyingW B X.outer a c a0 h') (hg:AllBare g') (e:E c none H):ca X.prog X.w X.outer X.H₀ X.s₀ E (.ref a) { s with heap:=h',gens:=g',drawn:=d',toks:=t' }:=by
 have sub:∀b∈cE X.outer,b∈cE X.stack:=fun b hb=>by
  rw[fM];unfold cE at hb ⊢;rw[GL,uB];exact bR _ hb
 have sup:∀b∈cE X.stack,b∈cE X.outer\/X.s₀.heap.get? b=none:=fun b hb=>by
  rcases aY.mp (I.stkSub b hb) with z | z
  . rw[z];exact .inr (Heap.get?_none_of_le I.ok.above)
  . exact .inl z
 have u0:=I.base;rw[hex]at u0;refine⟨a,c,H,B,a0,rfl,I.os,hg,f.un u0 sup sub,f.hok I.hok I.stkFree,na,fl,fun b o q t nb=>?_,e⟩;have q:h'.get? b=some o:=q;have nst:b∉cE X.stack\/X.s₀.heap.get? b=none:=by
  by_cases z:b∈cE X.stack
  . rcases sup b z with y | y
    . exact absurd y nb
    . exact .inr y
  . exact .inl z
 have tr:∀o2,s.heap.get? b=some o2->b∉cE X.stack->B.get? b=some o:=fun o2 e2 z=>by
  have:=f.big b o2 e2 t z;have q2:=f.stay _ _ this;rw[q]at q2;cases q2;exact this
 rcases t with t | ⟨o',t⟩
 . obtain⟨u,hu⟩:=NR.mp t;obtain⟨o2,e2⟩:=(I.hok b u hu).obj;exact tr o2 e2 fun z=>by rw[I.stkFree b z]at hu;cases hu
 . obtain⟨o2,e2⟩:=u0.there b o' t (by simp);refine tr o2 e2 fun z=>?_
   rcases nst with y | y
   . exact y z
   . rw[y]at t;cases t
abbrev rD (P:Program) (w:World) (K:Fg) (mg:Mv) (base:Heap) (N:Ls) (qual:Str) (scope:Scope) (f:Addr) (cd:Value) (A:Around) (outer:List Env) (s:Shared) (H:Hp) (E:XK):Cx:=kY (ca P w) P w K mg base N qual scope f cd A outer s H E
end
section
variable {P:Program}{w:World}{K:Fg}{mg:Mv}{base:Heap}{N:Ls}{qual:Str}{scope:Scope}{f:Addr}{cd:Value}{A:Around}{outer:List Env}{s0:Shared}{H0:Hp}{E:XK}
theorem lB:nQ (ca P w) (rD P w K mg base N qual scope f cd A outer s0 H0 E) E:=by
 intro pins σ H s e s' I h;obtain⟨a,c,H',B,a0,rfl,os,bare,un,hok,na,fl,big,q⟩:=h;have J:=I.call' (ch:=[]) os un hok bare (fun b z=>nomatch z);refine wpAny_leaves_onW (L:=(envOfC qual scope s0.heap.objs.size f cd).locals) I.ok.frames rfl fl fun h' x1 x2=>?_;obtain⟨hh,g,d,t,CL⟩:=s';have Iu:s0.heap.get? a=none:=by
  cases z:s0.heap.get? a with
  | none=>rfl
  | some o=>
   obtain⟨o',y⟩:=I.base.there a o z (fun z=>nomatch z);rw[na]at y;cases y
 exact Qs (g':=g) (d':=d) (t':=t) J rfl rfl rfl ⟨fun b o e t nb=>big b o e (t.imp id fun aiH=>aiH.elim fun o' z=>I.base.there b o' z (fun z=>nomatch z)) nb,x1.1,fun b o e hb=>by
  obtain⟨o1,e1,n1⟩:=J.nofld hb;rw[e]at e1;cases e1;exact x2 b o e n1⟩ Iu x1 bare q
theorem aiI{C:Addr}{h:Heap}(X:K.In h)(x:Df K C):∃bm Nn nm q bs hdct sn sub ab col dd k0 k1 k2 k3 k5 mN,h.get? C=some (excClassObj nm q C Nn bs bm hdct sn sub ab col dd k0 k1 k2 k3 k5 "ValueError.__new__")/\h.Ns Nn mN/\mN "__init__"=none/\OwnTail h Qq bm:=by
 have q:=x.exc;unfold excIn at q;split at q
 case h_2=>cases q
 rename_i dd Qt sl ho;split at q
 case h_2=>cases q
 rename_i C' bm k0 k1 k2 k3 n k5 hm hs;rw[gR,gR,gR,gR,gR]at q;obtain⟨⟨⟨⟨⟨z1,z2⟩,z3⟩,z4⟩,z5⟩,z6⟩:=q;have z1:=kK.mp z1;have z2:=kK.mp z2;have z3:Qt.hasDel=false:=by simpa using z3
 subst z1 z2;obtain⟨nm,bs,mro,ns,qn,hd,sn,sub,ab,col,del⟩:=Qt;have hm:mro=.ref C'::bm:=hm;have z3:del=false:=z3;subst hm z3;obtain⟨sll⟩:=sl;have hs:sll=[k0,k1,k2,k3,some (.builtin "ValueError.__new__"),k5]:=hs;subst hs;exact⟨bm,ns,nm,qn,bs,hd,sn,sub,ab,col,dd,k0,k1,k2,k3,k5,_,X _ _ ho,.of_isNs (isNs_of_in X z5),nsMap_none_of_in X z5 (kK.mp z6),tail_of_in X z4⟩
theorem aiK{C:Addr}{x:Str}{np cM pos:Pos}{e:Expr}{te:TE}(xc:Df K C)(hm:mg x=some (.ref C))(he:PE (rD P w K mg base N qual scope f cd A outer s0 H0 E) e te)(hg:Gl (rD P w K mg base N qual scope f cd A outer s0 H0 E) x:=by rfl)
 (hs:starEach [e] (envOfC qual scope s0.heap.objs.size f cd)=[(false,eval e (envOfC qual scope s0.heap.objs.size f cd))]:=by rfl) (hd:(x == ("__debug__":Str))=false:=by decide) :
 PS (rD P w K mg base N qual scope f cd A outer s0 H0 E) (.Raise (some (.Call (.Name x np) [e] [] cM)) none pos) (fun _ σ H=>te σ H fun v H1=>[v].length<=1/\E (.ref C) none H1):=by
 intro pins s σ H D I h;obtain⟨bm,Nn,nm,q,bs,hdct,sn,sub,ab,col,dd,k0,k1,k2,k3,k5,mN,hC,hN,Dg,T⟩:=aiI I.mod.kin xc;have hh:(A.deeper (envOfC qual scope s0.heap.objs.size f cd)).handled=none:=I.ok.hd rfl;refine wpAny_Raise_call_subT (C:=C) (nm:=nm) (q:=q) (N:=Nn) (bs:=bs) (bm:=bm) (hdct:=hdct) (sn:=sn) (sub:=sub) (ab:=ab) (col:=col) (dd:=dd) (k0:=k0) (k1:=k1) (k2:=k2) (k3:=k3) (k5:=k5)
  axU (mN:=mN) (T.hasType axU.hasBase) hh (by show(backTo cM (starEach [e] (envOfC qual scope s0.heap.objs.size f cd))).any (·.1)=false;rw[hs];rfl) Dg (wu I hg hm ⟨rfl,?_⟩ hd)
 have ha:PA (rD P w K mg base N qual scope f cd A outer s0 H0 E) [e] (kW te fz):=aa he ac hs;have go:=ha cM pins s σ H (fun vs H1=>vs.length<=1/\E (.ref C) none H1) I h;have go:wpAny (model P w) (A.deeper (envOfC qual scope s0.heap.objs.size f cd)) (spliced (backTo cM (starEach [e] (envOfC qual scope s0.heap.objs.size f cd)))) (AP (rD P w K mg base N qual scope f cd A outer s0 H0 E) pins σ (fun vs H1=>vs.length<=1/\E (.ref C) none H1)) (rD P w K mg base N qual scope f cd A outer s0 H0 E).xe s:=go;show wpAny (model P w) (A.deeper (envOfC qual scope s0.heap.objs.size f cd)) (evalArgs (.ref C) true (backTo cM (starEach [e] (envOfC qual scope s0.heap.objs.size f cd))) []) _ _ s;rw[hs]at go ⊢;refine NW (d8 go (fun us s2 z=>?_) fun _ _ y=>y);obtain⟨vs,H1,I1,rv,l1,q1⟩:=z;have hl:us.length<=sizeLine:=by
  rw[←rv.length];exact cu l1 (by decide)
 refine⟨rfl,hl,I1.bk _ _ hC,hN.keeps I1.bk,T.keeps I1.bk,fun h' a hx=>?_⟩;have Iu:s0.heap.get? a=none:=by
  cases z:s0.heap.get? a with
  | none=>rfl
  | some o=>
   obtain⟨o',y⟩:=I1.base.there a o z (fun z=>nomatch z);rw[hx.new]at y;cases y
 refine wpAny_leaves_madeW (base:=hideAll s2.heap (cE (envOfC qual scope s0.heap.objs.size f cd::outer))) (L:=(envOfC qual scope s0.heap.objs.size f cd).locals) (h:=s2.heap) I1.ok.frames rfl (fun b o z=>of_hideAll _ z)
  (funFrames_hide I1.stack fun env hev b hb=>NO.mpr ⟨env,hev,hb⟩) hx fun h2 t x1 x2 x3 x4=>?_
 refine Qs (g':=s2.gens) (d':=s2.drawn) (t':=s2.toks) I1 rfl rfl rfl ⟨fun b o z _ nb=>hideAll_get _ z nb,x1.1,fun b o z hb=>?_⟩ Iu x1 I1.bare q1;obtain⟨o1,e1,n1⟩:=I1.nofld hb;rw[z]at e1;cases e1;exact x4 b o (hx.keeps _ _ z) n1
end
section
variable {X:Cx}{pins:Po}{σ:St}{H:Hp}{s:Shared}
abbrev Cx.tr (X:Cx) (XE:VP) (pn:Po):Cx:={ X with xe:=XE,pn:=X.pn++pn }
abbrev Cx.exs (X:Cx) (a:Addr):Cx:={ X with A:=X.A.mark (some (.ref a)),calm:=false,xe:=fun _ _=>False }
theorem Inv.tr(I:Inv X pins σ H s)(XE:VP):Inv (X.tr XE pins) [] σ H s:=
 ⟨⟨I.ok.mod,I.ok.kind,I.ok.glob,I.ok.blt,I.ok.above,I.ok.inj,I.ok.has,I.ok.cab,I.ok.hd,I.ok.frames,I.ok.stk,I.ok.exf,I.ok.bs,I.ok.bsz,I.ok.noex,I.ok.exfs,I.ok.funs,I.ok.frf⟩,I.os,I.bare,I.base,I.loc,I.cell,I.free,I.freeC,fun p hp=>I.pin p (by simpa using hp),I.hok,I.len⟩
theorem Inv.untr{XE:VP}{ps:Po}(I:Inv (X.tr XE pins) ps σ H s):Inv X pins σ H s:=
 ⟨⟨I.ok.mod,I.ok.kind,I.ok.glob,I.ok.blt,I.ok.above,I.ok.inj,I.ok.has,I.ok.cab,I.ok.hd,I.ok.frames,I.ok.stk,I.ok.exf,I.ok.bs,I.ok.bsz,I.ok.noex,I.ok.exfs,I.ok.funs,I.ok.frf⟩,I.os,I.bare,I.base,I.loc,I.cell,I.free,I.freeC,fun p hp=>I.pin p (yD _ hp),I.hok,I.len⟩
theorem Inv.exs(I:Inv X pins σ H s)(a:Addr):Inv (X.exs a) pins σ H s:=
 ⟨⟨I.ok.mod,I.ok.kind,I.ok.glob,I.ok.blt,I.ok.above,I.ok.inj,I.ok.has,I.ok.cab,fun z=>(nomatch z),I.ok.frames,I.ok.stk,I.ok.exf,I.ok.bs,I.ok.bsz,I.ok.noex,I.ok.exfs,I.ok.funs,I.ok.frf⟩,I.os,I.bare,I.base,I.loc,I.cell,I.free,I.freeC,I.pin,I.hok,I.len⟩
theorem Inv.unexs{a:Addr}(ok:X.Ok)(I:Inv (X.exs a) pins σ H s):Inv X pins σ H s:=⟨ok,I.os,I.bare,I.base,I.loc,I.cell,I.free,I.freeC,I.pin,I.hok,I.len⟩
theorem SP.untr{XE:VP}{ps:Po}{D:Ends}{f:Flow}{s':Shared}(h:SP (X.tr XE pins) ps D f s'):SP X pins D f s':=by
 cases f with
 | next=>obtain⟨σ',H',I,q⟩:=h;exact⟨σ',H',I.untr,q⟩
 | brk=>obtain⟨σ',H',I,q⟩:=h;exact⟨σ',H',I.untr,q⟩
 | cont=>obtain⟨σ',H',I,q⟩:=h;exact⟨σ',H',I.untr,q⟩
 | ret u=>obtain⟨v,σ',H',I,r,q⟩:=h;exact⟨v,σ',H',I.untr,r,q⟩
end
def Iw(CX:iz)(X:Cx)(E:St->XK):Prop:=∀(pins:Po) (σ:St) (H:Hp) (s:Shared) (e:Value) (s':Shared),Inv X pins σ H s->CX X.stack H s (E σ) e s'->X.xe e s'
section
variable {X:Cx}{CX:iz}{k:Nat}{f C:Addr}{fd:Fy}{ps:Ls}{sp:Sp}{cZ:Lv}{ds:Lw}{E:St->XK}{x m:Str}{p pos apos:Pos}{e o:Expr}{es:List Expr}{ta:TE}{t:TA}
theorem aiM{pins:Po}{σ:St}{H:Hp}{s:Shared}{Q:VK}{us:Lw}{vs:Lv}(F:aj X.prog X.w X.K X.mg X.base CX k f fd ps sp)(hr:ce k X.A)(hb:Binds X.K fd ps ds)(hd:aQ cZ ds)(hx:Iw CX X E)
 (I:Inv X pins σ H s) (r:aQ vs us) (h:sp (vs++cZ) H Q (E σ)):wpAny (model X.prog X.w) X.A (call (.ref f) us) (EP X pins σ Q) X.xe s:=by
 have r2:aQ (vs++cZ) (us++ds):=r.append hd;have hl:(us++ds).length=ps.length:=by rw[←r2.length];exact F.len _ _ _ _ h
 refine GO (qM (F.run X.A X.stack s H ⟨us,[]⟩ (us++ds) (vs++cZ) Q (E σ) hr I.env0 (hb s us I.kIn hl) r2 h) fun r s' hq=>?_);cases r with
 | error e=>exact hx pins σ H s e s' I hq
 | ok fl=>
  cases fl with
  | ret u=>exact I.after hq
  | next=>exact False.elim hq
  | brk=>exact False.elim hq
  | cont=>exact False.elim hq
def aiN(sp:Sp)(cZ:Lv)(E:St->XK)(t:TA):TE:=fun σ H Q=>Hv sp cZ (E σ) t σ H Q
theorem Qu(F:aj X.prog X.w X.K X.mg X.base CX k f fd ps sp)(hr:ce k X.A)(hg:Gl X x)(hm:X.mg x=some (.ref f))(hk:PySem.W.keepIn X.K (.ref f)=true)(hb:Binds X.K fd ps ds)(hd:aQ cZ ds)(hx:Iw CX X E)
 (ha:PA X (e::es) t) (gU:(x == ("__debug__":Str))=false:=by decide) (he:starEach (e::es) X.env=(false,eval e X.env)::starEach es X.env:=by rfl) (dU:(backTo pos (starEach es X.env)).any (·.1)=false:=by rfl) :
 PE X (.Call (.Name x p) (e::es) [] pos) (aiN sp cZ E t):=by
 intro pins s σ H Q I h;refine yH (wu I hg hm ?_ gU);refine NP (h₀:=X.base) I.ok.mod.kin hk (thn (ha pos pins s σ H _ I h) fun us s1 aiO=>aiO.elim fun vs aiP=>aiP.elim fun H1 aiQ=>aiQ.elim fun I1 aiR=>aiR.elim fun r q=>⟨I1.kIn,?_⟩) he dU;exact aiM F hr hb hd hx I1 r q
end
section
variable {X:Cx}
end
theorem aU.okR{P:Program}{w:World}{K:Fg}{mg:Mv}{base:Heap}{x qual:Str}{st:Stmt}{f:Addr}{fd:Fy}{N ps:Ls}{k:Nat}{sp:Sp}(F:aU K x qual st f fd)(S:aP N ps (aA st))(len:∀vs H Q E,sp vs H Q E->vs.length=ps.length)
 (pH:∀(aw:Value) (A:Around) (outer:List Env) (s:Shared) (H:Hp) (vs:Lv) (Q:VK) (E:XK),ce k (A.deeper (envOfC qual (aA st) s.heap.objs.size f aw))->sp vs H Q E ->
  ∃t,cn (rD P w K mg base N qual (aA st) f aw A outer s H E) (da st) t/\t { nx:=fun _ H'=>Q .non H',rt:=Q } (start N vs) H):aj P w K mg base (ca P w) (k+1) f fd ps sp:=by
 obtain⟨oc,od,kV,doc,pm,an,aw,ct,iU,rfl,lk,iw⟩:=F.ex;exact Hz lk iw S len fun A outer s H vs Q E hr kZ=>pH aw A outer s H vs Q E hr kZ
section
variable {X:Cx}
theorem Qv:∀{Ds:List Addr}{us:Lw},aQ (Ds.map V.ref) us->us=Ds.map Value.ref
 | [],_,.nil=>rfl
 | D::Ds,_,.cons r t=>by
  rw[bL,Qv t]
  congr 1
def Ix(K:Fg)(H:Hp)(p q:ar×V):Prop:=p.1=q.1/\∃d,DV K H p.2 d/\DV K H q.2 d/\PySem.W.kqdOk 9 d=true
theorem aiS{kvs:List (ar×V)}(nd:(kvs.map (·.1)).Nodup){k:ar}{v:V}(h:(k,v)∈kvs):bh kvs k=some v:=by
 induction kvs with
 | nil=>cases h
 | cons p r ih=>
  rw[bL,qN]at nd
  rcases aY.mp h with e | h
  . subst e;exact jW rfl
  . rw[iW fun e=>nd.1 (by rw[e];exact gf (f:=(·.1)) h)];exact ih nd.2 h
theorem Qw{pins:Po}{σ:St}{H:Hp}{s:Shared}(I:Inv X pins σ H s)(hu:X.A.units+65<cLine){gB:List (ar×V)}{ws:List (ar×Value)}(nd:(gB.map (·.1)).Nodup)(gC:KV gB ws):∀{ka kb:List (ar×V)}{va:List (ar×Value)},Paired (Ix X.K H) ka kb->KV ka va->(∀p∈kb,p∈gB)->KeqHits X.A.in1 s ws va true
 | _,_,_,.nil,.nil,_=>.nil
 | _,_,_,.cons (a:=p) (b:=q) r t,.cons (b:=pv) rv tv,hm=>by
  obtain⟨e,d,d1,d2,ok⟩:=r;obtain⟨as,ra⟩:=d1.reads I rv.2;have hq:=aiS nd (k:=q.1) (v:=q.2) (hm q bK);have rel:=gC.val q.1;rw[hq]at rel;cases hy:valueAt ws q.1 with
  | none=>rw[hy]at rel;exact rel.elim
  | some y=>
   rw[hy]at rel;have rel:RelV q.2 y:=rel;obtain⟨bs,rb⟩:=d2.reads I rel;have Qx:=keq_at (A:=X.A) ra rb (rp ok) (rp ok) hu;have et:=(yK 9 d d 9 ok ok).mpr rfl;rw[et]at Qx;have hk:pv.1=q.1:=rv.1.symm.trans e;obtain⟨pk,pvv⟩:=pv;have hk:pk=q.1:=hk;subst hk;exact .hit (e:=true) (b:=true) hy Qx (Qw I hu nd gC t tv fun p hp=>hm p (bR _ hp))
end
end L2
namespace L2
open PySem PySem.Spec PyProof.Rows
section
variable {prog:Program}{w:World}{A:Around}{E:VP}{s:Shared}
end
section
variable {X:Cx}
end
end L2
namespace HT
open PySem PyProof.Rows
section
open PySem.SeqAt
open PySem.AutoSeq1 (wpAny_loadPart')
open PySem.MeetsSeq PySem.MeetsSeq2 PySem.MeetsSeq3
end
section
variable {prog:Program}{w:World}{A:Around}{E:VP}{s:Shared}
end
end HT
namespace L2
open PySem PySem.Spec PyProof.Rows
section
variable {X:Cx}
end
open PySem.W
section
variable {X:Cx}
theorem zK{P:Program}{w:World}:nQ (ca P w) X (fun _ _ _=>False):=fun _ _ _ _ _ _ _ h=>by
 obtain⟨_,_,_,_,_,_,_,_,_,_,_,_,_,q⟩:=h;exact q.elim
def Qy(K:Fg)(M:Addr)(ts:TS)(D:Ends):St->XK:=fun σ c _ H=>exmOne K c (.ref M)=some true/\ts D σ H
theorem Qz{M:Addr}{x:Str}{body:List Stmt}{b0:Stmt}{Iy:List Stmt}{np rE pos:Pos}{tb:(St->XK)->TS}{ts:TS}
 (fM:X.stack=X.env::X.outer) (uB:X.env.frame=some X.env.locals) (hm:X.mg x=some (.ref M)) (hg:Gl X x)
 (hb:∀XE pn E,Iw (ca X.prog X.w) (X.tr XE pn) E->cn (X.tr XE pn) body (tb E)) (hs:∀a,cn (X.exs a) (b0::Iy) ts) (gU:(x == ("__debug__":Str))=false:=by decide) :
 PS X (.Try body [.ExceptHandler (some (.Name x np)) none (b0::Iy) rE] [] [] pos) (fun D σ H=>tb (Qy X.K M ts D) D σ H):=by
 intro pins s σ H D I h;refine wpAny_Try_except ?_;refine d8 (hb (fun e s₁=>wpAny (model X.prog X.w) X.A (noteFrame e X.env) (fun _ s₂=>wpAny (model X.prog X.w) X.A (setFlight e none) (fun _ s₃=>wpAny (model X.prog X.w) X.A (handleBy e X.env [.ExceptHandler (some (.Name x np)) none (b0::Iy) rE]) (SP X pins D) X.xe s₃) X.xe s₂) X.xe s₁)
  pins (Qy X.K M ts D) ?_ [] s σ H D (I.tr _) h) (fun f s1 z=>?_) fun _ _ z=>z
 . intro ps σ1 H1 s1 e s' I1 hx;have I1:=I1.untr;obtain⟨a,c,H',B,a0,rfl,os,bare,un,hok,na,fl,big,hx1,pT⟩:=hx;have fl:Heap.FlyingW B (X.env::X.outer) a c a0 s'.heap:=fM▸fl;have hfm:X.A.frames=some (X.env::X.outer):=fM▸I1.ok.frames;have un:Un (cE X.stack) [] H1 H' s1.heap s'.heap:=un;have big:∀b o,s'.heap.get? b=some o->((H' b).isSome=true\/∃o',s1.heap.get? b=some o')->b∉cE X.stack->B.get? b=some o:=big;have J0:=I1.call' (ch:=[]) os un hok bare (fun b z=>nomatch z);have nf:∀b o,s'.heap.get? b=some o->b∈cE X.stack->∀vs,o.data≠.fields vs:=fun b o e hb=>by
    obtain⟨o1,e1,n1⟩:=J0.nofld hb;rw[e]at e1;cases e1;exact n1
   refine wpAny_looks_onW hfm uB fl fun h4 held sm4=>?_;refine wpAny_landsW held fun h5 Iz sm5=>?_;have f5:mD X.stack B H' s1.heap s'.heap h5:=⟨big,Iz.1,fun b o e hb=>(sm4.trans sm5) b o e (nf b o e hb)⟩;have J5:Inv X pins σ1 H' { s' with heap:=h5 }:=I1.call' (ch:=[]) os (f5.un un (fun _ z=>.inl z) fun _ z=>z) (f5.hok hok J0.stkFree) bare (fun b z=>nomatch z);refine wpAny_handleBy_cons (codeAny_handlers_test ?_) (by intro q;cases q);refine wu (J5.exs a) hg hm ?_ gU;have LT:Looks (model X.prog X.w) h5 (typeOf (.ref a)) c:=by
    obtain⟨ob,o1,o2⟩:=Iz.there;exact o2▸(Looks.ld o1).andThen .now
   refine(exm_one J5.kIn LT hx1).here ?_;refine codeAny_handlers_suite ?_;refine lands_againW Iz fun h6 fl6 zL=>?_;have f6:=f5.on fl6.1 zL nf;have J6:Inv X pins σ1 H' { s' with heap:=h6 }:=I1.call' (ch:=[]) os (f6.un un (fun _ z=>.inl z) fun _ z=>z) (f6.hok hok J0.stkFree) bare (fun b z=>nomatch z);refine d8 (hs a pins _ _ _ _ (J6.exs a) pT) (fun f s8 z=>?_) fun _ _ z=>z.elim;cases f with
   | next=>
    obtain⟨σ8,H8,J8,q8⟩:=z;exact⟨_,H8,J8.unexs J6.ok,q8⟩
   | brk=>
    obtain⟨σ8,H8,J8,q8⟩:=z;exact⟨_,H8,J8.unexs J6.ok,q8⟩
   | cont=>
    obtain⟨σ8,H8,J8,q8⟩:=z;exact⟨_,H8,J8.unexs J6.ok,q8⟩
   | ret u=>
    obtain⟨v,σ8,H8,J8,r8,q8⟩:=z;exact⟨v,_,H8,J8.unexs J6.ok,r8,q8⟩
 . have z:=z.untr;cases f with
   | next=>exact GN z
   | brk=>exact z
   | cont=>exact z
   | ret u=>exact z
def aiY(K:Fg):V->V->Hp->VK->Prop:=fun x y H Q=>∃d e,DV K H x d/\DV K H y e/\PySem.W.kqdOk 9 d=true/\PySem.W.kqdOk 9 e=true/\∀b:Bool,(b=true↔d=e)->Q (.bl (!b)) H
theorem aiZ(K:Fg)(hu:X.A.units+64<cLine)(h:X.K=K:=by rfl):cL X (compareOp .NotEq) (aiY K):=h▸PP hu
end
end L2
namespace L2
open PySem
def pU(m:Nat):Prop:=m=7\/m=15\/m=31\/m=63\/m=127\/m=255
def pV(mask:Nat):Nat->Nat->Nat
 | 0,i=>i
 | m+1,i=>pV mask m ((i * 5+1) % (mask+1))
theorem Dh(mask:Nat):∀(m k i:Nat),pV mask (m+k) i=pV mask k (pV mask m i)
 | 0,k,i=>by rw[GV];rfl
 | m+1,k,i=>by
  rw[Nat.succ_add];exact Dh mask m k _
def ai0(mask:Nat):Bool:=pV mask (mask+1) 0 == 0 && (List.range (mask+1)).all fun j=>(List.range (mask+1)).any fun m=>pV mask m 0 == j
theorem ai1{mask:Nat}(h:pU mask):ai0 mask=true:=by
 rcases h with rfl | rfl | rfl | rfl | rfl | rfl
 . decide +kernel
 . decide +kernel
 . decide +kernel
 . decide +kernel
 . decide +kernel
 . decide +kernel
theorem ai2{mask i j:Nat}(h:pU mask)(hi:i<=mask)(hj:j<=mask):∃m,m<=mask/\pV mask m i=j:=by
 obtain⟨h0,h1⟩:=yN.mp (ai1 h);have h0:=eq_of_beq h0;have QA:∀z,z<=mask->∃m,m<=mask/\pV mask m 0=z:=fun z hz=>by
  obtain⟨m,hm,e⟩:=yM.mp (jk.mp h1 z (Ca.mpr (by omega)));exact⟨m,by have:=Ca.mp hm;omega,eq_of_beq e⟩
 obtain⟨a,ha,ea⟩:=QA i hi;obtain⟨b,hb,eb⟩:=QA j hj
 by_cases le:a<=b
 . refine⟨b - a,by omega,?_⟩;rw[←ea,←Dh,show a+(b - a)=b by omega];exact eb
 . refine⟨b+(mask+1) - a,by omega,?_⟩;rw[←ea,←Dh,show a+(b+(mask+1) - a)=(mask+1)+b by omega,Dh,h0];exact eb
def jo(mask:Nat):Nat->Nat->Nat->Nat×Nat
 | 0,i,p=>(i,p)
 | m+1,i,p=>jo mask m ((i * 5+1+p / 32) % (mask+1)) (p / 32)
theorem QB(mask:Nat):∀(m i:Nat),jo mask m i 0=(pV mask m i,0)
 | 0,i=>rfl
 | m+1,i=>by
  show jo mask m ((i * 5+1+0 / 32) % (mask+1)) (0 / 32)=_;rw[Nat.zero_div,N5,QB mask m];rfl
theorem QC(mask:Nat):∀(m k i p:Nat),jo mask (m+k) i p=jo mask k (jo mask m i p).1 (jo mask m i p).2
 | 0,k,i,p=>by rw[GV];rfl
 | m+1,k,i,p=>by
  rw[Nat.succ_add];exact QC mask m k _ _
theorem QD(mask:Nat):∀(m i p:Nat),(jo mask m i p).2=p / 32 ^ m
 | 0,i,p=>by simp[jo]
 | m+1,i,p=>by
  show(jo mask m _ (p / 32)).2=_;rw[QD mask m,Nat.div_div_eq_div_mul,Nat.pow_succ,Nat.mul_comm]
theorem QE(mask:Nat):∀(m i p:Nat),i<=mask->(jo mask m i p).1<=mask
 | 0,i,p,h=>h
 | m+1,i,p,h=>QE mask m _ _ (Nat.le_of_lt_succ (GW (i * 5+1+p / 32) (Nat.succ_pos mask)))
theorem ai3{mask i p j:Nat}(h:pU mask)(hi:i<=mask)(hp:p<2 ^ 64)(hj:j<=mask):∃m,m<SetTable.turns mask/\(jo mask m i p).1=j:=by
 have h2:(jo mask 13 i p).2=0:=by
  rw[QD];exact Nat.div_eq_of_lt (yJ hp (by decide))
 obtain⟨m,hm,e⟩:=ai2 h (QE mask 13 i p hi) hj;refine⟨13+m,by unfold SetTable.turns;omega,?_⟩;rw[QC,h2,QB];exact e
theorem QF(mask:Nat)(ow:Array (Option Nat)):∀(f i p:Nat),SetTable.layClean.free mask ow f i p=none->∀m,m<f->(ow.getD (jo mask m i p).1 (some 0)).isNone=false
 | 0,i,p,_,m,h=>absurd h (N6 _)
 | f+1,i,p,e,m,h=>by
  unfold SetTable.layClean.free at e;cases hq:(List.range (SetTable.runEnd mask i+1 - i)).find? fun k=>(ow.getD (i+k) (some 0)).isNone with
  | some k=>rw[hq]at e;cases e
  | none=>
   rw[hq]at e;cases m with
   | zero=>
    have:=Wu.mp hq 0 (Ca.mpr (by unfold SetTable.runEnd;split<;>omega));rw[N5]at this;cases hz:(ow.getD i (some 0)).isNone with
    | true=>exact absurd hz this
    | false=>exact hz
   | succ m=>exact QF mask ow f _ _ e m (by omega)
theorem QG(mask:Nat)(ow:Array (Option Nat)):∀(f i p j:Nat),SetTable.layClean.free mask ow f i p=some j->(ow.getD j (some 0)).isNone=true
 | 0,i,p,j,e=>by cases e
 | f+1,i,p,j,e=>by
  unfold SetTable.layClean.free at e;cases hq:(List.range (SetTable.runEnd mask i+1 - i)).find? fun k=>(ow.getD (i+k) (some 0)).isNone with
  | some k=>
   rw[hq]at e;cases e;exact List.find?_some (p:=fun k=>(ow.getD (i+k) (some 0)).isNone) hq
  | none=>
   rw[hq]at e;exact QG mask ow f _ _ j e
theorem QH{α:Type}:∀{l:List (Option α)}{j:Nat}{x:α},l[j]?=some none->((l.set j (some x)).filterMap id).Perm (x::l.filterMap id)
 | [],j,x,h=>by cases h
 | o::l,0,x,h=>by
  cases h;simp
 | o::l,j+1,x,h=>by
  have ih:=QH (l:=l) (j:=j) (x:=x) h;rw[List.set_cons_succ];cases o with
  | none=>simpa using ih
  | some y=>
   simp only[GL,id];exact(ih.cons y).trans (.swap ..)
structure Lay(mask:Nat)(r:Array (Option Nat)×Nat):Prop where
 size:r.1.size=mask+1
 perm:(r.1.toList.filterMap id).Perm (List.range r.2)
theorem Lay.step{mask:Nat}(hm:pU mask){r:Array (Option Nat)×Nat}(x:Lay mask r)(hk:r.2<=mask)(h:Int):∃j,SetTable.layClean.free mask r.1 (SetTable.turns mask) (SetTable.bits h % (mask+1)) (SetTable.bits h)=some j/\Lay mask (r.1.setIfInBounds j (some r.2),r.2+1):=by
 obtain⟨ow,k⟩:=r;dsimp only at *;have hz:ow.size=mask+1:=x.size;have hlen:=x.perm.length_eq;dsimp only at hlen;rw[N7]at hlen;cases hf:SetTable.layClean.free mask ow (SetTable.turns mask) (SetTable.bits h % (mask+1)) (SetTable.bits h) with
 | none=>
  exfalso;have qY:∀j,j<=mask->(ow.getD j (some 0)).isNone=false:=fun j hj=>by
   obtain⟨m,h1,h2⟩:=ai3 hm (i:=SetTable.bits h % (mask+1)) (p:=SetTable.bits h) (Nat.le_of_lt_succ (GW (SetTable.bits h) (Nat.succ_pos mask))) (by
    unfold SetTable.bits;have h1:=Co h (show(0:Int)<2 ^ 64 by decide);have h0:=yO h (show(2 ^ 64:Int)≠0 by decide);omega) hj
   have:=QF mask ow _ _ _ hf m h1
   rwa [h2]at this
  have:(ow.toList.filterMap id).length=ow.toList.length:=by
   rw[List.length_filterMap_eq_countP,List.countP_eq_length];intro o ho;obtain⟨j,hj,e⟩:=WE.mp ho;rw[eT]at hj;have:=qY j (by omega);rw[N8,qR hj]at this;rw[←e,Array.getElem_toList];cases hq:ow[j]with
   | none=>rw[hq]at this;cases this
   | some y=>rfl
  have e9:ow.toList.length=ow.size:=eT;omega
 | some j=>
  have hs:=QG mask ow _ _ _ _ hf;have hj:j<ow.size:=by
   refine Nat.lt_of_not_le fun z=>?_;rw[N8,WF z]at hs;cases hs
  have hn:ow.toList[j]?=some none:=by
   rw[N8,qR hj]at hs;rw[wk,qR hj];cases hq:ow[j]with
   | none=>rfl
   | some y=>rw[hq]at hs;cases hs
  refine⟨j,rfl,⟨by simp[hz],?_⟩⟩;dsimp only;rw[Array.toList_setIfInBounds,List.range_succ];exact(QH hn).trans ((x.perm.cons k).trans (List.perm_append_singleton k _).symm)
theorem QI{mask:Nat}(hm:pU mask):∀(hs:List Int) (r:Array (Option Nat)×Nat),Lay mask r->r.2+hs.length<=mask+1->∃r',hs.foldl (fun(acc:Option (Array (Option Nat)×Nat)) h=>do
 let (owner,k) ←acc
 let j ←SetTable.layClean.free mask owner (SetTable.turns mask) (SetTable.bits h % (mask+1)) (SetTable.bits h)
 pure (owner.setIfInBounds j (some k),k+1)) (some r)=some r'/\Lay mask r'/\r'.2=r.2+hs.length
 | [],r,x,_=>⟨r,rfl,x,rfl⟩
 | h::hs,r,x,hl=>by
  rw[cg]at hl;obtain⟨j,e,x'⟩:=x.step hm (by omega) h;obtain⟨r',e1,x1,e2⟩:=QI hm hs _ x' (by dsimp only;omega);refine⟨r',?_,x1,by rw[e2,cg];dsimp only;omega⟩;rw[l8,←e1]
  congr 1
  show(SetTable.layClean.free mask r.1 (SetTable.turns mask) (SetTable.bits h % (mask+1)) (SetTable.bits h)).bind _=_;rw[e];rfl
theorem QJ{mask f m:Nat}{led plain:Bool}{hs:Array Int}(hm:pU mask)(hl:hs.size<=mask):∃t order,SetTable.laid mask f m led plain hs=some (t,order)/\order.toList.Perm (List.range hs.size)/\t.fits hs.size=true/\t.led=led/\t.plain=plain/\t.mask=mask:=by
 have x0:Lay mask (Array.replicate (mask+1) none,0):=⟨by simp,by simp⟩;obtain⟨r,e,x,e2⟩:=QI hm hs.toList _ x0 (by dsimp only;rw[eT];omega);have hc:SetTable.layClean mask hs=some r.1:=by
  unfold SetTable.layClean;rw[←Array.foldl_toList,e];rfl
 dsimp only at e2;rw[GV,eT]at e2;have ho:((List.range (mask+1)).filterMap fun j=>(r.1.getD j none).map (j,·)).map (·.2)=r.1.toList.filterMap id:=by
  have e3:r.1.toList=(List.range (mask+1)).map fun j=>r.1.getD j none:=by
   refine List.ext_getElem? fun j=>?_;rw[dH,wk]
   by_cases hj:j<mask+1
   . rw[List.getElem?_range hj,qR (by rw[x.size];exact hj),tL,N8,qR (by rw[x.size];exact hj)];rfl
   . rw[WF (by rw[x.size];omega),axV (by rw[N7];omega)];rfl
  rw[e3,List.filterMap_map,List.map_filterMap]
  congr 1
  funext j
  show Option.map _ (Option.map _ (r.1.getD j none))=r.1.getD j none;cases r.1.getD j none<;>rfl
 have hlen:((List.range (mask+1)).filterMap fun j=>(r.1.getD j none).map (j,·)).length=hs.size:=by
  have:=eN List.length ho;rw[ao,x.perm.length_eq,N7,e2]at this;exact this
 unfold SetTable.laid;rw[hc];refine⟨_,_,rfl,?_,?_,rfl,rfl,rfl⟩
 . show(((List.range (mask+1)).filterMap fun j=>(r.1.getD j none).map (j,·)).map (·.2)).Perm _;rw[ho,←e2];exact x.perm
 . unfold SetTable.fits SetTable.fill;have hp:((((List.range (mask+1)).filterMap fun j=>(r.1.getD j none).map (j,·)).map (·.1)).toArray).size=hs.size:=by
    rw[fo,ao];exact hlen
   have e9:(#[]:Array Nat).size=0:=rfl;rw[gR];refine⟨kK.mpr hp,bN ?_⟩;show _+(#[]:Array Nat).size<=mask;rw[e9,N5];exact cu (Cc hp) hl
open PySem.Spec PyProof.Rows
def eW(w:World):Bool:=w.params.followText "set-order"
def g9(e:Int×Value):Str:=match e.2 with
 | .str y _=>y
 | _=>Str.ofString ""
def og(w:World)(e:Int×Value):Prop:=∃y tk,e=(md w (.inr y),Value.str y tk)
structure eB(w:World)(o:Obj)(es:Array (Int×Value))(ep:Nat)(t:SetTable)(xs:Ls):Prop where
 ex:o.ExactSet
 dat:o.data=.set es ep t
 good:∀e∈es.toList,og w e
 perm:(es.toList.map g9).Perm xs
 nd:xs.Nodup
 len:xs.length<=1000
 fit:t.fits es.size=true
 led:t.led = !eW w
 pl:es.size≠0->t.plain=false
 msk:es.size=0->pU t.mask
def cG(w:World)(h:Heap)(a:Addr)(xs:Ls):Prop:=∃o es ep t,h.get? a=some o/\eB w o es ep t xs
theorem cG.at'{w:World}{h h':Heap}{a:Addr}{xs:Ls}(x:cG w h a xs)(k:∀o,h.get? a=some o->h'.get? a=some o):cG w h' a xs:=
 x.elim fun o ai4=>ai4.elim fun es ai5=>ai5.elim fun ep ai6=>ai6.elim fun t ai7=>ai7.elim fun e r=>⟨o,es,ep,t,k o e,r⟩
theorem cG.typeIs{w:World}{s:Shared}{a:Addr}{xs:Ls}(x:cG w s.heap a xs):s.TypeIs (.ref a) "set":=x.elim fun o ai8=>ai8.elim fun _ ai9=>ai9.elim fun _ aja=>aja.elim fun _ ajb=>ajb.elim fun e r=>⟨o,e,r.ex.1⟩
section
variable {w:World}{P:Program}{o:Obj}{es:Array (Int×Value)} {ep:Nat}{t:SetTable}{xs:Ls}
theorem eB.elems(x:eB w o es ep t xs):ElemsOf (cw P w) es.toList:=fun e he=>by
 obtain⟨y,tk,rfl⟩:=x.good e he;exact⟨⟨.inr y,tR P w y tk,rfl⟩,rfl⟩
theorem eB.size(x:eB w o es ep t xs):es.size=xs.length:=by
 have:=x.perm.length_eq;rw[ao,eT]at this;exact this
theorem eB.bnd(x:eB w o es ep t xs):es.size<scanBound:=by
 rw[x.size];have:=x.len;show _<4096;omega
theorem QK{y:Str}{e:Int×Value}(g:og w e):(cw P w).is (.inr y) e.2=true↔g9 e=y:=by
 obtain⟨z,tk,rfl⟩:=g;constructor
 . intro h;have:=(cw P w).inj _ _ _ h (tR P w z tk);injection this with this
   exact this.symm
 . intro h;rw[←h];exact tR P w z tk
theorem eB.find_some(x:eB w o es ep t xs){y:Str}{j:Nat}(h:List.findIdx? (fun e=>(cw P w).is (.inr y) e.2) es.toList=some j):y∈xs:=by
 obtain⟨hj,hp,_⟩:=List.findIdx?_eq_some_iff_getElem.mp h;have hm:=Ob hj;exact x.perm.mem_iff.mp (cD.mpr ⟨_,hm,(QK (x.good _ hm)).mp hp⟩)
theorem eB.find_none(x:eB w o es ep t xs){y:Str}(h:List.findIdx? (fun e=>(cw P w).is (.inr y) e.2) es.toList=none):y∉xs:=fun hy=>by
 obtain⟨e,he,hk⟩:=cD.mp (x.perm.mem_iff.mpr hy);have:=List.findIdx?_eq_none_iff.mp h e he;rw[(QK (x.good _ he)).mpr hk]at this;cases this
end
theorem ajc(t:SetTable)(es:Array (Int×Value))(h:Int)(x:Value):(layNew t es h x).2.1.led=t.led:=by
 unfold layNew;split
 . dsimp only;unfold SetTable.orStandIn;split<;>rfl
 . rfl
theorem ajd{mask f m:Nat}{led plain:Bool}{hs:Array Int}{r:SetTable×Array Nat}(e:SetTable.laid mask f m led plain hs=some r):r.1.led=led/\r.1.plain=plain/\r.1.mask=mask/\r.1.dummies = #[]:=by
 unfold SetTable.laid at e;cases hq:SetTable.layClean mask hs with
 | none=>rw[hq]at e;cases e
 | some ow=>
  rw[hq]at e;cases e;exact⟨rfl,rfl,rfl,rfl⟩
theorem aje(t:SetTable)(es:Array (Int×Value))(n:Nat):(relayAll t es n).2.1.led=t.led/\(t.plain=false->(relayAll t es n).2.1.plain=false):=by
 unfold relayAll;split
 . rename_i t' order e;dsimp only;split
   . obtain⟨h1,h2,_⟩:=ajd e;exact⟨h1,fun z=>h2.trans z⟩
   . exact⟨rfl,fun _=>rfl⟩
 . exact⟨rfl,fun _=>rfl⟩
def iE(xs:Ls)(y:Str):Ls:=if y∈xs then xs else xs++[y]
theorem QL{xs:Ls}{y:Str}(h:xs.Nodup):(iE xs y).Nodup:=by
 unfold iE;split
 . exact h
 . rename_i z;rw[tN];exact⟨h,by simp,fun a ha b hb=>by rw[bw.mp hb];exact fun q=>z (q▸ha)⟩
theorem IA{xs:Ls}{y z:Str}:z∈iE xs y↔z∈xs\/z=y:=by
 unfold iE;split
 . rename_i h;exact⟨.inl,fun q=>q.elim id fun q=>q▸h⟩
 . simp
theorem Di(xs:Ls)(y:Str):(iE xs y).length<=xs.length+1:=by
 unfold iE;split
 . omega
 . simp
section
variable {prog:Program}{w:World}{A:Around}{E:VP}{s:Shared}{a:Addr}
theorem eB.store{h:Heap}{o:Obj}{es es':Array (Int×Value)}{ep:Nat}{t t':SetTable}(ho:h.get? a=some o)(x:o.ExactSet)(d:o.data=.set es ep t):(h.update a (Obj.putSet es' t')).get? a=some { o with data:=.set es' (ep+1) t' }:=by
 have q:=Cm (Obj.putSet es' t') ho (by rw[putSet_of es' t' d];rfl)
 rwa [putSet_of es' t' d]at q
theorem QM{g:Bool->Sem Unit}(hg:∀(b:Bool) (s₁:Shared) (Q':Unit->Shared->Prop),Q' () s₁->wpAny (model prog w) A (g b) Q' E s₁){o:Obj}{es cX:Array (Int×Value)}{ep:Nat}{t t2:SetTable}{ys:Ls}{wd:Bool}{R:Option Bool->Shared->Prop}
 (ho:s.heap.get? a=some o) (hx:o.ExactSet) (hd:o.data=.set es ep t) (gd:∀e∈cX.toList,og w e) (pm:(cX.toList.map g9).Perm ys) (nd:ys.Nodup) (ln:ys.length<=1000) (hf:t2.fits cX.size=true) (ld:t2.led = !eW w) (pl:t2.plain=false) (ne:cX.size≠0)
 (h:∀h',Heap.SameBut a s.heap h'->cG w h' a ys->R (some true) { s with heap:=h' }) :
 wpAny (model prog w) A (do { storeSet a cX t2;if (!wd && t2.tooFull)=true then do { g (relayAll t2 cX (SetTable.grown cX.size)).2.2;storeSet a (relayAll t2 cX (SetTable.grown cX.size)).1 (relayAll t2 cX (SetTable.grown cX.size)).2.1;pure (some true) } else pure (some true) }) R E s:=by
 have sz:cX.size=ys.length:=by have:=pm.length_eq;rw[ao,eT]at this;exact this
 have b1:cX.size<scanBound:=by rw[sz];show _<4096;omega
 refine af (Cp ho hd ?_ (yP b1));have o1:=eB.store (es':=cX) (t':=t2) ho hx hd;have sb:=lZ s.heap a (Obj.putSet cX t2);split
 . have hp:=relayAll_perm t2 cX (SetTable.grown cX.size);have uB:=relayAll_fits t2 cX (SetTable.grown cX.size);have Dj:=aje t2 cX (SetTable.grown cX.size);generalize hR:relayAll t2 cX (SetTable.grown cX.size)=Rl at hp uB Dj ⊢;obtain⟨IB,t3,g2⟩:=Rl;dsimp only at hp uB Dj ⊢;have QN:IB.size=cX.size:=by rw[←eT,hp.length_eq,eT]
   refine af (hg _ _ _ (af (Cp o1 rfl ?_ (yP (by rw[QN];exact b1)))));have o2:=eB.store (es':=IB) (t':=t3) o1 hx rfl;exact au (h _ (sb.trans (lZ _ a _)) ⟨_,IB,_,t3,o2,hx,rfl,fun e he=>gd e (hp.mem_iff.mp he),(hp.map g9).trans pm,nd,ln,uB,Dj.1.trans ld,fun _=>Dj.2 pl,fun z=>absurd (QN.symm.trans z) ne⟩)
 . exact au (h _ sb ⟨_,cX,_,t2,o1,hx,rfl,gd,pm,nd,ln,hf,ld,fun _=>pl,fun z=>absurd z ne⟩)
theorem IC{xs:Ls}{y:Str}{tk:Tok}{Q:Bool->Shared->Prop}(hS:cG w s.heap a xs)(hl:xs.length<1000)(h:∀b h',Heap.SameBut a s.heap h'->cG w h' a (iE xs y)->Q b { s with heap:=h' }) :
 wpAny (model prog w) A (setAddHashed a (.str y tk) (md w (.inr y))) Q E s:=by
 obtain⟨o,es,ep,t,ho,x⟩:=hS;have el:ElemsOf (cw prog w) es.toList:=x.elems;unfold setAddHashed setAddHashedIn;refine jO (af (iu ho x.dat x.fit ?_));dsimp only;rw[byScan_of (x:=.str y tk) rfl x.bnd el];simp only[↓reduceIte];unfold setAddByScan;refine af (af (pi (af (wpAny_setScan_of (knd:=cw prog w) (k:=.inr y) (tR prog w y tk) ho x.dat x.fit el ?_))));cases hr:List.findIdx? (fun e=>(cw prog w).is (.inr y) e.2) es.toList with
 | some j=>
  dsimp only;refine au (au ?_);have hy:=x.find_some hr;exact h false s.heap (GX a s.heap) (by unfold iE;rw[al hy];exact⟨o,es,ep,t,ho,x⟩)
 | none=>
  dsimp only;have hy:=x.find_none hr;have zM:=layNew_perm t es (md w (.inr y)) (.str y tk);have Dl:=layNew_fits t es (md w (.inr y)) (.str y tk);have Dm:=ajc t es (md w (.inr y)) (.str y tk);have e0:(cw prog w).hash (.inr y)=md w (.inr y):=rfl
  try rw[e0]
  generalize hL:layNew t es (md w (.inr y)) (.str y tk)=L at zM Dl Dm ⊢;obtain⟨cX,t1,wd,ayn⟩:=L;dsimp only at zM Dl Dm ⊢;rw[Array.toList_push]at zM;have gd:∀e∈cX.toList,og w e:=fun e he=>by
   rcases bS.mp (zM.mem_iff.mp he) with z | z
   . exact x.good e z
   . exact⟨y,tk,bw.mp z⟩
  have ea:iE xs y=xs++[y]:=by unfold iE;rw[ai hy]
  have pm:(cX.toList.map g9).Perm (iE xs y):=by
   rw[ea];refine(zM.map g9).trans ?_;rw[dz];exact x.perm.append_right _
  have ne:cX.size≠0:=fun z=>by
   have:=pm.length_eq;rw[ea,ao,eT,z,bj]at this;simp at this
  have ln:(iE xs y).length<=1000:=by have:=Di xs y;omega
  have hgw:∀(b:Bool) {s₁:Shared}{Q':Unit->Shared->Prop},Q' () s₁->wpAny (model prog w) A (match b with | true=>rule "set.scan.the-table-gave-way" | false=>pure ()) Q' E s₁:=fun b s₁ Q' hq=>by
   cases b
   . exact au hq
   . exact pi hq
  refine af (hgw _ ?_);have fin:∀h',Heap.SameBut a s.heap h'->cG w h' a (iE xs y)->wpAny (model prog w) A (pure true:Sem Bool) Q E { s with heap:=h' }:=fun h' k z=>au (h true h' k z);split
  . refine af ?_;rw[hashByValue_scannable (x:=.str y tk) 8 rfl];refine au ?_;refine QM ?_ ho x.ex x.dat gd pm (QL x.nd) ln ?_ ?_ ?_ ne (fun h' k z=>fin h' k z)
    . intro b s₁ Q' hq;cases b
      . exact au hq
      . exact pi hq
    . exact SetTable.fits_plain_off Dl
    . exact Dm.trans x.led
    . rfl
  . rename_i hp1;refine af (au ?_);simp only[↓reduceIte];refine QM ?_ ho x.ex x.dat gd pm (QL x.nd) ln Dl (Dm.trans x.led) (by simpa using hp1) ne (fun h' k z=>fin h' k z);intro b s₁ Q' hq;cases b
    . exact au hq
    . exact pi hq
end
theorem ID{α:Type}:∀{l:List α}{i:Nat} (h:i<l.length),(l[i]::l.eraseIdx i).Perm l
 | [],i,h=>absurd h (N6 _)
 | x::r,0,h=>.refl _
 | x::r,i+1,h=>by
  have h':i<r.length:=by simpa using h
  show(r[i]::x::r.eraseIdx i).Perm _;exact(List.Perm.swap ..).trans ((ID (l:=r) (i:=i) h').cons x)
theorem QO{α:Type}(next:Nat->Nat):∀(f k:Nat) (left:List α) (out:Array α),f=left.length->(pickOrder.go next f k left out).toList.Perm (out.toList++left)
 | 0,k,left,out,h=>by
  rw[Cn.mp h.symm];simp[pickOrder.go]
 | f+1,k,left,out,h=>by
  have hp:next k % left.length<left.length:=GW _ (by omega);unfold pickOrder.go;rw[jl hp];dsimp only;refine(QO next f (k+1) _ _ (by rw[axW hp];omega)).trans ?_;rw[Array.toList_push,kN];exact List.Perm.append_left _ (ID hp)
theorem QP{α:Type}(next:Nat->Nat)(xs:Array α):(pickOrder next xs).toList.Perm xs.toList:=by
 have:=QO next xs.size 0 xs.toList #[] (by simp);simpa [pickOrder]using this
section
variable {prog:Program}{w:World}{A:Around}{E:VP}{s:Shared}{a:Addr}
theorem ajh{n:Nat}(hn:n≠0){Q:Nat->Shared->Prop}(h:∀i d,i<n->Q i { s with drawn:=d }):wpAny (model prog w) A (choose .order n) Q E s:=fun Γ p hΓ=>by
 unfold choose;rw[Sem.wp_choose];refine⟨hn,?_⟩;simp only[Sem.wp_pure];exact h _ _ (GW _ (Nat.pos_of_ne_zero hn))
theorem QQ{α:Type}:∀(n:Nat) (l:List α) (s:Shared) (Q:List α->Shared->Prop),n=l.length->(∀out d,out.Perm l->Q out { s with drawn:=d })->wpAny (model prog w) A (drawOrder n l) Q E s
 | 0,l,s,Q,hn,h=>by
  have hl:=Cn.mp hn.symm;subst hl;exact au (h [] s.drawn .nil)
 | n+1,l,s,Q,hn,h=>by
  cases l with
  | nil=>cases hn
  | cons x r=>
   show wpAny _ _ (choose .order (x::r).length >>= _) _ _ _;refine af (ajh (by simp) fun i d hi=>?_);rw[jl hi];dsimp only;refine af (QQ n ((x::r).eraseIdx i) _ _ (by rw[axW hi];simp at hn ⊢;omega) fun out d2 hp=>au ?_);exact h _ d2 ((hp.cons _).trans (ID hi))
end
def iF(h:Heap)(it a:Addr)(ep n:Nat)(f:Value)(i:Nat):Prop:=∃o,h.get? it=some o/\o.cls=.type "set_iterator"/\o.data=.fields #[f,rawInt i,.ref a,rawInt n,rawInt ep]
theorem iF.at'{h h':Heap}{it a:Addr}{ep n i:Nat}{f:Value}(x:iF h it a ep n f i)(k:∀o,h.get? it=some o->h'.get? it=some o):iF h' it a ep n f i:=x.elim fun o aji=>aji.elim fun e r=>⟨o,k _ e,r⟩
theorem iF.typeIs{s:Shared}{it a:Addr}{ep n i:Nat}{f:Value}(x:iF s.heap it a ep n f i):s.TypeIs (.ref it) "set_iterator":=x.elim fun o ajj=>ajj.elim fun e ajk=>ajk.elim fun r _=>⟨o,e,r⟩
inductive Md (w:World) (h:Heap) (I a T:Addr) (es:Array (Int×Value)) (ep:Nat) (t:SetTable) (os:List (Int×Value)) (i:Nat):Prop
 | text (b:eW w=true) (e:os=(pickOrder (w.params.setOrder a ep) es).toList) (x:iF h I a ep es.size (rawInt 0) i)
 | draw (pl:List Nat) (b:eW w=false) (e:os.length=pl.length/\∀(k j:Nat),pl[k]?=some j->os[k]?=es[j]?) (x:iF h I a ep es.size (.ref T) i) (y:∃o n,h.get? T=some o/\o.data=.seq (pl.map fun j=>rawInt (j:Nat)).toArray n) (z:I≠T)
 | tab (sl:Nat) (b:eW w=false) (l:es.size<=1) (e:os=es.toList) (x:iF h I a ep es.size (rawInt sl) i) (y:SetTable.below t.place sl=i)
def wP(w:World)(I a T:Addr)(os:List (Int×Value))(i:Nat)(h:Heap):Prop:=∃o es ep t xs,h.get? a=some o/\eB w o es ep t xs/\os.Perm es.toList/\I≠a/\Md w h I a T es ep t os i
section
variable {prog:Program}{w:World}{A:Around}{E:VP}{s:Shared}{a it:Addr}
theorem IE{ep n i:Nat}{f v:Value}{Q:Unit->Shared->Prop}(x:iF s.heap it a ep n f i)(q:∀h',Heap.SameBut it s.heap h'->iF h' it a ep n v i->Q () { s with heap:=h' }):wpAny (model prog w) A (setField (.ref it) 0 v) Q E s:=by
 obtain⟨o,ho,hc,hd⟩:=x;exact WG ho hd (by simp) (q _ (lZ ..) ⟨_,Cm _ ho (axX (Oc hd _)),(Obj.cls_mapFields ..).trans hc,by rw[Oc hd];simp⟩)
theorem IF{ep n i:Nat}{f:Value}{Q:Unit->Shared->Prop}(x:iF s.heap it a ep n f i)(q:∀h',Heap.SameBut it s.heap h'->iF h' it a ep n f (i+1)->Q () { s with heap:=h' }):wpAny (model prog w) A (setField (.ref it) 1 (rawInt ((i:Int)+1))) Q E s:=by
 obtain⟨o,ho,hc,hd⟩:=x;exact WG ho hd (by simp) (q _ (lZ ..) ⟨_,Cm _ ho (axX (Oc hd _)),(Obj.cls_mapFields ..).trans hc,by rw[Oc hd];simp[rawInt]⟩)
theorem IG{ep n i:Nat}{f:Value}{R:PySem.Fin->Shared->Prop}{E':VP}(hh:A.handled=none)(x:iF s.heap it a ep n f i)
 (q:∀h' e,Heap.ExtBut it s.heap h'->Shared.TypeIs { s with heap:=h' } e "StopIteration"->E' e { s with heap:=h' }):wpAny (model prog w) A.in1 (do { setField (.ref it) 2 .none;raiseNew (←newExc (.type "StopIteration") []) }) R E' s:=by
 obtain⟨o,ho,hc,hd⟩:=x;refine af (WG ho hd (by simp) ?_);show wpAny _ _ (newExc (.type "StopIteration") [] >>= _) _ _ _;refine af ?_;simp only[newExc,newTuple];refine af (Ci ?_ (by size_fits));refine af (m:=firstArgMember _ _) (wpAny_of_eq (a:=Value.none) (by first | rfl | (simp only[firstArgMember];rfl)) ?_);refine Ci ?_ (by size_fits);simp only[raiseNew];refine af (wpAny_handled ?_);rw[show A.in1.handled=none from hh];refine af (au (wpAny_throw ?_));refine q _ _ (((lZ ..).extBut.push _).push _) ?_;exact⟨_,dR _ rfl,rfl⟩
theorem QR(j:Nat):SetTable.below #[j] 0=0/\SetTable.below #[j] (j+1)=1:=by
 constructor
 . simp[SetTable.below,SetTable.below.go]
 . simp[SetTable.below,SetTable.below.go]
theorem QS{o:Obj}{es:Array (Int×Value)}{ep:Nat}{t:SetTable}{i:Nat}{Q:Option (Value×Nat)->Shared->Prop}(b:eW w=true)(ho:s.heap.get? a=some o)(hd:o.data=.set es ep t)(hf:t.fits es.size=true)
 (q:Q (((pickOrder (w.params.setOrder a ep) es)[i]?).map fun e=>(e.2,0)) s):wpAny (model prog w) A (setNext a 0 i ep) Q E s:=by
 have hb:w.params.followText "set-order"=true:=b;unfold setNext;refine af (iu ho hd hf ?_);refine af (m:=setsByText) (af (qS (au ?_)));show wpAny _ _ (if w.params.followText "set-order"=true then _ else _) _ _ s;rw[al hb,ai (show ¬((ep != ep)=true) by simp)];refine af ?_;unfold setWalk;refine af (iu ho hd hf ?_);refine af (m:=setsByText) (af (qS (au ?_)));show wpAny _ _ (if w.params.followText "set-order"=true then _ else _) _ _ s;rw[al hb];exact af (qS (au (au q)))
theorem QT{o:Obj}{es:Array (Int×Value)}{ep:Nat}{t:SetTable}{sl i:Nat}{Q:Option (Value×Nat)->Shared->Prop}(b:eW w=false)(ho:s.heap.get? a=some o)(hd:o.data=.set es ep t)(hf:t.fits es.size=true)(hl:t.led = !eW w)(l:es.size<=1)
 (q:Q (match es[SetTable.below t.place sl]?,t.place[SetTable.below t.place sl]? with | some (_,x),some j=>some (x,j+1) | _,_=>none) s):wpAny (model prog w) A (setNext a sl i ep) Q E s:=by
 have hb:w.params.followText "set-order"=false:=b;unfold setNext;refine af (iu ho hd hf ?_);refine af (m:=setsByText) (af (qS (au ?_)));show wpAny _ _ (if w.params.followText "set-order"=true then _ else _) _ _ s;rw[ai (by rw[hb];exact cK)];show wpAny _ _ (if (!t.plain && decide (es.size > 1))=true then _ else _) _ _ s;rw[ai (by rw[cI (by omega),wj];exact cK)];show wpAny _ _ ((if (!t.led && !es.isEmpty)=true then _ else _) >>= _) _ _ s;rw[ai (by rw[hl,b];exact cK)];exact af (au (au q))
theorem wQ{ep n i:Nat}{f:Value}{o:Obj}{es:Array (Int×Value)}{t:SetTable}{Q:Option Value->Shared->Prop}(x:iF s.heap it a ep es.size f i)(ho:s.heap.get? a=some o)(hd:o.data=.set es ep t)(hf:t.fits es.size=true)
 {E1:VP}
 (q:wpAny (model prog w) A.in1 (if let .int slot _:=f then
  (do
   match ←setNext a slot.toNat i ep with
   | some (x,next)=>setField (.ref it) 0 (rawInt next);setField (.ref it) 1 (rawInt ((i:Int)+1));ret x
   | none=>setField (.ref it) 2 .none;raiseNew (←newExc (.type "StopIteration") []))
  else(do
   let some places ←seqItems? f | unsupported "internal:set_iterator"
   match places[i]? with
   | some (.int place _)=>let x ←setNextDrawn a place.toNat ep;setField (.ref it) 1 (rawInt ((i:Int)+1));ret x
   | some _=>unsupported "internal:set_iterator"
   | none=>setField (.ref it) 0 (rawInt 0);setField (.ref it) 2 .none;raiseNew (←newExc (.type "StopIteration") [])))
  (fun fin s'=>∃v,fin=.done (.ret v)/\Q (some v) s') (fun e s'=>Shared.TypeIs s' e "StopIteration"/\Q none s') s) :
 wpAny (model prog w) A (pyNext (.ref it)) Q E s:=by
 obtain⟨oi,hoi,hc,hdi⟩:=id x;unfold pyNext;refine af (wpAny_attempt (wpAny_callSpecial?_slot (name:=Str.ofString "__next__") x.typeIs De (tF De x.typeIs ah3 ?_ (ah6 _))));unfold Builtin.«set_iterator.__next__»;refine af (au ?_);refine af (wpAny_fieldsOf hoi hdi ?_);show wpAny _ _ (setEntries a >>= _) _ _ s;unfold setEntries;refine af (af (iu ho hd hf (au ?_)));dsimp only;rw[ai (by simp)];refine d8 q (fun fin s' z=>?_) (fun e s' z=>?_)
 . obtain⟨v,rfl,z⟩:=z;exact⟨v,rfl,au z⟩
 . exact af (pj (T:="StopIteration") (b:=true) z.1 isSubtype_stop (au z.2))
end
section
variable {prog:Program}{w:World}{A:Around}{E:VP}{s:Shared}{a I T:Addr}
theorem Md.keep{h h':Heap}{es:Array (Int×Value)}{ep:Nat}{t:SetTable}{os:List (Int×Value)}{i:Nat}(x:Md w h I a T es ep t os i)(k:∀b,b=I\/b=T->∀o,h.get? b=some o->h'.get? b=some o):Md w h' I a T es ep t os i:=by
 cases x with
 | text b e x=>exact .text b e (x.at' (k I (.inl rfl)))
 | draw pl b e x y z=>
  obtain⟨o,n,e1,e2⟩:=y;exact .draw pl b e (x.at' (k I (.inl rfl))) ⟨o,n,k T (.inr rfl) o e1,e2⟩ z
 | tab sl b l e x y=>exact .tab sl b l e (x.at' (k I (.inl rfl))) y
theorem ajn{os:List (Int×Value)}{i:Nat}{e:Int×Value}{Q:Option Value->Shared->Prop}(x:wP w I a T os i s.heap)(hi:os[i]?=some e)(q:∀h',Heap.SameBut I s.heap h'->wP w I a T os (i+1) h'->Q (some e.2) { s with heap:=h' }) :
 wpAny (model prog w) A (pyNext (.ref I)) Q E s:=by
 obtain⟨o,es,ep,t,xs,ho,X,pm,wR,m⟩:=x;have done:∀h',Heap.SameBut I s.heap h'->Md w h' I a T es ep t os (i+1)->Q (some e.2) { s with heap:=h' }:=fun h' k m'=>q h' k ⟨o,es,ep,t,xs,by rw[k.2 a (fun z=>wR z.symm)];exact ho,X,pm,wR,m'⟩;cases m with
 | text b eo x=>
  have wS:(pickOrder (w.params.setOrder a ep) es)[i]?=some e:=by rw[eo,wk]at hi;exact hi
  refine wQ (E1:=E) (n:=0) x ho X.dat X.fit ?_;show wpAny _ _ (setNext a 0 i ep >>= _) _ _ _;refine af (QS b ho X.dat X.fit ?_);rw[wS];refine af (IE x fun h1 k1 x1=>af (IF (s:={ s with heap:=h1 }) x1 fun h2 k2 x2=>au ⟨_,rfl,done h2 (k1.trans k2) (.text b eo x2)⟩))
 | draw pl b eo x y z=>
  obtain⟨oT,nT,hT,Dn⟩:=y;have aN:i<pl.length:=by
   rw[←eo.1];exact(cW.mp hi).1
  have dU:pl[i]?=some pl[i]:=jl aN;have he:es[pl[i]]?=some e:=(eo.2 i _ dU).symm.trans hi;refine wQ (E1:=E) (n:=0) x ho X.dat X.fit ?_;show wpAny _ _ (seqItems? (.ref T) >>= _) _ _ _;refine af (yC hT Dn ?_);have IH:(pl.map fun j=>rawInt (j:Nat)).toArray[i]?=some (rawInt (pl[i]:Nat)):=by simp[aN]
  dsimp only;rw[IH];show wpAny _ _ (setNextDrawn a pl[i] ep >>= _) _ _ _;refine af ?_;unfold setNextDrawn;refine af (iu ho X.dat X.fit ?_);dsimp only;rw[ai (show ¬((ep != ep)=true) by simp),he];refine au ?_;refine af (IF x fun h2 k2 x2=>au ⟨_,rfl,done h2 k2 (.draw pl b eo x2 ⟨oT,nT,by rw[k2.2 T (fun q=>z q.symm)];exact hT,Dn⟩ z)⟩)
 | tab sl b l eo x y=>
  have hz:es.size=1/\i=0:=by
   rw[eo]at hi;have:=(cW.mp hi).1;rw[eT]at this;omega
  have II:es[i]?=some e:=by rw[eo,wk]at hi;exact hi
  have bE:t.place.size=1:=by
   have:=X.fit;unfold SetTable.fits at this;simp only[gR,kK]at this;omega
  obtain⟨j,hj⟩:∃j,t.place = #[j]:=by
   rcases hp:t.place with⟨l⟩
   rw[hp]at bE
   match l,bE with
   | [j],_=>exact⟨j,rfl⟩
  refine wQ (E1:=E) (n:=0) x ho X.dat X.fit ?_;show wpAny _ _ (setNext a sl i ep >>= _) _ _ _;refine af (QT b ho X.dat X.fit X.led l ?_);have IJ:t.place[i]?=some j:=by rw[hj,hz.2];rfl
  rw[y,II,IJ];refine af (IE x fun h1 k1 x1=>af (IF (s:={ s with heap:=h1 }) x1 fun h2 k2 x2=>au ⟨_,rfl,done h2 (k1.trans k2) (.tab (j+1) b l eo x2 (by rw[hj,(QR j).2,hz.2]))⟩))
theorem ajo{os:List (Int×Value)}{Q:Option Value->Shared->Prop}(hh:A.handled=none)(x:wP w I a T os os.length s.heap)(q:∀h',Heap.ExtBut I s.heap h'->Q none { s with heap:=h' }):wpAny (model prog w) A (pyNext (.ref I)) Q E s:=by
 obtain⟨o,es,ep,t,xs,ho,X,pm,wR,m⟩:=x;have hn:os.length=es.size:=by rw[pm.length_eq,eT]
 have hq:∀h' e,Heap.ExtBut I s.heap h'->Shared.TypeIs { s with heap:=h' } e "StopIteration"->Shared.TypeIs { s with heap:=h' } e "StopIteration"/\Q none { s with heap:=h' }:=fun h' e k z=>⟨z,q h' k⟩;cases m with
 | text b eo x=>
  refine wQ (E1:=E) (n:=0) x ho X.dat X.fit ?_;show wpAny _ _ (setNext a 0 os.length ep >>= _) _ _ _;refine af (QS b ho X.dat X.fit ?_);have wS:(pickOrder (w.params.setOrder a ep) es)[os.length]?=none:=by
   have:(pickOrder (w.params.setOrder a ep) es).toList[os.length]?=none:=by rw[←eo];simp
   rwa [wk]at this
  rw[wS];exact IG hh x hq
 | draw pl b eo x y z=>
  obtain⟨oT,nT,hT,Dn⟩:=y;refine wQ (E1:=E) (n:=0) x ho X.dat X.fit ?_;show wpAny _ _ (seqItems? (.ref T) >>= _) _ _ _;refine af (yC hT Dn ?_);have IH:(pl.map fun j=>rawInt (j:Nat)).toArray[os.length]?=none:=by simp[eo.1]
  dsimp only;rw[IH];refine af (IE x fun h1 k1 x1=>?_);refine IG (s:={ s with heap:=h1 }) hh x1 fun h' e k z=>hq h' e (k1.extBut.trans k) z
 | tab sl b l eo x y=>
  refine wQ (E1:=E) (n:=0) x ho X.dat X.fit ?_;show wpAny _ _ (setNext a sl os.length ep >>= _) _ _ _;refine af (QT b ho X.dat X.fit X.led l ?_);have II:es[os.length]?=none:=by rw[hn];simp
  rw[y,II];exact IG hh x hq
theorem ajp(hh:A.handled=none)(I a T:Addr)(os:List (Int×Value)):Walks prog w A I [I,a,T] [I] os.length (fun i v=>∃e,os[i]?=some e/\v=e.2) (fun i h=>wP w I a T os i h) where
 sub:=fun b hb=>by simp at hb;simp[hb]
 frame:=fun i h h' st hk=>by
  obtain⟨o,es,ep,t,xs,ho,X,pm,wR,m⟩:=st;exact⟨o,es,ep,t,xs,hk a (by simp) o ho,X,pm,wR,m.keep fun b hb o e=>hk b (by rcases hb with rfl | rfl<;>simp) o e⟩
 item:=fun i s Q E hi st hQ=>by
  refine ajn st (jl hi) fun h' k gi=>?_;exact hQ _ h' s.toks ⟨_,jl hi,rfl⟩ gi fun b o hb e=>k.extBut b o (fun h=>hb (by simp[h])) e
 done:=fun s Q E st hQ=>ajo hh st fun h' mz=>hQ h' s.toks fun b o hb e=>mz b o (fun h=>hb (by simp[h])) e
 self:=fun i s Q E st hQ=>by
  obtain⟨o,es,ep,t,xs,ho,X,pm,wR,m⟩:=st;have hT:s.TypeIs (.ref I) "set_iterator":=by
   cases m with
   | text b e x=>exact x.typeIs
   | draw pl b e x y z=>exact x.typeIs
   | tab sl b l e x y=>exact x.typeIs
  refine Wz hT Ql (tF Ql hT ah4 ?_ (ah7 _));show wpAny _ _ (ret (.ref I)) _ _ s;exact au ⟨_,rfl,"set_iterator",_,hT,De.lookup,hQ⟩
theorem QU{es:Array (Int×Value)}:∀{pl:List Nat},(∀j∈pl,j<es.size)->(pl.filterMap (es[·]?)).length=pl.length/\∀(k j:Nat),pl[k]?=some j->(pl.filterMap (es[·]?))[k]?=es[j]?
 | [],_=>⟨rfl,fun k j h=>by cases h⟩
 | p::r,h=>by
  have bE:p<es.size:=h p (by simp);have hp:es[p]?=some es[p]:=qR bE;obtain⟨h1,h2⟩:=QU (pl:=r) fun j hj=>h j (bR _ hj);rw[List.filterMap_cons_some hp];refine⟨by simp[h1],fun k j hk=>?_⟩;cases k with
  | zero=>cases hk;exact hp.symm
  | succ k=>exact h2 k j hk
theorem ajq{xs:Ls}{Q:VP}(x:cG w s.heap a xs)(hQ:∀I T d h' os,s.heap.objs.size<=I->(∀b o,s.heap.get? b=some o->h'.get? b=some o)->(T=a\/s.heap.objs.size<=T)->wP w I a T os 0 h'->(os.map g9).Perm xs->(∀e∈os,og w e)->Q (.ref I) { s with heap:=h',drawn:=d }) :
 wpAny (model prog w) A (pyIter (.ref a)) Q E s:=by
 obtain⟨o,es,ep,t,ho,X⟩:=id x;have aN:=bG ho;refine Wz x.typeIs axY (tF axY x.typeIs ah5 ?_ (PySem.F.args_set_iter_1 _));unfold Builtin.«frozenset.__iter__»;refine af (m:=Builtin.Frozenset.slot0 _ _) (au ?_);refine af ?_;unfold Builtin.Frozenset.sizeOf setEntries;refine af (af (iu ho X.dat X.fit (au (au ?_))));refine af ?_;unfold setDrawn;refine af (iu ho X.dat X.fit ?_);refine af (m:=setsByText) (af (qS (au ?_)));show wpAny _ _ (pure (!eW w && (!t.plain && decide (es.size > 1)))) _ _ _;refine au ?_;have fin:∀(f:Value) (d:_) (h1:Heap),(∀b o,s.heap.get? b=some o->h1.get? b=some o)->s.heap.objs.size<=h1.objs.size ->
  (∀h',(∀b o,h1.get? b=some o->h'.get? b=some o)->iF h' h1.objs.size a ep es.size f 0->h1.objs.size<h'.objs.size->∃T os,(T=a\/s.heap.objs.size<=T)/\os.Perm es.toList/\Md w h' h1.objs.size a T es ep t os 0) ->
  wpAny (model prog w) A.in1 (setEpoch a >>= fun e=>newFields "set_iterator" [f,rawInt 0,.ref a,rawInt es.size,rawInt e] >>= fun v=>ret v) (fun fin s'=>∃v,fin=.done (.ret v)/\∃T r,s'.TypeIs v T/\typeLookup (.type T) "__next__"=pure (some r)/\Q v s') E { s with heap:=h1,drawn:=d }:=by
  intro f d h1 k1 hz hm;refine af ?_;unfold setEpoch;refine af (iu (s:={ s with heap:=h1,drawn:=d }) (k1 a o ho) X.dat X.fit (au ?_));refine af (Ci ?_);have ht:iF (h1.push { cls:=.type "set_iterator",data:=.fields #[f,rawInt 0,.ref a,rawInt es.size,rawInt ep] }) h1.objs.size a ep es.size f 0:=⟨_,dR _ rfl,rfl,rfl⟩;obtain⟨T,os,hT,pm,m⟩:=hm _ (fun b o e=>bX _ e) ht (by rw[tG];exact yG _);refine au ⟨_,rfl,"set_iterator",_,ht.typeIs (s:={ s with heap:=_,drawn:=d }),De.lookup,?_⟩;refine hQ h1.objs.size T d _ os hz (fun b o e=>bX _ (k1 b o e)) hT ⟨o,es,ep,t,xs,bX _ (k1 a o ho),X,pm,kJ (gc aN hz),m⟩ ((pm.map g9).trans X.perm) fun e he=>X.good e (pm.mem_iff.mp he)
 cases hb:(!eW w && (!t.plain && decide (es.size > 1))) with
 | false=>
  rw[ai cK];refine af (m:=pure (rawInt 0)) (au ?_);refine fin (rawInt 0) s.drawn s.heap (fun b o e=>e) (aI _) fun h' k ht hl=>?_;cases hw:eW w with
  | true=>exact⟨a,_,.inl rfl,QP _ _,.text hw rfl ht⟩
  | false=>
   have hs:es.size<=1:=by
    refine Nat.le_of_not_lt fun z=>?_;rw[hw,X.pl (by omega),bN (by omega:es.size > 1)]at hb;cases hb
   refine⟨a,_,.inl rfl,.refl _,.tab 0 hw hs rfl ht ?_⟩;have bE:t.place.size=es.size:=by
    have:=X.fit;unfold SetTable.fits at this;simp only[gR,kK]at this;exact this.1
   rcases hp:t.place with⟨l⟩
   rw[hp]at bE
   match l,bE with
   | [],_=>rfl
   | [j],_=>exact(QR j).1
   | _::_::_,z=>simp at z;omega
 | true=>
  have hw:eW w=false:=by cases hw:eW w with | false=>rfl | true=>rw[hw]at hb;cases hb
  rw[al rfl];refine af (QQ es.size (List.range es.size) s _ (by simp) fun pl d hp=>?_);have hsz:es.size<=sizeLine:=yP X.bnd;refine af (wpAny_newTuple ?_ (by rw[ao,hp.length_eq,N7];exact hsz));have dU:∀j∈pl,j<es.size:=fun j hj=>Ca.mp (hp.mem_iff.mp hj);obtain⟨g1,g2⟩:=QU dU;refine fin (.ref s.heap.objs.size) d (s.heap.push { cls:=.type "tuple",data:=.seq (pl.map fun(i:Nat)=>rawInt i).toArray }) (fun b o e=>bX _ e) (by rw[tG];exact tH _) fun h' k ht hl=>?_;refine⟨s.heap.objs.size,pl.filterMap (es[·]?),.inr (aI _),?_,.draw pl hw ⟨g1,g2⟩ ht ⟨_,0,k _ _ (dR _ rfl),rfl⟩ (kJ (by rw[tG];exact yG _))⟩;exact(hp.filterMap _).trans (by rw[axZ])
end
theorem IK{w:World}:∀{os:List (Int×Value)},(∀e∈os,og w e)->StrsAre (os.map (·.2)) (os.map g9)
 | [],_=>.nil
 | e::r,h=>by
  obtain⟨y,tk,rfl⟩:=h e (by simp);exact .cons y tk (IK fun e he=>h e (bR _ he))
section
variable {prog:Program}{w:World}{A:Around}{E:VP}{s:Shared}{a:Addr}
theorem ajr{xs:Ls}{R:Result->Shared->Prop}(hh:A.handled=none)(x:cG w s.heap a xs)(S:Addr)(IL:S≠a)(res:Value)(c₀:Nat)(hS:s.heap.get? S=some { cls:=.type "list",data:=.seq #[] c₀ })
 (hR:∀(h':Heap) (tk:Nat) (d:Drawn) (os:List (Int×Value)) (acc:Av) (c':Nat),(∀b o,b≠S->s.heap.get? b=some o->h'.get? b=some o)->h'.get? S=some { cls:=.type "list",dict:=none,data:=.seq acc c',slots:=#[] }->acc.toList=os.map (·.2)->(os.map g9).Perm xs->(∀e∈os,og w e)->R (.ok (.ret res)) { s with heap:=h',toks:=tk,drawn:=d }) (hn:xs.length<=sizeLine) :
 wpAny (model prog w) A.in1 (Builtin.List.listExtendWith (.ref S) (.ref a) res) (fun fin s'=>match fin with | .done f=>R (.ok f) s' | .again c'=>c'.quiet=true/\codeAny (model prog w) A c' R s') (fun e s'=>R (.error e) s') s:=by
 unfold Builtin.List.listExtendWith;refine af (N3 (T:="set") x.typeIs ?_);have h1:Builtin.List.listSameRef (.ref S) (.ref a)=false:=by simp[Builtin.List.listSameRef,IL]
 have h2:(Value.type "set" == Value.type "list")=false:=by decide
 have h3:(Value.type "set" == Value.type "tuple")=false:=by decide
 simp only[h1,h2,h3,tI,qK,nv];refine af (ajq x fun I T d hp os hI kp hT st pm gd=>?_);have zN:=bG hS;have ln:os.length=xs.length:=by have:=pm.length_eq;rwa [ao]at this
 have hST:S≠T:=fun z=>hT.elim (fun q=>IL (z.trans q)) fun q=>absurd (gc (z▸zN) q) (pq _);have zO:S∉[I,a,T]:=by
  simp only[aY,fq,ft,py];exact⟨cS (gc zN hI),IL,hST⟩
 have W:=ajp (prog:=prog) (w:=w) (A:=A.in1) hh I a T os;have key:∀(h:Heap) (c₁ tk:Nat),wP w I a T os 0 h->(∀b o,b≠S->s.heap.get? b=some o->h.get? b=some o)->h.get? S=some { cls:=.type "list",data:=.seq #[] c₁ } ->
  codeAny (model prog w) A (.builtin "list.extend.loop" ⟨[.ref S,.ref I,res],[]⟩) R { s with heap:=h,toks:=tk,drawn:=d }:=by
  intro h c₁ tk fM hk zP;refine codeAny_extend_loopS W.toS (by omega) S zO res os.length 0 _ #[] c₁ rfl (dG _) fM zP (ItemsOf.nil _) fun s' QV c' hm iC uA=>?_;rw[Moved.eq_with hm];refine hR s'.heap s'.toks d os QV c' (fun b o hb e=>hm.heap b o (fun uC=>?_) (hk b o hb e)) iC ?_ pm gd
  . rcases aY.mp uC with e' | uC
    . exact hb e'
    . have aN:=bG e;rw[bw.mp uC]at aN;exact absurd (gc aN hI) (pq _)
  . refine List.ext_getElem? fun j=>?_;rw[wk,dH]
    by_cases hj:j<os.length
    . have QW:j<QV.size:=by rw[uA.1];exact hj
      obtain⟨e,he,hv⟩:=uA.2 j _ (qR QW);rw[he,qR QW,hv];rfl
    . rw[WF (by rw[uA.1];omega),axV (by omega)];rfl
 have zP:=kp _ _ hS;refine af (jO (ah9 (cG.typeIs (s:={ s with heap:=hp,drawn:=d }) (x.at' fun o e=>kp a o e)) ?_));refine WD (fun _=>?_) (fun _=>au ⟨tO ax0 _,key _ c₀ _ st (fun b o _ e=>kp b o e) zP⟩);refine af (pi (af ?_));show wpAny _ _ (updateSeq S (·.push .none) >>= fun _=>updateSeq S (·.pop)) _ _ _;refine af (GY (s:={ s with heap:=hp,drawn:=d }) zP rfl ?_);have QX:=Cm (Obj.mapSeq (·.push Value.none)) zP rfl;refine GY (hz:=by seq_fits) QX rfl ?_;have hS₃:=Cm (Obj.mapSeq (·.pop)) QX rfl;refine au ⟨tO ax0 _,key _ _ _ (W.frame 0 _ _ st fun b hb o e=>?_) (fun b o hb e=>?_) hS₃⟩
 . have QY:b≠S:=fun h=>zO (h▸hb);exact(GQ _ _ (ge QY)).trans ((GQ _ _ (ge QY)).trans e)
 . exact(GQ _ _ (ge hb)).trans ((GQ _ _ (ge hb)).trans (kp b o e))
theorem aju{xs:Ls}{R:Lw->Shared->Prop}(hh:A.handled=none)(x:cG w s.heap a xs)
 (h:∀(h':Heap) (tk:Nat) (d:Drawn) (us:Lw) (ys:Ls),(∀b o,s.heap.get? b=some o->h'.get? b=some o)->StrsAre us ys->ys.Perm xs->R us { s with heap:=h',toks:=tk,drawn:=d }) (hn:xs.length<=sizeLine):wpAny (model prog w) A (collect (.ref a)) R E s:=by
 obtain⟨o,_,_,_,ho,_⟩:=id x;have aN:=bG ho;unfold collect;refine af (wpAny_runValue (tP PyProof.Rows.entry_proto_collect' ?_));rw[wm PySem.F.plain_proto_collect _];show wpAny _ A.in1 (newList [] >>= fun l=>again (.builtin "list.__iadd__" ⟨[l,.ref a],[]⟩)) _ _ s;refine af (Ci (au ⟨tO ax1 _,tP PyProof.Rows.entry_list_iadd' ?_⟩));rw[wm ax1 _];show wpAny _ A.in1 (Builtin.List.listExtendWith (.ref s.heap.objs.size) (.ref a) (.ref s.heap.objs.size)) _ _ _;have key:=ajr (prog:=prog) (A:=A) (s:={ s with heap:=s.heap.push { cls:=.type "list",data:=.seq ([]:Lw).toArray } })
  (R:=fun(q:Result) (s':Shared)=>∃(h':Heap) (tk:Nat) (d:Drawn) (os:List (Int×Value)) (acc:Av) (c':Nat),q=.ok (.ret (.ref s.heap.objs.size))/\s'={ s with heap:=h',toks:=tk,drawn:=d }/\(∀b o,s.heap.get? b=some o->h'.get? b=some o) /\
   h'.get? s.heap.objs.size=some { cls:=.type "list",dict:=none,data:=.seq acc c',slots:=#[] }/\acc.toList=os.map (·.2)/\(os.map g9).Perm xs/\∀e∈os,og w e)
  hh (x.at' fun o e=>bX _ e) s.heap.objs.size (kJ aN) (.ref s.heap.objs.size) 0 (dR _ rfl)
  (fun h' tk d os acc c' hk iC e1 e2 e3=>⟨h',tk,d,os,acc,c',rfl,rfl,fun b o e=>hk b o (cS (bG e)) (bX _ e),iC,e1,e2,e3⟩) hn
 refine d8 key (fun fin s' z=>?_) fun e s' z=>?_
 . cases fin with
   | done f=>
    obtain⟨h',tk,d,os,acc,c',e,rfl,hk,iC,e1,e2,e3⟩:=z;cases e;show wpAny _ A (load s.heap.objs.size >>= _) _ _ _;refine af (wpAny_load (s:={ s with heap:=h',toks:=tk,drawn:=d }) iC (au ?_));exact h h' tk d _ _ hk (by rw[e1];exact IK e3) e2
   | again c₁=>
    refine⟨z.1,qM z.2 fun q s₂ y=>?_⟩;obtain⟨h',tk,d,os,acc,c',rfl,rfl,hk,iC,e1,e2,e3⟩:=y;show wpAny _ A (load s.heap.objs.size >>= _) _ _ _;refine af (wpAny_load (s:={ s with heap:=h',toks:=tk,drawn:=d }) iC (au ?_));exact h h' tk d _ _ hk (by rw[e1];exact IK e3) e2
 . obtain⟨_,_,_,_,_,_,e',_⟩:=z;cases e'
theorem ajv{r:Addr}{Q:VP}(Ik:wpAny (model prog w) A.in1 (collect (.ref r)) (fun us s'=>∃(ys:Ls) (h':Heap) (tk:Nat) (d:Drawn),s'={ s with heap:=h',toks:=tk,drawn:=d }/\StrsAre us ys/\us.length<64 /\
 ∀(h2:Heap) (out:Lw) (bW:Ls) (e:Nat),(∀b o,h'.get? b=some o->h2.get? b=some o)->h2.get? h'.objs.size=some (seqObj "list" out.toArray e)->StrsAre out bW->bW.Perm ys->sortedS bW=true->Q (.ref h'.objs.size) { s with heap:=h2,toks:=tk,drawn:=d }) E s) :
 wpAny (model prog w) A (call (.builtin "sorted") [.ref r]) Q E s:=by
 refine axQ kind_sorted plain_sorted entry_sorted (args_sorted1 _) ?_;unfold Builtin.«sorted»;refine af (m:=checkCount "sorted" 1 1 _) (au ?_);refine af (d8 Ik (fun us s' ajw=>ajw.elim fun ys ajx=>ajx.elim fun h' ajy=>ajy.elim fun tk ajz=>ajz.elim fun d ajA=>ajA.elim fun es ajB=>ajB.elim fun hS ajC=>ajC.elim fun uy fin=>?_) fun _ _ e=>e);subst es;refine af (Wv ?_ (by rw[yF];omega));have pC:(h'.push (seqObj "list" us.toArray 0)).get? h'.objs.size=some (seqObj "list" us.toArray 0):=dR _ rfl;show wpAny _ _ _ _ _ { s with heap:=h'.push (seqObj "list" us.toArray 0),toks:=tk,drawn:=d };refine af (jO (tF slot_list_sort ⟨_,pC,rfl⟩ entry_list_sort (list_sort_treeK strKind_oneLt pC hS.keysOf (fun v₁ v₂ rest e=>keyKind_strs (by rw[←e];exact hS)) uy fun gi a1 a2=>⟨_,rfl,?_⟩) (args_list_sort _)));obtain⟨bW,h1,h2,h3⟩:=sorted_out_str hS a1 a2;obtain⟨e,he⟩:=sortedHeap_at (vs:=us) (out:=(arrOf gi).map (·.2)) pC;refine au ⟨_,rfl,fin _ ((arrOf gi).map (·.2)).toList bW e (fun b o q=>?_) (by rw[Ww];exact he) h1 h2 h3⟩;have hb:=bG q;rw[sortedHeap_old (cS hb) (by rw[tG];exact Wx hb)];exact bX _ q
end
def oh(w:World)(a:Addr)(xs:Ls):HO:=.ext fun h=>cG w h a xs
theorem IM{P:Program}{w:World}{H:Hp}{h:Heap}{a:Addr}{xs:Ls}(x:cG w h a xs):ci P w H h a (oh w a xs):=
 ⟨x,x.elim fun o ajD=>ajD.elim fun _ ajE=>ajE.elim fun _ ajF=>ajF.elim fun _ ajG=>ajG.elim fun e _=>⟨o,e⟩,fun _ _ z k=>z.at' k⟩
theorem IN{P:Program}{w:World}{H:Hp}{h:Heap}{a:Addr}{xs:Ls}(ok:cj P w H h)(e:H a=some (oh w a xs)):cG w h a xs:=(show ci P w H h a (oh w a xs) from ok a _ e).1
section
variable {X:Cx}{pins:Po}{σ:List (Option V)} {H:Hp}{s:Shared}
theorem Inv.drew{d:Drawn}(I:Inv X pins σ H s):Inv X pins σ H { s with drawn:=d }:=⟨I.ok,I.os,I.bare,I.base,I.loc,I.cell,I.free,I.freeC,I.pin,I.hok,I.len⟩
theorem QZ(hc:X.calm=true):fN X (.builtin "sorted") (fun vs H Q=>∃p xs,vs=[.ref p]/\H p=some (oh X.w p xs)/\xs.length<64/\∀ys,ys.Perm xs->sortedS ys=true->dL H (.lst (ys.map V.str)) Q):=by
 intro pins s σ H xs us Q I r h;obtain⟨p,zs,rfl,e,uy,q⟩:=h;obtain⟨u,rfl,ru⟩:=vals1 r;cases ru;refine ajv (aju (I.ok.hd hc) (IN I.hok e) (fun h' tk d us ys k hs hp=>?_) (lq (by omega)));have hl:=hp.length_eq;have zu:=Wy hs;have I':Inv X pins σ H { s with heap:=h',toks:=tk,drawn:=d }:=(I.kept (t':=tk) k).drew;refine⟨ys,h',tk,d,rfl,hs,by omega,fun h2 out bW e' k2 he iC b8 zE=>?_⟩;have hl3:=b8.length_eq;exact⟨.ref h'.objs.size,_,Qh (s:={ s with drawn:=d }) I' k2 he iC (lq (by omega)),rfl,(q bW (b8.trans hp) zE).at _ (I'.hok.fresh (aI _))⟩
end
theorem Q0{es:Array (Int×Value)}{order:Array Nat}(hp:order.toList.Perm (List.range es.size)):(order.filterMap (es[·]?)).toList.Perm es.toList:=by
 rw[Array.toList_filterMap];exact(hp.filterMap _).trans (by rw[axZ])
theorem ajH{n:Nat}(h:n<=252):pU (SetTable.sizeAbove n - 1)/\n<=SetTable.sizeAbove n - 1/\SetTable.sizeAbove n<=256:=by
 have hd:(List.range 253).all (fun n=>decide ((SetTable.sizeAbove n - 1=7\/SetTable.sizeAbove n - 1=15\/SetTable.sizeAbove n - 1=31\/SetTable.sizeAbove n - 1=63\/SetTable.sizeAbove n - 1=127\/SetTable.sizeAbove n - 1=255)/\n<=SetTable.sizeAbove n - 1/\SetTable.sizeAbove n<=256))=true:=by decide +kernel
 unfold pU;exact cT (jk.mp hd n (Ca.mpr (by omega)))
section
variable {prog:Program}{w:World}{A:Around}{E:VP}{s:Shared}{a:Addr}
theorem IP:eB w { cls:=.type "set",dict:=none,data:=.set #[] 0 (.fresh 0 0 (!eW w)) } #[] 0 (.fresh 0 0 (!eW w)) []:=
 ⟨⟨rfl,rfl,rfl⟩,rfl,(fun e he=>by cases he),.nil,.nil,by decide,rfl,rfl,fun h=>absurd rfl h,fun _=>.inl rfl⟩
theorem ajI{o:Obj}{es:Array (Int×Value)}{ep:Nat}{t:SetTable}{xs:Ls}{n:Nat}{Q:Unit->Shared->Prop}(ho:s.heap.get? a=some o)(X:eB w o es ep t xs)(hn:n<=252)(hx:xs.length<=n)
 (q:∀h' o' es' t',Heap.SameBut a s.heap h'->h'.get? a=some o'->eB w o' es' (ep+1) t' xs->n<=t'.mask->Q () { s with heap:=h' }):wpAny (model prog w) A (setRelay a n) Q E s:=by
 obtain⟨m1,m2,m3⟩:=ajH hn;unfold setRelay;refine af (iu ho X.dat X.fit ?_);dsimp only;have sl:¬(SetTable.sizeAbove n > sizeLine):=by rw[yF];omega
 rw[ai sl];have hz:=X.size;have hsz:(es.map (·.1)).size=es.size:=Array.size_map;obtain⟨t',order,e,hp,hf,hl,dU,hm⟩:=QJ (mask:=SetTable.sizeAbove n - 1) (f:=t.finger) (m:=t.movedTo (SetTable.sizeAbove n - 1)) (led:=t.led) (plain:=t.plain) (hs:=es.map (·.1)) m1 (by rw[hsz];omega);rw[hsz]at hp hf;have e':t.relaid (es.map (·.1)) n=some (t',order):=e;rw[e'];have pm:=Q0 hp;have z1:(order.filterMap (es[·]?)).size=es.size:=by rw[←eT,pm.length_eq,eT]
 refine af ?_;show wpAny _ _ (if ((order.filterMap (es[·]?)).size != es.size)=true then _ else _) _ _ _;rw[ai (by rw[z1];simp)];refine au ?_;dsimp only;refine Cp ho X.dat ?_ (by rw[z1];exact yP X.bnd);refine q _ _ _ t' (lZ ..) (eB.store ho X.ex X.dat) ⟨X.ex,rfl,fun e he=>X.good e (pm.mem_iff.mp he),(pm.map g9).trans X.perm,X.nd,X.len,by rw[z1];exact hf,hl.trans X.led,fun z=>dU.trans (X.pl (by rw[←z1];exact z)),fun _=>by rw[hm];exact m1⟩ (by rw[hm];exact m2)
theorem Q1{xs:Ls}{n:Nat}{Q:Unit->Shared->Prop}(x:cG w s.heap a xs)(hn:xs.length+n<=126)
 (q:∀h' o' es' wp t',Heap.SameBut a s.heap h'->h'.get? a=some o'->eB w o' es' wp t' xs->(t'.fill=0->n<=t'.mask)->Q () { s with heap:=h' }):wpAny (model prog w) A (setRoomFor a n) Q E s:=by
 obtain⟨o,es,ep,t,ho,X⟩:=x;have bE:t.place.size=xs.length:=by
  have:=X.fit;unfold SetTable.fits at this;simp only[gR,kK]at this;rw[this.1,X.size]
 unfold setRoomFor;refine af (iu ho X.dat X.fit ?_);show wpAny _ _ (match t.roomFor n with | some wanted=>setRelay a wanted | x=>pure PUnit.unit) _ _ _;unfold SetTable.roomFor
 by_cases hq:(t.fill+n) * 5 >= t.mask * 3
 . rw[al hq];refine ajI ho X (by rw[bE];omega) (by rw[bE];omega) fun h' o' es' t' k h1 h2 h3=>q h' o' es' _ t' k h1 h2 fun _=>by rw[bE]at h3;omega
 . rw[ai hq];exact au (q s.heap o es ep t (GX _ _) ho X fun z=>by rw[z]at hq;omega)
end
section
variable {prog:Program}{w:World}{A:Around}{E:VP}{s:Shared}{a f:Addr}
theorem ajJ{o:Obj}{es:Array (Int×Value)}{ep:Nat}{t:SetTable}{xs:Ls}{Q:Array (Int×Value)->Shared->Prop}(ho:s.heap.get? a=some o)(X:eB w o es ep t xs)(c:eW w=true\/es.size<=1)(q:∀arr:Array (Int×Value),arr.toList.Perm es.toList->Q arr s) :
 wpAny (model prog w) A (setWalk a) Q E s:=by
 unfold setWalk;refine af (iu ho X.dat X.fit ?_);refine af (m:=setsByText) (af (qS (au ?_)));cases hb:eW w with
 | true=>
  have hb:w.params.followText "set-order"=true:=hb;show wpAny _ _ (if w.params.followText "set-order"=true then _ else _) _ _ s;rw[al hb];exact af (qS (au (q _ (QP _ _))))
 | false=>
  have hs:es.size<=1:=by
   rcases c with c | c
   . rw[c]at hb;cases hb
   . exact c
  have hb:w.params.followText "set-order"=false:=hb;show wpAny _ _ (if w.params.followText "set-order"=true then _ else _) _ _ s;rw[ai (by rw[hb];exact cK)];show wpAny _ _ (if (!t.plain && decide (es.size > 1))=true then _ else _) _ _ s;rw[ai (by rw[cI (by omega),wj];exact cK)];show wpAny _ _ ((if (!t.led && decide (es.size > 1))=true then _ else _) >>= _) _ _ s;rw[ai (by rw[cI (by omega),wj];exact cK)];exact af (au (au (q _ (.refl _))))
theorem ajK{Q2:List Addr}{Q:Bool->Shared->Prop}(h:∀b∈Q2,∃xs,cG w s.heap b xs)(q:Q true s):wpAny (model prog w) A (setsQuiet Q2) Q E s:=by
 unfold setsQuiet;refine af (yB _ (fun rest r s'=>r.1=none/\s'=s/\∀b∈rest,∃xs,cG w s.heap b xs) _ ?_ ?_ _ _ ⟨rfl,rfl,h⟩)
 . rintro b rest r s' ⟨e1,rfl,hr⟩;obtain⟨xs,o,es,ep,t,ho,X⟩:=hr b (by simp);unfold setEntries;refine af (af (iu ho X.dat X.fit (au ?_)));refine af (wpAny_forIn_array' _ (fun Q3 r2 s2=>r2.1=none/\s2=s'/\∀e∈Q3,og w e) _ ?_ ?_ _ _ ⟨rfl,rfl,X.good⟩)
   . rintro e Q3 r2 s2 ⟨e3,rfl,hg⟩;obtain⟨y,tk,rfl⟩:=hg e (by simp);exact au ⟨rfl,rfl,fun e he=>hg e (bR _ he)⟩
   . rintro⟨r2,u2⟩ s2 ⟨e3,rfl,_⟩;dsimp only at e3;subst e3;exact au ⟨rfl,rfl,fun b hb=>hr b (bR _ hb)⟩
 . rintro⟨r,u⟩ s' ⟨e1,rfl,_⟩;dsimp only at e1;subst e1;exact au q
theorem ajL{o:Obj}{es:Array (Int×Value)}{ep:Nat}{t:SetTable}{xo xs:Ls}{Q:Array (Int×Value)->Shared->Prop}(ho:s.heap.get? a=some o)(X:eB w o es ep t xo)(y:cG w s.heap f xs)(cY:f≠a)
 (q:∀h' (arr:Array (Int×Value)),Heap.SameBut f s.heap h'->cG w h' f xs->arr.toList.Perm es.toList->Q arr { s with heap:=h' }):wpAny (model prog w) A (setWalkUnseen a [f] (some f)) Q E s:=by
 unfold setWalkUnseen;refine af (iu ho X.dat X.fit ?_);refine af (m:=setsByText) (af (qS (au ?_)));show wpAny _ _ (if (eW w || (t.led && t.plain) || decide (es.size<=1))=true then _ else _) _ _ _
 by_cases c:(eW w || (t.led && t.plain) || decide (es.size<=1))=true
 . rw[al c];refine ajJ ho X ?_ fun arr pm=>q s.heap arr (GX _ _) y pm
   by_cases hz:es.size<=1
   . exact .inr hz
   . rw[X.pl (by omega),cI hz,wj,tI,tI]at c;exact .inl c
 . rw[ai c];refine af (ajK (fun b hb=>?_) ?_)
   . rcases aY.mp hb with rfl | hb
     . exact⟨xo,o,es,ep,t,ho,X⟩
     . rw[bw.mp hb];exact⟨xs,y⟩
   . show wpAny _ _ (if (!true)=true then _ else _) _ _ _;rw[ai (by decide)];refine af (pi ?_);obtain⟨of,ef,epf,tf,IQ,F⟩:=id y;show wpAny _ _ (setState f >>= _) _ _ _;refine af (iu IQ F.dat F.fit ?_);dsimp only;split
     . refine af (Cp IQ F.dat ?_ (yP F.bnd));refine au (q _ es (lZ ..) ⟨_,ef,_,_,eB.store IQ F.ex F.dat,F.ex,rfl,F.good,F.perm,F.nd,F.len,?_,?_,?_,?_⟩ (.refl _))
       . have:=F.fit;cases tf;exact this
       . show(tf.led && t.led)=_;rw[F.led,X.led,WH]
       . intro z;show(tf.plain && t.plain)=false;rw[F.pl z,Bool.false_and]
       . exact F.msk
     . exact au (q s.heap es (GX _ _) y (.refl _))
theorem Q4{each:Sem Unit}{o:Obj}{eo:Array (Int×Value)}{ep:Nat}{t:SetTable}{xo xs:Ls}{Q:Unit->Shared->Prop}(ho:s.heap.get? a=some o)(X:eB w o eo ep t xo)(y:cG w s.heap f xs)(cY:f≠a)(hz:xs.length+xo.length<=126)
 (hE:∀(s':Shared) (Q:Unit->Shared->Prop),s'.heap.get? a=some o->Q () s'->wpAny (model prog w) A each Q E s')
 (q:∀h' ys,Heap.SameBut f s.heap h'->cG w h' f ys->(∀z,z∈ys↔z∈xs\/z∈xo)->Q () { s with heap:=h' }):wpAny (model prog w) A (setMerge f a each) Q E s:=by
 have ze:=X.size;unfold setMerge;rw[ai (by simpa using cY)];refine af (iu ho X.dat X.fit ?_);dsimp only
 by_cases he:eo.isEmpty=true
 . rw[al he];have h0:xo=[]:=Cn.mp (by rw[←ze];simpa using he);exact au (q s.heap xs (GX _ _) y fun z=>by rw[h0];simp)
 . rw[ai he];refine af (Q1 (n:=eo.size) y (by rw[ze];exact hz) fun h1 of cX rF t1 k1 e1 F hm=>?_);have oj:h1.get? a=some o:=by rw[k1.2 a (ge cY)];exact ho
   refine af (iu (s:={ s with heap:=h1 }) e1 F.dat F.fit ?_);dsimp only;have bE:t1.place.size=xs.length:=by
    have:=F.fit;unfold SetTable.fits at this;simp only[gR,kK]at this;rw[this.1,F.size]
   have Q5:eo.size≠0:=fun z=>he (by simpa using z);have hx0:t1.fill=0->xs=[]/\cX.size=0:=fun z=>by
    unfold SetTable.fill at z;have:xs.length=0:=by omega
    exact⟨Cn.mp this,by rw[F.size,this]⟩
   by_cases Do:t1.fill=0
   . obtain⟨hx,Ie⟩:=hx0 Do;unfold SetTable.road;rw[ai (by rw[Do];simp)]
     by_cases hr:(t1.mask == t.mask && t.dummies.isEmpty)=true
     . rw[al hr];dsimp only;refine Cp e1 F.dat ?_ (yP X.bnd);refine q _ xo (k1.trans (lZ ..)) ⟨_,eo,_,_,eB.store e1 F.ex F.dat,F.ex,rfl,X.good,X.perm,X.nd,X.len,?_,?_,?_,fun z=>absurd z Q5⟩ fun z=>by rw[hx];simp
       . have:=X.fit;cases t;exact this
       . show(t1.led && t.led)=_;rw[F.led,X.led,WH]
       . intro z;show(t1.plain && t.plain)=false;rw[X.pl z,wj]
     . rw[ai hr];dsimp only;have hsz:(eo.map (·.1)).size=eo.size:=Array.size_map;obtain⟨t',order,e,hp,hf,hl,dU,Dp⟩:=QJ (mask:=t1.mask) (f:=t1.finger) (m:=t1.moves) (led:=t1.led && t.led) (plain:=t1.plain && t.plain) (hs:=eo.map (·.1)) (F.msk Ie) (by rw[hsz];exact hm Do);rw[hsz]at hp hf;rw[e];have pm:=Q0 hp;have z1:(order.filterMap (eo[·]?)).size=eo.size:=by rw[←eT,pm.length_eq,eT]
       refine af ?_;show wpAny _ _ (if ((order.filterMap (eo[·]?)).size != eo.size)=true then _ else _) _ _ _;rw[ai (by rw[z1];simp)];refine au ?_;dsimp only;refine Cp e1 F.dat ?_ (by rw[z1];exact yP X.bnd);refine q _ xo (k1.trans (lZ ..)) ⟨_,_,_,t',eB.store e1 F.ex F.dat,F.ex,rfl,fun e he=>X.good e (pm.mem_iff.mp he),(pm.map g9).trans X.perm,X.nd,X.len,by rw[z1];exact hf,?_,?_,fun z=>absurd (z1.symm.trans z) Q5⟩ fun z=>by rw[hx];simp
       . rw[hl,F.led,X.led,WH]
       . intro z;rw[dU,X.pl (by rw[←z1];exact z),wj]
   . unfold SetTable.road;rw[al (by simpa using Do)];dsimp only;refine af (ajL (s:={ s with heap:=h1 }) oj X ⟨of,cX,rF,t1,e1,F⟩ cY fun h2 arr k2 y2 pm=>?_);have zQ:h2.get? a=some o:=by rw[k2.2 a (ge cY)];exact oj
     refine af (wpAny_forIn_array' _ (fun rest _ s'=>∃h3 ys,s'={ s with heap:=h3 }/\Heap.SameBut f s.heap h3/\cG w h3 f ys/\(∀e∈rest,og w e)/\ys.length+rest.length<=252/\∀z,(z∈ys\/z∈rest.map g9)↔(z∈xs\/z∈xo)) _ ?_ ?_ _ _ ⟨h2,xs,rfl,k1.trans k2,y2,fun e he=>X.good e (pm.mem_iff.mp he),?_,fun z=>?_⟩)
     . rintro e rest r s' ⟨h3,ys,rfl,k3,y3,hg,hl,uC⟩;obtain⟨z,tk,rfl⟩:=hg e (by simp);have Dq:h3.get? a=some o:=by rw[k3.2 a (ge cY)];exact ho
       rw[cg]at hl;refine af (jO (IC (s:={ s with heap:=h3 }) y3 (by omega) fun b h4 k4 y4=>?_));have Dr:h4.get? a=some o:=by rw[k4.2 a (ge cY)];exact Dq
       refine af (hE _ _ Dr ?_);refine af (iu (s:={ s with heap:=h4 }) Dr X.dat X.fit ?_);dsimp only;rw[ai (by simp)];refine au ⟨h4,iE ys z,rfl,k3.trans k4,y4,fun e he=>hg e (bR _ he),by have:=Di ys z;omega,fun u=>?_⟩;rw[←uC u,IA,bL,aY];have ek:g9 (md w (.inr z),Value.str z tk)=z:=rfl;rw[ek];constructor
       . rintro((p | p) | p)
         . exact .inl p
         . exact .inr (.inl p)
         . exact .inr (.inr p)
       . rintro(p | p | p)
         . exact .inl (.inl p)
         . exact .inl (.inr p)
         . exact .inr p
     . rintro r s' ⟨h3,ys,rfl,k3,y3,_,_,uC⟩;exact au (q h3 ys k3 y3 fun z=>by rw[←uC z];simp)
     . have e9:eo.toList.length=eo.size:=eT;have e8:=pm.length_eq;omega
     . have:z∈arr.toList.map g9↔z∈xo:=((pm.map g9).trans X.perm).mem_iff;rw[this]
end
theorem jp{α:Type}[DecidableEq α]:∀{xs ys:List α},xs.Nodup->(∀z∈xs,z∈ys)->xs.length<=ys.length
 | [],ys,_,_=>dG _
 | x::xs,ys,hn,h=>by
  have hx:=h x (by simp);have jS:=qN.mp hn;have:=jp (xs:=xs) (ys:=ys.erase x) jS.2 fun z hz=>(List.mem_erase_of_ne (fun e=>jS.1 (by rw[←e];exact hz))).mpr (h z (bR _ hz));rw[List.length_erase_of_mem hx]at this;have hp:0<ys.length:=ax2 hx;rw[cg];omega
section
variable {prog:Program}{w:World}{A:Around}{E:VP}{s:Shared}{a f:Addr}
theorem IR{v:Value}{Q:Bool->Shared->Prop}(hT:s.TypeIs v "set")(q:Q true s):wpAny (model prog w) A (Builtin.Frozenset.isAnySet v) Q E s:=by
 unfold Builtin.Frozenset.isAnySet;show wpAny _ _ (isInstance v (.type "set") >>= _) _ _ _;exact af (pj (T:="set") (b:=true) hT WI (au q))
theorem ajN{v:Value}{Q:Bool->Shared->Prop}(hT:s.TypeIs v "dict")(q:Q false s):wpAny (model prog w) A (Builtin.Frozenset.isAnySet v) Q E s:=by
 unfold Builtin.Frozenset.isAnySet;show wpAny _ _ (isInstance v (.type "set") >>= _) _ _ _;refine af (pj (T:="dict") (b:=false) hT PySem.F.sub_dict_set ?_);exact pj (T:="dict") (b:=false) hT PySem.F.sub_dict_frozenset q
theorem ajO{Q:VP}(h:Q (.ref s.heap.objs.size) { s with heap:=s.heap.push { cls:=.type "set",dict:=none,data:=.set #[] 0 (.fresh 0 0 (!eW w)) } }):wpAny (model prog w) A (newSet (.type "set")) Q E s:=by
 unfold newSet;refine af (m:=setsByText) (af (qS (au ?_)));exact Ci h
theorem ajP{xs:Ls}{Q:VP}(x:cG w s.heap a xs)(hz:xs.length<=126)(q:∀h' ys,(∀b o,s.heap.get? b=some o->h'.get? b=some o)->s.heap.objs.size<h'.objs.size->cG w h' s.heap.objs.size ys->(∀z,z∈ys↔z∈xs)->Q (.ref s.heap.objs.size) { s with heap:=h' }) :
 wpAny (model prog w) A (Builtin.Frozenset.copyOf a) Q E s:=by
 obtain⟨o,es,ep,t,ho,X⟩:=id x;have aN:=bG ho;unfold Builtin.Frozenset.copyOf;refine af ?_;unfold Builtin.Frozenset.baseOf;refine af (pj (T:="set") (b:=true) x.typeIs WI (au ?_));rw[al rfl];refine af (ajO ?_);refine af (m:=Builtin.Frozenset.addrOf _) (au ?_);have oj:=bX { cls:=.type "set",dict:=none,data:=.set #[] 0 (.fresh 0 0 (!eW w)) } ho;refine af (Q4 (s:={ s with heap:=_ }) oj X ⟨_,_,_,_,dR _ rfl,IP⟩ (kJ aN) (by simpa using hz) (fun s' Q _ h=>au h) fun h' ys k y hm=>au ?_);refine q h' ys (fun b o e=>?_) ?_ y fun z=>by rw[hm z];simp
 . rw[k.2 b (cS (bG e))];exact bX _ e
 . obtain⟨o',_,_,_,e',_⟩:=y;exact bG e'
theorem ajQ:entryFor table "set.__or__"=some Builtin.«frozenset.__or__»:=N2 (id':="frozenset.__or__") (by kernel_rfl) rfl (by decide +kernel) (by kernel_rfl)
theorem ajR{l r:Addr}{xs ys:Ls}{Q:VP}(x:cG w s.heap l xs)(y:cG w s.heap r ys)(cY:l≠r)(hz:xs.length+ys.length<=126)
 (q:∀h' zs,(∀b o,s.heap.get? b=some o->h'.get? b=some o)->cG w h' s.heap.objs.size zs->(∀z,z∈zs↔z∈xs\/z∈ys)->Q (.ref s.heap.objs.size) { s with heap:=h' }) :
 wpAny (model prog w) A (call (.builtin "set.__or__") [.ref l,.ref r]) (fun v s'=>v≠.notImplemented/\Q v s') E s:=by
 refine tF PySem.F.slot_set_or x.typeIs ajQ ?_ (PySem.F.args_set_or_2 _ _);unfold Builtin.«frozenset.__or__»;show wpAny _ _ (Builtin.Frozenset.slot1 "__or__" ⟨[.ref l,.ref r],[]⟩ >>= _) _ _ _;refine af (m:=Builtin.Frozenset.slot1 _ _) (au ?_);dsimp only;rw[ai cK];dsimp only;refine af ?_;show wpAny _ _ (Builtin.Frozenset.isAnySet (.ref l) >>= _) _ _ _;refine af (IR x.typeIs ?_);refine IR y.typeIs ?_;show wpAny _ _ (if (!true)=true then _ else _) _ _ _;rw[ai (by decide)];refine af (m:=Builtin.Frozenset.addrOf _) (au ?_);refine af ?_;show wpAny _ _ (Builtin.Frozenset.copyOf l >>= _) _ _ _;obtain⟨ox,_,_,_,hox,_⟩:=id x;have hlx:=bG hox;refine af (ajP x (by omega) fun h1 zs k1 zR z1 m1=>?_);show wpAny _ _ (if (Value.ref r != Value.ref l)=true then _ else _) _ _ _;rw[al (by simp[bne];exact fun z=>cY z.symm)];have y1:=y.at' (h':=h1) fun o e=>k1 _ o e;obtain⟨o,es,ep,t,ho,X⟩:=id y1;obtain⟨oy,_,_,_,hoy,_⟩:=id y;have hly:=bG hoy;have lz:zs.length<=xs.length:=by
  obtain⟨_,_,_,_,_,Z⟩:=z1;obtain⟨_,_,_,_,_,X0⟩:=x;exact jp Z.nd fun z hz=>(m1 z).mp hz
 refine af (m:=Builtin.Frozenset.addrOf _) (au (af (jO ?_)));unfold Builtin.Frozenset.updateFrom;refine af (IR (s:={ s with heap:=h1 }) y1.typeIs ?_);rw[al rfl];refine af (m:=Builtin.Frozenset.addrOf _) (au ?_);refine af (m:=setEpoch r) (wpAny_setEpoch_of (s:={ s with heap:=h1 }) ho X.dat X.fit ?_);refine Q4 (s:={ s with heap:=h1 }) ho X z1 (kJ hly) (by omega) (fun s' Q' e q'=>?_) fun h2 us k2 u2 m2=>?_
 . unfold Builtin.Frozenset.unchanged;refine af (wpAny_setEpoch_of e X.dat X.fit ?_);rw[ai (by simp)];exact au q'
 . refine au (au ⟨_,rfl,(by intro z;cases z),q h2 us (fun b o e=>?_) u2 fun z=>by rw[m2 z,m1 z]⟩);rw[k2.2 b (cS (bG e))];exact k1 b o e
def hJ(w:World):Obj:={ cls:=.type "set",dict:=none,data:=.set #[] 0 (.fresh 0 0 (!eW w)) }
theorem ajV(v:Value){Q₁:VP}(h:Q₁ (.ref s.heap.objs.size) { s with heap:=s.heap.push (hJ w) }):codeAny (model prog w) A (.call (.builtin "set.__new__") ⟨[.type "set",v],[]⟩) (wants Q₁ E) s:=by
 refine codeAny_of_tree ?_;show wpAny _ A.in1 (do { checkBuiltinCall "set.__new__" ⟨[.type "set",v],[]⟩;again (.builtin "set.__new__" ⟨[.type "set",v],[]⟩) }) _ _ s;refine af (wpAny_of_eq (PySem.F.newCall_set_1 v) (au ⟨tO ax3 _,tP PySem.F.entry_set_new ?_⟩));rw[wm ax3 _];unfold Builtin.«set.__new__» Builtin.Frozenset.newClass;have ajW:=WI;obtain⟨hp,g,d,tk,os⟩:=s;dsimp only
 wp_walk
 refine qS (au ?_);dsimp only;simp only[newObj];exact af (wpAny_alloc (au (au h)))
theorem Q6{v:Value}{Q:VP}(hq:∀A':Around,A'.handled=A.handled->wpAny (model prog w) A' (Builtin.Frozenset.updateFrom "set.__init__" s.heap.objs.size v) (fun _ s'=>Q (.ref s.heap.objs.size) s') E { s with heap:=s.heap.push (hJ w) }) :
 wpAny (model prog w) A (call (.type "set") [v]) Q E s:=by
 obtain⟨c,tl,ayq⟩:=wn.mro;have ayr:=wn.made;have ajW:=wn.sub;refine GO (codeAny_of_tree ?_);show wpAny _ _ (callAny (.type "set") _) _ _ _;refine au ⟨Code.quiet_builtin _ (by decide +kernel),tP PySem.F.entry_type_call ?_⟩;rw[Around.under_plain (weight_type_call_type "set" [v] []) rfl];have h1:=wn.notType;have h2:=wn.canCreate;have hct:=PySem.F.typeCall_set_1 v
 repeat (any_goals (first | assumption | wp_step))
 refine qM (ajV v (E:=E) (Q₁:=fun obj s₁=>obj=.ref s.heap.objs.size/\s₁={ s with heap:=s.heap.push (hJ w) }) ⟨rfl,rfl⟩) fun r s₁ hr=>?_;cases r with
 | error e=>exact hr
 | ok fl=>
  cases fl with
  | ret obj=>
   obtain⟨rfl,rfl⟩:=hr;have hS:(s.heap.push (hJ w)).get? s.heap.objs.size=some (hJ w):=dR _ rfl;have hT:Shared.TypeIs { s with heap:=s.heap.push (hJ w) } (.ref s.heap.objs.size) "set":=⟨_,hS,rfl⟩;have hli:=wn.init.lookup;have hbi:=wn.init.bind (.ref s.heap.objs.size)
   repeat (any_goals (first | assumption | wp_step))
   refine qM (codeAny_call_builtin (R:=wants (fun r s₂=>r=.none/\Q (.ref s.heap.objs.size) s₂) E) wn.init.plain PySem.F.entry_set_init (check_set_init_1 hT ?_)) fun r₂ s₂ IS=>?_
   . unfold Builtin.«set.__init__» noKeywords;have kX:=hq;generalize hUF:Builtin.Frozenset.updateFrom=UF at kX ⊢;have iC:(s.heap.push (hJ w)).get? s.heap.objs.size=some { cls:=.type "set",dict:=none,data:=.set #[] 0 (.fresh 0 0 (!eW w)) }:=hS
     wp_walk
     exact d8 (kX _ rfl) (fun _ s' z=>au ⟨rfl,z⟩) fun _ _ e=>e
   . cases r₂ with
     | error e=>exact IS
     | ok fl₂=>
      cases fl₂ with
      | ret r=>
       obtain⟨rfl,z⟩:=IS
       repeat (any_goals (first | assumption | wp_step))
      | _=>exact IS.elim
  | _=>exact hr.elim
theorem ajY{v:Value}{Q:Bool->Shared->Prop}(hT:s.TypeIs v "list")(q:Q false s):wpAny (model prog w) A (Builtin.Frozenset.isAnySet v) Q E s:=by
 unfold Builtin.Frozenset.isAnySet;show wpAny _ _ (isInstance v (.type "set") >>= _) _ _ _;refine af (pj (T:="list") (b:=false) hT PySem.F.sub_list_set ?_);exact pj (T:="list") (b:=false) hT PySem.F.sub_list_frozenset q
theorem ajZ{R:Result->Shared->Prop}{I S:Addr}{fp wr:List Addr}{n:Nat}{P:Nat->Value->Prop}{St:Nat->Heap->Prop}(W:Walks prog w A.in1 I fp wr n P St)(zO:S∉fp){ys:Ls}(hv:∀i v,P i v->∃y tk,ys[i]?=some y/\v=.str y tk)(hb:n<=500)(hn:ys.length=n) :
 ∀(k i:Nat) (s:Shared) (xs:Ls),n - i=k->i<=n->St i s.heap->cG w s.heap S xs->xs.length<=i->(∀h' tk zs,(∀b o,b≠S->b∉wr->s.heap.get? b=some o->h'.get? b=some o)->cG w h' S zs->(∀z,z∈zs↔z∈xs\/z∈ys.drop i)->R (.ok (.ret .none)) { s with heap:=h',toks:=tk }) ->
  codeAny (model prog w) A (.builtin "set.update.loop" ⟨[.ref S,.ref I],[]⟩) R s:=by
 have Q7:S∉wr:=fun h=>zO (W.sub _ h);intro k
 induction k with
 | zero=>
  intro i s xs hk hi fM hS hl hR;have jq:i=n:=by omega
  subst jq;refine tP ax4 ?_;rw[wm WJ _];show wpAny _ A.in1 (pyNext (.ref I) >>= _) _ _ s;refine af (W.done s _ _ fM fun h' tk hm=>?_);show wpAny _ A.in1 (ret Value.none) _ _ _;exact au (hR h' tk xs (fun b o _ hb e=>hm b o hb e) (hS.at' fun o e=>hm S o Q7 e) fun z=>by rw[List.drop_eq_nil_of_le (by omega)];simp)
 | succ k ih=>
  intro i s xs hk hi fM hS hl hR;have aN:i<n:=by omega
  refine tP ax4 ?_;rw[wm WJ _];show wpAny _ A.in1 (pyNext (.ref I) >>= _) _ _ s;refine af (W.item i s _ _ aN fM fun v h1 Q8 hP zT hm=>?_);obtain⟨y,tk,hy,rfl⟩:=hv i v hP;have iC:cG w h1 S xs:=hS.at' fun o e=>hm S o Q7 e;show wpAny _ A.in1 (holding [Value.str y tk] (setAdd S (.str y tk)) >>= _) _ _ _;refine af (jO ?_);unfold setAdd;refine jO (af ((cw prog w).pyHash (k:=.inr y) (tR prog w y tk) ?_));refine IC (s:={ s with heap:=h1,toks:=Q8+1 }) iC (by omega) fun b h2 k2 S2=>?_;have ld:=Di xs y;have hd:ys.drop i=y::ys.drop (i+1):=by
   obtain⟨wS,e⟩:=cW.mp hy;rw[←e];exact NX wS
  refine au ⟨tO WJ _,ih (i+1) { s with heap:=h2,toks:=Q8+1 } (iE xs y) (by omega) aN (W.frame _ h1 _ zT fun b hb o e=>?_) S2 (by omega) fun h' oq zs kk Z mem=>?_⟩
  . rw[k2.2 b (fun h:b=S=>zO (by rw[←h];exact hb))];exact e
  . refine hR h' oq zs (fun b o hb hw e=>kk b o hb hw ?_) Z fun z=>?_
    . rw[k2.2 b hb];exact hm b o hw e
    . rw[mem z,IA,hd,aY];constructor
      . rintro((p | p) | p)
        . exact .inl p
        . exact .inr (.inl p)
        . exact .inr (.inr p)
      . rintro(p | p | p)
        . exact .inl (.inl p)
        . exact .inl (.inr p)
        . exact .inr p
theorem aj0{l:Addr}{items:Av}{ys:Ls}{Q:VP}(hh:A.handled=none)(hl:s.heap.IsList l items)(hv:∀(i:Nat) (v:Value),items[i]?=some v->∃y tk,ys[i]?=some y/\v=Value.str y tk)(hb:items.size<=500)(hn:ys.length=items.size)
 (q:∀h' tk zs,(∀b o,s.heap.get? b=some o->h'.get? b=some o)->cG w h' s.heap.objs.size zs->(∀z,z∈zs↔z∈ys)->Q (.ref s.heap.objs.size) { s with heap:=h',toks:=tk }):wpAny (model prog w) A (call (.type "set") [.ref l]) Q E s:=by
 refine Q6 fun A' hA=>?_;have zR:(s.heap.push (hJ w)).IsList l items:=hl.push _;obtain⟨ol,Dt,rG,nl,hdl⟩:=id hl;have zN:l<s.heap.objs.size:=bG Dt;unfold Builtin.Frozenset.updateFrom;refine af (ajY (s:={ s with heap:=_ }) zR.typeIs ?_);rw[ai cK];refine af (N3 (s:={ s with heap:=_ }) zR.typeIs ?_);rw[ai (by decide)];refine af (Wb (s:={ s with heap:=_ }) zR ?_);refine af (wpAny_runValue ?_);have hz:(s.heap.push (hJ w)).objs.size=s.heap.objs.size+1:=tG _ _;have aj1:l≠(s.heap.push (hJ w)).objs.size:=by rw[hz];exact cS (Wx zN)
 refine ajZ (Od (A:=A'.in1) (by rw[show A'.in1.handled=A'.handled from rfl,hA,hh]) _ l aj1 items) (S:=s.heap.objs.size) ?_ hv hb hn (items.size - 0) 0 _ [] (by omega) (dG _) ⟨⟨_,dR _ rfl,rfl,rfl⟩,zR.push _⟩
  ⟨_,_,_,_,bX _ (dR _ rfl),IP⟩ (dG _) fun h' tk zs k Z m=>?_
 . simp only[aY,fq,ft,py];exact⟨by rw[hz];exact cS (yG _),kJ zN⟩
 . show wpAny _ _ _ _ _ _;refine au (q h' tk zs (fun b o e=>k b o (cS (bG e)) (fun hb=>?_) (bX _ (bX _ e))) Z fun z=>by rw[m z];simp);have:=bG e;rw[bw.mp hb,hz]at this;exact absurd (Nat.lt_of_succ_lt this) (pq _)
end
section
variable {prog:Program}{w:World}{A:Around}{E:VP}{s:Shared}
theorem aj2{d:Addr}{o:Obj}{es:Array DictEntry}{ep:Nat}{ks:Ls}{Q:VP}(ho:s.heap.get? d=some o)(hc:o.cls=.type "dict")(hd:o.data=.dict es ep)(hm:(d == sysModules)=false)(hn:ks.length=es.size)(hb:ks.length<=63)
 (hk:∀(i:Nat) (e:DictEntry),es[i]?=some e->∃y tk,ks[i]?=some y/\e.key=Value.str y tk/\e.hash=md w (.inr y))
 (q:∀h' zs,(∀b o,s.heap.get? b=some o->h'.get? b=some o)->cG w h' s.heap.objs.size zs->(∀z,z∈zs↔z∈ks)->Q (.ref s.heap.objs.size) { s with heap:=h' }):wpAny (model prog w) A (call (.type "set") [.ref d]) Q E s:=by
 refine Q6 fun A' hA=>?_;have aN:=bG ho;have oj:=bX (hJ w) ho;have hT:Shared.TypeIs { s with heap:=s.heap.push (hJ w) } (.ref d) "dict":=⟨_,oj,hc⟩;unfold Builtin.Frozenset.updateFrom;refine af (ajN hT ?_);rw[ai cK];refine af (N3 hT ?_);rw[al (by decide)];refine af (pi ?_);refine af (m:=Builtin.Frozenset.addrOf _) (au ?_);rw[hm,ai cK];refine af (wpAny_dictEpoch (s:={ s with heap:=s.heap.push (hJ w) }) oj hd ?_);refine af (N1 (s:={ s with heap:=s.heap.push (hJ w) }) oj hd ?_);have hS0:cG w (s.heap.push (hJ w)) s.heap.objs.size []:=⟨_,_,_,_,dR _ rfl,IP⟩;refine af (Q1 (s:={ s with heap:=s.heap.push (hJ w) }) (n:=es.size) hS0 (by rw[←hn];simpa using cu hb (by decide)) fun h1 o1 cX rF t1 k1 e1 X1 _=>?_);have cY:d≠s.heap.objs.size:=cS aN;have zQ:h1.get? d=some o:=by rw[k1.2 d cY];exact oj
 refine af (N1 (s:={ s with heap:=h1 }) zQ hd ?_);refine af ?_;rw[Std.Legacy.Range.forIn_eq_forIn_range'];simp only[Std.Legacy.Range.size,Nat.sub_zero,Nat.add_sub_cancel,Nat.div_one];refine yB _ (fun rest _ s'=>∃h' i zs,s'={ s with heap:=h' }/\rest=List.range' i (es.size - i)/\i<=es.size/\Heap.SameBut s.heap.objs.size (s.heap.push (hJ w)) h'/\cG w h' s.heap.objs.size zs/\zs.length<=i/\∀z,z∈zs↔z∈ks.take i) _ ?_ ?_ _ _ ⟨h1,0,[],rfl,by simp,dG _,k1,⟨_,_,_,_,e1,X1⟩,aI _,fun z=>by simp⟩
 . rintro x rest b s' ⟨h',i,zs,rfl,hr,hi,kk,Z,hl,mem⟩;have Q9:i<es.size:=by
    rcases Nat.lt_or_ge i es.size with h | h
    . exact h
    . rw[Nat.sub_eq_zero_of_le h]at hr;simp at hr
   obtain⟨rfl,IT⟩:x=i/\rest=List.range' (i+1) (es.size - (i+1)):=by
    have e:es.size - i=(es.size - (i+1))+1:=by omega
    rw[e,List.range'_succ]at hr;injection hr with h1 h2;exact⟨h1,h2⟩
   have Dq:h'.get? d=some o:=by rw[kk.2 d cY];exact oj
   refine af (N1 (s:={ s with heap:=h' }) Dq hd ?_);have hg:es[x]?=some es[x]:=qR Q9;obtain⟨y,tk,hy,kU,IU⟩:=hk x _ hg;rw[hg];dsimp only;rw[kU,IU];refine af (jO (IC (s:={ s with heap:=h' }) Z (by omega) fun b h2 k2 Z2=>?_));have Dr:h2.get? d=some o:=by rw[k2.2 d cY];exact Dq
   refine af (wpAny_dictEpoch (s:={ s with heap:=h2 }) Dr hd ?_);rw[ai (by simp)];refine au ⟨h2,x+1,iE zs y,rfl,IT,Q9,kk.trans k2,Z2,by have:=Di zs y;omega,fun z=>?_⟩;rw[IA,mem z,gT,hy];simp
 . rintro b s' ⟨h',i,zs,rfl,hr,hi,kk,Z,hl,mem⟩;have jq:i=es.size:=by
    rcases Nat.lt_or_ge i es.size with h | h
    . have e:es.size - i=(es.size - (i+1))+1:=by omega
      rw[e,List.range'_succ]at hr;exact nomatch hr
    . exact Nat.le_antisymm hi h
   refine au (q h' zs (fun b o e=>?_) Z fun z=>by rw[mem z,jq,←hn,eZ]);rw[kk.2 b (cS (bG e))];exact bX _ e
end
def IV(w:World)(H:Hp)(ys:Ls)(Q:VK):Prop:=∀r xs H',H r=none->ag H H'->H' r=some (oh w r xs)->xs.Nodup->(∀z,z∈xs↔z∈ys)->Q (.ref r) H'
theorem cG.nd{w:World}{h:Heap}{a:Addr}{xs:Ls}(x:cG w h a xs):xs.Nodup:=x.elim fun _ aj4=>aj4.elim fun _ aj5=>aj5.elim fun _ aj6=>aj6.elim fun _ aj7=>aj7.elim fun _ X=>X.nd
theorem Ra{us:Lw}{ys:Ls}(h:StrsAre us ys):us.length=ys.length/\∀(i:Nat) (v:Value),us[i]?=some v->∃y tk,ys[i]?=some y/\v=Value.str y tk:=by
 induction h with
 | nil=>exact⟨rfl,fun i v e=>by cases e⟩
 | cons y t _ ih=>
  refine⟨by simp[ih.1],fun i v e=>?_⟩;cases i with
  | zero=>cases e;exact⟨y,t,rfl,rfl⟩
  | succ i=>exact ih.2 i v e
theorem Rc:∀{ys:Ls}{us:Lw},aQ (ys.map V.str) us->StrsAre us ys
 | [],us,r=>by cases r;exact .nil
 | y::ys,us,r=>by
  cases r with
  | cons a b=>
   obtain⟨t,rfl⟩:=a;exact .cons y t (Rc b)
section
variable {X:Cx}
theorem aj8(hc:X.calm=true):fN X (.type "set") (fun vs H Q=>∃p ys,vs=[.ref p]/\ae X.K H p (ys.map V.str)/\ys.length<=500/\IV X.w H ys Q):=by
 intro pins s σ H xs us Q I r h;obtain⟨p,ys,rfl,hp,hz,q⟩:=h;obtain⟨u,rfl,ru⟩:=vals1 r;cases ru;obtain⟨its,rv,ht,Qg⟩:=I.list hp;have hs:=Ra (Rc rv);refine aj0 (I.ok.hd hc) ht.isList (ys:=ys) (fun i v e=>hs.2 i v (by simpa using e)) (by simp;omega) (by simp[hs.1]) fun h' tk zs k Z m=>?_;have hn:=I.hok.fresh (aI s.heap.objs.size);exact⟨.ref s.heap.objs.size,_,I.laid (t':=tk) (a:=s.heap.objs.size) (o:=oh X.w s.heap.objs.size zs) k (aI _) (IM Z),rfl,q _ zs _ hn (fU hn) aH Z.nd m⟩
theorem Rf:fN X (.type "set") (fun vs H Q=>∃p kvs ks,vs=[.ref p]/\H p=some (.dK kvs)/\uz kvs ks/\ks.length<=63/\IV X.w H ks Q):=by
 intro pins s σ H xs us Q I r h;obtain⟨p,kvs,ks,rfl,e,Db,hz,q⟩:=h;obtain⟨u,rfl,ru⟩:=vals1 r;cases ru;obtain⟨z,hd,vs,rel,dd⟩:=mq I.hok e;obtain⟨o,es,ep,ho,hx,hdt,Du,mE,Rg⟩:=id dd;have hlen:=rel.length;have l1:kvs.length=ks.length:=by have:=eN List.length Db;simpa using this
 have l2:es.size=vs.length:=by have:=mE.length;simpa using this
 have hS:StrsAre (es.toList.map (·.key)) ks:=Qi (X:=X) Db rel (by rw[ao,eT];exact l2) fun j v hj=>by
  rw[dH]at hj;cases he:es.toList[j]? with
  | none=>rw[he]at hj;cases hj
  | some en=>
   rw[he]at hj;cases hj;have hjl:=(cW.mp he).1;rw[eT]at hjl;obtain⟨kv,ux⟩:∃kv,vs[j]?=some kv:=⟨vs[j]'(by omega),jl _⟩;exact⟨kv.1,kv.2,ux,(mE.get? he ux).1⟩
 refine aj2 (ks:=ks) ho hx.1 hdt hd (by omega) hz (fun i en hi=>?_) fun h' zs k Z m=>?_
 . obtain⟨y,tk,hy,hk⟩:=(Ra hS).2 i en.key (by rw[dH,wk,hi];rfl);obtain⟨k',Rh,IU⟩:=Du en (ax5 hi);refine⟨y,tk,hy,hk,?_⟩;rw[hk]at Rh;rw[IU,(cw X.prog X.w).inj _ _ _ Rh (tR X.prog X.w y tk)];rfl
 . have hn:=I.hok.fresh (aI s.heap.objs.size);exact⟨.ref s.heap.objs.size,_,I.laid (t':=s.toks) (a:=s.heap.objs.size) (o:=oh X.w s.heap.objs.size zs) k (aI _) (IM Z),rfl,q _ zs _ hn (fU hn) aH Z.nd m⟩
theorem akb:cL X (binaryOp .BitOr) (fun x y H Q=>∃p q xs ys,x=.ref p/\y=.ref q/\p≠q/\H p=some (oh X.w p xs)/\H q=some (oh X.w q ys)/\xs.length+ys.length<=126/\IV X.w H (xs++ys) Q):=by
 intro pins s σ H x y v u Q I rx ry h;obtain⟨p,q,xs,ys,rfl,rfl,cY,e1,e2,hz,qq⟩:=h;cases rx;cases ry;have x1:=IN I.hok e1;have x2:=IN I.hok e2;refine wpAny_binaryOp_same (op:=.BitOr) (T:="set") x1.typeIs x2.typeIs PySem.F.fills_set_or PySem.F.slot_set_or (ajR x1 x2 cY hz fun h' zs k Z m=>?_);have hn:=I.hok.fresh (aI s.heap.objs.size);exact⟨.ref s.heap.objs.size,_,I.laid (t':=s.toks) (a:=s.heap.objs.size) (o:=oh X.w s.heap.objs.size zs) k (aI _) (IM Z),rfl,qq _ zs _ hn (fU hn) aH Z.nd fun z=>by rw[m z];simp⟩
end
theorem akc{P:Program}{w:World}{K:Fg}{mg:Mv}{base:Heap}{k:Nat}{q c':Addr}{qual:Str}{params:Arguments}{body:Expr}{scope:Scope}{pm hX:Value}{N ps:Ls}{A:Around}{outer:List Env}{s:Shared}{H:Hp}{us:Lw}{vs:Lv}{Q:VK}{E:XK}{t:TE}
 (S:aP N ps scope) (hr:ce (k+1) A) (e0:mn P w K mg base A outer s H) (ho:s.heap.get? q=some (PySem.W.kla_obj "<lambda>" qual params body scope [] pm c' hX)) (IW:s.heap.CodeRec (.ref c') qual)
 (hb:bindArgs (PySem.W.kla_fn "<lambda>" qual params body scope [] pm (.ref c') hX) ⟨us,[]⟩=pure (ps.zip us)) (hl:vs.length=ps.length) (r:aQ vs us)
 (ht:PE (kY ak P w K mg base N qual scope q (.ref c') A outer s H E) body t) (hq:t (start N vs) H Q) :
 codeAny (model P w) A (.call (.ref q) ⟨us,[]⟩) (CR ak outer P w H s Q E) s:=by
 have lim:s.heap.NoLimit:=e0.mod.nolimit.keeps fun b o e=>(e0.bs b o e).1;have HA:∀y∈ps.zip us,scope.names.lookup y.1=some .local\/(scope.names.lookup y.1=some .cell/\((cellsFrom (s.heap.objs.size+1) scope.names []).lookup y.1).isSome=true):=fun⟨n,v⟩ hy=>by
  rcases S.par n (NQ hy).1 with q | q
  . exact .inl q
  . exact .inr ⟨q,Wg _ _ _ (.inl q)⟩
 refine PySem.W.kla_callFunE hr.depth ho rfl S.co S.gen rfl IW ?_;rw[hb];refine au ?_;refine axF S.kind HA fun env he s1 x=>?_;subst he;refine⟨lim.keeps x.toInCall.keep,PySem.W.kla_codeExpr ?_⟩;have I:Inv (kY ak P w K mg base N qual scope q (.ref c') A outer s H E) [] (start N vs) H s1:=Pb S hr.hd e0 hl r x;refine d8 (ht [] s1 (start N vs) H _ I hq) (fun u s' hs=>?_) fun e s' hs=>hs;obtain⟨v,H',J,rv,q⟩:=hs;exact⟨v,H',J.os,J.bare,J.base,J.hok,rv,q⟩
open PySem.W (tabObj)
def hZ(P:Addr)(ps:Av):HO:=.ext fun h=>h.get? P=some (tabObj ps)
def zU(c':Addr)(qual:Str):HO:=.ext fun h=>h.CodeRec (.ref c') qual
def zV(q c':Addr)(qual:Str)(params:Arguments)(body:Expr)(scope:Scope):HO:=.ext fun h=>∃pm hX,h.get? q=some (PySem.W.kla_obj "<lambda>" qual params body scope [] pm c' hX)
def aD(H:Hp)(P:Addr)(pos:Pos)(qual:Str):Prop:=H P=some (hZ P #[])\/∃c',H P=some (hZ P #[rawInt pos.line,rawInt pos.col,.ref c'])/\H c'=some (zU c' qual)
def Ri(P:Addr)(qual:Str)(params:Arguments)(body:Expr)(scope:Scope)(pos:Pos):TE:=fun σ H Q=>aD H P pos qual/\∀q c' H',H q=none->H' P≠none->(∀b o,H b=some o->b≠P->H' b=some o)->aD H' P pos qual->H' c'=some (zU c' qual)->H' q=some (zV q c' qual params body scope)->Q (.ref q) H'
theorem zW{Pr:Program}{w:World}{H:Hp}{h:Heap}{a:Addr}{p:Heap->Prop}{o:Obj}(e:h.get? a=some o)(hp:p h)(hk:∀h1 h2:Heap,p h1->(∀o,h1.get? a=some o->h2.get? a=some o)->p h2):ci Pr w H h a (.ext p):=⟨hp,⟨_,e⟩,hk⟩
theorem akd{c':Addr}{qual:Str}{h1 h2:Heap}(h:h1.CodeRec (.ref c') qual)(k:∀o,h1.get? c'=some o->h2.get? c'=some o):h2.CodeRec (.ref c') qual:=by
 obtain⟨c,oc,vs,t,e,IX,h3,h4⟩:=h;cases e;exact⟨c',oc,vs,t,rfl,k _ IX,h3,h4⟩
section
variable {X:Cx}{c P:Addr}{params:Arguments}{body:Expr}{scope:Scope}{pos:Pos}{qual:Str}
theorem ake(Dv:X.env.code=.ref c)(hd:PySem.W.codeHdIn X.K c P=true)(hb:X.base.BuiltinsAt X.mg P)(hq:X.env.qual ++ "<lambda>"=qual:=by rfl)(Dw:X.env.globals=mainGlobals:=by rfl)(rG:closureFor scope X.env=pure []:=by rfl)(IY:defaultsOf params X.env=([],[]):=by rfl) :
 PE X (.Lambda params body scope pos) (Ri P qual params body scope pos):=by
 intro pins s σ H Q I h;obtain⟨tb,q⟩:=h;subst hq;refine PySem.W.kla_eval IY ?_;have hg:s.heap.Ns mainGlobals X.mg:=I.mod.glob.keeps I.bk;obtain⟨bm,ob,b1,b2,b3,b4,b5,b6⟩:=hb;have lC:s.heap.BuiltinsAt X.mg P:=⟨bm,ob,b1,b2,b3,b4,I.bk _ _ b5,b6⟩;have C:=PySem.W.codeHd_of_K I.kIn hd;have hgP:∀ps,s.heap.get? P=some (tabObj ps)->mainGlobals≠P:=fun ps e z=>by
  obtain⟨o,es,ep,e',d',_⟩:=hg;rw[z,e]at e';cases e';cases d'
 have aN:∀b o,s.heap.get? b=some o->b<s.heap.objs.size:=fun b o e=>bG e
 rcases tb with e | ⟨c',e1,e2⟩
 . have hP:s.heap.get? P=some (tabObj #[]):=(show ci X.prog X.w H s.heap P (hZ P #[]) from I.hok P _ e).1;refine PySem.W.kla_makeFunction rG Dw hg Dv C hP trivial rfl (hgP _ hP) lC fun c' hX h' tk hx uD hl Rj IZ=>?_;have I1:Inv X pins σ (ah H P (hZ P (#[] ++ #[rawInt pos.line,rawInt pos.col,.ref c']))) { s with heap:=h',toks:=tk }:=
    I.write (x:=P) (e:=P) (by rw[e];exact True.intro) (.inl rfl) (fun b u hb e=>hx b u hb e) ⟨_,IZ⟩ (zW IZ IZ fun h1 h2 a k=>k _ a)
   have nc:H c'=none:=I.hok.fresh uD;have cP:c'≠P:=fun z=>absurd (aN _ _ hP) (Oe.mpr (z▸uD));have nc1:ah H P (hZ P (#[] ++ #[rawInt pos.line,rawInt pos.col,.ref c'])) c'=none:=by rw[aW cP];exact nc
   have akh:=Rj;obtain⟨c2,oc,vs,t,ec,pD,uE,hov⟩:=akh;cases ec;have I2:=I1.track (o:=zU c' (X.env.qual ++ "<lambda>")) nc1 (cu I.sz uD) (kJ (gc I.lt uD)) (fun x cc ex z=>by
    obtain⟨v,oo,hv,_⟩:=I.cell x cc ex;exact absurd (aN _ _ hv) (Oe.mpr (z▸uD))) (fun p hp z=>absurd (aN _ _ (I.pin p hp).1) (Oe.mpr (z▸uD))) (zW pD Rj fun h1 h2 a k=>akd a k)
   have gq:(h'.push (PySem.W.kla_obj "<lambda>" (X.env.qual ++ "<lambda>") params body scope [] ((X.mg "__name__").getD .none) c' hX)).get? h'.objs.size=some (PySem.W.kla_obj "<lambda>" (X.env.qual ++ "<lambda>") params body scope [] ((X.mg "__name__").getD .none) c' hX):=dR _ rfl;have I3:=I2.laid (t':=tk) (h':=h'.push (PySem.W.kla_obj "<lambda>" (X.env.qual ++ "<lambda>") params body scope [] ((X.mg "__name__").getD .none) c' hX)) (a:=h'.objs.size) (o:=zV h'.objs.size c' (X.env.qual ++ "<lambda>") params body scope)
    (fun b u e=>bX _ e) (aI _) (zW gq ⟨_,_,gq⟩ fun h1 h2 aki k=>aki.elim fun pm akj=>akj.elim fun cv a=>⟨pm,cv,k _ a⟩)
   have hsz:s.heap.objs.size<=h'.objs.size:=cu uD (wg hl);have nq:H h'.objs.size=none:=I.hok.fresh hsz;have qP:h'.objs.size≠P:=fun z=>absurd (aN _ _ hP) (Oe.mpr (z▸hsz));have qc:h'.objs.size≠c':=(cS hl).symm;refine⟨.ref h'.objs.size,_,I3,rfl,q _ c' _ nq ?_ (fun b o eb nb=>?_) (.inr ⟨c',?_,?_⟩) ?_ aH⟩
   . rw[aW qP.symm,aW cP.symm,aH];exact fun z=>nomatch z
   . rw[aW (aL eb nq),aW (aL eb nc),aW nb];exact eb
   . rw[aW qP.symm,aW cP.symm,aH];rfl
   . rw[aW qc.symm,aH]
   . rw[aW qc.symm,aH]
 . have hP:s.heap.get? P=some (tabObj #[rawInt pos.line,rawInt pos.col,.ref c']):=(show ci X.prog X.w H s.heap P (hZ P _) from I.hok P _ e1).1;have hf:codeAmong pos (#[rawInt pos.line,rawInt pos.col,.ref c']:Av).toList=some (.ref c'):=by
    show(if ((pos.line:Int) == pos.line && (pos.col:Int) == pos.col)=true then _ else _)=_;rw[al (by simp)]
   refine PySem.W.kla_makeFunctionHit rG Dw hg Dv C hP trivial hf lC fun hX h' tk hk hsz=>?_;have gq:(h'.push (PySem.W.kla_obj "<lambda>" (X.env.qual ++ "<lambda>") params body scope [] ((X.mg "__name__").getD .none) c' hX)).get? h'.objs.size=some (PySem.W.kla_obj "<lambda>" (X.env.qual ++ "<lambda>") params body scope [] ((X.mg "__name__").getD .none) c' hX):=dR _ rfl;have I3:=I.laid (t':=tk) (h':=h'.push (PySem.W.kla_obj "<lambda>" (X.env.qual ++ "<lambda>") params body scope [] ((X.mg "__name__").getD .none) c' hX)) (a:=h'.objs.size) (o:=zV h'.objs.size c' (X.env.qual ++ "<lambda>") params body scope)
    (fun b u e=>bX _ (hk b u e)) hsz (zW gq ⟨_,_,gq⟩ fun h1 h2 akk k=>akk.elim fun pm akl=>akl.elim fun cv a=>⟨pm,cv,k _ a⟩)
   have nq:H h'.objs.size=none:=I.hok.fresh hsz;refine⟨.ref h'.objs.size,_,I3,rfl,q _ c' _ nq ?_ (fun b o eb nb=>?_) (.inr ⟨c',?_,?_⟩) ?_ aH⟩
   . rw[aW (aL e1 nq),e1];exact fun z=>nomatch z
   . rw[aW (aL eb nq)];exact eb
   . rw[aW (aL e1 nq)];exact e1
   . rw[aW (aL e2 nq)];exact e2
   . rw[aW (aL e2 nq)];exact e2
end
end L2
namespace L2
open PySem PySem.Spec PyProof.Rows
section
variable {X:Cx}
def akm:V->Lv->Hp->VK->Prop:=fun x vs H Q=>∃a b,x=.str a/\vs=[.str b]/\Q (.bl (Txt.startswith a b)) H
theorem Rk:pL X "str.startswith" akm:=by
 intro pins s σ H x xs v us Q I rx rs h;obtain⟨a,b,rfl,rfl,q⟩:=h;obtain⟨t,rfl⟩:=rx;obtain⟨u,rfl,t',rfl⟩:=vals1 rs;exact SC.startswith (cR I q rfl)
theorem Rm:∀l:List (Str×Tok),aQ ((l.map (·.1)).map V.str) (strValues l)
 | []=>.nil
 | p::r=>.cons ⟨p.2,rfl⟩ (Rm r)
def akn:V->Lv->Hp->VK->Prop:=fun x vs H Q=>∃a b,x=.str a/\vs=[.str b]/\b.length≠0/\a.length+2<=sizeLine/\dL H (.lst ((Txt.split a b).map V.str)) Q
theorem I8:pL X "str.split" akn:=by
 intro pins s σ H x xs v us Q I rx rs h;obtain⟨a,b,rfl,rfl,hb,hz,q⟩:=h;obtain⟨t,rfl⟩:=rx;obtain⟨u,rfl,t',rfl⟩:=vals1 rs;have hy:(b.length == 0)=false:=by simpa using hb
 have fin:∀(l:List (Str×Tok)) (k:Nat),l.map (·.1)=Txt.split a b->EP X pins σ Q (.ref s.heap.objs.size) { s with heap:=s.heap.push { cls:=.type "list",data:=.seq (strValues l).toArray },toks:=k }:=fun l k e=>by
  have r:=Rm l;rw[e]at r;have hl:((Txt.split a b).map V.str).length<=sizeLine:=by
   rw[ao];exact cu (split_le a b) hz
  exact⟨.ref s.heap.objs.size,_,I.laid (t':=k) (fun b o e=>bX _ e) (aI _) (show ci X.prog X.w _ _ _ (.lst ((Txt.split a b).map V.str)) from ⟨hl,_,_,r,dR _ rfl⟩),rfl,q.at _ (I.hok.fresh (aI _))⟩
 have hn:(Builtin.Str.partsBetween a (Builtin.Str.occurrences a b 0 a.length (a.length+1)) b.length).length<=sizeLine:=by
  have e1:=StrLaws.occ_length_le a b 0 a.length (a.length+1);rw[length_partsBetween];omega
 cases h1:(decide (a.length<b.length) || decide (Builtin.Str.strKind a<Builtin.Str.strKind b))
 . cases hf:(Builtin.Str.occurrences a b 0 a.length (a.length+1)).isEmpty
   . refine GR WK (Ce _ _ _) WL (WM _ _) (meets_str_split_sep a b t t' h1 hy hf (by omega) hn) ?_;show wants _ _ _ { s with toks:=_,heap:=s.heap.push { cls:=.type "list",data:=.seq (strsFrom s.toks (Builtin.Str.partsBetween a (Builtin.Str.occurrences a b 0 a.length (a.length+1)) b.length)).toArray } };rw[strsFrom_eq];exact fin (numbered s.toks _) _ ((numbered_texts _ _).trans ((ai (WN h1)).trans (ai (WN hf))).symm)
   . exact GR WK (Ce _ _ _) WL (WM _ _) (meets_str_split_not_found a b t t' h1 hy hf)
      (fin [(a,t)] s.toks ((ai (WN h1)).trans (al hf)).symm)
 . exact GR WK (Ce _ _ _) WL (WM _ _) (meets_str_split_cannot_occur a b t t' h1)
    (fin [(a,t)] s.toks (al h1).symm)
theorem ako:fN X (.type "int") (fun xs H Q=>∃x n,xs=[.str x]/\PySem.intText? x=some n/\x.length<=640/\Q (.int n) H):=by
 intro pins s σ H xs us Q I r h;obtain⟨x,n,rfl,hn,hl,q⟩:=h;obtain⟨u,rfl,t,rfl⟩:=vals1 r;exact PySem.W.KIN.call_text hn hl ⟨.int n,H,I.tok _,⟨_,rfl⟩,q⟩
end
def I9(c:Nat):Str:=⟨#[c]⟩
section
variable {X:Cx}{tg:Expr}
end
theorem Inv.turnedL{X:Cx}{pins:Po}{σ:St}{H:Hp}{s:Shared}{h':Heap}{t':Nat}{fp:List Addr}(I:Inv X pins σ H s)(k:∀b o,b∉fp->s.heap.get? b=some o->h'.get? b=some o)(hf:∀b∈fp,eU X pins H b):Inv X pins σ H { s with heap:=h',toks:=t' }:=by
 have y8:∀b u,H b=some u->b∉fp:=fun b u e z=>by rw[(hf b z).1]at e;cases e
 have hL:X.env.locals∉fp:=fun z=>(hf _ z).2.1 rfl;refine I.step (g':=s.gens) (d':=s.drawn) (ch:=fp) (fun b hb=>?_) (fun b o _ _ hc e _=>k b o hc e) (fun b o _ _ hc e _=>⟨o.slots,k b o hc e⟩) (fun _ _ _ _ n=>n)
  (fun b o hc e=>⟨o,k b o hc e⟩) (fun _ _ e=>e) (fun _ _ _ e=>e) (fun b ps e=>⟨#[],by rw[e];simp⟩) (fun m hm=>?_) (fun b u e=>?_) I.bare
 . obtain⟨f0,f1,f2,f3,f4,f5⟩:=hf b hb;exact⟨f3,f1,f4,f5⟩
 . obtain⟨o,es,ep,ho,r⟩:=hm;exact⟨o,es,ep,k _ o hL ho,r⟩
 . refine(I.hok b u e).stay (fun c v hc q=>k c v ?_ q) (fun _ q=>q) fun _ _ q=>q
   rcases hc with z | z
   . rw[z];exact y8 b u e
   . exact y8 c _ z
def zX(K:Fg)(a:Addr):It:=
 ⟨fun i H=>∃xs x,ae K H a xs/\xs[i]?=some x,fun i H v H'=>∃p x,H p=none/\(∀xs,ae K H a xs->xs[i]?=some x)/\v=.ref p/\H'=ah H p (.tup [.int i,x]),fun i H=>∃xs,ae K H a xs/\xs.length<=i⟩
theorem akp{P:Program}{w:World}{K:Fg}{elts:List Expr}{x1:Nat}{pos:Pos}(a e it:Addr)(cY:e≠it):q9 P w K (.Tuple elts x1 pos) (zX K a) [e,it] e (fun i h=>(∃old,IsEnum h e it i old)/\h.IsListIter it a i) where
 mem:=by simp
 obj:=fun i h st b hb=>by
  obtain⟨⟨old,st⟩,o,e',c,d⟩:=st
  rcases aY.mp hb with rfl | hb
  . exact⟨_,st,fun v z=>by
     have z':Data.fields _=Data.cell v:=z;cases z'⟩
  . have hb:=bw.mp hb;subst hb;exact⟨o,e',fun v z=>by rw[d]at z;cases z⟩
 keep:=fun i h h' akq k=>akq.elim fun akr fv=>akr.elim fun old st=>⟨⟨old,k e (by simp) _ st⟩,fv.at fun o e'=>k it (by simp) o e'⟩
 item:=by
  intro X hP hw hK hc i pins s σ H E I hf st hg;subst hP hw hK;obtain⟨⟨old,st⟩,fv⟩:=st;obtain⟨xs,x,hq,hx⟩:=hg;obtain⟨its,rv,p,hz⟩:=I.list hq;obtain⟨u,hu,ru⟩:=rv.get hx;refine wpAny_pyNext_enum_item st fv p.isList (x:=u) (by simpa using hu) cY fun h1 ho Rn Im hsz eL=>⟨.ref s.heap.objs.size,rfl,?_⟩;refine wpAny_letOwnedTupleGo_enum ho fun h2 en2 sb=>?_;have sb:Heap.SameBut e h1 h2:=sb;have Ro:e<s.heap.objs.size:=bG st;have Dd:it<s.heap.objs.size:=by
   obtain⟨o,e',_⟩:=fv;exact bG e'
  have I1:Inv X pins σ H { s with heap:=h2,toks:=s.toks+1 }:=I.turnedL (fp:=[e,it]) (fun b ob hb e'=>by
   simp only[aY,fq,ft,py]at hb;exact(sb.2 b hb.1).trans (eL b ob hb.1 hb.2 e')) hf
  have hn:H s.heap.objs.size=none:=I.hok.fresh (aI _);have fp:=I.fpOk (H':=H) (aI _) hn;have uq:h2.get? s.heap.objs.size=some { cls:=.type "tuple",data:=.seq #[.int i s.toks,u] }:=(sb.2 _ (kJ Ro)).trans Im;have I2:Inv X pins σ (ah H s.heap.objs.size (.tup [.int i,x])) { s with heap:=h2,toks:=s.toks+1 }:=by
   refine I1.track hn I.sz fp.2.1 fp.2.2.2.2.1 fp.2.2.2.2.2 ?_;exact⟨by show 2<=sizeLine;decide,[.int i s.toks,u],.cons ⟨_,rfl⟩ (.cons ru .nil),_,uq,rfl,0,rfl⟩
  refine⟨.ref s.heap.objs.size,_,I2,rfl,⟨_,x,hn,fun ys hy=>by rw[I.list_inj hy hq];exact hx,rfl,rfl⟩,⟨⟨u,by simpa using en2⟩,Rn.at fun o e'=>(sb.2 it (ge cY)).trans e'⟩,fun b hb=>?_⟩;have hb0:=(hf b hb).1;rw[aW,hb0];simp only[aY,fq,ft]at hb
  rcases hb with rfl | rfl
  . exact cS Ro
  . exact cS Dd
 done:=by
  intro X hP hw hK hc i pins s σ H E I hf st hg;subst hP hw hK;obtain⟨⟨old,st⟩,fv⟩:=st;obtain⟨xs,hq,hx⟩:=hg;obtain⟨its,rv,p,hz⟩:=I.list hq;have hl:=rv.length;exact wpAny_pyNext_enum_end (I.ok.hd hc) st fv p.isList (by simp;omega) fun h' eb=>⟨rfl,I.turnedL (t':=s.toks) (fp:=[e,it]) (fun b o hb e'=>eb b o (fun z=>hb (by simp[z])) e') hf⟩
 self:=fun _ _ _ _ _ st h=>st.elim fun aku _=>aku.elim fun _ st=>wpAny_pyIter_enum st h
section
variable {X:Cx}
def akv(K:Fg)(ta:TA):TI:=fun σ H R=>ta σ H fun vs H1=>∃a,vs=[.ref a]/\(∃xs,ae K H1 a xs)/\R (zX K a) H1
theorem Rp{l:Expr}{ta:TA}{p pos p2:Pos}{elts:List Expr}{x1:Nat}(hg:Gl X "enumerate")(hm:X.mg "enumerate"=none)(ha:PA X [l] ta)(hs:starEach [l] X.env=[(false,eval l X.env)]:=by rfl) :
 PI X (.Tuple elts x1 p2) (.Call (.Name "enumerate" p) [l] [] pos) (akv X.K ta):=by
 intro pins s σ H R I h;refine Call_ (wv I hg hm boot_enumerate (NN (thn (ha pos pins s σ H _ I h) fun us s1 akw=>akw.elim fun vs akx=>akx.elim fun H1 aky=>aky.elim fun I1 akz=>akz.elim fun r1 q1=>?_) hs rfl));obtain⟨a,e,⟨xs,hq⟩,q⟩:=q1;subst e;obtain⟨u,rfl,rx⟩:=vals1 r1;cases rx;obtain⟨its,rv,pl,hz⟩:=I1.list hq;refine call_enumerate_list pl.isList fun h' en it hsz kp=>?_;refine wpAny_pyIter_enum en ?_;refine⟨s1.heap.objs.size+1,[s1.heap.objs.size+1,s1.heap.objs.size],_,_,H1,rfl,I1.kept (t':=s1.toks) kp,akp a _ _ (Nat.succ_ne_self _),⟨⟨_,en⟩,it⟩,fun b hb=>?_,q⟩;have e:s1.heap.objs.size<=b:=by
  simp only[aY,fq,ft]at hb
  rcases hb with rfl | rfl
  . exact tH _
  . exact aI _
 exact I1.fpOk e (I1.hok.fresh e)
end
section
variable {prog:Program}{w:World}{A:Around}{E:VP}{s:Shared}
end
section
variable {X:Cx}
end
theorem ag.seqT{K:Fg}{H H':Hp}{a:Addr}{xs:Lv}(e:ag H H')(h:aX K H a xs):aX K H' a xs:=by
 rcases h with(h | ⟨o,h⟩) | h
 . exact .inl (.inl (e _ _ h))
 . exact .inl (.inr ⟨o,e _ _ h⟩)
 . exact .inr h
theorem take_snoc{α:Type}{ys:List α}{i:Nat}{y:α}(h:ys[i]?=some y):ys.take (i+1)=ys.take i++[y]:=by
 rw[List.take_succ,h];rfl
section
variable {g:TG}{te:TE}{H1:Hp}{Q:Addr->Hp->Prop}
theorem zY{K:Fg}{a:Addr}{xs:Lv}{σ0:St}(hx:ae K H1 a xs)(S:St->Prop)(ys:Lv)(hl:ys.length=xs.length)(big:xs.length<=sizeLine)(s0:S σ0)
 (turn:∀(i:Nat) x y σ H (k:St->V->Hp->Prop),xs[i]?=some x->ys[i]?=some y->S σ->ag H1 H->(∀σ3 H5,S σ3->ag H H5->k σ3 y H5)->g x σ H fun σ3 H3=>te σ3 H3 (k σ3))
 (done:∀D H,H1 D=none->H D=some (.lst ys)->ag H1 H->Q D H) :
 ∀D,H1 D=none->∃W:Nat->Nat->St->Hp->Prop,(∃m,W 0 m σ0 (ah H1 D (.lst [])))/\mv (nJ K a) g ur te D (fun H'=>Q D H') W:=by
 refine zB hx S (fun i zs _=>zs=ys.take i) s0 (fun _ _=>rfl) (fun D i x zs σ H k a1 a2 a3 a4 a5 a6 a7=>?_) fun D zs H a1 a2 a3 a4=>?_
 . have hi:i<ys.length:=by rw[hl];exact(cW.mp a2).1
   have hy:=jl hi;refine turn i x ys[i] σ H k a2 hy a3 a5 fun σ3 H5 b1 b2=>a7 σ3 _ H5 b1 b2 ?_ ?_
   . rw[a6,eG];omega
   . rw[a6,take_snoc hy]
 . rw[a4,←hl,eZ]at a2;exact done D H a1 a2 a3
theorem akA{K:Fg}{a:Addr}{xs:Lv}{σ0:St}(hx:aX K H1 a xs)(S:St->Prop)(ys:Lv)(hl:ys.length=xs.length)(big:xs.length<=sizeLine)(s0:S σ0)
 (turn:∀(i:Nat) x y σ H (k:St->V->Hp->Prop),xs[i]?=some x->ys[i]?=some y->S σ->ag H1 H->(∀σ3 H5,S σ3->ag H H5->k σ3 y H5)->g x σ H fun σ3 H3=>te σ3 H3 (k σ3))
 (done:∀D H,H1 D=none->H D=some (.lst ys)->ag H1 H->Q D H) :
 ∀D,H1 D=none->∃W:Nat->Nat->St->Hp->Prop,(∃m,W 0 m σ0 (ah H1 D (.lst [])))/\mv (Hg K a) g ur te D (fun H'=>Q D H') W:=by
 intro D hD;refine⟨fun i m σ H=>m=xs.length - i/\i<=xs.length/\S σ/\H D=some (.lst (ys.take i))/\ag H1 H,⟨xs.length,by simp,dG _,s0,aH,fU hD⟩,?_⟩;rintro i m σ H ⟨rfl,hi,hS,hd,hs⟩;have q:aX K H a xs:=ag.seqT hs hx
 by_cases aN:i<xs.length
 . refine .inr ⟨⟨xs,xs[i],q,by simp[aN]⟩,fun x H2 hy=>?_⟩;obtain⟨e1,e2⟩:=hy;subst e1;have hy:=jl (by omega:i<ys.length);refine turn i x ys[i] σ _ (fun σ3 y H5=>∃zs,H5 D=some (.lst zs)/\zs.length<sizeLine/\∃m',m'<xs.length - i/\(m'=xs.length - (i+1)/\i+1<=xs.length/\S σ3/\ah H5 D (.lst (zs++[y])) D=some (.lst (ys.take (i+1)))/\ag H1 (ah H5 D (.lst (zs++[y]))))) (e2 xs q) hy hS hs
    (fun σ3 H5 a1 a2=>⟨ys.take i,a2 _ _ hd,by rw[eG];omega,xs.length - (i+1),by omega,rfl,aN,a1,by rw[aH,take_snoc hy],fV (hs.trans a2) hD⟩)
 . have e:i=xs.length:=by omega
   subst e;rw[←hl,eZ]at hd;exact .inl ⟨⟨xs,q,aI _⟩,done D H hD hd hs⟩
end
end L2
namespace HT
open PySem PyProof.Rows
abbrev At:=Int ⊕ Str
def zZ:At->At->Bool
 | .inl a,.inl b=>decide (a<b)
 | .inr x,.inr y=>decide (x.cps.toList<y.cps.toList)
 | _,_=>false
def kin:At->At->Prop
 | .inl _,.inl _=>True
 | .inr _,.inr _=>True
 | _,_=>False
def cb:List At->List At->Bool
 | [],[]=>false
 | [],_::_=>true
 | _::_,[]=>false
 | x::xs,y::ys=>if x=y then cb xs ys else zZ x y
def gG:List At->List At->Prop
 | x::xs,y::ys=>if x=y then gG xs ys else kin x y
 | _,_=>True
theorem Dx(x y:At)(xs ys:List At):cb (x::xs) (y::ys)=if x=y then cb xs ys else zZ x y:=rfl
theorem uF(x y:At)(xs ys:List At):gG (x::xs) (y::ys)=if x=y then gG xs ys else kin x y:=rfl
inductive gs:Lw->List At->Prop
 | nil:gs [] []
 | int (n:Int) (t:Tok) {vs:Lw}{as:List At}:gs vs as->gs (.int n t::vs) (.inl n::as)
 | str (x:Str) (t:Tok) {vs:Lw}{as:List At}:gs vs as->gs (.str x t::vs) (.inr x::as)
theorem gs.length{vs:Lw}{as:List At}(h:gs vs as):vs.length=as.length:=by
 induction h with
 | nil=>rfl
 | int _ _ _ ih=>exact eN (· + 1) ih
 | str _ _ _ ih=>exact eN (· + 1) ih
theorem akB(A:Around)(s:Shared)(a:Str)(t:Tok)(c:Str)(u:Tok):∃e,SeqAt.EqAt A s (.str a t) (.str c u) e/\(e=true↔a=c):=
 ⟨(a == c),SeqAt.EqAt.str_str a t c u,by simp⟩
theorem akC(A:Around)(s:Shared)(a:Str)(t:Tok)(c:Str)(u:Tok)(prog:Program)(w:World)(E:VP)(Q:VP)(h:Q (.bool (decide (a.cps.toList<c.cps.toList))) s) :
 wpAny (model prog w) A (richCompare .Lt (.str a t) (.str c u)) Q E s:=
 (PyProof.Rows.lt_str h:wpAny (model prog w) A (compareOp .Lt (.str a t) (.str c u)) Q E s)
theorem akD{vs ws:Lw}{as bs:List At}(hv:gs vs as)(hw:gs ws bs)(ok:gG as bs)(A:Around)(s:Shared):(vs=[]\/ws=[])\/∃v iX a Dy w Ja b wL,vs=v::iX/\as=a::Dy/\ws=w::Ja/\bs=b::wL/\gs iX Dy/\gs Ja wL /\
 (∃e,SeqAt.EqAt A s v w e/\(e=true↔a=b))/\(a=b->gG Dy wL)/\∀(prog:Program) (w':World) (E:VP) (Q:VP),Q (.bool (zZ a b)) s->wpAny (model prog w') A (richCompare .Lt v w) Q E s:=by
 cases hv with
 | nil=>exact .inl (.inl rfl)
 | int a t hv=>
  cases hw with
  | nil=>exact .inl (.inr rfl)
  | int b u hw=>
   obtain⟨e,he,hi⟩:=abY A s a t b u;refine .inr ⟨_,_,_,_,_,_,_,_,rfl,rfl,rfl,rfl,hv,hw,⟨e,he,hi.trans ⟨fun z=>by rw[z],fun z=>by injection z⟩⟩,fun z=>?_,fun prog w' E Q h=>abZ A s a t b u prog w' E Q h⟩;rw[uF,al z]at ok;exact ok
  | str b u hw=>
   rw[uF,ai (by intro z;cases z)]at ok;exact ok.elim
 | str a t hv=>
  cases hw with
  | nil=>exact .inl (.inr rfl)
  | int b u hw=>
   rw[uF,ai (by intro z;cases z)]at ok;exact ok.elim
  | str b u hw=>
   obtain⟨e,he,hi⟩:=akB A s a t b u;refine .inr ⟨_,_,_,_,_,_,_,_,rfl,rfl,rfl,rfl,hv,hw,⟨e,he,hi.trans ⟨fun z=>by rw[z],fun z=>by injection z⟩⟩,fun z=>?_,fun prog w' E Q h=>akC A s a t b u prog w' E Q h⟩;rw[uF,al z]at ok;exact ok
section
open PySem.SeqAt
open PySem.AutoSeq1 (wpAny_loadPart')
open PySem.MeetsSeq PySem.MeetsSeq2 PySem.MeetsSeq3
theorem akE(l b:Addr)(items ou:Av)(n n2:Nat)(dd zG:Oa)(sl Aa:Array (Option Value))(ns ms:List At)(hi:gs items.toList ns)(hj:gs ou.toList ms)(ok:gG ns ms) :
 Meets (Builtin.«tuple.__lt__» ⟨[.ref l,.ref b],[]⟩)
  (fun _ R s=>s.heap.get? l=some { cls:=.type "tuple",dict:=dd,data:=.seq items n,slots:=sl }/\s.heap.get? b=some { cls:=.type "tuple",dict:=zG,data:=.seq ou n2,slots:=Aa } /\
   R (.ok (.ret (.bool (cb ns ms)))) s):=
 .of_wp fun prog w A R s h=>by
  obtain⟨hp,g,d,tk,os⟩:=s;obtain⟨hl,hb,h⟩:=h;have f2:=AutoSeq1.sub_tuple_tuple;have z1:items.size=ns.length:=by rw[←hi.length];simp
  have z2:ou.size=ms.length:=by rw[←hj.length];simp
  wp_walk using wpAny_loadPart' hl,wpAny_loadPart' hb,yB _ (fun rest b s'=>b.1=none/\s'=⟨hp,g,d,tk,os⟩/\∃(vs ws:Lw) (rH oA:List At),rest=vs.zip ws /\
   gs vs rH/\gs ws oA/\gG rH oA/\rH.length+ou.size=oA.length+items.size/\R (.ok (.ret (.bool (cb rH oA)))) ⟨hp,g,d,tk,os⟩) _
  case turn=>
   rintro⟨y,x⟩ rest b s' ⟨lC,rfl,vs,ws,rH,oA,hz,Jb,Jc,hok,hlen,hR⟩
   rcases akD Jb Jc hok A.in1 ⟨hp,g,d,tk,os⟩ with h0 | ⟨v,iX,a,Dy,w1,Ja,b1,wL,rfl,rfl,rfl,rfl,akF,akG,⟨e,he,Jd⟩,ut,aN⟩
   . rcases h0 with h0 | h0
     . rw[h0,List.zip_nil_left]at hz;cases hz
     . rw[h0,List.zip_nil_right]at hz;cases hz
   . rw[V8]at hz;injection hz with hyx IT
     injection hyx with hy hx
     subst hy hx;rw[Dx]at hR;simp only[cg]at hlen;refine af (he prog w _ _ ?_);cases e with
     | true=>
      rw[al (Jd.mp rfl)]at hR
      wp_walk
      exact⟨rfl,rfl,_,_,_,_,IT,akF,akG,ut (Jd.mp rfl),by omega,hR⟩
     | false=>
      rw[ai (fun q=>absurd (Jd.mpr q) cK)]at hR;have hri:=aN prog w
      wp_walk using hri
      exact⟨_,rfl,by simpa using hR⟩
  case fin=>
   rintro⟨b1,b2⟩ s' ⟨lC,rfl,vs,ws,rH,oA,hz,Jb,Jc,hok,hlen,hR⟩;simp only at lC;subst lC;have h1:=Jb.length;have h2:=Jc.length;have hv:cb rH oA=decide (items.size<ou.size):=by
    cases rH with
    | nil=>
     cases oA with
     | nil=>
      simp only[kL]at hlen;exact(cI (by omega)).symm
     | cons c u=>
      simp only[kL,cg]at hlen;exact(bN (by omega)).symm
    | cons a t=>
     cases oA with
     | nil=>
      simp only[kL,cg]at hlen;exact(cI (by omega)).symm
     | cons c u=>
      cases vs with
      | nil=>cases h1
      | cons v vs=>
       cases ws with
       | nil=>cases h2
       | cons w1 ws=>rw[V8]at hz;cases hz
   rw[hv]at hR
   wp_walk
   exact⟨_,rfl,by simpa [Builtin.Tuple.tupleCompareSizes]using hR⟩
  case h=>
   exact⟨rfl,rfl,items.toList,ou.toList,ns,ms,rfl,hi,hj,ok,by omega,h⟩
end
section
variable {prog:Program}{w:World}{A:Around}{E:VP}{s:Shared}
theorem akI{l b:Addr}{items ou:Av}{ns ms:List At}{Q:VP}(hl:IsTup s.heap l items)(hb:IsTup s.heap b ou)(hi:gs items.toList ns)(hj:gs ou.toList ms)(ok:gG ns ms)
 (hu:A.units<cLine) (h:Q (.bool (cb ns ms)) s):wpAny (model prog w) A (compareOp .Lt (.ref l) (.ref b)) Q E s:=by
 obtain⟨⟨cls,dd,data,sl⟩,ho,hc,n,hd⟩:=id hl;obtain⟨⟨ayx,zG,data2,Aa⟩,zQ,mw,n2,hd2⟩:=id hb;simp only at hc hd mw hd2;subst hc hd mw hd2;exact richCompare_meets_room (op:=.Lt) ⟨_,ho,rfl⟩ ⟨_,zQ,rfl⟩ PySem.F.slot_tuple_lt PySem.F.entry_tuple_lt (PySem.F.args_tuple_lt_2 _ _) (akE l b items ou n n2 dd zG sl Aa ns ms hi hj ok)
  ⟨ho,zQ,show Value.bool (cb ns ms)≠Value.notImplemented/\Q (.bool (cb ns ms)) s from ⟨(fun x=>nomatch x),h⟩⟩ hu
end
end HT
namespace L2
open PySem PyProof.Rows
section
variable {n:Nat}{f:Nat->Nat->Bool}(Je:∀i j,i<n->j<n->i≠j->f i j = !f j i)(tr:∀i j k,i<n->j<n->k<n->f i j=true->f j k=true->f i k=true)
include Je tr
omit Je tr in
omit Je tr in
end
open PySem.Spec
open HT (At cb gG zZ kin gs)
section
variable {prog:Program}{w:World}{A:Around}{E:VP}{s:Shared}
end
section
variable {X:Cx}
end
end L2
namespace HT
open PySem PyProof.Rows
section
open PySem.SeqAt
open PySem.AutoSeq1 (wpAny_loadPart')
open PySem.MeetsSeq PySem.MeetsSeq2 PySem.MeetsSeq3
end
section
variable {prog:Program}{w:World}{A:Around}{E:VP}{s:Shared}
end
end HT
namespace L2
open PySem PySem.Spec PyProof.Rows
section
variable {X:Cx}
theorem Rq:cL X (compareOp .Gt) (fun x y H Q=>∃i j,x=.str i/\y=.str j/\Q (.bl (decide (j.cps.toList<i.cps.toList))) H):=by
 intro pins s σ H x y v u Q I rx ry h;obtain⟨i,j,rfl,rfl,q⟩:=h;obtain⟨t,rfl⟩:=rx;obtain⟨t',rfl⟩:=ry;exact PySem.P.gt_str (cR I q rfl)
end
section
variable {prog:Program}{w:World}{A:Around}{E:VP}{s:Shared}{d it:Addr}{es:Array DictEntry}{ep i:Nat}
end
section
variable {X:Cx}{pins:Po}{σ:St}{H:Hp}{s:Shared}
end
section
variable {X:Cx}{e e1 e2 e3 e4:Expr}{te t1 t2 t3 t4:TE}{pos:Pos}
end
section
variable {X:Cx}
end
open PySem.W
section
variable {M:Model}{A:Around}{E:VP}{s:Shared}{base:Heap}{env:Env}{outer:List Env}{L e:Addr}{cls:Value}{dct:Oa}{Q:Unit->Shared->Prop}
end
open PySem.Builtin PySem.Builtin.ObjectAttr
section
variable {prog:Program}{w:World}{A:Around}{E:VP}{h:Heap}{g:Array GenState}{d:Drawn}{t:Nat}{os:OsState}{K:Fg}{C M fI:Addr}{fld:Str}
end
end L2
namespace L2
open PySem PySem.Spec PyProof.Rows PySem.W
section
variable {X:Cx}{pins:Po}{σ:St}{H:Hp}{s:Shared}
end
section
variable {X:Cx}{pins:Po}{σ:St}{H:Hp}{s:Shared}{E:XK}
end
section
variable {P:Program}{w:World}{K:Fg}{mg:Mv}{base:Heap}{N:Ls}{qual:Str}{scope:Scope}{f:Addr}{cd:Value}{A:Around}{outer:List Env}{s0:Shared}{H0:Hp}{E:XK}
end
section
variable {prog:Program}{w:World}{A:Around}{E:VP}{s:Shared}{env:Env}{K:Fg}{C M fI:Addr}{fld:Str}
end
section
variable {P:Program}{w:World}{K:Fg}{mg:Mv}{base:Heap}{N:Ls}{qual:Str}{scope:Scope}{f:Addr}{cd:Value}{A:Around}{outer:List Env}{s0:Shared}{H0:Hp}{E:XK}
end
open PySem.Builtin PySem.Builtin.ObjectAttr PySem.Builtin.Getset_descriptor
section
variable {X:Cx}
end
section
variable {prog:Program}{w:World}{A:Around}{E:VP}{s:Shared}{K:Fg}{D a:Addr}{fld:Str}{v:Value}
end
section
variable {X:Cx}
end
end L2
namespace L2
open PySem PySem.Spec PyProof.Rows
section
variable {X:Cx}
end
open PySem.Builtin.Str in
open PySem.Builtin PySem.Builtin.Str in
section
variable {X:Cx}
end
open HT (At cb gG)
def Dz:At->V
 | .inl n=>.int n
 | .inr x=>.str x
theorem DA:∀{as:List At}{us:Lw},aQ (as.map Dz) us->HT.gs us as
 | [],us,h=>by cases h;exact .nil
 | .inl n::as,us,h=>by
  cases h with
  | cons r t=>
   obtain⟨tk,rfl⟩:=(show∃tk,_=Value.int n tk from r);exact .int n tk (DA t)
 | .inr x::as,us,h=>by
  cases h with
  | cons r t=>
   obtain⟨tk,rfl⟩:=(show∃tk,_=Value.str x tk from r);exact .str x tk (DA t)
section
variable {X:Cx}{pins:Po}{σ:St}{H0:Hp}{l q I S:Addr}{as:List Addr}{ks:Nat->List At}{R:Result->Shared->Prop}{Q:VP}{E:VP}
def Jf(X:Cx)(q:Addr)(as:List Addr)(ks:Nat->List At)(H0:Hp):Prop:=∀(i:Nat) (a:Addr),as[i]?=some a->∀(pins:Po) (σ:St) (H:Hp) (s:Shared),Inv X pins σ H s->ag H0 H ->
 wpAny (model X.prog X.w) X.A.in1 (call (.ref q) [.ref a]) (fun u s'=>∃kt H',Inv X pins σ H' s'/\u=.ref kt/\ag H H'/\H' kt=some (.tup ((ks i).map Dz))) (fun _ _=>False) s
theorem Inv.isL{H:Hp}{s:Shared}(I:Inv X pins σ H s)(h:H l=some (.lst (as.map V.ref))):s.heap.IsList l (as.map Value.ref).toArray:=by
 obtain⟨its,r,p,_⟩:=I.list (ae.of (K:=X.K) h);rw[Qv r]at p;exact p.isList
theorem eU.of{H H':Hp}{b:Addr}(f:eU X pins H b)(n:H' b=none):eU X pins H' b:=⟨n,f.2⟩
theorem Inv.turnF{H:Hp}{s:Shared}{h':Heap}{t':Nat}{b:Addr}(I:Inv X pins σ H s)(f:eU X pins H b)(k:∀c o,c≠b->s.heap.get? c=some o->h'.get? c=some o):Inv X pins σ H { s with heap:=h',toks:=t' }:=
 I.turned k f.1 f.2.1 f.2.2.2.1 f.2.2.2.2.1 f.2.2.2.2.2
theorem akJ(hc:X.calm=true)(hu:X.A.in1.units<cLine)(Ab:l≠I)(uG:S≠I)(DB:H0 l=some (.lst (as.map V.ref)))(ok:∀i j,gG (ks i) (ks j))(tr:∀a b c,cb (ks a) (ks b)=true->cb (ks b) (ks c)=true->cb (ks a) (ks c)=true)(wT:∀a,cb (ks a) (ks a)=false)
 (turn:Jf X q as ks H0) (hR:∀i a H' s',as[i]?=some a->(∀j,j<as.length->cb (ks j) (ks i)=false)->Inv X pins σ H' s'->ag H0 H'->R (.ok (.ret (.ref a))) s') :
 ∀(r j i:Nat) (H:Hp) (s:Shared) (ab kb:Addr) (c:Nat),as.length - (j+1)=r->j+1<=as.length->Inv X pins σ H s->ag H0 H->eU X pins H I->eU X pins H S->s.heap.get? S=some (seqObj "list" #[.ref ab,.ref kb] c)->s.heap.IsListIter I l (j+1) ->
  as[i]?=some ab->H kb=some (.tup ((ks i).map Dz))->(∀j',j'<=j->cb (ks j') (ks i)=false)->codeAny (model X.prog X.w) X.A (.builtin "min.loop" ⟨[.ref I,.ref q,.ref S],[]⟩) R s:=by
 have Ac:(toString "min"++toString ".loop":String)="min.loop":=by decide
 have hsz:(as.map Value.ref).toArray.size=as.length:=by simp
 intro r
 induction r with
 | zero=>
  intro j i H s ab kb c hr hj Iv sm fI fS hS hit jR Jg best;have W:=Od (prog:=X.prog) (w:=X.w) (A:=X.A.in1) (Iv.ok.hd hc) I l Ab (as.map Value.ref).toArray;have jq:j+1=as.length:=by omega
  refine tP WO ?_;rw[wm yQ _];show wpAny _ X.A.in1 (seqItems? (.ref S) >>= _) _ _ _;refine af (yC hS rfl ?_);show wpAny _ X.A.in1 (tryCatch (pyNext (.ref I)) _ >>= _) _ _ _;refine af (Cq (W.done _ _ _ ⟨by rw[hsz,←jq];exact hit,Iv.isL (sm _ _ DB)⟩ fun h' oq fC=>?_));have I1:Inv X pins σ H { s with heap:=h',toks:=oq }:=Iv.turnF fI fun b o hb e=>fC b o (by simpa using hb) e;have iC:=fC S _ (by simpa using uG) hS;have s1:=lZ h' S (Obj.mapSeq fun _=>(#[]:Av));show wpAny _ X.A.in1 (updateSeq S (fun _=>#[]) >>= _) _ _ _;refine af ?_;refine GY iC rfl (af (Of (au ?_)));exact hR i ab H _ jR (fun j' rJ=>best j' (by omega)) (I1.turnF (t':=oq) fS fun b o hb e=>(s1.2 b hb).trans e) sm
 | succ r ih=>
  intro j i H s ab kb c hr hj Iv sm fI fS hS hit jR Jg best;have W:=Od (prog:=X.prog) (w:=X.w) (A:=X.A.in1) (Iv.ok.hd hc) I l Ab (as.map Value.ref).toArray;have aN:j+1<as.length:=by omega
  refine tP WO ?_;rw[wm yQ _];show wpAny _ X.A.in1 (seqItems? (.ref S) >>= _) _ _ _;refine af (yC hS rfl ?_);show wpAny _ X.A.in1 (tryCatch (pyNext (.ref I)) _ >>= _) _ _ _;refine af (Cq (W.item (j+1) _ _ _ (by rw[hsz];exact aN) ⟨hit,Iv.isL (sm _ _ DB)⟩ fun v h' oq hP zT fC=>?_));have ia:(as.map Value.ref)[j+1]?=some v:=by simpa using hP
  obtain⟨a,ha,rfl⟩:∃a,as[j+1]?=some a/\v=.ref a:=by
   rw[dH]at ia;cases e:as[j+1]? with
   | none=>rw[e]at ia;cases ia
   | some a=>rw[e]at ia;cases ia;exact⟨a,rfl,rfl⟩
  obtain⟨rK,Ad,pD,uE⟩:=id zT.1;have I1:Inv X pins σ H { s with heap:=h',toks:=oq }:=Iv.turnF fI fun b o hb e=>fC b o (by simpa using hb) e;have Ae:h'.get? S=some (seqObj "list" #[.ref ab,.ref kb] c):=fC S _ (by simpa using uG) hS;have Ip:Inv X (pins++tY [I,S] h') σ H { s with heap:=h',toks:=oq }:=I1.pinned (fp:=[I,S]) (fun b hb=>by
   rcases aY.mp hb with e | e
   . rw[e];exact fI
   . rw[bw.mp e];exact fS) (fun b hb=>by
   rcases aY.mp hb with e | e
   . rw[e];exact⟨rK,Ad,fun v z=>by rw[uE]at z;cases z⟩
   . rw[bw.mp e];exact⟨_,Ae,fun v z=>nomatch z⟩)
  show wpAny _ X.A.in1 (tryCatch (holding [.ref a] (call (.ref q) [.ref a])) _ >>= _) _ _ _;refine af (Cq (jO (d8 (turn (j+1) a ha _ σ H _ Ip sm) (fun x s2 he=>?_) fun _ _ hF=>hF.elim)));obtain⟨kt,H2,uH,rfl,bU,wU⟩:=he;have pI:=uH.pin (I,rK) (eF _ (eF _ (rc (by simp) Ad)));have pS:=uH.pin (S,seqObj "list" #[.ref ab,.ref kb] c) (eF _ (eF _ (rc (by simp) Ae)));have I2:=uH.unpinned;have Rr:=sm.trans bU;have DC:eU X pins H2 I:=fI.of pI.2.1;have wV:eU X pins H2 S:=fS.of pS.2.1;have akK:s2.heap.IsListIter I l (j+1+1):=⟨rK,pI.1,pD,uE⟩;obtain⟨Rn,r1,p1,_⟩:=I2.tuple (aX.of (K:=X.K) wU);obtain⟨it2,r2,p2,_⟩:=I2.tuple (aX.of (K:=X.K) (bU _ _ Jg));show wpAny _ X.A.in1 (tryCatch (holding [.ref a,.ref kt] (richCompare .Lt (.ref kt) (.ref kb) >>= _)) _ >>= _) _ _ _;refine af (Cq (jO (af (HT.akI p1 p2 (DA r1) (DA r2) (ok _ _) hu ?_))));refine af (jO (wf ?_));refine af (Of (au ?_))
  by_cases lC:cb (ks (j+1)) (ks i)=true
  . have s1:=lZ s2.heap S (Obj.mapSeq fun _=>#[.ref a,.ref kt]);obtain⟨c2,mw⟩:∃c2,(s2.heap.update S (Obj.mapSeq fun _=>#[.ref a,.ref kt])).get? S=some (seqObj "list" #[.ref a,.ref kt] c2):=⟨_,get?_update_seq pS.1 fun _=>#[.ref a,.ref kt]⟩;simp only[lC,we];refine af ?_;refine GY pS.1 rfl (af (Of ?_));rw[Ac];refine au ⟨tO yQ _,ih (j+1) (j+1) H2 _ a kt c2 (by omega) aN (I2.turnF (t':=s2.toks) wV fun b o hb e=>(s1.2 b hb).trans e) Rr DC wV mw ⟨rK,(s1.2 I uG.symm).trans pI.1,pD,uE⟩ ha wU fun j' rJ=>?_⟩
    by_cases e:j'=j+1
    . subst e;exact wT _
    . cases z:cb (ks j') (ks (j+1)) with
      | false=>rfl
      | true=>have:=tr _ _ _ z lC;rw[best j' (by omega)]at this;cases this
  . have iG:cb (ks (j+1)) (ks i)=false:=by simpa using lC
    simp only[iG,qK,nv];refine af (Of ?_);rw[Ac];refine au ⟨tO yQ _,ih (j+1) i H2 _ ab kb c (by omega) aN I2 Rr DC wV pS.1 akK jR (bU _ _ Jg) fun j' rJ=>?_⟩
    by_cases e:j'=j+1
    . subst e;exact iG
    . exact best j' (by omega)
theorem akL{H:Hp}{s:Shared}(Iv:Inv X pins σ H s)(hc:X.calm=true)(hu:X.A.in1.units<cLine)(hl:H l=some (.lst (as.map V.ref)))(cY:0<as.length)(ok:∀i j,gG (ks i) (ks j))(tr:∀a b c,cb (ks a) (ks b)=true->cb (ks b) (ks c)=true->cb (ks a) (ks c)=true)(wT:∀a,cb (ks a) (ks a)=false)
 (turn:Jf X q as ks H) (hQ:∀i a H' s',as[i]?=some a->(∀j,j<as.length->cb (ks j) (ks i)=false)->Inv X pins σ H' s'->ag H H'->Q (.ref a) s') :
 wpAny (model X.prog X.w) X.A (call (.builtin "min") [.ref l] [(Str.ofString "key",.ref q)]) Q E s:=by
 have Ac:(toString "min"++toString ".loop":String)="min.loop":=by decide
 have Cy:=Iv.isL hl;obtain⟨ol,Dt,_⟩:=id Cy;have hll:l<s.heap.objs.size:=bG Dt;have hsz:(as.map Value.ref).toArray.size=as.length:=by simp
 refine kmk_tree PySem.F.kind_min PySem.F.plain_min PySem.F.entry_min (kmk_min_key _ _) ?_;show wpAny _ X.A.in1 (Builtin.Builtins.bindParams "min" ["key","default"] 0 ⟨[],[(Str.ofString "key",.ref q)]⟩ >>= _) _ _ s;refine af (wpAny_of_eq (show Builtin.Builtins.bindParams "min" ["key","default"] 0 ⟨[],[(Str.ofString "key",.ref q)]⟩=pure [some (.ref q),none] from rfl) ?_);refine af (au ?_);refine af (Wb Cy ?_);refine af (Wv ?_ (dG _));rw[Ac];refine au ⟨tO yQ _,?_⟩;have hS:(s.heap.push { cls:=.type "list_iterator",data:=.fields #[.ref l,.int 0 0] }).objs.size=s.heap.objs.size+1:=size_push' ..;have Ab:l≠s.heap.objs.size:=cS hll;have uG:(s.heap.push { cls:=.type "list_iterator",data:=.fields #[.ref l,.int 0 0] }).objs.size≠s.heap.objs.size:=by rw[hS];exact kJ (yG _)
 have fI:eU X pins H s.heap.objs.size:=Iv.fpOk (aI _) (Iv.hok.fresh (aI _));have fS:eU X pins H (s.heap.push { cls:=.type "list_iterator",data:=.fields #[.ref l,.int 0 0] }).objs.size:=Iv.fpOk (by rw[hS];exact tH _) (Iv.hok.fresh (by rw[hS];exact tH _));have gI:((s.heap.push { cls:=.type "list_iterator",data:=.fields #[.ref l,.int 0 0] }).push (seqObj "list" #[] 0)).get? s.heap.objs.size=some { cls:=.type "list_iterator",data:=.fields #[.ref l,.int 0 0] }:=
  bX _ (dR _ rfl)
 have gS:((s.heap.push { cls:=.type "list_iterator",data:=.fields #[.ref l,.int 0 0] }).push (seqObj "list" #[] 0)).get? (s.heap.push { cls:=.type "list_iterator",data:=.fields #[.ref l,.int 0 0] }).objs.size=some (seqObj "list" #[] 0):=dR _ rfl;have I0:Inv X pins σ H { s with heap:=(s.heap.push { cls:=.type "list_iterator",data:=.fields #[.ref l,.int 0 0] }).push (seqObj "list" #[] 0) }:=Iv.kept (t':=s.toks) fun b o e=>bX _ (bX _ e);generalize (s.heap.push { cls:=.type "list_iterator",data:=.fields #[.ref l,.int 0 0] }).objs.size=S at *;generalize s.heap.objs.size=I at *;generalize (s.heap.push { cls:=.type "list_iterator",data:=.fields #[.ref l,.int 0 0] }).push (seqObj "list" #[] 0)=h0 at *;have W:=Od (prog:=X.prog) (w:=X.w) (A:=X.A.in1) (Iv.ok.hd hc) I l Ab (as.map Value.ref).toArray;refine tP WO ?_;rw[wm yQ _];show wpAny _ X.A.in1 (seqItems? (.ref S) >>= _) _ _ _;refine af (yC gS rfl ?_);show wpAny _ X.A.in1 (tryCatch (pyNext (.ref I)) _ >>= _) _ _ _;refine af (Cq (W.item 0 _ _ _ (by rw[hsz];exact cY) ⟨⟨_,gI,rfl,rfl⟩,I0.isL hl⟩ fun v h' oq hP zT fC=>?_));have ia:(as.map Value.ref)[0]?=some v:=by simpa using hP
 obtain⟨a,ha,rfl⟩:∃a,as[0]?=some a/\v=.ref a:=by
  rw[dH]at ia;cases e:as[0]? with
  | none=>rw[e]at ia;cases ia
  | some a=>rw[e]at ia;cases ia;exact⟨a,rfl,rfl⟩
 obtain⟨rK,Ad,pD,uE⟩:=id zT.1;have I1:Inv X pins σ H { s with heap:=h',toks:=oq }:=I0.turnF fI fun b o hb e=>fC b o (by simpa using hb) e;have Ae:h'.get? S=some (seqObj "list" #[] 0):=fC S _ (by simpa using uG) gS;have Ip:Inv X (pins++tY [I,S] h') σ H { s with heap:=h',toks:=oq }:=I1.pinned (fp:=[I,S]) (fun b hb=>by
  rcases aY.mp hb with e | e
  . rw[e];exact fI
  . rw[bw.mp e];exact fS) (fun b hb=>by
  rcases aY.mp hb with e | e
  . rw[e];exact⟨rK,Ad,fun v z=>by rw[uE]at z;cases z⟩
  . rw[bw.mp e];exact⟨_,Ae,fun v z=>nomatch z⟩)
 show wpAny _ X.A.in1 (tryCatch (holding [.ref a] (call (.ref q) [.ref a])) _ >>= _) _ _ _;refine af (Cq (jO (d8 (turn 0 a ha _ σ H _ Ip (ag.refl H)) (fun x s2 he=>?_) fun _ _ hF=>hF.elim)));obtain⟨kt,H2,uH,rfl,bU,wU⟩:=he;have pI:=uH.pin (I,rK) (eF _ (eF _ (rc (by simp) Ad)));have pS:=uH.pin (S,seqObj "list" #[] 0) (eF _ (eF _ (rc (by simp) Ae)));have I2:=uH.unpinned;have DC:eU X pins H2 I:=fI.of pI.2.1;have wV:eU X pins H2 S:=fS.of pS.2.1;have s1:=lZ s2.heap S (Obj.mapSeq fun _=>#[.ref a,.ref kt]);obtain⟨c2,mw⟩:∃c2,(s2.heap.update S (Obj.mapSeq fun _=>#[.ref a,.ref kt])).get? S=some (seqObj "list" #[.ref a,.ref kt] c2):=⟨_,get?_update_seq pS.1 fun _=>#[.ref a,.ref kt]⟩;show wpAny _ X.A.in1 (updateSeq S (fun _=>#[.ref a,.ref kt]) >>= _) _ _ _;refine af ?_;refine GY pS.1 rfl ?_;rw[Ac];refine au ⟨tO yQ _,akJ (H0:=H) hc hu Ab uG hl ok tr wT turn (fun i a H' s' e b I' sm=>hQ i a H' s' e b I' sm) _ 0 0 H2 _ a kt c2 rfl cY (I2.turnF (t':=s2.toks) wV fun b o hb e=>(s1.2 b hb).trans e) bU DC wV mw ⟨rK,(s1.2 I uG.symm).trans pI.1,pD,uE⟩ ha wU fun j' rJ=>?_⟩;have e:j'=0:=by omega
 subst e;exact wT _
end
def mG(P:Addr)(H H':Hp):Prop:=∀b o,H b=some o->b≠P->H' b=some o
def akN(P:Addr)(qual:Str)(lpos:Pos)(x:Str)(te tb:TE):TE:=fun σ H Q=>kW te fz σ H fun us H1=>∃(l:Addr) (as:List Addr) (ks:Nat->List At),us=[.ref l]/\l≠P/\H1 l=some (.lst (as.map V.ref))/\0<as.length/\(∀i j,gG (ks i) (ks j)) /\
 (∀a b c,cb (ks a) (ks b)=true->cb (ks b) (ks c)=true->cb (ks a) (ks c)=true)/\(∀a,cb (ks a) (ks a)=false)/\aD H1 P lpos qual /\
 (∀i a,as[i]?=some a->∀H2,mG P H1 H2->tb [some (.ref a)] H2 fun v H3=>∃kt,v=.ref kt/\ag H2 H3/\H3 kt=some (.tup ((ks i).map Dz))) /\
 ∀i a H',as[i]?=some a->(∀j,j<as.length->cb (ks j) (ks i)=false)->mG P H1 H'->aD H' P lpos qual->Q (.ref a) H'
section
variable {X:Cx}{c P:Addr}{params:Arguments}{body e:Expr}{scope:Scope}{p pos lpos zk:Pos}{qual x:Str}{k:Nat}{te tb:TE}
theorem aD.same{H H':Hp}(s:ag H H')(h:aD H P lpos qual):aD H' P lpos qual:=by
 rcases h with h | ⟨c',h1,h2⟩
 . exact .inl (s _ _ h)
 . exact .inr ⟨c',s _ _ h1,s _ _ h2⟩
theorem akO(he:PE X e te)(S:aP [x] [x] scope)(hr:ce (k+1) X.A.in1)(hc:X.calm=true)(Dv:X.env.code=.ref c)(hd:PySem.W.codeHdIn X.K c P=true)(hb:X.base.BuiltinsAt X.mg P)(hg:Gl X "min")(hm:X.mg "min"=none)
 (pH:∀(q c':Addr) (A:Around) (outer:List Env) (s:Shared) (H:Hp) (E:XK),PE (kY ak X.prog X.w X.K X.mg X.base [x] qual scope q (.ref c') A outer s H E) body tb)
 (Jh:∀(pm hX u:Value) (c':Addr),bindArgs (PySem.W.kla_fn "<lambda>" qual params body scope [] pm (.ref c') hX) ⟨[u],[]⟩=pure ([x].zip [u]))
 (hq:X.env.qual ++ "<lambda>"=qual:=by rfl) (Dw:X.env.globals=mainGlobals:=by rfl) (rG:closureFor scope X.env=pure []:=by rfl) (IY:defaultsOf params X.env=([],[]):=by rfl)
 (h1:backTo pos (starEach [e] X.env)=(false,eval e X.env)::backTo pos (starEach [] X.env):=by rfl) (h2:starEach [e] X.env=[(false,eval e X.env)]:=by rfl) (h3:(backTo pos (starEach [e] X.env)).any (·.1)=false:=by rfl) :
 PE X (.Call (.Name "min" p) [e] [⟨some "key",.Lambda params body scope lpos,zk⟩] pos) (akN P qual lpos x te tb):=by
 intro pins s σ H Q I h;have hu:X.A.in1.units<cLine:=by have:=hr.un;omega
 refine yH (wv I hg hm boot_min ?_ (by decide) (by decide));have ha:PA X [e] (kW te fz):=aa he ac h2;refine callWith_kw (thn (ha pos pins s σ H _ I h) fun us s1 akP=>akP.elim fun vs akQ=>akQ.elim fun H1 akR=>akR.elim fun I1 akS=>akS.elim fun r akT=>akT.elim fun l akU=>akU.elim fun as akV=>akV.elim fun ks akW=>akW.elim fun e1 akX=>akX.elim fun lP akY=>akY.elim fun hl akZ=>akZ.elim fun cY ak0=>ak0.elim fun ok ak1=>ak1.elim fun tr ak2=>ak2.elim fun wT ak3=>ak3.elim fun jr ak4=>ak4.elim fun ak5 fin=>?_) h1 h3;subst e1;obtain⟨u1,rfl,ru⟩:=vals1 r;cases ru;have hk:PK X [⟨some "key",.Lambda params body scope lpos,zk⟩] (kW (Ri P qual params body scope lpos) fz):=abH (ake Dv hd hb hq Dw rG IY) abG;refine thn (hk pos pins s1 σ H1 (fun zs H2=>∃q c',zs=[.ref q]/\mG P H1 H2/\aD H2 P lpos qual/\H2 c'=some (zU c' qual)/\H2 q=some (zV q c' qual params body scope)) I1 ⟨jr,fun q c' H2 nq nP kp Af jT kX=>⟨q,c',rfl,kp,Af,jT,kX⟩⟩) fun ws s2 ak6=>ak6.elim fun zs ak7=>ak7.elim fun H2 ak8=>ak8.elim fun I2 ak9=>ak9.elim fun rz ala=>ala.elim fun q alb=>alb.elim fun c' alc=>alc.elim fun ez ald=>ald.elim fun kp ale=>ale.elim fun Af alf=>alf.elim fun mw uI=>?_;subst ez;obtain⟨w1,rfl,rw1⟩:=vals1 rz;cases rw1;have turn:Jf X q as ks H2:=by
  intro i a ha G6 σ' H3 s3 I3 sm;obtain⟨pm,hX,ho⟩:=(show ci X.prog X.w H3 s3.heap q (zV q c' qual params body scope) from I3.hok q _ (sm _ _ uI)).1;have IW:s3.heap.CodeRec (.ref c') qual:=(show ci X.prog X.w H3 s3.heap c' (zU c' qual) from I3.hok c' _ (sm _ _ mw)).1;refine GO (qM (akc (E:=E0) (vs:=[.ref a]) (us:=[.ref a]) S hr I3.env0.in1 ho IW (Jh pm hX _ c') rfl (.cons rfl .nil) (pH q c' _ _ _ _ _) (ak5 i a ha H3 fun b o e n=>sm _ _ (kp b o e n))) fun r s' oC=>?_);cases r with
  | error e=>exact(show False from oC).elim
  | ok fl=>
   cases fl with
   | ret u=>
    obtain⟨v,H',I',rv,kt,ev,sm',wU⟩:=I3.after oC;subst ev;cases rv;exact⟨kt,H',I',rfl,sm',wU⟩
   | next=>exact False.elim oC
   | brk=>exact False.elim oC
   | cont=>exact False.elim oC
 refine akL I2 hc hu (kp _ _ hl lP) cY ok tr wT turn fun i a H' s' ha best I' sm=>?_;exact⟨.ref a,H',I',rfl,fin i a H' ha best (fun b o e n=>sm _ _ (kp b o e n)) (Af.same sm)⟩
end
end L2
namespace L2
open PySem PySem.Spec PyProof.Rows
section
variable {X:Cx}{pins:Po}{σ:St}{H0:Hp}{l q I S:Addr}{as:List Addr}{kA:Nat->Hp->Addr->Prop}{g:Nat->Nat->Bool}{Rb:Nat->Prop}{R:Result->Shared->Prop}{Q:VP}{E:VP}
end
end L2
namespace HT
open PySem PyProof.Rows
section
open PySem.SeqAt
open PySem.AutoSeq1 (wpAny_loadPart')
open PySem.MeetsSeq PySem.MeetsSeq2 PySem.MeetsSeq3
end
section
variable {prog:Program}{w:World}{A:Around}{E:VP}{s:Shared}
end
end HT
namespace L2
open PySem PySem.Spec PyProof.Rows
section
variable {X:Cx}
end
open PySem.W (tabObj)
section
variable {X:Cx}{c P:Addr}{params:Arguments}{body:Expr}{scope:Scope}{clos:List (Str×Addr)} {pos:Pos}{qual:Str}
end
end L2
namespace L2
open PySem PySem.Spec PyProof.Rows
open PySem.W (envX)
section
variable {X:Cx}{pins:Po}{σ:St}{H:Hp}{s:Shared}{x:Str}{bf:Ls}{js:List Nat}{scope:Scope}{q c':Addr}{qual:Str}{params:Arguments}{body:Expr}{pm hX:Value}{v:V}{u:Value}{A:Around}{k:Nat}{Q:VK}{E:XK}{t:TE}
end
section
variable {X:Cx}{c P:Addr}{params:Arguments}{body e:Expr}{scope:Scope}{p pos lpos zk:Pos}{qual x:Str}{bf:Ls}{js:List Nat}{k:Nat}{te tb:TE}
end
end L2
namespace L2
open PySem PySem.Spec PyProof.Rows
section
variable {X:Cx}{e e1 e2 e3:Expr}{te t1 t2 t3:TE}{pos:Pos}
end
open PySem.W (tabObj CodeHd)
theorem ali{P:Program}{w:World}{K:Fg}{mg mb:Mv}{CX:iz}{k:Nat}{fa a Pt c:Addr}{fd:Fy}{x qual:Str}{lpos:Pos}{sp:Sp}{s₁:Shared}{vs:Lw}{ns:List Int}
 (KX:K.In s₁.heap) (j0:s₁.heap.Ns mainGlobals mg) (hb:s₁.heap.Ns builtinsNs mb) (rC:∀x:Str,x≠"__name__"->mb x=bootBuiltins x) (alj:s₁.heap.NoLimit) (hg:s₁.gens = #[])
 (bmain:∃bm ob,mg "__builtins__"=some (.ref bm)/\bm≠builtinsNs/\s₁.heap.get? bm=some ob/\ob.cls=.type "module"/\ob.dict=some builtinsNs/\ob.data=.plain)
 (hP:s₁.heap.get? Pt=some (tabObj #[])) (hC:CodeHd s₁.heap c Pt) (Ji:K.lookup Pt=none)
 (ha:s₁.heap.get? a=some { cls:=.type "list",data:=.seq vs.toArray }) (hi:IntsAre vs ns) (hl:ns.length<=sizeLine) (hr:ce k callerA)
 (F:∀base:Heap,K.In base->base.Ns mainGlobals mg->base.BuiltinsAt mg Pt->aj P w K mg base CX k fa fd [x] sp) (Jh:∀(s:Shared) (u:Value),BindsTo s fd ⟨[u],[]⟩ [(x,u)])
 (kZ:∀H:Hp,H Pt=some (hZ Pt #[])->ae K H a (ns.map V.int)->sp [.ref a] H (fun v H'=>v=.bl true/\aD H' Pt lpos qual) fun _ _ _=>False)
 (Jj:∀H e s',CX [] H s₁ (fun _ _ _=>False) e s'->False) :
 codeAny (model P w) callerA (.call (.ref fa) ⟨[.ref a],[]⟩) (fun r s'=>r=.ok (.ret (.bool true))/\OldK s₁.heap s'.heap/\s'.os=s₁.os/\AllBare s'.gens) s₁:=by
 have rv:=PL hi;have alk:=hi.length;have Rs:a≠Pt:=fun z=>by rw[z,hP]at ha;cases ha
 have core:∀H:Hp,H Pt=some (hZ Pt #[])->(∀b,b≠Pt->H b=none\/∃o xs,H b=some (.frz o (.lst xs)))->ae K H a (ns.map V.int)->cj P w H s₁.heap->(∀b,H b≠none->b=a\/b=Pt)->(H a≠none->K.lookup a=none) ->
  codeAny (model P w) callerA (.call (.ref fa) ⟨[.ref a],[]⟩) (fun r s'=>r=.ok (.ret (.bool true))/\OldK s₁.heap s'.heap/\s'.os=s₁.os/\AllBare s'.gens) s₁:=by
  intro H hT hO hS hok hA hK;have Jk:∀{b:Addr}{o:Obj},s₁.heap.get? b=some o->H b=none->(nG s₁.heap H).get? b=some o:=fun e n=>Xv e n;have Rt:∀{b:Addr}{o:Obj},s₁.heap.get? b=some o->(∀it n,o.data≠.seq it n)->(∀ps,o.data≠.fields ps)->H b=none:=fun {b o} e d1 d2=>by
   cases q:H b with
   | none=>rfl
   | some u=>
    rcases hA b (by rw[q];simp) with e' | e'
    . subst e';rw[ha]at e;cases e;exact absurd rfl (d1 _ _)
    . subst e';rw[hP]at e;cases e;exact absurd rfl (d2 _)
  have DD:∀{b:Addr}{m:Mv},s₁.heap.Ns b m->(nG s₁.heap H).Ns b m:=fun {b m} ⟨o,es,ep,e,d,r⟩=>⟨o,es,ep,Jk e (Rt e (fun it n z=>by rw[d]at z;cases z) fun ps z=>by rw[d]at z;cases z),d,r⟩;have Ru:K.In (nG s₁.heap H):=fun b o e=>Jk (KX b o e) (by
   cases q:H b with
   | none=>rfl
   | some u=>
    rcases hA b (by rw[q];simp) with e' | e'
    . subst e';rw[hK (by rw[q];simp)]at e;cases e
    . subst e';rw[Ji]at e;cases e)
  have hM:Mod K mg (nG s₁.heap H):=⟨Ru,DD j0,⟨mb,DD hb,rC⟩,alj.elim fun mc alm=>alm.elim fun h1 h2=>⟨mc,DD h1,h2⟩⟩;have e0:mn P w K mg (nG s₁.heap H) callerA [] s₁ H:=⟨rfl,hM,fun b o e=>Xw e,Cc (Xu _ _),trivial,fun b hb=>absurd (show b∈([]:List Addr) from hb) (by simp),hok,.of_eq hg⟩;have hBt:(nG s₁.heap H).BuiltinsAt mg Pt:=by
   obtain⟨bm,ob',b1,b2,b3,b4,b5,b6⟩:=bmain;refine⟨bm,ob',b1,b2,fun z=>?_,fun z=>?_,Jk b3 (Rt b3 (fun it n z=>by rw[b6]at z;cases z) fun ps z=>by rw[b6]at z;cases z),b4,b5,b6⟩
   . obtain⟨o,es,ep,e,d,_⟩:=j0;rw[z,e]at b3;cases b3;rw[d]at b6;cases b6
   . rw[z,hP]at b3;cases b3;cases b6
  refine qM ((F _ Ru (DD j0) hBt).run callerA [] s₁ H ⟨[.ref a],[]⟩ [.ref a] [.ref a] _ _ hr e0 (Jh s₁ (.ref a)) (.cons rfl .nil) (kZ H hT hS)) fun r s' h=>?_;cases r with
  | error e=>exact(Jj H e s' h).elim
  | ok fl=>
   cases fl with
   | next=>exact False.elim h
   | brk=>exact False.elim h
   | cont=>exact False.elim h
   | ret u=>
    obtain⟨v,H',os,bare,un,ut,r',q',tb⟩:=h;subst q';obtain rfl:u=Value.bool true:=r';have old:∀b o,s₁.heap.get? b=some o->b≠Pt->s'.heap.get? b=some o:=fun b o e nb=>by
     cases q:H b with
     | none=>exact un.keep b o e q (by intro z;exact absurd (show b∈([]:List Addr) from z) (by simp)) (by simp)
     | some u=>
      rcases hO b nb with z | ⟨ob,xs,z⟩
      . rw[q]at z;cases z
      . have z2:=un.frzs b ob _ z;obtain⟨e1,_⟩:=hok b _ z;obtain⟨e2,_⟩:=ut b _ z2;rw[e]at e1;cases e1;exact e2
    have tab:s'.heap.get? Pt=some (tabObj #[])\/∃more,s'.heap.get? Pt=some (tabObj (#[]++more)):=by
     rcases tb with z | ⟨c',z,_⟩
     . exact .inl (show ci P w H' s'.heap Pt (hZ Pt #[]) from ut Pt _ z).1
     . exact .inr ⟨_,by rw[Array.empty_append];exact(show ci P w H' s'.heap Pt (hZ Pt _) from ut Pt _ z).1⟩
    refine⟨rfl,⟨fun b o e=>?_,fun b o e=>?_⟩,os,bare⟩
    . by_cases nb:b=Pt
      . subst nb;rw[hP]at e;cases e
        rcases tab with z | ⟨more,z⟩
        . exact .inl z
        . exact .inr (.inl ⟨(hC.tab hP).isCodeTable,rfl,#[],more,rfl,z⟩)
      . exact .inl (old b o e nb)
    . by_cases nb:b=Pt
      . subst nb
        rcases tab with z | ⟨more,z⟩
        . exact⟨_,z⟩
        . exact⟨_,z⟩
      . exact⟨o,old b o e nb⟩
 have pW:∀H:Hp,H Pt=some (hZ Pt #[])->ci P w H s₁.heap Pt (hZ Pt #[]):=fun H _=>zW hP hP fun h1 h2 z k=>k _ z;cases hk:K.lookup a with
 | some o=>
  have e:=KX a o hk;rw[ha]at e;cases e;refine core (fun b=>if b=Pt then some (hZ Pt #[]) else none) (al rfl) (fun b nb=>.inl (ai nb)) (.inr ⟨_,vs.toArray,_,hk,rfl,rfl,rfl,by rw[fo,alk];exact hl,by simpa using rv⟩) (fun b u z=>?_) (fun b z=>?_) fun z=>absurd (ai Rs) z
  . by_cases hb:b=Pt
    . have z':=(al hb).symm.trans z;cases z';subst hb;exact pW _ (al rfl)
    . have z':=(ai hb).symm.trans z;cases z'
  . by_cases hb:b=Pt
    . exact .inr hb
    . exact absurd (ai hb) z
 | none=>
  refine core (fun b=>if b=Pt then some (hZ Pt #[]) else if b=a then some (.frz { cls:=.type "list",data:=.seq vs.toArray } (.lst (ns.map V.int))) else none) (al rfl) (fun b nb=>?_) (.inl (.inr ⟨{ cls:=.type "list",data:=.seq vs.toArray },by show(if a=Pt then _ else if a=a then _ else _)=_;rw[ai Rs,al rfl]⟩)) (fun b u z=>?_) (fun b z=>?_) fun _=>hk
  . show(if b=Pt then _ else if b=a then _ else _)=_\/∃o xs,(if b=Pt then _ else if b=a then _ else _)=_;rw[ai nb]
    by_cases hb:b=a
    . exact .inr ⟨_,_,al hb⟩
    . exact .inl (ai hb)
  . have z:(if b=Pt then some (hZ Pt #[]) else if b=a then some (.frz { cls:=.type "list",data:=.seq vs.toArray } (.lst (ns.map V.int))) else none)=some u:=z
    by_cases hb:b=Pt
    . rw[al hb]at z;cases z;subst hb;exact pW _ (al rfl)
    . rw[ai hb]at z
      by_cases iG:b=a
      . rw[al iG]at z;cases z;subst iG;exact⟨ha,by rw[ao];exact hl,vs,_,rv,ha⟩
      . rw[ai iG]at z;cases z
  . have z:(if b=Pt then some (hZ Pt #[]) else if b=a then some (HO.frz { cls:=.type "list",data:=.seq vs.toArray } (.lst (ns.map V.int))) else none)≠none:=z
    by_cases hb:b=Pt
    . exact .inr hb
    . rw[ai hb]at z
      by_cases iG:b=a
      . exact .inl iG
      . rw[ai iG]at z;exact absurd rfl z
theorem alp{l:PySem.W.OpenLaw}{n k:Nat}{q:Program}{loose:Ls}{XP:(Mv)->Heap->Prop}{YP:World->Heap->Prop}{d:DefRec}{K:Params->Fg}{CX:World->iz}{sp:World->Sp}{x qual:Str}{lpos:Pos}{Pt:Addr}
 (hn:l.most=some n) (zi:n<=sizeLine) (zx:d.params.defaults=[]) (hr:ce k callerA)
 (hY:∀(w:World) (h:Heap),YP w h->(K w.params).In h/\h.get? Pt=some (tabObj #[]))
 (F:∀(w:World) (mg:Mv) (fa:Addr) (h:Heap),(K w.params).In h->h.Ns mainGlobals mg->mg d.name=some (.ref fa) ->
  ∃(fd:Fy) (c:Addr),(∀(s:Shared) (u:Value),BindsTo s fd ⟨[u],[]⟩ [(x,u)])/\PySem.W.codeHdIn (K w.params) c Pt=true/\(K w.params).lookup Pt=none /\
   ∀base:Heap,(K w.params).In base->base.Ns mainGlobals mg->base.BuiltinsAt mg Pt->aj l.prog w (K w.params) mg base (CX w) k fa fd [x] (sp w))
 (kZ:∀(w:World) (H:Hp) (a:Addr) (ns:List Int),ns.length<=n->H Pt=some (hZ Pt #[])->ae (K w.params) H a (ns.map V.int)->sp w [.ref a] H (fun v H'=>v=.bl true/\aD H' Pt lpos qual) fun _ _ _=>False)
 (Jj:∀(w:World) (H:Hp) (s:Shared) (e:Value) (s':Shared),CX w [] H s (fun _ _ _=>False) e s'->False) :
 PySem.W.WalkO q loose XP YP l.row.toRowW d [] (fun f vs=>PySem.call f vs):=by
 refine Att.aeZ hn zx fun w s₀ s₁ mg mb fa o pm cd doc a vs ns G Y ho hd iw zy uq hints hlen hg=>?_;obtain⟨KX,hP⟩:=hY w _ Y;obtain⟨fd,c,hb,hC,Ji,hF⟩:=F w mg fa _ KX G.T.g zy;exact ali KX G.T.g G.T.b G.T.builtins G.T.nolimit hg G.T.bmain hP (PySem.W.codeHd_of_K KX hC) Ji uq hints (cu hlen zi) hr hF hb (fun H hO hS=>kZ w H a ns hlen hO hS) fun H e s'=>Jj w H s₁ e s'
end L2
namespace HT
open PySem PyProof.Rows
section
open PySem.SeqAt
open PySem.AutoSeq1 (wpAny_loadPart')
open PySem.MeetsSeq PySem.MeetsSeq2 PySem.MeetsSeq3
variable {P:Program}{w:World}{A:Around}{s:Shared}
end
end HT
namespace L2
open PySem PySem.Spec PyProof.Rows
open PySem.W (KeqHits)
section
variable {X:Cx}
end
end L2
namespace L2
open PySem PySem.Spec PyProof.Rows
section
variable {X:Cx}
end
end L2
namespace HT
open PySem PyProof.Rows
section
open PySem.SeqAt
open PySem.AutoSeq1 (wpAny_loadPart')
open PySem.MeetsSeq PySem.MeetsSeq2 PySem.MeetsSeq3
end
section
variable {A:Around}{s:Shared}
end
end HT
namespace L2
open PySem PySem.Spec PyProof.Rows
section
variable {X:Cx}{pins:Po}{σ:St}{H:Hp}{s:Shared}
end
abbrev bB (K:Fg) (x:Str) (st:Stmt) (f:Addr) (fd:Fy):Prop:=aU K x x st f fd
structure aO(K:Fg)(mg:Mv)(x:Str)(st:Stmt)(f:Addr)(fd:Fy):Prop where
 u:aU K x x st f fd
 m:mg x=some (.ref f)
section
variable {X:Cx}
theorem aG{k:Nat}{f:Addr}{fd:Fy}{ps:Ls}{sp:Sp}{x:Str}{st:Stmt}{p pos:Pos}{e:Expr}{es:List Expr}{t:TA}(G:aj X.prog X.w X.K X.mg X.base ak k f fd ps sp)(hr:ce k X.A)(hg:Gl X x)(F:aO X.K X.mg x st f fd)(hb:Binds X.K fd ps [])
 (ha:PA X (e::es) t) (gU:(x == ("__debug__":Str))=false:=by decide) (he:starEach (e::es) X.env=(false,eval e X.env)::starEach es X.env:=by rfl) (dU:(backTo pos (starEach es X.env)).any (·.1)=false:=by rfl) :
 PE X (.Call (.Name x p) (e::es) [] pos) (Hv sp [] E0 t):=mo G hr hg F.m F.u.kp hb .nil fA ha gU he dU
end
end L2
abbrev azt:PySem.Str:="self"
abbrev azu:PySem.Str:="shelf"
abbrev azv:PySem.Str:="_law_cell"
abbrev azw:PySem.Str:="_law_number"
abbrev azx:PySem.Str:="parcels"
abbrev azy:PySem.Str:="disk"
abbrev azz:PySem.Str:="parcel"
abbrev azA:PySem.Str:="chosen"
abbrev azB:PySem.Str:="_law_k"
abbrev azC:PySem.Str:="path"
abbrev azD:PySem.Str:="_law_names"
abbrev azE:PySem.Str:="name"
abbrev azF:PySem.Str:="_law_disk"
abbrev azG:PySem.Str:="_law_script"
abbrev azH:PySem.Str:="make"
abbrev azI:PySem.Str:="choices"
abbrev azJ:PySem.Str:="files"
abbrev azK:PySem.Str:="_law_shelf"
abbrev azL:PySem.Str:="goal"
abbrev azM:PySem.Str:="stand"
abbrev azN:PySem.Str:="text"
abbrev azO:PySem.Str:="lines"
abbrev azP:PySem.Str:="other"
abbrev azQ:PySem.Str:="_law_parcels"
abbrev azR:PySem.Str:="rank"
abbrev azS:PySem.Str:="second"
abbrev azT:PySem.Str:="own"
abbrev azU:PySem.Str:="now"
abbrev azV:PySem.Str:="block"
abbrev azW:PySem.Str:="needs"
abbrev azX:PySem.Str:="first"
abbrev azY:PySem.Str:="group"
abbrev azZ:PySem.Str:="_law_some"
abbrev az0:PySem.Str:="tree"
abbrev az1:PySem.Str:="change"
abbrev az2:PySem.Str:="base"
abbrev az3:PySem.Str:="common"
abbrev az4:PySem.Str:="abcdefghijklmnopqrstuvwxyz"
abbrev az5:PySem.Str:="shuts"
abbrev az6:PySem.Str:="_law_parcels_apart"
abbrev az7:PySem.Str:="_law_mixed"
abbrev az8:PySem.Str:="kind"
abbrev az9:PySem.Str:="names"
abbrev aAa:PySem.Str:="_law_goal"
abbrev aAb:PySem.Str:="keys_unlike"
abbrev aAc:PySem.Str:="offers"
abbrev aAd:PySem.Str:="brought"
abbrev aAe:PySem.Str:="tree_of"
abbrev aAf:PySem.Str:="_law_one"
abbrev aAg:PySem.Str:="_law_start"
abbrev aAh:PySem.Str:="take_write"
abbrev aAi:PySem.Str:="_law_due"
abbrev aAj:PySem.Str:="_law_p"
abbrev aAk:PySem.Str:="others"
abbrev aAl:PySem.Str:="groups"
abbrev aAm:PySem.Str:="many"
abbrev aAn:PySem.Str:="stand_shown"
abbrev aAo:PySem.Str:="name_behind"
abbrev aAp:PySem.Str:="book_now"
abbrev aAq:PySem.Str:="stand_on"
abbrev aAr:PySem.Str:="_law_name_here"
abbrev aAs:PySem.Str:="set_behind"
abbrev aAt:PySem.Str:="shelved"
abbrev aAu:PySem.Str:="files_now"
abbrev aAv:PySem.Str:="_law_cell_at"
namespace K63
open PySem PySem.Spec PyProof.Rows L2
structure eD(C dx x:Addr)(H Hk:Hp)(fl:List (Str×V)):Prop where
 same:∀b o,H b=some o->b≠x->Hk b=some o
 free:∀b,Hk b=none->H b=none
 ob:Hk x=some (.ins C dx fl)
section
variable {K:Fg}{C dx x p a:Addr}{H Hk:Hp}{fl rL:List (Str×V)} {o o':HO}{xs:Lv}
theorem eD.put(S:eD C dx x H Hk fl):eD C dx x H (ah Hk x (.ins C dx rL)) rL:=
 ⟨fun b o e hb=>by rw[aW hb];exact S.same b o e hb,fun b e=>S.free b (iA e).2,aH⟩
theorem eD.lay(S:eD C dx x H Hk fl)(hp:Hk p=none):eD C dx x H (ah Hk p o) fl:=
 ⟨fun b u e hb=>by rw[aW (aL (S.same b u e hb) hp)];exact S.same b u e hb,fun b e=>S.free b (iA e).2,by rw[aW (aL S.ob hp)];exact S.ob⟩
theorem eD.sqL(S:eD C dx x H Hk fl)(hx:H x=some (.ins C dx rL))(h:ae K H a xs):ae K Hk a xs:=by
 rcases h with(h | ⟨o,h⟩) | h
 . exact .inl (.inl (S.same _ _ h (aK h hx (by intro z;cases z))))
 . exact .inl (.inr ⟨o,S.same _ _ h (aK h hx (by intro z;cases z))⟩)
 . exact .inr h
theorem eD.sqT(S:eD C dx x H Hk fl)(hx:H x=some (.ins C dx rL))(h:aX K H a xs):aX K Hk a xs:=by
 rcases h with(h | ⟨o,h⟩) | h
 . exact .inl (.inl (S.same _ _ h (aK h hx (by intro z;cases z))))
 . exact .inl (.inr ⟨o,S.same _ _ h (aK h hx (by intro z;cases z))⟩)
 . exact .inr h
theorem aB(h:Hk a=some o)(n:a≠p):ah Hk p o' a=some o:=by rw[aW n];exact h
theorem lp{f:Str}{v:V}{n:Nat}(h:fl.length<=n):(ay f v fl).length<=n+1:=cu (Hs _ _ _) (by omega)
theorem few{n:Nat}(h:fl.length<=n)(h2:n<1000):fl.length<1000:=by omega
theorem pX:([]:List (Str×V)).length<=0:=aI _
end
def msk(L:List Addr)(H:Hp):Hp:=fun b=>if b∈L then none else H b
theorem bO{L:List Addr}{H:Hp}:ag (msk L H) H:=fun b o e=>by
 unfold msk at e;split at e
 . cases e
 . exact e
theorem ib{L:List Addr}{H H':Hp}(s:ag H H'):ag (msk L H) (msk L H'):=fun b o e=>by
 unfold msk at e ⊢;split at e
 . cases e
 . rw[ai ‹_›];exact s _ _ e
theorem DE{L:List Addr}{H:Hp}{o:HO}(h:p∈L):msk L (ah H p o)=msk L H:=by
 funext b
 unfold msk;split
 . rfl
 . have hb:¬b∈L:=‹_›;rw[aW (fun z=>hb (by rw[z];exact h))]
theorem cJ{L:List Addr}{H:Hp}{o:HO}(n:b∉L)(h:H b=some o):msk L H b=some o:=by
 unfold msk;rw[ai n];exact h
theorem Jl{L L':List Addr}{H:Hp}(h:∀b∈L',b∈L):ag (msk L H) (msk L' H):=fun b o e=>by
 unfold msk at e ⊢;split at e
 . cases e
 . rw[ai (fun z=>‹¬b∈L› (h b z))];exact e
def jt(H:Hp)(L:List Addr):Prop:=∀b∈L,∃o,H b=some o/\∀vs,o≠.tup vs
theorem jt.free{H:Hp}{L:List Addr}(h:jt H L){b:Addr}(n:H b=none):b∉L:=fun z=>by
 obtain⟨o,e,_⟩:=h b z;rw[n]at e;cases e
theorem jt.tup{H:Hp}{L:List Addr}(h:jt H L){b:Addr}{vs:Lv}(n:H b=some (.tup vs)):b∉L:=fun z=>by
 obtain⟨o,e,q⟩:=h b z;rw[n]at e;cases e;exact q _ rfl
theorem DF{α β:Type}{F:α->β->Prop}:∀{xs:List α}{ys:List β},Paired F xs ys->∀{i:Nat}{y:β},ys[i]?=some y->∃x,xs[i]?=some x/\F x y
 | _,_,.nil,i,y,h=>by cases h
 | _,_,.cons r t,0,y,h=>by cases h;exact⟨_,rfl,r⟩
 | _,_,.cons r t,i+1,y,h=>DF t (i:=i) h
theorem eE{α β:Type}{F:α->β->Prop}:∀{xs:List α}{ys:List β},Paired F xs ys->∀{i:Nat}{x:α},xs[i]?=some x->∃y,ys[i]?=some y/\F x y
 | _,_,.nil,i,y,h=>by cases h
 | _,_,.cons r t,0,y,h=>by cases h;exact⟨_,rfl,r⟩
 | _,_,.cons r t,i+1,y,h=>eE t (i:=i) h
theorem bC{α β:Type}{F:α->β->Prop}:∀{xs:List α}{ys:List β},Paired F xs ys->xs.length=ys.length
 | _,_,.nil=>rfl
 | _,_,.cons _ t=>eN (· + 1) (bC t)
theorem ju{α β:Type}{F:α->β->Prop}{x:α}{y:β}(h:F x y):∀{xs:List α}{ys:List β},Paired F xs ys->Paired F (xs++[x]) (ys++[y])
 | _,_,.nil=>.cons h .nil
 | _,_,.cons r t=>.cons r (ju h t)
theorem Rv{α β:Type}{F:α->β->Prop}:∀{xs:List α}{ys:List β},xs.length=ys.length->(∀(i:Nat) (y:β),ys[i]?=some y->∃x,xs[i]?=some x/\F x y)->Paired F xs ys
 | [],[],_,_=>.nil
 | [],_::_,h,_=>nomatch h
 | _::_,[],h,_=>nomatch h
 | x::xs,y::ys,h,k=>by
  obtain⟨x',e,r⟩:=k 0 y rfl;cases e;exact .cons r (Rv (Nat.succ.inj h) fun i z hz=>k (i+1) z hz)
theorem Rw:∀(p:Str) (l:Ls),risingS p l=true->(p::l).Pairwise (fun a b=>a.cps.toList<=b.cps.toList)
 | p,[],_=>List.pairwise_singleton _ _
 | p,x::r,h=>by
  have h:(!ltCps x.cps.toList p.cps.toList && risingS x r)=true:=h;obtain⟨h1,h2⟩:=yN.mp h;have ih:=Rw x r h2;have le:p.cps.toList<=x.cps.toList:=by
   rw[PyProof.Rows.ltCps_eq]at h1;intro z;rw[bN z]at h1;cases h1
  refine List.pairwise_cons.mpr ⟨fun y hy=>?_,ih⟩
  rcases aY.mp hy with e | hy
  . rw[e];exact le
  . exact List.le_trans le (List.rel_of_pairwise_cons ih hy)
theorem Jm:∀{l:Ls},sortedS l=true->l.Pairwise (fun a b=>a.cps.toList<=b.cps.toList)
 | [],_=>.nil
 | x::r,h=>Rw x r h
theorem alq{a b:Ls}(p:a.Perm b)(h1:sortedS a=true)(h2:sortedS b=true):a=b:=by
 refine ax6 (fun x y _ _ h h'=>?_) (Jm h1) (Jm h2) p;have e:=WP h h';obtain⟨⟨x⟩⟩:=x;obtain⟨⟨y⟩⟩:=y;have e:x=y:=e;rw[e]
section
variable {β:Type}
def bI(tr:List (Str×β))(x:Str)(ls:β):List (Str×β):=if (tr.any fun f=>decide (f.1=x))=true then tr.map (fun f=>if f.1=x then(f.1,ls) else f) else tr++[(x,ls)]
theorem rM{tr:List (Str×β)}{x:Str}{ls:β}{f:Str×β}(h:f∈bI tr x ls):f=(x,ls)\/f∈tr:=by
 unfold bI at h;split at h
 . obtain⟨g,hg,e⟩:=cD.mp h;split at e
   . rename_i hx;left;rw[←e,hx]
   . right;rw[←e];exact hg
 . rcases bS.mp h with h | h
   . exact .inr h
   . exact .inl (bw.mp h)
theorem Rx(tr:List (Str×β))(x:Str)(ls:β):(bI tr x ls).map (·.1)=if (tr.any fun f=>decide (f.1=x))=true then tr.map (·.1) else tr.map (·.1)++[x]:=by
 unfold bI;split
 . rw[pA];refine Og fun f _=>?_;show(if f.1=x then(f.1,ls) else f).1=f.1;split<;>rfl
 . rw[dz];rfl
theorem rN{tr:List (Str×β)}{x:Str}:(tr.any fun f=>decide (f.1=x))=true↔x∈tr.map (·.1):=by
 rw[yM,cD];constructor
 . rintro⟨f,hf,e⟩;exact⟨f,hf,cT e⟩
 . rintro⟨f,hf,e⟩;exact⟨f,hf,bN e⟩
theorem lE{tr:List (Str×β)}{x:Str}{ls:β}(h:(tr.map (·.1)).Nodup):((bI tr x ls).map (·.1)).Nodup:=by
 rw[Rx];split
 . exact h
 . rename_i hx;rw[tN];refine⟨h,by simp,fun a ha b hb=>?_⟩;rw[bw.mp hb];intro e;exact hx (rN.mpr (e▸ha))
theorem Jn{tr:List (Str×β)}{x y:Str}{ls:β}(h:y=x\/y∈tr.map (·.1)):y∈(bI tr x ls).map (·.1):=by
 rw[Rx];split
 . rename_i hx
   rcases h with h | h
   . rw[h];exact rN.mp hx
   . exact h
 . rcases h with h | h
   . rw[h];exact eF _ (bw.mpr rfl)
   . exact yD _ h
theorem j7(tr:List (Str×β))(x:Str)(ls:β):(bI tr x ls).length<=tr.length+1:=by
 unfold bI;split
 . rw[ao];omega
 . rw[bj,iN];omega
theorem jv{F:ar×V->Str×β->Prop}(hk:∀kv f,F kv f->kv.1=Sum.inr f.1){x:Str}{ls:β}{v:V}(hv:F (.inr x,v) (x,ls)){kvs:List (ar×V)}{tr:List (Str×β)}(h:Paired F kvs tr):Paired F (cz kvs (.inr x) v) (bI tr x ls):=by
 have e:(kvs.any fun kv=>decide (kv.1=Sum.inr x))=(tr.any fun f=>decide (f.1=x)):=by
  induction h with
  | nil=>rfl
  | cons r t ih=>
   rw[tJ,tJ,ih,hk _ _ r]
   congr 1
   exact Cr.mpr ⟨fun z=>nu z,fun z=>by rw[z]⟩
 unfold cz bI;rw[e];split
 . clear e;rename_i hh;clear hh
   induction h with
   | nil=>exact .nil
   | @cons kv f kvs tr r t ih=>
    refine .cons ?_ ih;have hr:=hk _ _ r;dsimp only
    by_cases hx:f.1=x
    . have Ag:kv.1=Sum.inr x:=by rw[hr,hx]
      rw[al Ag,al hx,Ag,hx];exact hv
    . rw[ai (fun z=>hx (nu (hr.symm.trans z))),ai hx];exact r
 . exact ju hv h
end
theorem uJ{β:Type}{F:ar×V->Str×β->Prop}(hk:∀kv f,F kv f->kv.1=Sum.inr f.1){kvs:List (ar×V)}{tr:List (Str×β)}(h:Paired F kvs tr):uz kvs (tr.map (·.1)):=by
 unfold uz
 induction h with
 | nil=>rfl
 | cons r t ih=>rw[bL,bL,bL,ih,hk _ _ r]
theorem rO{β:Type}{F:ar×V->Str×β->Prop}(hk:∀kv f,F kv f->kv.1=Sum.inr f.1){kvs:List (ar×V)}{tr:List (Str×β)}(h:Paired F kvs tr){x:Str}(hx:x∈tr.map (·.1)):∃v ls,bh kvs (.inr x)=some v/\(x,ls)∈tr/\F (.inr x,v) (x,ls):=by
 induction h with
 | nil=>cases hx
 | @cons kv f kvs tr r t ih=>
  have hr:=hk _ _ r
  by_cases e:f.1=x
  . refine⟨kv.2,f.2,by rw[jW (hr.trans (by rw[e]))],?_,?_⟩
    . rw[←e];exact bK
    . rw[←e,←hr];exact r
  . rcases aY.mp hx with z | z
    . exact absurd z.symm e
    . obtain⟨v,ls,a,b,c⟩:=ih z;exact⟨v,ls,by rw[iW (fun q=>e (nu (hr.symm.trans q)))];exact a,bR _ b,c⟩
theorem DG{β:Type}{F:ar×V->Str×β->Prop}(hk:∀kv f,F kv f->kv.1=Sum.inr f.1){kvs:List (ar×V)}{tr:List (Str×β)}(h:Paired F kvs tr){x:Str}(hx:x∉tr.map (·.1)):bh kvs (.inr x)=none:=by
 induction h with
 | nil=>rfl
 | @cons kv f kvs tr r t ih=>
  have hr:=hk _ _ r;rw[bL,aY,py]at hx;rw[iW (fun q=>hx.1 (nu (hr.symm.trans q)).symm)];exact ih hx.2
theorem oE{β:Type}{tr:List (Str×β)}(h:(tr.map (·.1)).Nodup){x:Str}{a b:β}(ha:(x,a)∈tr)(hb:(x,b)∈tr):a=b:=by
 induction tr with
 | nil=>cases ha
 | cons f tr ih=>
  rw[bL,qN]at h
  rcases aY.mp ha with ea | ha
  . rcases aY.mp hb with eb | hb
    . rw[←ea]at eb;exact(Prod.mk.inj eb).2.symm
    . exact absurd (gf (f:=(·.1)) hb) (by rw[←ea]at h;exact h.1)
  . rcases aY.mp hb with eb | hb
    . exact absurd (gf (f:=(·.1)) ha) (by rw[←eb]at h;exact h.1)
    . exact ih h.2 ha hb
theorem Ry{c:Nat}:∀{p q x y:List Nat},c∉p->c∉q->p++c::x=q++c::y->p=q/\x=y
 | [],[],x,y,_,_,h=>⟨rfl,(tQ h).2⟩
 | [],b::q,x,y,_,hq,h=>absurd ((tQ h).1▸bK) hq
 | a::p,[],x,y,hp,_,h=>absurd ((tQ h).1.symm▸bK) hp
 | a::p,b::q,x,y,hp,hq,h=>by
  have h:=tQ h;obtain⟨e1,e2⟩:=Ry (fun z=>hp (bR _ z)) (fun z=>hq (bR _ z)) h.2;exact⟨by rw[h.1,e1],e2⟩
theorem Ah{a b:Str}(h:a.cps.toList=b.cps.toList):a=b:=Str.ext' (Array.toList_inj.mp h)
theorem mH(a b:Str):(a++b).cps.toList=a.cps.toList++b.cps.toList:=by rw[Str.cps_append,Array.toList_append]
theorem oF(c:Nat)(p q:Str)(r:Ls):(Str.join ⟨#[c]⟩ (p::q::r)).cps.toList=p.cps.toList++c::(Str.join ⟨#[c]⟩ (q::r)).cps.toList:=by
 show(p++⟨#[c]⟩++Str.join ⟨#[c]⟩ (q::r)).cps.toList=_;rw[mH,mH,kN];rfl
theorem Rz{c:Nat}:∀{ps qs:Ls},ps≠[]->qs≠[]->(∀p∈ps,c∉p.cps.toList)->(∀q∈qs,c∉q.cps.toList)->Str.join ⟨#[c]⟩ ps=Str.join ⟨#[c]⟩ qs->ps=qs
 | [],_,h,_,_,_,_=>absurd rfl h
 | _::_,[],_,h,_,_,_=>absurd rfl h
 | [p],[q],_,_,_,_,e=>by
  have e:p=q:=e;rw[e]
 | [p],q::q'::r,_,_,hp,_,e=>by
  have e:=eN (fun x:Str=>x.cps.toList) e;have e:p.cps.toList=(Str.join ⟨#[c]⟩ (q::q'::r)).cps.toList:=e;rw[oF]at e;exact absurd (by rw[e];exact eF _ bK) (hp p bK)
 | p::p'::r,[q],_,_,_,hq,e=>by
  have e:=eN (fun x:Str=>x.cps.toList) e;have e:(Str.join ⟨#[c]⟩ (p::p'::r)).cps.toList=q.cps.toList:=e;rw[oF]at e;exact absurd (by rw[←e];exact eF _ bK) (hq q bK)
 | p::p'::r,q::q'::t,_,_,hp,hq,e=>by
  have e:=eN (fun x:Str=>x.cps.toList) e;have e:(Str.join ⟨#[c]⟩ (p::p'::r)).cps.toList=(Str.join ⟨#[c]⟩ (q::q'::t)).cps.toList:=e;rw[oF,oF]at e;obtain⟨e1,e2⟩:=Ry (hp p bK) (hq q bK) e;rw[Ah e1,Rz (yR _ _) (yR _ _) (fun z hz=>hp z (bR _ hz)) (fun z hz=>hq z (bR _ hz)) (Ah e2)]
theorem alr(x y:Str):Txt.split x y≠[]:=fun z=>by
 have:=split_pos x y;rw[z]at this;exact absurd this (by decide)
theorem DH{c:Nat}{ps:Ls}(ne:ps≠[])(h:∀p∈ps,c∉p.cps.toList):Txt.split (Str.join ⟨#[c]⟩ ps) ⟨#[c]⟩=ps:=
 Rz (alr _ _) ne (StrLaws.split_free _ _) h (StrLaws.join_split _ _)
def DI(x y:Str):Bool:=!decide (y.cps.toList<x.cps.toList)
def Ai(lo hi:Str)(c:Nat):Bool:=if DI lo (I9 c)=true then DI (I9 c) hi else false
theorem RA(a b:Nat):DI ⟨#[a]⟩ ⟨#[b]⟩=decide (a<=b):=by
 unfold DI;show(!decide ([b] < [a]))=_;rw[StrLaws.lt_cons_cons,StrLaws.lt_nil_nil,wj,tI]
 by_cases h:b<a
 . rw[bN h,cI (by omega)];rfl
 . rw[cI h,bN (by omega)];rfl
theorem DJ(a b c:Nat):Ai ⟨#[a]⟩ ⟨#[b]⟩ c=decide (a<=c/\c<=b):=by
 unfold Ai I9;rw[RA,RA]
 by_cases h:a<=c
 . rw[bN h,al rfl];exact Cr.mpr ⟨fun z=>⟨h,z⟩,fun z=>z.2⟩
 . rw[cI h,ai (by decide),cI (fun z=>h z.1)]
theorem RB(x:Str)(c:Nat):Txt.startswith x ⟨#[c]⟩=decide (x.cps.toList[0]?=some c):=by
 unfold Txt.startswith;rw[Cb,gR,Ct,Ct];exact StrLaws.subAt_one x c 0
def j8:Str:="\n"
def spS:Str:=" "
def pY:Str:="/"
def jw:Str:="."
def eP:Str:="<"
def eR:Str:=">"
def aS:Str:="a"
def zS:Str:="z"
def RC:Str:="~"
def DK:Str:="0"
def RD:Str:="9"
def fD:Str:="in"
def fe:Str:="choose"
def dB:Str:=azT
theorem Jo:j8=⟨#[10]⟩:=by decide +kernel
theorem rQ:spS=⟨#[32]⟩:=by decide +kernel
theorem Jp:pY=⟨#[47]⟩:=by decide +kernel
theorem RE:jw=⟨#[46]⟩:=by decide +kernel
theorem oG:eP=⟨#[60]⟩:=by decide +kernel
theorem pZ:eR=⟨#[62]⟩:=by decide +kernel
theorem als:aS=⟨#[97]⟩:=by decide +kernel
theorem alt:zS=⟨#[122]⟩:=by decide +kernel
theorem alu:RC=⟨#[126]⟩:=by decide +kernel
theorem Jq:DK=⟨#[48]⟩:=by decide +kernel
theorem RF:RD=⟨#[57]⟩:=by decide +kernel
theorem DL:fD=⟨#[105,110]⟩:=by decide +kernel
theorem DM:fe=⟨#[99,104,111,111,115,101]⟩:=by decide +kernel
theorem Jr:dB=⟨#[111,119,110]⟩:=by decide +kernel
def Aj(x:Str):Bool:=decide (0<x.length/\x.length<=8) && x.cps.toList.all (Ai aS zS)
def Js(x:Str):Bool:=decide ((Txt.split x pY).length<=4) && (Txt.split x pY).all Aj
def RG(c:Nat):Bool:=Ai spS RC c && decide (c≠37)
def Jt(x:Str):Bool:=decide (x.length<=60) && x.cps.toList.all RG
def wW(x:Str):Bool:=x.cps.toList.all (Ai DK RD)
def wX(x:Str):Option Int:=if (decide (0<x.length/\x.length<=10) && wW x)=true then(if (Txt.startswith x DK && decide (x≠DK))=true then none else if 1000000000<(NumText.digitsVal x.cps.toList:Int) then none else some (NumText.digitsVal x.cps.toList)) else none
def uK(x:Str):Bool:=decide ((Txt.split x jw).length<=3) && (Txt.split x jw).all fun p=>(wX p).isSome
def jx(row:Str):Bool:=
 if (Txt.startswith row eP || Txt.startswith row eR)=true then Jt (Txt.slice row (some 1) none) else
 match Txt.split row spS with
 | [w,p]=>decide (w=dB) && Js p
 | [w,n,x]=>!decide (w=dB) && Aj n && (if w=fD then uK x else decide (w=fe) && Aj x)
 | _=>false
theorem alv{x:Str}(h:wW x=true):NumText.AllDigits x.cps.toList:=fun c hc=>by
 have:=jk.mp h c hc;rw[Jq,RF,DJ]at this;exact cT this
theorem alw{x:Str}(h:wW x=true)(h1:0<x.length)(h2:x.length<=4300):PySem.intText? x=some ((NumText.digitsVal x.cps.toList:Nat):Int):=
 PySem.intText_digits (alv h) (fun z=>by
  have:x.cps.toList.length=x.length:=eT;rw[z]at this;simp at this;omega) h2
inductive Row
 | les (x:Str)
 | mor (x:Str)
 | inn (n t:Str)
 | cho (c n:Str)
 | own (p:Str)
def gH(row:Str):Row:=
 if Txt.startswith row eP=true then .les (Txt.slice row (some 1) none) else if Txt.startswith row eR=true then .mor (Txt.slice row (some 1) none) else
 if (Txt.split row spS).getD 0 Str.empty=fD then .inn ((Txt.split row spS).getD 1 Str.empty) ((Txt.split row spS).getD 2 Str.empty) else
 if (Txt.split row spS).getD 0 Str.empty=fe then .cho ((Txt.split row spS).getD 1 Str.empty) ((Txt.split row spS).getD 2 Str.empty) else .own ((Txt.split row spS).getD 1 Str.empty)
def rR(t:Str):List Int:=(Txt.split t jw).map fun p=>((NumText.digitsVal p.cps.toList:Nat):Int)
structure Nt where
 ch:List (Str×List Int):=[]
 cs:List (Str×Str):=[]
 ow:List (Str×(Ls×Ls)):=[]
 ck:Option Str:=none
 b:Ls:=[]
 m:Ls:=[]
def ic(ow:List (Str×(Ls×Ls)))(ck:Option Str)(r:Ls×Ls):List (Str×(Ls×Ls)):=
 match ck with
 | none=>ow
 | some p=>bI ow p r
def Nt.step(s:Nt)(row:Str):Nt:=
 match gH row with
 | .les x=>{ s with ow:=ic s.ow s.ck (s.b++[x],s.m),b:=s.b++[x] }
 | .mor x=>{ s with ow:=ic s.ow s.ck (s.b,s.m++[x]),m:=s.m++[x] }
 | .inn n t=>{ s with ch:=bI s.ch n (rR t) }
 | .cho c n=>{ s with cs:=bI s.cs c n }
 | .own p=>{ s with ow:=bI s.ow p ([],[]),ck:=some p,b:=[],m:=[] }
def fW(rows:Ls):Nt:=rows.foldl Nt.step {}
def iH(n:Int):Str:=toString n
def jy(ms:List Int):Str:=Str.join jw (ms.map iH)
def ie(e:Str×List Int):Str:=Str.join spS [fD,e.1,jy e.2]
def gJ(e:Str×Str):Str:=Str.join spS [fe,e.1,e.2]
def dM(e:Str×(Ls×Ls)):Ls:=[Str.join spS [dB,e.1]]++e.2.1.map (eP ++ ·)++e.2.2.map (eR ++ ·)
def ff(ch:List (Str×List Int))(cs:List (Str×Str))(ow:List (Str×(Ls×Ls))):Ls:=ch.map ie++cs.map gJ++ow.flatMap dM
def rowsOf(t:Str):Ls:=if t=Str.empty then [] else Txt.split t j8
structure cC(x:Str):Prop where
 lo:1<=x.length
 hi:x.length<=8
 az:∀c∈x.cps.toList,97<=c/\c<=122
structure iY(x:Str):Prop where
 hi:x.length<=60
 sg:∀c∈x.cps.toList,32<=c/\c<=126/\c≠37
structure fg(ms:List Int):Prop where
 lo:1<=ms.length
 hi:ms.length<=3
 rg:∀n∈ms,0<=n/\n<=1000000000
def dW(x:Str):Prop:=∃ps:Ls,x=Str.join pY ps/\1<=ps.length/\ps.length<=4/\∀p∈ps,cC p
theorem cC.name{x:Str}(h:cC x):Aj x=true:=by
 unfold Aj;rw[bN ⟨h.lo,h.hi⟩,GU,jk];intro c hc;rw[als,alt,DJ];exact bN (h.az c hc)
theorem iY.line{x:Str}(h:iY x):Jt x=true:=by
 unfold Jt;rw[bN h.hi,GU,jk];intro c hc;obtain⟨h1,h2,h3⟩:=h.sg c hc;unfold RG;rw[rQ,alu,DJ,bN ⟨h1,h2⟩,bN h3];rfl
theorem RH{α:Type}{l:List α}(h:1<=l.length):l≠[]:=fun z=>by
 rw[z,kL]at h;omega
theorem dW.path{x:Str}(h:dW x):Js x=true:=by
 obtain⟨ps,rfl,h1,h2,h3⟩:=h;have e:Txt.split (Str.join pY ps) pY=ps:=by
  rw[Jp];exact DH (RH h1) fun p hp hc=>by have:=(h3 p hp).az _ hc;omega
 unfold Js;rw[e,bN h2,GU,jk];exact fun p hp=>(h3 p hp).name
theorem Ak{c:Nat}:∀{ps:Ls}{d:Nat},d∈(Str.join ⟨#[c]⟩ ps).cps.toList->d=c\/∃p∈ps,d∈p.cps.toList
 | [],d,h=>by
  have h:d∈([]:List Nat):=h;cases h
 | [p],d,h=>.inr ⟨p,bK,h⟩
 | p::q::r,d,h=>by
  rw[oF]at h
  rcases bS.mp h with h | h
  . exact .inr ⟨p,bK,h⟩
  . rcases aY.mp h with h | h
    . exact .inl h
    . rcases Ak h with h | ⟨z,hz,hd⟩
      . exact .inl h
      . exact .inr ⟨z,bR _ hz,hd⟩
theorem dW.signs{x:Str}(h:dW x):∀c∈x.cps.toList,c=47\/(97<=c/\c<=122):=by
 obtain⟨ps,rfl,h1,h2,h3⟩:=h;intro c hc;rw[Jp]at hc
 rcases Ak hc with e | ⟨p,hp,hd⟩
 . exact .inl e
 . exact .inr ((h3 p hp).az c hd)
theorem alx:∀(m:Nat) (r:List Char),Nat.toDigits 10 m='0'::r->m=0:=by
 intro m
 induction m using Nat.strongRecOn with
 | _ m ih=>
  intro r h
  by_cases hm:m<10
  . rw[Nat.toDigits_of_lt_base hm]at h;have h1:=(tQ h).1;have:∀d:Nat,d<10->Nat.digitChar d='0'->d=0:=by decide
    exact this m hm h1
  . have Ig:m % 10<10:=GW m (by decide);have t:Nat.toDigits 10 (m / 10)++Nat.toDigits 10 (m % 10)=Nat.toDigits 10 (10 * (m / 10)+m % 10):=Nat.toDigits_append_toDigits (by decide) (by omega) Ig;rw[Nat.div_add_mod,h]at t;cases hd:Nat.toDigits 10 (m / 10) with
    | nil=>
     have:=ax7 10 (m / 10);rw[hd]at this;exact absurd this (by decide)
    | cons a r'=>
     rw[hd]at t;have ha:a='0':=(tQ t).1;subst ha;have:=ih (m / 10) (by omega) r' hd;omega
theorem Al{n:Int}(h0:0<=n):(iH n).cps.toList=(Nat.toDigits 10 n.toNat).map Char.toNat:=by
 obtain⟨m,rfl⟩:=Int.eq_ofNat_of_zero_le h0;exact PySem.W.KIN.signs_num m
theorem Ju{n:Int}(h0:0<=n):NumText.AllDigits (iH n).cps.toList:=by
 intro c hc;rw[Al h0]at hc;obtain⟨ch,kQ,e⟩:=cD.mp hc;have r:=digit_range (Nat.isDigit_of_mem_toDigits (by decide) (by decide) kQ);rw[←e];exact r
theorem aly{n:Int}(h0:0<=n):wW (iH n)=true:=by
 unfold wW;rw[jk];intro c hc;rw[Jq,RF,DJ];exact bN (Ju h0 c hc)
theorem RI{n:Int}(h0:0<=n):((NumText.digitsVal (iH n).cps.toList:Nat):Int)=n:=by
 rw[Al h0,PySem.W.KIN.val_back];omega
theorem RJ{n:Int}(h0:0<=n)(h1:n<=1000000000):1<=(iH n).length/\(iH n).length<=10:=by
 refine⟨?_,PySem.W.KT.len_num h0 (by omega)⟩;have e:(iH n).cps.toList.length=(iH n).length:=eT;rw[←e,Al h0,ao];exact ax7 10 _
theorem alz{n:Int}(h0:0<=n)(h1:n<=1000000000):wX (iH n)=some n:=by
 obtain⟨l1,l2⟩:=RJ h0 h1;unfold wX;rw[bN ⟨l1,l2⟩,aly h0,al (by rfl),RI h0,ai (by omega:¬1000000000<n)];rw[ai];rw[Jq,RB,gR,Ct,Ct,Al h0];rintro⟨h,ne⟩;refine ne (Ah ?_);rw[Al h0];cases hd:Nat.toDigits 10 n.toNat with
 | nil=>rw[hd]at h;cases h
 | cons a r=>
  rw[hd]at h;have h:a.toNat=48:=gz h;have ha:a='0':=by
   apply Char.ext;apply UInt32.toNat.inj;exact h
  rw[ha]at hd;have e0:=alx _ _ hd;rw[e0]at hd;have hd:['0']=a::r:=by rw[ha];exact hd
  rw[←hd];rfl
theorem fg.split{ms:List Int}(h:fg ms):Txt.split (jy ms) jw=ms.map iH:=by
 unfold jy;rw[RE];refine DH (fun z=>RH h.lo (List.map_eq_nil_iff.mp z)) fun p hp hc=>?_;obtain⟨n,hn,rfl⟩:=cD.mp hp;have:=Ju (h.rg n hn).1 _ hc;omega
theorem fg.good{ms:List Int}(h:fg ms):uK (jy ms)=true:=by
 unfold uK;rw[h.split,ao,bN h.hi,GU,jk];intro p hp;obtain⟨n,hn,rfl⟩:=cD.mp hp;rw[alz (h.rg n hn).1 (h.rg n hn).2];rfl
theorem fg.back{ms:List Int}(h:fg ms):rR (jy ms)=ms:=by
 unfold rR;rw[h.split,pA];exact(Og fun n hn=>RI (h.rg n hn).1).trans (List.map_id _)
theorem fg.signs{ms:List Int}(h:fg ms):∀c∈(jy ms).cps.toList,46<=c/\c<=57:=by
 intro c hc;unfold jy at hc;rw[RE]at hc
 rcases Ak hc with e | ⟨p,hp,hd⟩
 . omega
 . obtain⟨n,hn,rfl⟩:=cD.mp hp;have:=Ju (h.rg n hn).1 c hd;omega
theorem Jv(x:Str)(l u:Option Int):Txt.slice x l u=PySem.StrLaws.sliceText x l u:=rfl
theorem DO(x:Str)(c:Nat):Txt.slice (⟨#[c]⟩++x) (some 1) none=x:=by
 apply Ah;have e:(⟨#[c]⟩++x:Str).cps.toList=c::x.cps.toList:=by rw[mH];rfl
 have h:=PySem.StrLaws.sliceText_from (x:=⟨#[c]⟩++x) (i:=1) ⟨by decide,by rw[e,cg];omega⟩;rw[Jv,h,e];show(List.take _ x.cps.toList)=x.cps.toList;refine Ws ?_;rw[cg];omega
theorem uL{x:Str}{d:Nat}{r:List Nat}(e:x.cps.toList=d::r)(c:Nat):Txt.startswith x ⟨#[c]⟩=decide (d=c):=by
 rw[RB,e];exact Cr.mpr ⟨fun z=>gz z,fun z=>by rw[z];rfl⟩
theorem DP(x:Str):(eP++x).cps.toList=60::x.cps.toList:=by rw[oG,mH];rfl
theorem Am(x:Str):(eR++x).cps.toList=62::x.cps.toList:=by rw[pZ,mH];rfl
theorem alA{x:Str}(h:iY x):jx (eP++x)=true:=by
 unfold jx;have e:Txt.startswith (eP++x) eP=true:=by
  have:=uL (DP x) 60;rw[←oG]at this;rw[this];rfl
 rw[e,Wl,al rfl]
 conv=>lhs;arg 1;rw[oG,DO]
 exact h.line
theorem alB{x:Str}(h:iY x):jx (eR++x)=true:=by
 unfold jx;have e:Txt.startswith (eR++x) eR=true:=by
  have:=uL (Am x) 62;rw[←pZ]at this;rw[this];rfl
 rw[e,Bool.or_true,al rfl]
 conv=>lhs;arg 1;rw[pZ,DO]
 exact h.line
theorem alC(x:Str):gH (eP++x)=.les x:=by
 unfold gH;have e:Txt.startswith (eP++x) eP=true:=by
  have:=uL (DP x) 60;rw[←oG]at this;rw[this];rfl
 rw[al e]
 congr 1
 rw[oG,DO]
theorem alD(x:Str):gH (eR++x)=.mor x:=by
 unfold gH;have e:Txt.startswith (eR++x) eR=true:=by
  have:=uL (Am x) 62;rw[←pZ]at this;rw[this];rfl
 have e0:Txt.startswith (eR++x) eP=false:=by
  have:=uL (Am x) 60;rw[←oG]at this;rw[this];rfl
 rw[ai (by rw[e0];decide),al e]
 congr 1
 rw[pZ,DO]
theorem An{w:Str}{d:Nat}{r:List Nat}(hw:w.cps.toList=d::r)(RK:d≠60)(h62:d≠62){ws:Ls}(h:∀p∈w::ws,32∉p.cps.toList):Txt.split (Str.join spS (w::ws)) spS=w::ws/\Txt.startswith (Str.join spS (w::ws)) eP=false/\Txt.startswith (Str.join spS (w::ws)) eR=false:=by
 have hd:∃r',(Str.join spS (w::ws)).cps.toList=d::r':=by
  cases ws with
  | nil=>exact⟨r,hw⟩
  | cons v ws=>rw[rQ,oF,hw];exact⟨_,rfl⟩
 obtain⟨r',e⟩:=hd;refine⟨?_,?_,?_⟩
 . rw[rQ];exact DH (yR _ _) h
 . rw[oG,uL e 60];exact cI RK
 . rw[pZ,uL e 62];exact cI h62
theorem DQ{a b c:Str}(h1:32∉a.cps.toList)(h2:32∉b.cps.toList)(h3:32∉c.cps.toList):∀p∈[a,b,c],32∉p.cps.toList:=by
 intro p hp;simp only[aY,fq,ft]at hp
 rcases hp with rfl | rfl | rfl<;>assumption
theorem cC.no{x:Str}(h:cC x){c:Nat}(hc:c<97):c∉x.cps.toList:=fun z=>by have:=h.az c z;omega
theorem Jw{c:Nat}(hc:c<97):c∉fD.cps.toList:=by
 rw[DL];intro z;have z:c∈[105,110]:=z;simp at z;omega
theorem Jx{c:Nat}(hc:c<97):c∉fe.cps.toList:=by
 rw[DM];intro z;have z:c∈[99,104,111,111,115,101]:=z;simp at z;omega
theorem RL{c:Nat}(hc:c<97):c∉dB.cps.toList:=by
 rw[Jr];intro z;have z:c∈[111,119,110]:=z;simp at z;omega
theorem fg.no{ms:List Int}(h:fg ms){c:Nat}(hc:c<46):c∉(jy ms).cps.toList:=fun z=>by have:=h.signs c z;omega
theorem dW.no{x:Str}(h:dW x){c:Nat}(hc:c<47):c∉x.cps.toList:=fun z=>by have:=h.signs c z;omega
theorem alF:fD≠dB:=by decide +kernel
theorem alG:fe≠dB:=by decide +kernel
theorem DR:fe≠fD:=by decide +kernel
theorem Jy:dB≠fD:=by decide +kernel
theorem Jz:dB≠fe:=by decide +kernel
theorem alH{e:Str×List Int}(h1:cC e.1)(h2:fg e.2):jx (ie e)=true:=by
 obtain⟨a,b,c⟩:=An (w:=fD) (d:=105) (r:=[110]) (by rw[DL]) (by decide) (by decide) (DQ (Jw (by decide)) (h1.no (by decide)) (h2.no (by decide)));unfold jx ie;rw[b,c,tI,ai (by decide),a];dsimp only;rw[cI alF,h1.name,al rfl,h2.good];rfl
theorem alI{e:Str×List Int}(h1:cC e.1)(h2:fg e.2):gH (ie e)=.inn e.1 (jy e.2):=by
 obtain⟨a,b,c⟩:=An (w:=fD) (d:=105) (r:=[110]) (by rw[DL]) (by decide) (by decide) (DQ (Jw (by decide)) (h1.no (by decide)) (h2.no (by decide)));unfold gH ie;rw[b,c,a,ai (by decide),ai (by decide)];rfl
theorem alJ{e:Str×Str}(h1:cC e.1)(h2:cC e.2):jx (gJ e)=true:=by
 obtain⟨a,b,c⟩:=An (w:=fe) (d:=99) (r:=[104,111,111,115,101]) (by rw[DM]) (by decide) (by decide) (DQ (Jx (by decide)) (h1.no (by decide)) (h2.no (by decide)));unfold jx gJ;rw[b,c,tI,ai (by decide),a];dsimp only;rw[cI alG,h1.name,ai DR,bN rfl,h2.name];rfl
theorem alK{e:Str×Str}(h1:cC e.1)(h2:cC e.2):gH (gJ e)=.cho e.1 e.2:=by
 obtain⟨a,b,c⟩:=An (w:=fe) (d:=99) (r:=[104,111,111,115,101]) (by rw[DM]) (by decide) (by decide) (DQ (Jx (by decide)) (h1.no (by decide)) (h2.no (by decide)));unfold gH gJ;rw[b,c,a,ai (by decide),ai (by decide)];rw[ai (show ¬[fe,e.1,e.2].getD 0 Str.empty=fD from DR),al (show [fe,e.1,e.2].getD 0 Str.empty=fe from rfl)];rfl
theorem RM{p:Str}(h:dW p):Txt.split (Str.join spS [dB,p]) spS=[dB,p]/\Txt.startswith (Str.join spS [dB,p]) eP=false/\Txt.startswith (Str.join spS [dB,p]) eR=false:=
 An (w:=dB) (d:=111) (r:=[119,110]) (by rw[Jr]) (by decide) (by decide) fun q hq=>by
  simp only[aY,fq,ft]at hq
  rcases hq with rfl | rfl
  . exact RL (by decide)
  . exact h.no (by decide)
theorem alL{p:Str}(h:dW p):jx (Str.join spS [dB,p])=true:=by
 obtain⟨a,b,c⟩:=RM h;unfold jx;rw[b,c,tI,ai (by decide),a];dsimp only;rw[bN rfl,h.path];rfl
theorem alM{p:Str}(h:dW p):gH (Str.join spS [dB,p])=.own p:=by
 obtain⟨a,b,c⟩:=RM h;unfold gH;rw[b,c,a,ai (by decide),ai (by decide)];rw[ai (show ¬[dB,p].getD 0 Str.empty=fD from Jy),ai (show ¬[dB,p].getD 0 Str.empty=fe from Jz)];rfl
structure wY(ch:List (Str×List Int))(cs:List (Str×Str))(ow:List (Str×(Ls×Ls))):Prop where
 ch:∀e∈ch,cC e.1/\fg e.2
 cs:∀e∈cs,cC e.1/\cC e.2
 ow:∀e∈ow,dW e.1/\(∀x∈e.2.1,iY x)/\∀x∈e.2.2,iY x
theorem JA{ch:List (Str×List Int)}{cs:List (Str×Str)}{ow:List (Str×(Ls×Ls))}(ok:wY ch cs ow){r:Str}(h:r∈ff ch cs ow) :
 (∃e:Str×List Int,cC e.1/\fg e.2/\r=ie e)\/(∃e:Str×Str,cC e.1/\cC e.2/\r=gJ e)\/(∃p,dW p/\r=Str.join spS [dB,p])\/(∃x,iY x/\r=eP++x)\/∃x,iY x/\r=eR++x:=by
 unfold ff at h
 rcases bS.mp h with h | h
 . rcases bS.mp h with h | h
   . obtain⟨e,he,rfl⟩:=cD.mp h;exact .inl ⟨e,(ok.ch e he).1,(ok.ch e he).2,rfl⟩
   . obtain⟨e,he,rfl⟩:=cD.mp h;exact .inr (.inl ⟨e,(ok.cs e he).1,(ok.cs e he).2,rfl⟩)
 . obtain⟨e,he,hr⟩:=yS.mp h;obtain⟨h1,h2,h3⟩:=ok.ow e he;unfold dM at hr
   rcases bS.mp hr with hr | hr
   . rcases bS.mp hr with hr | hr
     . exact .inr (.inr (.inl ⟨e.1,h1,bw.mp hr⟩))
     . obtain⟨x,hx,rfl⟩:=cD.mp hr;exact .inr (.inr (.inr (.inl ⟨x,h2 x hx,rfl⟩)))
   . obtain⟨x,hx,rfl⟩:=cD.mp hr;exact .inr (.inr (.inr (.inr ⟨x,h3 x hx,rfl⟩)))
theorem alN{ch:List (Str×List Int)}{cs:List (Str×Str)}{ow:List (Str×(Ls×Ls))}(ok:wY ch cs ow):∀r∈ff ch cs ow,jx r=true:=fun r h=>by
 rcases JA ok h with⟨e,a,b,rfl⟩ | ⟨e,a,b,rfl⟩ | ⟨p,a,rfl⟩ | ⟨x,a,rfl⟩ | ⟨x,a,rfl⟩
 . exact alH a b
 . exact alJ a b
 . exact alL a
 . exact alA a
 . exact alB a
theorem RN{a b c:Str}{d:Nat}(h:d∈(Str.join spS [a,b,c]).cps.toList):d=32\/d∈a.cps.toList\/d∈b.cps.toList\/d∈c.cps.toList:=by
 rw[rQ]at h
 rcases Ak h with e | ⟨p,hp,hd⟩
 . exact .inl e
 . simp only[aY,fq,ft]at hp
   rcases hp with rfl | rfl | rfl
   . exact .inr (.inl hd)
   . exact .inr (.inr (.inl hd))
   . exact .inr (.inr (.inr hd))
theorem JB{ch:List (Str×List Int)}{cs:List (Str×Str)}{ow:List (Str×(Ls×Ls))}(ok:wY ch cs ow):∀r∈ff ch cs ow,10∉r.cps.toList/\r≠Str.empty:=fun r h=>by
 rcases JA ok h with⟨e,a,b,rfl⟩ | ⟨e,a,b,rfl⟩ | ⟨p,a,rfl⟩ | ⟨x,a,rfl⟩ | ⟨x,a,rfl⟩
 . refine⟨fun z=>?_,fun z=>?_⟩
   . rcases RN z with z | z | z | z
     . omega
     . exact Jw (by decide) z
     . exact a.no (by decide) z
     . exact b.no (by decide) z
   . have z:(ie e).cps.toList=[]:=by rw[z];rfl
     unfold ie at z;rw[rQ,oF,DL]at z;cases z
 . refine⟨fun z=>?_,fun z=>?_⟩
   . rcases RN z with z | z | z | z
     . omega
     . exact Jx (by decide) z
     . exact a.no (by decide) z
     . exact b.no (by decide) z
   . have z:(gJ e).cps.toList=[]:=by rw[z];rfl
     unfold gJ at z;rw[rQ,oF,DM]at z;cases z
 . refine⟨fun z=>?_,fun z=>?_⟩
   . rw[rQ]at z
     rcases Ak z with z | ⟨q,hq,hd⟩
     . omega
     . simp only[aY,fq,ft]at hq
       rcases hq with rfl | rfl
       . exact RL (by decide) hd
       . exact a.no (by decide) hd
   . have z:(Str.join spS [dB,p]).cps.toList=[]:=by rw[z];rfl
     rw[rQ,oF,Jr]at z;cases z
 . refine⟨fun z=>?_,fun z=>?_⟩
   . rw[DP]at z
     rcases aY.mp z with z | z
     . omega
     . have:=a.sg _ z;omega
   . have z:(eP++x).cps.toList=[]:=by rw[z];rfl
     rw[DP]at z;cases z
 . refine⟨fun z=>?_,fun z=>?_⟩
   . rw[Am]at z
     rcases aY.mp z with z | z
     . omega
     . have:=a.sg _ z;omega
   . have z:(eR++x).cps.toList=[]:=by rw[z];rfl
     rw[Am]at z;cases z
theorem JC{rows:Ls}(h:∀r∈rows,10∉r.cps.toList/\r≠Str.empty):rowsOf (Str.join j8 rows)=rows:=by
 unfold rowsOf;cases rows with
 | nil=>exact al rfl
 | cons r rs=>
  have ne:Str.join j8 (r::rs)≠Str.empty:=fun z=>by
   have hr:=(h r bK).2;have z:(Str.join j8 (r::rs)).cps.toList=[]:=by rw[z];rfl
   cases rs with
   | nil=>exact hr (Ah (by rw[show r.cps.toList=[] from z];rfl))
   | cons q qs=>
    rw[Jo,oF]at z;have:=eN List.length z;rw[bj,cg]at this;simp at this
  rw[ai ne,Jo];exact DH (yR _ _) fun p hp=>(h p hp).1
theorem Ao{β:Type}{tr:List (Str×β)}{x:Str}{y:β}(h:x∉tr.map (·.1)):bI tr x y=tr++[(x,y)]:=by
 unfold bI;rw[ai (fun z=>h (rN.mp z))]
theorem RO{β:Type}{tr:List (Str×β)}{x:Str}{y z:β}(h:x∉tr.map (·.1)):bI (tr++[(x,y)]) x z=tr++[(x,z)]:=by
 unfold bI;rw[al (rN.mpr (by rw[dz];exact eF _ bK)),dz]
 congr 1
 . refine(Og fun f hf=>?_).trans (List.map_id _);rw[ai (fun e:f.1=x=>h (by rw[←e];exact gf hf))];rfl
 . show [if x=x then(x,z) else(x,y)]=_;rw[al rfl]
theorem RP:∀(es:List (Str×List Int)) (s:Nt),(∀e∈es,cC e.1/\fg e.2)->((s.ch++es).map (·.1)).Nodup->(es.map ie).foldl Nt.step s={ s with ch:=s.ch++es }
 | [],s,_,_=>by rw[lX];rfl
 | e::es,s,ok,nd=>by
  have h1:=ok e bK;have e1:Nt.step s (ie e)={ s with ch:=s.ch++[e] }:=by
   unfold Nt.step;rw[alI h1.1 h1.2];dsimp only;rw[h1.2.back,Ao];rw[dz,bL]at nd;intro z;exact(tN.mp nd).2.2 _ z _ bK rfl
  rw[bL,l8,e1];have e2:=RP es { s with ch:=s.ch++[e] } (fun x hx=>ok x (bR _ hx)) (by show(((s.ch++[e])++es).map (·.1)).Nodup;rw[kN];exact nd);rw[e2];show { s with ch:=s.ch++[e]++es } = _;rw[kN];rfl
theorem RQ:∀(es:List (Str×Str)) (s:Nt),(∀e∈es,cC e.1/\cC e.2)->((s.cs++es).map (·.1)).Nodup->(es.map gJ).foldl Nt.step s={ s with cs:=s.cs++es }
 | [],s,_,_=>by rw[lX];rfl
 | e::es,s,ok,nd=>by
  have h1:=ok e bK;have e1:Nt.step s (gJ e)={ s with cs:=s.cs++[e] }:=by
   unfold Nt.step;rw[alK h1.1 h1.2];dsimp only;rw[Ao];rw[dz,bL]at nd;intro z;exact(tN.mp nd).2.2 _ z _ bK rfl
  rw[bL,l8,e1];have e2:=RQ es { s with cs:=s.cs++[e] } (fun x hx=>ok x (bR _ hx)) (by show(((s.cs++[e])++es).map (·.1)).Nodup;rw[kN];exact nd);rw[e2];show { s with cs:=s.cs++[e]++es } = _;rw[kN];rfl
theorem RR(p:Str)(tr:List (Str×(Ls×Ls)))(h:p∉tr.map (·.1))(m:Ls):∀(xs b:Ls) (s:Nt),(xs.map (eP ++ ·)).foldl Nt.step { s with ow:=tr++[(p,(b,m))],ck:=some p,b:=b,m:=m } = { s with ow:=tr++[(p,(b++xs,m))],ck:=some p,b:=b++xs,m:=m }
 | [],b,s=>by rw[lX];rfl
 | x::xs,b,s=>by
  have e1:Nt.step { s with ow:=tr++[(p,(b,m))],ck:=some p,b:=b,m:=m } (eP++x)={ s with ow:=tr++[(p,(b++[x],m))],ck:=some p,b:=b++[x],m:=m }:=by
   unfold Nt.step;rw[alC];dsimp only[ic];rw[RO h]
  rw[bL,l8,e1,RR p tr h m xs (b++[x]) s,kN];rfl
theorem RS(p:Str)(tr:List (Str×(Ls×Ls)))(h:p∉tr.map (·.1))(b:Ls):∀(xs m:Ls) (s:Nt),(xs.map (eR ++ ·)).foldl Nt.step { s with ow:=tr++[(p,(b,m))],ck:=some p,b:=b,m:=m } = { s with ow:=tr++[(p,(b,m++xs))],ck:=some p,b:=b,m:=m++xs }
 | [],m,s=>by rw[lX];rfl
 | x::xs,m,s=>by
  have e1:Nt.step { s with ow:=tr++[(p,(b,m))],ck:=some p,b:=b,m:=m } (eR++x)={ s with ow:=tr++[(p,(b,m++[x]))],ck:=some p,b:=b,m:=m++[x] }:=by
   unfold Nt.step;rw[alD];dsimp only[ic];rw[RO h]
  rw[bL,l8,e1,RS p tr h b xs (m++[x]) s,kN];rfl
theorem RT:∀(es:List (Str×(Ls×Ls))) (s:Nt),(∀e∈es,dW e.1)->((s.ow++es).map (·.1)).Nodup->∃ck b m,(es.flatMap dM).foldl Nt.step s={ s with ow:=s.ow++es,ck:=ck,b:=b,m:=m }
 | [],s,_,_=>⟨s.ck,s.b,s.m,by rw[lX];rfl⟩
 | e::es,s,ok,nd=>by
  obtain⟨p,b,m⟩:=e;have h1:dW p:=ok _ bK;have hp:p∉s.ow.map (·.1):=fun z=>by
   rw[dz,bL]at nd;exact(tN.mp nd).2.2 _ z _ bK rfl
  have e1:(dM (p,(b,m))).foldl Nt.step s={ s with ow:=s.ow++[(p,(b,m))],ck:=some p,b:=b,m:=m }:=by
   unfold dM;rw[qT,qT];have e0:[Str.join spS [dB,p]].foldl Nt.step s={ s with ow:=s.ow++[(p,([],[]))],ck:=some p,b:=[],m:=[] }:=by
    show Nt.step s (Str.join spS [dB,p])=_;unfold Nt.step;rw[alM h1];dsimp only;rw[Ao hp]
   rw[e0,RR p s.ow hp [] b [] s,RS p s.ow hp _ m [] s];rfl
  rw[GZ,qT,e1];obtain⟨ck,b',m',e2⟩:=RT es { s with ow:=s.ow++[(p,(b,m))],ck:=some p,b:=b,m:=m } (fun x hx=>ok x (bR _ hx)) (by show(((s.ow++[(p,(b,m))])++es).map (·.1)).Nodup;rw[kN];exact nd);refine⟨ck,b',m',?_⟩;rw[e2];show { s with ow:=s.ow++[(p,(b,m))]++es,ck:=ck,b:=b',m:=m' } = _;rw[kN];rfl
theorem JD{ch:List (Str×List Int)}{cs:List (Str×Str)}{ow:List (Str×(Ls×Ls))}(ok:wY ch cs ow)(n1:(ch.map (·.1)).Nodup)(n2:(cs.map (·.1)).Nodup)(n3:(ow.map (·.1)).Nodup):∃ck b m,fW (ff ch cs ow)=⟨ch,cs,ow,ck,b,m⟩:=by
 unfold fW ff;rw[qT,qT,RP ch {} ok.ch n1];show∃ck b m,List.foldl Nt.step (List.foldl Nt.step ({ ch:=ch }:Nt) (List.map gJ cs)) (List.flatMap dM ow)=_;rw[RQ cs { ch:=ch } ok.cs n2];exact RT ow { ch:=ch,cs:=cs } (fun e he=>(ok.ow e he).1) n3
theorem JE{α β:Type}{f:α->β}{ks ls:List β}(p:ks.Perm ls):∀{l:List α},ls=l.map f->∃l':List α,l'.Perm l/\l'.map f=ks:=by
 induction p with
 | nil=>
  intro l e;cases l with
  | nil=>exact⟨[],.nil,rfl⟩
  | cons a l=>cases e
 | cons x p ih=>
  intro l e;cases l with
  | nil=>cases e
  | cons a l=>
   rw[bL]at e;obtain⟨e1,e2⟩:=tQ e;obtain⟨l',h1,h2⟩:=ih e2;exact⟨a::l',h1.cons a,by rw[bL,h2,e1]⟩
 | swap x y r=>
  intro l e;cases l with
  | nil=>cases e
  | cons a l=>
   cases l with
   | nil=>cases e
   | cons b l=>
    rw[bL,bL]at e;obtain⟨e1,e2⟩:=tQ e;obtain⟨e2,e3⟩:=tQ e2;exact⟨b::a::l,.swap a b l,by rw[bL,bL,←e1,←e2,←e3]⟩
 | trans p q ih1 ih2=>
  intro l e;obtain⟨l1,h1,h2⟩:=ih2 e;obtain⟨l2,h3,h4⟩:=ih1 h2.symm;exact⟨l2,h3.trans h1,h4⟩
structure dN{β:Type}(a b:List (Str×β)):Prop where
 pm:b.Perm a
 so:sortedS (b.map (·.1))=true
theorem dN.eq{β:Type}{a b c:List (Str×β)}(nd:(a.map (·.1)).Nodup)(h1:dN a b)(h2:dN a c):b=c:=by
 have pm:b.Perm c:=h1.pm.trans h2.pm.symm;have e:b.map (·.1)=c.map (·.1):=alq (pm.map _) h1.so h2.so;have rS:(b.map (·.1)).Nodup:=(h1.pm.map _).nodup_iff.mpr nd;have hl:=pm.length_eq;refine List.ext_getElem hl fun i hi hj=>?_;have hm:b[i]∈c:=pm.mem_iff.mp (Ob hi);have e1:b[i].1=c[i].1:=by
  have:(b.map (·.1))[i]?=(c.map (·.1))[i]?:=by rw[e]
  rw[dH,dH,jl hi,jl hj]at this;exact gz this
 have hc:c[i]∈c:=Ob hj;have ndc:(c.map (·.1)).Nodup:=by rw[←e];exact rS
 have:b[i].2=c[i].2:=oE ndc (x:=b[i].1) hm (by rw[e1];exact hc);exact Prod.ext e1 this
theorem dN.self{β:Type}{a b:List (Str×β)}(h:dN a b):dN b b:=⟨.refl _,h.so⟩
end K63
namespace K63
open PySem L2 PySem.Spec
variable {P:Program}{w:World}{K:Fg}{mg:Mv}{base:Heap}
def ba(i:Nat):Stmt:=PySem.Challenge.pw_parcelmend_k63_a_deed_that_falls.main.body.getD i (.Pass ⟨0,0,0,0⟩)
abbrev rT:Stmt:=lj (ba 20) 0
abbrev uM:Stmt:=lj (ba 21) 0
abbrev p9:Stmt:=lj (ba 21) 3
abbrev qa:Stmt:=lj (ba 32) 0
abbrev uN:Stmt:=lj (ba 59) 0
abbrev rV:Stmt:=lj (ba 59) 1
abbrev qb:Stmt:=lj (ba 59) 2
abbrev rW:Stmt:=lj (ba 59) 3
abbrev rX:Stmt:=lj (ba 59) 4
abbrev rY:Stmt:=lj (ba 59) 5
abbrev rZ:Stmt:=lj (ba 59) 6
abbrev qe:Stmt:=lj (ba 59) 7
abbrev DT:Stmt:=ba 2
abbrev DU:Stmt:=ba 3
abbrev Ap:Stmt:=ba 4
abbrev DW:Stmt:=ba 5
abbrev DX:Stmt:=ba 6
abbrev DY:Stmt:=ba 7
abbrev DZ:Stmt:=ba 8
abbrev D0:Stmt:=ba 14
abbrev D3:Stmt:=ba 15
abbrev uO:Stmt:=ba 17
abbrev Aq:Stmt:=ba 23
abbrev D8:Stmt:=ba 24
abbrev D9:Stmt:=ba 25
abbrev Ea:Stmt:=ba 27
abbrev Eb:Stmt:=ba 28
abbrev Ec:Stmt:=ba 29
abbrev Ar:Stmt:=ba 30
abbrev Ed:Stmt:=ba 33
abbrev qf:Stmt:=ba 34
abbrev Ee:Stmt:=ba 35
abbrev Ef:Stmt:=ba 36
abbrev Eg:Stmt:=ba 37
abbrev wZ:Stmt:=ba 38
abbrev xa:Stmt:=ba 40
abbrev Eh:Stmt:=ba 41
abbrev Ei:Stmt:=ba 42
abbrev Ej:Stmt:=ba 43
abbrev Ek:Stmt:=ba 45
abbrev xb:Stmt:=ba 46
abbrev El:Stmt:=ba 47
abbrev Em:Stmt:=ba 48
abbrev xf:Stmt:=ba 50
abbrev xg:Stmt:=ba 51
abbrev En:Stmt:=ba 52
abbrev uP:Stmt:=ba 53
abbrev As:Stmt:=ba 54
abbrev Au:Stmt:=ba 55
abbrev Aw:Stmt:=ba 56
abbrev Eo:Stmt:=ba 57
abbrev Ax:Stmt:=ba 61
abbrev r9:Stmt:=ba 62
abbrev Ep:Stmt:=ba 63
abbrev Es:Stmt:=ba 64
abbrev Ay:Stmt:=ba 65
abbrev Az:Stmt:=ba 66
abbrev Et:Stmt:=ba 67
abbrev xh:Stmt:=ba 68
abbrev Eu:Stmt:=ba 69
abbrev Ev:Stmt:=ba 70
abbrev Ew:Stmt:=ba 71
abbrev Ex:Stmt:=ba 72
abbrev Ey:Stmt:=ba 73
abbrev Ez:Stmt:=ba 74
abbrev uQ:Stmt:=ba 75
structure b9(mg:Mv):Prop where
 range:mg "range"=none
 len:mg "len"=none
 min:mg "min"=none
 list:mg "list"=none
 dict:mg "dict"=none
 set:mg "set"=none
 sorted:mg "sorted"=none
 isinstance:mg "isinstance"=none
 str:mg "str"=none
 tuple:mg "tuple"=none
 all:mg "all"=none
 enumerate:mg "enumerate"=none
 int:mg "int"=none
theorem EA{sep:Str}:∀{ps:Ls}{d:Nat},d∈(Str.join sep ps).cps.toList->d∈sep.cps.toList\/∃p∈ps,d∈p.cps.toList
 | [],d,h=>by
  have h:d∈([]:List Nat):=h;cases h
 | [p],d,h=>.inr ⟨p,bK,h⟩
 | p::q::r,d,h=>by
  have h:d∈(p++sep++Str.join sep (q::r)).cps.toList:=h;rw[mH,mH]at h
  rcases bS.mp h with h | h
  . rcases bS.mp h with h | h
    . exact .inr ⟨p,bK,h⟩
    . exact .inl h
  . rcases EA h with h | ⟨z,hz,hd⟩
    . exact .inl h
    . exact .inr ⟨z,bR _ hz,hd⟩
theorem RU{x:Str}{l u:Option Int}{c:Nat}(h:c∈(Txt.slice x l u).cps.toList):c∈x.cps.toList:=by
 unfold Txt.slice at h;split at h
 . exact h
 . have jT:c∈(Builtin.Str.strSliceIndices l u 1 x.length).filterMap (x.cps[·]?):=by simpa using h
   obtain⟨i,_,hi⟩:=NO.mp jT;have:=ax5 hi;simpa using this
theorem alR(x:Str)(k:Int)(h0:0<=k)(h1:k<=x.length):(Txt.slice x none (some k)).length+(Txt.slice x (some k) none).length=x.length:=by
 have hl:x.cps.toList.length=x.length:=eT;rw[Jv,Jv,StrLaws.sliceText_to (x:=x) (j:=k) ⟨h0,by omega⟩,StrLaws.sliceText_from (x:=x) (i:=k) ⟨h0,by omega⟩];show((List.drop 0 x.cps.toList).take (k - 0).toNat).toArray.size+((List.drop k.toNat x.cps.toList).take ((x.cps.toList.length:Int) - k).toNat).toArray.size=x.length;rw[fo,fo,eG,eG,nw,nw];omega
theorem EB{c d:Nat}(h:d∈(⟨#[c]⟩:Str).cps.toList):d=c:=bw.mp h
theorem RV{x:Str}{P:Nat->Prop}(ok:∀c∈x.cps.toList,P c){r:Int}(h0:0<=r)(h1:r<x.length):∃c,cy x.cps.toList r=some c/\P c:=by
 obtain⟨n,rfl⟩:∃n:Nat,r=n:=⟨r.toNat,by omega⟩;have hn:n<x.cps.toList.length:=by
  have:x.cps.toList.length=x.length:=by simp[Str.length]
  omega
 exact⟨_,HB (jl hn),ok _ (Ob hn)⟩
def xi:Str:=az4
theorem alS:∀c∈xi.cps.toList,97<=c/\c<=122:=by decide +kernel
theorem AA:xi.length=26:=by decide +kernel
theorem EC(n:Int):∃c,cy xi.cps.toList (n % 26)=some c/\(97<=c/\c<=122):=RV alS (by omega) (by rw[AA];omega)
def sd : Str := " !\"#$&'()*+,-./0123456789:;<=>?@ABCDEFGHIJKLMNOPQRSTUVWXYZ[\\]^_`"
def se:Str:="abcdefghijklmnopqrstuvwxyz{|}~"
theorem alT:∀c∈(sd++se).cps.toList,32<=c/\c<=126/\c≠37:=by decide +kernel
theorem xj:(sd++se).length=94:=by decide +kernel
def xk:Sp:=fun vs H Q _=>∃c k:Int,vs=[.int c,.int k]/\∀n:Int,Q (.int n) H
theorem RW:aP [azv,azB,azw] [azv,azB] (aA r9):=aZ
theorem AB(F:bB K az7 r9 f fd):aj P w K mg base ak 1 f fd [azv,azB] xk:=by
 refine F.okL RW ?_
 . intro aw A outer s H vs Q E hr h xX dX;obtain⟨c,k,rfl,q⟩:=h;refine⟨_,(am (aJ (i:=2) RW.nd rfl (Or.inl rfl) (aF cF (aF wy (aF fc (aF fc (aF cF (pv 0) aq) (aF wy aq (pv 1))) aq) aq) aq))
    (av (aV (aF cF (aF wy (pv 2) (aF fc (aF ix (pv 2) aq) aq)) aq)))),?_⟩
   refine mC ?_;intro dD sS dP;refine⟨_,rfl,_,_,rfl,rfl,(by show(0:Int)<2147483647;decide),_,rfl,_,_,rfl,rfl,.inl ⟨by omega,by omega⟩,_,_,rfl,rfl,_,_,rfl,rfl,_,_,rfl,rfl,.inr ⟨by omega,by omega⟩,_,_,rfl,rfl,(by show(0:Int)<2147483647;decide),?_⟩;refine⟨_,rfl,_,rfl,_,_,rfl,rfl,⟨by omega,by omega⟩,_,_,rfl,rfl,_,_,rfl,rfl,.inl ⟨by omega,by omega⟩,_,_,rfl,rfl,(by show(0:Int)<2147483647;decide),?_⟩;exact q _
def JF(K:Fg):Sp:=fun vs H Q _=>∃(a:Addr) (k:Int) (ns:List Int),vs=[.ref a,.int k]/\0<=k/\ae K H a (ns.map V.int)/\∀n:Int,Q (.int n) H
theorem alU:aP [azG,azB] [azG,azB] (aA Ax):=aZ
theorem RX(F:bB K aAv Ax f fd)(B:b9 mg):aj P w K mg base ak 1 f fd [azG,azB] (JF K):=by
 refine F.okL alU ?_
 . intro aw A outer s H vs Q E hr h xX dX;obtain⟨a,k,ns,rfl,k0,hA,q⟩:=h;refine⟨_,(am (cO (bY zc (pv 1) (dJ gD (by rfl) B.len gA (aa (pv 0) ac)) (bT _))
    (av (aV (bJ fR (pv 0) (pv 1) (fun _ _=>rfl)))) dA)
    (av (aV aq))),?_⟩
   refine mC ?_;intro dD sS dP;refine⟨_,rfl,_,rfl,a,_,rfl,.inl hA,_,_,rfl,rfl,_,rfl,?_⟩;refine bA (fun h=>?_) (fun h=>?_)
   . have h':=cT h;rw[ao]at h';obtain⟨z,hz,_⟩:=PQ (ns:=ns) (r:=k) k0 h';exact⟨_,rfl,_,rfl,a,_,_,_,rfl,rfl,hA,hz,q z⟩
   . exact q 0
def RY:Sp:=fun vs H Q _=>∃c p:Int,vs=[.int c,.int p]/\∀x H',cC x->ag H H'->Q (.str x) H'
theorem ED:aP [azv,aAj,azZ,"_law_body","_law_at"] [azv,aAj] (aA Ep):=aZ
theorem alV(F:bB K "_law_name" Ep f fd)(B:b9 mg):aj P w K mg base ak 1 f fd [azv,aAj] RY:=by
 refine F.okL ED ?_
 . intro aw A outer s H vs Q E hr h xX dX;obtain⟨c,p,rfl,q⟩:=h;refine⟨_,(am (aJ (i:=2) ED.nd rfl (Or.inr rfl) bV)
    (C1 (fun σ H2=>∃x:Str,σ=[some (.int c),some (.int p),some (.str xi),some (.str x),none]/\ag H H2/\(∀c∈x.cps.toList,97<=c/\c<=122)/\x.length<=7) (aJ (i:=3) ED.nd rfl (Or.inl rfl) (dj ny yT yU wJ bV (aa (gF [azB] [azZ,azv] [2,0] eA rfl (nK rfl B.range (aa (aF cF (aF ix (pv 0) aq) aq) ac)) (fun _ _ _ _=>(bc (i:=0) (show List.Nodup ([azB,azZ,azv]:Ls) by decide +kernel) rfl (Or.inl rfl))) (fun _ _ _ _=>iB) (fun _ _ _ _=>(bJ zn (pv 1) (aF cF (aF ix (pv 2) (aF fc aq (aF wy aq (pv 0)))) aq) (fun _ _=>rfl)))) ac)))
    (am (aJ (i:=4) ED.nd rfl (Or.inl rfl) (aF cF (aF ix (pv 0) aq) (aF fc (dJ Pk (by rfl) B.len gA (aa (pv 3) ac)) aq)))
    (av (aV (aF zf (aF zf (nU CZ (pv 3) ri (lg (pv 4))) (bJ zn (pv 2) (aF cF (aF fc (pv 0) (pv 1)) aq) (fun _ _=>rfl))) (nU CZ (pv 3) (lg (pv 4)) ri))))))),?_⟩
   refine mC ?_;intro dD sS dP;refine⟨?_,?_⟩
   . refine⟨rfl,_,rfl,_,_,rfl,rfl,⟨by omega,by omega⟩,_,_,rfl,rfl,(by show(0:Int)<8;decide),c / 3 % 8,rfl,by omega,by omega,?_⟩;refine zA (σ0:=[none,some (.str xi),some (.int c)]) (fun σ=>∃v,σ=[v,some (.str xi),some (.int c)]) (fun i ys _=>∃xs:Ls,ys=xs.map V.str/\xs.length=i/\∀x∈xs,(∀c∈x.cps.toList,97<=c/\c<=122)/\x.length<=1) ⟨_,rfl⟩ (fun _ _=>⟨[],rfl,rfl,fun _ h=>nomatch h⟩) ?_ ?_
     . intro D i ys σ H2 k hD hi eX hd hs gt hk;refine bg ?_;intro tT;obtain⟨v,rfl⟩:=eX;obtain⟨xs,rfl,hx,hl⟩:=gt;obtain⟨z,hz,zb⟩:=EC (c / (16+5 * (0+(i:Int))));refine⟨_,rfl,_,rfl,_,rfl,_,_,rfl,rfl,.inl ⟨by omega,by omega⟩,_,_,rfl,rfl,_,_,rfl,rfl,⟨by omega,by omega⟩,_,_,rfl,rfl,(by show(0:Int)<26;decide),_,_,z,rfl,rfl,jZ (by rw[AA];decide),hz,?_⟩;refine hk _ _ _ ⟨_,rfl⟩ (ag.refl _) (bZ (by rw[ao];omega)) ⟨xs++[_],uv xs _,by rw[bj,hx];rfl,fun y hy=>?_⟩
       rcases bS.mp hy with hy | hy
       . exact hl y hy
       . rw[bw.mp hy];exact⟨fun d hd=>by rw[EB hd];exact zb,Cc (pO z)⟩
     . intro D ys H2 hD hd hs gu;refine bg ?_;intro tT;obtain⟨xs,rfl,hx,hl⟩:=gu;have alW:=zD (b:=1) fun y hy=>(hl y hy).2;have e0:(Str.ofString "").length=0:=by decide +kernel
       refine⟨_,D,xs,rfl,rfl,ae.of hd,by rw[e0];omega,?_⟩;refine⟨_,rfl,hs,fun d hd=>?_,?_⟩
       . rw[show Txt.join (Str.ofString "") xs=Str.join (Str.ofString "") xs from Ck _ _]at hd
         rcases EA hd with hd | ⟨y,hy,hd⟩
         . cases hd
         . exact(hl y hy).1 d hd
       refine cu C6 ?_;rw[e0];omega
   . intro σ' H' qg;refine bg ?_;intro tT;obtain⟨x,rfl,s1,xt,x8⟩:=qg;refine⟨_,rfl,_,_,rfl,rfl,⟨by omega,by omega⟩,_,rfl,_,rfl,jZ (by omega),_,_,rfl,rfl,_,_,rfl,rfl,(by show(0:Int)<(x.length:Int)+1;omega),?_⟩;obtain⟨z,hz,zb⟩:=EC (c+p);have l1:=Txt.slice_le x none (some (c / 7 % ((x.length:Int)+1)));have l2:=Txt.slice_le x (some (c / 7 % ((x.length:Int)+1))) none;have l3:(⟨#[z]⟩:Str).length=1:=pO z;refine⟨_,rfl,_,rfl,_,rfl,_,rfl,jZ (by omega),_,rfl,_,rfl,_,rfl,_,_,rfl,rfl,_,_,rfl,rfl,(by show(0:Int)<26;decide),_,_,z,rfl,rfl,jZ (by rw[AA];decide),hz,_,_,rfl,rfl,fit (by omega) (by omega),_,rfl,_,rfl,_,rfl,_,rfl,jZ (by omega),_,_,rfl,rfl,fit (by rw[jY];omega) (by omega),?_⟩;have l4:=alR x (c / 7 % ((x.length:Int)+1)) (yO _ (by omega)) (by have:=Co (c / 7) (show(0:Int)<(x.length:Int)+1 by omega);omega);refine q _ _ ⟨?_,?_,fun d hd=>?_⟩ s1
     . rw[jY,jY];omega
     . rw[jY,jY];omega
     . rw[mH,mH]at hd
       rcases bS.mp hd with hd | hd
       . rcases bS.mp hd with hd | hd
         . exact xt d (RU hd)
         . rw[EB hd];exact zb
       . exact xt d (RU hd)
def RZ:Sp:=fun vs H Q _=>∃c:Int,vs=[.int c]/\∀x H',iY x->ag H H'->Q (.str x) H'
theorem EE:aP [azw,azZ,"_law_many"] [azw] (aA Es):=aZ
theorem alX(F:bB K "_law_line" Es f fd)(B:b9 mg):aj P w K mg base ak 1 f fd [azw] RZ:=by
 refine F.okL EE ?_
 . intro aw A outer s H vs Q E hr h xX dX;obtain⟨c,rfl,q⟩:=h;refine⟨_,(am (aJ (i:=1) EE.nd rfl (Or.inr rfl) bV)
    (am (aJ (i:=1) EE.nd rfl (Or.inr rfl) (aF zf (pv 1) bV))
    (am (aJ (i:=2) EE.nd rfl (Or.inl rfl) (aF cF (pv 0) aq))
    (av (aV (dj ny yT yU wJ bV (aa (gF [azB] [azZ,azw] [1,0] eA rfl (nK rfl B.range (aa (pv 2) ac)) (fun _ _ _ _=>(bc (i:=0) (show List.Nodup ([azB,azZ,azw]:Ls) by decide +kernel) rfl (Or.inl rfl))) (fun _ _ _ _=>iB) (fun _ _ _ _=>(bJ zn (pv 1) (aF cF (aF ix (pv 2) (aF fc aq (aF wy aq (pv 0)))) (dJ Pk (by rfl) B.len gA (aa (pv 1) ac))) (fun _ _=>rfl)))) ac))))))),?_⟩
   refine j6 ?_;intro dD sS oH fE dP;refine⟨_,rfl,_,_,rfl,rfl,(by show sd.length+se.length<=sizeLine;rw[←jY,xj];decide),?_⟩;refine⟨_,rfl,_,_,rfl,rfl,(by show(0:Int)<5;decide),?_⟩;refine⟨rfl,_,rfl,c % 5,rfl,by omega,by omega,?_⟩;have e1:∀i:Nat,∃z,cy (sd++se).cps.toList (c / (5+11 * (0+(i:Int))) % ((sd++se).length:Int))=some z/\(32<=z/\z<=126/\z≠37):=fun i=>RV alT (yO _ (by rw[xj];decide)) (Co _ (by rw[xj];decide));refine zA (σ0:=[none,some (.str (sd++se)),some (.int c)]) (fun σ=>∃v,σ=[v,some (.str (sd++se)),some (.int c)]) (fun i ys _=>∃xs:Ls,ys=xs.map V.str/\xs.length=i/\∀x∈xs,(∀c∈x.cps.toList,32<=c/\c<=126/\c≠37)/\x.length<=1) ⟨_,rfl⟩ (fun _ _=>⟨[],rfl,rfl,fun _ h=>nomatch h⟩) ?_ ?_
   . intro D i ys σ H2 k hD hi uR hd hs uS hk;refine bg ?_;intro tT;obtain⟨v,rfl⟩:=uR;obtain⟨xs,rfl,hx,hl⟩:=uS;obtain⟨z,hz,zb⟩:=e1 i;refine⟨_,rfl,_,rfl,_,rfl,_,_,rfl,rfl,.inl ⟨by omega,by omega⟩,_,_,rfl,rfl,_,_,rfl,rfl,⟨by omega,by omega⟩,_,rfl,_,rfl,jZ (by rw[xj];decide),_,_,rfl,rfl,(by show(0:Int)<((sd++se).length:Int);rw[xj];decide),_,_,z,rfl,rfl,jZ (by rw[xj];decide),hz,?_⟩;refine hk _ _ _ ⟨_,rfl⟩ (ag.refl _) (bZ (by rw[ao];omega)) ⟨xs++[_],uv xs _,by rw[bj,hx];rfl,fun y hy=>?_⟩
     rcases bS.mp hy with hy | hy
     . exact hl y hy
     . rw[bw.mp hy];exact⟨fun d hd=>by rw[EB hd];exact zb,Cc (pO z)⟩
   . intro D ys H2 hD hd hs AC;refine bg ?_;intro tT;obtain⟨xs,rfl,hx,hl⟩:=AC;have alW:=zD (b:=1) fun y hy=>(hl y hy).2;have e0:(Str.ofString "").length=0:=by decide +kernel
     refine⟨_,D,xs,rfl,rfl,ae.of hd,by rw[e0];omega,?_⟩;refine q _ _ ⟨?_,fun d hd=>?_⟩ hs
     . refine cu C6 ?_;rw[e0];omega
     . rw[show Txt.join (Str.ofString "") xs=Str.join (Str.ofString "") xs from Ck _ _]at hd
       rcases EA hd with hd | ⟨y,hy,hd⟩
       . cases hd
       . exact(hl y hy).1 d hd
abbrev alY (H:Hp) (Q:V->Hp->Prop):Prop:=∀(l:Addr) (H':Hp) (xs:Ls),H l=none->ag H H'->H' l=some (.lst (xs.map V.str))->xs.length<=4->(∀x∈xs,iY x)->Q (.ref l) H'
def EF:Sp:=fun vs H Q _=>∃c:Int,vs=[.int c]/\alY H Q
theorem R0:aP [azw,azZ] [azw] (aA Ay):=aZ
theorem alZ(F:bB K "_law_lines" Ay f fd)(B:b9 mg)(cH:aO K mg az7 r9 iZ i8)(AD:aO K mg "_law_line" Es JG JH) :
 aj P w K mg base ak 2 f fd [azw] EF:=by
 have fh:aj P w K mg base ak 1 iZ i8 [azv,azB] xk:=AB cH.u;have fj:=cH.u.binds2 (l:=[azv,azB]) (fun _ _ _ _ _ _ _ _=>rfl);have al0:aj P w K mg base ak 1 JG JH [azw] RZ:=alX AD.u B;have al1:=AD.u.binds1 (l:=[azw]) (fun _ _ _ _ _ _ _=>rfl);refine F.okL R0 ?_
 . intro aw A outer s H vs Q E hr h xX dX;obtain⟨c,rfl,q⟩:=h;refine⟨_,(am (aJ (i:=1) R0.nd rfl (Or.inr rfl) (aF fc aq (aF wy aq (aF cF (pv 0) aq))))
    (av (aV (gF [azB] [azZ,azw] [1,0] eA rfl (nK rfl B.range (aa (aF cF (pv 0) aq) ac)) (fun _ _ _ _=>(bc (i:=0) (show List.Nodup ([azB,azZ,azw]:Ls) by decide +kernel) rfl (Or.inl rfl))) (fun _ _ _ _=>iB) (fun _ _ _ _=>(aG al0 hr rfl AD al1 (aa (aF cF (aG fh hr rfl cH fj (aa (aF ix (pv 2) aq) (aa (pv 0) ac))) (pv 1)) ac))))))),?_⟩
   refine mC ?_;intro dD sS dP;refine⟨_,rfl,_,_,rfl,rfl,(by show(0:Int)<3;decide),_,_,rfl,rfl,.inl ⟨by omega,by omega⟩,_,_,rfl,rfl,?_⟩;refine⟨_,rfl,_,_,rfl,rfl,(by show(0:Int)<5;decide),c % 5,rfl,by omega,by omega,?_⟩;refine zA (σ0:=[none,some (.int (40+900 * (c % 3))),some (.int c)]) (fun σ=>∃v,σ=[v,some (.int (40+900 * (c % 3))),some (.int c)]) (fun i ys _=>∃xs:Ls,ys=xs.map V.str/\xs.length=i/\∀x∈xs,iY x) ⟨_,rfl⟩ (fun _ _=>⟨[],rfl,rfl,fun _ h=>nomatch h⟩) ?_ ?_
   . intro D i ys σ H2 k hD hi AE hd hs JI hk;refine bg ?_;intro tT;obtain⟨v,rfl⟩:=AE;obtain⟨xs,rfl,hx,hl⟩:=JI;refine⟨_,rfl,_,_,rfl,rfl,⟨by omega,by omega⟩,_,rfl,_,_,rfl,fun n=>?_⟩;refine⟨_,rfl,_,_,rfl,rfl,(by show(0:Int)<40+900 * (c % 3);omega),_,rfl,fun x H3 lx s3=>?_⟩;exact hk _ _ _ ⟨_,rfl⟩ s3 (bZ (by rw[ao];omega)) ⟨xs++[x],uv xs x,by rw[bj,hx];rfl,fun y hy=>(bS.mp hy).elim (hl y) (fun hy=>by rw[bw.mp hy];exact lx)⟩
   . intro D ys H2 hD hd hs al2;refine bg ?_;intro tT;obtain⟨xs,rfl,hx,hl⟩:=al2;exact q D H2 xs hD hs hd (by omega) hl
def JJ:Sp:=fun vs H Q _=>∃c:Int,vs=[.int c]/\∀x H',dW x->ag H H'->Q (.str x) H'
theorem JK:aP [azw,azZ,"_law_way"] [azw] (aA Az):=aZ
def JL:Ls:=["a","a/b","conf/ed/three/four","zz"]
def JM(x:Str):Bool:=decide (1<=x.length) && decide (x.length<=8) && x.cps.toList.all fun c=>decide (97<=c) && decide (c<=122)
theorem al3{x:Str}(h:JM x=true):cC x:=by
 unfold JM at h;simp only[gR,Ct,jk]at h;exact⟨h.1.1,h.1.2,h.2⟩
theorem EG{x:Str}(ps:Ls)(e:x=Str.join pY ps)(h1:1<=ps.length)(h2:ps.length<=4)(h:ps.all JM=true):dW x:=⟨ps,e,h1,h2,fun p hp=>al3 (jk.mp h p hp)⟩
theorem al4:∀x∈JL,dW x:=by
 intro x hx;simp only[JL,aY,fq,ft]at hx
 rcases hx with rfl | rfl | rfl | rfl
 . exact EG ["a"] (by decide +kernel) (by decide) (by decide) (by decide +kernel)
 . exact EG ["a","b"] (by decide +kernel) (by decide) (by decide) (by decide +kernel)
 . exact EG ["conf","ed","three","four"] (by decide +kernel) (by decide) (by decide) (by decide +kernel)
 . exact EG ["zz"] (by decide +kernel) (by decide) (by decide) (by decide +kernel)
theorem R1{z:Nat}(h:97<=z/\z<=122):cC ⟨#[z]⟩:=⟨aI _,(by show 1<=8;decide),fun d hd=>by rw[EB hd];exact h⟩
theorem R3(F:bB K "_law_path" Az f fd):aj P w K mg base ak 1 f fd [azw] JJ:=by
 refine F.okL JK ?_
 . intro aw A outer s H vs Q E hr h xX dX;obtain⟨c,rfl,q⟩:=h;refine⟨_,(am (aJ (i:=1) JK.nd rfl (Or.inl rfl) bV)
    (am (aJ (i:=2) JK.nd rfl (Or.inl rfl) (aF cF (pv 0) aq))
    (am (cO (bY fw (pv 2) aq (bT _))
    (av (aV (aF zf (aF zf (bJ zn (pv 1) (aF cF (aF ix (pv 0) aq) aq) (fun _ _=>rfl)) bV) (bJ zn (pv 1) (aF cF (aF ix (pv 0) aq) aq) (fun _ _=>rfl))))) dA)
    (av (aV (bJ fR (df (aa bV (aa bV (aa bV (aa bV ac))))) (pv 2) (fun _ _=>rfl))))))),?_⟩
   refine j6 ?_;intro dD sS oH fE dP;refine⟨_,rfl,_,_,rfl,rfl,(by show(0:Int)<5;decide),?_⟩;refine⟨_,rfl,rfl,_,rfl,?_⟩;refine bA (fun h=>?_) (fun h=>?_)
   . obtain⟨z,hz,zb⟩:=EC (c / 5);obtain⟨y,hy,yb⟩:=EC (c / 130);have lz:(⟨#[z]⟩:Str).length=1:=pO z;have ly:(⟨#[y]⟩:Str).length=1:=pO y;have ls:(Str.ofString "/").length=1:=by decide +kernel
     refine⟨_,rfl,_,rfl,_,_,rfl,rfl,⟨by omega,by omega⟩,_,_,rfl,rfl,(by show(0:Int)<26;decide),_,_,z,rfl,rfl,jZ (by rw[show(Str.ofString "abcdefghijklmnopqrstuvwxyz").length=26 from AA];decide),hz,_,_,rfl,rfl,fit (by omega) (by omega),_,rfl,_,rfl,_,_,rfl,rfl,⟨by omega,by omega⟩,_,_,rfl,rfl,(by show(0:Int)<26;decide),_,_,y,rfl,rfl,jZ (by rw[show(Str.ofString "abcdefghijklmnopqrstuvwxyz").length=26 from AA];decide),hy,_,_,rfl,rfl,fit (by rw[jY];omega) (by omega),?_⟩;refine q _ _ ⟨[⟨#[z]⟩,⟨#[y]⟩],rfl,(by show 1<=2;decide),(by show 2<=4;decide),fun p hp=>?_⟩ (ag.refl _);simp only[aY,fq,ft]at hp
     rcases hp with rfl | rfl
     . exact R1 zb
     . exact R1 yb
   . have h4:c % 5≠4:=fun z=>h (by show decide (V.int (c % 5)=V.int 4)=true;rw[z];rfl);refine⟨(by show 4<=sizeLine;decide),fun p1 H1 n1 s1 e1=>?_⟩;obtain⟨z,hz,zm⟩:=zC (xs:=JL) (r:=c % 5) (by omega) (by show c % 5<(4:Nat);omega);exact⟨_,rfl,p1,_,_,_,rfl,rfl,ae.of e1,hz,q z H1 (al4 z (eg zm)) s1⟩
theorem R5(n:Int):0<=n % (10 ^ (9:Int).toNat)/\n % (10 ^ (9:Int).toNat)<=1000000000:=by
 have e:(10 ^ (9:Int).toNat:Int)=1000000000:=by decide
 rw[e];omega
def al5(H:Hp)(Q:VK):Prop:=∀p H' (ms:List Int),H p=none->ag H H'->H' p=some (.tup (ms.map V.int))->fg ms->Q (.ref p) H'
def R6:Sp:=fun vs H Q _=>∃c:Int,vs=[.int c]/\al5 H Q
theorem al6:aP [azw] [azw] (aA Et):=aZ
theorem al7(F:bB K "_law_make" Et f fd):aj P w K mg base ak 1 f fd [azw] R6:=by
 refine F.okL al6 ?_
 . intro aw A outer s H vs Q E hr h xX dX;obtain⟨c,rfl,q⟩:=h;refine⟨_,(am (cO (bY fw (aF cF (pv 0) aq) aq (bT _))
    (av (aV (eV (aa (aF fc aq (aF cF (aF ix (pv 0) aq) aq)) ac)))) dA)
    (am (cO (bY fw (aF cF (pv 0) aq) aq (bT _))
    (av (aV (eV (aa aq (aa (aF cF (aF ix (pv 0) aq) aq) ac))))) dA)
    (am (cO (bY fw (aF cF (pv 0) aq) aq (bT _))
    (av (aV (eV (aa aq (aa aq (aa (aF cF (aF ix (pv 0) aq) (aF Hq aq aq)) ac)))))) dA)
    (av (aV (eV (aa (aF cF (aF ix (pv 0) aq) (aF Hq aq aq)) ac))))))),?_⟩
   refine j6 ?_;intro dD sS oH fE dP;refine⟨_,rfl,_,_,rfl,rfl,(by show(0:Int)<4;decide),rfl,_,rfl,?_⟩;refine bA (fun h=>?_) (fun h=>?_)
   . refine⟨_,rfl,_,_,rfl,rfl,⟨by omega,by omega⟩,_,_,rfl,rfl,(by show(0:Int)<3;decide),_,_,rfl,rfl,(by show 1<=sizeLine;decide),fun p1 H1 n1 s1 e1=>?_⟩;exact q p1 H1 [_] n1 s1 e1 ⟨(by show 1<=1;decide),(by show 1<=3;decide),fun n hn=>by rw[bw.mp hn];omega⟩
   refine⟨_,rfl,_,_,rfl,rfl,(by show(0:Int)<4;decide),rfl,_,rfl,?_⟩;refine bA (fun h=>?_) (fun h=>?_)
   . refine⟨_,rfl,_,_,rfl,rfl,⟨by omega,by omega⟩,_,_,rfl,rfl,(by show(0:Int)<3;decide),(by show 2<=sizeLine;decide),fun p2 H2 n2 s2 e2=>?_⟩;exact q p2 H2 [_,_] n2 s2 e2 ⟨(by show 1<=2;decide),(by show 2<=3;decide),fun n hn=>by
      simp only[aY,fq,ft]at hn
      rcases hn with rfl | rfl<;>omega⟩
   refine⟨_,rfl,_,_,rfl,rfl,(by show(0:Int)<4;decide),rfl,_,rfl,?_⟩;refine bA (fun h=>?_) (fun h=>?_)
   . refine⟨_,rfl,_,_,rfl,rfl,⟨by omega,by omega⟩,_,_,rfl,rfl,⟨by decide,by decide,by decide⟩,_,_,rfl,rfl,(by show(0:Int)<10 ^ (9:Int).toNat;decide),(by show 3<=sizeLine;decide),fun p3 H3 n3 s3 e3=>?_⟩;exact q p3 H3 [_,_,_] n3 s3 e3 ⟨(by show 1<=3;decide),(by show 3<=3;decide),fun n hn=>by
      simp only[aY,fq,ft]at hn
      rcases hn with rfl | rfl | rfl
      . omega
      . omega
      . exact R5 _⟩
   refine⟨_,rfl,_,_,rfl,rfl,⟨by omega,by omega⟩,_,_,rfl,rfl,⟨by decide,by decide,by decide⟩,_,_,rfl,rfl,(by show(0:Int)<10 ^ (9:Int).toNat;decide),(by show 1<=sizeLine;decide),fun p4 H4 n4 s4 e4=>?_⟩;exact q p4 H4 [_] n4 s4 e4 ⟨(by show 1<=1;decide),(by show 1<=3;decide),fun n hn=>by rw[bw.mp hn];exact R5 _⟩
open PyProof.Rows
variable {P:Program}{w:World}{K:Fg}{mg:Mv}{base:Heap}
theorem eS{n:Nat}(h:n<=100000):n<=sizeLine:=by rw[yF];omega
theorem jz{α β:Type}{l:List α}{f:α->β}{i:Nat}{y:β}(h:(l.map f)[i]?=some y):∃x,l[i]?=some x/\y=f x:=by
 rw[dH]at h;cases e:l[i]? with
 | none=>rw[e]at h;cases h
 | some x=>rw[e]at h;exact⟨x,rfl,(gz h).symm⟩
def R7:Sp:=fun vs H Q _=>∃t:Str,vs=[.str t]/\t.length<=90000/\∀l H',H l=none->ag H H'->H' l=some (.lst ((rowsOf t).map V.str))->Q (.ref l) H'
theorem al8:aP [azN] [azN] (aA D0):=aZ
theorem al9(F:bB K "rows_of" D0 f fd):aj P w K mg base ak 1 f fd [azN] R7:=by
 refine F.okL al8 ?_
 . intro aw A outer s H vs Q E hr h xX dX;obtain⟨t,rfl,ht,q⟩:=h;refine⟨_,(av (aV (Yf (bY za (pv 0) bV (bT _)) (dj ny WQ WR I8 (pv 0) (aa bV ac)) (df ac)))),?_⟩;refine⟨_,rfl,rfl,_,rfl,?_⟩;refine bA (fun h=>?_) (fun h=>?_)
   . have ne:t≠Str.empty:=fun z=>by
      rw[z]at h;exact absurd h (by decide +kernel)
     refine⟨_,rfl,rfl,t,j8,rfl,rfl,by decide +kernel,eS (by omega),fun l H' a b c=>?_⟩;refine q l H' a b ?_;rw[c];unfold rowsOf;rw[ai ne]
   . have e:t=Str.empty:=by
      rcases Classical.em (t=Str.empty) with z | z
      . exact z
      . refine absurd ?_ h;show(!decide (V.str t=V.str Str.empty))=true;rw[cI (fun y=>z (V.str.inj y))];rfl
     refine⟨(by show 0<=sizeLine;exact dG _),fun l H' a b c=>?_⟩;refine q l H' a b ?_;rw[c];unfold rowsOf;rw[al e];rfl
theorem R8{x y a:Str}(h:a∈Txt.split x y):a.length<=x.length:=part_short h
def AF(ms:List Int):Prop:=ms.length<=3/\∀n∈ms,0<=n/\n<=1000000000
theorem fg.ok{ms:List Int}(h:fg ms):AF ms:=⟨h.hi,h.rg⟩
def R9:Sp:=fun vs H Q _=>∃(m:Addr) (ms:List Int),vs=[.ref m]/\H m=some (.tup (ms.map V.int))/\AF ms/\∀H',ag H H'->Q (.str (jy ms)) H'
theorem ama:aP [azH] [azH] (aA D3):=aZ
theorem Sa{ms:List Int}(h:AF ms):((ms.map iH).map (·.length)).sum<=30:=by
 have:=zD (ys:=ms.map iH) (b:=10) fun y hy=>by
  obtain⟨n,hn,rfl⟩:=cD.mp hy;exact(RJ (h.2 n hn).1 (h.2 n hn).2).2
 rw[ao]at this;have:=h.1;omega
theorem amb{n:Int}(h0:0<=n)(h1:n<=1000000000):n.natAbs.log2<1920:=by
 have:n.natAbs<2 ^ 1920:=Wo (by omega:n.natAbs<=1000000000) (by decide +kernel)
 by_cases z:n.natAbs=0
 . rw[z];decide
 . exact(Nat.log2_lt z).mpr this
theorem amc(F:bB K "make_shown" D3 f fd)(B:b9 mg):aj P w K mg base ak 1 f fd [azH] R9:=by
 refine F.okL ama ?_
 . intro aw A outer s H vs Q E hr h xX dX;obtain⟨m,ms,rfl,hm,ok,q⟩:=h;refine⟨_,(av (aV (dj ny yT yU wJ bV (aa (gF ["number"] [] [] eA rfl (YT (pv 0)) (fun _ _ _ _=>(bc (i:=0) (show List.Nodup (["number"]:Ls) by decide +kernel) rfl (Or.inl rfl))) (fun _ _ _ _=>iB) (fun _ _ _ _=>(eK ZX (by rfl) B.str PyProof.Rows.boot_str (aa (pv 0) ac)))) ac)))),?_⟩;refine⟨rfl,_,rfl,m,rfl,⟨_,aX.of hm⟩,?_⟩;refine akA (σ0:=[none]) (aX.of hm) (fun σ=>∃v,σ=[v]) ((ms.map iH).map V.str) (by rw[ao,ao,ao]) (eS (by rw[ao];have:=ok.1;omega)) ⟨_,rfl⟩ ?_ ?_
   . intro i z y σ H2 k hz hy hQ hs hk;obtain⟨v,rfl⟩:=hQ;obtain⟨n,hn,rfl⟩:=jz hz;rw[pA]at hy;obtain⟨n',jS,rfl⟩:=jz hy;rw[hn]at jS;cases jS;have r:=ok.2 n (eg hn);exact⟨_,rfl,n,rfl,amb r.1 r.2,hk _ _ ⟨_,rfl⟩ (ag.refl _)⟩
   . intro D H2 hD hd hs;have l1:=Sa ok;refine⟨jw,D,ms.map iH,rfl,rfl,ae.of hd,?_,?_⟩
     . rw[show jw.length=1 by decide +kernel,ao];have:=ok.1;omega
     . have:=q H2 hs;rw[show jy ms=Txt.join jw (ms.map iH) from (Ck _ _).symm]at this;exact this
end K63
namespace K63
open PySem L2 PySem.Spec
variable {P:Program}{w:World}{K:Fg}{mg:Mv}{base:Heap}
theorem JN{g:TG}{tb:TS}{D:Ends}{σ:St}{H1:Hp}{kvs:List (ar×V)}{ob:Obj}(Pv:Nat->St->Hp->Prop)(h0:Pv 0 σ (ah H1 d (.frz ob (.dK kvs))))(hf:∀i σ H,Pv i σ H->H d=some (.frz ob (.dK kvs)))
 (hs:∀i k v p σ H,kvs[i]?=some (k,v)->Pv i σ H->H p=none->g (.ref p) σ (ah H p (.tup [kV k,v])) fun σ2 H2=>
  tb { nx:=Pv (i+1),ct:=Pv (i+1),bk:=fun σ' H'=>H' d=some (.frz ob (.dK kvs))/\D.nx σ' (ah H' d (.dK kvs)),rt:=fun v' H'=>H' d=some (.frz ob (.dK kvs))/\D.rt v' (ah H' d (.dK kvs)) } σ2 H2)
 (hd:∀σ H,Pv kvs.length σ H->D.nx σ (ah H d (.dK kvs))):∃W:Nat->Nat->St->Hp->Prop,(∃m,W 0 m σ (ah H1 d (.frz ob (.dK kvs))))/\∀i m σ H,W i m σ H ->
 H d=some (.frz ob (.dK kvs))/\((kvs.length<=i/\D.nx σ (ah H d (.dK kvs)))\/(i<kvs.length/\∃N:St->Hp->Prop,(∀σ' H',N σ' H'->∃m',m'<m/\W (i+1) m' σ' H') /\
  ∀k v p,kvs[i]?=some (k,v)->H p=none->g (.ref p) σ (ah H p (.tup [kV k,v])) fun σ2 H2=>
   tb { nx:=N,ct:=N,bk:=fun σ' H'=>H' d=some (.frz ob (.dK kvs))/\D.nx σ' (ah H' d (.dK kvs)),rt:=fun v' H'=>H' d=some (.frz ob (.dK kvs))/\D.rt v' (ah H' d (.dK kvs)) } σ2 H2)):=by
 refine⟨fun i m σ H=>m=kvs.length - i/\i<=kvs.length/\Pv i σ H,⟨kvs.length,by simp,dG _,h0⟩,?_⟩;rintro i m σ H ⟨rfl,hi,p⟩;refine⟨hf i σ H p,?_⟩
 by_cases aN:i<kvs.length
 . exact .inr ⟨aN,Pv (i+1),fun σ' H' p'=>⟨kvs.length - (i+1),by omega,rfl,aN,p'⟩,fun k v q hk hq=>hs i k v q σ H hk p hq⟩
 . have e:i=kvs.length:=by omega
   subst e;exact .inl ⟨aI _,hd σ H p⟩
abbrev Ch:=List (Str×List Int)
def dr(H:Hp)(kv:ar×V)(e:Str×List Int):Prop:=kv.1=.inr e.1/\∃m,kv.2=.ref m/\H m=some (.tup (e.2.map V.int))
theorem dr.same{H H':Hp}(s:ag H H'){kv:ar×V}{e:Str×List Int}(h:dr H kv e):dr H' kv e:=h.elim fun a amd=>amd.elim fun m ame=>ame.elim fun b c=>⟨a,m,b,s _ _ c⟩
def db(H:Hp)(c:Addr)(ch:Ch):Prop:=∃kvs,H c=some (.dK kvs)/\Paired (dr H) kvs ch
theorem db.same{H H':Hp}(s:ag H H'){c:Addr}{ch:Ch}(h:db H c ch):db H' c ch:=h.elim fun kvs amf=>amf.elim fun a b=>⟨kvs,s _ _ a,aE b fun _ _=>dr.same s⟩
structure sf(K:Fg)(mg:Mv)(T:Addr):Prop where
 cl:jU K T
 nC:fO K T azA
 nH:fO K T azI
 nO:fO K T azT
 mgC:mg "Stand"=some (.ref T)
abbrev Ow:=List (Str×(Ls×Ls))
def jA(H:Hp)(kv:ar×V)(e:Str×(Ls×Ls)):Prop:=kv.1=.inr e.1/\∃t l1 l2,kv.2=.ref t/\H t=some (.tup [.ref l1,.ref l2])/\H l1=some (.lst (e.2.1.map V.str))/\H l2=some (.lst (e.2.2.map V.str))
theorem jA.same{H H':Hp}(s:ag H H'){kv:ar×V}{e:Str×(Ls×Ls)}(h:jA H kv e):jA H' kv e:=h.elim fun a amg=>amg.elim fun t amh=>amh.elim fun l1 ami=>ami.elim fun l2 amj=>amj.elim fun b amk=>amk.elim fun c aml=>aml.elim fun d f=>⟨a,t,l1,l2,b,s _ _ c,s _ _ d,s _ _ f⟩
def jB(H H':Hp)(kv:ar×V)(e:Str×(Ls×Ls)):Prop:=kv.1=.inr e.1/\∃t l1 l2,kv.2=.ref t/\H t=none/\H l1=none/\H l2=none/\H' t=some (.tup [.ref l1,.ref l2])/\H' l1=some (.lst (e.2.1.map V.str))/\H' l2=some (.lst (e.2.2.map V.str))
theorem jB.same{H H1 H2:Hp}(s:∀b o,H1 b=some o->H b=none->H2 b=some o){kv:ar×V}{e:Str×(Ls×Ls)}(h:jB H H1 kv e):jB H H2 kv e:=h.elim fun a amm=>amm.elim fun t amn=>amn.elim fun l1 amo=>amo.elim fun l2 amp=>amp.elim fun b amq=>amq.elim fun n1 amr=>amr.elim fun n2 ams=>ams.elim fun n3 amt=>amt.elim fun c amu=>amu.elim fun d f=>⟨a,t,l1,l2,b,n1,n2,n3,s _ _ c n1,s _ _ d n2,s _ _ f n3⟩
theorem jB.put{H H1:Hp}{ks nz:List (ar×V)}(hd:H1 d=some (.dK ks)){kv:ar×V}{e:Str×(Ls×Ls)}(h:jB H H1 kv e):jB H (ah H1 d (.dK nz)) kv e:=
 h.elim fun a amv=>amv.elim fun t amw=>amw.elim fun l1 amx=>amx.elim fun l2 amy=>amy.elim fun b amz=>amz.elim fun n1 amA=>amA.elim fun n2 amB=>amB.elim fun n3 amC=>amC.elim fun c amD=>amD.elim fun d' f=>⟨a,t,l1,l2,b,n1,n2,n3,aB c (aK c hd (by intro z;cases z)),aB d' (aK d' hd (by intro z;cases z)),aB f (aK f hd (by intro z;cases z))⟩
def si(H:Hp)(o:Addr)(ow:Ow):Prop:=∃kvs,H o=some (.dK kvs)/\Paired (jA H) kvs ow
theorem si.same{H H':Hp}(s:ag H H'){o:Addr}{ow:Ow}(h:si H o ow):si H' o ow:=h.elim fun kvs amE=>amE.elim fun a b=>⟨kvs,s _ _ a,aE b fun _ _=>jA.same s⟩
abbrev Cs:=List (Str×Str)
def uT(kv:ar×V)(e:Str×Str):Prop:=kv.1=.inr e.1/\kv.2=.str e.2
def xn(H:Hp)(h:Addr)(cs:Cs):Prop:=∃kvs,H h=some (.dK kvs)/\Paired uT kvs cs
theorem xn.same{H H':Hp}(s:ag H H'){h:Addr}{cs:Cs}(x:xn H h cs):xn H' h cs:=x.elim fun kvs amF=>amF.elim fun a b=>⟨kvs,s _ _ a,b⟩
def gK(T:Addr)(H:Hp)(v:V)(ch:Ch)(cs:Cs)(ow:Ow):Prop:=∃a dx fl c h o,v=.ref a/\H a=some (.ins T dx fl)/\fl.lookup (azA:Str)=some (.ref c)/\fl.lookup (azI:Str)=some (.ref h)/\fl.lookup (azT:Str)=some (.ref o) /\
 db H c ch/\xn H h cs/\si H o ow
theorem gK.same{H H':Hp}{v:V}{ch:Ch}{cs:Cs}{ow:Ow}(s:ag H H')(x:gK T H v ch cs ow):gK T H' v ch cs ow:=by
 obtain⟨a,dx,fl,c,h,o,e,h1,h2,h3,h4,h5,h6,h7⟩:=x;exact⟨a,dx,fl,c,h,o,e,s _ _ h1,h2,h3,h4,h5.same s,h6.same s,h7.same s⟩
def Sb:Sp:=fun vs H Q _=>∃(o:Addr) (kvs:List (ar×V)) (ow:Ow),vs=[.ref o]/\H o=some (.dK kvs)/\Paired (jA H) kvs ow/\(ow.map (·.1)).Nodup/\ow.length<=100 /\
 ∀d H' uU,H d=none->ag H H'->H' d=some (.dK uU)->Paired (jB H H') uU ow->Q (.ref d) H'
theorem EH:aP [azT,"copied",azC,az1] [azT] (aA Ed):=aZ
theorem amG(F:bB K "changes_copied" Ed f fd)(B:b9 mg):aj P w K mg base ak 1 f fd [azT] Sb:=by
 refine F.okL EH ?_
 . intro aw A outer s H vs Q E hr h xX dX;obtain⟨o,kvs,ow,rfl,ho,pr,nd,xp,q⟩:=h;have hu:=hr.units;refine⟨_,(am (aJ (i:=1) EH.nd rfl (Or.inl rfl) mB)
    (am (Io eI rfl (pv 0) (pF rfl (fb (bc (i:=2) EH.nd rfl (Or.inl rfl)) (fb (bc (i:=3) EH.nd rfl (Or.inl rfl)) mi)))
    (av (jm hu (pv 1) (pv 2) (eV (aa (eK mx (by rfl) B.list jP (aa (bJ eO (pv 3) aq (fun _ _=>rfl)) ac)) (aa (eK mx (by rfl) B.list jP (aa (bJ eO (pv 3) aq (fun _ _=>rfl)) ac)) ac))) rfl)))
    (av (aV (pv 1))))),?_⟩
   refine lw ?_;intro dD sS fE dP;have hk:∀(H':Hp) kv f,jB H H' kv f->kv.1=Sum.inr f.1:=fun _ kv f z=>z.1;refine fun d H1 n1 s1 e1=>?_;have od:d≠o:=(aL ho n1).symm;refine⟨_,rfl,o,kvs,rfl,s1 _ _ ho,fun ob=>?_⟩;refine JN (fun i σ H5=>∃u v j9,σ=[some (.ref o),some (.ref d),u,v]/\(∀b x,H b=some x->b≠o->H5 b=some x)/\(∀b,H5 b=none->H b=none)/\H5 o=some (.frz ob (.dK kvs))/\H5 d=some (.dK j9)/\Paired (jB H H5) j9 (ow.take i))
    ⟨none,none,[],rfl,fun b x e hb=>aB (s1 _ _ e) hb,fun b e=>s1.free (iA e).2,aH,aB e1 od,.nil⟩ ?_ ?_ ?_
   . intro i σ H5 eX;refine bg ?_;intro tT;obtain⟨u,v,j9,rfl,_,_,h,_⟩:=eX;exact h
   . intro i k v p σ H5 hi gt hp;refine bg ?_;intro tT;obtain⟨u,v',j9,rfl,k5,f5,h5,gL,fF⟩:=gt
     first | (refine wO (g:=mh _) ?_;intro eQ sQ) | (refine wO (g:=tW _ _ _) ?_;intro eQ sQ) | skip
     obtain⟨⟨x,b1,m1⟩,hf,a1,t,l1,l2,a2,a3,a4,a5⟩:=eE pr hi;have a1:k=.inr x:=a1;have a2:v=.ref t:=a2;subst a1 a2;have aN:=(cW.mp hf).1;have sp:ag H5 (ah H5 p (.tup [kV (.inr x),.ref t])):=fU hp;have K5:∀{b:Addr}{z:HO},H b=some z->(∀ks,z≠.dK ks)->(ah H5 p (.tup [kV (.inr x),.ref t])) b=some z:=fun {b z} e hz=>sp _ _ (k5 _ _ e (aK e ho (hz _)));have T5:=K5 a3 (by intro ks z;cases z);have L5:=K5 a4 (by intro ks z;cases z);have M5:=K5 a5 (by intro ks z;cases z);have z0:cy [V.ref l1,V.ref l2] 0=some (V.ref l1):=rfl;have z1:cy [V.ref l1,V.ref l2] 1=some (V.ref l2):=rfl;refine⟨p,_,rfl,aX.of aH,rfl,_,_,rfl,_,_,rfl,rfl,?_⟩;refine⟨_,rfl,t,_,_,_,rfl,rfl,aX.of T5,z0,l1,_,rfl,.inl (ae.of L5),fun q1 H6 n6 s6 e6=>?_⟩;refine⟨_,rfl,t,_,_,_,rfl,rfl,aX.of (s6 _ _ T5),z1,l2,_,rfl,.inl (ae.of (s6 _ _ M5)),fun q2 H7 n7 s7 e7=>?_⟩;refine⟨(by show 2<=sizeLine;decide),fun q3 H8 n8 s8 e8=>?_⟩;have ke:=sp.trans (s6.trans (s7.trans s8));have pl:=bC fF;rw[eG]at pl;refine⟨_,rfl,_,rfl,d,_,rfl,fT.k (k:=.inr x) (ke _ _ gL) (bZ (by omega)),?_⟩;have JO:x∉(ow.take i).map (·.1):=by
      rw[Wr];intro hm;obtain⟨j,hj,ej⟩:=WE.mp hm;rw[eG,ao]at hj;rw[List.getElem_take]at ej;have e1:(ow.map (·.1))[j]?=some x:=by rw[jl (by rw[ao];omega),ej]
      have e2:(ow.map (·.1))[i]?=some x:=by rw[dH,hf];rfl
      have:=(WS (l:=ow.map (·.1)) (i:=j) (j:=i) (by rw[ao];omega) nd).mp (by rw[e1,e2]);omega
     have hf8:∀b,H8 b=none->H b=none:=fun b e=>f5 b (ke.free e);refine⟨_,_,_,rfl,fun b z e hb=>?_,fun b e=>hf8 b (iA e).2,aB (ke _ _ h5) od.symm,aH,?_⟩
     . rw[aW (fun y=>by rw[y,n1]at e;cases e)];exact ke _ _ (k5 _ _ e hb)
     . rw[gT,hf];have:=jv (F:=jB H H8) (hk H8) (x:=x) (ls:=(b1,m1)) (v:=.ref q3) ⟨rfl,q3,q1,q2,rfl,f5 _ (sp.free (s6.free (s7.free n8))),f5 _ (sp.free n6),f5 _ (sp.free (s6.free n7)),e8,s8 _ _ (s7 _ _ e6),s8 _ _ e7⟩ (aE fF fun _ _=>jB.same fun b z e _=>ke _ _ e);rw[Ao JO]at this;exact aE this fun _ _=>jB.put (ke _ _ gL)
   . intro σ H5 gu;refine bg ?_;intro tT;obtain⟨u,v,j9,rfl,k5,f5,h5,gL,fF⟩:=gu
     first | (refine wO (g:=mh _) ?_;intro eQ sQ) | (refine wO (g:=tW _ _ _) ?_;intro eQ sQ) | skip
     rw[bC pr,eZ]at fF;refine⟨_,rfl,q d _ j9 n1 (fun b z e=>?_) (aB gL od) (aE fF fun _ _=>jB.same fun b z e hb=>aB e (fun y=>by rw[y,ho]at hb;cases hb))⟩
     by_cases hb:b=o
     . subst hb;rw[ho]at e;cases e;exact aH
     . exact aB (k5 b z e hb) hb
def xq(T:Addr):Sp:=fun vs H Q _=>∃(x dx c h o:Addr) (kvs xr:List (ar×V)) (ow:Ow),vs=[.ref x,.ref c,.ref h,.ref o]/\H x=some (.ins T dx [])/\H c=some (.dK kvs)/\H h=some (.dK xr)/\si H o ow/\(ow.map (·.1)).Nodup/\ow.length<=100 /\
 ∀(H':Hp) (fl:List (Str×V)) (c' h' o':Addr) (ko:List (ar×V)),(∀b o,H b=some o->b≠x->H' b=some o)->H' x=some (.ins T dx fl)->fl.lookup (azA:Str)=some (.ref c')->fl.lookup (azI:Str)=some (.ref h')->fl.lookup (azT:Str)=some (.ref o') ->
  H c'=none->H h'=none->H o'=none->H' c'=some (.dK kvs)->H' h'=some (.dK xr)->H' o'=some (.dK ko)->Paired (jB H H') ko ow->Q .non H'
theorem amI:aP [azt,azA,azI,azT] [azt,azA,azI,azT] (aA qa):=aZ
theorem eD.over{H Hk Hj:Hp}{fl:List (Str×V)}(S:eD C dx x H Hk fl)(s:ag Hk Hj):eD C dx x H Hj fl:=⟨fun b o e hb=>s _ _ (S.same b o e hb),fun b e=>S.free b (s.free e),s _ _ S.ob⟩
theorem amJ(F:aU K "__init__" "Stand.__init__" qa f fd)(U:sf K mg T)(B:b9 mg)(AG:aO K mg "changes_copied" Ed JP JQ) :
 aj P w K mg base ak 2 f fd [azt,azA,azI,azT] (xq T):=by
 have amK:aj P w K mg base ak 1 JP JQ [azT] Sb:=amG AG.u B;have amL:=AG.u.binds1 (l:=[azT]) (fun _ _ _ _ _ _ _=>rfl);refine F.okL amI ?_
 . intro aw A outer s H vs Q E hr h xX dX;obtain⟨x,dx,c,h,o,kvs,xr,ow,rfl,hx,hc,hh,ho,nd,xp,q⟩:=h;refine⟨_,(am (iy (pv 0) (eK C7 (by rfl) B.dict Oh (aa (pv 1) ac)) rfl)
    (am (iy (pv 0) (eK C7 (by rfl) B.dict Oh (aa (pv 2) ac)) rfl)
    (av (iy (pv 0) (aG amK hr rfl AG amL (aa (pv 3) ac)) rfl)))),?_⟩
   refine lw ?_;intro dD sS fE dP;have S0:eD T dx x H H []:=⟨fun _ _ e _=>e,fun _ e=>e,hx⟩;have ch:∀{b:Addr}{ks:List (ar×V)},H b=some (.dK ks)->b≠x:=fun e=>aK e hx (by intro z;cases z);refine⟨_,rfl,c,_,rfl,hc,fun c1 H1 n1 s1 e1=>?_⟩;have S1:=S0.over s1;refine⟨_,rfl,x,T,dx,_,rfl,S1.ob,U.cl,U.nC,(by decide),?_⟩;have S2:eD T dx x H _ (ay azA (.ref c1) []):=S1.put;have JR:c1≠x:=(aL hx n1).symm;have c2:(ah H1 x (.ins T dx (ay azA (.ref c1) []))) c1=some (.dK kvs):=aB e1 JR;refine⟨_,rfl,h,_,rfl,S2.same _ _ hh (ch hh),fun h1 H3 n3 s3 e3=>?_⟩;have S3:=S2.over s3;have Sc:=S2.free _ n3;refine⟨_,rfl,x,T,dx,_,rfl,S3.ob,U.cl,U.nH,few (lp pX) (by decide),?_⟩;have S4:eD T dx x H _ (ay azI (.ref h1) (ay azA (.ref c1) [])):=S3.put;have Sd:h1≠x:=(aL hx Sc).symm;obtain⟨ko,AH,AI⟩:=ho;have EI:Paired (jA (ah H3 x (.ins T dx (ay azI (.ref h1) (ay azA (.ref c1) []))))) ko ow:=aE AI fun kv e z=>by
    obtain⟨z1,t,l1,l2,z2,z3,z4,z5⟩:=z;exact⟨z1,t,l1,l2,z2,S4.same _ _ z3 (aK z3 hx (by intro z;cases z)),S4.same _ _ z4 (aK z4 hx (by intro z;cases z)),S4.same _ _ z5 (aK z5 hx (by intro z;cases z))⟩
   refine⟨_,rfl,o,ko,ow,rfl,S4.same _ _ AH (ch AH),EI,nd,xp,fun o1 H5 JS n5 s5 e5 fF=>?_⟩;have S5:=S4.over s5;have Se:=S4.free _ n5;refine⟨_,rfl,x,T,dx,_,rfl,S5.ob,U.cl,U.nO,few (lp (lp pX)) (by decide),?_⟩;have o1x:o1≠x:=(aL hx Se).symm;have S6:eD T dx x H _ (ay azT (.ref o1) (ay azI (.ref h1) (ay azA (.ref c1) []))):=S5.put;refine q _ _ c1 h1 o1 JS S6.same S6.ob ?_ ?_ ?_ n1 Sc Se (aB (s5 _ _ (aB (s3 _ _ c2) JR)) JR) (aB (s5 _ _ (aB e3 Sd)) Sd) (aB e5 o1x) (aE fF fun kv e z=>?_)
   . rw[cx,ai (by decide +kernel),cx,ai (by decide +kernel),cx,al rfl]
   . rw[cx,ai (by decide +kernel),cx,al rfl]
   . rw[cx,al rfl]
   . obtain⟨z1,t,l1,l2,z2,m1,m2,m3,z3,z4,z5⟩:=z;have fx:∀{b:Addr}{z:HO},H5 b=some z->(∀fs,z≠.ins T dx fs)->b≠x:=fun e hz=>aK e S5.ob (hz _);exact⟨z1,t,l1,l2,z2,S4.free _ m1,S4.free _ m2,S4.free _ m3,aB z3 (fx z3 (by intro fs z;cases z)),aB z4 (fx z4 (by intro fs z;cases z)),aB z5 (fx z5 (by intro fs z;cases z))⟩
theorem JT{H:Hp}{Q:Addr->Hp->Prop}{E:XK}{ch:Ch}{cs:Cs}{ow:Ow}(hc:db H c ch)(hh:xn H h cs)(ho:si H o ow)(nd:(ow.map (·.1)).Nodup)(xp:ow.length<=100)(q:∀x H',H x=none->ag H H'->(∀L,jt H L->gK T (msk L H') (.ref x) ch cs ow)->Q x H') :
 ∀x dx,H x=none->H dx=none->dx≠x->xq T (.ref x::([.ref c,.ref h,.ref o]++[])) (ah (ah H dx (.own x)) x (.ins T dx [])) (fun v H2=>v=.non/\Q x H2) E:=by
 intro x dx hx uV nx;have s1:ag H (ah (ah H dx (.own x)) x (.ins T dx [])):=fV (fU uV) hx;obtain⟨kvs,e1,e2⟩:=hc;obtain⟨xr,e3,e4⟩:=hh;refine⟨x,dx,c,h,o,kvs,xr,ow,rfl,aH,s1 _ _ e1,s1 _ _ e3,ho.same s1,nd,xp,fun H' fl c' h' o' ko keep qX l1 l2 l3 n1 n2 n3 g1 g2 g3 g4=>?_⟩;have s2:ag H H':=fun b o e=>keep b o (s1 _ _ e) (aL e hx);refine⟨rfl,q x H' hx s2 fun L hL=>⟨x,dx,fl,c',h',o',rfl,cJ (hL.free hx) qX,l1,l2,l3,⟨kvs,cJ (hL.free (s1.free n1)) g1,aE e2 fun kv e z=>?_⟩,⟨xr,cJ (hL.free (s1.free n2)) g2,e4⟩,⟨ko,cJ (hL.free (s1.free n3)) g3,aE g4 fun kv e z=>?_⟩⟩⟩
 . obtain⟨a,m,b,c⟩:=z;exact⟨a,m,b,cJ (hL.tup c) (s2 _ _ c)⟩
 . obtain⟨z1,t,l1,l2,z2,m1,m2,m3,z3,z4,z5⟩:=z;exact⟨z1,t,l1,l2,z2,cJ (hL.free (s1.free m1)) z3,cJ (hL.free (s1.free m2)) z4,cJ (hL.free (s1.free m3)) z5⟩
end K63
namespace K63
end K63
namespace L2
open PySem PySem.Spec
theorem Sf{X:Cx}(K:Fg){T id:String}{name:Str}{r:V->Lv->Hp->VK->Prop}{o e:Expr}{es:List Expr}{to:TE}{t:TA}{apos cM:Pos}(pa:PlainAttrs T)(slot:Slot T name id)(HD:typeOf (.builtin id)=pure (.type "method_descriptor"))(hm:Pe X id r)(ho:PE X o to)(ha:PA X (e::es) t)(h:X.K=K:=by rfl)
 (uh:attributeBase o name X.env (eval o X.env)=eval o X.env:=by rfl)
 (HE:((backTo cM (starEach (e::es) X.env)).all (fun x=>!x.1) && (backToKw cM (keywordEach [] X.env)).all (fun x=>x.1.isSome)
  && decide ((e::es).length+([]:List Keyword).length+(if ([]:List Keyword).isEmpty then 0 else 1)<30))=true:=by rfl)
 (ui:(apos.endLine == cM.line)=true:=by rfl) (hs:starEach (e::es) X.env=(false,eval e X.env)::starEach es X.env:=by rfl) (HF:(backTo cM (starEach es X.env)).any (·.1)=false:=by rfl) :
 PE X (.Call (.Attribute o name apos) (e::es) [] cM) (Pn K T r to t):=by
 subst h;exact dj pa slot HD hm ho ha uh HE ui hs HF
theorem Sg{X:Cx}(K:Fg)(h:X.K=K:=by rfl):pL X "str.join" (Qe K):=h▸wJ
end L2
namespace K63
open PySem L2 PySem.Spec PyProof.Rows
variable {P:Program}{w:World}{K:Fg}{mg:Mv}{base:Heap}
structure EJ(ch:Ch)(cs:Cs)(ow:Ow):Prop where
 nch:ch.length<64
 ncs:cs.length<64
 now:ow.length<64
 dch:(ch.map (·.1)).Nodup
 dcs:(cs.map (·.1)).Nodup
 dow:(ow.map (·.1)).Nodup
 ch:∀e∈ch,e.1.length<=60/\AF e.2
 cs:∀e∈cs,e.1.length<=60/\e.2.length<=60
 ow:∀e∈ow,e.1.length<=60/\e.2.1.length<=60/\e.2.2.length<=60/\(∀x∈e.2.1,x.length<=60)/\∀x∈e.2.2,x.length<=60
theorem uW(sep:Str)(ps:Ls):Txt.join sep ps=Str.join sep ps:=Ck _ _
theorem Sh(p:Str):(Str.ofString "own ")++p=Str.join spS [dB,p]:=by
 show _=dB++spS++p;rw[show(Str.ofString "own ")=dB++spS by decide +kernel]
theorem JU{sep:Str}{ps:Ls}{b:Nat}(h:∀p∈ps,p.length<=b)(hs:sep.length<=1):(Str.join sep ps).length<=ps.length * (b+1):=by
 rw[←uW];refine cu C6 ?_;have:=zD h;have h2:ps.length * sep.length<=ps.length * 1:=Nat.mul_le_mul_left _ hs;rw[Nat.mul_add];omega
def Si:Sp:=fun vs H Q _=>∃(p:Str) (t l1 l2:Addr) (b m:Ls),vs=[.str p,.ref t]/\H t=some (.tup [.ref l1,.ref l2])/\H l1=some (.lst (b.map V.str))/\H l2=some (.lst (m.map V.str))/\p.length<=60/\b.length<=60/\m.length<=60/\(∀x∈b,x.length<=60)/\(∀x∈m,x.length<=60) /\
 ∀l H',H l=none->ag H H'->H' l=some (.lst ((dM (p,(b,m))).map V.str))->Q (.ref l) H'
theorem Sj:aP [azC,az1,"rows"] [azC,az1] (aA Eh):=aZ
theorem amN(F:bB K "change_rows" Eh f fd):aj P w K mg base ak 1 f fd [azC,az1] Si:=by
 refine F.okL Sj ?_
 . intro aw A outer s H vs Q E hr h xX dX;obtain⟨p,t,l1,l2,b,m,rfl,ht,h1,h2,hp,hb,hm,hbx,hmx,q⟩:=h;refine⟨_,(am (aJ (i:=2) Sj.nd rfl (Or.inl rfl) (df (aa (zJ bV (zI (pv 0))) ac)))
    (am (cp (dj iO qU qV nW (pv 2) (aa (gF ["line"] [] [] eA rfl (cQ (bJ eO (pv 1) aq (fun _ _=>rfl))) (fun _ _ _ _=>(bc (i:=0) (show List.Nodup (["line"]:Ls) by decide +kernel) rfl (Or.inl rfl))) (fun _ _ _ _=>iB) (fun _ _ _ _=>(zJ bV (zI (pv 0))))) ac)))
    (am (cp (dj iO qU qV nW (pv 2) (aa (gF ["line"] [] [] eA rfl (cQ (bJ eO (pv 1) aq (fun _ _=>rfl))) (fun _ _ _ _=>(bc (i:=0) (show List.Nodup (["line"]:Ls) by decide +kernel) rfl (Or.inl rfl))) (fun _ _ _ _=>iB) (fun _ _ _ _=>(zJ bV (zI (pv 0))))) ac)))
    (av (aV (pv 2)))))),?_⟩
   refine j6 ?_;intro dD sS oH fE dP;have z0:cy [V.ref l1,V.ref l2] 0=some (V.ref l1):=rfl;have z1:cy [V.ref l1,V.ref l2] 1=some (V.ref l2):=rfl;have e4:(Str.ofString "own ").length=4:=by decide +kernel
   refine⟨_,rfl,eS (by rw[e4];omega),_,rfl,_,rfl,eS (by omega),_,rfl,eS (by rw[e4];omega),(by show 1<=sizeLine;decide),fun r H1 n1 s1 e1=>?_⟩;refine⟨_,rfl,.inl ⟨rfl,_,ae.of e1⟩,_,rfl,t,_,_,_,rfl,rfl,aX.of (s1 _ _ ht),z0,l1,rfl,⟨_,ae.of (s1 _ _ h1)⟩,?_⟩;refine zY (σ0:=[none]) (ae.of (s1 _ _ h1)) (fun σ=>∃v,σ=[v]) ((b.map (eP ++ ·)).map V.str) (by rw[ao,ao,ao]) (eS (by rw[ao];omega)) ⟨_,rfl⟩ ?_ ?_
   . intro i z y σ H2 k hz hy hQ hs hk;obtain⟨v,rfl⟩:=hQ;obtain⟨x,hx,rfl⟩:=jz hz;rw[pA]at hy;obtain⟨x',gW,rfl⟩:=jz hy;rw[hx]at gW;cases gW;have:=hbx x (eg hx);exact⟨_,rfl,eS (by show eP.length<=_;rw[oG];decide),_,rfl,_,rfl,eS (by omega),_,rfl,eS (by show eP.length+_<=_;rw[oG,pO];omega),hk _ _ ⟨_,rfl⟩ (ag.refl _)⟩
   intro D1 H2 n2 e2 s2;refine⟨r,D1,_,_,rfl,rfl,s2 _ _ e1,e2,eS (by simp only[ao,cg,kL];omega),?_⟩;have bU:=s1.trans s2;have nr:∀{c:Addr}{o:HO},H c=some o->c≠r:=fun e=>aL e n1;have k3:∀{c:Addr}{o:HO}{o':HO},H c=some o->ah H2 r o' c=some o:=fun e=>aB (bU _ _ e) (nr e);refine⟨_,rfl,.inl ⟨rfl,_,ae.of aH⟩,_,rfl,t,_,_,_,rfl,rfl,aX.of (k3 ht),z1,l2,rfl,⟨_,ae.of (k3 h2)⟩,?_⟩;refine zY (σ0:=[none]) (ae.of (k3 h2)) (fun σ=>∃v,σ=[v]) ((m.map (eR ++ ·)).map V.str) (by rw[ao,ao,ao]) (eS (by rw[ao];omega)) ⟨_,rfl⟩ ?_ ?_
   . intro i z y σ H3 k hz hy hQ hs hk;obtain⟨v,rfl⟩:=hQ;obtain⟨x,hx,rfl⟩:=jz hz;rw[pA]at hy;obtain⟨x',gW,rfl⟩:=jz hy;rw[hx]at gW;cases gW;have:=hmx x (eg hx);exact⟨_,rfl,eS (by show eR.length<=_;rw[pZ];decide),_,rfl,_,rfl,eS (by omega),_,rfl,eS (by show eR.length+_<=_;rw[pZ,pO];omega),hk _ _ ⟨_,rfl⟩ (ag.refl _)⟩
   intro D2 H3 n3 e3 s3;refine⟨r,D2,_,_,rfl,rfl,s3 _ _ aH,e3,eS (by simp only[ao,cg,kL,bj];omega),?_⟩;refine⟨_,rfl,q r _ n1 (fun c o e=>aB (s3 _ _ (k3 e)) (nr e)) ?_⟩;rw[aH];unfold dM;rw[dz,dz,←Sh];rfl
def uX(T:Addr):Sp:=fun vs H Q _=>∃(v:V) (ch:Ch) (cs:Cs) (ow:Ow),vs=[v]/\gK T H v ch cs ow/\EJ ch cs ow /\
 ∀bq bv bi H',dN ch bq->dN cs bv->dN ow bi->ag H H'->Q (.str (Str.join j8 (ff bq bv bi))) H'
theorem JV:aP [azM,"rows",azC] [azM] (aA xa):=aZ
theorem Sk{a b c:Str}(ha:a.length<=10)(hb:b.length<=60)(hc:c.length<=60):(([a,b,c].map (·.length)).sum + [a,b,c].length * spS.length)<=16777216:=by
 rw[show spS.length=1 by decide +kernel];simp only[bL,Cf,List.sum_cons,List.sum_nil,cg,kL];omega
theorem Sl{ms:List Int}(h:AF ms):(jy ms).length<=60:=by
 unfold jy;rw[←uW];refine cu C6 ?_;have:=Sa h;have:=h.1;rw[show jw.length=1 by decide +kernel,ao];omega
theorem Sm{a b c:Str}(ha:a.length<=10)(hb:b.length<=60)(hc:c.length<=60):(Str.join spS [a,b,c]).length<=133:=by
 show(a++spS++(b++spS++c)).length<=133;simp only[jY,show spS.length=1 by decide +kernel];omega
theorem Sn{ch:Ch}{cs:Cs}{ow:Ow}(bd:EJ ch cs ow){bq:Ch}{bv:Cs}{bi:Ow}(kf:bq.Perm ch)(mI:bv.Perm cs)(kj:bi.Perm ow):(ff bq bv bi).length<=64+64+64 * 121/\∀y∈ff bq bv bi,y.length<=140:=by
 refine⟨?_,fun y hy=>?_⟩
 . have:∀(l:Ow),(∀e∈l,e∈ow)->(l.flatMap dM).length<=l.length * 121:=by
    intro l
    induction l with
    | nil=>intro _;exact dG _
    | cons e l ih=>
     intro hm;have h1:=ih fun x hx=>hm x (bR _ hx);obtain⟨_,h2,h3,_⟩:=bd.ow e (hm e bK);rw[GZ,bj,cg];have:(dM e).length<=121:=by
      unfold dM;simp only[bj,ao,cg,kL];omega
     omega
   have h3:=this bi fun e he=>kj.mem_iff.mp he;have a1:=kf.length_eq;have a2:=mI.length_eq;have a3:=kj.length_eq;have b1:=bd.nch;have b2:=bd.ncs;have b3:=bd.now;have h4:bi.length * 121<=64 * 121:=Oj _ (by omega);unfold ff;rw[bj,bj,ao,ao];omega
 . unfold ff at hy
   rcases bS.mp hy with hy | hy
   . rcases bS.mp hy with hy | hy
     . obtain⟨e,he,rfl⟩:=cD.mp hy;obtain⟨k1,k2⟩:=bd.ch e (kf.mem_iff.mp he);have:=Sm (a:=fD) (by decide +kernel) k1 (Sl k2);unfold ie;omega
     . obtain⟨e,he,rfl⟩:=cD.mp hy;obtain⟨k1,k2⟩:=bd.cs e (mI.mem_iff.mp he);have:=Sm (a:=fe) (by decide +kernel) k1 k2;unfold gJ;omega
   . obtain⟨e,he,hy⟩:=yS.mp hy;obtain⟨j1,j2,j3,j4,j5⟩:=bd.ow e (kj.mem_iff.mp he);unfold dM at hy
     rcases bS.mp hy with hy | hy
     . rcases bS.mp hy with hy | hy
       . rw[bw.mp hy,←Sh,jY,show(Str.ofString "own ").length=4 by decide +kernel];omega
       . obtain⟨x,hx,rfl⟩:=cD.mp hy;have:=j4 x hx;show(eP++x).length<=140;rw[jY,oG,pO];omega
     . obtain⟨x,hx,rfl⟩:=cD.mp hy;have:=j5 x hx;show(eR++x).length<=140;rw[jY,pZ,pO];omega
theorem amQ{ch:Ch}{cs:Cs}{ow:Ow}(bd:EJ ch cs ow){bq:Ch}{bv:Cs}{bi:Ow}(kf:bq.Perm ch)(mI:bv.Perm cs)(kj:bi.Perm ow):((ff bq bv bi).map (·.length)).sum+(ff bq bv bi).length * j8.length<=16777216:=by
 obtain⟨h1,h2⟩:=Sn bd kf mI kj;have:=zD h2;rw[show j8.length=1 by decide +kernel];omega
theorem amR(F:bB K aAn xa f fd)(U:sf K mg T)(B:b9 mg)(xu:aO K mg "make_shown" D3 JW JY)(xv:aO K mg "change_rows" Eh JX JZ) :
 aj P w K mg base ak 2 f fd [azM] (uX T):=by
 have amS:aj P w K mg base ak 1 JW JY [azH] R9:=amc xu.u B;have amT:=xu.u.binds1 (l:=[azH]) (fun _ _ _ _ _ _ _=>rfl);have amU:aj P w K mg base ak 1 JX JZ [azC,az1] Si:=amN xv.u;have amV:=xv.u.binds2 (l:=[azC,az1]) (fun _ _ _ _ _ _ _ _=>rfl);refine F.okL JV ?_
 . intro aw A outer s H vs Q E hr h xX dX;obtain⟨v,ch,cs,ow,rfl,hS,bd,q⟩:=h;have hu:=hr.units;obtain⟨a,dx,fl,c,h,o,rfl,ha,f1,f2,f3,⟨kc,So,J2⟩,⟨kh,Sq,J3⟩,⟨ko,AH,AI⟩⟩:=hS;refine⟨_,(am (rA (i:=1) [azE] [azM] [0] JV.nd rfl rfl eA rfl (cQ (dJ (C9 rfl) (by rfl) B.sorted yV (aa (cU (pv 0) rfl) ac))) (fun _ _ _ _=>(bc (i:=0) (show List.Nodup ([azE,azM]:Ls) by decide +kernel) rfl (Or.inl rfl))) (fun _ _ _ _=>iB) (fun _ _ _ _=>(Sf K ny yT yU (Sg K) bV (aa (df (aa bV (aa (pv 0) (aa (mo amS hr (by rfl) xu.m xu.u.kp amT .nil fA (aa (rn hu (iD K (pv 1) rfl) (pv 0) (fun _ _=>rfl)) ac)) ac)))) ac))))
    (am (cp (dj iO qU qV nW (pv 1) (aa (gF [az3] [azM] [0] eA rfl (cQ (dJ (C9 rfl) (by rfl) B.sorted yV (aa (cU (pv 0) rfl) ac))) (fun _ _ _ _=>(bc (i:=0) (show List.Nodup ([az3,azM]:Ls) by decide +kernel) rfl (Or.inl rfl))) (fun _ _ _ _=>iB) (fun _ _ _ _=>(Sf K ny yT yU (Sg K) bV (aa (df (aa bV (aa (pv 0) (aa (rn hu (iD K (pv 1) rfl) (pv 0) (fun _ _=>rfl)) ac)))) ac)))) ac)))
    (am (eJ eI rfl (cQ (dJ (C9 rfl) (by rfl) B.sorted yV (aa (cU (pv 0) rfl) ac))) (bc (i:=2) JV.nd rfl (Or.inl rfl))
     (av (cp (dj iO qU qV nW (pv 1) (aa (mo amU hr (by rfl) xv.m xv.u.kp amV .nil fA (aa (pv 2) (aa (rn hu (cU (pv 0) rfl) (pv 2) (fun _ _=>rfl)) ac))) ac)))))
    (av (aV (dj ny yT yU wJ bV (aa (pv 1) ac))))))),?_⟩
   refine j6 ?_;intro dD sS oH fE dP;have Sr:∀kv f,dr H kv f->kv.1=Sum.inr f.1:=fun kv f z=>z.1;have Ss:∀kv f,uT kv f->kv.1=Sum.inr f.1:=fun kv f z=>z.1;have Du:∀kv f,jA H kv f->kv.1=Sum.inr f.1:=fun kv f z=>z.1;have lc:=bC J2;have lh:=bC J3;have lo:=bC AI;have b1:=bd.nch;have b2:=bd.ncs;have b3:=bd.now;refine⟨_,rfl,a,T,dx,fl,_,rfl,ha,U.cl,U.nC,f1,c,kc,_,rfl,So,uJ Sr J2,by omega,fun ys hp hs l1 H1 n1 s1 e1=>⟨l1,rfl,⟨_,ae.of e1⟩,?_⟩⟩;obtain⟨bq,kf,mp1⟩:=JE hp rfl;subst mp1;have y1:bq.length=ch.length:=kf.length_eq;refine zY (σ0:=[none,some (.ref a)]) (ae.of e1) (fun σ=>∃v,σ=[v,some (.ref a)]) ((bq.map ie).map V.str) (by rw[ao,ao,ao,ao]) (eS (by rw[ao,ao];omega)) ⟨_,rfl⟩ ?_ ?_
   . intro i z y σ H2 k hz hy hQ tX hk;obtain⟨v,rfl⟩:=hQ;rw[pA]at hz hy;obtain⟨e,he,rfl⟩:=jz hz;obtain⟨e',mz,rfl⟩:=jz hy;rw[he]at mz;cases mz;have mJ:e∈ch:=kf.mem_iff.mp (eg he);obtain⟨u,ms,g1,g2,_,m,g4,g3⟩:=rO Sr J2 (gf (f:=(·.1)) mJ);have g4:u=.ref m:=g4;subst g4;have em:ms=e.2:=oE bd.dch g2 (by exact mJ);subst em;have bU:=s1.trans tX;obtain⟨k1,k2⟩:=bd.ch e mJ;refine⟨rfl,_,rfl,_,rfl,a,T,dx,fl,_,rfl,bU _ _ ha,U.cl,U.nC,f1,_,rfl,c,_,rfl,(by rw[←g1];exact c8.k (k:=.inr e.1) (bU _ _ So)),?_⟩;refine⟨m,e.2,rfl,bU _ _ g3,k2,fun H3 s3=>?_⟩;refine⟨(by show 3<=sizeLine;decide),fun r H4 n4 s4 e4=>?_⟩;refine⟨spS,r,[fD,e.1,jy e.2],rfl,rfl,ae.of e4,Sk (by decide +kernel) k1 (Sl k2),?_⟩;have fC:=hk [some (.str e.1),some (.ref a)] H4 ⟨_,rfl⟩ (s3.trans s4);rw[uW];exact fC
   intro D1 H2 n2 e2 s2;have bU:=s1.trans s2;have Su:H D1=none:=s1.free n2;refine⟨_,rfl,.inl ⟨rfl,_,ae.of e2⟩,_,rfl,a,T,dx,fl,_,rfl,bU _ _ ha,U.cl,U.nH,f2,h,kh,_,rfl,bU _ _ Sq,uJ Ss J3,by omega,fun ys2 HH amX l2 H3 n3 s3 e3=>⟨l2,rfl,⟨_,ae.of e3⟩,?_⟩⟩;obtain⟨bv,mI,mp2⟩:=JE HH rfl;subst mp2;have y2:bv.length=cs.length:=mI.length_eq;have fX:=bU.trans s3;refine zY (σ0:=[none,some (.ref a)]) (ae.of e3) (fun σ=>∃v,σ=[v,some (.ref a)]) ((bv.map gJ).map V.str) (by rw[ao,ao,ao,ao]) (eS (by rw[ao,ao];omega)) ⟨_,rfl⟩ ?_ ?_
   . intro i z y σ H4 k hz hy hQ hs4 hk;obtain⟨v,rfl⟩:=hQ;rw[pA]at hz hy;obtain⟨e,he,rfl⟩:=jz hz;obtain⟨e',mz,rfl⟩:=jz hy;rw[he]at mz;cases mz;have mJ:e∈cs:=mI.mem_iff.mp (eg he);obtain⟨u,nm,g1,g2,_,g4⟩:=rO Ss J3 (gf (f:=(·.1)) mJ);have g4:u=.str nm:=g4;subst g4;have em:nm=e.2:=oE bd.dcs g2 (by exact mJ);subst em;have sj:=fX.trans hs4;obtain⟨k1,k2⟩:=bd.cs e mJ;refine⟨rfl,_,rfl,_,rfl,a,T,dx,fl,_,rfl,sj _ _ ha,U.cl,U.nH,f2,_,rfl,h,_,rfl,(by rw[←g1];exact c8.k (k:=.inr e.1) (sj _ _ Sq)),?_⟩;refine⟨(by show 3<=sizeLine;decide),fun r H5 n5 s5 e5=>?_⟩;refine⟨spS,r,[fe,e.1,e.2],rfl,rfl,ae.of e5,Sk (by decide +kernel) k1 k2,?_⟩;have fC:=hk [some (.str e.1),some (.ref a)] H5 ⟨_,rfl⟩ s5;rw[uW];exact fC
   intro D2 H4 n4 e4 s4;have sj:=fX.trans s4;refine⟨D1,D2,_,_,rfl,rfl,s4 _ _ (s3 _ _ e2),e4,eS (by simp only[ao];omega),?_⟩;have k5:∀{b:Addr}{z o':HO},H b=some z->ah H4 D1 o' b=some z:=fun e=>aB (sj _ _ e) (aL e Su);refine⟨_,rfl,a,T,dx,fl,_,rfl,k5 ha,U.cl,U.nO,f3,o,ko,_,rfl,k5 AH,uJ Du AI,by omega,fun ys3 hp3 am1 l3 H6 n6 s6 e6=>⟨l3,rfl,⟨_,ae.of e6⟩,?_⟩⟩;obtain⟨bi,kj,mp3⟩:=JE hp3 rfl;subst mp3;have y3:bi.length=ow.length:=kj.length_eq;have f6:H6 D1=some (.lst ((bq.map ie++bv.map gJ).map V.str)):=by
    rw[dz];exact s6 _ _ aH
   have k6:∀{b:Addr}{z:HO},H b=some z->H6 b=some z:=fun e=>s6 _ _ (k5 e);have l3D:l3≠D1:=fun z=>by
    subst z;rw[aH]at n6;cases n6
   have rl:∀i,((bi.take i).flatMap dM).length<=64 * 121:=fun i=>by
    have:∀(l:Ow),(∀e∈l,e∈ow)->(l.flatMap dM).length<=l.length * 121:=by
     intro l
     induction l with
     | nil=>intro _;exact dG _
     | cons e l ih=>
      intro hm;have h1:=ih fun x hx=>hm x (bR _ hx);obtain⟨_,h2,h3,_⟩:=bd.ow e (hm e bK);rw[GZ,bj,cg];have:(dM e).length<=121:=by
       unfold dM;simp only[bj,ao,cg,kL];omega
      omega
    refine cu (this _ fun e he=>kj.mem_iff.mp (NZ he)) ?_;rw[eG];have:min i bi.length<=64:=by omega
    exact Oj _ this
   refine iT (xs:=(bi.map (·.1)).map V.str) (fun i σ H7=>∃u,σ=[some (.ref a),some (.ref D1),u]/\(∀b z,H b=some z->H7 b=some z)/\H7 l3=some (.lst ((bi.map (·.1)).map V.str))/\H7 D1=some (.lst ((bq.map ie++bv.map gJ++(bi.take i).flatMap dM).map V.str))) ⟨none,rfl,fun b z e=>k6 e,e6,by rw[List.take_zero,List.flatMap_nil,lX];exact f6⟩ ?_ ?_ ?_
   . intro i σ H7 hi hQ;obtain⟨u,rfl,_,h7,_⟩:=hQ;exact ae.of h7
   . intro i z σ H7 hz hQ;obtain⟨u,rfl,k7,l7,d7⟩:=hQ;rw[pA]at hz;obtain⟨e,he,rfl⟩:=jz hz;have mJ:e∈ow:=kj.mem_iff.mp (eg he);obtain⟨u2,bm,g1,g2,_,t,q1,q2,g4,g5,g6,g7⟩:=rO Du AI (gf (f:=(·.1)) mJ);have g4:u2=.ref t:=g4;subst g4;have em:bm=e.2:=oE bd.dow g2 (by exact mJ);subst em;obtain⟨j1,j2,j3,j4,j5⟩:=bd.ow e mJ;refine⟨_,rfl,.inl ⟨rfl,_,ae.of d7⟩,_,rfl,_,rfl,a,T,dx,fl,_,rfl,k7 _ _ ha,U.cl,U.nO,f3,_,rfl,o,_,rfl,(by rw[←g1];exact c8.k (k:=.inr e.1) (k7 _ _ AH)),?_⟩;refine⟨e.1,t,q1,q2,e.2.1,e.2.2,rfl,k7 _ _ g5,k7 _ _ g6,k7 _ _ g7,j1,j2,j3,j4,j5,fun r H8 n8 s8 e8=>?_⟩;have rl1:=rl i;refine⟨D1,r,_,_,rfl,rfl,s8 _ _ d7,e8,eS ?_,?_⟩
     . have:(dM e).length<=121:=by
        unfold dM;simp only[bj,ao,cg,kL];omega
       rw[ao,ao,bj,bj,ao,ao];show _+(dM (e.1,(e.2.1,e.2.2))).length<=_;have e0:(dM (e.1,(e.2.1,e.2.2)))=dM e:=rfl;rw[e0];omega
     . refine⟨_,rfl,fun b z hb=>aB (s8 _ _ (k7 _ _ hb)) (aL hb Su),aB (s8 _ _ l7) l3D,?_⟩;rw[aH,gT,he,←dz];show some (HO.lst (List.map V.str (bq.map ie++bv.map gJ++(bi.take i).flatMap dM++dM e)))=some (HO.lst (List.map V.str (bq.map ie++bv.map gJ++(bi.take i++[e]).flatMap dM)));rw[G0,kN (List.map ie bq++List.map gJ bv),List.flatMap_singleton]
   . intro σ H7 hQ;obtain⟨u,rfl,k7,l7,d7⟩:=hQ;rw[ao,ao,eZ]at d7;refine⟨rfl,_,rfl,j8,D1,ff bq bv bi,rfl,rfl,ae.of d7,?_,?_⟩
     . exact amQ bd kf mI kj
     . rw[uW];exact q bq bv bi H7 ⟨kf,hs⟩ ⟨mI,amX⟩ ⟨kj,am1⟩ (fun b z e=>k7 b z e)
theorem am4{p:Str}(h:(wX p).isSome=true):wW p=true/\0<p.length/\p.length<=10/\(NumText.digitsVal p.cps.toList:Int)<=1000000000:=by
 unfold wX at h;split at h
 . rename_i h1;obtain⟨h2,h3⟩:=yN.mp h1;have h2:=cT h2;split at h
   . cases h
   . split at h
     . cases h
     . exact⟨h3,h2.1,h2.2,by omega⟩
 . cases h
theorem am5{t:Str}(h:uK t=true):(Txt.split t jw).length<=3/\∀p∈Txt.split t jw,(wX p).isSome=true:=by
 unfold uK at h;obtain⟨h1,h2⟩:=yN.mp h;exact⟨cT h1,jk.mp h2⟩
theorem am6{row:Str}(h:jx row=true)(h1:Txt.startswith row eP=false)(h2:Txt.startswith row eR=false) :
 (∃p,Txt.split row spS=[dB,p])\/(∃n x,Txt.split row spS=[fD,n,x]/\uK x=true)\/∃n x,Txt.split row spS=[fe,n,x]:=by
 unfold jx at h;rw[h1,h2,tI,ai (by decide)]at h;generalize Txt.split row spS=ws at h
 match ws,h with
 | [w,p],h=>
  have h:=cT (yN.mp h).1;rw[h];exact .inl ⟨p,rfl⟩
 | [w,n,x],h=>
  obtain⟨_,h⟩:=yN.mp h
  by_cases hw:w=fD
  . rw[al hw]at h;rw[hw];exact .inr (.inl ⟨n,x,rfl,h⟩)
  . rw[ai hw]at h;have h:=cT (yN.mp h).1;rw[h];exact .inr (.inr ⟨n,x,rfl⟩)
def oI(H7:Hp)(ck:Option Str)(ct cq cr:Addr)(b m:Ls)(kv:ar×V)(e:Str×(Ls×Ls)):Prop:=
 kv.1=.inr e.1/\((ck=some e.1/\kv.2=.ref ct/\e.2=(b,m))\/(ck≠some e.1/\∃t l1 l2,kv.2=.ref t/\H7 t=some (.tup [.ref l1,.ref l2])/\H7 l1=some (.lst (e.2.1.map V.str))/\H7 l2=some (.lst (e.2.2.map V.str))/\l1≠cq/\l1≠cr/\l2≠cq/\l2≠cr))
structure fk(H H7:Hp)(dc dh dO ct cq cr:Addr)(s:Nt):Prop where
 old:∀b z,H b=some z->H7 b=some z
 nc:H dc=none
 nh:H dh=none
 no:H dO=none
 n1:H cq=none
 n2:H cr=none
 d1:dc≠dh
 d2:dc≠dO
 d3:dh≠dO
 d4:cq≠cr
 ch:∃kc,H7 dc=some (.dK kc)/\Paired (dr H7) kc s.ch
 cs:∃kh,H7 dh=some (.dK kh)/\Paired uT kh s.cs
 hct:H7 ct=some (.tup [.ref cq,.ref cr])
 c1:H7 cq=some (.lst (s.b.map V.str))
 c2:H7 cr=some (.lst (s.m.map V.str))
 ow:∃ko,H7 dO=some (.dK ko)/\Paired (oI H7 s.ck ct cq cr s.b s.m) ko s.ow
 ck:∀p,s.ck=some p->p∈s.ow.map (·.1)
section
variable {H H7 H8:Hp}{dc dh dO ct cq cr:Addr}{s:Nt}
theorem oI.keep{ck:Option Str}{b m:Ls}{kv:ar×V}{e:Str×(Ls×Ls)}(k:∀c z,H7 c=some z->(∀ks,z≠.dK ks)->c≠cq->c≠cr->H8 c=some z)(h1:∃xs,H7 cq=some (.lst xs))(h2:∃xs,H7 cr=some (.lst xs))(h:oI H7 ck ct cq cr b m kv e):oI H8 ck ct cq cr b m kv e:=by
 obtain⟨a,h⟩:=h;refine⟨a,?_⟩
 rcases h with h | ⟨nk,t,l1,l2,e1,e2,e3,e4,e5,e6,e7,e8⟩
 . exact .inl h
 . obtain⟨x1,h1⟩:=h1;obtain⟨x2,h2⟩:=h2;exact .inr ⟨nk,t,l1,l2,e1,k _ _ e2 (by intro ks z;cases z) (aK e2 h1 (by intro z;cases z)) (aK e2 h2 (by intro z;cases z)),k _ _ e3 (by intro ks z;cases z) e5 e6,k _ _ e4 (by intro ks z;cases z) e7 e8,e5,e6,e7,e8⟩
theorem fk.same(N:fk H H7 dc dh dO ct cq cr s)(sm:ag H7 H8):fk H H8 dc dh dO ct cq cr s where
 old:=fun b z e=>sm _ _ (N.old b z e)
 nc:=N.nc
 nh:=N.nh
 no:=N.no
 n1:=N.n1
 n2:=N.n2
 d1:=N.d1
 d2:=N.d2
 d3:=N.d3
 d4:=N.d4
 ch:=N.ch.elim fun kc am7=>am7.elim fun a b=>⟨kc,sm _ _ a,aE b fun _ _=>dr.same sm⟩
 cs:=N.cs.elim fun kh am8=>am8.elim fun a b=>⟨kh,sm _ _ a,b⟩
 hct:=sm _ _ N.hct
 c1:=sm _ _ N.c1
 c2:=sm _ _ N.c2
 ow:=N.ow.elim fun ko am9=>am9.elim fun a b=>⟨ko,sm _ _ a,aE b fun _ _=>oI.keep (fun _ _ e _ _ _=>sm _ _ e) ⟨_,N.c1⟩ ⟨_,N.c2⟩⟩
 ck:=N.ck
theorem fk.inn(N:fk H H7 dc dh dO ct cq cr s){kc:List (ar×V)}(hc:H7 dc=some (.dK kc)){n:Str}{ms:List Int}{m:Addr}(hm:H7 m=some (.tup (ms.map V.int))) :
 fk H (ah H7 dc (.dK (cz kc (.inr n) (.ref m)))) dc dh dO ct cq cr { s with ch:=bI s.ch n ms }:=by
 have up:∀c z,H7 c=some z->(∀ks,z≠.dK ks)->ah H7 dc (.dK (cz kc (.inr n) (.ref m))) c=some z:=fun c z e hz=>aB e (aK e hc (hz _));obtain⟨kc',a1,a2⟩:=N.ch;rw[hc]at a1;cases a1;obtain⟨kh,b1,b2⟩:=N.cs;obtain⟨ko,o1,o2⟩:=N.ow;exact {
  old:=fun b z e=>aB (N.old b z e) (aL e N.nc)
  nc:=N.nc,nh:=N.nh,no:=N.no,n1:=N.n1,n2:=N.n2,d1:=N.d1,d2:=N.d2,d3:=N.d3,d4:=N.d4
  ch:=⟨_,aH,aE (jv (F:=dr H7) (fun kv f z=>z.1) (x:=n) (ls:=ms) (v:=.ref m) ⟨rfl,m,rfl,hm⟩ a2) fun kv f ana=>ana.elim fun x1 anb=>anb.elim fun x2 anc=>anc.elim fun x3 x4=>⟨x1,x2,x3,up _ _ x4 (by intro ks z;cases z)⟩⟩
  cs:=⟨kh,aB b1 N.d1.symm,b2⟩
  hct:=up _ _ N.hct (by intro ks z;cases z)
  c1:=up _ _ N.c1 (by intro ks z;cases z)
  c2:=up _ _ N.c2 (by intro ks z;cases z)
  ow:=⟨ko,aB o1 N.d2.symm,aE o2 fun _ _=>oI.keep (fun c z e hz _ _=>up c z e hz) ⟨_,N.c1⟩ ⟨_,N.c2⟩⟩
  ck:=N.ck }
theorem fk.cho(N:fk H H7 dc dh dO ct cq cr s){kh:List (ar×V)}(hh:H7 dh=some (.dK kh)){c n:Str} :
 fk H (ah H7 dh (.dK (cz kh (.inr c) (.str n)))) dc dh dO ct cq cr { s with cs:=bI s.cs c n }:=by
 have up:∀b z,H7 b=some z->(∀ks,z≠.dK ks)->ah H7 dh (.dK (cz kh (.inr c) (.str n))) b=some z:=fun b z e hz=>aB e (aK e hh (hz _));obtain⟨kc,a1,a2⟩:=N.ch;obtain⟨kh',b1,b2⟩:=N.cs;rw[hh]at b1;cases b1;obtain⟨ko,o1,o2⟩:=N.ow;exact {
  old:=fun b z e=>aB (N.old b z e) (aL e N.nh)
  nc:=N.nc,nh:=N.nh,no:=N.no,n1:=N.n1,n2:=N.n2,d1:=N.d1,d2:=N.d2,d3:=N.d3,d4:=N.d4
  ch:=⟨kc,aB a1 N.d1,aE a2 fun kv f ane=>ane.elim fun x1 anf=>anf.elim fun x2 ang=>ang.elim fun x3 x4=>⟨x1,x2,x3,up _ _ x4 (by intro ks z;cases z)⟩⟩
  cs:=⟨_,aH,jv (F:=uT) (fun kv f z=>z.1) (x:=c) (ls:=n) (v:=.str n) ⟨rfl,rfl⟩ b2⟩
  hct:=up _ _ N.hct (by intro ks z;cases z)
  c1:=up _ _ N.c1 (by intro ks z;cases z)
  c2:=up _ _ N.c2 (by intro ks z;cases z)
  ow:=⟨ko,aB o1 N.d3.symm,aE o2 fun _ _=>oI.keep (fun c z e hz _ _=>up c z e hz) ⟨_,N.c1⟩ ⟨_,N.c2⟩⟩
  ck:=N.ck }
theorem Sv{ck:Option Str}{b m b' m':Ls}{ko:List (ar×V)}{ow:Ow}(hc:∀p,ck=some p->p∈ow.map (·.1))(k:∀c z,H7 c=some z->c≠cq->c≠cr->H8 c=some z)(h1:∃xs,H7 cq=some (.lst xs))(h2:∃xs,H7 cr=some (.lst xs))
 (h:Paired (oI H7 ck ct cq cr b m) ko ow):Paired (oI H8 ck ct cq cr b' m') ko (ic ow ck (b',m'))/\(ic ow ck (b',m')).map (·.1)=ow.map (·.1):=by
 obtain⟨x1,h1⟩:=h1;obtain⟨x2,h2⟩:=h2;have Sw:∀{t l1 l2:Addr}{e:Ls×Ls},H7 t=some (.tup [.ref l1,.ref l2])/\H7 l1=some (.lst (e.1.map V.str))/\H7 l2=some (.lst (e.2.map V.str))/\l1≠cq/\l1≠cr/\l2≠cq/\l2≠cr->H8 t=some (.tup [.ref l1,.ref l2])/\H8 l1=some (.lst (e.1.map V.str))/\H8 l2=some (.lst (e.2.map V.str))/\l1≠cq/\l1≠cr/\l2≠cq/\l2≠cr:=by
  rintro t l1 l2 e ⟨e2,e3,e4,e5,e6,e7,e8⟩;exact⟨k _ _ e2 (aK e2 h1 (by intro z;cases z)) (aK e2 h2 (by intro z;cases z)),k _ _ e3 e5 e6,k _ _ e4 e7 e8,e5,e6,e7,e8⟩
 cases ck with
 | none=>
  refine⟨aE h fun kv e z=>?_,rfl⟩;obtain⟨a,z⟩:=z
  rcases z with⟨z,_⟩ | ⟨nk,t,l1,l2,e1,z⟩
  . cases z
  . exact⟨a,.inr ⟨nk,t,l1,l2,e1,Sw z⟩⟩
 | some p=>
  have hp:=hc p rfl;have e0:ic ow (some p) (b',m')=ow.map fun f=>if f.1=p then(f.1,(b',m')) else f:=al (rN.mpr hp);refine⟨?_,?_⟩
  . rw[e0];clear e0 hp hc
    induction h with
    | nil=>exact .nil
    | @cons kv e ko ow r t ih=>
     refine .cons ?_ ih;obtain⟨a,z⟩:=r;dsimp only
     by_cases ep:e.1=p
     . rw[al ep]
       rcases z with⟨z1,z2,z3⟩ | ⟨nk,_⟩
       . exact⟨a,.inl ⟨by rw[ep],z2,rfl⟩⟩
       . exact absurd (by rw[ep]) nk
     . rw[ai ep]
       rcases z with⟨z1,z2,z3⟩ | ⟨nk,t,l1,l2,e1,z⟩
       . exact absurd (gz z1).symm ep
       . exact⟨a,.inr ⟨nk,t,l1,l2,e1,Sw z⟩⟩
  . rw[e0,pA];refine Og fun f _=>?_;show(if f.1=p then(f.1,(b',m')) else f).1=f.1;split<;>rfl
theorem fk.les(N:fk H H7 dc dh dO ct cq cr s)(x:Str):fk H (ah H7 cq (.lst (s.b.map V.str++[.str x]))) dc dh dO ct cq cr { s with ow:=ic s.ow s.ck (s.b++[x],s.m),b:=s.b++[x] }:=by
 have up:∀c z,H7 c=some z->c≠cq->ah H7 cq (.lst (s.b.map V.str++[.str x])) c=some z:=fun c z e hc=>aB e hc;have nl:∀{c:Addr}{z:HO},H7 c=some z->(∀xs,z≠.lst xs)->c≠cq:=fun e hz=>aK e N.c1 (hz _);obtain⟨kc,a1,a2⟩:=N.ch;obtain⟨kh,b1,b2⟩:=N.cs;obtain⟨ko,o1,o2⟩:=N.ow;obtain⟨p1,p2⟩:=Sv (H8:=ah H7 cq (.lst (s.b.map V.str++[.str x]))) (b':=s.b++[x]) (m':=s.m) N.ck (fun c z e h1 _=>up c z e h1) ⟨_,N.c1⟩ ⟨_,N.c2⟩ o2;exact {
  old:=fun b z e=>aB (N.old b z e) (aL e N.n1)
  nc:=N.nc,nh:=N.nh,no:=N.no,n1:=N.n1,n2:=N.n2,d1:=N.d1,d2:=N.d2,d3:=N.d3,d4:=N.d4
  ch:=⟨kc,up _ _ a1 (nl a1 (by intro xs z;cases z)),aE a2 fun kv f anh=>anh.elim fun x1 ani=>ani.elim fun x2 anj=>anj.elim fun x3 x4=>⟨x1,x2,x3,up _ _ x4 (nl x4 (by intro xs z;cases z))⟩⟩
  cs:=⟨kh,up _ _ b1 (nl b1 (by intro xs z;cases z)),b2⟩
  hct:=up _ _ N.hct (nl N.hct (by intro xs z;cases z))
  c1:=by rw[aH,uv]
  c2:=up _ _ N.c2 N.d4.symm
  ow:=⟨ko,up _ _ o1 (nl o1 (by intro xs z;cases z)),p1⟩
  ck:=fun p hp=>by
   show p∈(ic s.ow s.ck (s.b++[x],s.m)).map (·.1);rw[p2];exact N.ck p hp }
theorem fk.mor(N:fk H H7 dc dh dO ct cq cr s)(x:Str):fk H (ah H7 cr (.lst (s.m.map V.str++[.str x]))) dc dh dO ct cq cr { s with ow:=ic s.ow s.ck (s.b,s.m++[x]),m:=s.m++[x] }:=by
 have up:∀c z,H7 c=some z->c≠cr->ah H7 cr (.lst (s.m.map V.str++[.str x])) c=some z:=fun c z e hc=>aB e hc;have nl:∀{c:Addr}{z:HO},H7 c=some z->(∀xs,z≠.lst xs)->c≠cr:=fun e hz=>aK e N.c2 (hz _);obtain⟨kc,a1,a2⟩:=N.ch;obtain⟨kh,b1,b2⟩:=N.cs;obtain⟨ko,o1,o2⟩:=N.ow;obtain⟨p1,p2⟩:=Sv (H8:=ah H7 cr (.lst (s.m.map V.str++[.str x]))) (b':=s.b) (m':=s.m++[x]) N.ck (fun c z e _ h1=>up c z e h1) ⟨_,N.c1⟩ ⟨_,N.c2⟩ o2;exact {
  old:=fun b z e=>aB (N.old b z e) (aL e N.n2)
  nc:=N.nc,nh:=N.nh,no:=N.no,n1:=N.n1,n2:=N.n2,d1:=N.d1,d2:=N.d2,d3:=N.d3,d4:=N.d4
  ch:=⟨kc,up _ _ a1 (nl a1 (by intro xs z;cases z)),aE a2 fun kv f ank=>ank.elim fun x1 anl=>anl.elim fun x2 anm=>anm.elim fun x3 x4=>⟨x1,x2,x3,up _ _ x4 (nl x4 (by intro xs z;cases z))⟩⟩
  cs:=⟨kh,up _ _ b1 (nl b1 (by intro xs z;cases z)),b2⟩
  hct:=up _ _ N.hct (nl N.hct (by intro xs z;cases z))
  c1:=up _ _ N.c1 N.d4
  c2:=by rw[aH,uv]
  ow:=⟨ko,up _ _ o1 (nl o1 (by intro xs z;cases z)),p1⟩
  ck:=fun p hp=>by
   show p∈(ic s.ow s.ck (s.b,s.m++[x])).map (·.1);rw[p2];exact N.ck p hp }
theorem ann{β:Type}{G F:ar×V->Str×β->Prop}(hk:∀kv f,G kv f->kv.1=Sum.inr f.1){x:Str}{ls:β}{v:V}(hv:F (.inr x,v) (x,ls))(hg:∀kv f,G kv f->f.1≠x->F kv f){kvs:List (ar×V)}{tr:List (Str×β)}(h:Paired G kvs tr):Paired F (cz kvs (.inr x) v) (bI tr x ls):=by
 have h':Paired (fun kv f=>kv.1=Sum.inr f.1/\(f.1≠x->F kv f)) kvs tr:=aE h fun kv f z=>⟨hk kv f z,hg kv f z⟩;have:=jv (F:=fun kv f=>kv.1=Sum.inr f.1/\(f.1≠x->F kv f)) (fun kv f z=>z.1) (x:=x) (ls:=ls) (v:=v) ⟨rfl,fun z=>absurd rfl z⟩ h';have e:(kvs.any fun kv=>decide (kv.1=Sum.inr x))=(tr.any fun f=>decide (f.1=x)):=by
  clear this
  induction h' with
  | nil=>rfl
  | cons r t ih=>
   cases h with
   | cons _ t0=>
   rw[tJ,tJ,ih t0,r.1]
   congr 1
   exact Cr.mpr ⟨fun z=>nu z,fun z=>by rw[z]⟩
 clear this;unfold cz bI;rw[e];split
 . rename_i hh;clear hh e h
   induction h' with
   | nil=>exact .nil
   | @cons kv f kvs tr r t ih=>
    refine .cons ?_ ih;have hr:=r.1;dsimp only
    by_cases hx:f.1=x
    . have Ag:kv.1=Sum.inr x:=by rw[hr,hx]
      rw[al Ag,al hx,Ag,hx];exact hv
    . rw[ai (fun z=>hx (nu (hr.symm.trans z))),ai hx];exact r.2 hx
 . rename_i hh;refine ju hv ?_;have hn:x∉tr.map (·.1):=fun z=>hh (rN.mpr z);clear hh e h
   induction h' with
   | nil=>exact .nil
   | @cons kv f kvs tr r t ih=>
    rw[bL,aY,py]at hn;exact .cons (r.2 fun z=>hn.1 z.symm) (ih hn.2)
theorem fk.own(N:fk H H7 dc dh dO ct cq cr s){EK q1 q2:Addr}(sm:ag H7 H8)(f1:H7 q1=none)(f2:H7 q2=none)(ne:q1≠q2)(g1:H8 q1=some (.lst []))(g2:H8 q2=some (.lst []))(g3:H8 EK=some (.tup [.ref q1,.ref q2])){ko:List (ar×V)}(ho:H8 dO=some (.dK ko))(p:Str) :
 fk H (ah H8 dO (.dK (cz ko (.inr p) (.ref EK)))) dc dh dO EK q1 q2 { s with ow:=bI s.ow p ([],[]),ck:=some p,b:=[],m:=[] }:=by
 have fr:∀b,H7 b=none->H b=none:=fun b e=>by
  cases hb:H b with
  | none=>rfl
  | some z=>rw[N.old b z hb]at e;cases e
 have up:∀c z,H8 c=some z->(∀ks,z≠.dK ks)->ah H8 dO (.dK (cz ko (.inr p) (.ref EK))) c=some z:=fun c z e hz=>aB e (aK e ho (hz _));obtain⟨kc,a1,a2⟩:=N.ch;obtain⟨kh,b1,b2⟩:=N.cs;obtain⟨JS,o1,o2⟩:=N.ow;have Sx:=sm _ _ o1;rw[ho]at Sx;cases Sx;exact {
  old:=fun b z e=>aB (sm _ _ (N.old b z e)) (aL e N.no)
  nc:=N.nc,nh:=N.nh,no:=N.no,n1:=fr _ f1,n2:=fr _ f2,d1:=N.d1,d2:=N.d2,d3:=N.d3,d4:=ne
  ch:=⟨kc,aB (sm _ _ a1) N.d2,aE a2 fun kv f ano=>ano.elim fun x1 anp=>anp.elim fun x2 anq=>anq.elim fun x3 x4=>⟨x1,x2,x3,up _ _ (sm _ _ x4) (by intro ks z;cases z)⟩⟩
  cs:=⟨kh,aB (sm _ _ b1) N.d3,b2⟩
  hct:=up _ _ g3 (by intro ks z;cases z)
  c1:=up _ _ g1 (by intro ks z;cases z)
  c2:=up _ _ g2 (by intro ks z;cases z)
  ow:=⟨_,aH,ann (G:=oI H7 s.ck ct cq cr s.b s.m) (fun kv f z=>z.1) ⟨rfl,.inl ⟨rfl,rfl,rfl⟩⟩ (fun kv f z hf=>by
   obtain⟨z1,z⟩:=z;have sk:∀{l:Addr}{xs:Lv},H7 l=some (.lst xs)->l≠q1/\l≠q2:=fun e=>⟨aL e f1,aL e f2⟩
   rcases z with⟨z2,z3,z4⟩ | ⟨nk,t,l1,l2,e1,e2,e3,e4,e5,e6,e7,e8⟩
   . refine⟨z1,.inr ⟨fun y=>hf (gz y).symm,ct,cq,cr,z3,up _ _ (sm _ _ N.hct) (by intro ks z;cases z),?_,?_,(sk N.c1).1,(sk N.c1).2,(sk N.c2).1,(sk N.c2).2⟩⟩
     . rw[z4];exact up _ _ (sm _ _ N.c1) (by intro ks z;cases z)
     . rw[z4];exact up _ _ (sm _ _ N.c2) (by intro ks z;cases z)
   . exact⟨z1,.inr ⟨fun y=>hf (gz y).symm,t,l1,l2,e1,up _ _ (sm _ _ e2) (by intro ks z;cases z),up _ _ (sm _ _ e3) (by intro ks z;cases z),up _ _ (sm _ _ e4) (by intro ks z;cases z),(sk e3).1,(sk e3).2,(sk e4).1,(sk e4).2⟩⟩) o2⟩
  ck:=fun p' b8=>by
   cases b8;exact Jn (.inl rfl) }
theorem fk.own_at(N:fk H H7 dc dh dO ct cq cr s):si H7 dO s.ow:=by
 obtain⟨ko,o1,o2⟩:=N.ow;refine⟨ko,o1,aE o2 fun kv e z=>?_⟩;obtain⟨z1,z⟩:=z
 rcases z with⟨z2,z3,z4⟩ | ⟨nk,t,l1,l2,e1,e2,e3,e4,_⟩
 . refine⟨z1,ct,cq,cr,z3,N.hct,?_,?_⟩
   . rw[z4];exact N.c1
   . rw[z4];exact N.c2
 . exact⟨z1,t,l1,l2,e1,e2,e3,e4⟩
end
theorem anr{s:Nt}(h:(s.ch.map (·.1)).Nodup/\(s.cs.map (·.1)).Nodup/\(s.ow.map (·.1)).Nodup)(row:Str):((s.step row).ch.map (·.1)).Nodup/\((s.step row).cs.map (·.1)).Nodup/\((s.step row).ow.map (·.1)).Nodup:=by
 have pc:∀r,((ic s.ow s.ck r).map (·.1)).Nodup:=fun r=>by
  unfold ic;split
  . exact h.2.2
  . exact lE h.2.2
 unfold Nt.step;split
 . exact⟨h.1,h.2.1,pc _⟩
 . exact⟨h.1,h.2.1,pc _⟩
 . exact⟨lE h.1,h.2⟩
 . exact⟨h.1,lE h.2.1,h.2.2⟩
 . exact⟨h.1,h.2.1,lE h.2.2⟩
theorem ans(rows:Ls):((fW rows).ch.map (·.1)).Nodup/\((fW rows).cs.map (·.1)).Nodup/\((fW rows).ow.map (·.1)).Nodup:=by
 have:∀(rows:Ls) (s:Nt),((s.ch.map (·.1)).Nodup/\(s.cs.map (·.1)).Nodup/\(s.ow.map (·.1)).Nodup)->((rows.foldl Nt.step s).ch.map (·.1)).Nodup/\((rows.foldl Nt.step s).cs.map (·.1)).Nodup/\((rows.foldl Nt.step s).ow.map (·.1)).Nodup:=by
  intro rows
  induction rows with
  | nil=>exact fun s h=>h
  | cons r rows ih=>exact fun s h=>ih _ (anr h r)
 exact this rows {} ⟨kM,kM,kM⟩
theorem ant(s:Nt)(row:Str):(s.step row).ch.length<=s.ch.length+1/\(s.step row).cs.length<=s.cs.length+1/\(s.step row).ow.length<=s.ow.length+1/\(s.step row).b.length<=s.b.length+1/\(s.step row).m.length<=s.m.length+1:=by
 have pc:∀r,(ic s.ow s.ck r).length<=s.ow.length+1:=fun r=>by
  unfold ic;split
  . omega
  . exact j7 _ _ _
 unfold Nt.step;split
 . exact⟨by dsimp only;omega,by dsimp only;omega,pc _,by simp,by dsimp only;omega⟩
 . exact⟨by dsimp only;omega,by dsimp only;omega,pc _,by dsimp only;omega,by simp⟩
 . exact⟨j7 _ _ _,by dsimp only;omega,by dsimp only;omega,by dsimp only;omega,by dsimp only;omega⟩
 . exact⟨by dsimp only;omega,j7 _ _ _,by dsimp only;omega,by dsimp only;omega,by dsimp only;omega⟩
 . exact⟨by dsimp only;omega,by dsimp only;omega,j7 _ _ _,by simp,by simp⟩
theorem Sy(rows:Ls):(fW rows).ch.length<=rows.length/\(fW rows).cs.length<=rows.length/\(fW rows).ow.length<=rows.length/\(fW rows).b.length<=rows.length/\(fW rows).m.length<=rows.length:=by
 have:∀(rows:Ls) (s:Nt),(rows.foldl Nt.step s).ch.length<=s.ch.length+rows.length/\(rows.foldl Nt.step s).cs.length<=s.cs.length+rows.length/\(rows.foldl Nt.step s).ow.length<=s.ow.length+rows.length/\(rows.foldl Nt.step s).b.length<=s.b.length+rows.length/\(rows.foldl Nt.step s).m.length<=s.m.length+rows.length:=by
  intro rows
  induction rows with
  | nil=>exact fun s=>⟨aI _,aI _,aI _,aI _,aI _⟩
  | cons r rows ih=>
   intro s;obtain⟨a1,a2,a3,a4,a5⟩:=ih (s.step r);obtain⟨b1,b2,b3,b4,b5⟩:=ant s r;rw[l8,cg];exact⟨by omega,by omega,by omega,by omega,by omega⟩
 have h:=this rows {};simp only[kL,GV]at h;exact h
theorem anu(rows:Ls)(r:Str):fW (rows++[r])=(fW rows).step r:=by
 unfold fW;rw[qT];rfl
variable {P:Program}{w:World}{K:Fg}{mg:Mv}{base:Heap}
theorem J4{x y:Str}{b:Bool}(h:decide (V.str x=V.str y)=b):decide (x=y)=b:=by
 rw[←h];exact Cr.mpr ⟨fun z=>by rw[z],fun z=>V.str.inj z⟩
def Sz:Sp:=fun vs H Q _=>∃x:Str,vs=[.str x]/\x.length<=70000/\uK x=true/\∀p H',H p=none->ag H H'->H' p=some (.tup ((rR x).map V.int))->Q (.ref p) H'
theorem anv:aP [azN] [azN] (aA Ej):=aZ
theorem anw(F:bB K "make_noted" Ej f fd)(B:b9 mg):aj P w K mg base ak 1 f fd [azN] Sz:=by
 refine F.okL anv ?_
 . intro aw A outer s H vs Q E hr h xX dX;obtain⟨x,rfl,hx,hb,q⟩:=h;obtain⟨m1,m2⟩:=am5 hb;refine⟨_,(av (aV (eK acu (by rfl) B.tuple PyProof.Rows.boot_tuple (aa (gF ["part"] [] [] eA rfl (cQ (dj ny WQ WR I8 (pv 0) (aa bV ac))) (fun _ _ _ _=>(bc (i:=0) (show List.Nodup (["part"]:Ls) by decide +kernel) rfl (Or.inl rfl))) (fun _ _ _ _=>iB) (fun _ _ _ _=>(eK ako (by rfl) B.int PyProof.Rows.boot_int (aa (pv 0) ac)))) ac)))),?_⟩;have hsl:=split_le x jw;refine⟨_,rfl,rfl,x,jw,rfl,rfl,by decide +kernel,eS (by omega),fun l H1 n1 s1 e1=>⟨l,rfl,⟨_,ae.of e1⟩,?_⟩⟩;refine zY (σ0:=[none]) (ae.of e1) (fun σ=>∃v,σ=[v]) ((rR x).map V.int) (by unfold rR;rw[ao,ao,ao]) (eS (by rw[ao];omega)) ⟨_,rfl⟩ ?_ ?_
   . intro i z y σ H2 k hz hy hQ hs hk;obtain⟨v,rfl⟩:=hQ;obtain⟨p,hp,rfl⟩:=jz hz;unfold rR at hy;rw[pA]at hy;obtain⟨p',b8,rfl⟩:=jz hy;rw[hp]at b8;cases b8;obtain⟨g1,g2,g3,_⟩:=am4 (m2 p (eg hp));exact⟨_,rfl,p,_,rfl,alw g1 g2 (by omega),by omega,hk _ _ ⟨_,rfl⟩ (ag.refl _)⟩
   . intro D H2 hD hd hs;refine⟨D,_,rfl,.inl ⟨ae.of hd,fun p hp=>?_⟩⟩;have s2:=s1.trans hs;exact q p _ (s2.free hp) (s2.trans (fU hp)) aH
theorem AJ(H:Hp):msk [] H=H:=by
 funext b
 unfold msk;exact ai (fun z=>nomatch z)
def EL(T:Addr):Sp:=fun vs H Q _=>∃t:Str,vs=[.str t]/\t.length<=60000/\(rowsOf t).length<=100/\(∀r∈rowsOf t,jx r=true) /\
 ∀v H',ag H H'->(∀L,jt H L->gK T (msk L H') v (fW (rowsOf t)).ch (fW (rowsOf t)).cs (fW (rowsOf t)).ow)->Q v H'
theorem sq:aP [azN,azA,azI,azT,az1,"row","words"] [azN] (aA Ei):=aZ
theorem anx{t r:Str}(h:r∈rowsOf t):r.length<=t.length:=by
 unfold rowsOf at h;split at h
 . cases h
 . exact R8 h
theorem anz(F:bB K "stand_noted" Ei f fd)(B:b9 mg)(UT:sf K mg T)(MT:Mk K T iI)
 (xw:aO K mg "rows_of" D0 Ka Kc)
 (xx:aO K mg "make_noted" Ej Kb Kd)
 (oJ:aU K "__init__" "Stand.__init__" qa iI lF) (qh:aj P w K mg base ak 2 iI lF [azt,azA,azI,azT] (xq T)):aj P w K mg base ak 4 f fd [azN] (EL T):=by
 have anA:aj P w K mg base ak 1 Ka Kc [azN] R7:=al9 xw.u;have anB:=xw.u.binds1 (l:=[azN]) (fun _ _ _ _ _ _ _=>rfl);have anC:aj P w K mg base ak 1 Kb Kd [azN] Sz:=anw xx.u B;have anD:=xx.u.binds1 (l:=[azN]) (fun _ _ _ _ _ _ _=>rfl);have AK:=oJ.binds4 (l:=[azt,azA,azI,azT]) (fun _ _ _ _ _ _ _ _ _ _=>rfl);refine F.okL sq ?_
 . intro aw A outer s H vs Q E hr h xX dX;obtain⟨t,rfl,ht,hn,hg,q⟩:=h;have hu:=hr.units;have dC:=hr.mono (j:=1) (by decide);refine⟨_,(am (aJ (i:=1) sq.nd rfl (Or.inl rfl) mB) (am (aJ (i:=2) sq.nd rfl (Or.inl rfl) mB) (am (aJ (i:=3) sq.nd rfl (Or.inl rfl) mB) (am (aJ (i:=4) sq.nd rfl (Or.inl rfl) (eV (aa (df ac) (aa (df ac) ac))))
    (am (eJ eI rfl (cQ (mo anA dC (by rfl) xw.m xw.u.kp anB .nil fA (aa (pv 0) ac))) (bc (i:=5) sq.nd rfl (Or.inl rfl))
     (am (aJ (i:=6) sq.nd rfl (Or.inl rfl) (dj ny WQ WR I8 (pv 5) (aa bV ac))) (av (cO (kS (dj ny ax8 ax9 Rk (pv 5) (aa bV ac))) (av (cp (dj iO yW yX rj (bJ eO (pv 4) aq (fun _ _=>rfl)) (aa (nU CZ (pv 5) (lg aq) ri) ac)))) (av (cO (kS (dj ny ax8 ax9 Rk (pv 5) (aa bV ac))) (av (cp (dj iO yW yX rj (bJ eO (pv 4) aq (fun _ _=>rfl)) (aa (nU CZ (pv 5) (lg aq) ri) ac)))) (av (cO (bY fw (bJ fR (pv 6) aq (fun _ _=>rfl)) bV (bT _)) (av (jm hu (pv 1) (bJ fR (pv 6) aq (fun _ _=>rfl)) (mo anC dC (by rfl) xx.m xx.u.kp anD .nil fA (aa (bJ fR (pv 6) aq (fun _ _=>rfl)) ac)) rfl)) (av (cO (bY fw (bJ fR (pv 6) aq (fun _ _=>rfl)) bV (bT _)) (av (jm hu (pv 2) (bJ fR (pv 6) aq (fun _ _=>rfl)) (bJ fR (pv 6) aq (fun _ _=>rfl)) rfl)) (am (aJ (i:=4) sq.nd rfl (Or.inl rfl) (eV (aa (df ac) (aa (df ac) ac)))) (av (jm hu (pv 3) (bJ fR (pv 6) aq (fun _ _=>rfl)) (pv 4) rfl)))))))))))))
    (av (aV (zj MT qh hr (by rfl) UT.mgC AK .nil fA (aa (pv 1) (aa (pv 2) (aa (pv 3) ac))))))))))),?_⟩
   refine wN ?_;intro dD sS Ke EM oH fE dP;refine fun dc H1 n1 s1 e1 dh H2 n2 s2 e2 dO H3 n3 s3 e3=>?_;refine⟨(by show 0<=sizeLine;exact dG _),fun q1 H4 n4 s4 e4=>⟨(by show 0<=sizeLine;exact dG _),fun q2 H5 n5 s5 e5=>⟨(by show 2<=sizeLine;decide),fun ct H6 n6 s6 e6=>?_⟩⟩⟩;have uY:=s1.trans (s2.trans (s3.trans (s4.trans s5)));have N0:fk H H6 dc dh dO ct q1 q2 {}:={
    old:=fun b z e=>s6 _ _ (uY _ _ e)
    nc:=n1
    nh:=s1.free n2
    no:=(s1.trans s2).free n3
    n1:=(s1.trans (s2.trans s3)).free n4
    n2:=(s1.trans (s2.trans (s3.trans s4))).free n5
    d1:=aL e1 n2
    d2:=aL (s2 _ _ e1) n3
    d3:=aL e2 n3
    d4:=aL e4 n5
    ch:=⟨[],s6 _ _ (s5 _ _ (s4 _ _ (s3 _ _ (s2 _ _ e1)))),.nil⟩
    cs:=⟨[],s6 _ _ (s5 _ _ (s4 _ _ (s3 _ _ e2))),.nil⟩
    hct:=e6
    c1:=s6 _ _ (s5 _ _ e4)
    c2:=s6 _ _ e5
    ow:=⟨[],s6 _ _ (s5 _ _ (s4 _ _ e3)),.nil⟩
    ck:=fun p hp=>nomatch hp }
   refine⟨_,rfl,t,rfl,by omega,fun l H7 n7 s7 e7=>⟨l,rfl,⟨_,ae.of e7⟩,?_⟩⟩;refine iT (xs:=(rowsOf t).map V.str) (fun i σ H8=>∃ct q1 q2 u v,σ=[some (.str t),some (.ref dc),some (.ref dh),some (.ref dO),some (.ref ct),u,v]/\H8 l=some (.lst ((rowsOf t).map V.str))/\l≠q1/\l≠q2/\fk H H8 dc dh dO ct q1 q2 (fW ((rowsOf t).take i)))
    ⟨ct,q1,q2,none,none,rfl,e7,(aL N0.c1 n7).symm,(aL N0.c2 n7).symm,N0.same s7⟩ ?_ ?_ ?_
   . intro i σ H8 hi hQ;obtain⟨ct,q1,q2,u,v,rfl,h8,_⟩:=hQ;exact ae.of h8
   . intro i z σ H8 hz hQ;refine bg ?_;intro tT;obtain⟨ct,q1,q2,u,v,rfl,h8,m1,m2,N⟩:=hQ;obtain⟨r,oC,rfl⟩:=jz hz;have SA:=eg oC;have hgr:=hg r SA;have hrl:=anx SA;have es:fW ((rowsOf t).take (i+1))=(fW ((rowsOf t).take i)).step r:=by rw[take_snoc oC,anu]
     rw[show dc=dc from rfl]at N;have SD:=Sy ((rowsOf t).take i);rw[eG]at SD;obtain⟨k1,k2,k3,k4,k5⟩:=SD;generalize fW ((rowsOf t).take i)=s0 at N es k1 k2 k3 k4 k5;have sl:=Txt.slice_le r (some 1) none;refine⟨_,rfl,rfl,r,spS,rfl,rfl,by decide +kernel,eS (by omega),fun wl H9 n9 s9 e9=>?_⟩;have N9:=N.same s9;have h9:=s9 _ _ h8;have z0:cy [V.ref q1,V.ref q2] 0=some (V.ref q1):=rfl;have z1:cy [V.ref q1,V.ref q2] 1=some (V.ref q2):=rfl;refine⟨_,rfl,rfl,r,eP,rfl,rfl,_,rfl,?_⟩;refine bA (fun h1=>?_) (fun h1=>?_)
     . refine⟨_,rfl,ct,_,_,_,rfl,rfl,aX.of N9.hct,z0,.inl ⟨rfl,_,ae.of N9.c1⟩,_,rfl,_,rfl,_,rfl,eS (by omega),q1,_,_,rfl,rfl,N9.c1,bZ (by rw[ao];omega),?_⟩;refine⟨ct,q1,q2,_,_,rfl,aB h9 m1,m1,m2,?_⟩;have e0:s0.step r={ s0 with ow:=ic s0.ow s0.ck (s0.b++[Txt.slice r (some 1) none],s0.m),b:=s0.b++[Txt.slice r (some 1) none] }:=by
        unfold Nt.step gH;rw[al h1]
       rw[es,e0];exact N9.les _
     refine⟨_,rfl,rfl,r,eR,rfl,rfl,_,rfl,?_⟩;refine bA (fun h2=>?_) (fun h2=>?_)
     . refine⟨_,rfl,ct,_,_,_,rfl,rfl,aX.of N9.hct,z1,.inl ⟨rfl,_,ae.of N9.c2⟩,_,rfl,_,rfl,_,rfl,eS (by omega),q2,_,_,rfl,rfl,N9.c2,bZ (by rw[ao];omega),?_⟩;refine⟨ct,q1,q2,_,_,rfl,aB h9 m2,m1,m2,?_⟩;have e0:s0.step r={ s0 with ow:=ic s0.ow s0.ck (s0.b,s0.m++[Txt.slice r (some 1) none]),m:=s0.m++[Txt.slice r (some 1) none] }:=by
        unfold Nt.step gH;rw[ai h1,al h2]
       rw[es,e0];exact N9.mor _
     have pr:gH r=if (Txt.split r spS).getD 0 Str.empty=fD then .inn ((Txt.split r spS).getD 1 Str.empty) ((Txt.split r spS).getD 2 Str.empty) else
      if (Txt.split r spS).getD 0 Str.empty=fe then .cho ((Txt.split r spS).getD 1 Str.empty) ((Txt.split r spS).getD 2 Str.empty) else .own ((Txt.split r spS).getD 1 Str.empty):=by
      unfold gH;rw[ai h1,ai h2]
     have pl:∀p∈Txt.split r spS,p.length<=r.length:=fun p hp=>R8 hp
     rcases am6 hgr (qQ.mpr h1) (qQ.mpr h2) with⟨p,hw⟩ | ⟨n,x,hw,Dp⟩ | ⟨c,n,hw⟩
     . rw[hw]at e9 pr pl;have y0:cy ([dB,p].map V.str) 0=some (V.str dB):=rfl;have y1:cy ([dB,p].map V.str) 1=some (V.str p):=rfl;have pr:gH r=.own p:=pr.trans ((ai Jy).trans (ai Jz));refine⟨_,rfl,wl,_,_,_,rfl,rfl,ae.of e9,y0,rfl,_,rfl,?_⟩;refine bA (fun h3=>absurd (cT (J4 h3)) Jy) (fun h3=>?_);refine⟨_,rfl,wl,_,_,_,rfl,rfl,ae.of e9,y0,rfl,_,rfl,?_⟩;refine bA (fun h4=>absurd (cT (J4 h4)) Jz) (fun h4=>?_);refine⟨(by show 0<=sizeLine;exact dG _),fun p1 Ha na sa ea=>⟨(by show 0<=sizeLine;exact dG _),fun p2 Hb nb sb eb=>⟨(by show 2<=sizeLine;decide),fun p3 Hc nc' sc ec=>?_⟩⟩⟩;have AL:=sa.trans (sb.trans sc);obtain⟨ko,o1,o2⟩:=N9.ow;have lo:=bC o2;refine⟨_,rfl,_,rfl,_,rfl,wl,_,_,_,rfl,rfl,ae.of (AL _ _ e9),y1,dO,_,rfl,fT.k (k:=.inr p) (AL _ _ o1) (bZ (by omega)),?_⟩;have d9:∃ks,H9 dO=some (.dK ks):=⟨_,o1⟩;have hl:l≠dO:=aK h9 o1 (by intro z;cases z);refine⟨p3,p1,p2,_,_,rfl,aB (AL _ _ h9) hl,aL h9 na,aL (sa _ _ h9) nb,?_⟩;have e0:s0.step r={ s0 with ow:=bI s0.ow p ([],[]),ck:=some p,b:=[],m:=[] }:=by
        unfold Nt.step;rw[pr]
       rw[es,e0];exact N9.own AL na (sa.free nb) (aL ea nb) (sc _ _ (sb _ _ ea)) (sc _ _ eb) ec (AL _ _ o1) p
     . rw[hw]at e9 pr pl;have y0:cy ([fD,n,x].map V.str) 0=some (V.str fD):=rfl;have y1:cy ([fD,n,x].map V.str) 1=some (V.str n):=rfl;have y2:cy ([fD,n,x].map V.str) 2=some (V.str x):=rfl;have pr:gH r=.inn n x:=pr.trans (al rfl);have lx:=pl x (bR _ (bR _ bK));refine⟨_,rfl,wl,_,_,_,rfl,rfl,ae.of e9,y0,rfl,_,rfl,?_⟩;refine bA (fun h3=>?_) (fun h3=>absurd (bN rfl) h3);refine⟨_,rfl,wl,_,_,_,rfl,rfl,ae.of e9,y2,x,rfl,by omega,Dp,fun m Ha na sa ea=>?_⟩;have Na:=N9.same sa;obtain⟨kc,c1,c2⟩:=Na.ch;have lc:=bC c2;refine⟨_,rfl,_,rfl,wl,_,_,_,rfl,rfl,ae.of (sa _ _ e9),y1,dc,_,rfl,fT.k (k:=.inr n) c1 (bZ (by omega)),?_⟩;refine⟨ct,q1,q2,_,_,rfl,aB (sa _ _ h9) (aK (sa _ _ h9) c1 (by intro z;cases z)),m1,m2,?_⟩;have e0:s0.step r={ s0 with ch:=bI s0.ch n (rR x) }:=by
        unfold Nt.step;rw[pr]
       rw[es,e0];exact Na.inn c1 ea
     . rw[hw]at e9 pr pl;have y0:cy ([fe,c,n].map V.str) 0=some (V.str fe):=rfl;have y1:cy ([fe,c,n].map V.str) 1=some (V.str c):=rfl;have y2:cy ([fe,c,n].map V.str) 2=some (V.str n):=rfl;have pr:gH r=.cho c n:=pr.trans ((ai DR).trans (al rfl));refine⟨_,rfl,wl,_,_,_,rfl,rfl,ae.of e9,y0,rfl,_,rfl,?_⟩;refine bA (fun h3=>absurd (cT (J4 h3)) DR) (fun h3=>?_);refine⟨_,rfl,wl,_,_,_,rfl,rfl,ae.of e9,y0,rfl,_,rfl,?_⟩;refine bA (fun h4=>?_) (fun h4=>absurd (bN rfl) h4);obtain⟨kh,c1,c2⟩:=N9.cs;have lh:=bC c2;refine⟨_,rfl,wl,_,_,_,rfl,rfl,ae.of e9,y2,_,rfl,_,rfl,wl,_,_,_,rfl,rfl,ae.of e9,y1,dh,_,rfl,fT.k (k:=.inr c) c1 (bZ (by omega)),?_⟩;refine⟨ct,q1,q2,_,_,rfl,aB h9 (aK h9 c1 (by intro z;cases z)),m1,m2,?_⟩;have e0:s0.step r={ s0 with cs:=bI s0.cs c n }:=by
        unfold Nt.step;rw[pr]
       rw[es,e0];exact N9.cho c1
   . intro σ H8 hQ;refine bg ?_;intro tT;obtain⟨ct,q1,q2,u,v,rfl,h8,m1,m2,N⟩:=hQ;rw[ao,eZ]at N;obtain⟨kc,c1,c2⟩:=N.ch;obtain⟨kh,b1,b2⟩:=N.cs;have nd:=ans (rowsOf t);have nl:=Sy (rowsOf t);refine⟨_,rfl,_,rfl,_,rfl,?_⟩;refine JT (T:=T) ⟨kc,c1,c2⟩ ⟨kh,b1,b2⟩ N.own_at nd.2.2 (by omega) fun x H' nx sx hx=>?_;exact q (.ref x) H' (fun b z e=>sx _ _ (N.old b z e)) fun L hL=>hx L fun b hb=>(hL b hb).elim fun o anF=>anF.elim fun e n=>⟨o,N.old b o e,n⟩
end K63
namespace K63
open PySem L2
variable {P:Program}{w:World}{K:Fg}{mg:Mv}{base:Heap}
structure Txt(K:Fg)(mg:Mv)(C:Addr):Prop where
 cl:jU K C
 nN:fO K C azE
 nM:fO K C azH
 nR:fO K C azR
 nF:fO K C azJ
 nE:fO K C azW
 nS:fO K C az5
 nO:fO K C aAc
 mgC:mg "Parcel"=some (.ref C)
structure Kf(fl:List (Str×V))(nm mk rk:V)(pf pn ps po:Addr):Prop where
 name:fl.lookup (azE:Str)=some nm
 make:fl.lookup (azH:Str)=some mk
 rank:fl.lookup (azR:Str)=some rk
 files:fl.lookup (azJ:Str)=some (.ref pf)
 needs:fl.lookup (azW:Str)=some (.ref pn)
 shuts:fl.lookup (az5:Str)=some (.ref ps)
 offers:fl.lookup (aAc:Str)=some (.ref po)
def uZ(nm mk rk:V)(pf pn ps po:Addr):List (Str×V):=ay aAc (.ref po) (ay az5 (.ref ps) (ay azW (.ref pn) (ay azJ (.ref pf) (ay azR rk (ay azH mk (ay azE nm []))))))
theorem anG(nm mk rk:V)(pf pn ps po:Addr):Kf (uZ nm mk rk pf pn ps po) nm mk rk pf pn ps po:=by
 unfold uZ;constructor
 . rw[cx,ai (by decide +kernel),cx,ai (by decide +kernel),cx,ai (by decide +kernel),cx,ai (by decide +kernel),cx,ai (by decide +kernel),cx,ai (by decide +kernel),cx,al rfl]
 . rw[cx,ai (by decide +kernel),cx,ai (by decide +kernel),cx,ai (by decide +kernel),cx,ai (by decide +kernel),cx,ai (by decide +kernel),cx,al rfl]
 . rw[cx,ai (by decide +kernel),cx,ai (by decide +kernel),cx,ai (by decide +kernel),cx,ai (by decide +kernel),cx,al rfl]
 . rw[cx,ai (by decide +kernel),cx,ai (by decide +kernel),cx,ai (by decide +kernel),cx,al rfl]
 . rw[cx,ai (by decide +kernel),cx,ai (by decide +kernel),cx,al rfl]
 . rw[cx,ai (by decide +kernel),cx,al rfl]
 . rw[cx,al rfl]
structure SE(K:Fg)(H:Hp)(xs:Lv)(fs:List (V×Lv)):Prop where
 len:xs.length=fs.length
 item:∀(i:Nat) (p:V) (ls:Lv),fs[i]?=some (p,ls)->∃t l,xs[i]?=some (.ref t)/\aX K H t [p,.ref l]/\ae K H l ls
structure EN(H H':Hp)(D:Addr)(xs:Lv)(fs:List (V×Lv))(k:Nat):Prop where
 len:xs.length=k
 item:∀(i:Nat) (p:V) (ls:Lv),i<k->fs[i]?=some (p,ls)->∃t l,xs[i]?=some (.ref t)/\H t=none/\H l=none/\t≠D/\l≠D/\H' t=some (.tup [p,.ref l])/\H' l=some (.lst ls)
def AM:Expr:=match (da rT).getD 3 (.Pass ⟨0,0,0,0⟩) with
 | .Assign _ e _=>e
 | _=>.Constant .none 0 ⟨0,0,0,0⟩
def vb:Scope:=match AM with
 | .ListComp _ _ sc _=>sc
 | _=>{ kind:=.function,names:=[],isGenerator:=false,isCoroutine:=false }
def SF:Expr:=match AM with
 | .ListComp e _ _ _=>e
 | _=>.Constant .none 0 ⟨0,0,0,0⟩
def Kg:Expr:=match AM with
 | .ListComp _ [⟨t,_,_,_⟩] _ _=>t
 | _=>.Constant .none 0 ⟨0,0,0,0⟩
def SG:Expr:=match AM with
 | .ListComp _ [⟨_,t,_,_⟩] _ _=>t
 | _=>.Constant .none 0 ⟨0,0,0,0⟩
theorem Kh(X:Cx):lm X [azC,azO] [] [] vb:=eA
def SH(K:Fg):Lv->Hp->VK->Prop:=fun xs H Q=>∃p ys,xs=[.ref p]/\(ae K H p ys\/aX K H p ys)/\∀l,H l=none->Q (.ref l) (ah H l (.lst ys))
theorem anH{X:Cx}(hc:X.calm=true)(s₀:Shared)(H₀:Hp)(C₀:Addr)(ex:List Addr):PG (dq X (([azC,azO]:Ls)++([]:Ls)) vb s₀ H₀ C₀ ex) Kg (tW X.K 2 (y9 (mh 0) (y9 (mh 1) He))):=
 pF (X:=dq X (([azC,azO]:Ls)++([]:Ls)) vb s₀ H₀ C₀ ex) hc (fb (bc (i:=0) (Kh X).nd rfl (Or.inl rfl)) (fb (bc (i:=1) (Kh X).nd rfl (Or.inl rfl)) mi))
theorem anI{X:Cx}(ti:X.mg "list"=none)(s₀:Shared)(H₀:Hp)(C₀:Addr)(ex:List Addr):PE (dq X (([azC,azO]:Ls)++([]:Ls)) vb s₀ H₀ C₀ ex) SF (Hu (kW (wt 0) (kW (CN (SH X.K) (kW (wt 1) fz)) fz))):=
 O1 (X:=dq X (([azC,azO]:Ls)++([]:Ls)) vb s₀ H₀ C₀ ex) (aa (pv 0) (aa (eK (zt (X:=dq X (([azC,azO]:Ls)++([]:Ls)) vb s₀ H₀ C₀ ex)) (by rfl) ti jP (aa (pv 1) ac)) ac))
theorem anJ{X:Cx}{wi:TI}(hc:X.calm=true)(ti:X.mg "list"=none)(hi:PI X Kg SG wi):PE X AM (HU wi 2 [] (tW X.K 2 (y9 (mh 0) (y9 (mh 1) He))) ur (Hu (kW (wt 0) (kW (CN (SH X.K) (kW (wt 1) fz)) fz)))):=
 gF [azC,azO] [] [] (elt:=SF) (tg:=Kg) (iter:=SG) (ifs:=[]) (sc:=vb) (Kh X) hc hi (anH hc) (fun _ _ _ _=>iB) (anI ti)
theorem anK:aP [azt,azE,azH,azR,azJ,azW,az5,aAc] [azt,azE,azH,azR,azJ,azW,az5,aAc] (aA rT):=aZ
def EO(K:Fg)(C:Addr):Sp:=fun vs H Q _=>∃(x dx fa na sa oa:Addr) (nm mk rk:V) (xs ns ss os:Lv) (fs:List (V×Lv)),vs=[.ref x,nm,mk,rk,.ref fa,.ref na,.ref sa,.ref oa]/\H x=some (.ins C dx []) /\
 ae K H fa xs/\SE K H xs fs/\ae K H na ns/\ae K H sa ss/\ae K H oa os/\fs.length<=1000 /\
 ∀(fl:List (Str×V)) (pf pn ps po:Addr) (jQ:Lv) (H':Hp),Kf fl nm mk rk pf pn ps po->H' x=some (.ins C dx fl)->H pf=none->H pn=none->H ps=none->H po=none ->
  H' pf=some (.lst jQ)->EN H H' pf jQ fs fs.length->H' pn=some (.lst ns)->H' ps=some (.lst ss)->H' po=some (.lst os)->(∀b o,H b=some o->b≠x->H' b=some o)->Q .non H'
section
variable {C dx x p a:Addr}{H Hk:Hp}{fl rL:List (Str×V)} {o o':HO}{xs:Lv}
end
theorem anL{H Hk Hj:Hp}{xs:Lv}{fs:List (V×Lv)}{k:Nat}(fn:EN H Hk D xs fs k)(h:∀b o,Hk b=some o->b≠D->H b=none->Hj b=some o):EN H Hj D xs fs k:=by
 refine⟨fn.len,fun i p ls hi hp=>?_⟩;obtain⟨t,l,e1,e2,e3,e4,e5,e6,e7⟩:=fn.item i p ls hi hp;exact⟨t,l,e1,e2,e3,e4,e5,h t _ e6 e4 e2,h l _ e7 e5 e3⟩
theorem anM(F:aU K "__init__" "Parcel.__init__" rT f fd)(T:Txt K mg C)(ti:mg "list"=none) :
 aj P w K mg base ak 1 f fd [azt,azE,azH,azR,azJ,azW,az5,aAc] (EO K C):=by
 refine F.okL anK ?_
 . intro aw A outer s H vs Q E hr h xX dX;obtain⟨x,dx,fa,na,sa,oa,nm,mk,rk,xs,ns,ss,os,fs,rfl,hx,jC,lG,hna,hsa,G5,EQ,k⟩:=h;refine⟨_,am (iy (pv 0) (pv 1) rfl) (am (iy (pv 0) (pv 2) rfl) (am (iy (pv 0) (pv 3) rfl)
    (am (iy (pv 0) (anJ rfl ti (cQ (pv 4))) rfl)
    (am (iy (pv 0) (eK zt (by rfl) ti jP (aa (pv 5) ac)) rfl)
    (am (iy (pv 0) (eK zt (by rfl) ti jP (aa (pv 6) ac)) rfl)
    (av (iy (pv 0) (eK zt (by rfl) ti jP (aa (pv 7) ac)) rfl))))))),?_⟩
   refine Qo ?_;intro dD sS uU7 Ke EM oH fE dP;have S0:eD C dx x H H []:=⟨fun _ _ e _=>e,fun _ e=>e,hx⟩;refine⟨_,rfl,_,rfl,x,C,dx,_,rfl,S0.ob,T.cl,T.nN,few pX (by decide),?_⟩;have S1:eD C dx x H _ (ay azE nm []):=S0.put;refine⟨_,rfl,_,rfl,x,C,dx,_,rfl,S1.ob,T.cl,T.nM,few (lp pX) (by decide),?_⟩;have S2:eD C dx x H _ (ay azH mk (ay azE nm [])):=S1.put;refine⟨_,rfl,_,rfl,x,C,dx,_,rfl,S2.ob,T.cl,T.nR,few (lp (lp pX)) (by decide),?_⟩;have S3:eD C dx x H _ (ay azR rk (ay azH mk (ay azE nm []))):=S2.put;generalize ah (ah (ah H x (.ins C dx (ay azE nm []))) x (.ins C dx (ay azH mk (ay azE nm [])))) x (.ins C dx (ay azR rk (ay azH mk (ay azE nm []))))=H1 at S3 ⊢;refine⟨_,rfl,fa,rfl,⟨xs,S3.sqL hx jC⟩,fun D hD=>?_⟩;refine⟨fun i m σ H2=>m=xs.length - i/\i<=xs.length/\∃(u v:Option V) (ys:Lv),σ=[u,v]/\H2 D=some (.lst ys)/\ag H1 H2/\EN H H2 D ys fs i,⟨xs.length,by simp,dG _,none,none,[],rfl,aH,fU hD,rfl,fun i p ls hi=>absurd hi (N6 _)⟩,?_⟩;intro i m σ H2 eX;refine bg ?_;intro tT;obtain⟨rfl,hi,u,v,ys,rfl,AN,s2,fn⟩:=eX;have Ki:ae K H2 fa xs:=s2.seq (S3.sqL hx jC)
   by_cases aN:i<xs.length
   . refine .inr ⟨⟨xs,xs[i],Ki,by simp[aN]⟩,fun z H3 y=>?_⟩;obtain⟨e,y⟩:=y;subst e;have ez:=y xs Ki;have hif:i<fs.length:=by rw[←lG.len];exact aN
     obtain⟨⟨p,ls⟩,dU⟩:∃q,fs[i]?=some q:=⟨fs[i],by simp[hif]⟩;obtain⟨t,l,e1,e2,e3⟩:=lG.item i p ls dU;rw[ez]at e1;cases e1;have t2:=ae6 s2 (S3.sqT hx e2);have l2:=s2.seq (S3.sqL hx e3);refine⟨t,_,rfl,t2,rfl,_,_,rfl,_,_,rfl,rfl,?_⟩;refine⟨_,rfl,_,rfl,l,_,rfl,.inl l2,fun l' qW=>⟨(by show 2<=sizeLine;decide),fun t' Kj=>?_⟩⟩;obtain⟨n1,n2⟩:=iA Kj;have dl:D≠l':=aL AN qW;have dt:D≠t':=aL AN n2;refine⟨ys,aB (aB AN dl) dt,bZ (by rw[fn.len];omega),xs.length - (i+1),by omega,rfl,aN,_,_,ys++[.ref t'],rfl,aH,?_,⟨by rw[bj,fn.len];rfl,fun j p' yZ hj b8=>?_⟩⟩
     . exact fV (fV (fV s2 (s2.free qW)) (s2.free n2)) hD
     . by_cases ER:j=i
       . subst ER;rw[dU]at b8;cases b8;refine⟨t',l',by rw[GP (by rw[fn.len];omega),fn.len];simp,S3.free _ (s2.free n2),S3.free _ (s2.free qW),dt.symm,dl.symm,aB aH dt.symm,aB (aB aH n1.symm) dl.symm⟩
       . have rJ:j<i:=by omega
         obtain⟨t0,l0,g1,g2,g3,g4,g5,g6,g7⟩:=fn.item j p' yZ rJ b8;exact⟨t0,l0,by rw[Wh (by rw[fn.len];exact rJ)];exact g1,g2,g3,g4,g5,aB (aB (aB g6 (aL g6 qW)) (aL g6 n2)) g4,aB (aB (aB g7 (aL g7 qW)) (aL g7 n2)) g5⟩
   . have ei:i=xs.length:=by omega
     subst ei;refine .inl ⟨⟨xs,Ki,aI _⟩,?_⟩;have S4:eD C dx x H H2 (ay azR rk (ay azH mk (ay azE nm []))):=⟨fun b o e hb=>s2 b o (S3.same b o e hb),fun b e=>S3.free b (s2.free e),s2 _ _ S3.ob⟩;have ES:D≠x:=aK AN S4.ob (by intro z;cases z);have hD0:H D=none:=S3.free _ hD;refine⟨_,rfl,x,C,dx,_,rfl,S4.ob,T.cl,T.nF,few (lp (lp (lp pX))) (by decide),?_⟩;have S5:eD C dx x H _ (ay azJ (.ref D) (ay azR rk (ay azH mk (ay azE nm [])))):=S4.put;refine⟨_,rfl,na,_,rfl,.inl (S5.sqL hx hna),fun pn xy=>?_⟩;have S6:=S5.lay (o:=.lst ns) xy;have Kk:pn≠x:=(aL S5.ob xy).symm;refine⟨_,rfl,x,C,dx,_,rfl,S6.ob,T.cl,T.nE,few (lp (lp (lp (lp pX)))) (by decide),?_⟩;have S7:eD C dx x H _ (ay azW (.ref pn) (ay azJ (.ref D) (ay azR rk (ay azH mk (ay azE nm []))))):=S6.put;refine⟨_,rfl,sa,_,rfl,.inl (S7.sqL hx hsa),fun ps bE=>?_⟩;have S8:=S7.lay (o:=.lst ss) bE;have SI:ps≠x:=(aL S7.ob bE).symm;refine⟨_,rfl,x,C,dx,_,rfl,S8.ob,T.cl,T.nS,few (lp (lp (lp (lp (lp pX))))) (by decide),?_⟩;have S9:eD C dx x H _ (ay az5 (.ref ps) (ay azW (.ref pn) (ay azJ (.ref D) (ay azR rk (ay azH mk (ay azE nm [])))))):=S8.put;refine⟨_,rfl,oa,_,rfl,.inl (S9.sqL hx G5),fun po mE=>?_⟩;have SJ:=S9.lay (o:=.lst os) mE;have xpo:po≠x:=(aL S9.ob mE).symm;refine⟨_,rfl,x,C,dx,_,rfl,SJ.ob,T.cl,T.nO,few (lp (lp (lp (lp (lp (lp pX)))))) (by decide),?_⟩;have SK:eD C dx x H _ (uZ nm mk rk D pn ps po):=SJ.put;have k5:∀b o,H2 b=some o->b≠x->(ah H2 x (.ins C dx (ay azJ (.ref D) (ay azR rk (ay azH mk (ay azE nm [])))))) b=some o:=fun b o e hb=>aB e hb;have kp:=fun b o (e:H2 b=some o) (hb:b≠x)=>aB (p:=x) (o':=.ins C dx (ay azW (.ref pn) (ay azJ (.ref D) (ay azR rk (ay azH mk (ay azE nm [])))))) (aB (p:=pn) (o':=.lst ns) (k5 b o e hb) (aL (k5 b o e hb) xy)) hb;have kq:=fun b o (e:H2 b=some o) (hb:b≠x)=>aB (p:=x) (o':=.ins C dx (ay az5 (.ref ps) (ay azW (.ref pn) (ay azJ (.ref D) (ay azR rk (ay azH mk (ay azE nm []))))))) (aB (p:=ps) (o':=.lst ss) (kp b o e hb) (aL (kp b o e hb) bE)) hb;have kr:=fun b o (e:H2 b=some o) (hb:b≠x)=>aB (p:=x) (o':=.ins C dx (uZ nm mk rk D pn ps po)) (aB (p:=po) (o':=.lst os) (kq b o e hb) (aL (kq b o e hb) mE)) hb;have SM:(ah (ah (ah H2 x (.ins C dx (ay azJ (.ref D) (ay azR rk (ay azH mk (ay azE nm [])))))) pn (.lst ns)) x (.ins C dx (ay azW (.ref pn) (ay azJ (.ref D) (ay azR rk (ay azH mk (ay azE nm []))))))) pn=some (.lst ns):=aB aH Kk;have SN:=aB (p:=x) (o':=.ins C dx (ay az5 (.ref ps) (ay azW (.ref pn) (ay azJ (.ref D) (ay azR rk (ay azH mk (ay azE nm []))))))) (aB (p:=ps) (o':=.lst ss) SM (aL SM bE)) Kk;have pn3:=aB (p:=x) (o':=.ins C dx (uZ nm mk rk D pn ps po)) (aB (p:=po) (o':=.lst os) SN (aL SN mE)) Kk;have SO:=aB (p:=x) (o':=.ins C dx (ay az5 (.ref ps) (ay azW (.ref pn) (ay azJ (.ref D) (ay azR rk (ay azH mk (ay azE nm []))))))) (aH (H:=ah (ah (ah H2 x (.ins C dx (ay azJ (.ref D) (ay azR rk (ay azH mk (ay azE nm [])))))) pn (.lst ns)) x (.ins C dx (ay azW (.ref pn) (ay azJ (.ref D) (ay azR rk (ay azH mk (ay azE nm []))))))) (a:=ps) (o:=.lst ss)) SI;have ps2:=aB (p:=x) (o':=.ins C dx (uZ nm mk rk D pn ps po)) (aB (p:=po) (o':=.lst os) SO (aL SO mE)) SI;refine k (uZ nm mk rk D pn ps po) D pn ps po ys _ (anG nm mk rk D pn ps po) SK.ob hD0 (S5.free _ xy) (S7.free _ bE) (S9.free _ mE) (kr D _ AN ES) ?_ pn3 ps2 (aB aH xpo) SK.same;rw[lG.len]at fn;exact anL fn fun b o e hb hn=>kr b o e fun z=>by rw[z,hx]at hn;cases hn
structure cf where
 nm:Str
 ms:List Int
 fs:List (Str×Ls)
 os:Ls
 rk:Int
abbrev Lp:=List cf
def jD(H:Hp)(v:V)(f:Str×Ls):Prop:=∃t l,v=.ref t/\H t=some (.tup [.str f.1,.ref l])/\H l=some (.lst (f.2.map V.str))
def i9(C:Addr)(H:Hp)(v:V)(p:cf):Prop:=∃a dx fl rk m pf pn ps po xs,v=.ref a/\H a=some (.ins C dx fl)/\Kf fl (.str p.nm) (.ref m) rk pf pn ps po/\H m=some (.tup (p.ms.map V.int)) /\
 H pf=some (.lst xs)/\Paired (jD H) xs p.fs/\H po=some (.lst (p.os.map V.str))/\rk=.int p.rk/\H pn=some (.lst [])/\H ps=some (.lst [])
theorem jD.same{H H':Hp}{v:V}{f:Str×Ls}(s:ag H H')(h:jD H v f):jD H' v f:=by
 obtain⟨t,l,e,a,b⟩:=h;exact⟨t,l,e,s _ _ a,s _ _ b⟩
theorem i9.same{H H':Hp}{v:V}{p:cf}(s:ag H H')(h:i9 C H v p):i9 C H' v p:=by
 obtain⟨a,dx,fl,rk,m,pf,pn,ps,po,xs,e,h1,h2,h3,h4,h5,h6⟩:=h;exact⟨a,dx,fl,rk,m,pf,pn,ps,po,xs,e,s _ _ h1,h2,s _ _ h3,s _ _ h4,aE h5 (fun _ _=>jD.same s),s _ _ h6.1,h6.2.1,s _ _ h6.2.2.1,s _ _ h6.2.2.2⟩
abbrev dQ (C:Addr) (H:Hp):Lv->Lp->Prop:=Paired (i9 C H)
theorem dQ.same{H H':Hp}{vs:Lv}{ps:Lp}(s:ag H H')(h:dQ C H vs ps):dQ C H' vs ps:=aE h fun _ _=>i9.same s
def qi(fs:List (Str×Ls)):List (V×Lv):=fs.map fun f=>(.str f.1,f.2.map V.str)
theorem anU{H:Hp}{xs:Lv}{fs:List (Str×Ls)}(h:Paired (jD H) xs fs):SE K H xs (qi fs):=by
 refine⟨by rw[qi,ao];exact bC h,fun i p ls e=>?_⟩;rw[qi,dH]at e;cases hf:fs[i]? with
 | none=>rw[hf]at e;cases e
 | some f=>
  rw[hf]at e;cases e;obtain⟨x,hx,t,l,rfl,a,b⟩:=DF h hf;exact⟨t,l,hx,aX.of a,ae.of b⟩
theorem anV{H:Hp}{Q:VK}{E:XK}{nm:Str}{mk:List Int}{rk:Int}{xs:Lv}{os:Ls}{fs:List (Str×Ls)}(hm:H m=some (.tup (mk.map V.int)))(hf:H fa=some (.lst xs))(lG:Paired (jD H) xs fs)
 (hn:H na=some (.lst [])) (hs:H sa=some (.lst [])) (ho:H oa=some (.lst (os.map V.str))) (EQ:fs.length<=1000) (q:∀x H',H x=none->ag H H'->(∀L,jt H L->i9 C (msk L H') (.ref x) ⟨nm,mk,fs,os,rk⟩)->Q (.ref x) H') :
 ∀x dx,H x=none->H dx=none->dx≠x->EO K C (.ref x::([.str nm,.ref m,.int rk,.ref fa,.ref na,.ref sa,.ref oa]++[])) (ah (ah H dx (.own x)) x (.ins C dx [])) (fun v H2=>v=.non/\Q (.ref x) H2) E:=by
 intro x dx hx uV nx;have s1:ag H (ah (ah H dx (.own x)) x (.ins C dx [])):=fV (fU uV) hx;have fl_:qi fs=qi fs:=rfl;have Kl:(qi fs).length=fs.length:=by rw[qi,ao]
 refine⟨x,dx,fa,na,sa,oa,.str nm,.ref m,.int rk,xs,[],[],os.map V.str,qi fs,rfl,aH,ae.of (s1 _ _ hf),?_,ae.of (s1 _ _ hn),ae.of (s1 _ _ hs),ae.of (s1 _ _ ho),by rw[Kl];exact EQ,?_⟩
 . exact anU (aE lG fun _ _=>jD.same s1)
 intro fl pf pn ps po jQ H' hF qX n1 n2 n3 n4 hpf wq xy bE mE keep;have s2:ag H H':=fun b o e=>keep b o (s1 _ _ e) (aL e hx);have fr:∀b,(ah (ah H dx (.own x)) x (.ins C dx [])) b=none->H b=none:=fun b z=>s1.free z;refine⟨rfl,q x H' hx s2 fun L hL=>⟨x,dx,fl,.int rk,m,pf,pn,ps,po,jQ,rfl,cJ (hL.free hx) qX,hF,cJ (hL.tup hm) (s2 _ _ hm),cJ (hL.free (fr _ n1)) hpf,?_,cJ (hL.free (fr _ n4)) mE,rfl,cJ (hL.free (fr _ n2)) xy,cJ (hL.free (fr _ n3)) bE⟩⟩;refine Rv (by rw[wq.len,Kl]) fun i f hi=>?_;obtain⟨t,l,e1,e2,e3,e4,e5,e6,e7⟩:=wq.item i (.str f.1) (f.2.map V.str) (by rw[Kl];exact(cW.mp hi).1) (by rw[qi,dH,hi];rfl);exact⟨_,e1,t,l,rfl,cJ (hL.free (fr _ e2)) e6,cJ (hL.free (fr _ e3)) e7⟩
structure vc(K:Fg)(mg:Mv)(S fP:Addr):Prop where
 cl:jU K S
 nS:fO K S aAt
 mP:mj K S azz fP
 mgC:mg "Shelf"=some (.ref S)
def fY(p:cf):List NI:=[.inl (.inr p.nm),.inr (p.ms.map Sum.inl)]
theorem Km{H:Hp}{nm:Str}{mk:List Int}(hb:H b=some (.tup [.str nm,.ref m]))(hm:H m=some (.tup (mk.map V.int))):kP H [.inl (.inr nm),.inr (mk.map Sum.inl)] b:=
 ⟨_,hb,.cons rfl (.cons ⟨m,rfl,by rw[hm,pA];rfl⟩ .nil)⟩
def SQ(kvs:List (List NI×V))(vs:Lv)(ps:Lp)(i:Nat):Prop:=kvs.length<=i/\∀(j:Nat) (p:cf) (v:V),j<i->ps[j]?=some p->vs[j]?=some v->bh kvs (fY p)=some v
def ja(S:Addr)(H:Hp)(v:V)(vs:Lv)(ps:Lp):Prop:=∃a dx fl d kvs,v=.ref a/\H a=some (.ins S dx fl)/\fl.lookup (aAt:Str)=some (.ref d)/\fl.lookup (azz:Str)=none/\H d=some (.dT kvs)/\SQ kvs vs ps ps.length
theorem ja.same{H H':Hp}{v:V}{vs:Lv}{ps:Lp}(s:ag H H')(h:ja S H v vs ps):ja S H' v vs ps:=by
 obtain⟨a,dx,fl,d,kvs,e,h1,h2,h3,h4,h5⟩:=h;exact⟨a,dx,fl,d,kvs,e,s _ _ h1,h2,h3,s _ _ h4,h5⟩
def Kn(K:Fg)(C S:Addr):Sp:=fun vs H Q _=>∃(x dx a:Addr) (xs:Lv) (ps:Lp),vs=[.ref x,.ref a]/\H x=some (.ins S dx [])/\H a=some (.lst xs)/\dQ C H xs ps/\ps.length<=100/\(ps.map fY).Nodup /\
 ∀H',(∀b o,H b=some o->b≠x->H' b=some o)->ja S H' (.ref x) xs ps->Q .non H'
theorem SR:aP [azt,azx,azz] [azt,azx] (aA uM):=aZ
theorem anX(F:aU K "__init__" "Shelf.__init__" uM f fd)(T:Txt K mg C)(U:vc K mg S fP):aj P w K mg base ak 1 f fd [azt,azx] (Kn K C S):=by
 refine F.okL SR ?_
 . intro aw A outer s H vs Q E hr h xX dX;obtain⟨x,dx,a,xs,ps,rfl,hx,ha,bE,ET,su,q⟩:=h;have hu:=hr.units;refine⟨_,(am (iy (pv 0) aia rfl)
    (av (eJ eI rfl (cQ (pv 1)) (bc (i:=2) SR.nd rfl (Or.inl rfl))
    (av (jm hu (cU (pv 0) rfl) (eV (aa (cU (pv 2) rfl) (aa (cU (pv 2) rfl) ac))) (pv 2) rfl))))),?_⟩
   refine mC ?_;intro dD sS dP;refine fun d H1 n1 s1 e1=>?_;refine⟨_,rfl,x,S,dx,_,rfl,s1 _ _ hx,U.cl,U.nS,(by decide),?_⟩;have ES:d≠x:=(aL hx n1).symm;have ax:a≠x:=aK ha hx (by intro z;cases z);have nl:=bC bE;refine⟨_,rfl,a,rfl,⟨_,ae.of (by rw[aW ax];exact s1 _ _ ha)⟩,?_⟩;refine iT (xs:=xs) (fun i σ H2=>∃u kvs,σ=[some (.ref x),some (.ref a),u]/\(∀b o,H b=some o->b≠x->H2 b=some o)/\H2 x=some (.ins S dx (ay aAt (.ref d) []))/\H2 d=some (.dT kvs)/\SQ kvs xs ps i)
    ⟨none,[],rfl,fun b o e hb=>by rw[aW hb];exact s1 _ _ e,aH,by rw[aW ES];exact e1,aI _,fun j p v hj=>absurd hj (N6 _)⟩ ?_ ?_ ?_
   . intro i σ H2 hi gt;refine bg ?_;intro tT;obtain⟨u,kvs,rfl,k2,_⟩:=gt;exact ae.of (k2 _ _ ha ax)
   . intro i v σ H2 hv gu;refine bg ?_;intro tT;obtain⟨u,kvs,rfl,k2,pT,hd2,hk⟩:=gu;obtain⟨p,hp,b,dy,fl,rk,m,pf,pn,jE,po,ys,rfl,h1,h2,h3,h4,h5,h6⟩:=eE bE hv;have bx:b≠x:=aK h1 hx (by intro z;injection z with _ _ z;subst z;have:=h2.name;cases this);have b2:=k2 _ _ h1 bx;have m2:=k2 _ _ h3 (aK h3 hx (by intro z;cases z));have hlk:(ay (aAt:Str) (V.ref d) []).lookup (aAt:Str)=some (.ref d):=by rw[cx,al rfl]
     refine⟨_,rfl,_,rfl,x,S,dx,_,_,rfl,pT,U.cl,U.nS,hlk,_,rfl,b,C,dy,_,_,rfl,b2,T.cl,T.nN,h2.name,_,rfl,b,C,dy,_,_,rfl,b2,T.cl,T.nM,h2.make,(by show 2<=sizeLine;decide),fun t H3 n3 s3 e3=>?_⟩;have aN:=(cW.mp hv).1;refine⟨d,_,rfl,fT.t (s3 _ _ hd2) (Km e3 (s3 _ _ m2)) (bZ (by have:=hk.1;omega)),?_⟩;refine⟨_,_,rfl,fun c o e hc=>?_,?_,aH,?_,fun j p' v' hj b8 zh=>?_⟩
     . rw[aW (fun z=>by rw[z,n1]at e;cases e)];exact s3 _ _ (k2 _ _ e hc)
     . rw[aW ES.symm];exact s3 _ _ pT
     . exact cu (zw _ _ _) (WT hk.1)
     . rw[CQ]
       by_cases ER:j=i
       . subst ER;rw[hp]at b8;rw[hv]at zh;cases b8;cases zh;exact al rfl
       . have rJ:j<i:=by omega
         rw[ai]
         . exact hk.2 j p' v' rJ b8 zh
         . intro z;have z:fY p'=fY p:=z;refine ER ((WS (l:=ps.map fY) (i:=j) (j:=i) ?_ su).mp ?_)
           . rw[ao];have:=(cW.mp b8).1;omega
           . rw[dH,dH,hp,b8,tL,tL,z]
   . intro σ H2 qg;refine bg ?_;intro tT;obtain⟨u,kvs,rfl,k2,pT,hd2,hk⟩:=qg;rw[nl]at hk;exact q H2 k2 ⟨x,dx,_,d,kvs,rfl,pT,by rw[cx,al rfl],by rw[cx,ai (by decide +kernel)];rfl,hd2,hk⟩
def SS(K:Fg)(S:Addr):Sp:=fun vs H Q _=>∃(sv v:V) (m:Addr) (xs:Lv) (ps:Lp) (j:Nat) (p:cf),vs=[sv,.str p.nm,.ref m]/\ja S H sv xs ps/\ps[j]?=some p/\xs[j]?=some v/\H m=some (.tup (p.ms.map V.int))/\∀H',ag H H'->Q v H'
theorem anZ:aP [azt,azE,azH] [azt,azE,azH] (aA p9):=aZ
theorem an8(F:aU K azz "Shelf.parcel" p9 f fd)(U:vc K mg S fP):aj P w K mg base ak 1 f fd [azt,azE,azH] (SS K S):=by
 refine F.okL anZ ?_
 . intro aw A outer s H vs Q E hr h xX dX;obtain⟨sv,v,m,xs,ps,j,p,rfl,⟨a,dx,fl,d,kvs,rfl,h1,h2,h3,h4,h5⟩,hp,hv,hm,q⟩:=h;have hu:=hr.units;have SU:=h5.2 j p v (cW.mp hp).1 hp hv;refine⟨_,(am (cO (ww (Px hu (eV (aa (pv 1) (aa (pv 2) ac))) (cU (pv 0) rfl)) (by rfl))
    (av Yy) dA)
    (av (aV (rn hu (cU (pv 0) rfl) (eV (aa (pv 1) (aa (pv 2) ac))) (fun _ _=>rfl))))),?_⟩
   refine mC ?_;intro dD sS dP;refine⟨_,rfl,_,rfl,(by show 2<=sizeLine;decide),fun t H1 n1 s1 e1=>?_⟩;have g1:c8 H1 d (.ref t) (bh kvs (fY p)):=c8.t (s1 _ _ h4) (Km e1 (s1 _ _ hm));refine⟨_,rfl,a,S,dx,_,_,rfl,s1 _ _ h1,U.cl,U.nS,h2,d,_,rfl,g1,_,rfl,?_⟩;rw[SU];refine bA (fun h=>absurd h (by show ¬((!true)=true);decide)) (fun h=>?_);refine⟨_,rfl,a,S,dx,_,_,rfl,s1 _ _ h1,U.cl,U.nS,h2,_,rfl,_,rfl,(by show 2<=sizeLine;decide),fun t2 H2 n2 s2 e2=>?_⟩;have bU:=s1.trans s2;have g2:c8 H2 d (.ref t2) (bh kvs (fY p)):=c8.t (bU _ _ h4) (Km e2 (bU _ _ hm));rw[SU]at g2;exact⟨d,v,rfl,g2,q H2 bU⟩
open PySem.Spec PyProof.Rows
abbrev Tr:=List (Str×Ls)
section
variable {β:Type}
end
structure lH(done tr:Tr):Prop where
 nd:(tr.map (·.1)).Nodup
 sub:∀f∈tr,f∈done
 key:∀f∈done,f.1∈tr.map (·.1)
 len:tr.length<=done.length
theorem SV:lH [] []:=⟨kM,fun _ h=>h,(fun _ h=>nomatch h),aI _⟩
theorem lH.step{done tr:Tr}(g:lH done tr)(x:Str)(ls:Ls):lH (done++[(x,ls)]) (bI tr x ls):=by
 refine⟨lE g.nd,fun f hf=>?_,fun f hf=>?_,?_⟩
 . rcases rM hf with e | hf
   . rw[e];exact eF _ (bw.mpr rfl)
   . exact yD _ (g.sub f hf)
 . rcases bS.mp hf with hf | hf
   . exact Jn (.inr (g.key f hf))
   . rw[bw.mp hf];exact Jn (.inl rfl)
 . have:=j7 tr x ls;have:=g.len;rw[bj,iN];omega
end K63
namespace K63
open PySem L2 PySem.Spec
variable {P:Program}{w:World}{K:Fg}{mg:Mv}{base:Heap}
def vd(xs:Lv)(ps:Lp)(v:V)(p:cf):Prop:=∃j:Nat,ps[j]?=some p/\xs[j]?=some v
def qj(xs:Lv)(ps:Lp)(ch:Ch):Prop:=∀e∈ch,∃v p,vd xs ps v p/\p.nm=e.1/\p.ms=e.2
def Ko(S:Addr):Sp:=fun vs H Q _=>∃(sv:V) (c:Addr) (xs:Lv) (ps:Lp) (ch:Ch),vs=[sv,.ref c]/\ja S H sv xs ps/\db H c ch/\qj xs ps ch/\ch.length<64 /\
 ∀D H' iX ig,H D=none->ag H H'->H' D=some (.lst iX)->Paired (vd xs ps) iX ig->(ig.map (·.nm)).Perm (ch.map (·.1))->(∀p∈ig,(p.nm,p.ms)∈ch)->Q (.ref D) H'
theorem an9:aP [azu,azA] [azu,azA] (aA Aq):=aZ
theorem SW(F:bB K "parcels_of" Aq f fd)(B:b9 mg)(U:vc K mg S km)(ql:aU K azz "Shelf.parcel" p9 km qk):aj P w K mg base ak 2 f fd [azu,azA] (Ko S):=by
 have aoa:aj P w K mg base ak 1 km qk [azt,azE,azH] (SS K S):=an8 ql U;have aob:=ql.binds3 (l:=[azt,azE,azH]) (fun _ _ _ _ _ _ _ _ _=>rfl);refine F.okL an9 ?_
 . intro aw A outer s H vs Q E hr h xX dX;obtain⟨sv,c,xs,ps,ch,rfl,hS,hC,hV,uy,q⟩:=h;have hu:=hr.units;obtain⟨kvs,e1,e2⟩:=id hC;have hk:∀kv f,dr H kv f->kv.1=Sum.inr f.1:=fun kv f z=>z.1;have kl:=bC e2;refine⟨_,(av (aV (gF [azE] [azu,azA] [0,1] eA rfl (cQ (dJ (C9 rfl) (by rfl) B.sorted yV (aa (pv 1) ac))) (fun _ _ _ _=>(bc (i:=0) (show List.Nodup ([azE,azu,azA]:Ls) by decide +kernel) rfl (Or.inl rfl))) (fun _ _ _ _=>iB) (fun _ _ _ _=>(jV (pv 1) U.cl U.mP aoa hr aob .nil fA (aa (pv 0) (aa (rn hu (pv 2) (pv 0) (fun _ _=>rfl)) ac))))))),?_⟩;refine⟨_,rfl,c,kvs,_,rfl,e1,uJ hk e2,by omega,fun ys hp hs a H1 n1 s1 a1=>?_⟩;refine⟨a,rfl,⟨_,ae.of a1⟩,?_⟩;refine zB (σ0:=[none,some sv,some (.ref c)]) (ae.of a1) (fun σ=>∃v,σ=[v,some sv,some (.ref c)]) (fun i zs _=>∃ig,Paired (vd xs ps) zs ig/\ig.map (·.nm)=ys.take i/\∀p∈ig,(p.nm,p.ms)∈ch) ⟨_,rfl⟩ (fun _ _=>⟨[],.nil,rfl,fun _ h=>nomatch h⟩) ?_ ?_
   . intro D i x zs σ H2 k hD hi eX hd h2 gt fC;refine bg ?_;intro tT;obtain⟨v,rfl⟩:=eX;obtain⟨ig,pr,pn,pc⟩:=gt;rw[dH]at hi;cases hy:ys[i]? with
     | none=>rw[hy]at hi;cases hi
     | some y=>
      rw[hy]at hi;cases hi;have Kp:y∈ch.map (·.1):=hp.mem_iff.mp (eg hy);obtain⟨u,ms,g1,g2,_,m,rfl,g3⟩:=rO hk e2 Kp;obtain⟨v2,p,jq,en,em⟩:=hV _ g2;obtain⟨j,j1,j2⟩:=id jq;have en:p.nm=y:=en;have em:p.ms=ms:=em;subst en em;obtain⟨sa,dx,fl,d,kk,rfl,b1,b2,b3,b4,b5⟩:=hS.same (s1.trans h2);have bU:=s1.trans h2;refine⟨_,rfl,sa,dx,fl,rfl,b1,b3,_,rfl,_,rfl,_,rfl,c,_,rfl,(by rw[←g1];exact c8.k (k:=.inr p.nm) (bU _ _ e1)),?_⟩;refine⟨_,v2,m,xs,ps,j,p,rfl,⟨sa,dx,fl,d,kk,rfl,b1,b2,b3,b4,b5⟩,j1,j2,bU _ _ g3,fun H3 s3=>?_⟩;have hl:zs.length<=64:=by
       have e:=eN List.length pn;rw[ao,eG]at e;have:=bC pr;have:=hp.length_eq;rw[ao]at this;omega
      refine fC _ _ _ ⟨_,rfl⟩ s3 (bZ (by omega)) ⟨ig++[p],ju jq pr,?_,fun p' b8=>?_⟩
      . rw[dz,pn,gT,hy];rfl
      . rcases bS.mp b8 with z | z
        . exact pc p' z
        . rw[bw.mp z];exact g2
   . intro D zs H2 hD hd h2 gu;refine bg ?_;intro tT;obtain⟨ig,pr,pn,pc⟩:=gu;rw[ao,eZ]at pn;refine q D H2 zs ig (s1.free hD) (s1.trans h2) hd pr ?_ pc;rw[pn];exact hp
def de(H H':Hp)(kv:ar×V)(f:Str×Ls):Prop:=kv.1=.inr f.1/\∃l,kv.2=.ref l/\H l=none/\H' l=some (.lst (f.2.map V.str))
theorem de.same{H H1 H2:Hp}(s:ag H1 H2){kv:ar×V}{f:Str×Ls}(h:de H H1 kv f):de H H2 kv f:=h.elim fun a aoc=>aoc.elim fun l aod=>aod.elim fun b aoe=>aoe.elim fun c d=>⟨a,l,b,c,s _ _ d⟩
theorem de.put{H H1:Hp}{ks nz:List (ar×V)}(hd:H1 d=some (.dK ks)){kv:ar×V}{f:Str×Ls}(h:de H H1 kv f):de H (ah H1 d (.dK nz)) kv f:=h.elim fun a aof=>aof.elim fun l aog=>aog.elim fun b aoh=>aoh.elim fun c e=>⟨a,l,b,c,aB e (aK e hd (by intro z;cases z))⟩
def fm(ps:Lp):Tr:=ps.flatMap (·.fs)
def SX(C:Addr):Sp:=fun vs H Q _=>∃(a:Addr) (xs:Lv) (ps:Lp),vs=[.ref a]/\H a=some (.lst xs)/\dQ C H xs ps/\(fm ps).length<=60 /\
 ∀d H' kvs tr,H d=none->ag H H'->H' d=some (.dK kvs)->Paired (de H H') kvs tr->lH (fm ps) tr->Q (.ref d) H'
theorem AO:aP [azx,aAd,azz,azC,azO] [azx] (aA Ee):=aZ
theorem SY{ps:Lp}{i:Nat}{p:cf}(h:ps[i]?=some p):fm (ps.take (i+1))=fm (ps.take i)++p.fs:=by
 unfold fm;rw[gT,h,G0];simp
theorem aoi{ps:Lp}{i:Nat}{p:cf}(h:ps[i]?=some p)(j:Nat):(fm (ps.take i)++p.fs.take j).length<=(fm ps).length:=by
 have e:fm ps=fm (ps.take (i+1))++fm (ps.drop (i+1)):=by
  unfold fm;rw[←G0,aya]
 rw[e,SY h];simp only[bj,eG];omega
theorem aoj(F:bB K "brought_by" Ee f fd)(B:b9 mg)(T:Txt K mg C):aj P w K mg base ak 1 f fd [azx] (SX C):=by
 refine F.okL AO ?_
 . intro aw A outer s H vs Q E hr h xX dX;obtain⟨a,xs,ps,rfl,ha,bE,RK,q⟩:=h;have hu:=hr.units;refine⟨_,(am (aJ (i:=1) AO.nd rfl (Or.inl rfl) mB)
    (am (eJ eI rfl (cQ (pv 0)) (bc (i:=2) AO.nd rfl (Or.inl rfl))
    (av (eJ eI rfl (cQ (cU (pv 2) rfl)) (pF rfl (fb (bc (i:=3) AO.nd rfl (Or.inl rfl)) (fb (bc (i:=4) AO.nd rfl (Or.inl rfl)) mi)))
     (av (jm hu (pv 1) (pv 3) (eK mx (by rfl) B.list jP (aa (pv 4) ac)) rfl)))))
    (av (aV (pv 1))))),?_⟩
   refine lw ?_;intro dD sS fE dP;have hk:∀(H':Hp) kv f,de H H' kv f->kv.1=Sum.inr f.1:=fun _ kv f z=>z.1;refine fun d H1 n1 s1 e1=>?_;refine⟨_,rfl,a,rfl,⟨_,ae.of (s1 _ _ ha)⟩,?_⟩;refine iT (xs:=xs) (fun i σ H2=>∃u v z kvs tr,σ=[some (.ref a),some (.ref d),u,v,z]/\ag H H2/\H2 d=some (.dK kvs)/\Paired (de H H2) kvs tr/\lH (fm (ps.take i)) tr) ⟨none,none,none,[],[],rfl,s1,e1,.nil,SV⟩ ?_ ?_ ?_
   . intro i σ H2 hi qg;refine bg ?_;intro tT;obtain⟨u,v,z,kvs,tr,rfl,s2,_⟩:=qg;exact ae.of (s2 _ _ ha)
   . intro i x σ H2 hx uR;refine bg ?_;intro tT;obtain⟨u,v,z,kvs,tr,rfl,s2,hd,sw,g⟩:=uR;obtain⟨p,hp,b,dy,fl,rk,m,pf,pn,jE,po,ys,rfl,h1,h2,h3,h4,h5,h6⟩:=eE bE hx;refine⟨_,rfl,b,C,dy,_,_,rfl,s2 _ _ h1,T.cl,T.nF,h2.files,pf,rfl,⟨_,ae.of (s2 _ _ h4)⟩,?_⟩;refine iT (xs:=ys) (fun j σ H3=>∃v z kvs tr,σ=[some (.ref a),some (.ref d),some (.ref b),v,z]/\ag H H3/\H3 d=some (.dK kvs)/\Paired (de H H3) kvs tr/\lH (fm (ps.take i)++p.fs.take j) tr) ⟨v,z,kvs,tr,rfl,s2,hd,sw,by rw[List.take_zero,lX];exact g⟩ ?_ ?_ ?_
     . intro j σ H3 hj uS;refine bg ?_;intro tT;obtain⟨v,z,kvs,tr,rfl,s3,_⟩:=uS;exact ae.of (s3 _ _ h4)
     . intro j y σ H3 hy AC;refine bg ?_;intro tT;obtain⟨v,z,kvs,tr,rfl,s3,dg,EU,g3⟩:=AC;obtain⟨⟨px,ls⟩,Kq,t,l,rfl,t1,t2⟩:=eE h5 hy;refine⟨t,_,rfl,aX.of (s3 _ _ t1),rfl,_,_,rfl,_,_,rfl,rfl,?_⟩;refine⟨_,rfl,l,_,rfl,.inl (ae.of (s3 _ _ t2)),fun l' H4 n4 s4 e4=>?_⟩;have hlen:=aoi hp j;have ayJ:=g3.len;have aok:=bC EU;refine⟨_,rfl,_,rfl,d,_,rfl,fT.k (k:=.inr px) (s4 _ _ dg) (bZ (by omega)),?_⟩;refine⟨_,_,_,bI tr px ls,rfl,fV (s3.trans s4) n1,aH,?_,?_⟩
       . refine aE (jv (F:=de H H4) (hk H4) ⟨rfl,l',rfl,s3.free n4,e4⟩ (aE EU fun _ _=>de.same s4)) fun kv f=>de.put (s4 _ _ dg)
       . rw[gT,Kq];have:=g3.step px ls;rw[kN]at this;exact this
     . intro σ H3 AE;refine bg ?_;intro tT;obtain⟨v,z,kvs,tr,rfl,s3,dg,EU,g3⟩:=AE;refine⟨_,_,_,kvs,tr,rfl,s3,dg,EU,?_⟩;rw[SY hp];rw[bC h5,eZ]at g3;exact g3
   . intro σ H2 JI;refine bg ?_;intro tT;obtain⟨u,v,z,kvs,tr,rfl,s2,hd,sw,g⟩:=JI;rw[bC bE,eZ]at g;exact⟨_,rfl,q d H2 kvs tr n1 s2 hd sw g⟩
variable {P:Program}{w:World}{K:Fg}{mg:Mv}{base:Heap}
theorem Ta{H:Hp}{xs vs:Lv}{ps ig:Lp}(h:dQ C H xs ps)(r:Paired (vd xs ps) vs ig):dQ C H vs ig:=aE r fun v p aol=>aol.elim fun j aom=>aom.elim fun a b=>by
 obtain⟨x,hx,q⟩:=DF h a;rw[b]at hx;cases hx;exact q
theorem Tb{xs vs:Lv}{ps ig:Lp}(r:Paired (vd xs ps) vs ig):∀p∈ig,p∈ps:=by
 induction r with
 | nil=>exact fun _ h=>nomatch h
 | cons q t ih=>
  intro p hp
  rcases aY.mp hp with e | hp
  . obtain⟨j,a,b⟩:=q;rw[e];exact eg a
  . exact ih p hp
theorem aon{ps:Lp}{b:Nat}(h:∀p∈ps,p.fs.length<=b):(fm ps).length<=ps.length * b:=by
 induction ps with
 | nil=>exact dG _
 | cons p ps ih=>
  have e:fm (p::ps)=p.fs++fm ps:=GZ;rw[e,bj,cg,Wt];have:=ih fun q hq=>h q (bR _ hq);have:=h p bK;omega
def bM(H:Hp)(kv:ar×V)(f:Str×Ls):Prop:=kv.1=.inr f.1/\∃l,kv.2=.ref l/\H l=some (.lst (f.2.map V.str))
theorem bM.same{H H':Hp}(s:ag H H'){kv:ar×V}{f:Str×Ls}(h:bM H kv f):bM H' kv f:=h.elim fun a aoo=>aoo.elim fun l aop=>aop.elim fun b c=>⟨a,l,b,s _ _ c⟩
def Kr(tr:Tr):Prop:=∀f∈tr,Ln f.1/\(∀x∈f.2,Ln x)/\f.2.length<=20
section
variable {g:TG}{tt:TT}{te:TE}{H1:Hp}{Q:Hp->Prop}
theorem qm{K:Fg}{xs:Lv}{σ0:St}(hD:H1 D=none)(hx:ae K H1 a xs)(S:St->Prop)(P:Nat->Lv->Hp->Prop)(s0:S σ0)(st:P 0 [] (ah H1 D (.lst [])))
 (turn:∀i x ys σ H (k:St->V->Hp->Prop) (k':St->Hp->Prop),xs[i]?=some x->S σ->H D=some (.lst ys)->ag H1 H->P i ys H ->
  (∀σ3 y H5,S σ3->ag H H5->ys.length<sizeLine->P (i+1) (ys++[y]) (ah H5 D (.lst (ys++[y])))->k σ3 y H5)->(∀σ3 H4,S σ3->ag H H4->P (i+1) ys H4->k' σ3 H4) ->
  g x σ H fun σ3 H3=>tt σ3 H3 fun ok H4=>if ok=true then te σ3 H4 (k σ3) else k' σ3 H4)
 (done:∀ys H,H D=some (.lst ys)->ag H1 H->P xs.length ys H->Q H) :
 ∃W:Nat->Nat->St->Hp->Prop,(∃m,W 0 m σ0 (ah H1 D (.lst [])))/\mv (nJ K a) g tt te D (fun H'=>Q H') W:=by
 refine⟨fun i m σ H=>m=xs.length - i/\i<=xs.length/\S σ/\∃ys,H D=some (.lst ys)/\ag H1 H/\P i ys H,⟨xs.length,by simp,dG _,s0,[],aH,fU hD,st⟩,?_⟩;intro i m σ H eX;refine bg ?_;intro tT;obtain⟨rfl,hi,hS,ys,hd,hs,hp⟩:=eX;have q:ae K H a xs:=ag.seq hs hx
 by_cases aN:i<xs.length
 . refine .inr ⟨⟨xs,xs[i],q,by simp[aN]⟩,fun x H2 hy=>?_⟩;obtain⟨e1,e2⟩:=hy;subst e1;exact turn i x ys σ _ (fun σ3 y H5=>∃ys,H5 D=some (.lst ys)/\ys.length<sizeLine/\∃m',m'<xs.length - i/\(m'=xs.length - (i+1)/\i+1<=xs.length/\S σ3/\∃zs,ah H5 D (.lst (ys++[y])) D=some (.lst zs)/\ag H1 (ah H5 D (.lst (ys++[y])))/\P (i+1) zs (ah H5 D (.lst (ys++[y])))))
    (fun σ3 H4=>∃m',m'<xs.length - i/\(m'=xs.length - (i+1)/\i+1<=xs.length/\S σ3/\∃zs,H4 D=some (.lst zs)/\ag H1 H4/\P (i+1) zs H4)) (e2 xs q) hS hd hs hp
    (fun σ3 y H5 a1 a2 a3 a4=>⟨ys,a2 _ _ hd,a3,xs.length - (i+1),by omega,rfl,aN,a1,ys++[y],aH,fV (hs.trans a2) hD,a4⟩)
    (fun σ3 H4 a1 a2 a3=>⟨xs.length - (i+1),by omega,rfl,aN,a1,ys,a2 _ _ hd,hs.trans a2,a3⟩)
 . have e:i=xs.length:=by omega
   subst e;exact .inl ⟨⟨xs,q,aI _⟩,done ys H hd hs hp⟩
theorem aoq{K:Fg}{xs:Lv}{σ0:St}(hD:H1 D=none)(hx:ae K H1 a xs)(S:St->Prop)(P:Nat->Lv->Hp->Prop)(s0:S σ0)(st:P 0 [] (ah H1 D (.lst [])))
 (turn:∀i x ys σ H (k:St->V->Hp->Prop),xs[i]?=some x->S σ->H D=some (.lst ys)->ag H1 H->P i ys H ->
  (∀σ3 y H5,S σ3->ag H H5->ys.length<sizeLine->P (i+1) (ys++[y]) (ah H5 D (.lst (ys++[y])))->k σ3 y H5)->g x σ H fun σ3 H3=>te σ3 H3 (k σ3))
 (done:∀ys H,H D=some (.lst ys)->ag H1 H->P xs.length ys H->Q H) :
 ∃W:Nat->Nat->St->Hp->Prop,(∃m,W 0 m σ0 (ah H1 D (.lst [])))/\mv (nJ K a) g ur te D (fun H'=>Q H') W:=
 qm hD hx S P s0 st (fun i x ys σ H k k' a1 a2 a3 a4 a5 a6 _=>turn i x ys σ H k a1 a2 a3 a4 a5 a6) done
end
abbrev dI (ms:List Int):PySem.W.Dat:=.tuple (ms.map PySem.W.Dat.int)
theorem aor{a b:List Int}:dI a=dI b↔a=b:=⟨fun h=>(List.map_inj_right fun x y z=>PySem.W.Dat.int.inj z).mp (PySem.W.Dat.tuple.inj h),fun h=>by rw[h]⟩
theorem EV(n:Nat)(ms:List Int):PySem.W.kqdOk (n+1) (dI ms)=true:=by
 simp only[dI,PySem.W.kqdOk,jk,cD];rintro d ⟨i,_,rfl⟩;simp[PySem.W.kqdOk]
theorem Ks{K:Fg}{H:Hp}{ms:List Int}(h:H m=some (.tup (ms.map V.int))):DV K H (.ref m) (dI ms):=.tup (aX.of h) (PM ms)
def qo(H:Hp)(v:V)(ms:List Int):Prop:=∃m,v=.ref m/\H m=some (.tup (ms.map V.int))
theorem qo.same{H H':Hp}(s:ag H H'){v:V}{ms:List Int}(h:qo H v ms):qo H' v ms:=h.elim fun m aos=>aos.elim fun a b=>⟨m,a,s _ _ b⟩
theorem Tc{K:Fg}{H:Hp}{vs:Lv}{fG:Ll}(h:Paired (qo H) vs fG):gZ K H vs (fG.map dI):=by
 induction h with
 | nil=>exact .nil
 | cons r t ih=>
  obtain⟨m,rfl,e⟩:=r;exact .cons (Ks e) ih
theorem Td(n:Nat)(fG:Ll):PySem.W.kqdOk (n+2) (.list (fG.map dI))=true:=by
 rw[PySem.W.kqdOk,jk];intro d hd;obtain⟨ms,_,rfl⟩:=cD.mp hd;exact EV n ms
theorem aot{ps:Lp}{i:Nat}{p:cf}(h:ps[i]?=some p)(sel:cf->Bool):(ps.take (i+1)).filter sel=(ps.take i).filter sel++(if sel p=true then [p] else []):=by
 rw[gT,h,Ol]
 congr 1
 show List.filter sel [p]=_;rw[qO];rfl
def Te(K:Fg)(C:Addr):Sp:=fun vs H Q _=>∃(a n:Addr) (cell:Int) (xs:Lv) (ps:Lp) (ns:Ls),vs=[.ref a,.ref n,.int cell]/\H a=some (.lst xs)/\dQ C H xs ps/\ps.length<=100/\H n=some (.lst (ns.map V.str))/\ns.length<=4 /\
 ∀c H' ch,H c=none->ag H H'->db H' c ch->qj xs ps ch->(ch.map (·.1)).Nodup->ch.length<=4->Q (.ref c) H'
theorem AQ:aP [azQ,azD,azv,"_law_chosen_here",azB,"_law_makes",azw] [azQ,azD,azv] (aA Eu):=aZ
theorem aou(F:bB K "_law_chosen" Eu f fd)(B:b9 mg)(T:Txt K mg C)(cH:aO K mg az7 r9 iZ i8):aj P w K mg base ak 2 f fd [azQ,azD,azv] (Te K C):=by
 have fh:aj P w K mg base ak 1 iZ i8 [azv,azB] xk:=AB cH.u;have fj:=cH.u.binds2 (l:=[azv,azB]) (fun _ _ _ _ _ _ _ _=>rfl);refine F.okL AQ ?_
 . intro aw A outer s H vs Q E hr h xX dX;obtain⟨a,n,cell,xs,ps,ns,rfl,ha,bE,ET,hn,n4,q⟩:=h;have hu:=hr.units;have hk:∀(H':Hp) kv f,dr H' kv f->kv.1=Sum.inr f.1:=fun _ kv f z=>z.1;refine⟨_,(am (aJ (i:=3) AQ.nd rfl (Or.inl rfl) mB)
    (am (eJ eI rfl (nK rfl B.range (aa (dJ gD (by rfl) B.len gA (aa (pv 1) ac)) ac)) (bc (i:=4) AQ.nd rfl (Or.inr rfl))
    (am (rA (i:=5) [aAf] [azD,azB] [1,4] AQ.nd rfl rfl eA rfl (cQ (pv 0)) (fun _ _ _ _=>(bc (i:=0) (show List.Nodup ([aAf,azD,azB]:Ls) by decide +kernel) rfl (Or.inl rfl))) (fun _ _ _ _=>nY (bY fw (iD K (pv 0) rfl) (bJ (Ib K) (pv 1) (pv 2) (fun _ _=>rfl)) (bT _))) (fun _ _ _ _=>(iD K (pv 0) rfl)))
     (am (aJ (i:=6) AQ.nd rfl (Or.inl rfl) (aG fh hr rfl cH fj (aa (pv 2) (aa (aF fc aq (pv 4)) ac))))
     (av (cO (PW.pt (mf (bY (PP hu) (pv 5) (df ac) (bT _)) (qZ (bY OX (aF cF (pv 6) aq) aq (bT _)))))
     (av (jm hu (pv 3) (bJ fR (pv 1) (pv 4) (fun _ _=>rfl)) (bJ fR (pv 5) (aF cF (aF ix (pv 6) aq) (dJ gD (by rfl) B.len gA (aa (pv 5) ac))) (fun _ _=>rfl)) rfl)) dA)))))
    (av (aV (pv 3))))),?_⟩
   refine lw ?_;intro dD sS fE dP;refine fun c H1 n1 s1 e1=>?_;refine⟨_,rfl,n,_,rfl,.inl (ae.of (s1 _ _ hn)),_,rfl,by omega,by rw[ao];omega,?_⟩;refine uc (n:=(ns.map V.str).length) (fun i σ H2=>∃(u v z:Option V) (kvs:List (ar×V)) (ch:Ch),σ=[some (.ref a),some (.ref n),some (.int cell),some (.ref c),u,v,z]/\ag H H2/\H2 c=some (.dK kvs)/\Paired (dr H2) kvs ch/\qj xs ps ch/\(ch.map (·.1)).Nodup/\ch.length<=i) ⟨none,none,none,[],[],rfl,s1,e1,.nil,(fun _ h=>nomatch h),kM,aI _⟩ ?_ ?_
   . intro i σ H2 hi gt;refine bg ?_;intro tT;obtain⟨u,v,z,kvs,ch,rfl,s2,hc,sw,hV,su,rG⟩:=gt;rw[ao]at hi;obtain⟨x,hx⟩:∃x,ns[i]?=some x:=⟨ns[i],by simp[hi]⟩;have nZ:cy (ns.map V.str) (0+(i:Int))=some (V.str x):=by
      rw[Int.zero_add];exact HB (by rw[dH,hx];rfl)
     . refine⟨_,rfl,a,rfl,⟨_,ae.of (s2 _ _ ha)⟩,?_⟩;intro D hD;refine qm (σ0:=[none,some (.ref n),some (.int (0+(i:Int)))]) hD (ae.of (s2 _ _ ha)) (fun σ=>∃v,σ=[v,some (.ref n),some (.int (0+(i:Int)))]) (fun j zs H3=>zs.length<=j/\∃fG,Paired (qo H) zs fG/\∀ms∈fG,∃v p,vd xs ps v p/\p.nm=x/\p.ms=ms) ⟨_,rfl⟩ ⟨aI _,[],.nil,fun _ h=>nomatch h⟩ ?_ ?_
       . intro j y zs σ H3 k k' hy gu hd h3 qg eL ii;refine bg ?_;intro tT;obtain⟨v,rfl⟩:=gu;obtain⟨zl,fG,pr,pm⟩:=qg;obtain⟨p,hp,b,dy,fl,rk,m,pf,pn,jE,po,ys,rfl,b1,b2,b3,b4,b5,b6⟩:=eE bE hy;have s3:=s2.trans h3;have aN:=(cW.mp hp).1;refine⟨_,rfl,b,C,dy,_,_,rfl,s3 _ _ b1,T.cl,T.nN,b2.name,_,rfl,_,rfl,n,_,_,_,rfl,rfl,ae.of (s3 _ _ hn),nZ,rfl,_,rfl,?_⟩;refine bA (fun h=>?_) (fun h=>?_)
         . have en:p.nm=x:=by
            have h:=cT h;injection h
           refine⟨_,rfl,b,C,dy,_,_,rfl,s3 _ _ b1,T.cl,T.nM,b2.make,?_⟩;refine eL _ _ _ ⟨_,rfl⟩ (ag.refl _) (bZ (by omega)) ⟨by rw[bj,iN];omega,fG++[p.ms],ju ⟨m,rfl,b3⟩ pr,fun ms hm=>?_⟩
           rcases bS.mp hm with z | z
           . exact pm ms z
           . exact⟨_,p,⟨j,hp,hy⟩,en,(bw.mp z).symm⟩
         . exact ii _ _ ⟨_,rfl⟩ (ag.refl _) ⟨by omega,fG,pr,pm⟩
       . intro zs H3 hd h3 uR;refine bg ?_;intro tT;obtain⟨zl,fG,pr,pm⟩:=uR;have s3:=s2.trans h3;have ll:=bC bE;have Kt:=h3 _ _ hc;have sy:=aE pr fun _ _=>qo.same s3;have Tf:=aE sw fun _ _=>dr.same h3;refine⟨_,rfl,_,rfl,_,_,rfl,rfl,_,_,rfl,fun num=>?_⟩;refine⟨_,rfl,(by show 0<=sizeLine;decide),fun e H4 n4 s4 e4=>?_⟩;refine⟨.list (fG.map dI),.list [],.lst (ae.of (s4 _ _ hd)) (Tc (aE sy fun _ _=>qo.same s4)),.lst (ae.of e4) .nil,Td 7 _,Td 7 [],fun bb hb=>⟨_,rfl,?_⟩⟩;have keep:∀u v z,∃(u' v' z':Option V) (kvs:List (ar×V)) (ch:Ch),[some (V.ref a),some (V.ref n),some (V.int cell),some (V.ref c),u,v,z]=[some (V.ref a),some (.ref n),some (.int cell),some (.ref c),u',v',z']/\ag H H4/\H4 c=some (.dK kvs)/\Paired (dr H4) kvs ch/\qj xs ps ch/\(ch.map (·.1)).Nodup/\ch.length<=i+1:=
          fun u v z=>⟨u,v,z,kvs,ch,rfl,s3.trans s4,s4 _ _ Kt,aE Tf fun _ _=>dr.same s4,hV,su,by omega⟩
         refine bA (fun cY=>?_) (fun cY=>?_)
         . refine⟨_,rfl,_,_,rfl,rfl,(by show(0:Int)<4;decide),_,_,rfl,rfl,_,rfl,?_⟩;refine bA (fun hgt=>?_) (fun hgt=>keep _ _ _);have rE:0<zs.length:=by
            cases zs with
            | nil=>
             cases pr;have hb:bb=true:=hb.mpr rfl;rw[hb]at cY;cases cY
            | cons y ys=>simp
           obtain⟨y,hy,Kp⟩:=HN (xs:=zs) (r:=num / 4 % (zs.length:Int)) (yO _ (by omega)) (Co _ (by omega));obtain⟨ms,Ku,m,rfl,em⟩:=eE sy Kp;obtain⟨v0,p0,jq,en,em2⟩:=pm ms (eg Ku);refine⟨_,rfl,_,rfl,_,_,rfl,rfl,⟨by omega,by omega⟩,_,rfl,D,_,rfl,.inl (ae.of (s4 _ _ hd)),_,_,rfl,rfl,(by show(0:Int)<(zs.length:Int);omega),D,_,_,_,rfl,rfl,ae.of (s4 _ _ hd),hy,?_⟩;refine⟨_,rfl,_,rfl,_,rfl,n,_,_,_,rfl,rfl,ae.of (s4 _ _ (s3 _ _ hn)),nZ,?_⟩;have pl:=bC sw;refine⟨c,_,rfl,fT.k (k:=.inr x) (s4 _ _ Kt) (bZ (by omega)),?_⟩;refine⟨_,_,_,_,bI ch x ms,rfl,fV (s3.trans s4) n1,aH,?_,fun e he=>?_,lE su,cu (j7 ch x ms) (by omega)⟩
           . refine aE (jv (F:=dr H4) (hk H4) ⟨rfl,m,rfl,s4 _ _ em⟩ (aE Tf fun _ _=>dr.same s4)) fun kv f z=>?_;obtain⟨z1,m',z2,z3⟩:=z;exact⟨z1,m',z2,aB z3 (aK z3 (s4 _ _ Kt) (by intro z;cases z))⟩
           . rcases rM he with e' | he
             . rw[e'];exact⟨v0,p0,jq,en,em2⟩
             . exact hV e he
         . exact gk (keep _ _ _)
   . intro σ H2 uS;refine bg ?_;intro tT;obtain⟨u,v,z,kvs,ch,rfl,s2,hc,sw,hV,su,rG⟩:=uS;rw[ao]at rG;exact⟨_,rfl,q c H2 ch n1 s2 ⟨kvs,hc,sw⟩ hV su (by omega)⟩
variable {P:Program}{w:World}{K:Fg}{mg:Mv}{base:Heap}
def aox:V->Lv->Hp->VK->Prop:=fun x vs H Q=>∃a kvs k y,x=.ref a/\vs=[kV k,y]/\H a=some (.dK kvs)/\kvs.length<sizeLine/\∀z uU H',bh uU k=some z->((uU=kvs)\/(bh kvs k=none/\z=y/\uU=cz kvs k y))->H' a=some (.dK uU)->(∀b o,H b=some o->b≠a->H' b=some o)->Q z H'
theorem aoy{X:Cx}:pL X "dict.setdefault" aox:=by
 intro pins s σ H x xs v us Q I rx rs h;obtain⟨a,kvs,k,y,rfl,rfl,e,hl,q⟩:=h;refine ag8 pins s σ H _ _ v us Q I rx rs ⟨a,kvs,k,y,rfl,rfl,e,hl,fun z hz=>q z kvs H hz (.inl rfl) e fun _ _ e _=>e,fun hn=>q y _ _ ?_ (.inr ⟨hn,rfl,rfl⟩) aH fun b o e hb=>aB e hb⟩;rw[CQ,al rfl]
theorem AR(xs:Ls):(xs.map V.str).all pK=true:=by
 rw[jk];intro v hv;obtain⟨z,_,rfl⟩:=cD.mp hv;rfl
theorem aoz{z:Str}{xs:Ls}(h:z∈xs):nV (.str z) (xs.map V.str)=true:=by
 unfold nV;rw[yM];exact⟨_,cD.mpr ⟨z,h,rfl⟩,by simp[li]⟩
theorem aoA{α:Type}{xs:List α}{j:Nat}(h:j<xs.length):∃v,cy xs (-1 - (0+(j:Int)))=some v:=by
 unfold cy pJ;rw[ai (by omega),al (by omega),Option.bind_some];have:((-1 - (0+(j:Int))+(xs.length:Int)).toNat)<xs.length:=by omega
 exact⟨_,jl this⟩
theorem aoB{L:List Addr}{H H':Hp}(hp:H p=none)(s:ag H H'):ag (msk L H) (msk (p::L) H'):=fun b o e=>by
 unfold msk at e;split at e
 . cases e
 . rename_i hb;refine cJ ?_ (s _ _ e);rw[aY,py];exact⟨fun z=>(by rw[z,hp]at e;cases e),hb⟩
theorem aoC{L:List Addr}{H H':Hp}(s:∀b o,H b=some o->b∉L->H' b=some o):ag (msk L H) (msk L H'):=fun b o e=>by
 unfold msk at e;split at e
 . cases e
 . exact cJ ‹_› (s _ _ e ‹_›)
def aoD(Q:Addr->Hp->Prop):VK:=fun v H=>match v with | .ref x=>Q x H | _=>False
theorem aoE{K:Fg}{C:Addr}{H:Hp}{Q:Addr->Hp->Prop}{E:XK}{nm:Str}{na sa oa:Addr}{mk:List Int}{rk:Int}{xs:Lv}{os:Ls}{fs:List (Str×Ls)}(hm:H m=some (.tup (mk.map V.int)))(hf:H fa=some (.lst xs))(lG:Paired (jD H) xs fs)
 (hn:H na=some (.lst [])) (hs:H sa=some (.lst [])) (ho:H oa=some (.lst (os.map V.str))) (EQ:fs.length<=1000) (q:∀x H',H x=none->ag H H'->(∀L,jt H L->i9 C (msk L H') (.ref x) ⟨nm,mk,fs,os,rk⟩)->Q x H') :
 ∀x dx,H x=none->H dx=none->dx≠x->EO K C (.ref x::([.str nm,.ref m,.int rk,.ref fa,.ref na,.ref sa,.ref oa]++[])) (ah (ah H dx (.own x)) x (.ins C dx [])) (fun v H2=>v=.non/\Q x H2) E:=
 anV (Q:=aoD Q) hm hf lG hn hs ho EQ q
theorem iY.ln{x:Str}(h:iY x):Ln x:=⟨wF.mpr fun c hc=>by have:=h.sg c hc;omega,h.hi⟩
theorem cC.ln{x:Str}(h:cC x):Ln x:=⟨wF.mpr fun c hc=>by have:=h.az c hc;omega,by have:=h.hi;omega⟩
theorem dW.len{x:Str}(h:dW x):x.length<=36:=by
 obtain⟨ps,rfl,h1,h2,h3⟩:=h;have:=JU (sep:=pY) (b:=8) (fun p hp=>(h3 p hp).hi) (by decide +kernel);omega
theorem dW.ln{x:Str}(h:dW x):Ln x:=⟨wF.mpr fun c hc=>by have:=h.signs c hc;omega,by have:=h.len;omega⟩
structure ve(ns:Ls)(ps:Lp)(uk:List (ar×V))(i:Nat):Prop where
 nd:(ps.map fY).Nodup
 ok:∀p∈ps,p.fs.length<=3/\Kr p.fs/\(p.fs.map (·.1)).Nodup
 used:∀p∈ps,∀x∈p.fs.map (·.1),bh uk (.inr x)=some (.str p.nm)
 txts:∀k v,bh uk k=some v->∃y,v=.str y
 len:ps.length<=i
 nms:∀p∈ps,p.nm∈ns
 offs:∀p∈ps,p.os.length<=2/\∀t∈p.os,t∈ns
 mks:∀p∈ps,fg p.ms
structure Apart(ns:Ls)(ps:Lp):Prop where
 nd:(ps.map fY).Nodup
 ok:∀p∈ps,p.fs.length<=3/\Kr p.fs/\(p.fs.map (·.1)).Nodup
 one:∀p∈ps,∀p'∈ps,∀x,x∈p.fs.map (·.1)->x∈p'.fs.map (·.1)->p.nm=p'.nm
 len:ps.length<=6
 nms:∀p∈ps,p.nm∈ns
 offs:∀p∈ps,p.os.length<=2/\∀t∈p.os,t∈ns
 mks:∀p∈ps,fg p.ms
theorem ve.apart{ns:Ls}{ps:Lp}{uk:List (ar×V)}(h:ve ns ps uk 6):Apart ns ps:=by
 refine⟨h.nd,h.ok,fun p hp p' b8 x hx gW=>?_,h.len,h.nms,h.offs,h.mks⟩;have a:=h.used p hp x hx;have b:=h.used p' b8 x gW;rw[a]at b;injection b with b
 injection b
structure Tg(fs:Tr)(uk:List (ar×V))(nm:Str)(j:Nat):Prop where
 nd:(fs.map (·.1)).Nodup
 used:∀x∈fs.map (·.1),bh uk (.inr x)=some (.str nm)
 ok:Kr fs
 len:fs.length<=j
def Th(K:Fg)(C:Addr):Sp:=fun vs H Q _=>∃(sc n:Addr) (is:List Int) (ns:Ls),vs=[.ref sc,.ref n,.int 3]/\ae K H sc (is.map V.int)/\H n=some (.lst (ns.map V.str))/\1<=ns.length/\ns.length<=4 /\
 ∀fa H' vs ps,H fa=none->ag H H'->H' fa=some (.lst vs)->dQ C H' vs ps->Apart ns ps->Q (.ref fa) H'
theorem ku:aP [azG,azD,aAg,"_law_found","_law_used",azB,azv,aAr,"_law_files","_law_j","_law_path_here","_law_offers","_law_rank","_law_parcel","_law_mine"] [azG,azD,aAg] (aA xh):=aZ
theorem aoF(F:bB K az6 xh f fd)(B:b9 mg)(T:Txt K mg C)(M:Mk K C vf)(EW:aU K "__init__" "Parcel.__init__" rT vf AS)
 (cH:aO K mg az7 r9 iZ i8) (jF:aO K mg aAv Ax xz xB)
 (oK:aO K mg "_law_path" Az xA xC) (oM:aO K mg "_law_lines" Ay vg vh) (vi:aj P w K mg base ak 2 vg vh [azw] EF)
 (AT:aO K mg "_law_make" Et Kv Kw):aj P w K mg base ak 3 f fd [azG,azD,aAg] (Th K C):=by
 have aoG:aj P w K mg base ak 1 vf AS [azt,azE,azH,azR,azJ,azW,az5,aAc] (EO K C):=anM EW T B.list;have aoH:=EW.binds8 (l:=[azt,azE,azH,azR,azJ,azW,az5,aAc]) (fun _ _ _ _ _ _ _ _ _ _ _ _ _ _=>rfl);have fh:aj P w K mg base ak 1 iZ i8 [azv,azB] xk:=AB cH.u;have fj:=cH.u.binds2 (l:=[azv,azB]) (fun _ _ _ _ _ _ _ _=>rfl);have vj:aj P w K mg base ak 1 xz xB [azG,azB] (JF K):=RX jF.u B;have vk:=jF.u.binds2 (l:=[azG,azB]) (fun _ _ _ _ _ _ _ _=>rfl);have Kx:aj P w K mg base ak 1 xA xC [azw] JJ:=R3 oK.u;have Ky:=oK.u.binds1 (l:=[azw]) (fun _ _ _ _ _ _ _=>rfl);have EX:=oM.u.binds1 (l:=[azw]) (fun _ _ _ _ _ _ _=>rfl);have aoI:aj P w K mg base ak 1 Kv Kw [azw] R6:=al7 AT.u;have aoJ:=AT.u.binds1 (l:=[azw]) (fun _ _ _ _ _ _ _=>rfl);refine F.okL ku ?_
 . intro aw A outer s H vs Q E hr h xX dX;obtain⟨sc,n,is,ns,rfl,hsc,hn,Kz,KA,q⟩:=h;have hu:=hr.units;have hu2:(A.deeper (PyProof.Rows.envOfC az6 (aA xh) s.heap.objs.size f aw)).units+65<cLine:=by have:=hr.un;omega
   have dC:ce 1 (A.deeper (PyProof.Rows.envOfC az6 (aA xh) s.heap.objs.size f aw)):=hr.mono (by decide);refine⟨_,(am (aJ (i:=3) ku.nd rfl (Or.inl rfl) (df ac))
    (am (aJ (i:=4) ku.nd rfl (Or.inl rfl) mB)
    (am (eJ eI rfl (OP rfl B.range (aa (pv 2) (aa (aF fc (pv 2) aq) ac))) (bc (i:=5) ku.nd rfl (Or.inl rfl))
    (am (aJ (i:=6) ku.nd rfl (Or.inl rfl) (aG vj dC rfl jF vk (aa (pv 0) (aa (pv 5) ac))))
     (am (aJ (i:=7) ku.nd rfl (Or.inr rfl) (bJ fR (pv 1) (aF cF (aF fc (pv 6) (pv 5)) (dJ gD (by rfl) B.len gA (aa (pv 1) ac))) (fun _ _=>rfl)))
     (am (aJ (i:=8) ku.nd rfl (Or.inl rfl) (df ac))
     (am (eJ eI rfl (nK rfl B.range (aa (aF cF (aG fh dC rfl cH fj (aa (pv 6) (aa aq ac))) aq) ac)) (bc (i:=9) ku.nd rfl (Or.inl rfl))
     (am (aJ (i:=10) ku.nd rfl (Or.inl rfl) (aG Kx dC rfl oK Ky (aa (aG fh dC rfl cH fj (aa (pv 6) (aa (aF fc aq (pv 9)) ac))) ac)))
      (av (cO (PW.pt (mf (bY fw (dj GS axO PySem.F.type_dict_setdefault aoy (pv 4) (aa (pv 10) (aa (pv 7) ac))) (pv 7) (bT _)) (qZ (bY act (pv 10) (gF [aAf] [] [] eA rfl (cQ (pv 8)) (fun _ _ _ _=>(bc (i:=0) (show List.Nodup ([aAf]:Ls) by decide +kernel) rfl (Or.inl rfl))) (fun _ _ _ _=>iB) (fun _ _ _ _=>(bJ (agS K) (pv 0) aq (fun _ _=>rfl)))) (by rfl)))))
      (av (cp (dj iO yW yX rj (pv 8) (aa (eV (aa (pv 10) (aa (aG vi hr rfl oM EX (aa (aG fh dC rfl cH fj (aa (pv 6) (aa (aF fc aq (pv 9)) ac))) ac)) ac))) ac)))) dA))))
     (am (rA (i:=11) ["_law_j"] [azD] [1] ku.nd rfl rfl eA rfl (nK rfl B.range (aa (dJ (ZW rfl) (by rfl) B.min PyProof.Rows.boot_min (aa (dJ gD (by rfl) B.len gA (aa (pv 1) ac)) (aa (aF ix (aF cF (aG fh dC rfl cH fj (aa (pv 6) (aa aq ac))) aq) aq) ac))) ac)) (fun _ _ _ _=>(bc (i:=0) (show List.Nodup (["_law_j",azD]:Ls) by decide +kernel) rfl (Or.inl rfl))) (fun _ _ _ _=>iB) (fun _ _ _ _=>(bJ (Ib K) (pv 1) (aF CK (wx wz aq) (pv 0)) (fun _ _=>rfl))))
     (am (aJ (i:=12) ku.nd rfl (Or.inl rfl) (bJ fR (df (aa (aF cF (aG fh dC rfl cH fj (aa (pv 6) (aa aq ac))) aq) (aa (aF cF (pv 6) (aF Hq aq aq)) ac))) (aF cF (aG fh dC rfl cH fj (aa (pv 6) (aa aq ac))) aq) (fun _ _=>rfl)))
     (am (aJ (i:=13) ku.nd rfl (Or.inl rfl) (zj M aoG hr rfl T.mgC aoH .nil fA (aa (pv 7) (aa (aG aoI dC rfl AT aoJ (aa (aG fh dC rfl cH fj (aa (pv 6) (aa aq ac))) ac)) (aa (pv 12) (aa (pv 8) (aa (df ac) (aa (df ac) (aa (pv 11) ac)))))))))
     (am (rA (i:=14) [aAf] [aAr] [7] ku.nd rfl rfl eA rfl (cQ (pv 3)) (fun _ _ _ _=>(bc (i:=0) (show List.Nodup ([aAf,aAr]:Ls) by decide +kernel) rfl (Or.inl rfl))) (fun _ _ _ _=>nY (bY fw (iD K (pv 0) rfl) (pv 1) (bT _))) (fun _ _ _ _=>(iD K (pv 0) rfl)))
     (av (cO (PW.pt (mf (bY zc (dJ gD (by rfl) B.len gA (aa (pv 14) ac)) aq (bT _)) (qZ (bY (ahp hu2) (cU (pv 13) rfl) (pv 14) (by rfl)))))
     (av (cp (dj iO yW yX rj (pv 3) (aa (pv 13) ac)))) dA)))))))))))
    (av (aV (pv 3)))))),?_⟩
   refine j6 ?_;intro dD sS oH fE dP;refine⟨(by show 0<=sizeLine;decide),fun fa Ha na sa ea=>?_⟩;refine fun ua Hb nb sb eb=>?_;have fu:fa≠ua:=aL ea nb;have AU:H ua=none:=sa.free nb;refine⟨_,rfl,_,rfl,_,_,rfl,rfl,3,3+6,rfl,⟨by omega,by omega,by omega,by omega⟩,?_⟩;refine uc (lo:=3) (n:=6) (fun i σ H2=>∃(t5 t6 t7 t8 t9 mK sG sI sJ sK:Option V) (vs:Lv) (ps:Lp) (uk:List (ar×V)),σ=[some (.ref sc),some (.ref n),some (.int 3),some (.ref fa),some (.ref ua),t5,t6,t7,t8,t9,mK,sG,sI,sJ,sK]/\ag H H2/\H2 fa=some (.lst vs)/\H2 ua=some (.dK uk)/\dQ C (msk [fa,ua] H2) vs ps/\ve ns ps uk i/\uk.length<=3 * i)
    ⟨none,none,none,none,none,none,none,none,none,none,[],[],[],rfl,sa.trans sb,sb _ _ ea,eb,.nil,⟨kM,(fun _ h=>nomatch h),(fun _ h=>nomatch h),(fun _ _ h=>nomatch h),aI _,(fun _ h=>nomatch h),(fun _ h=>nomatch h),(fun _ h=>nomatch h)⟩,aI _⟩ ?_ ?_
   . intro i σ H2 hi eX;refine bg ?_;intro tT;obtain⟨t5,t6,t7,t8,t9,mK,sG,sI,sJ,sK,vs,ps,uk,rfl,s2,jC,KC,bE,inv,ul⟩:=eX;refine aiF ?_;intros;refine⟨_,rfl,_,rfl,sc,_,is,rfl,by omega,s2.seq hsc,fun cell=>?_⟩;have rE:(0:Int)<((ns.map V.str).length:Int):=by rw[ao];omega
     obtain⟨nm,hnm,aoN⟩:=zC (xs:=ns) (r:=(cell+(3+(i:Int))) % ((ns.map V.str).length:Int)) (yO _ (by omega)) (by have:=Co (cell+(3+(i:Int))) rE;rw[ao]at *;exact this);refine⟨_,rfl,_,rfl,_,rfl,_,_,rfl,rfl,_,rfl,n,_,rfl,.inl (ae.of (s2 _ _ hn)),_,_,rfl,rfl,rE,n,_,_,_,rfl,rfl,ae.of (s2 _ _ hn),hnm,?_⟩;refine⟨(by show 0<=sizeLine;decide),fun la H3 n3 s3 e3=>?_⟩;have lf:la≠fa:=(aL jC n3).symm;have lu:la≠ua:=(aL KC n3).symm;refine⟨_,rfl,_,_,rfl,fun m1=>?_⟩;refine⟨_,_,rfl,rfl,(by show(0:Int)<4;decide),m1 % 4,rfl,by omega,by omega,?_⟩;refine uc (n:=(m1 % 4).toNat) (fun j σ H3=>∃(t9 mK:Option V) (qp:Lv) (fs:Tr) (uk:List (ar×V)),σ=[some (.ref sc),some (.ref n),some (.int 3),some (.ref fa),some (.ref ua),some (.int (3+(i:Int))),some (.int cell),some (.str nm),some (.ref la),t9,mK,sG,sI,sJ,sK]/\ag H H3/\H3 fa=some (.lst vs)/\H3 ua=some (.dK uk)/\H3 la=some (.lst qp) /\
      dQ C (msk [la,fa,ua] H3) vs ps/\Paired (jD (msk [la,fa,ua] H3)) qp fs/\ve ns ps uk i/\Tg fs uk nm j/\uk.length<=3 * i+j)
      ⟨_,_,[],[],uk,rfl,s2.trans s3,s3 _ _ jC,s3 _ _ KC,e3,bE.same (aoB n3 s3),.nil,inv,⟨kM,(fun _ h=>nomatch h),(fun _ h=>nomatch h),aI _⟩,ul⟩ ?_ ?_
     . intro j σ H4 hj gt;refine bg ?_;intro tT;obtain⟨KD,KG,qp,fs,xD,rfl,s4,vm,xE,KH,xF,EY,dY,jG,ul4⟩:=gt;refine mC ?_;intros;have j3:j<3:=by omega
       refine⟨_,rfl,_,rfl,_,_,rfl,rfl,_,_,rfl,fun m2=>?_⟩;refine⟨_,rfl,fun x H5 lx0 s5=>?_⟩;have lx:=lx0.ln;refine⟨_,rfl,.inr (.inr (.inl ⟨rfl,.inl ⟨_,s5 _ _ xE⟩⟩)),_,rfl,_,rfl,ua,xD,.inr x,.str nm,rfl,rfl,s5 _ _ xE,bZ (by omega),fun z xG H6 hz KI KJ k6=>?_⟩;have mono:∀key v,bh xD key=some v->bh xG key=some v:=by
        rcases KI with rfl | ⟨h1,_,rfl⟩
        . exact fun _ _ h=>h
        . intro key v hv;rw[CQ];split
          . rename_i e;rw[e,h1]at hv;cases hv
          . exact hv
       have KL:xG.length<=3 * i+(j+1):=by
        rcases KI with rfl | ⟨_,_,rfl⟩
        . omega
        . have:=zw xD (.inr x) (.str nm);omega
       have Ti:∀k v,bh xG k=some v->∃y,v=.str y:=by
        rcases KI with rfl | ⟨_,_,rfl⟩
        . exact dY.txts
        . intro k v hv;rw[CQ]at hv;split at hv
          . cases hv;exact⟨nm,rfl⟩
          . exact dY.txts k v hv
       obtain⟨z',rfl⟩:=Ti _ _ hz;have Tj:ag H H6:=fun b o e=>k6 _ _ (s5 _ _ (s4 _ _ e)) (fun z=>by rw[z,AU]at e;cases e);have KN:=k6 _ _ (s5 _ _ vm) fu;have xH:=k6 _ _ (s5 _ _ KH) lu;have zL:ag (msk [la,fa,ua] H4) (msk [la,fa,ua] H6):=(ib s5).trans (aoC fun b o e hb=>k6 _ _ e (fun z=>hb (by rw[z];simp)));have EZ:=aE EY fun _ _=>jD.same zL;have Tk:ve ns ps xG i:=⟨dY.nd,dY.ok,fun p hp y hy=>mono _ _ (dY.used p hp y hy),Ti,dY.len,dY.nms,dY.offs,dY.mks⟩;have keep:∀(t9 mK:Option V) (H7:Hp),ag H6 H7->∃(KD KG:Option V) (qp:Lv) (fs:Tr) (uk:List (ar×V)),[some (V.ref sc),some (.ref n),some (.int 3),some (.ref fa),some (.ref ua),some (.int (3+(i:Int))),some (.int cell),some (.str nm),some (.ref la),t9,mK,sG,sI,sJ,sK]=[some (V.ref sc),some (.ref n),some (.int 3),some (.ref fa),some (.ref ua),some (.int (3+(i:Int))),some (.int cell),some (.str nm),some (.ref la),KD,KG,sG,sI,sJ,sK]/\ag H H7/\H7 fa=some (.lst vs)/\H7 ua=some (.dK uk)/\H7 la=some (.lst qp) /\
        dQ C (msk [la,fa,ua] H7) vs ps/\Paired (jD (msk [la,fa,ua] H7)) qp fs/\ve ns ps uk i/\Tg fs uk nm (j+1)/\uk.length<=3 * i+(j+1):=
        fun t9 mK H7 s7=>⟨t9,mK,qp,fs,xG,rfl,Tj.trans s7,s7 _ _ KN,s7 _ _ KJ,s7 _ _ xH,xF.same (zL.trans (ib s7)),aE EZ (fun _ _=>jD.same (ib s7)),Tk,⟨jG.nd,fun y hy=>mono _ _ (jG.used y hy),jG.ok,Nat.le_succ_of_le jG.len⟩,KL⟩
       refine⟨_,rfl,rfl,_,rfl,bA (fun E2=>?_) (fun E2=>gk (keep _ _ H6 (ag.refl _)))⟩;have ez:z'=nm:=by
        have h:=cT E2;injection h
       subst ez;refine⟨_,rfl,_,rfl,la,rfl,⟨_,ae.of xH⟩,?_⟩;refine zB (σ0:=[none]) (ae.of xH) (fun σ=>∃v,σ=[v]) (fun i zs _=>zs=((fs.map (·.1)).take i).map V.str) ⟨_,rfl⟩ (fun _ _=>rfl) ?_ ?_
       . rintro D i' y zs σ H7 k hD hy ⟨v,rfl⟩ hd h7 rfl hk;obtain⟨⟨px,ls⟩,Kq,t,l,rfl,t1,t2⟩:=eE EZ hy;have a0:cy [V.str px,V.ref l] 0=some (V.str px):=rfl;refine⟨_,rfl,t,_,_,_,rfl,rfl,aX.of (h7 _ _ (bO _ _ t1)),a0,?_⟩;have bP:=jG.len;refine hk _ _ _ ⟨_,rfl⟩ (ag.refl _) (bZ (by rw[ao,eG,ao];omega)) ?_;rw[gT,dH,Kq,dz];rfl
       . rintro D zs H7 hD hd h7 rfl;have fl:=bC EZ;rw[fl,←ao (f:=(·.1)),eZ]at hd;refine⟨D,_,rfl,.inl (ae.of hd),rfl,AR _,_,rfl,bA (fun Dg=>?_) (fun Dg=>keep _ _ H7 h7)⟩;have hnx:x∉fs.map (·.1):=fun hm=>by
          have h:(!nV (.str x) ((fs.map (·.1)).map V.str))=true:=Dg;rw[aoz hm]at h;cases h
         refine⟨_,rfl,.inl ⟨rfl,_,ae.of (h7 _ _ xH)⟩,_,rfl,_,rfl,_,rfl,_,_,rfl,rfl,_,_,rfl,fun m3=>?_⟩;refine⟨_,rfl,fun l H8 ls n8 s8 e8 l4 aoR=>?_⟩;have Tl:my ls:=⟨by omega,fun x hx=>(aoR x hx).ln⟩;refine⟨(by show 2<=sizeLine;decide),fun t H9 n9 s9 e9=>?_⟩;have xI:ag H6 H9:=h7.trans (s8.trans s9);have bP:=jG.len;have fvl:=bC EY;refine⟨la,_,_,rfl,rfl,xI _ _ xH,bZ (by omega),?_⟩;have busy:∀Hx,ag H6 Hx->jt Hx [la,fa,ua]:=fun Hx sx b hb=>by
          simp only[aY,fq,ft]at hb
          rcases hb with rfl | rfl | rfl
          . exact⟨_,sx _ _ xH,by intro vs z;cases z⟩
          . exact⟨_,sx _ _ KN,by intro vs z;cases z⟩
          . exact⟨_,sx _ _ KJ,by intro vs z;cases z⟩
         have DB:H la=none:=s2.free n3;refine⟨_,_,qp++[.ref t],fs++[(x,ls)],xG,rfl,fV (Tj.trans xI) DB,aB (xI _ _ KN) lf.symm,aB (xI _ _ KJ) lu.symm,aH,?_,?_,Tk,⟨?_,?_,?_,?_⟩,KL⟩
         . rw[DE bK];exact xF.same (zL.trans (ib xI))
         . rw[DE bK];exact ju ⟨t,l,rfl,cJ ((busy H8 (h7.trans s8)).free n9) e9,cJ ((busy H7 h7).free n8) (s9 _ _ e8)⟩ (aE EZ fun _ _=>jD.same (ib xI))
         . rw[dz,tN];refine⟨jG.nd,by simp,fun a ha b hb=>?_⟩;have hb:b=x:=bw.mp hb;rw[hb];exact fun e=>hnx (e▸ha)
         . intro y hy;rw[dz]at hy
           rcases bS.mp hy with hy | hy
           . exact mono _ _ (jG.used y hy)
           . have hy:y=x:=bw.mp hy;rw[hy];exact hz
         . intro f' E3
           rcases bS.mp E3 with h' | h'
           . exact jG.ok f' h'
           . rw[bw.mp h'];exact⟨lx,Tl.all,Tl.len⟩
         . rw[bj,iN];omega
     . intro σ H4 gu;refine bg ?_;intro tT;obtain⟨KD,KG,qp,fs,xD,rfl,s4,vm,xE,KH,xF,EY,dY,jG,ul4⟩:=gu;refine wN ?_;intros;have bP:fs.length<=3:=by have:=jG.len;omega
       refine⟨_,rfl,n,_,rfl,.inl (ae.of (s4 _ _ hn)),_,rfl,_,_,rfl,fun m4=>?_⟩;obtain⟨r,oC,r0,r4,r2⟩:∃r:Int,(if m4 % 6 / 2<((ns.map V.str).length:Int) then m4 % 6 / 2 else((ns.map V.str).length:Int))=r/\0<=r/\r<=ns.length/\r<=2:=by
        refine⟨_,rfl,?_⟩;rw[ao];split<;>omega
       refine⟨_,_,rfl,rfl,(by show(0:Int)<6;decide),_,_,rfl,rfl,⟨by omega,by omega⟩,_,_,rfl,r,eN (fun z=>[V.int z]) oC,by omega,by omega,?_⟩;refine zA (σ0:=[none,some (.ref n)]) (fun σ=>∃v,σ=[v,some (.ref n)]) (fun i ys _=>∃ts:Ls,ys=ts.map V.str/\ts.length=i/\∀t∈ts,t∈ns) ⟨_,rfl⟩ (fun _ _=>⟨[],rfl,rfl,fun _ h=>nomatch h⟩) ?_ ?_
       . rintro D i' ys σ H5 k hD wS ⟨v,rfl⟩ hd h5 hl hk;obtain⟨ts,rfl,htl,htm⟩:=hl;obtain⟨y,hy⟩:=aoA (xs:=ns.map V.str) (j:=i') (by rw[ao];omega);obtain⟨y',kO,rfl⟩:∃y',y'∈ns/\y=.str y':=by
          obtain⟨jj,_,hj,_⟩:=CP hy;obtain⟨y',m',e'⟩:=cD.mp (eg hj);exact⟨y',m',e'.symm⟩
         refine⟨_,rfl,_,rfl,_,rfl,_,_,rfl,rfl,n,_,_,_,rfl,rfl,ae.of (h5 _ _ (s4 _ _ hn)),hy,?_⟩;exact hk _ _ _ ⟨_,rfl⟩ (ag.refl _) (bZ (by rw[ao];omega)) ⟨ts++[y'],uv ts y',by rw[bj,htl];rfl,fun t ht=>(bS.mp ht).elim (htm t) fun z=>by rw[bw.mp z];exact kO⟩
       . intro oa osV H5 hD hd h5 qg;refine bg ?_;intro tT;obtain⟨os,rfl,Dt,hom⟩:=qg;refine Iq ?_;intros;refine⟨_,rfl,_,_,rfl,fun m5=>?_⟩;refine⟨_,_,rfl,rfl,(by show(0:Int)<3;decide),_,rfl,_,_,rfl,rfl,⟨by decide,by decide,by decide⟩,_,_,rfl,rfl,(by show(0:Int)<10 ^ (9:Int).toNat;decide),(by show 2<=sizeLine;decide),fun q0 H6 n6 s6 e6=>?_⟩;refine⟨_,rfl,_,_,rfl,fun m6=>?_⟩;obtain⟨rk,hrk,_⟩:=PQ (ns:=[m5 % 3,cell % 10 ^ (9:Int).toNat]) (r:=m6 % 2) (yO _ (by omega)) (by show m6 % 2<2;omega);refine⟨_,_,rfl,rfl,(by show(0:Int)<2;decide),q0,_,_,_,rfl,rfl,ae.of e6,hrk,?_⟩;refine⟨_,rfl,_,rfl,_,_,rfl,fun m7=>?_⟩;refine⟨_,rfl,fun m H7 ms n7 s7 e7 Dp=>?_⟩;refine⟨_,rfl,_,rfl,(by show 0<=sizeLine;decide),fun q1 H8 n8 s8 e8=>?_⟩;refine⟨(by show 0<=sizeLine;decide),fun q2 H9 n9 s9 e9=>?_⟩;have AV:ag H4 H9:=h5.trans (s6.trans (s7.trans (s8.trans s9)));refine⟨_,rfl,?_⟩;dsimp only[List.set,fz];refine aoE (K:=K) (C:=C) (rk:=rk) (nm:=nm) (mk:=ms) (fs:=fs) (s9 _ _ (s8 _ _ e7)) (AV _ _ KH) (aE EY fun _ _ z=>(z.same bO).same AV) (s9 _ _ e8) e9 (s9 _ _ (s8 _ _ (s7 _ _ (s6 _ _ hd)))) (by omega) fun x KO n10 s10 To=>?_;have KP:=AV.trans s10;have Tp:=KP _ _ vm;have KQ:dQ C KO vs ps:=(xF.same (ib KP)).same bO;refine⟨_,rfl,fa,rfl,⟨_,ae.of Tp⟩,?_⟩;refine HW (σ0:=[none,some (.str nm)]) (ae.of Tp) (fun σ=>∃v,σ=[v,some (.str nm)]) (fun j zs _=>zs.length<=j/\∃fG,Paired (qo KO) zs fG/\∀p∈ps.take j,p.nm=nm->p.ms∈fG) ⟨_,rfl⟩ (fun _ _=>⟨aI _,[],.nil,fun _ h=>nomatch h⟩) ?_ ?_
         . intro D j y zs σ vn k k' hD hy uR KR jb uS eL ii;refine bg ?_;intro tT;obtain⟨v,rfl⟩:=uR;obtain⟨zl,fG,pr,pm⟩:=uS
           skip
           obtain⟨p,hp,b,dy,fl,E4,m',pf,pn,jE,po,ys,rfl,b1,b2,b3,b4,b5,b6⟩:=eE KQ hy;have aN:=(cW.mp hp).1;have il:=dY.len;refine⟨_,rfl,b,C,dy,_,_,rfl,jb _ _ b1,T.cl,T.nN,b2.name,_,rfl,rfl,_,rfl,?_⟩;refine bA (fun h=>?_) (fun h=>?_)
           . refine⟨_,rfl,b,C,dy,_,_,rfl,jb _ _ b1,T.cl,T.nM,b2.make,?_⟩;refine eL _ _ _ ⟨_,rfl⟩ (ag.refl _) (bZ (by omega)) ⟨by rw[bj,iN];omega,fG++[p.ms],ju ⟨m',rfl,b3⟩ pr,fun p' b8 e=>?_⟩;rw[gT,hp]at b8
             rcases bS.mp b8 with z | z
             . exact yD _ (pm p' z e)
             . have z:p'=p:=bw.mp z;rw[z];exact eF _ (bw.mpr rfl)
           . refine ii _ _ ⟨_,rfl⟩ (ag.refl _) ⟨by omega,fG,pr,fun p' b8 e=>?_⟩;rw[gT,hp]at b8
             rcases bS.mp b8 with z | z
             . exact pm p' z e
             . have z:p'=p:=bw.mp z;rw[z]at e;exact absurd (by rw[e];exact bN rfl) h
         . intro D zs vn hD KR jb AC;refine bg ?_;intro tT;obtain⟨zl,fG,pr,pm⟩:=AC;refine mC ?_;intros;rw[bC KQ,eZ]at pm;have qr:=KP.trans jb;have il:=dY.len;have hvl:=bC KQ;have keep:∀(a5 a6 a7 a8 a9 KS KU KW KY KZ:Option V),∃(t5 t6 t7 t8 t9 mK sG sI sJ sK:Option V) (vs:Lv) (ps:Lp) (uk:List (ar×V)),[some (V.ref sc),some (.ref n),some (.int 3),some (.ref fa),some (.ref ua),a5,a6,a7,a8,a9,KS,KU,KW,KY,KZ]=[some (V.ref sc),some (.ref n),some (.int 3),some (.ref fa),some (.ref ua),t5,t6,t7,t8,t9,mK,sG,sI,sJ,sK]/\ag H vn/\vn fa=some (.lst vs)/\vn ua=some (.dK uk)/\dQ C (msk [fa,ua] vn) vs ps/\ve ns ps uk (i+1)/\uk.length<=3 * (i+1):=
            fun a5 a6 a7 a8 a9 KS KU KW KY KZ=>⟨a5,a6,a7,a8,a9,KS,KU,KW,KY,KZ,vs,ps,xD,rfl,s4.trans qr,qr _ _ vm,qr _ _ xE,xF.same ((ib qr).trans (Jl fun b hb=>bR _ hb)),⟨dY.nd,dY.ok,dY.used,dY.txts,Nat.le_succ_of_le dY.len,dY.nms,dY.offs,dY.mks⟩,by omega⟩
           refine⟨_,rfl,D,_,rfl,.inl (ae.of KR),_,_,rfl,rfl,_,rfl,bA (fun _=>?_) (fun _=>gk (keep _ _ _ _ _ _ _ _ _ _))⟩;obtain⟨x',dx,fl,E4,m',pf,pn,jE,po,ys,ex,b1,b2,b3,b4,b5,b6⟩:=(To [] fun _ h=>nomatch h).same (bO.trans jb);cases ex;refine⟨_,rfl,x,C,dx,_,_,rfl,b1,T.cl,T.nM,b2.make,_,rfl,?_⟩;refine⟨D,zs,dI ms,fG.map dI,rfl,ae.of KR,Ks b3,Tc (aE pr fun _ _=>qo.same jb),EV 8 _,(fun e he=>?_),fun bb hb=>⟨_,rfl,bA (fun Tq=>?_) (fun _=>keep _ _ _ _ _ _ _ _ _ _)⟩⟩
           . obtain⟨oA,_,rfl⟩:=cD.mp he;exact EV 8 _
           . have Ku:ms∉fG:=fun hm=>by
              have:bb=true:=hb.mpr (gf hm);rw[this]at Tq;cases Tq
             refine⟨_,rfl,.inl ⟨rfl,_,ae.of (qr _ _ vm)⟩,_,rfl,fa,_,_,rfl,rfl,qr _ _ vm,bZ (by omega),?_⟩;refine⟨_,_,_,_,_,_,_,_,_,_,vs++[.ref x],ps++[⟨nm,ms,fs,os,rk⟩],xD,rfl,fV (s4.trans qr) na,aH,aB (qr _ _ xE) fu.symm,?_,⟨?_,?_,?_,dY.txts,?_,?_,?_,fun p hp=>(bS.mp hp).elim (dY.mks p) fun z=>by rw[bw.mp z];exact Dp⟩,by omega⟩
             . rw[DE bK];refine ju ((To [fa,ua] fun b hb=>?_).same (ib jb)) (xF.same ((ib qr).trans (Jl fun b hb=>bR _ hb)));simp only[aY,fq,ft]at hb
               rcases hb with rfl | rfl
               . exact⟨_,AV _ _ vm,by intro vs z;cases z⟩
               . exact⟨_,AV _ _ xE,by intro vs z;cases z⟩
             . rw[dz,tN];refine⟨dY.nd,by simp,fun a ha b hb=>?_⟩;have hb:b=fY ⟨nm,ms,fs,os,rk⟩:=bw.mp hb;rw[hb];intro e;obtain⟨p',b8,ep⟩:=cD.mp ha;rw[e]at ep;unfold fY at ep;injection ep with rF vo
               injection rF with rF
               injection rF with rF
               injection vo with vo _
               injection vo with vo
               have vo:p'.ms=ms:=(List.map_inj_right fun x y z=>Sum.inl.inj z).mp vo;exact Ku (vo▸pm p' b8 rF)
             . intro p' b8
               rcases bS.mp b8 with z | z
               . exact dY.ok p' z
               . rw[bw.mp z];exact⟨bP,jG.ok,jG.nd⟩
             . intro p' b8
               rcases bS.mp b8 with z | z
               . exact dY.used p' z
               . rw[bw.mp z];exact jG.used
             . rw[bj,iN];omega
             . intro p' b8
               rcases bS.mp b8 with z | z
               . exact dY.nms p' z
               . rw[bw.mp z];exact eg aoN
             . intro p' b8
               rcases bS.mp b8 with z | z
               . exact dY.offs p' z
               . rw[bw.mp z];exact⟨by show os.length<=2;omega,hom⟩
   . intro σ H2 AE;refine bg ?_;intro tT;obtain⟨t5,t6,t7,t8,t9,mK,sG,sI,sJ,sK,vs,ps,uk,rfl,s2,jC,KC,bE,inv,ul⟩:=AE;exact⟨_,rfl,q fa H2 vs ps na s2 jC (bE.same bO) inv.apart⟩
open PyProof.Rows
open HT (At cb gG zZ kin Dx uF)
variable {P:Program}{w:World}{K:Fg}{mg:Mv}{base:Heap}
def kk(p:cf):List At:=[.inl (-p.rk),.inr p.nm]
theorem E5(a b:cf):cb (kk a) (kk b)=true↔b.rk<a.rk\/(a.rk=b.rk/\a.nm.cps.toList<b.nm.cps.toList):=by
 unfold kk;rw[Dx]
 by_cases h:(Sum.inl (-a.rk):At)=Sum.inl (-b.rk)
 . have h':a.rk=b.rk:=by injection h with h;omega
   rw[al h,Dx]
   by_cases n:(Sum.inr a.nm:At)=Sum.inr b.nm
   . rw[al n];injection n with n
     constructor
     . intro z;cases z
     . rintro(z | ⟨_,z⟩)
       . omega
       . rw[n]at z;exact absurd z (WU _)
   . rw[ai n];show decide (a.nm.cps.toList<b.nm.cps.toList)=true↔_;rw[WV];constructor
     . exact fun z=>.inr ⟨h',z⟩
     . rintro(z | ⟨_,z⟩)
       . omega
       . exact z
 . rw[ai h];have h':a.rk≠b.rk:=fun z=>h (by rw[z]);show decide (-a.rk < -b.rk)=true↔_;rw[WV];constructor
   . intro z;exact .inl (by omega)
   . rintro(z | ⟨z,_⟩)
     . omega
     . exact absurd z h'
theorem aoX(a b:cf):gG (kk a) (kk b):=by
 unfold kk;rw[uF];split
 . rw[uF];split
   . exact True.intro
   . exact True.intro
 . exact True.intro
theorem aoY(a:cf):cb (kk a) (kk a)=false:=by
 cases z:cb (kk a) (kk a) with
 | false=>rfl
 | true=>
  rcases(E5 a a).mp z with h | ⟨_,h⟩
  . omega
  . exact absurd h (WU _)
theorem aoZ(a b c:cf)(h1:cb (kk a) (kk b)=true)(h2:cb (kk b) (kk c)=true):cb (kk a) (kk c)=true:=by
 rw[E5]at *
 rcases h1 with h1 | ⟨e1,h1⟩
 . rcases h2 with h2 | ⟨e2,h2⟩
   . exact .inl (by omega)
   . exact .inl (by omega)
 . rcases h2 with h2 | ⟨e2,h2⟩
   . exact .inl (by omega)
   . exact .inr ⟨e1.trans e2,List.lt_trans h1 h2⟩
theorem ao0(a b:cf)(h1:cb (kk a) (kk b)=false)(h2:cb (kk b) (kk a)=false):a.nm=b.nm:=by
 have n1:¬(b.rk<a.rk\/(a.rk=b.rk/\a.nm.cps.toList<b.nm.cps.toList)):=fun z=>by rw[←E5,h1]at z;cases z
 have n2:¬(a.rk<b.rk\/(b.rk=a.rk/\b.nm.cps.toList<a.nm.cps.toList)):=fun z=>by rw[←E5,h2]at z;cases z
 have e:a.rk=b.rk:=by
  have x1:¬b.rk<a.rk:=fun z=>n1 (.inl z);have x2:¬a.rk<b.rk:=fun z=>n2 (.inl z);omega
 have l1:¬a.nm.cps.toList<b.nm.cps.toList:=fun z=>n1 (.inr ⟨e,z⟩);have l2:¬b.nm.cps.toList<a.nm.cps.toList:=fun z=>n2 (.inr ⟨e.symm,z⟩);have eq:a.nm.cps.toList=b.nm.cps.toList:=WP l2 l1;have ext:∀x y:Str,x.cps.toList=y.cps.toList->x=y:=fun⟨⟨x⟩⟩ ⟨⟨y⟩⟩ h=>by
  have h:x=y:=h;rw[h]
 exact ext _ _ eq
def E6(off:Lp)(p:cf):Prop:=p∈off/\∀q∈off,cb (kk q) (kk p)=false
theorem E6.eq{off xJ:Lp}{p p':cf}(h:E6 off p)(h':E6 xJ p')(m:∀q,q∈off↔q∈xJ):p.nm=p'.nm:=
 ao0 p p' (h'.2 p ((m p).mp h.1)) (h.2 p' ((m p').mpr h'.1))
def NB(off:Lp)(AW:Option Str)(r:Str):Prop:=(AW=some r/\r∈off.map cf.nm)\/((∀x,AW=some x->x∉off.map cf.nm)/\∃p,E6 off p/\r=p.nm)
theorem NB.eq{off xJ:Lp}{AW:Option Str}{r r':Str}(h:NB off AW r)(h':NB xJ AW r')(m:∀q,q∈off↔q∈xJ):r=r':=by
 have mm:∀x,x∈off.map cf.nm↔x∈xJ.map cf.nm:=fun x=>by
  rw[cD,cD];exact⟨fun ao1=>ao1.elim fun p ao2=>ao2.elim fun a b=>⟨p,(m p).mp a,b⟩,fun ao3=>ao3.elim fun p ao4=>ao4.elim fun a b=>⟨p,(m p).mpr a,b⟩⟩
 rcases h with⟨a,b⟩ | ⟨a,p,bp,e⟩
 . rcases h' with⟨a',b'⟩ | ⟨a',p',bp',e'⟩
   . rw[a]at a';exact gz a'
   . exact absurd ((mm _).mp b) (a' _ a)
 . rcases h' with⟨a',b'⟩ | ⟨a',p',bp',e'⟩
   . exact absurd ((mm _).mpr b') (a _ a')
   . rw[e,e'];exact bp.eq bp' m
structure xK(K:Fg)(x qual:Str)(st:Stmt)(f c:Addr)(fd:Fy):Prop where
 ex:∃(oc:Value) (od:Oa) (kV doc pm:Value) (an:Oa) (ct:Value) (iU:Array (Option Value)),fd=PySem.W.fnOf x qual (eh st) (da st) (aA st) .none kV doc pm an (.ref c) ct /\
  K.lookup f=some ⟨oc,od,.func (PySem.W.fnOf x qual (eh st) (da st) (aA st) .none kV doc pm an (.ref c) ct),iU⟩/\PySem.W.codeIn K (.ref c) qual=true
 kp:PySem.W.keepIn K (.ref f)=true
theorem xK.fn{K:Fg}{x qual:Str}{st:Stmt}(F:xK K x qual st f c fd):aU K x qual st f fd:=by
 obtain⟨⟨oc,od,kV,doc,pm,an,ct,iU,e,l,h⟩,k⟩:=F;subst e;exact⟨⟨oc,od,kV,doc,pm,an,.ref c,ct,iU,rfl,l,h⟩,k⟩
theorem xK.ok{P:Program}{w:World}{K:Fg}{mg:Mv}{base:Heap}{x qual:Str}{st:Stmt}{N ps:Ls}{k:Nat}{sp:Sp}(F:xK K x qual st f c fd)(S:aP N ps (aA st))(len:∀vs H Q E,sp vs H Q E->vs.length=ps.length)
 (pH:∀(A:Around) (outer:List Env) (s:Shared) (H:Hp) (vs:Lv) (Q:VK) (E:XK),ce k (A.deeper (envOfC qual (aA st) s.heap.objs.size f (.ref c)))->sp vs H Q E ->
  ∃t,cn (kY ak P w K mg base N qual (aA st) f (.ref c) A outer s H E).nox (da st) t/\t { nx:=fun _ H'=>Q .non H',rt:=Q } (start N vs) H):aj P w K mg base ak (k+1) f fd ps sp:=by
 obtain⟨oc,od,kV,doc,pm,an,ct,iU,rfl,lk,iw⟩:=F.ex;refine Hz lk iw S len fun A outer s H vs Q E hr kZ=>?_;obtain⟨t,h,q⟩:=pH A outer s H vs Q E hr kZ;exact⟨t,h.nox,q⟩
def Ts(C:Addr):Sp:=fun vs H Q _=>∃(a:Addr) (xs:Lv) (ps:Lp),vs=[.ref a]/\H a=some (.lst xs)/\dQ C H xs ps/\ps.length<=6/\(∀p∈ps,p.os.length<=2) /\
 ∀r H' (cs:Ls),H r=none->ag H H'->H' r=some (.lst (cs.map V.str))->cs.Nodup->(∀c,c∈cs↔∃p∈ps,c∈p.os)->cs.length<=12->Q (.ref r) H'
theorem K0:aP [azx,"commons",azz] [azx] (aA Eg):=aZ
theorem ao5(F:bB K "commons_of" Eg f fd)(B:b9 mg)(T:Txt K mg C):aj P w K mg base ak 1 f fd [azx] (Ts C):=by
 refine F.okL K0 ?_
 . intro aw A outer s H vs Q E hr h xX dX;obtain⟨a,xs,ps,rfl,ha,bE,h6,IX,q⟩:=h;refine⟨_,(am (aJ (i:=1) K0.nd rfl (Or.inl rfl) (df ac))
    (am (eJ eI rfl (cQ (pv 0)) (bc (i:=2) K0.nd rfl (Or.inl rfl))
    (av (cp (dj iO qU qV nW (pv 1) (aa (cU (pv 2) rfl) ac)))))
    (av (aV (dJ (QZ rfl) (by rfl) B.sorted yV (aa (eK (aj8 rfl) (by rfl) B.set WW (aa (pv 1) ac)) ac)))))),?_⟩
   refine lw ?_;intro dD sS fE dP;refine⟨(by show 0<=sizeLine;decide),fun c H1 n1 s1 e1=>?_⟩;refine⟨_,rfl,a,rfl,⟨_,ae.of (s1 _ _ ha)⟩,?_⟩;refine iT (xs:=xs) (fun i σ H2=>∃u,σ=[some (.ref a),some (.ref c),u]/\ag H H2/\H2 c=some (.lst (((ps.take i).flatMap cf.os).map V.str))/\((ps.take i).flatMap cf.os).length<=2 * i) ⟨none,rfl,s1,e1,aI _⟩ ?_ ?_ ?_
   . intro i σ H2 hi eX;refine bg ?_;intro tT;obtain⟨u,rfl,s2,_⟩:=eX;exact ae.of (s2 _ _ ha)
   . intro i x σ H2 hx gt;refine bg ?_;intro tT;obtain⟨u,rfl,s2,hc,hl⟩:=gt;obtain⟨p,hp,b,dy,fl,rk,m,pf,pn,jE,po,ys,rfl,h1,h2,h3,h4,h5,K1,_⟩:=eE bE hx;have hi:=(cW.mp hp).1;have ho:=IX p (eg hp);refine⟨_,rfl,.inl ⟨rfl,_,ae.of hc⟩,_,rfl,b,C,dy,_,_,rfl,s2 _ _ h1,T.cl,T.nO,h2.offers,c,po,_,_,rfl,rfl,hc,s2 _ _ K1,lq (by rw[ao,ao];omega),?_⟩;refine⟨_,rfl,fV s2 n1,?_,?_⟩
     . rw[aH,gT,hp,G0,dz];simp
     . have e2:(List.flatMap cf.os (some p).toList)=p.os:=by simp
       rw[gT,hp,G0,bj,e2];omega
   . intro σ H2 gu;refine bg ?_;intro tT;obtain⟨u,rfl,s2,hc,hl⟩:=gu;rw[bC bE,eZ]at hc hl;refine⟨_,rfl,c,_,rfl,ae.of hc,by omega,fun r zs H3 n3 s3 e3 nd mem=>?_⟩;have lz:=jp nd fun z hz=>(mem z).mp hz;refine⟨r,zs,rfl,e3,by omega,fun bW hp hs=>fun l H4 n4 s4 e4=>?_⟩;refine q l H4 bW (s2.free (s3.free n4)) (s2.trans (s3.trans s4)) e4 (hp.nodup_iff.mpr nd) (fun z=>?_) (by rw[hp.length_eq];omega);rw[hp.mem_iff,mem z,yS]
end K63
namespace K63
open PySem L2 PySem.Spec PyProof.Rows
open HT (At cb gG)
variable {P:Program}{w:World}{K:Fg}{mg:Mv}{base:Heap}
theorem AX{z:Str}{xs:Ls}:nV (.str z) (xs.map V.str)=true↔z∈xs:=by
 unfold nV;rw[yM];constructor
 . rintro⟨v,hv,e⟩;obtain⟨y,hy,rfl⟩:=cD.mp hv;have:y=z:=by simpa [li]using e
   rw[←this];exact hy
 . intro h;exact⟨.str z,gf h,by simp[li]⟩
theorem ao6{xs:Ls}:nV .non (xs.map V.str)=false:=by
 unfold nV;rw[List.any_eq_false];intro v hv;obtain⟨y,hy,rfl⟩:=cD.mp hv;simp[li]
def sL(hk:List (ar×V))(c:Str):Option Str:=match bh hk (.inr c) with | some (.str y)=>some y | _=>none
def K2(hk:List (ar×V)):Prop:=∀k v,bh hk k=some v->∃y,v=.str y/\Ln y
theorem ao7{hk:List (ar×V)}(h:K2 hk)(c:Str):((bh hk (.inr c)).getD .non=.non/\sL hk c=none)\/∃y,(bh hk (.inr c)).getD .non=.str y/\sL hk c=some y/\Ln y:=by
 unfold sL;cases e:bh hk (.inr c) with
 | none=>exact .inl ⟨rfl,rfl⟩
 | some v=>
  obtain⟨y,rfl,hy⟩:=h _ _ e;exact .inr ⟨y,rfl,rfl,hy⟩
def gw(c:Str)(ps:Lp):Lp:=ps.filter fun p=>decide (c∈p.os)
theorem Tt{ps:Lp}{i:Nat}{p:cf}(h:ps[i]?=some p)(c:Str):gw c (ps.take (i+1))=gw c (ps.take i)++(if c∈p.os then [p] else []):=by
 unfold gw;rw[aot h]
 by_cases z:c∈p.os
 . simp[z]
 . simp[z]
theorem Tu{H:Hp}:∀{vs:Lv}{ps:Lp},dQ C H vs ps->∃as:List Addr,vs=as.map V.ref
 | _,_,.nil=>⟨[],rfl⟩
 | _,_,.cons r t=>by
  obtain⟨a,_,_,_,_,_,_,_,_,_,rfl,_⟩:=r;obtain⟨as,rfl⟩:=Tu t;exact⟨a::as,rfl⟩
def pz:cf:=⟨Str.empty,[],[],[],0⟩
theorem aD.at{H:Hp}{lp:Pos}{qu:Str}(h:aD H Pt lp qu):∃φ,H Pt=some (.ext φ):=by
 rcases h with z | ⟨c',z,_⟩
 . exact⟨_,z⟩
 . exact⟨_,z⟩
theorem aD.ne{H:Hp}{lp:Pos}{qu:Str}(h:aD H Pt lp qu){o:HO}(e:H b=some o)(n:∀φ,o≠.ext φ):b≠Pt:=fun z=>by
 obtain⟨φ,w⟩:=aD.at h;rw[z,w]at e;cases e;exact n _ rfl
theorem aD.new{H:Hp}{lp:Pos}{qu:Str}(h:aD H Pt lp qu)(e:H b=none):b≠Pt:=fun z=>by
 obtain⟨φ,w⟩:=aD.at h;rw[z,w]at e;cases e
def dv:Pos:=match da wZ with
 | [_,_,_,.Return (some (.Attribute (.Call _ _ [⟨_,.Lambda _ _ _ p,_⟩] _) _ _)) _]=>p
 | _=>⟨0,0,0,0⟩
def di:Str:="name_behind.<locals>.<lambda>"
def K3(C Pt:Addr):Sp:=fun vs H Q _=>∃(a h:Addr) (c:Str) (xs:Lv) (px:Lp) (hk:List (ar×V)),vs=[.str c,.ref a,.ref h]/\H a=some (.lst xs)/\dQ C H xs px/\px.length<=6/\(∃p∈px,c∈p.os)/\H h=some (.dK hk)/\K2 hk/\(∀p∈px,Ln p.nm)/\aD H Pt dv di /\
 ∀r H',mG Pt H H'->aD H' Pt dv di->Ln r->NB (gw c px) (sL hk c) r->Q (.str r) H'
theorem K4:aP [az3,azx,azI,"offering","told"] [az3,azx,azI] (aA wZ):=aZ
theorem ao8(F:xK K aAo aAo wZ f c fd)(B:b9 mg)(T:Txt K mg C)(hd:PySem.W.codeHdIn K c Pt=true)(hb:base.BuiltinsAt mg Pt):aj P w K mg base ak 3 f fd [az3,azx,azI] (K3 C Pt):=by
 refine F.ok K4 (fun vs H Q E h=>?_) (fun A outer s H vs Q E hr h=>?_)
 . obtain⟨a,h,cm,xs,px,hk,rfl,_⟩:=h;rfl
 . refine Qp ?_;intro xX dX;obtain⟨a,h,cm,xs,px,hk,rfl,ha,bE,h6,hex,hh,hok,hln,tab,q⟩:=h;have hu:=hr.units;have dC:ce 1 (A.deeper (envOfC aAo (aA wZ) s.heap.objs.size f (.ref c))).in1:=hr.in1;refine⟨_,(am (rA (i:=3) [azz] [az3] [0] K4.nd rfl rfl eA rfl (cQ (pv 1)) (fun _ _ _ _=>(bc (i:=0) (show List.Nodup ([azz,az3]:Ls) by decide +kernel) rfl (Or.inl rfl))) (fun _ _ _ _=>nY (bY (Qf K) (pv 1) (iD K (pv 0) rfl) (by rfl))) (fun _ _ _ _=>(pv 0)))
    (am (aJ (i:=4) K4.nd rfl (Or.inl rfl) (HL hu (pv 2) (pv 0) ⟨rfl,rfl,rfl,rfl⟩))
    (wM (cO (bY Pj (pv 4) (gF [azz] [] [] eA rfl (cQ (pv 3)) (fun _ _ _ _=>(bc (i:=0) (show List.Nodup ([azz]:Ls) by decide +kernel) rfl (Or.inl rfl))) (fun _ _ _ _=>iB) (fun _ _ _ _=>(iD K (pv 0) rfl))) (by rfl))
    (av (aV (pv 4))) dA)
    (av (aV (cU (akO (c:=c) (P:=Pt) (x:=azz) (qual:=di) (pv 3) ⟨rfl,rfl,rfl,by decide +kernel,rfl,by decide +kernel,by decide +kernel⟩ dC rfl rfl hd hb rfl B.min
     (fun _ _ _ _ _ _ _=>eV (aa (wx wz (iD K (pv 0) rfl)) (aa (iD K (pv 0) rfl) ac))) (fun _ _ _ _=>rfl)) rfl)))))),?_⟩
   refine lw ?_;intro dD sS fE dP;refine⟨_,rfl,a,rfl,⟨_,ae.of ha⟩,?_⟩;intro D hD;refine qm (σ0:=[none,some (.str cm)]) hD (ae.of ha) (fun σ=>∃v,σ=[v,some (.str cm)]) (fun j zs H3=>zs.length<=j/\dQ C H zs (gw cm (px.take j))) ⟨_,rfl⟩ ⟨aI _,.nil⟩ ?_ ?_
   . rintro j y zs σ H3 k k' hy ⟨v,rfl⟩ dg h3 ⟨zl,zp⟩ eL ii;obtain⟨p,hp,hE⟩:=eE bE hy;obtain⟨b,dy,fl,rk,m,pf,pn,jE,po,ys,rfl,b1,b2,b3,b4,b5,b6,b7⟩:=id hE;have aN:=(cW.mp hp).1;refine⟨_,rfl,_,rfl,b,C,dy,_,_,rfl,h3 _ _ b1,T.cl,T.nO,b2.offers,po,_,rfl,.inl (ae.of (h3 _ _ b6)),rfl,AR _,_,rfl,?_⟩;refine bA (fun h=>?_) (fun h=>?_)
     . have jq:cm∈p.os:=AX.mp h;refine⟨_,rfl,eL _ _ _ ⟨_,rfl⟩ (ag.refl _) (bZ (by omega)) ⟨by rw[bj,iN];omega,?_⟩⟩;rw[Tt hp,al jq];exact ju hE zp
     . have jq:cm∉p.os:=fun z=>h (AX.mpr z);refine ii _ _ ⟨_,rfl⟩ (ag.refl _) ⟨by omega,?_⟩;rw[Tt hp,ai jq,lX];exact zp
   . rintro zs H3 dg h3 ⟨zl,zp⟩;rw[bC bE,eZ]at zp;have zl6:zs.length<=6:=by have:=bC bE;omega
     have ayP:0<(gw cm px).length:=by
      obtain⟨p,hp,hc⟩:=hex;exact ax2 (qL.mpr ⟨hp,bN hc⟩)
     have apa:∀p∈gw cm px,Ln p.nm:=fun p hp=>hln p (qL.mp hp).1;refine⟨_,rfl,h,rfl,.inl ⟨_,.inl (h3 _ _ hh)⟩,_,rfl,_,c8.k (k:=.inr cm) (h3 _ _ hh),?_⟩;refine⟨fun σ5 H5=>(∃v,σ5=[some (.str cm),some (.ref a),some (.ref h),some (.ref D),some v])/\ag H3 H5/\∀x,sL hk cm=some x->x∉(gw cm px).map cf.nm,?_,?_⟩
     . rcases ao7 hok cm with⟨e,et⟩ | ⟨y,e,et,hy⟩
       . rw[e];refine⟨_,rfl,_,rfl,D,rfl,⟨_,ae.of dg⟩,?_⟩;refine zB (σ0:=[none]) (ae.of dg) (fun σ=>∃v,σ=[v]) (fun j ky _=>ky=(((gw cm px).take j).map cf.nm).map V.str) ⟨_,rfl⟩ (fun _ _=>rfl) ?_ ?_
         . rintro D2 j y' ky σ H4 k sM kO ⟨v,rfl⟩ vp h4 rfl fC;obtain⟨p,hp,b,dy,fl,rk,m,pf,pn,jE,po,ys,rfl,b1,b2,b3,b4,b5,b6,b7⟩:=eE zp kO;have aN:=(cW.mp kO).1;refine⟨_,rfl,b,C,dy,_,_,rfl,h4 _ _ (h3 _ _ b1),T.cl,T.nN,b2.name,fC _ _ _ ⟨_,rfl⟩ (ag.refl _) (bZ (by rw[ao,ao,eG];omega)) ?_⟩;rw[gT,hp,dz,dz];rfl
         . rintro D2 ky H4 sM vp h4 rfl;rw[bC zp,eZ]at vp;refine⟨D2,_,rfl,.inl (ae.of vp),rfl,AR _,_,rfl,?_⟩;refine bA (fun h=>?_) (fun _=>⟨⟨_,rfl⟩,h4,fun x z=>by rw[et]at z;cases z⟩);have h:nV .non (((gw cm px).map cf.nm).map V.str)=true:=h;rw[ao6]at h;cases h
       . rw[e];refine⟨_,rfl,_,rfl,D,rfl,⟨_,ae.of dg⟩,?_⟩;refine zB (σ0:=[none]) (ae.of dg) (fun σ=>∃v,σ=[v]) (fun j ky _=>ky=(((gw cm px).take j).map cf.nm).map V.str) ⟨_,rfl⟩ (fun _ _=>rfl) ?_ ?_
         . rintro D2 j y' ky σ H4 k sM kO ⟨v,rfl⟩ vp h4 rfl fC;obtain⟨p,hp,b,dy,fl,rk,m,pf,pn,jE,po,ys,rfl,b1,b2,b3,b4,b5,b6,b7⟩:=eE zp kO;have aN:=(cW.mp kO).1;refine⟨_,rfl,b,C,dy,_,_,rfl,h4 _ _ (h3 _ _ b1),T.cl,T.nN,b2.name,fC _ _ _ ⟨_,rfl⟩ (ag.refl _) (bZ (by rw[ao,ao,eG];omega)) ?_⟩;rw[gT,hp,dz,dz];rfl
         . rintro D2 ky H4 sM vp h4 rfl;rw[bC zp,eZ]at vp;refine⟨D2,_,rfl,.inl (ae.of vp),rfl,AR _,_,rfl,?_⟩;have vq:=h3.trans h4;refine bA (fun h=>?_) (fun h=>⟨⟨_,rfl⟩,h4,fun x z=>by
            rw[et]at z;cases z;exact fun m=>h (AX.mpr m)⟩)
           exact⟨_,rfl,q y H4 (fun x o ex _=>vq _ _ ex) (tab.same vq) hy (.inl ⟨et,AX.mp h⟩)⟩
     . intro σ5 H5 eX;refine bg ?_;intro tT;obtain⟨⟨v,rfl⟩,s5,Rg⟩:=eX;obtain⟨as,K6⟩:=Tu zp;have oN:ag H H5:=h3.trans s5;have zp5:=zp.same oN;have ij:aD H5 Pt dv di:=tab.same oN;have mL:H5 D=some (.lst (as.map V.ref)):=by rw[←K6];exact s5 _ _ dg
       have hlen:=bC zp;rw[K6,ao]at hlen;have at_:∀(i:Nat) (b:Addr),as[i]?=some b->∃p,(gw cm px)[i]?=some p/\i9 C H5 (.ref b) p:=fun i b hi=>by
        have:zs[i]?=some (V.ref b):=by rw[K6,dH,hi];rfl
        exact eE zp5 this
       have gd:∀(i:Nat) (p:cf),(gw cm px)[i]?=some p->(gw cm px).getD i pz=p:=fun i p hi=>by
        rw[List.getD_eq_getElem?_getD,hi];rfl
       refine⟨_,rfl,D,as,fun i=>kk ((gw cm px).getD i pz),rfl,aD.ne ij mL (by intro φ z;cases z),mL,by omega,fun i j=>aoX _ _,fun i j l=>aoZ _ _ _,fun i=>aoY _,ij,fun i b hi H2 kp=>?_,fun i b H' hi bst kp xL=>?_⟩
       . obtain⟨p,hp,hE⟩:=at_ i b hi;obtain⟨b',dy,fl,rk,m,pf,pn,jE,po,ys,eb,b1,b2,b3,b4,b5,b6,b7⟩:=hE;cases eb;have E7:=kp _ _ b1 (aD.ne ij b1 (by intro φ z;cases z));have Tv:=b2.rank;rw[b7.1]at Tv;refine⟨_,rfl,b,C,dy,_,_,rfl,E7,T.cl,T.nR,Tv,_,rfl,_,rfl,b,C,dy,_,_,rfl,E7,T.cl,T.nN,b2.name,(by show 2<=sizeLine;decide),fun kt H3' n3 s3 e3=>⟨kt,rfl,s3,?_⟩⟩;rw[e3];dsimp only;rw[gd i p hp];rfl
       . obtain⟨p,hp,hE⟩:=at_ i b hi;obtain⟨b',dy,fl,rk,m,pf,pn,jE,po,ys,eb,b1,b2,b3,b4,b5,b6,b7⟩:=hE;cases eb;have E7:=kp _ _ b1 (aD.ne ij b1 (by intro φ z;cases z));have pm:p∈gw cm px:=eg hp;refine⟨b,C,dy,_,_,rfl,E7,T.cl,T.nN,b2.name,q p.nm H' (fun x o ex nx=>kp _ _ (oN _ _ ex) nx) xL (apa p pm) (.inr ⟨Rg,p,⟨pm,fun q' kX=>?_⟩,rfl⟩)⟩;obtain⟨j,hj⟩:=List.getElem?_of_mem kX;have:=bst j (by have:=(cW.mp hj).1;omega);dsimp only at this;rw[gd j q' hj,gd i p hp]at this;exact this
end K63
namespace K63
open PySem L2 PySem.Spec
variable {P:Program}{w:World}{K:Fg}{mg:Mv}{base:Heap}
theorem eY{Hk:Hp}{o o':HO}(h:Hk a=some o)(n:a≠p):ah Hk p o' a=some o:=by rw[aW n];exact h
structure ik(K:Fg)(mg:Mv)(C kz im jH jI jJ jK gM:Addr):Prop where
 cl:jU K C
 nF:fO K C azJ
 nB:fO K C "book"
 nL:fO K C "left"
 mFNo:mj K C aAu kz
 mBNo:mj K C aAp im
 mDPt:mj K C "put" jH
 mDEr:mj K C "erase" jI
 mDNt:mj K C "note" jJ
 mDAl:mj K C "allow" jK
 mDTk:mj K C aAh gM
 mgC:mg "Disk"=some (.ref C)
def bP(d b:Addr)(v:V):List (Str×V):=[(azJ,.ref d),("book",.ref b),("left",v)]
theorem Tw(d b:Addr)(v v':V):ay "left" v' (bP d b v)=bP d b v':=rfl
theorem apd(d b:Addr):ay "left" .non (ay "book" (.ref b) (ay azJ (.ref d) []))=bP d b .non:=rfl
theorem E8(d b:Addr)(v:V):(bP d b v).lookup (azJ:Str)=some (.ref d):=rfl
theorem Tx(d b:Addr)(v:V):(bP d b v).lookup ("book":Str)=some (.ref b):=rfl
theorem K7(d b:Addr)(v:V):(bP d b v).lookup ("left":Str)=some v:=rfl
def lv:Option Int->V
 | none=>.non
 | some n=>.int n
def gx:Option Int->Option (Option Int)
 | none=>some none
 | some n=>if 1<=n then some (some (n - 1)) else none
theorem K8{n:Int}(h:n<1):gx (some n)=none:=ai (by omega)
theorem AY{n:Int}(h:¬n<1):gx (some n)=some (some (n - 1)):=al (by omega)
def AZ(C Fa:Addr):Sp:=fun vs H Q E=>∃(x dx d b:Addr) (lf:Option Int),vs=[.ref x]/\H x=some (.ins C dx (bP d b (lv lf))) /\
 (∀lf',gx lf=some lf'->∀H',H' x=some (.ins C dx (bP d b (lv lf')))->(∀p o,H p=some o->p≠x->H' p=some o)->(∀p,H' p=none->H p=none)->Q .non H')/\(gx lf=none->E (.ref Fa) none H)
theorem ape:aP [azt] [azt] (aA qe):=aZ
theorem apf(F:aU K aAh "Disk.take_write" qe f fd)(T:ik K mg C f1 f2 f3 f4 f5 f6 f)(xc:Df K Fa)(mF:mg "Fallen"=some (.ref Fa)):aj P w K mg base (ca P w) 1 f fd [azt] (AZ C Fa):=by
 refine F.okR ape (fun vs H Q E h=>?_) (fun aw A outer s H vs Q E hr h=>?_)
 . obtain⟨x,dx,d,b,lf,rfl,_⟩:=h;rfl
 . obtain⟨x,dx,d,b,lf,rfl,hx,q1,q2⟩:=h;refine⟨_,(am (cO (bY ZG (cU (pv 0) rfl) kR (bT _))
    (av OH) dA)
    (am (cO (bY zc (cU (pv 0) rfl) aq (bT _))
    (av (aiK xc mF bV)) dA)
    (av (iy (pv 0) (aF CK (cU (pv 0) rfl) aq) rfl)))),?_⟩
   refine⟨_,rfl,x,C,dx,_,_,rfl,hx,T.cl,T.nL,K7 _ _ _,rfl,_,rfl,?_⟩;cases lf with
   | none=>
    refine gY ?_;exact q1 none rfl H hx (fun _ _ e _=>e) fun _ e=>e
   | some n=>
    refine gk ?_;refine⟨_,rfl,x,C,dx,_,_,rfl,hx,T.cl,T.nL,K7 _ _ _,_,_,rfl,rfl,_,rfl,?_⟩;refine bA (fun h=>?_) (fun h=>?_)
    . have h:=cT h;exact⟨aI 1,q2 (K8 h)⟩
    . have h':¬n<1:=fun z=>h (bN z);refine⟨_,rfl,x,C,dx,_,_,rfl,hx,T.cl,T.nL,K7 _ _ _,_,_,rfl,rfl,_,rfl,x,C,dx,_,rfl,hx,T.cl,T.nL,by show 3<1000;decide,?_⟩;rw[Tw];exact q1 (some (n - 1)) (AY h') _ aH (fun p o e hp=>eY e hp) fun p e=>(iA e).2
def K9(C:Addr):Sp:=fun vs H Q _=>∃(x dx:Addr),vs=[.ref x]/\H x=some (.ins C dx []) /\
 ∀d b H',H d=none->H b=none->H' x=some (.ins C dx (bP d b .non))->H' d=some (.dK [])->H' b=some (.lst [])->(∀p o,H p=some o->p≠x->H' p=some o)->Q .non H'
theorem apg:aP [azt] [azt] (aA uN):=aZ
theorem aph(F:aU K "__init__" "Disk.__init__" uN f fd)(T:ik K mg C f1 f2 f3 f4 f5 f6 f7):aj P w K mg base ak 1 f fd [azt] (K9 C):=by
 refine F.ok apg (fun vs H Q E h=>?_) (fun aw A outer s H vs Q E hr h=>?_)
 . obtain⟨x,dx,rfl,_⟩:=h;rfl
 . obtain⟨x,dx,rfl,hx,q⟩:=h;refine⟨_,(am (iy (pv 0) mB rfl)
    (am (iy (pv 0) (df ac) rfl)
    (av (iy (pv 0) kR rfl)))),?_⟩
   refine fun d H1 n1 s1 e1=>?_;have jc:d≠x:=(aL hx n1).symm;refine⟨_,rfl,x,C,dx,_,rfl,s1 _ _ hx,T.cl,T.nF,by show 0<1000;decide,?_⟩;refine⟨(by show 0<=sizeLine;decide),fun b H2 n2 s2 e2=>?_⟩;have Tz:=iA n2;have h2:=s2 _ _ (aH (H:=H1) (a:=x) (o:=.ins C dx (ay azJ (.ref d) [])));have d2:=s2 _ _ (eY (p:=x) (o':=.ins C dx (ay azJ (.ref d) [])) e1 jc);have bx:b≠x:=Tz.1;have bd:d≠b:=aK d2 e2 (by intro z;cases z);refine⟨_,rfl,x,C,dx,_,rfl,h2,T.cl,T.nB,by show 1<1000;decide,?_⟩;refine⟨_,rfl,x,C,dx,_,rfl,aH,T.cl,T.nL,by show 2<1000;decide,?_⟩;rw[apd];refine q d b _ n1 (s1.free Tz.2) aH (eY (eY d2 jc) jc) (eY (eY e2 bx) bx) fun p o e hp=>eY (eY (s2 _ _ (eY (s1 _ _ e) hp)) hp) hp
def E9(K:Fg)(C Fa:Addr):Sp:=fun vs H Q E=>∃(x dx d b l:Addr) (lf:Option Int) (p:Str) (kd:List (ar×V)) (ys:Lv),vs=[.ref x,.str p,.ref l]/\H x=some (.ins C dx (bP d b (lv lf)))/\H d=some (.dK kd)/\H l=some (.lst ys)/\kd.length<=500 /\
 (∀lf',gx lf=some lf'->∀q H',H q=none->H' x=some (.ins C dx (bP d b (lv lf')))->H' d=some (.dK (cz kd (.inr p) (.ref q)))->H' q=some (.lst ys)->(∀p o,H p=some o->p≠x->p≠d->H' p=some o)->(∀p,H' p=none->H p=none)->Q .non H')/\(gx lf=none->E (.ref Fa) none H)
theorem api:aP [azt,azC,azO] [azt,azC,azO] (aA rW):=aZ
theorem apj(F:aU K "put" "Disk.put" rW f fd)(T:ik K mg C f1 f2 f f4 f5 f6 gM)(B:b9 mg)(mM:aU K aAh "Disk.take_write" qe gM lI)(oO:aj P w K mg base (ca P w) 1 gM lI [azt] (AZ C Fa)) :
 aj P w K mg base (ca P w) 2 f fd [azt,azC,azO] (E9 K C Fa):=by
 have A0:=mM.binds1 (l:=[azt]) (fun _ _ _ _ _ _ _=>rfl);refine F.okR api (fun vs H Q E h=>?_) (fun aw A outer s H vs Q E hr h=>?_)
 . obtain⟨x,dx,d,b,l,lf,p,kd,ys,rfl,_⟩:=h;rfl
 . obtain⟨x,dx,d,b,l,lf,p,kd,ys,rfl,hx,hd,hl,vt,q1,q2⟩:=h;have hu:=hr.units;refine⟨_,(am (cp (rh (pv 0) T.cl T.mDTk oO hr A0 .nil lB))
    (av (jm hu (cU (pv 0) rfl) (pv 1) (eK mx (by rfl) B.list jP (aa (pv 2) ac)) rfl))),?_⟩
   have jc:d≠x:=aK hd hx (by intro z;cases z);have lx:l≠x:=aK hl hx (by intro z;cases z);refine⟨_,rfl,x,dx,_,rfl,hx,rfl,x,dx,d,b,lf,rfl,hx,fun lf' e H1 h1 k1 f1=>?_,q2⟩;refine⟨_,rfl,l,_,rfl,.inl (ae.of (k1 _ _ hl lx)),fun q H2 n2 s2 e2=>?_⟩;have pT:=s2 _ _ h1;have hd2:=s2 _ _ (k1 _ _ hd jc);refine⟨_,rfl,x,C,dx,_,_,rfl,pT,T.cl,T.nF,E8 _ _ _,_,rfl,d,_,rfl,fT.k (k:=.inr p) hd2 (bZ (by omega)),?_⟩;exact q1 lf' e q _ (f1 _ n2) (eY pT jc.symm) aH (eY e2 (aK e2 hd2 (by intro z;cases z))) (fun p o e hp La=>eY (s2 _ _ (k1 _ _ e hp)) La) fun p e=>f1 _ (s2.free (iA e).2)
def Fb(C Fa:Addr):Sp:=fun vs H Q E=>∃(x dx d b:Addr) (lf:Option Int) (p:Str) (kd:List (ar×V)),vs=[.ref x,.str p]/\H x=some (.ins C dx (bP d b (lv lf)))/\H d=some (.dK kd) /\
 (∀lf',gx lf=some lf'->∀H',H' x=some (.ins C dx (bP d b (lv lf')))->H' d=some (.dK (if (bh kd (.inr p)).isSome=true then pM kd (.inr p) else kd))->(∀p o,H p=some o->p≠x->p≠d->H' p=some o)->(∀p,H' p=none->H p=none)->Q .non H')/\(gx lf=none->E (.ref Fa) none H)
theorem apk:aP [azt,azC] [azt,azC] (aA rX):=aZ
theorem TB(F:aU K "erase" "Disk.erase" rX f fd)(T:ik K mg C f1 f2 f3 f f5 f6 gM)(mM:aU K aAh "Disk.take_write" qe gM lI)(oO:aj P w K mg base (ca P w) 1 gM lI [azt] (AZ C Fa)) :
 aj P w K mg base (ca P w) 2 f fd [azt,azC] (Fb C Fa):=by
 have A0:=mM.binds1 (l:=[azt]) (fun _ _ _ _ _ _ _=>rfl);refine F.okR apk (fun vs H Q E h=>?_) (fun aw A outer s H vs Q E hr h=>?_)
 . obtain⟨x,dx,d,b,lf,p,kd,rfl,_⟩:=h;rfl
 . obtain⟨x,dx,d,b,lf,p,kd,rfl,hx,hd,q1,q2⟩:=h;have hu:=hr.units;refine⟨_,(am (cp (rh (pv 0) T.cl T.mDTk oO hr A0 .nil lB))
    (av (cO (ww (CU hu (pv 1) (cU (pv 0) rfl)) (by rfl))
    (av (cp (PJ (cU (pv 0) rfl) (pv 1) ⟨rfl,rfl,rfl,rfl⟩))) dA))),?_⟩
   have jc:d≠x:=aK hd hx (by intro z;cases z);refine⟨_,rfl,x,dx,_,rfl,hx,rfl,x,dx,d,b,lf,rfl,hx,fun lf' e H1 h1 k1 f1=>?_,q2⟩;have Fc:=k1 _ _ hd jc;refine⟨_,rfl,_,rfl,x,C,dx,_,_,rfl,h1,T.cl,T.nF,E8 _ _ _,d,_,rfl,c8.k (k:=.inr p) Fc,_,rfl,?_⟩;cases hv:bh kd (.inr p) with
   | none=>
    refine gk ?_;exact q1 lf' e H1 h1 (by rw[hv];exact Fc) (fun p o e hp _=>k1 _ _ e hp) f1
   | some v=>
    refine gY ?_;refine⟨_,rfl,x,C,dx,_,_,rfl,h1,T.cl,T.nF,E8 _ _ _,d,rfl,.inl ⟨_,.inl Fc⟩,_,rfl,kd,.inr p,v,Fc,rfl,hv,?_⟩;exact q1 lf' e _ (eY h1 jc.symm) (by rw[hv];exact aH) (fun p o e hp La=>eY (k1 _ _ e hp) La) fun p e=>f1 _ (iA e).2
def TD(C Fa:Addr):Sp:=fun vs H Q E=>∃(x dx d b:Addr) (lf:Option Int) (y z:Str) (ts:Lv),vs=[.ref x,.str y,.str z]/\H x=some (.ins C dx (bP d b (lv lf)))/\H b=some (.lst ts)/\ts.length<=500 /\
 (∀lf',gx lf=some lf'->∀t H',H t=none->H' x=some (.ins C dx (bP d b (lv lf')))->H' b=some (.lst (ts++[.ref t]))->H' t=some (.tup [.str y,.str z])->(∀p o,H p=some o->p≠x->p≠b->H' p=some o)->(∀p,H' p=none->H p=none)->Q .non H')/\(gx lf=none->E (.ref Fa) none H)
theorem apl:aP [azt,az8,azN] [azt,az8,azN] (aA rY):=aZ
theorem apm(F:aU K "note" "Disk.note" rY f fd)(T:ik K mg C f1 f2 f3 f4 f f6 gM)(mM:aU K aAh "Disk.take_write" qe gM lI)(oO:aj P w K mg base (ca P w) 1 gM lI [azt] (AZ C Fa)) :
 aj P w K mg base (ca P w) 2 f fd [azt,az8,azN] (TD C Fa):=by
 have A0:=mM.binds1 (l:=[azt]) (fun _ _ _ _ _ _ _=>rfl);refine F.okR apl (fun vs H Q E h=>?_) (fun aw A outer s H vs Q E hr h=>?_)
 . obtain⟨x,dx,d,b,lf,y,z,ts,rfl,_⟩:=h;rfl
 . obtain⟨x,dx,d,b,lf,y,z,ts,rfl,hx,hb,vt,q1,q2⟩:=h;refine⟨_,(am (cp (rh (pv 0) T.cl T.mDTk oO hr A0 .nil lB))
    (av (cp (dj iO yW yX rj (cU (pv 0) rfl) (aa (eV (aa (pv 1) (aa (pv 2) ac))) ac))))),?_⟩
   have bx:b≠x:=aK hb hx (by intro z;cases z);refine⟨_,rfl,x,dx,_,rfl,hx,rfl,x,dx,d,b,lf,rfl,hx,fun lf' e H1 h1 k1 f1=>?_,q2⟩;have xM:=k1 _ _ hb bx;refine⟨_,rfl,x,C,dx,_,_,rfl,h1,T.cl,T.nB,Tx _ _ _,.inl ⟨rfl,_,ae.of xM⟩,_,rfl,_,rfl,(by show 2<=sizeLine;decide),fun t H2 n2 s2 e2=>?_⟩;have iG:=s2 _ _ xM;refine⟨b,_,_,rfl,rfl,iG,bZ (by omega),?_⟩;exact q1 lf' e t _ (f1 _ n2) (eY (s2 _ _ h1) bx.symm) aH (eY e2 (aK e2 iG (by intro z;cases z))) (fun p o e hp hpb=>eY (s2 _ _ (k1 _ _ e hp)) hpb) fun p e=>f1 _ (s2.free (iA e).2)
def Fd(C:Addr):Sp:=fun vs H Q _=>∃(x dx d b:Addr) (v v':V),vs=[.ref x,v']/\H x=some (.ins C dx (bP d b v))/\Q .non (ah H x (.ins C dx (bP d b v')))
theorem apo:aP [azt,aAm] [azt,aAm] (aA rZ):=aZ
theorem app(F:aU K "allow" "Disk.allow" rZ f fd)(T:ik K mg C f1 f2 f3 f4 f5 f f7):aj P w K mg base ak 1 f fd [azt,aAm] (Fd C):=by
 refine F.ok apo (fun vs H Q E h=>?_) (fun aw A outer s H vs Q E hr h=>?_)
 . obtain⟨x,dx,d,b,v,v',rfl,_⟩:=h;rfl
 . obtain⟨x,dx,d,b,v,v',rfl,hx,q⟩:=h;refine⟨_,(av (iy (pv 0) (pv 1) rfl)),?_⟩;refine⟨_,rfl,_,rfl,x,C,dx,_,rfl,hx,T.cl,T.nL,by show 3<1000;decide,?_⟩;rw[Tw];exact q
section
variable {β:Type}
end
def kB{β:Type}(fs:List (Str×β))(p:Str):List (Str×β):=fs.filter fun f=>decide (f.1≠p)
theorem Lc{β:Type}{G:ar×V->Str×β->Prop}(hk:∀kv f,G kv f->kv.1=Sum.inr f.1){p:Str}{kvs:List (ar×V)}{fs:List (Str×β)}(h:Paired G kvs fs):Paired G (pM kvs (.inr p)) (kB fs p):=by
 unfold pM kB
 induction h with
 | nil=>exact .nil
 | @cons kv f kvs fs r t ih=>
  have e:=hk _ _ r;rw[qO,qO]
  by_cases h:f.1=p
  . have h2:kv.1=Sum.inr p:=by rw[e,h]
    simp only[h,h2,ne_eq,not_true_eq_false,decide_false,qK,nv];exact ih
  . have h2:¬kv.1=Sum.inr p:=by rw[e];exact fun z=>h (nu z)
    simp only[h,h2,ne_eq,not_false_eq_true,decide_true,we];exact .cons r ih
theorem Ld{β:Type}{fs:List (Str×β)}{p:Str}(h:p∉fs.map (·.1)):kB fs p=fs:=by
 unfold kB;rw[List.filter_eq_self];intro f hf;exact bN fun e=>h (by rw[←e];exact gf (f:=(·.1)) hf)
theorem apq{β:Type}{fs:List (Str×β)}{p:Str}(h:(fs.map (·.1)).Nodup):((kB fs p).map (·.1)).Nodup:=h.sublist ((Om (l:=fs)).map _)
theorem apr{β:Type}(fs:List (Str×β))(p:Str):(kB fs p).length<=fs.length:=yI _ _
theorem TF{β:Type}{G:ar×V->Str×β->Prop}(hk:∀kv f,G kv f->kv.1=Sum.inr f.1){kvs:List (ar×V)}{fs:List (Str×β)}(h:Paired G kvs fs)(p:Str):(p∈fs.map (·.1)/\(bh kvs (.inr p)).isSome=true)\/(p∉fs.map (·.1)/\bh kvs (.inr p)=none):=by
 by_cases hp:p∈fs.map (·.1)
 . obtain⟨v,ls,e,_⟩:=rO hk h hp;exact .inl ⟨hp,by rw[e];rfl⟩
 . exact .inr ⟨hp,DG hk h hp⟩
section
open PyProof.Rows
end
theorem TH{f:Str×Ls}(h:∀y∈f.2,Ln y):PySem.W.kqdOk 9 (dS f.2)=true:=by
 simp only[dS,PySem.W.kqdOk,jk,cD];rintro d ⟨y,hy,rfl⟩;exact(h y hy).ok
theorem aps{H:Hp}{kvs:List (ar×V)}{fs:Tr}(h:Paired (bM H) kvs fs)(nd:(fs.map (·.1)).Nodup):(kvs.map (·.1)).Nodup:=by
 have e:kvs.map (·.1)=(fs.map (·.1)).map Sum.inr:=uJ (fun kv f (z:bM H kv f)=>z.1) h;rw[e];exact List.Pairwise.map Sum.inr (fun a b h e=>h (nu e)) nd
def Le(C:Addr):Sp:=fun vs H Q _=>∃(x dx d b:Addr) (v:V) (kd:List (ar×V)) (fs:Tr),vs=[.ref x]/\H x=some (.ins C dx (bP d b v))/\H d=some (.dK kd)/\Paired (bM H) kd fs/\(fs.map (·.1)).Nodup/\fs.length<=500 /\
 ∀r H' kr,H r=none->ag H H'->H' r=some (.dK kr)->Paired (de H H') kr fs->Q (.ref r) H'
theorem Fe:aP [azt,azJ,azC,azO] [azt] (aA rV):=aZ
theorem TJ(F:aU K aAu "Disk.files_now" rV f fd)(T:ik K mg C f f2 f3 f4 f5 f6 f7)(B:b9 mg):aj P w K mg base ak 1 f fd [azt] (Le C):=by
 refine F.ok Fe (fun vs H Q E h=>?_) (fun aw A outer s H vs Q E hr h=>?_)
 . obtain⟨x,dx,d,b,v,kd,fs,rfl,_⟩:=h;rfl
 . obtain⟨x,dx,o,b,v,kvs,ow,rfl,hx,ho,pr,nd,vt,q⟩:=h;have hu:=hr.units;refine⟨_,(am (aJ (i:=1) Fe.nd rfl (Or.inl rfl) mB)
    (am (Io eI rfl (cU (pv 0) rfl) (pF rfl (fb (bc (i:=2) Fe.nd rfl (Or.inl rfl)) (fb (bc (i:=3) Fe.nd rfl (Or.inl rfl)) mi)))
    (av (jm hu (pv 1) (pv 2) (eK mx (by rfl) B.list jP (aa (pv 3) ac)) rfl)))
    (av (aV (pv 1))))),?_⟩
   have hk:∀(H':Hp) kv f,de H H' kv f->kv.1=Sum.inr f.1:=fun _ kv f z=>z.1;refine fun d H1 n1 s1 e1=>?_;have od:d≠o:=(aL ho n1).symm;refine⟨_,rfl,x,C,dx,_,_,rfl,s1 _ _ hx,T.cl,T.nF,E8 _ _ _,o,kvs,rfl,s1 _ _ ho,fun ob=>?_⟩;refine JN (fun i σ H5=>∃u v j9,σ=[some (.ref x),some (.ref d),u,v]/\(∀b z,H b=some z->b≠o->H5 b=some z)/\(∀b,H5 b=none->H b=none)/\H5 o=some (.frz ob (.dK kvs))/\H5 d=some (.dK j9)/\Paired (de H H5) j9 (ow.take i))
    ⟨none,none,[],rfl,fun b x e hb=>eY (s1 _ _ e) hb,fun b e=>s1.free (iA e).2,aH,eY e1 od,.nil⟩ ?_ ?_ ?_
   . rintro i σ H5 ⟨u,v,j9,rfl,_,_,h,_⟩;exact h
   . rintro i k v p σ H5 hi ⟨u,v',j9,rfl,k5,f5,h5,gL,fF⟩ hp;obtain⟨⟨y,ls⟩,hf,a1,l,a2,a4⟩:=eE pr hi;have a1:k=.inr y:=a1;have a2:v=.ref l:=a2;have a4:H l=some (.lst (ls.map V.str)):=a4;subst a1 a2;have aN:=(cW.mp hf).1;have sp:ag H5 (ah H5 p (.tup [kV (.inr y),.ref l])):=fU hp;have L5:=sp _ _ (k5 _ _ a4 (aK a4 ho (by intro z;cases z)));refine⟨p,_,rfl,aX.of aH,rfl,_,_,rfl,_,_,rfl,rfl,?_⟩;refine⟨_,rfl,l,_,rfl,.inl (ae.of L5),fun q1 H6 n6 s6 e6=>?_⟩;have ke:=sp.trans s6;have pl:=bC fF;rw[eG]at pl;refine⟨_,rfl,_,rfl,d,_,rfl,fT.k (k:=.inr y) (ke _ _ gL) (bZ (by omega)),?_⟩;have JO:y∉(ow.take i).map (·.1):=by
      rw[Wr];intro hm;obtain⟨j,hj,ej⟩:=WE.mp hm;rw[eG,ao]at hj;rw[List.getElem_take]at ej;have e1:(ow.map (·.1))[j]?=some y:=by rw[jl (by rw[ao];omega),ej]
      have e2:(ow.map (·.1))[i]?=some y:=by rw[dH,hf];rfl
      have:=(WS (l:=ow.map (·.1)) (i:=j) (j:=i) (by rw[ao];omega) nd).mp (by rw[e1,e2]);omega
     refine⟨_,_,_,rfl,fun b z e hb=>?_,fun b e=>f5 b (ke.free (iA e).2),eY (ke _ _ h5) od.symm,aH,?_⟩
     . rw[aW (fun y=>by rw[y,n1]at e;cases e)];exact ke _ _ (k5 _ _ e hb)
     . rw[gT,hf];have:=jv (F:=de H H6) (hk H6) (x:=y) (ls:=ls) (v:=.ref q1) ⟨rfl,q1,rfl,f5 _ (sp.free n6),e6⟩ (aE fF fun _ _=>de.same ke);rw[Ao JO]at this;exact aE this fun _ _=>de.put (ke _ _ gL)
   . rintro σ H5 ⟨u,v,j9,rfl,k5,f5,h5,gL,fF⟩;rw[bC pr,eZ]at fF;refine⟨_,rfl,q d _ j9 n1 (fun b z e=>?_) (eY gL od) (aE fF fun kv f z=>?_)⟩
     . by_cases hb:b=o
       . subst hb;rw[ho]at e;cases e;exact aH
       . exact eY (k5 b z e hb) hb
     . obtain⟨a,l,b,c,e⟩:=z;exact⟨a,l,b,c,eY e (fun y=>by rw[y,ho]at c;cases c)⟩
def Ff(C:Addr):Sp:=fun vs H Q _=>∃(x dx d b:Addr) (v:V) (ts:Lv),vs=[.ref x]/\H x=some (.ins C dx (bP d b v))/\H b=some (.lst ts)/\dL H (.lst ts) Q
theorem apt:aP [azt] [azt] (aA qb):=aZ
theorem Lf(F:aU K aAp "Disk.book_now" qb f fd)(T:ik K mg C f1 f f3 f4 f5 f6 f7)(B:b9 mg):aj P w K mg base ak 1 f fd [azt] (Ff C):=by
 refine F.ok apt (fun vs H Q E h=>?_) (fun aw A outer s H vs Q E hr h=>?_)
 . obtain⟨x,dx,d,b,v,ts,rfl,_⟩:=h;rfl
 . obtain⟨x,dx,d,b,v,ts,rfl,hx,hb,q⟩:=h;refine⟨_,(av (aV (eK mx (by rfl) B.list jP (aa (cU (pv 0) rfl) ac)))),?_⟩;exact⟨_,rfl,x,C,dx,_,_,rfl,hx,T.cl,T.nB,Tx _ _ _,b,_,rfl,.inl (ae.of hb),q⟩
open PyProof.Rows
variable {P:Program}{w:World}{K:Fg}{mg:Mv}{base:Heap}
def look{β:Type}(tr:List (Str×β))(k:Str):Option β:=(tr.find? fun f=>decide (f.1=k)).map (·.2)
theorem jL{β:Type}(f:Str×β)(tr:List (Str×β))(k:Str):look (f::tr) k=if f.1=k then some f.2 else look tr k:=by
 unfold look;rw[tK]
 by_cases h:f.1=k
 . rw[al h,bN h];rfl
 . rw[ai h,cI h]
theorem fH{β:Type}{tr:List (Str×β)}{k:Str}:look tr k=none↔k∉tr.map (·.1):=by
 induction tr with
 | nil=>exact⟨(fun _ h=>nomatch h),fun _=>rfl⟩
 | cons f tr ih=>
  rw[jL,bL,aY,py,←ih]
  by_cases h:f.1=k
  . rw[al h];exact⟨(fun z=>nomatch z),fun z=>absurd h.symm z.1⟩
  . rw[ai h];exact⟨fun z=>⟨fun e=>h e.symm,z⟩,fun z=>z.2⟩
theorem qt{β:Type}{tr:List (Str×β)}{k:Str}{ls:β}(h:look tr k=some ls):(k,ls)∈tr:=by
 induction tr with
 | nil=>cases h
 | cons f tr ih=>
  rw[jL]at h
  by_cases e:f.1=k
  . rw[al e]at h;cases h;rw[←e];exact bK
  . rw[ai e]at h;exact bR _ (ih h)
theorem xN{β:Type}{tr:List (Str×β)}{k:Str}{ls:β}(nd:(tr.map (·.1)).Nodup)(h:(k,ls)∈tr):look tr k=some ls:=by
 cases e:look tr k with
 | none=>exact absurd (gf (f:=(·.1)) h) (fH.mp e)
 | some yZ=>rw[oE nd (qt e) h]
theorem apu{β:Type}(tr:List (Str×β))(g:Str×β)(k:Str):look (tr++[g]) k=(look tr k).or (if g.1=k then some g.2 else none):=by
 induction tr with
 | nil=>rw[yY,jL];rfl
 | cons f tr ih=>
  rw[tM,jL,jL,ih];split<;>rfl
theorem Fh{β:Type}(tr:List (Str×β))(p:Str)(ls:β)(k:Str):look (bI tr p ls) k=if p=k then some ls else look tr k:=by
 unfold bI;split
 . rename_i h;have hp:=rN.mp h;clear h
   induction tr with
   | nil=>cases hp
   | cons f tr ih=>
    rw[bL,jL,jL]
    by_cases hf:f.1=p
    . rw[al hf,hf]
      by_cases hk:p=k
      . rw[al hk,al hk]
      . rw[ai hk,ai hk,ai hk];clear ih hp hf
        induction tr with
        | nil=>rfl
        | cons g tr ih=>
         rw[bL,jL,jL,ih]
         by_cases hg:g.1=p
         . rw[al hg,hg,ai hk,ai hk]
         . rw[ai hg]
    . rw[ai hf];rw[bL,aY]at hp
      rcases hp with hp | hp
      . exact absurd hp.symm hf
      . rw[ih hp]
        by_cases hk:f.1=k
        . rw[al hk,al hk,ai (fun e=>hf (hk.trans e.symm))]
        . rw[ai hk,ai hk]
 . rename_i h;have hp:p∉tr.map (·.1):=fun z=>h (rN.mpr z);rw[apu];show(look tr k).or (if p=k then some ls else none)=_
   by_cases hk:p=k
   . rw[al hk,al hk,←hk,fH.mpr hp];rfl
   . rw[ai hk,ai hk];cases look tr k<;>rfl
theorem apv{β:Type}(tr:List (Str×β))(p k:Str):look (kB tr p) k=if p=k then none else look tr k:=by
 unfold kB
 induction tr with
 | nil=>
  show none=_;split<;>rfl
 | cons f tr ih=>
  rw[qO]
  by_cases h:f.1=p
  . rw[ai (by simp[h]),ih,jL]
    by_cases hk:p=k
    . rw[al hk,al hk]
    . rw[ai hk,ai hk,ai (fun e=>hk (h.symm.trans e))]
  . rw[al (by simp[h]),jL,jL,ih]
    by_cases hk:p=k
    . rw[al hk,al hk,ai (fun e=>h (e.trans hk.symm))]
    . rw[ai hk,ai hk]
def bF{β:Type}(tr:List (Str×β))(fs:List (Str×β))(p:Str):List (Str×β):=match look tr p with
 | some ls=>bI fs p ls
 | none=>kB fs p
theorem apw{β:Type}(tr fs:List (Str×β))(p k:Str):look (bF tr fs p) k=if p=k then look tr k else look fs k:=by
 unfold bF;split
 . rename_i ls e;rw[Fh]
   by_cases h:p=k
   . rw[al h,al h,←h,e]
   . rw[ai h,ai h]
 . rename_i e;rw[apv]
   by_cases h:p=k
   . rw[al h,al h,←h,e]
   . rw[ai h,ai h]
theorem Fi{β:Type}(tr:List (Str×β)):∀(ps:Ls) (fs:List (Str×β)) (k:Str),look (ps.foldl (bF tr) fs) k=if k∈ps then look tr k else look fs k
 | [],fs,k=>by rw[ai (by simp)];rfl
 | p::ps,fs,k=>by
  rw[l8,Fi tr ps,apw]
  by_cases h:k∈ps
  . rw[al h,al (bR _ h)]
  . rw[ai h]
    by_cases e:p=k
    . rw[al e,al (by rw[e];exact bK)]
    . rw[ai e,ai (by rw[aY,py];exact⟨fun z=>e z.symm,h⟩)]
theorem TK{β:Type}{tr fs:List (Str×β)}{p:Str}(h:(fs.map (·.1)).Nodup):((bF tr fs p).map (·.1)).Nodup:=by
 unfold bF;split
 . exact lE h
 . exact apq h
theorem apx{β:Type}(tr fs:List (Str×β))(p:Str):(bF tr fs p).length<=fs.length+1:=by
 unfold bF;split
 . exact j7 _ _ _
 . have:=apr fs p;omega
theorem Lg{β:Type}{tr:List (Str×β)}:∀{ps:Ls}{fs:List (Str×β)},(fs.map (·.1)).Nodup->((ps.foldl (bF tr) fs).map (·.1)).Nodup
 | [],_,h=>h
 | _::ps,_,h=>Lg (ps:=ps) (TK h)
theorem TL{β:Type}{tr:List (Str×β)}:∀(ps:Ls) (fs:List (Str×β)),(ps.foldl (bF tr) fs).length<=fs.length+ps.length
 | [],_=>aI _
 | p::ps,fs=>by
  have:=TL (tr:=tr) ps (bF tr fs p);have:=apx tr fs p;rw[l8,cg];omega
def dw(fs:Tr):Prop:=∀f∈fs,∀y∈f.2,Ln y
theorem apy{tr fs:Tr}{p:Str}(ht:dw tr)(h:dw fs):dw (bF tr fs p):=by
 unfold bF;split
 . rename_i ls e;intro f hf
   rcases rM hf with z | z
   . rw[z];exact ht _ (qt e)
   . exact h f z
 . exact fun f hf=>h f (qL.mp hf).1
theorem Lh{tr:Tr}(ht:dw tr):∀{ps:Ls}{fs:Tr},dw fs->dw (ps.foldl (bF tr) fs)
 | [],_,h=>h
 | _::ps,_,h=>Lh ht (ps:=ps) (apy ht h)
abbrev Li (l:Ls):Prop:=l.Pairwise (fun a b=>a.cps.toList<=b.cps.toList)
theorem apz{a b:Ls}(p:a.Perm b)(h1:Li a)(h2:Li b):a=b:=by
 refine ax6 (fun x y _ _ h h'=>?_) h1 h2 p;have e:=WP h h';obtain⟨⟨x⟩⟩:=x;obtain⟨⟨y⟩⟩:=y;have e:x=y:=e;rw[e]
structure jM{β:Type}(fs tr:List (Str×β))(ps:Ls):Prop where
 srt:Li ps
 nd:ps.Nodup
 mem:∀k,k∈ps↔look fs k≠look tr k
theorem apA{α:Type}[DecidableEq α]{a b:List α}(ha:a.Nodup)(hb:b.Nodup)(h:∀z,z∈a↔z∈b):a.Perm b:=(List.perm_ext_iff_of_nodup ha hb).mpr h
theorem jM.eq{β:Type}{fs tr:List (Str×β)}{ps qs:Ls}(x:jM fs tr ps)(y:jM fs tr qs):ps=qs:=apz (apA x.nd y.nd fun z=>by rw[x.mem,y.mem]) x.srt y.srt
theorem jM.drop{β:Type}{fs tr:List (Str×β)}{ps:Ls}(x:jM fs tr ps)(m:Nat):jM ((ps.take m).foldl (bF tr) fs) tr (ps.drop m) where
 srt:=x.srt.sublist (List.drop_sublist m ps)
 nd:=x.nd.sublist (List.drop_sublist m ps)
 mem:=fun k=>by
  rw[Fi];have hd:ps=ps.take m++ps.drop m:=(aya m ps).symm;have nd:=x.nd;rw[hd,tN]at nd
  by_cases h:k∈ps.take m
  . rw[al h];exact⟨fun z=>absurd rfl (nd.2.2 k h k z),fun z=>absurd rfl z⟩
  . rw[ai h,←x.mem k];exact⟨fun z=>NY z,fun z=>by
     rw[hd]at z
     rcases bS.mp z with z | z
     . exact absurd z h
     . exact z⟩
theorem jM.len{β:Type}{fs tr:List (Str×β)}{ps:Ls}(x:jM fs tr ps):ps.length<=fs.length+tr.length:=by
 have:=jp (ys:=fs.map (·.1)++tr.map (·.1)) x.nd fun z hz=>by
  refine bS.mpr ?_
  by_cases h1:z∈fs.map (·.1)
  . exact .inl h1
  . by_cases h2:z∈tr.map (·.1)
    . exact .inr h2
    . exact absurd ((fH.mpr h1).trans (fH.mpr h2).symm) ((x.mem z).mp hz)
 rw[bj,ao,ao]at this;exact this
theorem jM.all{β:Type}{fs tr:List (Str×β)}{ps:Ls}(x:jM fs tr ps)(k:Str):look (ps.foldl (bF tr) fs) k=look tr k:=by
 rw[Fi]
 by_cases h:k∈ps
 . rw[al h]
 . rw[ai h]
   by_cases e:look fs k=look tr k
   . exact e
   . exact absurd ((x.mem k).mpr e) h
theorem TM{β:Type}{fs tr:List (Str×β)}(nd:(fs.map (·.1)).Nodup)(h:∀k,look fs k=look tr k):∀f∈fs,f∈tr:=fun f hf=>by
 obtain⟨k,ls⟩:=f;exact qt ((h k).symm.trans (xN nd hf))
theorem TN{β:Type}{fs tr:List (Str×β)}(nd:(fs.map (·.1)).Nodup)(Fj:(tr.map (·.1)).Nodup)(h:∀k,look fs k=look tr k):fs.length=tr.length:=by
 have a:=jp (xs:=fs.map (·.1)) (ys:=tr.map (·.1)) nd fun z hz=>by
  obtain⟨f,hf,rfl⟩:=cD.mp hz;exact gf (f:=(·.1)) (TM nd h f hf)
 have b:=jp (xs:=tr.map (·.1)) (ys:=fs.map (·.1)) Fj fun z hz=>by
  obtain⟨f,hf,rfl⟩:=cD.mp hz;exact gf (f:=(·.1)) (TM Fj (fun k=>(h k).symm) f hf)
 rw[ao,ao]at a b;omega
theorem TQ{H:Hp}{kvs:List (ar×V)}{fs:Tr}(h:Paired (bM H) kvs fs)(nd:(fs.map (·.1)).Nodup)(p:Str):(look fs p=none/\bh kvs (.inr p)=none)\/(∃ls l,look fs p=some ls/\bh kvs (.inr p)=some (.ref l)/\H l=some (.lst (ls.map V.str))/\(p,ls)∈fs):=by
 have hk:∀kv f,bM H kv f->kv.1=Sum.inr f.1:=fun kv f z=>z.1
 by_cases hp:p∈fs.map (·.1)
 . obtain⟨v,ls,e,hm,r⟩:=rO hk h hp;obtain⟨_,l,e2,e3⟩:=r;have e2:v=.ref l:=e2;exact .inr ⟨ls,l,xN nd hm,by rw[e,e2],e3,hm⟩
 . exact .inl ⟨fH.mpr hp,DG hk h hp⟩
def Fk:Option (Ls)->PySem.W.Dat
 | none=>.none
 | some ls=>dS ls
theorem TR:∀{a b:Ls},a.map PySem.W.Dat.str=b.map PySem.W.Dat.str->a=b
 | [],[],_=>rfl
 | [],_::_,h=>nomatch h
 | _::_,[],h=>nomatch h
 | x::a,y::b,h=>by
  rw[bL,bL]at h;injection h with h1 h2
  injection h1 with h1
  rw[h1,TR h2]
theorem apB{a b:Option (Ls)}(h:Fk a=Fk b):a=b:=by
 cases a with
 | none=>
  cases b with
  | none=>rfl
  | some y=>cases h
 | some x=>
  cases b with
  | none=>cases h
  | some y=>
   have h:PySem.W.Dat.list (x.map PySem.W.Dat.str)=PySem.W.Dat.list (y.map PySem.W.Dat.str):=h;injection h with h
   rw[TR h]
theorem apC{K:Fg}{H:Hp}{kvs:List (ar×V)}{fs:Tr}(h:Paired (bM H) kvs fs)(nd:(fs.map (·.1)).Nodup)(ok:dw fs)(p:Str):DV K H ((bh kvs (.inr p)).getD .non) (Fk (look fs p))/\PySem.W.kqdOk 9 (Fk (look fs p))=true:=by
 rcases TQ h nd p with⟨e1,e2⟩ | ⟨ls,l,e1,e2,e3,hm⟩
 . rw[e1,e2];exact⟨.non,rfl⟩
 . rw[e1,e2];exact⟨pQ (ae.of e3),TH (ok _ hm)⟩
def oP{β:Type}(fs tr:List (Str×β)):Prop:=∃U:Ls,U.length<=63/\∀k,(k∈fs.map (·.1)\/k∈tr.map (·.1))->k∈U
theorem A1{β:Type}{fs tr:List (Str×β)}(h:fs.length+tr.length<=63):oP fs tr:=⟨fs.map (·.1)++tr.map (·.1),by rw[bj,ao,ao];exact h,fun k z=>bS.mpr z⟩
theorem oP.fst{β:Type}{fs tr:List (Str×β)}(h:oP fs tr)(nd:(fs.map (·.1)).Nodup):fs.length<=63:=by
 obtain⟨U,hU,m⟩:=h;have:=jp nd fun z hz=>m z (.inl hz);rw[ao]at this;omega
theorem oP.snd{β:Type}{fs tr:List (Str×β)}(h:oP fs tr)(nd:(tr.map (·.1)).Nodup):tr.length<=63:=by
 obtain⟨U,hU,m⟩:=h;have:=jp nd fun z hz=>m z (.inr hz);rw[ao]at this;omega
def Lj{β:Type}(Fv:Hp->ar×V->Str×β->Prop)(OK:List (Str×β)->Prop):Sp:=fun vs H Q _=>∃(a b:Addr) (ka kb:List (ar×V)) (fs tr:List (Str×β)),vs=[.ref a,.ref b]/\H a=some (.dK ka)/\H b=some (.dK kb)/\Paired (Fv H) ka fs/\Paired (Fv H) kb tr/\(fs.map (·.1)).Nodup/\(tr.map (·.1)).Nodup/\OK fs/\OK tr/\oP fs tr /\
 ∀l H' ps,H l=none->ag H H'->H' l=some (.lst (ps.map V.str))->jM fs tr ps->Q (.ref l) H'
theorem apD:aP [azX,azS] [azX,azS] (aA uO):=aZ
theorem TU{β:Type}[DecidableEq β]{Fv:Hp->ar×V->Str×β->Prop}{OK:List (Str×β)->Prop}{dat:Option β->PySem.W.Dat}(hk:∀H kv f,Fv H kv f->kv.1=Sum.inr f.1)(hs:∀{H G:Hp}{kv:ar×V}{f:Str×β},ag H G->Fv H kv f->Fv G kv f)(hi:∀{a b:Option β},dat a=dat b->a=b)
 (hd:∀{H:Hp}{kvs:List (ar×V)}{fs:List (Str×β)},Paired (Fv H) kvs fs->(fs.map (·.1)).Nodup->OK fs->∀p,DV K H ((bh kvs (.inr p)).getD .non) (dat (look fs p))/\PySem.W.kqdOk 9 (dat (look fs p))=true) {f:Addr}{fd:Fy} (F:bB K aAb uO f fd) (B:b9 mg):aj P w K mg base ak 1 f fd [azX,azS] (Lj Fv OK):=by
 refine F.ok apD (fun vs H Q E h=>?_) (fun aw A outer s H vs Q E hr h=>?_)
 . obtain⟨a,b,ka,kb,fs,tr,rfl,_⟩:=h;rfl
 . obtain⟨a,b,ka,kb,fs,tr,rfl,ha,hb,pa,pb,xO,rS,Lk,Lq,jd,q⟩:=h;have f63:=jd.fst xO;have t63:=jd.snd rS;have hu:=hr.units;refine⟨_,(av (aV (gF ["key"] [azX,azS] [0,1] eA rfl (cQ (dJ (QZ rfl) (by rfl) B.sorted yV (aa (aF akb (eK Rf (by rfl) B.set WW (aa (pv 0) ac)) (eK Rf (by rfl) B.set WW (aa (pv 1) ac))) ac)))
    (fun _ _ _ _=>(bc (i:=0) (show List.Nodup (["key",azX,azS]:Ls) by decide +kernel) rfl (Or.inl rfl))) (fun _ _ _ _=>nY (bY (aiZ K hu) (HL hu (pv 1) (pv 0) ⟨rfl,rfl,rfl,rfl⟩) (HL hu (pv 2) (pv 0) ⟨rfl,rfl,rfl,rfl⟩) (bT _))) (fun _ _ _ _=>(pv 0))))),?_⟩
   refine⟨_,rfl,a,ka,fs.map (·.1),rfl,ha,uJ (hk H) pa,by rw[ao];omega,fun r1 TV H1 n1 s1 e1 Lr m1=>?_⟩;refine⟨_,rfl,b,kb,tr.map (·.1),rfl,s1 _ _ hb,uJ (hk H) pb,by rw[ao];omega,fun r2 TW H2 n2 s2 e2 Lu m2=>?_⟩;have l1:TV.length<=fs.length:=by have:=jp Lr fun z hz=>(m1 z).mp hz;rwa [ao]at this
   have l2:TW.length<=tr.length:=by have:=jp Lu fun z hz=>(m2 z).mp hz;rwa [ao]at this
   refine⟨r1,r2,TV,TW,rfl,rfl,aL e1 n2,s2 _ _ e1,e2,by omega,fun r3 zs H3 n3 s3 e3 TX m3=>?_⟩;have l3:zs.length<=63:=by
    obtain⟨U,hU,mU⟩:=jd;have:=jp TX fun z hz=>mU z ((bS.mp ((m3 z).mp hz)).imp (m1 z).mp (m2 z).mp);omega
   refine⟨r3,zs,rfl,e3,by omega,fun ys pm srt p H4 n4 s4 e4=>?_⟩;have sj:ag H H4:=(s1.trans s2).trans (s3.trans s4);have lys:ys.length<=63:=by rw[pm.length_eq];exact l3
   refine⟨p,rfl,⟨_,ae.of e4⟩,?_⟩;refine HW (K:=K) (xs:=ys.map V.str) (σ0:=[none,some (.ref a),some (.ref b)]) (ae.of e4) (fun σ=>∃v,σ=[v,some (.ref a),some (.ref b)]) (fun i ws _=>ws=((ys.take i).filter fun k=>decide (look fs k≠look tr k)).map V.str) ⟨_,rfl⟩ (fun _ _=>rfl) ?_ ?_
   . rintro D i x ws σ H5 k k' hD hx ⟨v,rfl⟩ gL s5 rfl hk fC;rw[dH]at hx;cases hy:ys[i]? with
     | none=>rw[hy]at hx;cases hx
     | some y=>
      rw[hy]at hx;cases hx;have oN:=sj.trans s5;obtain⟨d1,o1⟩:=hd (aE pa fun _ _=>hs oN) xO Lk y;obtain⟨d2,o2⟩:=hd (aE pb fun _ _=>hs oN) rS Lq y;refine⟨_,rfl,a,rfl,.inl ⟨_,.inl (oN _ _ ha)⟩,_,rfl,_,c8.k (k:=.inr y) (oN _ _ ha),?_⟩;refine⟨_,rfl,b,rfl,.inl ⟨_,.inl (oN _ _ hb)⟩,_,rfl,_,c8.k (k:=.inr y) (oN _ _ hb),?_⟩;refine⟨_,_,d1,d2,o1,o2,fun bb rC=>⟨_,rfl,?_⟩⟩;have e0:(ys.take (i+1)).filter (fun k=>decide (look fs k≠look tr k))=(ys.take i).filter (fun k=>decide (look fs k≠look tr k))++[y].filter (fun k=>decide (look fs k≠look tr k)):=by
       rw[gT,hy,Ol];rfl
      refine bA (fun h=>?_) (fun h=>?_)
      . have cY:look fs y≠look tr y:=fun e=>by
         have:bb=true:=rC.mpr (by rw[e]);rw[this]at h;cases h
        refine⟨_,rfl,hk _ _ _ ⟨_,rfl⟩ (ag.refl _) (bZ ?_) ?_⟩
        . rw[ao];have:=yI (fun k=>decide (look fs k≠look tr k)) (ys.take i);rw[eG]at this;omega
        . rw[e0,qO,al (bN cY),dz];rfl
      . have heq:look fs y=look tr y:=by
         cases bb with
         | true=>exact hi (rC.mp rfl)
         | false=>exact absurd rfl h
        refine fC _ _ ⟨_,rfl⟩ (ag.refl _) ?_;rw[e0,qO,ai (by rw[cI (fun z=>z heq)];exact cK),List.filter_nil,lX]
   . rintro D ws H5 hD gL s5 rfl;rw[ao,eZ]at gL;have sr:=Jm srt;have ndy:ys.Nodup:=pm.nodup_iff.mpr TX;refine q D H5 _ (sj.free hD) (sj.trans s5) gL ⟨sr.sublist Om,ndy.sublist Om,fun z=>?_⟩;rw[qL,Ct];refine⟨fun h=>h.2,fun h=>⟨?_,h⟩⟩;rw[pm.mem_iff,m3,bS,m1,m2]
     by_cases z1:z∈fs.map (·.1)
     . exact .inl z1
     . by_cases z2:z∈tr.map (·.1)
       . exact .inr z2
       . exact absurd ((fH.mpr z1).trans (fH.mpr z2).symm) h
abbrev TY:Sp:=Lj bM dw
theorem apH(F:bB K aAb uO f fd)(B:b9 mg):aj P w K mg base ak 1 f fd [azX,azS] TY:=TU (Fv:=bM) (OK:=dw) (fun _ _ _ z=>z.1) (fun s z=>bM.same s z) apB (fun h nd ok p=>apC h nd ok p) F B
def lJ(lf:Option Int)(n:Nat):Option Int:=lf.map fun m=>m - n
structure Tn(C x dx d b:Addr)(lf:Option Int)(fs:Tr)(H H':Hp):Prop where
 ob:H' x=some (.ins C dx (bP d b (lv lf)))
 hd:∃kd,H' d=some (.dK kd)/\Paired (bM H') kd fs
 kp:∀p o,H p=some o->p≠x->p≠d->H' p=some o
def TZ(C Fa:Addr):Sp:=fun vs H Q E=>∃(x dx d b t:Addr) (lf:Option Int) (kd kt:List (ar×V)) (fs tr:Tr),vs=[.ref x,.ref t]/\H x=some (.ins C dx (bP d b (lv lf)))/\H d=some (.dK kd)/\H t=some (.dK kt)/\d≠t/\Paired (bM H) kd fs/\Paired (bM H) kt tr/\(fs.map (·.1)).Nodup/\(tr.map (·.1)).Nodup/\dw fs/\dw tr/\oP fs tr/\(∀m,lf=some m->0<=m) /\
 (∀ps H',jM fs tr ps->(∀m,lf=some m->(ps.length:Int)<=m)->Tn C x dx d b (lJ lf ps.length) (ps.foldl (bF tr) fs) H H'->Q .non H') /\
 (∀ps (j:Nat) H',jM fs tr ps->lf=some (j:Int)->j<ps.length->Tn C x dx d b (some 0) ((ps.take j).foldl (bF tr) fs) H H'->E (.ref Fa) none H')
theorem T0:aP [azy,az0,azC] [azy,az0] (aA xf):=aZ
theorem apJ(F:bB K "turn_to" xf f fd)(B:b9 mg)(T:ik K mg C kz f2 jH jI f5 f6 f7)(sO:aU K aAu "Disk.files_now" rV kz sN)
 (vv:aU K "put" "Disk.put" rW jH qv) (vw:aj P w K mg base (ca P w) 2 jH qv [azt,azC,azO] (E9 K C Fa)) (sP:aU K "erase" "Disk.erase" rX jI qw) (A2:aj P w K mg base (ca P w) 2 jI qw [azt,azC] (Fb C Fa))
 (mO:aO K mg aAb uO xP xQ):aj P w K mg base (ca P w) 3 f fd [azy,az0] (TZ C Fa):=by
 have Lx:aj P w K mg base ak 1 kz sN [azt] (Le C):=TJ sO T B;have Ly:=sO.binds1 (l:=[azt]) (fun _ _ _ _ _ _ _=>rfl);have Fl:aj P w K mg base ak 1 xP xQ [azX,azS] TY:=apH mO.u B;have Fm:=mO.u.binds2 (l:=[azX,azS]) (fun _ _ _ _ _ _ _ _=>rfl);have Fn:=vv.binds3 (l:=[azt,azC,azO]) (fun _ _ _ _ _ _ _ _ _=>rfl);have Lz:=sP.binds2 (l:=[azt,azC]) (fun _ _ _ _ _ _ _ _=>rfl);refine F.okR T0 (fun vs H Q E h=>?_) (fun aw A outer s H vs Q E hr h=>?_)
 . obtain⟨x,dx,d,b,t,lf,kd,kt,fs,tr,rfl,_⟩:=h;rfl
 . obtain⟨x,dx,d,b,t,lf,kd,kt,fs,tr,rfl,hx,hd,ht,ndt,pd,pt,xO,rS,Lk,Lq,jd,pos,q1,q2⟩:=h;have f63:=jd.fst xO;have t63:=jd.snd rS;have hu:=hr.units;have dC:ce 1 (A.deeper (PyProof.Rows.envOfC "turn_to" (aA xf) s.heap.objs.size f aw)):=hr.mono (by decide);refine⟨_,(av (eJ PassesOwn.leaving rfl (cQ (aG Fl dC rfl mO Fm (aa (rh (pv 0) T.cl T.mFNo Lx dC Ly .nil fA) (aa (pv 1) ac)))) (bc (i:=2) T0.nd rfl (Or.inl rfl))
    (av (cO (ww (CU hu (pv 2) (pv 1)) (by rfl))
     (av (cp (jV (pv 0) T.cl T.mDPt vw hr Fn .nil lB (aa (pv 2) (aa (rn hu (pv 1) (pv 2) (fun _ _=>rfl)) ac))))) (av (cp (jV (pv 0) T.cl T.mDEr A2 hr Lz .nil lB (aa (pv 2) ac)))))))),?_⟩
   have jc:d≠x:=aK hd hx (by intro z;cases z);have tx:t≠x:=aK ht hx (by intro z;cases z);refine⟨_,rfl,x,dx,_,rfl,hx,rfl,x,dx,d,b,lv lf,kd,fs,rfl,hx,hd,pd,xO,by omega,fun r H1 kr n1 s1 e1 pr=>?_⟩;refine⟨_,rfl,r,t,kr,kt,fs,tr,rfl,e1,s1 _ _ ht,aE pr fun _ _ apL=>apL.elim fun z1 apM=>apM.elim fun l apN=>apN.elim fun z2 apO=>apO.elim fun _ z3=>⟨z1,l,z2,z3⟩,aE pt fun _ _=>bM.same s1,xO,rS,Lk,Lq,jd,fun l H2 ps n2 s2 e2 U=>?_⟩;have bU:=s1.trans s2;have nl:H l=none:=s1.free n2;have lx:l≠x:=(aL hx nl).symm;have ld:l≠d:=(aL hd nl).symm;have KL:=U.len;refine⟨l,rfl,⟨_,ae.of e2⟩,?_⟩;refine iT (xs:=ps.map V.str) (fun i σ H5=>∃v,σ=[some (.ref x),some (.ref t),v]/\H5 l=some (.lst (ps.map V.str))/\(∀m,lf=some m->(i:Int)<=m)/\Tn C x dx d b (lJ lf i) ((ps.take i).foldl (bF tr) fs) H H5)
    ⟨none,rfl,e2,pos,by
     have:lJ lf 0=lf:=by cases lf with | none=>rfl | some m=>simp[lJ]
     rw[this];exact bU _ _ hx,⟨kd,bU _ _ hd,aE pd fun _ _=>bM.same bU⟩,fun p o e _ _=>bU _ _ e⟩ ?_ ?_ ?_
   . rintro i σ H5 hi ⟨v,rfl,hl,_⟩;exact ae.of hl
   . rintro i v0 σ H5 hv ⟨v,rfl,hl,Fo,W⟩;rw[dH]at hv;cases hy:ps[i]? with
     | none=>rw[hy]at hv;cases hv
     | some p=>
      rw[hy]at hv;cases hv;obtain⟨T1,gL,A3⟩:=W.hd;have apP:=(cW.mp hy).1;have qx:=W.kp _ _ ht tx (ge ndt);have pt5:Paired (bM H5) kt tr:=aE pt fun _ _ apR=>apR.elim fun z1 apS=>apS.elim fun l' apT=>apT.elim fun z2 z3=>⟨z1,l',z2,W.kp _ _ z3 (aK z3 hx (by intro z;cases z)) (aK z3 hd (by intro z;cases z))⟩;have jn:(ps.take (i+1)).foldl (bF tr) fs=bF tr ((ps.take i).foldl (bF tr) fs) p:=by
       rw[gT,hy,qT];rfl
      have ayS:=TL (tr:=tr) (ps.take i) fs;have ayT:(ps.take i).length<=ps.length:=by rw[eG];omega
      have aok:=bC A3;have dn:∀lf',gx (lJ lf i)=some lf'->lf'=lJ lf (i+1)/\∀m,lf=some m->((i+1:Nat):Int)<=m:=fun lf' e=>by
       cases lf with
       | none=>cases e;exact⟨rfl,fun m z=>nomatch z⟩
       | some m=>
        have e:gx (some (m - i))=some lf':=e
        by_cases z:m - (i:Int)<1
        . rw[K8 z]at e;cases e
        . rw[AY z]at e;cases e;refine⟨?_,fun m' z'=>by cases z';omega⟩;show some (m - (i:Int) - 1)=some (m - ((i+1:Nat):Int))
          congr 1
          omega
      have up:gx (lJ lf i)=none->lf=some (i:Int):=fun e=>by
       cases lf with
       | none=>cases e
       | some m=>
        have e:gx (some (m - i))=none:=e
        by_cases z:m - (i:Int)<1
        . have:=Fo m rfl
          congr 1
          omega
        . rw[AY z]at e;cases e
      have fJ:gx (lJ lf i)=none->E (.ref Fa) none H5:=fun e=>by
       have e2:=up e;refine q2 ps i H5 U e2 apP ⟨?_,W.hd,W.kp⟩;have:=W.ob;rw[e2]at this;have e9:lJ (some (i:Int)) i=some 0:=by simp[lJ]
       rw[e9]at this;exact this
      refine⟨_,rfl,_,rfl,t,_,rfl,c8.k (k:=.inr p) qx,_,rfl,?_⟩
      rcases TQ pt5 rS p with⟨g1,g2⟩ | ⟨ls,l',g1,g2,g3,_⟩
      . rw[g2];refine gk ?_;refine⟨_,rfl,x,dx,_,rfl,W.ob,rfl,_,rfl,x,dx,d,b,lJ lf i,p,T1,rfl,W.ob,gL,fun lf' e H6 h1 h2 h3 h4=>?_,fJ⟩;obtain⟨rfl,LA⟩:=dn lf' e;refine⟨_,rfl,h3 _ _ hl lx ld,LA,h1,⟨_,h2,?_⟩,fun q o z A4 uI=>h3 _ _ (W.kp _ _ z A4 uI) A4 uI⟩;have fv:bF tr ((ps.take i).foldl (bF tr) fs) p=kB ((ps.take i).foldl (bF tr) fs) p:=by unfold bF;rw[g1]
        rw[jn,fv];have kk:∀kv f,bM H5 kv f->bM H6 kv f:=fun kv f apU=>apU.elim fun z1 apV=>apV.elim fun l3 apW=>apW.elim fun z2 z3=>⟨z1,l3,z2,h3 _ _ z3 (aK z3 W.ob (by intro z;cases z)) (aK z3 gL (by intro z;cases z))⟩;have A5:∀kv f,bM H5 kv f->kv.1=Sum.inr f.1:=fun kv f z=>z.1
        rcases TF A5 A3 p with⟨hp,hs⟩ | ⟨hp,hs⟩
        . rw[al hs];exact aE (Lc A5 A3) kk
        . rw[hs,Ld hp];exact aE A3 kk
      . rw[g2];refine gY ?_;refine⟨_,rfl,x,dx,_,rfl,W.ob,rfl,_,rfl,_,rfl,_,rfl,t,.ref l',rfl,(by rw[←g2];exact c8.k (k:=.inr p) qx),?_⟩;refine⟨x,dx,d,b,l',lJ lf i,p,T1,ls.map V.str,rfl,W.ob,gL,g3,by omega,fun lf' e qn H6 nq h1 h2 h3 h4 h5=>?_,fJ⟩;obtain⟨rfl,LA⟩:=dn lf' e;refine⟨_,rfl,h4 _ _ hl lx ld,LA,h1,⟨_,h2,?_⟩,fun q o z A4 uI=>h4 _ _ (W.kp _ _ z A4 uI) A4 uI⟩;have fv:bF tr ((ps.take i).foldl (bF tr) fs) p=bI ((ps.take i).foldl (bF tr) fs) p ls:=by unfold bF;rw[g1]
        rw[jn,fv];have kk:∀kv f,bM H5 kv f->bM H6 kv f:=fun kv f apX=>apX.elim fun z1 apY=>apY.elim fun l3 apZ=>apZ.elim fun z2 z3=>⟨z1,l3,z2,h4 _ _ z3 (aK z3 W.ob (by intro z;cases z)) (aK z3 gL (by intro z;cases z))⟩;exact jv (F:=bM H6) (fun kv f z=>z.1) ⟨rfl,qn,rfl,h3⟩ (aE A3 kk)
   . rintro σ H5 ⟨v,rfl,hl,Fo,W⟩;rw[ao]at Fo W;rw[eZ]at W;exact q1 ps H5 U Fo W
end K63
namespace K63
open PySem L2
variable {P:Program}{w:World}{K:Fg}{mg:Mv}{base:Heap}
open Lcp
def T2(K:Fg):Sp:=fun vs H Q _=>∃(a b:Addr) (xs ys:Ls),vs=[.ref a,.ref b]/\ae K H a (xs.map V.str)/\ae K H b (ys.map V.str)/\Q (.int (fB xs ys)) H
theorem LB:aP [azO,aAk,aAm] [azO,aAk] (aA DU):=aZ
theorem ap0(F:bB K "alike_ahead" DU f fd)(B:b9 mg):aj P w K mg base ak 1 f fd [azO,aAk] (T2 K):=by
 refine F.okL LB ?_
 . intro aw A outer s H vs Q E hr h xX dX;obtain⟨a,b,xs,ys,rfl,hA,hB,q⟩:=h;refine⟨_,(am (aJ (i:=2) LB.nd rfl (Or.inl rfl) aq)
    (am (OM eI (PW.pt (mf (bY zc (pv 2) (dJ gD (by rfl) B.len gA (aa (pv 0) ac)) (bT _)) (mf (bY zc (pv 2) (dJ gD (by rfl) B.len gA (aa (pv 1) ac)) (bT _)) (qZ (bY fw (bJ fR (pv 0) (pv 2) (fun _ _=>rfl)) (bJ fR (pv 1) (pv 2) (fun _ _=>rfl)) (bT _)))))) (av (aJ (i:=2) LB.nd rfl (Or.inl rfl) (aF fc (pv 2) aq))))
    (av (aV (pv 2))))),?_⟩
   refine lw ?_;intro dD sS fE dP;refine⟨fun m σ H'=>∃i:Nat,m=xs.length - i/\i<=xs.length/\σ=[some (.ref a),some (.ref b),some (.int i)]/\H'=H/\fB xs ys=i+fB (xs.drop i) (ys.drop i),⟨_,0,rfl,dG _,rfl,rfl,(GV _).symm⟩,?_⟩;intro m σ H' eX;refine bg ?_;intro tT;obtain⟨i,rfl,hi,rfl,rfl,el⟩:=eX
   first | (refine wO (g:=mh _) ?_;intro eQ sQ) | (refine wO (g:=tW _ _ _) ?_;intro eQ sQ) | skip
   have fin:fB (xs.drop i) (ys.drop i)=0->∃v,([some (V.ref a),some (V.ref b),some (V.int i)]:St)[2]?=some (some v)/\Q v H':=fun z=>by
    rw[z,N5]at el;rw[el]at q;exact⟨_,rfl,q⟩
   refine⟨_,rfl,_,rfl,a,_,rfl,.inl hA,_,_,rfl,rfl,_,rfl,?_⟩;refine bA (fun h=>?_) (fun h=>?_)
   . have h1:=cT h;rw[ao]at h1;refine⟨_,rfl,_,rfl,b,_,rfl,.inl hB,_,_,rfl,rfl,_,rfl,?_⟩;refine bA (fun h=>?_) (fun h=>?_)
     . have h2:=cT h;rw[ao]at h2;obtain⟨x,hx,ex⟩:=zC (xs:=xs) (r:=(i:Int)) (by omega) h1;obtain⟨y,hy,ey⟩:=zC (xs:=ys) (r:=(i:Int)) (by omega) h2;rw[lY]at ex ey;have es:=agC ex ey;refine⟨_,rfl,_,rfl,a,_,_,_,rfl,rfl,hA,hx,_,rfl,_,rfl,b,_,_,_,rfl,rfl,hB,hy,rfl,_,rfl,?_⟩;refine bA (fun h=>?_) (fun h=>?_)
       . have e:x=y:=by have:=cT h;injection this
         rw[al e]at es;refine⟨fun σ' H2=>σ'=[some (.ref a),some (.ref b),some (.int ((i:Int)+1))]/\H2=H',?_,?_⟩
         . rintro σ' H2 ⟨rfl,rfl⟩;exact⟨_,(show xs.length - (i+1)<xs.length - i by omega),i+1,rfl,by omega,by rw[Int.natCast_add];rfl,rfl,by rw[el,es];omega⟩
         . exact⟨_,rfl,_,_,rfl,rfl,rfl,rfl⟩
       . have e:x≠y:=fun e=>h (by rw[e];exact bN rfl);rw[ai e]at es;exact fin es
     . have h2:=Oo (qQ.mpr h);rw[ao]at h2;exact fin (P5 (.inr (by omega)))
   . have h1:=Oo (qQ.mpr h);rw[ao]at h1;exact fin (P5 (.inl (by omega)))
structure Fp(H:Hp)(t l:Addr)(xs ys:Ls):Prop where
 tup:H t=some (.tup [.int (Lcp.fst xs ys),.int (jn xs ys),.ref l])
 lst:H l=some (.lst ((uu xs ys).map V.str))
def T3(K:Fg):Sp:=fun vs H Q _=>∃(a b:Addr) (xs ys:Ls),vs=[.ref a,.ref b]/\ae K H a (xs.map V.str)/\ae K H b (ys.map V.str)/\∀t l H',H t=none->H l=none->ag H H'->Fp H' t l xs ys->Q (.ref t) H'
theorem LC:aP [az2,azP,"start","behind"] [az2,azP] (aA DT):=aZ
theorem ap1(F:bB K "block_of" DT f fd)(B:b9 mg)(xR:aO K mg "alike_ahead" DU LD LF):aj P w K mg base ak 2 f fd [az2,azP] (T3 K):=by
 have T4:aj P w K mg base ak 1 LD LF [azO,aAk] (T2 K):=ap0 xR.u B;have T6:=xR.u.binds2 (l:=[azO,aAk]) (fun _ _ _ _ _ _ _ _=>rfl);refine F.okL LC ?_
 . intro aw A outer s H vs Q E hr h xX dX;obtain⟨a,b,xs,ys,rfl,hA,hB,q⟩:=h;refine⟨_,(am (aJ (i:=2) LC.nd rfl (Or.inl rfl) (aG T4 hr rfl xR T6 (aa (pv 0) (aa (pv 1) ac))))
    (am (aJ (i:=3) LC.nd rfl (Or.inl rfl) (aG T4 hr rfl xR T6 (aa (P4 (nU wH (pv 0) (lg (pv 2)) ri)) (aa (P4 (nU wH (pv 1) (lg (pv 2)) ri)) ac))))
    (av (aV (eV (aa (pv 2) (aa (aF CK (dJ gD (by rfl) B.len gA (aa (pv 0) ac)) (pv 3)) (aa (nU wH (pv 1) (lg (pv 2)) (lg (aF CK (dJ gD (by rfl) B.len gA (aa (pv 1) ac)) (pv 3)))) ac)))))))),?_⟩
   refine lw ?_;intro dD sS fE dP;obtain⟨l1,l2⟩:=P6 xs ys;refine⟨_,rfl,_,rfl,a,b,xs,ys,rfl,hA,hB,?_⟩;refine⟨_,rfl,_,rfl,_,rfl,a,_,rfl,hA,fun p1 H1 n1 s1 e1=>?_⟩;rw[wI,HY (by omega),lY]at e1;refine⟨p1,_,rfl,ae.of e1,fun p2 H2 n2 s2 e2=>?_⟩;rw[Qa]at e2;refine⟨_,rfl,_,rfl,_,rfl,b,_,rfl,ag.seq (s1.trans s2) hB,fun p3 H3 n3 s3 e3=>?_⟩;rw[wI,HY (by omega),lY]at e3;refine⟨p3,_,rfl,ae.of e3,fun p4 H4 n4 s4 e4=>?_⟩;rw[Qa]at e4;have sA:=((s1.trans s2).trans s3).trans s4;refine⟨p2,p4,_,_,rfl,ae.of (s4 _ _ (s3 _ _ e2)),ae.of e4,?_⟩;refine⟨_,rfl,_,rfl,a,_,rfl,.inl (ag.seq sA hA),_,rfl,_,_,rfl,rfl,_,rfl,_,rfl,_,rfl,_,rfl,b,_,rfl,.inl (ag.seq sA hB),_,rfl,_,_,rfl,rfl,_,rfl,b,_,rfl,ag.seq sA hB,fun p5 H5 n5 s5 e5=>?_⟩;refine⟨(by show 3<=sizeLine;decide),fun p6 H6 n6 s6 e6=>?_⟩;have sB:=sA.trans s5;refine q p6 p5 H6 (sB.free n6) (sA.free n5) (sB.trans s6) ⟨?_,?_⟩
   . rw[e6];have e:((xs.map V.str).length:Int) - (fB (xs.drop (fB xs ys)).reverse (ys.drop (fB xs ys)).reverse:Int)=(jn xs ys:Int):=by
      rw[ao];unfold jn;unfold pP Lcp.fst at *;omega
     dsimp only;rw[e];rfl
   . rw[s6 _ _ e5];have e:((ys.map V.str).length:Int) - (fB (xs.drop (fB xs ys)).reverse (ys.drop (fB xs ys)).reverse:Int)=((ys.length - pP xs ys:Nat):Int):=by
      rw[ao];unfold pP Lcp.fst at *;omega
     rw[e,wI,P9 (by omega) (by omega),lY,lY];rfl
def LG:Sp:=fun vs H Q _=>∃(t1 t2:Addr) (a1 b1 a2 b2:Int) (v1 v2:V),vs=[.ref t1,.ref t2]/\H t1=some (.tup [.int a1,.int b1,v1])/\H t2=some (.tup [.int a2,.int b2,v2])/\Q (.bl (decide (b1<=a2))) H
theorem ap2:aP [azV,azP] [azV,azP] (aA Ap):=aZ
theorem T7(F:bB K "is_ahead" Ap f fd):aj P w K mg base ak 1 f fd [azV,azP] LG:=by
 refine F.okL ap2 ?_
 . intro aw A outer s H vs Q E hr h xX dX;obtain⟨t1,t2,a1,b1,a2,b2,v1,v2,rfl,h1,h2,q⟩:=h;refine⟨_,(av (aV (rf ZF (bJ eO (pv 0) aq (fun _ _=>rfl)) (bJ eO (pv 1) aq (fun _ _=>rfl)) (bT _)))),?_⟩;exact⟨_,rfl,t1,_,_,_,rfl,rfl,aX.of h1,rfl,_,rfl,t2,_,_,_,rfl,rfl,aX.of h2,rfl,_,_,rfl,rfl,q⟩
def T8:Sp:=fun vs H Q _=>∃(t1:Addr) (a1 b1:Int) (v1:V),vs=[.ref t1]/\H t1=some (.tup [.int a1,.int b1,v1])/\Q (.bl (decide (a1=b1))) H
theorem ap3:aP [azV] [azV] (aA DW):=aZ
theorem ap4(F:bB K "takes_none" DW f fd):aj P w K mg base ak 1 f fd [azV] T8:=by
 refine F.okL ap3 ?_
 . intro aw A outer s H vs Q E hr h xX dX;obtain⟨t1,a1,b1,v1,rfl,h1,q⟩:=h;refine⟨_,(av (aV (rf fw (bJ eO (pv 0) aq (fun _ _=>rfl)) (bJ eO (pv 0) aq (fun _ _=>rfl)) (bT _)))),?_⟩;rw[←show decide (V.int a1=V.int b1)=decide (a1=b1) from Cr.mpr ⟨fun h=>by injection h,fun h=>by rw[h]⟩]at q;exact⟨_,rfl,t1,_,_,_,rfl,rfl,aX.of h1,rfl,_,rfl,t1,_,_,_,rfl,rfl,aX.of h1,rfl,rfl,q⟩
def T9:Sp:=fun vs H Q _=>∃(t1 t2:Addr) (a1 b1 a2 b2:Int) (v1 v2:V),vs=[.ref t1,.ref t2]/\H t1=some (.tup [.int a1,.int b1,v1])/\H t2=some (.tup [.int a2,.int b2,v2])/\Q (.bl (C5 a1 b1 a2 b2)) H
theorem ap5:aP [azV,azP] [azV,azP] (aA DX):=aZ
theorem ap6(F:bB K "are_apart" DX f fd)(mQ:aO K mg "is_ahead" Ap xS xT)(xU:aO K mg "takes_none" DW LH LI) :
 aj P w K mg base ak 2 f fd [azV,azP] T9:=by
 have Fq:aj P w K mg base ak 1 xS xT [azV,azP] LG:=T7 mQ.u;have Fs:=mQ.u.binds2 (l:=[azV,azP]) (fun _ _ _ _ _ _ _ _=>rfl);have Ua:aj P w K mg base ak 1 LH LI [azV] T8:=ap4 xU.u;have Ub:=xU.u.binds1 (l:=[azV]) (fun _ _ _ _ _ _ _=>rfl);refine F.okL ap5 ?_
 . intro aw A outer s H vs Q E hr h xX dX;obtain⟨t1,t2,a1,b1,a2,b2,v1,v2,rfl,h1,h2,q⟩:=h;refine⟨_,(C1 (fun σ H'=>σ=[some (.ref t1),some (.ref t2)]/\H'=H/\¬((a1=b1/\a2=b2)/\a1=a2)) (cO (PW.pt (mf (kS (aG Ua hr rfl xU Ub (aa (pv 0) ac))) (mf (kS (aG Ua hr rfl xU Ub (aa (pv 1) ac))) (qZ (bY fw (bJ eO (pv 0) aq (fun _ _=>rfl)) (bJ eO (pv 1) aq (fun _ _=>rfl)) (bT _))))))
    (av (aV pE)) dA)
    (av (aV (OF (aG Fq hr rfl mQ Fs (aa (pv 0) (aa (pv 1) ac))) (Hd (aG Fq hr rfl mQ Fs (aa (pv 1) (aa (pv 0) ac)))))))),?_⟩
   refine⟨?_,?_⟩
   . refine⟨_,rfl,t1,a1,b1,v1,rfl,h1,?_⟩;refine⟨_,rfl,bA (fun z1=>?_) (fun z1=>?_)⟩
     . refine⟨_,rfl,t2,a2,b2,v2,rfl,h2,?_⟩;refine⟨_,rfl,bA (fun z2=>?_) (fun z2=>?_)⟩
       . refine⟨_,rfl,t1,_,_,_,rfl,rfl,aX.of h1,rfl,_,rfl,t2,_,_,_,rfl,rfl,aX.of h2,rfl,rfl,_,rfl,?_⟩;refine bA (fun z3=>?_) (fun z3=>?_)
         . have e3:a1=a2:=by have:=cT z3;injection this
           unfold C5 at q;rw[al ⟨⟨cT z1,cT z2⟩,e3⟩]at q;exact q
         . exact⟨rfl,rfl,fun e=>z3 (bN (eN V.int e.2))⟩
       . exact gk ⟨rfl,rfl,fun e=>z2 (bN e.1.2)⟩
     . exact gk ⟨rfl,rfl,fun e=>z1 (bN e.1.1)⟩
   . rintro σ' H' ⟨rfl,rfl,hn⟩;unfold C5 at q;rw[ai hn]at q;refine⟨_,rfl,_,rfl,t1,t2,a1,b1,a2,b2,v1,v2,rfl,h1,h2,?_⟩;refine⟨_,rfl,bA (fun z=>?_) (fun z=>?_)⟩
     . rw[z,Wl]at q;exact q
     . rw[qQ.mpr z,Bool.false_or]at q;exact⟨_,rfl,_,rfl,t2,t1,a2,b2,a1,b1,v2,v1,rfl,h2,h1,q⟩
def Uc:Sp:=fun vs H Q _=>∃(a t1 l1 t2 l2:Addr) (b x y:Ls),vs=[.ref a,.ref t1,.ref t2]/\H a=some (.lst (b.map V.str))/\Fp H t1 l1 b x/\Fp H t2 l2 b y/\b.length<=20/\x.length<=20/\y.length<=20/\dL H (.lst ((uw b x y).map V.str)) Q
theorem ap7:aP [az2,azX,azS] [az2,azX,azS] (aA DY):=aZ
theorem lM{l:Ls}{n:Nat}(h:l.length<=n):(l.map V.str).length<=n:=by rw[ao];exact h
theorem lA{a b:Ls}{m n:Nat}(ha:a.length<=m)(hb:b.length<=n):(a++b).length<=m+n:=by rw[bj];exact Nat.add_le_add ha hb
theorem lT{l:Ls}{k n:Nat}(h:l.length<=n):(l.take k).length<=n:=by rw[eG];exact cu (Nat.min_le_right _ _) h
theorem lD{l:Ls}{k n:Nat}(h:l.length<=n):(l.drop k).length<=n:=by rw[nw];exact cu (Nat.sub_le _ _) h
theorem xV{b x:Ls}{n:Nat}(h:x.length<=n):(uu b x).length<=n:=lT (lD h)
theorem lS{p q m n k:Nat}(h1:p<=m)(h2:q<=n)(h:m+n<=k:=by decide):p+q<=k:=cu (Nat.add_le_add h1 h2) h
theorem ap8(F:bB K "with_both" DY f fd):aj P w K mg base ak 1 f fd [az2,azX,azS] Uc:=by
 refine F.okL ap7 ?_
 . intro aw A outer s H vs Q E hr h xX dX;obtain⟨a,t1,l1,t2,l2,b,x,y,rfl,hA,⟨LJ,hL1⟩,⟨A6,hL2⟩,sT,A7,Ud,q⟩:=h;refine⟨_,(av (aV (aF wG (aF wG (aF wG (aF wG (nU wH (pv 0) ri (lg (bJ eO (pv 1) aq (fun _ _=>rfl)))) (bJ eO (pv 1) aq (fun _ _=>rfl))) (nU wH (pv 0) (lg (bJ eO (pv 1) aq (fun _ _=>rfl))) (lg (bJ eO (pv 2) aq (fun _ _=>rfl))))) (bJ eO (pv 2) aq (fun _ _=>rfl))) (nU wH (pv 0) (lg (bJ eO (pv 2) aq (fun _ _=>rfl))) ri)))),?_⟩;have m1:=P7 b x;have m2:=P7 b y;refine⟨_,rfl,_,rfl,t1,_,_,_,rfl,rfl,aX.of LJ,rfl,_,rfl,a,_,rfl,ae.of hA,fun p1 H1 n1 s1 e1=>?_⟩;rw[wI,agE (by omega),lY]at e1;refine⟨_,rfl,t1,_,_,_,rfl,rfl,aX.of (s1 _ _ LJ),rfl,p1,l1,_,_,rfl,rfl,e1,s1 _ _ hL1,lq (lS (lM (lT sT)) (lM (xV A7))),fun p2 H2 n2 s2 e2=>?_⟩;rw[C4]at e2;have sB:=s1.trans s2;refine⟨_,rfl,_,rfl,t1,_,_,_,rfl,rfl,aX.of (sB _ _ LJ),rfl,_,rfl,_,rfl,t2,_,_,_,rfl,rfl,aX.of (sB _ _ A6),rfl,_,rfl,a,_,rfl,ae.of (sB _ _ hA),fun p3 H3 n3 s3 e3=>?_⟩;rw[wI,P9 (by omega) (by omega),lY,lY]at e3;refine⟨p2,p3,_,_,rfl,rfl,s3 _ _ e2,e3,lq (lS (lM (lA (lT sT) (xV A7))) (lM (lT (lD sT)))),fun p4 H4 n4 s4 e4=>?_⟩;rw[C4]at e4;have sC:=(sB.trans s3).trans s4;refine⟨_,rfl,t2,_,_,_,rfl,rfl,aX.of (sC _ _ A6),rfl,p4,l2,_,_,rfl,rfl,e4,sC _ _ hL2,lq (lS (lM (lA (lA (lT sT) (xV A7)) (lT (lD sT)))) (lM (xV Ud))),fun p5 H5 n5 s5 e5=>?_⟩;rw[C4]at e5;have sD:=sC.trans s5;refine⟨_,rfl,_,rfl,t2,_,_,_,rfl,rfl,aX.of (sD _ _ A6),rfl,_,rfl,a,_,rfl,ae.of (sD _ _ hA),fun p6 H6 n6 s6 e6=>?_⟩;rw[wI,HY (by omega),lY]at e6;refine⟨p5,p6,_,_,rfl,rfl,s6 _ _ e5,e6,lq (lS (lM (lA (lA (lA (lT sT) (xV A7)) (lT (lD sT))) (xV Ud))) (lM (lD sT))),fun p7 H7 n7 s7 e7=>?_⟩;rw[C4]at e7;have sE:=sD.trans s6;exact q p7 H7 (sE.free n7) (sE.trans s7) e7
def Ue:Sp:=fun vs H Q _=>∃(a o n:Addr) (b x y:Ls),vs=[.ref a,.ref o,.ref n]/\H a=some (.lst (b.map V.str))/\H o=some (.lst (x.map V.str))/\H n=some (.lst (y.map V.str))/\my b/\my x/\my y /\
 ∀t l r H',H t=none->H l=none->(∀l2,r=.ref l2->H l2=none/\l2≠l)->ag H H'->agR H' t l r (merge b x y)->Q (.ref t) H'
theorem LK:aP [az2,azT,"new","own_block","new_block"] [az2,azT,"new"] (aA DZ):=aZ
theorem aqb(F:bB K "put_together" DZ f fd)(B:b9 mg)(xW:aO K mg "block_of" DT LL LO)
 (A8:aO K mg "are_apart" DX LM LP) (mQ:aO K mg "is_ahead" Ap xS xT) (xY:aO K mg "with_both" DY LN LQ)
 (Uf:aj P w K mg base ak 2 LL LO [az2,azP] (T3 K)) (aqc:aj P w K mg base ak 2 LM LP [azV,azP] T9):aj P w K mg base ak 3 f fd [az2,azT,"new"] Ue:=by
 have Fq:aj P w K mg base ak 1 xS xT [azV,azP] LG:=T7 mQ.u;have Fs:=mQ.u.binds2 (l:=[azV,azP]) (fun _ _ _ _ _ _ _ _=>rfl);have aqd:=A8.u.binds2 (l:=[azV,azP]) (fun _ _ _ _ _ _ _ _=>rfl);have Ug:=xW.u.binds2 (l:=[az2,azP]) (fun _ _ _ _ _ _ _ _=>rfl);have Uh:aj P w K mg base ak 1 LN LQ [az2,azX,azS] Uc:=ap8 xY.u;have Ui:=xY.u.binds3 (l:=[az2,azX,azS]) (fun _ _ _ _ _ _ _ _ _=>rfl);refine F.okL LK ?_
 . intro aw A outer s H vs Q E hr h xX dX;obtain⟨a,o,n,b,x,y,rfl,hA,hO,hN,lb,lx,ly,q⟩:=h;have dC:ce 1 _:=hr.mono (by decide);have hu:=hr.units;refine⟨_,(am (cO (bY (C0 hu) (pv 1) (pv 0) (bT _))
    (av (aV (eV (aa (eK mx (by rfl) B.list jP (aa (pv 2) ac)) (aa kR ac))))) dA)
    (C1 (fun σ H'=>σ=[some (.ref a),some (.ref o),some (.ref n),none,none]/\H'=H/\¬(y=b\/x=y)) (cO (PW.pt (G8 (bY (C0 hu) (pv 2) (pv 0) (bT _)) (G7 (bY (C0 hu) (pv 1) (pv 2) (bT _)))))
    (av (aV (eV (aa (eK mx (by rfl) B.list jP (aa (pv 1) ac)) (aa kR ac))))) dA)
    (am (aJ (i:=3) LK.nd rfl (Or.inl rfl) (aG Uf hr rfl xW Ug (aa (pv 0) (aa (pv 1) ac))))
    (am (aJ (i:=4) LK.nd rfl (Or.inl rfl) (aG Uf hr rfl xW Ug (aa (pv 0) (aa (pv 2) ac))))
    (am (cO (G9 (kS (aG aqc hr rfl A8 aqd (aa (pv 3) (aa (pv 4) ac)))))
    (av (aV (eV (aa (eK mx (by rfl) B.list jP (aa (pv 2) ac)) (aa (eK mx (by rfl) B.list jP (aa (pv 1) ac)) ac))))) dA)
    (am (cO (kS (aG Fq dC rfl mQ Fs (aa (pv 3) (aa (pv 4) ac))))
    (av (aV (eV (aa (aG Uh dC rfl xY Ui (aa (pv 0) (aa (pv 3) (aa (pv 4) ac)))) (aa kR ac))))) dA)
    (av (aV (eV (aa (aG Uh dC rfl xY Ui (aa (pv 0) (aa (pv 4) (aa (pv 3) ac)))) (aa kR ac))))))))))),?_⟩
   refine mC ?_;intro dD sS dP;have oB:=HZ 8 lb.all;have oX:=HZ 8 lx.all;have oY:=HZ 8 ly.all;have one:∀(m:Ls) (p1:Addr) (H0 H1:Hp),merge b x y=(m,none)->ag H H0->H0 p1=none->ag H0 H1->H1 p1=some (.lst (m.map V.str))->[V.ref p1,V.non].length<=sizeLine/\dL H1 (.tup [.ref p1,.non]) Q:=fun m p1 H0 H1 em s0 n1 s1 e1=>by
    refine⟨by show 2<=sizeLine;decide,fun p2 H2 n2 s2 e2=>?_⟩;refine q p2 p1 .non H2 ((s0.trans s1).free n2) (s0.free n1) (fun l2 e=>by cases e) ((s0.trans s1).trans s2) ?_;rw[em];exact⟨e2,s2 _ _ e1,rfl⟩
   refine⟨_,rfl,_,rfl,dS x,dS b,pQ (ae.of hO),pQ (ae.of hA),oX,oB,fun b1 xM=>?_⟩;rw[Ia xM];refine⟨_,rfl,bA (fun h=>?_) (fun h=>?_)⟩
   . refine⟨_,rfl,n,_,rfl,.inl (ae.of hN),fun p1 H1 n1 s1 e1=>?_⟩;exact one y p1 H H1 (agI (cT h)) (ag.refl _) n1 s1 e1
   have Ft:x≠b:=Oo (qQ.mpr h);refine⟨?_,?_⟩
   . refine⟨_,rfl,_,rfl,dS y,dS b,pQ (ae.of hN),pQ (ae.of hA),oY,oB,fun b2 iG=>?_⟩;rw[Ia iG];have fin:(y=b\/x=y)->∃v,([some (V.ref a),some (.ref o),some (.ref n),none,none]:St)[1]?=some (some v)/\∃p ys,([v]:Lv)=[.ref p]/\(ae K H p ys\/aX K H p ys)/\dL H (.lst ys) fun v H1=>[v,V.non].length<=sizeLine/\dL H1 (.tup [v,.non]) Q:=fun hc=>
      ⟨_,rfl,o,_,rfl,.inl (ae.of hO),fun p1 H1 n1 s1 e1=>one x p1 H H1 (agJ Ft hc) (ag.refl _) n1 s1 e1⟩
     refine⟨_,rfl,bA (fun h2=>?_) (fun h2=>?_)⟩
     . exact gY (fin (.inl (cT h2)))
     . refine⟨_,rfl,_,rfl,dS x,dS y,pQ (ae.of hO),pQ (ae.of hN),oX,oY,fun b3 Fu=>?_⟩;rw[Ia Fu];refine⟨_,rfl,bA (fun h3=>?_) (fun h3=>?_)⟩
       . exact fin (.inr (cT h3))
       . exact⟨rfl,rfl,fun e=>e.elim (fun e=>h2 (bN e)) (fun e=>h3 (bN e))⟩
   rintro σ' H' ⟨rfl,rfl,hc⟩;refine⟨_,rfl,_,rfl,a,o,b,x,rfl,ae.of hA,ae.of hO,fun t1 l1 H1 nt1 nl1 s1 fK=>?_⟩;refine⟨_,rfl,_,rfl,a,n,b,y,rfl,ae.of (s1 _ _ hA),ae.of (s1 _ _ hN),fun t2 l2 H2 nt2 nl2 s2 sU=>?_⟩;have sA:=s1.trans s2;have fK:Fp H2 t1 l1 b x:=⟨s2 _ _ fK.tup,s2 _ _ fK.lst⟩;refine⟨_,rfl,_,rfl,t1,t2,_,_,_,_,_,_,rfl,fK.tup,sU.tup,?_⟩;refine⟨_,rfl,bA (fun h4=>?_) (fun h4=>?_)⟩
   . have ap:apart b x y=false:=by unfold apart;simpa using h4
     refine⟨_,rfl,n,_,rfl,.inl (ae.of (sA _ _ hN)),fun p5 H5 n5 s5 e5=>?_⟩;refine⟨_,rfl,o,_,rfl,.inl (ae.of (s5 _ _ (sA _ _ hO))),fun p6 H6 n6 s6 e6=>?_⟩;refine⟨(by show 2<=sizeLine;decide),fun p7 H7 n7 s7 e7=>?_⟩;have sB:=(sA.trans s5).trans s6;refine q p7 p5 (.ref p6) H7 (sB.free n7) (sA.free n5) (fun l2 e=>?_) (sB.trans s7) ?_
     . cases e;exact⟨(sA.trans s5).free n6,(aL e5 n6).symm⟩
     . rw[agK Ft hc ap];exact⟨e7,s7 _ _ (s6 _ _ e5),_,rfl,s7 _ _ e6⟩
   . have ap:apart b x y=true:=by unfold apart;simpa using h4
     refine⟨_,rfl,_,rfl,t1,t2,_,_,_,_,_,_,rfl,fK.tup,sU.tup,?_⟩;refine⟨_,rfl,bA (fun h5=>?_) (fun h5=>?_)⟩
     . have h5:=cT h5;refine⟨_,rfl,_,rfl,_,rfl,a,t1,l1,t2,l2,b,x,y,rfl,sA _ _ hA,fK,sU,lb.len,lx.len,ly.len,fun p8 H8 n8 s8 e8=>?_⟩;exact one _ p8 H2 H8 (agL Ft hc ap (by omega)) sA n8 s8 e8
     . have h5:=Oo (qQ.mpr h5);refine⟨_,rfl,_,rfl,_,rfl,a,t2,l2,t1,l1,b,y,x,rfl,sA _ _ hA,sU,fK,lb.len,ly.len,lx.len,fun p8 H8 n8 s8 e8=>?_⟩;exact one _ p8 H2 H8 (agM Ft hc ap (by omega)) sA n8 s8 e8
open PySem.Spec
variable {P:Program}{w:World}{K:Fg}{mg:Mv}{base:Heap}
theorem de.du{H H':Hp}{kv:ar×V}{f:Str×Ls}(h:de H H' kv f):bM H' kv f:=h.elim fun a aqg=>aqg.elim fun l aqh=>aqh.elim fun b aqi=>aqi.elim fun _ c=>⟨a,l,b,c⟩
def qy:Str:=".own"
def fL(o:Option (Ls))(p:Str)(b m:Ls):Tr:=
 match o with
 | none=>[(p,m)]
 | some br=>(p,(merge b m br).1)::(match (merge b m br).2 with | none=>[] | some z=>[(p++qy,z)])
def Look(tr:Tr)(p:Str):Option (Ls)->Prop
 | none=>p∉tr.map (·.1)
 | some ls=>(p,ls)∈tr
def LR:Sp:=fun vs H Q _=>∃(p:Str) (t l1 l2 d:Addr) (kvs:List (ar×V)) (tr:Tr) (b m:Ls) (o:Option (Ls)),vs=[.str p,.ref t,.ref d]/\H t=some (.tup [.ref l1,.ref l2])/\H l1=some (.lst (b.map V.str))/\H l2=some (.lst (m.map V.str))/\H d=some (.dK kvs)/\Paired (bM H) kvs tr /\
 (tr.map (·.1)).Nodup/\Look tr p o/\my b/\my m/\(∀ls,o=some ls->my ls)/\p.length<=60 /\
 ∀e H' more,H e=none->ag H H'->H' e=some (.dK more)->Paired (de H H') more (fL o p b m)->Q (.ref e) H'
theorem Fw:aP [azC,az1,aAd,"mine","together",azJ] [azC,az1,aAd] (aA Ef):=aZ
theorem aqj(F:bB K "files_of_change" Ef f fd)(B:b9 mg)(A9:aO K mg "put_together" DZ LS LU)(aqk:aj P w K mg base ak 3 LS LU [az2,azT,"new"] Ue) :
 aj P w K mg base ak 4 f fd [azC,az1,aAd] LR:=by
 have aql:=A9.u.binds3 (l:=[az2,azT,"new"]) (fun _ _ _ _ _ _ _ _ _=>rfl);refine F.okL Fw ?_
 . intro aw A outer s H vs Q E hr h xX dX;obtain⟨p,t,l1,l2,d,kvs,tr,b,m,o,rfl,ht,hb,hm,hd,pr,nd,lo,Lb,Lm,Lo,p60,q⟩:=h;have hu:=hr.units;have hk:∀kv f,bM H kv f->kv.1=Sum.inr f.1:=fun kv f z=>z.1;have z0:cy [V.ref l1,V.ref l2] 0=some (V.ref l1):=rfl;have z1:cy [V.ref l1,V.ref l2] 1=some (V.ref l2):=rfl;have lo4:qy.length=4:=by decide +kernel
   refine⟨_,(am (aJ (i:=3) Fw.nd rfl (Or.inl rfl) (bJ eO (pv 1) aq (fun _ _=>rfl)))
    (am (cO (ww (Px hu (pv 0) (pv 2)) (by rfl))
     (av (aV (PF (PB (pv 0) (eK mx (by rfl) B.list jP (aa (pv 3) ac)) Pz) rfl rfl (by intro z;cases z) (by decide)))) dA)
    (am (aJ (i:=4) Fw.nd rfl (Or.inl rfl) (aG aqk hr rfl A9 aql (aa (bJ eO (pv 1) aq (fun _ _=>rfl)) (aa (pv 3) (aa (rn hu (pv 2) (pv 0) (fun _ _=>rfl)) ac)))))
    (am (aJ (i:=5) Fw.nd rfl (Or.inl rfl) (PF (PB (pv 0) (bJ eO (pv 4) aq (fun _ _=>rfl)) Pz) rfl rfl (by intro z;cases z) (by decide)))
    (am (cO (bY OY (bJ eO (pv 4) aq (fun _ _=>rfl)) kR (bT _))
     (av (jm hu (pv 5) (zJ (zI (pv 0)) bV) (bJ eO (pv 4) aq (fun _ _=>rfl)) rfl)) dA)
    (av (aV (pv 5)))))))),?_⟩
   refine wN ?_;intro dD sS Ke EM oH fE dP;refine⟨_,rfl,t,_,_,_,rfl,rfl,aX.of ht,z1,?_⟩;refine⟨_,rfl,_,rfl,d,_,rfl,c8.k (k:=.inr p) hd,_,rfl,?_⟩;cases o with
   | none=>
    rw[DG hk pr lo];refine gY ?_;refine fun e he=>⟨_,rfl,_,rfl,l2,_,rfl,.inl (ae.of (fU he _ _ hm)),fun q1 H2 n2 s2 e2=>?_⟩;have sH:=(fU (o:=.dK []) he).trans s2;have ee:=s2 _ _ (aH (H:=H) (a:=e) (o:=.dK []));refine⟨ee,[(.inr p,.ref q1)],rfl,(by show 1<=15;decide),?_⟩;exact q e _ [(.inr p,.ref q1)] he (fV sH he) aH (.cons ⟨rfl,q1,rfl,(iA n2).2,aB e2 (iA n2).1⟩ .nil)
   | some ls=>
    obtain⟨v,yZ,g1,g2,_,lb,rfl,g3⟩:=rO hk pr (gf (f:=(·.1)) lo);have els:=oE nd lo g2;subst els;rw[g1];refine gk ?_;refine⟨_,rfl,t,_,_,_,rfl,rfl,aX.of ht,z0,_,rfl,_,rfl,_,rfl,d,.ref lb,rfl,(by rw[←g1];exact c8.k (k:=.inr p) hd),?_⟩;refine⟨l1,l2,lb,b,m,ls,rfl,hb,hm,g3,Lb,Lm,Lo ls rfl,fun t2 l r H3 nt nl nr s3 pa=>?_⟩;refine fun e he=>⟨_,rfl,_,rfl,t2,_,_,_,rfl,rfl,aX.of (fU he _ _ pa.tup),(rfl:cy [V.ref l,r] 0=some (V.ref l)),?_⟩;refine⟨aH,[(.inr p,.ref l)],rfl,(by show 1<=15;decide),?_⟩;have Ba:=s3.free he;have sH:ag H (ah (ah H3 e (.dK [])) e (.dK (mr [] [(.inr p,.ref l)]))):=fV (fV s3 Ba) Ba;have Fx:∀{b:Addr}{z:HO},H3 b=some z->(ah (ah H3 e (.dK [])) e (.dK (mr [] [(.inr p,.ref l)]))) b=some z:=fun {b z} h=>aB (aB h (aL h he)) (aL h he);have pt:=Fx pa.tup;have pl:=Fx pa.lst;have pe:(ah (ah H3 e (.dK [])) e (.dK (mr [] [(.inr p,.ref l)]))) e=some (.dK [(.inr p,.ref l)]):=aH;refine⟨_,rfl,t2,_,_,r,rfl,rfl,aX.of pt,rfl,rfl,_,rfl,?_⟩;have bes:=pa.bes
    revert bes
    cases Uj:(merge b m ls).2 with
    | none=>
     intro bes;have bes:r=.non:=bes;subst bes;refine ae0 rfl ?_;refine⟨_,rfl,q e _ _ Ba sH pe ?_⟩;unfold fL;dsimp only;rw[Uj];exact .cons ⟨rfl,l,rfl,nl,pl⟩ .nil
    | some z=>
     intro bes;obtain⟨lz,rfl,hz⟩:=bes;refine agH (fun e=>by cases e) ?_;have pz:=Fx hz;have ro:p++Str.ofString ".own"=p++qy:=rfl;have lo5:(Str.ofString ".own").length=4:=lo4;refine⟨_,rfl,t2,_,_,_,rfl,rfl,aX.of pt,(rfl:cy [V.ref l,V.ref lz] 1=some (V.ref lz)),_,rfl,_,rfl,p,rfl,jZ (by omega),p,rfl,jZ (by omega),Str.ofString ".own",rfl,fit (by omega) (by omega),?_⟩;refine⟨e,_,rfl,fT.k (k:=.inr (p++qy)) pe (by show 1<sizeLine;decide),?_⟩;have cY:¬(Sum.inr p:ar)=Sum.inr (p++qy):=by
      intro z;have z:=eN Str.length (nu z);rw[jY]at z;omega
     refine⟨_,rfl,q e _ _ Ba (fV sH Ba) aH ?_⟩;rw[HG _ (by rw[iW cY];rfl)];unfold fL;dsimp only;rw[Uj];exact .cons ⟨rfl,l,rfl,nl,aB pl (aK pl pe (by intro z;cases z))⟩ (.cons ⟨rfl,lz,rfl,(nr lz rfl).1,aB pz (aK pz pe (by intro z;cases z))⟩ .nil)
def iJ{β:Type}(tr:List (Str×β))(p:Str):Option β:=(tr.find? fun f=>decide (f.1=p)).map (·.2)
theorem aqo{β:Type}{tr:List (Str×β)}{p:Str}(h:iJ tr p=none):p∉tr.map (·.1):=by
 unfold iJ at h;rw[axP,Wu]at h;intro hm;obtain⟨f,hf,e⟩:=cD.mp hm;exact h f hf (bN e)
theorem LV{β:Type}{tr:List (Str×β)}{p:Str}{y:β}(h:iJ tr p=some y):(p,y)∈tr:=by
 unfold iJ at h;rw[axI]at h;obtain⟨f,hf,e⟩:=h;have h1:=List.find?_some hf;have h2:=List.mem_of_find?_eq_some hf;have h1:f.1=p:=cT h1;rw[←h1,←e];exact h2
theorem aqp(tr:Tr)(p:Str):Look tr p (iJ tr p):=by
 cases h:iJ tr p with
 | none=>exact aqo h
 | some y=>exact LV h
def putAll(tr more:Tr):Tr:=more.foldl (fun acc f=>bI acc f.1 f.2) tr
theorem aqq{F:ar×V->Str×Ls->Prop}(hk:∀kv f,F kv f->kv.1=Sum.inr f.1){more:List (ar×V)}{ms:Tr}(h:Paired F more ms):∀{kvs:List (ar×V)}{tr:Tr},Paired F kvs tr->Paired F (mr kvs more) (putAll tr ms):=by
 induction h with
 | nil=>exact fun h=>h
 | @cons kv f more ms r t ih=>
  intro kvs tr hp;have e:=hk _ _ r;have:Paired F (cz kvs kv.1 kv.2) (bI tr f.1 f.2):=by
   rw[e];exact jv hk (by rw[←e];exact r) hp
  exact ih this
theorem aqr{more:Tr}:∀{tr:Tr},(tr.map (·.1)).Nodup->((putAll tr more).map (·.1)).Nodup:=by
 induction more with
 | nil=>exact fun h=>h
 | cons f more ih=>exact fun h=>ih (lE h)
theorem aqs(more:Tr):∀tr:Tr,(putAll tr more).length<=tr.length+more.length:=by
 induction more with
 | nil=>exact fun tr=>aI _
 | cons f more ih=>
  intro tr;have h1:=ih (bI tr f.1 f.2);have h2:=j7 tr f.1 f.2;show(putAll (bI tr f.1 f.2) more).length<=_;rw[cg];omega
theorem Uk(o:Option (Ls))(p:Str)(b m:Ls):(fL o p b m).length<=2:=by
 unfold fL;cases o with
 | none=>exact tH 1
 | some br=>
  dsimp only;rw[cg];split
  . exact tH 1
  . exact aI 2
def iK(bu:Tr)(ow:Ow):Tr:=ow.foldl (fun tr e=>putAll tr (fL (iJ bu e.1) e.1 e.2.1 e.2.2)) bu
theorem aqt(bu:Tr)(ow:Ow)(e:Str×(Ls×Ls)):iK bu (ow++[e])=putAll (iK bu ow) (fL (iJ bu e.1) e.1 e.2.1 e.2.2):=by
 unfold iK;rw[qT];rfl
end K63
namespace K63
open PySem L2 PySem.Spec PyProof.Rows
open HT (At cb gG)
variable {P:Program}{w:World}{K:Fg}{mg:Mv}{base:Heap}
def kC(c:Str):Str:=Str.ofString "="++c
theorem aqu{a b:Str}(h:kC a=kC b):a=b:=by
 have e:=eN (fun z:Str=>z.cps.toList) h;have e1:∀x:Str,(kC x).cps.toList=(Str.ofString "=").cps.toList++x.cps.toList:=fun x=>by
  show((Str.ofString "=").cps++x.cps).toList=_;simp
 simp only[e1]at e;have e2:=List.append_cancel_left e;have ext:∀x y:Str,x.cps.toList=y.cps.toList->x=y:=fun⟨⟨x⟩⟩ ⟨⟨y⟩⟩ h=>by
  have h:x=y:=h;rw[h]
 exact ext _ _ e2
theorem i9.off{H:Hp}{v:V}{p:cf}{L:List Addr}(hL:∀b∈L,∀o,H b=some o->(∀c d f,o≠.ins c d f)/\(∀vs,o≠.tup vs)/\∀vs,o≠.lst vs)(h:i9 C H v p):i9 C (msk L H) v p:=by
 obtain⟨a,dx,fl,rk,m,pf,pn,ps,po,xs,e,h1,h2,h3,h4,h5,h6,h7⟩:=h;have t:∀{b:Addr}{vs:Lv},H b=some (.tup vs)->msk L H b=some (.tup vs):=fun e=>cJ (fun z=>(hL _ z _ e).2.1 _ rfl) e;have l:∀{b:Addr}{vs:Lv},H b=some (.lst vs)->msk L H b=some (.lst vs):=fun e=>cJ (fun z=>(hL _ z _ e).2.2 _ rfl) e;exact⟨a,dx,fl,rk,m,pf,pn,ps,po,xs,e,cJ (fun z=>(hL _ z _ h1).1 _ _ _ rfl) h1,h2,t h3,l h4,aE h5 fun _ _ aqv=>aqv.elim fun t' aqw=>aqw.elim fun l' aqx=>aqx.elim fun x1 aqy=>aqy.elim fun x2 x3=>⟨t',l',x1,t x2,l x3⟩,l h6,h7.1,l h7.2.1,l h7.2.2⟩
theorem aD.put{H:Hp}{lp:Pos}{qu:Str}{ks:List (ar×V)}{o:HO}(hd:H d=some (.dK ks))(h:aD H Pt lp qu):aD (ah H d o) Pt lp qu:=by
 have k:∀{b:Addr}{φ:Heap->Prop},H b=some (.ext φ)->ah H d o b=some (.ext φ):=fun e=>aB e (aK e hd (by intro z;cases z))
 rcases h with z | ⟨c',z1,z2⟩
 . exact .inl (k z)
 . exact .inr ⟨c',k z1,k z2⟩
theorem Ul(bu:Tr)(ow:Ow):(iK bu ow).length<=bu.length+2 * ow.length:=by
 have key:∀(ow:Ow) (tr:Tr),(ow.foldl (fun tr e=>putAll tr (fL (iJ bu e.1) e.1 e.2.1 e.2.2)) tr).length<=tr.length+2 * ow.length:=by
  intro ow
  induction ow with
  | nil=>exact fun tr=>aI _
  | cons e ow ih=>
   intro tr;have h1:=ih (putAll tr (fL (iJ bu e.1) e.1 e.2.1 e.2.2));have h2:=aqs (fL (iJ bu e.1) e.1 e.2.1 e.2.2) tr;have h3:=Uk (iJ bu e.1) e.1 e.2.1 e.2.2;rw[l8,cg];omega
 exact key ow bu
def LW(ow:Ow):Prop:=∀e∈ow,e.1.length<=60/\my e.2.1/\my e.2.2
end K63
namespace K63
open PySem L2 PySem.Spec PyProof.Rows
theorem qz{α:Type}{l:List α}{i:Nat}{x:α}(h:l[i]?=some x):l.take (i+1)=l.take i++[x]:=by rw[gT,h];rfl
theorem aqz{x:Str}(h:dW x):∀c∈x.cps.toList,c≠46:=fun c hc=>by
 obtain⟨ps,rfl,_,_,hn⟩:=h
 rcases EA hc with z | ⟨p,hp,z⟩
 . intro e;rw[e]at z;exact absurd z (by decide +kernel)
 . have:=(hn p hp).az c z;omega
theorem LX{x y:Str}(h:dW x):x≠y++qy:=fun e=>by
 refine aqz h 46 ?_ rfl;rw[e,mH];exact eF _ (by decide +kernel)
theorem aqA{a b:Str}(h:a++qy=b++qy):a=b:=by
 have e:=eN (fun z:Str=>z.cps.toList) h;simp only[mH]at e;have e2:=List.append_cancel_right e;have ext:∀x y:Str,x.cps.toList=y.cps.toList->x=y:=fun⟨⟨x⟩⟩ ⟨⟨y⟩⟩ h=>by
  have h:x=y:=h;rw[h]
 exact ext _ _ e2
theorem Um:∀(more tr:Tr) (k:Str),(more.map (·.1)).Nodup->look (putAll tr more) k=(look more k).or (look tr k)
 | [],tr,k,_=>rfl
 | f::more,tr,k,nd=>by
  rw[bL,qN]at nd;have ih:=Um more (bI tr f.1 f.2) k nd.2;show look (putAll (bI tr f.1 f.2) more) k=_;rw[ih,Fh,jL]
  by_cases e:f.1=k
  . rw[al e,al e,fH.mpr (by rw[←e];exact nd.1)];rfl
  . rw[ai e,ai e]
theorem Uo{o:Option (Ls)}{p:Str}{b m:Ls}{k:Str}(h:k∈(fL o p b m).map (·.1)):k=p\/k=p++qy:=by
 unfold fL at h;cases o with
 | none=>exact .inl (bw.mp h)
 | some br=>
  dsimp only at h;rw[bL]at h
  rcases aY.mp h with z | z
  . exact .inl z
  . split at z
    . cases z
    . exact .inr (bw.mp z)
theorem Up{o:Option (Ls)}{p:Str}{b m:Ls}(hp:dW p):((fL o p b m).map (·.1)).Nodup:=by
 unfold fL;cases o with
 | none=>simp
 | some br=>
  dsimp only;rw[bL,qN];split
  . simp
  . refine⟨fun z=>LX hp (bw.mp z),by simp⟩
theorem LY(g:Str×(Ls×Ls)->Tr):∀(ow:Ow) (c:Tr),(∀e∈ow,((g e).map (·.1)).Nodup)->look (ow.foldl (fun tr e=>putAll tr (g e)) c)=ow.foldl (fun(φ:Str->Option (Ls)) e k=>(look (g e) k).or (φ k)) (look c)
 | [],c,_=>rfl
 | e::ow,c,h=>by
  rw[l8,l8,LY g ow _ fun x hx=>h x (bR _ hx)]
  congr 1
  funext k
  exact Um _ _ _ (h e bK)
theorem aqB{β:Type}{l l':List (Str×β)}(p:l.Perm l')(nd:(l.map (·.1)).Nodup)(k:Str):look l k=look l' k:=by
 have Fj:(l'.map (·.1)).Nodup:=(p.map _).nodup_iff.mp nd;cases e:look l k with
 | none=>exact(fH.mpr fun z=>fH.mp e ((p.map _).mem_iff.mpr z)).symm
 | some v=>exact(xN Fj (p.mem_iff.mp (qt e))).symm
theorem aqC{bu mR:Tr}(h:look bu=look mR){ow bi:Ow}(p:ow.Perm bi)(nd:(ow.map (·.1)).Nodup)(pt:∀e∈ow,dW e.1):look (iK bu ow)=look (iK mR bi):=by
 have e1:∀(t:Tr) (o:Ow),iK t o=o.foldl (fun tr e=>putAll tr (fL (look t e.1) e.1 e.2.1 e.2.2)) t:=fun _ _=>rfl;rw[e1,e1,LY _ _ _ fun e he=>Up (pt e he),LY _ _ _ fun e he=>Up (pt e (p.mem_iff.mpr he)),←h];refine List.Perm.foldl_eq' p (fun x hx y hy φ=>?_) _
 funext k
 by_cases e:x=y
 . rw[e]
 . have n1:x.1≠y.1:=fun z=>e (by
    have:=oE nd (x:=x.1) (a:=x.2) (b:=y.2) hx (by rw[z];exact hy);exact Prod.ext z this)
   cases a:look (fL (look bu x.1) x.1 x.2.1 x.2.2) k with
   | none=>simp only[a,Option.none_or]
   | some u=>
    cases b:look (fL (look bu y.1) y.1 y.2.1 y.2.2) k with
    | none=>simp only[a,b,Option.none_or]
    | some v=>
     have ka:=Uo (gf (f:=(·.1)) (qt a));have kb:=Uo (gf (f:=(·.1)) (qt b))
     rcases ka with ka | ka<;>rcases kb with kb | kb
     . exact absurd (ka.symm.trans kb) n1
     . exact absurd (ka.symm.trans kb) (LX (pt x hx))
     . exact absurd (kb.symm.trans ka) (LX (pt y hy))
     . exact absurd (aqA (ka.symm.trans kb)) n1
theorem Uq{ps:Lp}(h:(ps.map fY).Nodup){p q:cf}(hp:p∈ps)(hq:q∈ps)(e:fY p=fY q):p=q:=by
 induction ps with
 | nil=>cases hp
 | cons r ps ih=>
  rw[bL,qN]at h
  rcases aY.mp hp with ep | hp
  . rcases aY.mp hq with eq | hq
    . rw[ep,eq]
    . exact absurd (gf (f:=fY) hq) (by rw[←e,ep];exact h.1)
  . rcases aY.mp hq with eq | hq
    . exact absurd (gf (f:=fY) hp) (by rw[e,eq];exact h.1)
    . exact ih h.2 hp hq
structure LZ(ps:Lp)(ch:Ch)(px:Lp):Prop where
 nm:(px.map (·.nm)).Perm (ch.map (·.1))
 mm:∀p∈px,p∈ps/\(p.nm,p.ms)∈ch
theorem LZ.iff{ps px:Lp}{ch:Ch}(h:LZ ps ch px)(nk:(ps.map fY).Nodup)(nd:(ch.map (·.1)).Nodup)(p:cf):p∈px↔p∈ps/\(p.nm,p.ms)∈ch:=by
 refine⟨h.mm p,fun aqD=>aqD.elim fun h1 h2=>?_⟩;have:p.nm∈px.map (·.nm):=h.nm.mem_iff.mpr (gf (f:=(·.1)) h2);obtain⟨r,hr,er⟩:=cD.mp this;obtain⟨h3,h4⟩:=h.mm r hr;rw[er]at h4;have em:=oE nd h4 h2;have:r=p:=Uq nk h3 h1 (by unfold fY;rw[er,em]);rw[←this];exact hr
theorem Ur{ns:Ls}{ps px sV:Lp}{ch:Ch}{bu mR:Tr}(ap:Apart ns ps)(nd:(ch.map (·.1)).Nodup)(hx:∀p∈px,p∈ps/\(p.nm,p.ms)∈ch)(m:∀p,p∈px↔p∈sV)(g:lH (fm px) bu)(g':lH (fm sV) mR){k:Str}{l:Ls}(h:look bu k=some l):look mR k=some l:=by
 obtain⟨p,hp,hf⟩:=yS.mp (g.sub _ (qt h));have hk:k∈mR.map (·.1):=g'.key (k,l) (yS.mpr ⟨p,(m p).mp hp,hf⟩);obtain⟨f,E3,e⟩:=cD.mp hk;have e:f.1=k:=e;obtain⟨q,hq,hg⟩:=yS.mp (g'.sub f E3);have hq:=(m q).mpr hq;have en:=ap.one p (hx p hp).1 q (hx q hq).1 k (gf (f:=(·.1)) hf) (by rw[←e];exact gf (f:=(·.1)) hg);have em:p.ms=q.ms:=oE nd (hx p hp).2 (by rw[en];exact(hx q hq).2);have ep:p=q:=Uq ap.nd (hx p hp).1 (hx q hq).1 (by unfold fY;rw[en,em]);subst ep;have el:l=f.2:=oE (ap.ok p (hx p hp).1).2.2 hf (by rw[←e];exact hg);rw[el,←e];exact xN g'.nd E3
theorem aqE{ns:Ls}{ps px sV:Lp}{ch:Ch}{bu mR:Tr}(ap:Apart ns ps)(nd:(ch.map (·.1)).Nodup)(hx:∀p∈px,p∈ps/\(p.nm,p.ms)∈ch)(m:∀p,p∈px↔p∈sV)(g:lH (fm px) bu)(g':lH (fm sV) mR):look bu=look mR:=by
 funext k
 cases e:look bu k with
 | some l=>exact(Ur ap nd hx m g g' e).symm
 | none=>
  cases e':look mR k with
  | none=>rfl
  | some l=>rw[Ur ap nd (fun p hp=>hx p ((m p).mpr hp)) (fun p=>(m p).symm) g' g e']at e;cases e
def vx(ps:Lp)(ch:Ch)(cs:Cs)(ow:Ow)(tr:Tr):Prop:=∃(px:Lp) (bu:Tr),LZ ps ch px/\lH (fm px) bu /\
 (∀k,(∀c,(∃p∈px,c∈p.os)->k≠kC c)->look tr k=look (iK bu ow) k)/\∀c,(∃p∈px,c∈p.os)->∃r,look tr (kC c)=some [r]/\NB (gw c px) (look cs c) r
theorem Us{ns:Ls}{ps:Lp}{ch bq:Ch}{cs bv:Cs}{ow bi:Ow}{tr Fz:Tr}(ap:Apart ns ps)(p1:ch.Perm bq)(p2:cs.Perm bv)(p3:ow.Perm bi)(d1:(ch.map (·.1)).Nodup)(d2:(cs.map (·.1)).Nodup)(d3:(ow.map (·.1)).Nodup)(pt:∀e∈ow,dW e.1)
 (h:vx ps ch cs ow tr) (h':vx ps bq bv bi Fz):look tr=look Fz:=by
 obtain⟨px,bu,x,g,a,b⟩:=h;obtain⟨sV,mR,x',g',a',b'⟩:=h';have d1':(bq.map (·.1)).Nodup:=(p1.map _).nodup_iff.mp d1;have m:∀p,p∈px↔p∈sV:=fun p=>by rw[x.iff ap.nd d1,x'.iff ap.nd d1',p1.mem_iff]
 have t0:=aqE ap d1 x.mm m g g';have mc:∀c,(∃p∈px,c∈p.os)↔∃p∈sV,c∈p.os:=fun c=>⟨fun aqG=>aqG.elim fun p aqH=>aqH.elim fun h1 h2=>⟨p,(m p).mp h1,h2⟩,fun aqI=>aqI.elim fun p aqJ=>aqJ.elim fun h1 h2=>⟨p,(m p).mpr h1,h2⟩⟩
 funext k
 by_cases hk:∃c,(∃p∈px,c∈p.os)/\k=kC c
 . obtain⟨c,hc,rfl⟩:=hk;obtain⟨r,e,n⟩:=b c hc;obtain⟨r',e',n'⟩:=b' c ((mc c).mp hc);rw[←aqB p2 d2]at n';rw[e,e',n.eq n' fun q=>by unfold gw;rw[qL,qL,m q]]
 . rw[a k fun c hc e=>hk ⟨c,hc,e⟩,a' k fun c hc e=>hk ⟨c,(mc c).mpr hc,e⟩,aqC t0 p3 d3 pt]
theorem aqK{kvs:List (ar×V)}{cs:Cs}(h:Paired uT kvs cs)(c:Str):sL kvs c=look cs c:=by
 induction h with
 | nil=>rfl
 | @cons kv e kvs cs r t ih=>
  rw[jL];unfold sL bh at ih ⊢;rw[tK]
  by_cases z:e.1=c
  . rw[al z,bN (show kv.1=Sum.inr c by rw[r.1,z])];show(match Option.map (fun x=>x.snd) (some kv) with | some (V.str y)=>some y | _=>none)=some e.2;rw[tL,r.2]
  . rw[ai z,cI (show kv.1≠Sum.inr c by rw[r.1];intro y;exact z (nu y))];exact ih
open HT (At cb gG)
open Lcp
variable {P:Program}{w:World}{K:Fg}{mg:Mv}{base:Heap}
seal PE PS cn PA PT PW PG gX PI gE
structure Ut(ns:Ls)(p:cf):Prop where
 n3:p.fs.length<=3
 ls:∀f∈p.fs,my f.2
 o2:p.os.length<=2
 nm:Ln p.nm
 os:∀t∈p.os,(Ln t/\t.length<=20)/\t∈ns
theorem aqL{kvs:List (ar×V)}{cs:Cs}(h:Paired uT kvs cs)(ok:∀e∈cs,Ln e.2):K2 kvs:=fun k v hv=>by
 obtain⟨e,he,e1,e2⟩:∃e∈cs,k=.inr e.1/\v=.str e.2:=by
  induction h with
  | nil=>cases hv
  | @cons kv e kvs cs r t ih=>
   unfold bh at hv;rw[tK]at hv;split at hv
   . rename_i z;have z:=cT z;cases hv;exact⟨e,bK,z▸r.1,r.2⟩
   . obtain⟨e',h1,h2⟩:=ih (fun e he=>ok e (bR _ he)) hv;exact⟨e',bR _ h1,h2⟩
 exact⟨_,e2,ok e he⟩
theorem Bb{tr:Tr}{x:Str}{ls:Ls}(h:dw tr)(hl:∀y∈ls,Ln y):dw (bI tr x ls):=fun f hf=>by
 rcases rM hf with e | hf
 . rw[e];exact hl
 . exact h f hf
theorem aqM{acc:Tr}{o:Option (Ls)}{p:Str}{b m:Ls}(h:dw acc)(hb:∀x∈b,Ln x)(hm:∀x∈m,Ln x)(ho:∀ls,o=some ls->∀x∈ls,Ln x):dw (putAll acc (fL o p b m)):=by
 unfold fL;cases o with
 | none=>exact Bb (tr:=acc) h hm
 | some br=>
  dsimp only;have h1:=Bb (x:=p) (ls:=(merge b m br).1) h (agP hb hm (ho br rfl));cases e:(merge b m br).2 with
  | none=>exact h1
  | some z=>
   have ez:z=m:=by
    rcases agO b m br with q | q
    . rw[q]at e;cases e
    . rw[q]at e;exact(gz e).symm
   subst ez;exact Bb h1 hm
theorem aqN{bu:Tr}(h:dw bu){ow:Ow}(hw:LW ow):dw (iK bu ow):=by
 have key:∀(ow:Ow) (c:Tr),dw c->(∀e∈ow,(∀x∈e.2.1,Ln x)/\∀x∈e.2.2,Ln x)->dw (ow.foldl (fun tr e=>putAll tr (fL (iJ bu e.1) e.1 e.2.1 e.2.2)) c):=by
  intro ow
  induction ow with
  | nil=>exact fun c hc _=>hc
  | cons e ow ih=>
   intro c hc hw;rw[l8];have h1:=hw e bK;exact ih _ (aqM hc h1.1 h1.2 fun ls el=>h _ (LV el)) fun e' mz=>hw e' (bR _ mz)
 exact key ow bu h fun e he=>⟨(hw e he).2.1.all,(hw e he).2.2.all⟩
theorem aqO{bu:Tr}(h:(bu.map (·.1)).Nodup)(ow:Ow):((iK bu ow).map (·.1)).Nodup:=by
 have key:∀(ow:Ow) (c:Tr),(c.map (·.1)).Nodup->((ow.foldl (fun tr e=>putAll tr (fL (iJ bu e.1) e.1 e.2.1 e.2.2)) c).map (·.1)).Nodup:=by
  intro ow
  induction ow with
  | nil=>exact fun c hc=>hc
  | cons e ow ih=>
   intro c hc;rw[l8];exact ih _ (aqr hc)
 exact key ow bu h
def xZ(C S T Pt:Addr):Sp:=fun vs H Q _=>∃(sv tv:V) (xs:Lv) (ps:Lp) (ch:Ch) (cs:Cs) (ow:Ow) (ns:Ls),vs=[sv,tv]/\ja S H sv xs ps/\dQ C H xs ps/\(∀p∈ps,Ut ns p)/\ns.length<=4/\gK T H tv ch cs ow/\qj xs ps ch/\ch.length<=4/\ow.length<=2/\LW ow/\(∀e∈cs,Ln e.2)/\aD H Pt dv di /\
 ∀d H' kvs (tr:Tr),H d=none->mG Pt H H'->aD H' Pt dv di->H' d=some (.dK kvs)->Paired (de H H') kvs tr->(tr.map (·.1)).Nodup->tr.length<=20->dw tr->vx ps ch cs ow tr->Q (.ref d) H'
theorem vy:aP [azu,azM,azx,aAd,az0,azC,az1,az3] [azu,azM] (aA qf):=aZ
theorem aqP(F:bB K aAe qf f fd)(B:b9 mg)(TC:Txt K mg C)(US:vc K mg S km)(UT:sf K mg T)(ql:aU K azz "Shelf.parcel" p9 km qk)
 (oQ:aO K mg "parcels_of" Aq x5 x6) (Bc:aO K mg "brought_by" Ee L0 L3) (Bd:aO K mg "commons_of" Eg L1 L4)
 (Be:aO K mg "files_of_change" Ef FA FD) (L6:aj P w K mg base ak 4 FA FD [azC,az1,aAd] LR)
 (Bf:aO K mg aAo wZ FC FE) (aqQ:aj P w K mg base ak 3 FC FE [az3,azx,azI] (K3 C Pt)) :
 aj P w K mg base ak 5 f fd [azu,azM] (xZ C S T Pt):=by
 have L7:aj P w K mg base ak 2 x5 x6 [azu,azA] (Ko S):=SW oQ.u B US ql;have L8:=oQ.u.binds2 (l:=[azu,azA]) (fun _ _ _ _ _ _ _ _=>rfl);have aqR:aj P w K mg base ak 1 L0 L3 [azx] (SX C):=aoj Bc.u B TC;have aqS:=Bc.u.binds1 (l:=[azx]) (fun _ _ _ _ _ _ _=>rfl);have aqT:aj P w K mg base ak 1 L1 L4 [azx] (Ts C):=ao5 Bd.u B TC;have aqU:=Bd.u.binds1 (l:=[azx]) (fun _ _ _ _ _ _ _=>rfl);have aqV:=Be.u.binds3 (l:=[azC,az1,aAd]) (fun _ _ _ _ _ _ _ _ _=>rfl);have aqW:aj P w K mg base ak 4 FC FE [az3,azx,azI] (K3 C Pt):=aqQ.mono (by decide);have aqX:=Bf.u.binds3 (l:=[az3,azx,azI]) (fun _ _ _ _ _ _ _ _ _=>rfl);refine F.okL vy ?_
 . intro aw A outer s H vs Q E hr h xX dX;obtain⟨sv,tv,xs,ps,ch,cs,ow,ns,rfl,hS,hP,h3,ns4,hT,hV,h4,o2,okO,aqZ,tab,q⟩:=h;have hu:=hr.units;have hr2:ce 2 (A.deeper (PyProof.Rows.envOfC aAe (aA qf) s.heap.objs.size f aw)):=hr.mono (by decide);have dC:ce 1 (A.deeper (PyProof.Rows.envOfC aAe (aA qf) s.heap.objs.size f aw)):=hr.mono (by decide);refine⟨_,(am (aJ (i:=2) vy.nd rfl (Or.inl rfl) (aG L7 hr2 rfl oQ L8 (aa (pv 0) (aa (cU (pv 1) rfl) ac))))
    (am (aJ (i:=3) vy.nd rfl (Or.inl rfl) (aG aqR dC rfl Bc aqS (aa (pv 2) ac)))
    (am (aJ (i:=4) vy.nd rfl (Or.inl rfl) (eK C7 (by rfl) B.dict Oh (aa (pv 3) ac)))
    (am (Io eI rfl (cU (pv 1) rfl) (pF rfl (fb (bc (i:=5) vy.nd rfl (Or.inl rfl)) (fb (bc (i:=6) vy.nd rfl (Or.inl rfl)) mi)))
    (av (cp (dj GS axT PySem.F.type_dict_update aic (pv 4) (aa (aG L6 hr rfl Be aqV (aa (pv 5) (aa (pv 6) (aa (pv 3) ac)))) ac)))))
    (am (eJ eI rfl (cQ (aG aqT dC rfl Bd aqU (aa (pv 2) ac))) (bc (i:=7) vy.nd rfl (Or.inl rfl))
    (av (jm hu (pv 4) (zJ bV (zI (pv 7))) (df (aa (aG aqW hr rfl Bf aqX (aa (pv 7) (aa (pv 2) (aa (cU (pv 1) rfl) ac)))) ac)) rfl)))
    (av (aV (pv 4)))))))),?_⟩
   refine wN ?_;intro dD sS Ke EM oH fE dP;obtain⟨a,dx,fl,c,h,o,rfl,t1,t2,t3,t4,t5,⟨hk,t6,Uu⟩,ko,t7,t8⟩:=hT;have hok:=aqL Uu aqZ;refine⟨_,rfl,_,rfl,a,T,dx,_,_,rfl,t1,UT.cl,UT.nC,t2,?_⟩;refine⟨sv,c,xs,ps,ch,rfl,hS,t5,hV,by omega,fun D H1 iX px n1 s1 e1 pr pn pc=>?_⟩;have ya:=Ta (hP.same s1) pr;have pm:=Tb pr;have dU:px.length<=4:=by
    have e:=pn.length_eq;rw[ao,ao]at e;omega
   have hl:(fm px).length<=12:=by
    have:=aon (b:=3) (ps:=px) fun p hp=>(h3 p (pm p hp)).n3;omega
   refine⟨_,rfl,D,iX,px,rfl,e1,ya,by omega,fun d H2 kvs bu n2 s2 e2 Uv g2=>?_⟩;refine⟨_,rfl,d,_,rfl,e2,fun d3 H3 n3 s3 e3=>?_⟩;have fX:=s1.trans (s2.trans s3);have sW:H d3=none:=s1.free (s2.free n3);have dg:=s3 _ _ e2;have o3:=fX _ _ t7;have od:d≠o:=(aL (s1 _ _ t7) n2).symm;have Bg:d3≠o:=(aL t7 sW).symm;have dd3:d3≠d:=(aL e2 n3).symm;have g18:=g2.len;have Uw:∀f∈bu,my f.2:=fun f hf=>by
    obtain⟨p,hp,hf⟩:=yS.mp (g2.sub f hf);exact(h3 p (pm p hp)).ls f hf
   have prD:Paired (bM H3) kvs bu:=aE Uv fun _ _ z=>(z.du).same s3;have sy:Paired (de H H3) kvs bu:=aE Uv fun kv f z=>by
    obtain⟨z1,l,z2,z3,z4⟩:=z;exact⟨z1,l,z2,s1.free z3,s3 _ _ z4⟩
   have tk:∀(H':Hp) kv f,de H H' kv f->kv.1=Sum.inr f.1:=fun _ kv f z=>z.1;refine⟨_,rfl,a,T,dx,_,_,rfl,fX _ _ t1,UT.cl,UT.nO,t4,o,ko,rfl,o3,fun ob=>?_⟩;refine JN (fun i σ H5=>∃u v kt,σ=[some sv,some (.ref a),some (.ref D),some (.ref d),some (.ref d3),u,v,none]/\(∀b z,H3 b=some z->b≠o->b≠d3->H5 b=some z)/\(∀b,H5 b=none->H3 b=none)/\H5 o=some (.frz ob (.dK ko))/\H5 d3=some (.dK kt)/\Paired (de H H5) kt (iK bu (ow.take i)))
    ⟨none,none,kvs,rfl,fun b z e hb _=>aB e hb,fun b e=>(iA e).2,aH,aB e3 Bg,aE sy fun kv f z=>?_⟩ ?_ ?_ ?_
   . obtain⟨z1,l,z2,z3,z4⟩:=z;exact⟨z1,l,z2,z3,aB z4 (aK z4 o3 (by intro z;cases z))⟩
   . intro i σ H5 eX;refine bg ?_;intro tT;obtain⟨u,v,kt,rfl,_,_,h,_⟩:=eX;exact h
   . intro i k v p σ H5 hi gt hp;refine bg ?_;intro tT;obtain⟨u,v',kt,rfl,k5,f5,h5,qx,fF⟩:=gt;obtain⟨⟨x,b1,m1⟩,hf,a1,t,l1,l2,a2,a3,a4,a5⟩:=eE t8 hi;have a1:k=.inr x:=a1;have a2:v=.ref t:=a2;subst a1 a2;have hm:=eg hf;have sp:ag H5 (ah H5 p (.tup [kV (.inr x),.ref t])):=fU hp;have K5:∀{b:Addr}{z:HO},H b=some z->(∀ks,z≠.dK ks)->(ah H5 p (.tup [kV (.inr x),.ref t])) b=some z:=fun {b z} e hz=>sp _ _ (k5 _ _ (fX _ _ e) (aK e t7 (hz _)) (fun y=>by rw[y,sW]at e;cases e));have D5:=sp _ _ (k5 _ _ dg od dd3.symm);refine⟨p,_,rfl,aX.of aH,rfl,_,_,rfl,_,_,rfl,rfl,?_⟩;refine⟨_,rfl,.inr (.inr (.inl ⟨rfl,.inl ⟨_,sp _ _ qx⟩⟩)),_,rfl,_,rfl,_,rfl,?_⟩;refine⟨x,t,l1,l2,d,kvs,bu,b1,m1,iJ bu x,rfl,K5 a3 (by intro ks z;cases z),K5 a4 (by intro ks z;cases z),K5 a5 (by intro ks z;cases z),D5,?_,g2.nd,aqp bu x,(okO _ hm).2.1,(okO _ hm).2.2,?_,(okO _ hm).1,fun e H6 more n6 s6 e6 Ux=>?_⟩
     . exact aE prD fun kv f z=>by
        obtain⟨z1,l,z2,z3⟩:=z;exact⟨z1,l,z2,sp _ _ (k5 _ _ z3 (aK z3 o3 (by intro z;cases z)) (aK z3 e3 (by intro z;cases z)))⟩
     . intro ls e;exact Uw _ (LV e)
     have yc:=sp.trans s6;have ed3:d3≠e:=aL (sp _ _ qx) n6;have pl:=bC fF;have ml:=bC Ux;have h1:=Ul bu (ow.take i);have h2:=Uk (iJ bu x) x b1 m1;have h3':(ow.take i).length<=2:=by rw[eG];omega
     refine⟨d3,e,kt,more,rfl,rfl,ed3,yc _ _ qx,e6,lq (by omega),?_⟩;refine⟨_,_,_,rfl,fun b z e hb Fu=>aB (yc _ _ (k5 _ _ e hb Fu)) Fu,fun b e=>f5 b (yc.free (iA e).2),aB (yc _ _ h5) Bg.symm,aH,?_⟩;rw[gT,hf];show Paired _ _ (iK bu (ow.take i++[(x,b1,m1)]));rw[aqt];refine aE (aqq (F:=de H H6) (tk H6) (aE Ux fun kv f z=>?_) (aE fF fun _ _=>de.same yc)) fun kv f=>de.put (yc _ _ qx);obtain⟨z1,l,z2,z3,z4⟩:=z;exact⟨z1,l,z2,fX.free (f5 _ (sp.free z3)),z4⟩
   . intro σ H5 gu;refine bg ?_;intro tT;obtain⟨u,v,kt,rfl,k5,f5,h5,qx,fF⟩:=gu;rw[bC t8,eZ]at fF;have sF:∀b z,H3 b=some z->b≠d3->(ah H5 o (.dK ko)) b=some z:=fun b z e hb=>by
      by_cases ho:b=o
      . subst ho;rw[o3]at e;cases e;exact aH
      . exact aB (k5 b z e ho hb) ho
     have sH:ag H (ah H5 o (.dK ko)):=fun b z e=>sF b z (fX _ _ e) (fun y=>by rw[y,sW]at e;cases e);have FF:ag H1 (ah H5 o (.dK ko)):=fun b z e=>sF b z (s3 _ _ (s2 _ _ e)) (fun y=>by rw[y,s2.free n3]at e;cases e);refine⟨_,rfl,D,iX,px,rfl,FF _ _ e1,ya.same FF,by omega,fun p hp=>(h3 p (pm p hp)).o2,fun r H6 cm n6 s6 e6 cnd Bh cl=>?_⟩;refine⟨r,rfl,⟨_,ae.of e6⟩,?_⟩;have FG:=sH.trans s6;have Uy:d3≠Pt:=aD.new tab sW;have oR:aD H6 Pt dv di:=tab.same FG;have rP:r≠Pt:=aD.ne oR e6 (by intro φ z;cases z);have cln:∀x∈cm,Ln x/\x.length<=20:=fun x hx=>by
      obtain⟨p,hp,hx⟩:=(Bh x).mp hx;exact((h3 p (pm p hp)).os x hx).1
     have dd:∀{b:Addr}{o:HO},H6 b=some o->b≠Pt->b≠d3->msk [Pt,d3] H6 b=some o:=fun e n1 n2=>cJ (by simp[n1,n2]) e;have L9:=s6 _ _ (aB (p:=o) (o':=.dK ko) qx Bg);have hP6:dQ C (msk [Pt,d3] H6) iX px:=aE (ya.same (FF.trans s6)) fun _ _ z=>z.off fun b hb o eo=>by
      rcases aY.mp hb with e | e
      . obtain⟨φ,w⟩:=aD.at oR;rw[e,w]at eo;cases eo;exact⟨(by intro _ _ _ z;cases z),(by intro _ z;cases z),(by intro _ z;cases z)⟩
      . rw[bw.mp e,L9]at eo;cases eo;exact⟨(by intro _ _ _ z;cases z),(by intro _ z;cases z),(by intro _ z;cases z)⟩
     have Uz:∀{b:Addr}{o:HO},H b=some o->(∀φ,o≠.ext φ)->msk [Pt,d3] H6 b=some o:=fun e n=>dd (FG _ _ e) (aD.ne tab e n) (aL e sW);have a6:=Uz t1 (by intro φ z;cases z);have K1:=Uz t6 (by intro φ z;cases z);have D6:msk [Pt,d3] H6 D=some (.lst iX):=dd (s6 _ _ (FF _ _ e1)) (aD.new tab n1) (aL (s2 _ _ e1) n3);have r6:msk [Pt,d3] H6 r=some (.lst (cm.map V.str)):=dd e6 rP (aK e6 L9 (by intro z;cases z));have tl:=Ul bu ow;have pr6:Paired (de H H6) kt (iK bu ow):=aE fF fun kv f z=>by
      obtain⟨z1,l,z2,z3,z4⟩:=z;exact⟨z1,l,z2,z3,s6 _ _ (aB z4 (aK z4 h5 (by intro z;cases z)))⟩
     have ok0:dw (iK bu ow):=aqN (fun f hf=>(Uw f hf).all) okO;have cl4:cm.length<=4:=cu (jp cnd fun x hx=>by
      obtain⟨p,hp,hx⟩:=(Bh x).mp hx;exact((h3 p (pm p hp)).os x hx).2) ns4
     refine iT (xs:=cm.map V.str) (fun i σ H7=>∃u' kvs tr,σ=[some sv,some (.ref a),some (.ref D),some (.ref d),some (.ref d3),u,v,u']/\ag (msk [Pt,d3] H6) H7/\aD H7 Pt dv di/\H7 d3=some (.dK kvs)/\Paired (de H H7) kvs tr/\(tr.map (·.1)).Nodup/\tr.length<=16+i/\dw tr/\(∀k,(∀c∈cm.take i,k≠kC c)->look tr k=look (iK bu ow) k)/\∀c∈cm.take i,∃r,look tr (kC c)=some [r]/\NB (gw c px) (sL hk c) r)
      ⟨none,kt,iK bu ow,rfl,bO,oR,L9,pr6,aqO g2.nd ow,by omega,ok0,fun _ _=>rfl,fun c hc=>nomatch hc⟩ ?_ ?_ ?_
     . intro i σ H7 hi eX;obtain⟨u',kvs,tr,rfl,sm,_⟩:=eX;exact ae.of (sm _ _ r6)
     . intro i v0 σ H7 hv gt;refine bg ?_;intro tT;obtain⟨u',kvs,tr,rfl,sm,yd,sX,FH,Ma,l7,Mb,Bi,Bj⟩:=gt;obtain⟨x,hx,rfl⟩:∃x,cm[i]?=some x/\v0=.str x:=by
        rw[dH]at hv;cases e:cm[i]? with
        | none=>rw[e]at hv;cases hv
        | some x=>rw[e]at hv;cases hv;exact⟨x,rfl,rfl⟩
       have xm:=eg hx;obtain⟨xl,A7⟩:=cln x xm;have hlen:=bC FH;have ay1:i<cm.length:=(cW.mp hx).1;refine⟨_,rfl,_,rfl,_,rfl,a,T,dx,_,_,rfl,sm _ _ a6,UT.cl,UT.nH,t3,?_⟩;refine⟨D,h,x,iX,px,hk,rfl,sm _ _ D6,hP6.same sm,by omega,(Bh x).mp xm,sm _ _ K1,hok,fun p hp=>(h3 p (pm p hp)).nm,yd,fun r' H8 kp UA lr nb=>?_⟩;refine⟨(by show 1<=sizeLine;decide),fun l H9 n9 s9 e9=>?_⟩;have UB:=s9 _ _ (kp _ _ sX Uy);have tb9:aD H9 Pt dv di:=UA.same s9;have Mc:(Str.ofString "=").length<=sizeLine:=jZ (by decide +kernel);refine⟨_,rfl,_,rfl,Mc,_,rfl,x,rfl,jZ (by omega),x,rfl,fit (by decide +kernel) (by omega),?_⟩;refine⟨d3,_,rfl,fT.k (k:=.inr (kC x)) UB (bZ (by omega)),?_⟩;have l9:l≠d3:=(aL (kp _ _ sX Uy) n9).symm;refine⟨_,cz kvs (.inr (kC x)) (.ref l),bI tr (kC x) [r'],rfl,fun b o eb=>?_,aD.put UB tb9,aH,?_,lE Ma,cu (j7 tr _ _) (by omega),Bb Mb (fun y hy=>by rw[bw.mp hy];exact lr),fun k hk=>?_,fun c hc=>?_⟩
       . have AU:b∉[Pt,d3]:=fun z=>by
          unfold msk at eb;rw[al z]at eb;cases eb
         simp only[aY,fq,ft,py]at AU;exact aB (s9 _ _ (kp _ _ (sm _ _ eb) AU.1)) AU.2
       . have l0:H l=none:=by
          cases hz:H l with
          | none=>rfl
          | some o=>
           have lP:l≠Pt:=fun z=>by
            obtain⟨φ,w⟩:=aD.at UA;rw[z,w]at n9;cases n9
           rw[kp _ _ (sm _ _ (dd (FG _ _ hz) lP (aL hz sW))) lP]at n9;cases n9
         refine jv (tk _) ⟨rfl,l,rfl,l0,aB e9 l9⟩ (aE FH fun kv f z=>?_);obtain⟨z1,l',z2,z0,z3⟩:=z;exact⟨z1,l',z2,z0,aB (s9 _ _ (kp _ _ z3 (aD.ne yd z3 (by intro φ z;cases z)))) (aK z3 sX (by intro z;cases z))⟩
       . rw[qz hx]at hk;rw[Fh,ai fun z=>hk x (eF _ (bw.mpr rfl)) z.symm];exact Bi k fun c hc=>hk c (yD _ hc)
       . rw[Fh]
         by_cases z:kC x=kC c
         . rw[al z,←aqu z];exact⟨r',rfl,nb⟩
         . rw[ai z];rw[qz hx]at hc
           rcases bS.mp hc with hc | hc
           . exact Bj c hc
           . exact absurd (by rw[bw.mp hc]) z
     . intro σ H7 gu;obtain⟨u',kvs,tr,rfl,sm,yd,sX,FH,Ma,l7,Mb,Bi,Bj⟩:=gu;rw[ao]at l7 Bi Bj;rw[eZ]at Bi Bj;exact⟨_,rfl,q d3 H7 kvs tr sW (fun b o eb nb=>sm _ _ (dd (FG _ _ eb) nb (aL eb sW))) yd sX FH Ma (by omega) Mb ⟨px,bu,⟨pn,fun p hp=>⟨pm p hp,pc p hp⟩⟩,g2,fun k hk=>Bi k fun c hc=>hk c ((Bh c).mp hc),fun c hc=>by rw[←aqK Uu];exact Bj c ((Bh c).mpr hc)⟩⟩
end K63
namespace K63
open PySem L2 PySem.Spec PyProof.Rows
variable {P:Program}{w:World}{K:Fg}{mg:Mv}{base:Heap}
seal PE PS cn PA PT PW PG gX PI gE
theorem UC{K:Fg}{g:TG}{tb:TS}{D:Ends}{σ:L2.St}{H:Hp}(hl:ae K H a [])(hd:D.nx σ H) :
 ∃W:Nat->Nat->L2.St->Hp->Prop,(∃m,W 0 m σ H)/\∀i m σ H,W i m σ H ->
  ((zX K a).stop i H/\D.nx σ H)\/((zX K a).go i H/\∃N:L2.St->Hp->Prop,(∀σ' H',N σ' H'->∃m',m'<m/\W (i+1) m' σ' H')/\∀x H',(zX K a).yld i H x H'->g x σ H' fun σ2 H2=>tb { D with nx:=N,ct:=N,bk:=D.nx } σ2 H2):=
 ⟨fun i m σ' H'=>i=0/\σ'=σ/\H'=H,⟨0,rfl,rfl,rfl⟩,fun i m σ' H' ara=>ara.elim fun e1 arb=>arb.elim fun e2 e3=>by subst e1 e2 e3;exact .inl ⟨⟨[],hl,aI _⟩,hd⟩⟩
theorem Me{X:Cx}(K:Fg){es:List Expr}{k:Nat}{pos:Pos}{t:q5}{n:Nat}(hc:X.calm=true)(h:gX X es t)(hK:X.K=K:=by rfl)
 (hn:(assignEach es X.env).length=n:=by rfl) (fM:(assignEach es X.env).findIdx? (·.1)=none:=by rfl):PG X (.Tuple es k pos) (tW K n t):=hK▸pF hc h hn fM
theorem sY{H H2:Hp}{o:HO}(n:H p=none)(s:ag H H2):ag H (ah H2 p o):=fun b u e=>aB (s _ _ e) (aL e n)
abbrev sZ (p:cf):Ls:=p.fs.map (·.1)
def UE(C:Addr):Sp:=fun vs H Q _=>∃(v:V) (p:cf),vs=[v]/\i9 C H v p/\p.fs.length<=100/\dL H (.lst ((sZ p).map V.str)) Q
theorem arc:aP [azz] [azz] (aA Ar):=aZ
theorem ard(F:bB K "paths_of" Ar f fd)(T:Txt K mg C):aj P w K mg base ak 1 f fd [azz] (UE C):=by
 refine F.okL arc ?_
 . intro aw A outer s H vs Q E hr h xX dX;obtain⟨v,p,rfl,⟨a,dx,fl,rk,m,pf,pn,ps,po,xs,rfl,hA,hF,hM,jC,lG,_⟩,ET,q⟩:=h;have hl:=bC lG;refine⟨_,(av (aV (gF [azC,azO] [] [] eA rfl (cQ (cU (pv 0) rfl)) (fun _ _ _ _=>(Me (n:=2) K rfl (fb (bc (i:=0) (show List.Nodup ([azC,azO]:Ls) by decide +kernel) rfl (Or.inl rfl)) (fb (bc (i:=1) (show List.Nodup ([azC,azO]:Ls) by decide +kernel) rfl (Or.inl rfl)) mi)))) (fun _ _ _ _=>iB) (fun _ _ _ _=>(pv 0))))),?_⟩;refine⟨_,rfl,a,C,dx,_,_,rfl,hA,T.cl,T.nF,hF.files,pf,rfl,⟨_,ae.of jC⟩,?_⟩;intro D hD;refine aoq (σ0:=[none,none]) hD (ae.of jC) (fun σ=>∃u v,σ=[u,v]) (fun j zs _=>zs=((sZ p).take j).map V.str) ⟨_,_,rfl⟩ rfl ?_ ?_
   . rintro j y zs σ H3 k hy ⟨u,v,rfl⟩ dg h3 rfl eL;obtain⟨f,hf,t,l,rfl,f1,f2⟩:=eE lG hy;have aN:=(cW.mp hf).1;have IJ:(sZ p)[j]?=some f.1:=by rw[dH,hf];rfl
     refine⟨t,_,rfl,aX.of (h3 _ _ f1),rfl,_,_,rfl,_,_,rfl,rfl,?_⟩;refine⟨_,rfl,eL _ _ _ ⟨_,_,rfl⟩ (ag.refl _) (bZ (by rw[ao,eG];omega)) ?_⟩;rw[qz IJ,dz];rfl
   . rintro zs H3 dg h3 rfl;have e:(sZ p).take xs.length=sZ p:=Ws (by rw[ao];omega);rw[e]at dg;exact q D H3 hD h3 dg
def vz(C:Addr):Sp:=fun vs H Q _=>∃(v:V) (a:Addr) (xs:Lv) (p:cf) (ps:Lp),vs=[v,.ref a]/\i9 C H v p/\H a=some (.lst xs)/\dQ C H xs ps/\ps.length<=9/\p.fs.length<=9/\(∀o∈ps,o.fs.length<=9)/\(∀o∈ps,o.nm≠p.nm->∀x∈sZ p,x∉sZ o)/\dL H (.lst []) Q
theorem FI:aP [azz,azx,"faults","number","claim"] [azz,azx] (aA Ea):=aZ
theorem are(F:bB K "need_faults" Ea f fd)(B:b9 mg)(T:Txt K mg C):aj P w K mg base ak 1 f fd [azz,azx] (vz C):=by
 refine F.okL FI ?_
 . intro aw A outer s H vs Q E hr h xX dX;obtain⟨v,a,xs,p,ps,rfl,⟨b,dx,fl,rk,m,pf,pn,jE,po,fx,rfl,hA,hF,hM,jC,lG,hO,hR,Bl,_⟩,ha,bE,l1,l2,l3,l4,q⟩:=h;refine⟨_,(am (aJ (i:=2) FI.nd rfl (Or.inl rfl) (df ac))
    (am (eJ eI rfl (Rp (by rfl) B.enumerate (aa (cU (pv 0) rfl) ac)) (pF rfl (fb (bc (i:=3) FI.nd rfl (Or.inl rfl)) (fb (bc (i:=4) FI.nd rfl (Or.inl rfl)) mi)))
    OJ)
    (av (aV (pv 2))))),?_⟩
   refine lw ?_
   intros
   refine⟨(by show 0<=sizeLine;decide),fun p1 H1 n1 s1 e1=>?_⟩;refine⟨_,rfl,b,C,dx,_,_,rfl,s1 _ _ hA,T.cl,T.nE,hF.needs,pn,rfl,⟨_,ae.of (s1 _ _ Bl)⟩,?_⟩;exact UC (ae.of (s1 _ _ Bl)) ⟨_,rfl,q p1 H1 n1 s1 e1⟩
theorem Bm:aP [azz,azx,aAk,"faults","number","claim"] [azz,azx] (aA Eb):=aZ
theorem arf(F:bB K "shut_faults" Eb f fd)(B:b9 mg)(T:Txt K mg C):aj P w K mg base ak 1 f fd [azz,azx] (vz C):=by
 refine F.okL Bm ?_
 . intro aw A outer s H vs Q E hr h xX dX;obtain⟨v,a,xs,p,ps,rfl,⟨b,dx,fl,rk,m,pf,pn,jE,po,fx,rfl,hA,hF,hM,jC,lG,hO,hR,_,Bl⟩,ha,bE,l1,l2,l3,l4,q⟩:=h;have hlen:=bC bE;refine⟨_,(am (rA (i:=2) [azP] [azz] [0] Bm.nd rfl rfl eA rfl (cQ (pv 1)) (fun _ _ _ _=>(bc (i:=0) (show List.Nodup ([azP,azz]:Ls) by decide +kernel) rfl (Or.inl rfl))) (fun _ _ _ _=>nY (bY za (iD K (pv 0) rfl) (iD K (pv 1) rfl) (bT _))) (fun _ _ _ _=>(pv 0)))
    (am (aJ (i:=3) Bm.nd rfl (Or.inl rfl) (df ac))
    (am (eJ eI rfl (Rp (by rfl) B.enumerate (aa (cU (pv 0) rfl) ac)) (pF rfl (fb (bc (i:=4) Bm.nd rfl (Or.inr rfl)) (fb (bc (i:=5) Bm.nd rfl (Or.inl rfl)) mi)))
    OJ)
    (av (aV (pv 3)))))),?_⟩
   refine j6 ?_
   intros
   refine⟨_,rfl,a,rfl,⟨_,ae.of ha⟩,?_⟩;intro D hD;refine qm (σ0:=[none,some (.ref b)]) hD (ae.of ha) (fun σ=>∃v,σ=[v,some (.ref b)]) (fun j zs _=>zs.length<=j) ⟨_,rfl⟩ (aI _) ?_ ?_
   . rintro j y zs σ H3 k k' hy ⟨v,rfl⟩ dg h3 zl eL ii;obtain⟨o,ho,hE⟩:=eE bE hy;have aN:=(cW.mp ho).1;obtain⟨b',jc,rL,E4,m',UG,UH,UI,UJ,UK,rfl,FJ,FK,_⟩:=id hE;refine⟨_,rfl,b',C,jc,_,_,rfl,h3 _ _ FJ,T.cl,T.nN,FK.name,_,rfl,b,C,dx,_,_,rfl,h3 _ _ hA,T.cl,T.nN,hF.name,rfl,_,rfl,?_⟩;refine bA (fun h=>?_) (fun h=>?_)
     . exact⟨_,rfl,eL _ _ _ ⟨_,rfl⟩ (ag.refl _) (bZ (by omega)) (by rw[bj,iN];omega)⟩
     . exact ii _ _ ⟨_,rfl⟩ (ag.refl _) (by omega)
   . rintro zs H3 dg h3 zl;refine bg ?_;intro tT;refine⟨(by show 0<=sizeLine;decide),fun p1 H1 n1 s1 e1=>?_⟩;have Bn:=h3.trans s1;refine⟨_,rfl,b,C,dx,_,_,rfl,Bn _ _ hA,T.cl,T.nS,hF.shuts,jE,rfl,⟨_,ae.of (Bn _ _ Bl)⟩,?_⟩;exact UC (ae.of (Bn _ _ Bl)) ⟨_,rfl,q p1 H1 (h3.free n1) Bn e1⟩
theorem Bo:aP [azz,azx,aAk,"faults",azP,"paths"] [azz,azx] (aA Ec):=aZ
theorem arh(F:bB K "clash_faults" Ec f fd)(T:Txt K mg C)(tm:aO K mg "paths_of" Ar Bp Bq):aj P w K mg base ak 2 f fd [azz,azx] (vz C):=by
 have UL:aj P w K mg base ak 1 Bp Bq [azz] (UE C):=ard tm.u T;have UM:=tm.u.binds1 (l:=[azz]) (fun _ _ _ _ _ _ _=>rfl);refine F.okL Bo ?_
 . intro aw A outer s H vs Q E hr h xX dX;obtain⟨v,a,xs,p,ps,rfl,hP,ha,bE,l1,l2,l3,l4,q⟩:=h;obtain⟨b,dx,fl,rk,m,pf,pn,jE,po,fx,rfl,hA,hF,_⟩:=id hP;have hlen:=bC bE;refine⟨_,(am (rA (i:=2) [azP] [azz] [0] Bo.nd rfl rfl eA rfl (cQ (pv 1)) (fun _ _ _ _=>(bc (i:=0) (show List.Nodup ([azP,azz]:Ls) by decide +kernel) rfl (Or.inl rfl))) (fun _ _ _ _=>nY (bY Rq (iD K (pv 0) rfl) (iD K (pv 1) rfl) (bT _))) (fun _ _ _ _=>(pv 0)))
    (am (aJ (i:=3) Bo.nd rfl (Or.inl rfl) (df ac))
    (am (eJ eI rfl (cQ (pv 2)) (bc (i:=4) Bo.nd rfl (Or.inr rfl))
    (am (aJ (i:=5) Bo.nd rfl (Or.inr rfl) (aG UL hr rfl tm UM (aa (pv 4) ac)))
     (av (cp (dj iO qU qV nW (pv 3) (aa (gF [azC] [azz,azP,"paths"] [0,4,5] eA rfl (cQ (aG UL hr rfl tm UM (aa (pv 0) ac))) (fun _ _ _ _=>(bc (i:=0) (show List.Nodup ([azC,azz,azP,"paths"]:Ls) by decide +kernel) rfl (Or.inl rfl))) (fun _ _ _ _=>nY (bY (Qf K) (pv 0) (pv 3) (by rfl))) (fun _ _ _ _=>(eV (aa bV (aa (iD K (pv 1) rfl) (aa (iD K (pv 2) rfl) (aa (pv 0) ac))))))) ac))))))
    (av (aV (pv 3)))))),?_⟩
   refine j6 ?_
   intros
   refine⟨_,rfl,a,rfl,⟨_,ae.of ha⟩,?_⟩;intro D hD;refine qm (σ0:=[none,some (.ref b)]) hD (ae.of ha) (fun σ=>∃v,σ=[v,some (.ref b)]) (fun j zs _=>zs.length<=j/\∃os,dQ C H zs os/\∀o∈os,o∈ps/\o.nm≠p.nm) ⟨_,rfl⟩ ⟨aI _,[],.nil,fun _ h=>nomatch h⟩ ?_ ?_
   . rintro j y zs σ H3 k k' hy ⟨v,rfl⟩ dg h3 ⟨zl,os,zp,zo⟩ eL ii;obtain⟨o,ho,hE⟩:=eE bE hy;have aN:=(cW.mp ho).1;obtain⟨b',jc,rL,E4,m',UG,UH,UI,UJ,UK,rfl,FJ,FK,_⟩:=id hE;refine⟨_,rfl,b',C,jc,_,_,rfl,h3 _ _ FJ,T.cl,T.nN,FK.name,_,rfl,b,C,dx,_,_,rfl,h3 _ _ hA,T.cl,T.nN,hF.name,_,_,rfl,rfl,_,rfl,?_⟩;refine bA (fun h=>?_) (fun h=>?_)
     . refine⟨_,rfl,eL _ _ _ ⟨_,rfl⟩ (ag.refl _) (bZ (by omega)) ⟨by rw[bj,iN];omega,os++[o],ju hE zp,fun o' iS=>?_⟩⟩
       rcases bS.mp iS with z | z
       . exact zo o' z
       . rw[bw.mp z];refine⟨eg ho,fun e=>?_⟩;have h:=cT h;rw[e]at h;exact WU _ h
     . exact ii _ _ ⟨_,rfl⟩ (ag.refl _) ⟨by omega,os,zp,zo⟩
   . rintro oz H0 d0 s0 ⟨zl,os,oz0,zo⟩;refine bg ?_;intro tT;refine⟨(by show 0<=sizeLine;decide),fun p1 H1 n1 s1 e1=>?_⟩;refine⟨_,rfl,D,rfl,⟨_,ae.of (s1 _ _ d0)⟩,?_⟩;have Bn:=s0.trans s1;refine iT (xs:=oz) (fun i σ H2=>∃u v,σ=[some (.ref b),some (.ref a),some (.ref D),some (.ref p1),u,v]/\ag H0 H2/\H2 p1=some (.lst [])) ⟨none,none,rfl,s1,e1⟩ ?_ ?_ ?_
     . rintro i σ H2 hi ⟨u,v,rfl,s2,e2⟩;exact ae.of (s2 _ _ d0)
     . intro i z σ H2 hz hQ;refine bg ?_;intro tT;obtain⟨u,v,rfl,s2,e2⟩:=hQ;obtain⟨o,ho,hE⟩:=eE oz0 hz;obtain⟨om,on⟩:=zo o (eg ho);have lo:=l3 o om;obtain⟨b',jc,rL,E4,m',UG,UH,UI,UJ,UK,rfl,FJ,FK,_⟩:=id hE;have tq:=s0.trans s2;refine⟨_,rfl,_,o,rfl,hE.same tq,by omega,fun l5 H5 n5 s5 e5=>?_⟩;have s25:=tq.trans s5;refine⟨_,rfl,.inl ⟨rfl,_,ae.of (s5 _ _ e2)⟩,_,rfl,_,p,rfl,hP.same s25,by omega,fun l6 H6 n6 s6 e6=>⟨l6,rfl,⟨_,ae.of e6⟩,?_⟩⟩;intro D7 oS;refine qm (σ0:=[none,some (.ref b),some (.ref b'),some (.ref l5)]) oS (ae.of e6) (fun σ=>∃v,σ=[v,some (.ref b),some (.ref b'),some (.ref l5)]) (fun j ky H7=>ky=[]) ⟨_,rfl⟩ rfl ?_ ?_
       . rintro j y ky σ H7 k k' hy ⟨v,rfl⟩ sX h7 rfl eL ii;rw[dH]at hy;cases hx:(sZ p)[j]? with
         | none=>rw[hx]at hy;cases hy
         | some x=>
          rw[hx]at hy;cases hy;refine⟨_,rfl,_,rfl,l5,_,rfl,.inl (ae.of (h7 _ _ (s6 _ _ e5))),rfl,AR _,_,rfl,?_⟩;refine bA (fun h=>?_) (fun h=>?_)
          . exact absurd (AX.mp h) (l4 o om on x (eg hx))
          . exact ii _ _ ⟨_,rfl⟩ (ag.refl _) rfl
       . rintro ky H7 sX h7 rfl;have vA:=s5.trans (s6.trans h7);have e27:=vA _ _ e2;refine⟨p1,D7,_,_,rfl,rfl,e27,sX,by decide,?_⟩;exact⟨_,_,rfl,sY n1 (s2.trans vA),aH⟩
     . rintro σ H2 ⟨u,v,rfl,s2,e2⟩;exact⟨_,rfl,q p1 H2 (s0.free n1) (s0.trans s2) e2⟩
def UN(C S:Addr):Sp:=fun vs H Q _=>∃(sv:V) (c:Addr) (xs:Lv) (ps:Lp) (ch:Ch) (ns:Ls),vs=[sv,.ref c]/\ja S H sv xs ps/\dQ C H xs ps/\Apart ns ps/\db H c ch/\qj xs ps ch/\ch.length<=4/\dL H (.lst []) Q
theorem FL:aP [azu,azA,azx,"faults",azz] [azu,azA] (aA D8):=aZ
theorem arl(F:bB K "faults_of" D8 f fd)(B:b9 mg)(T:Txt K mg C)(US:vc K mg S km)(ql:aU K azz "Shelf.parcel" p9 km qk)
 (oQ:aO K mg "parcels_of" Aq x5 x6) (Br:aO K mg "need_faults" Ea Mf Mi) (Bs:aO K mg "shut_faults" Eb Mg Mj)
 (Bt:aO K mg "clash_faults" Ec Mh Ml) (tm:aO K mg "paths_of" Ar Bp Bq):aj P w K mg base ak 3 f fd [azu,azA] (UN C S):=by
 have L7:aj P w K mg base ak 2 x5 x6 [azu,azA] (Ko S):=SW oQ.u B US ql;have L8:=oQ.u.binds2 (l:=[azu,azA]) (fun _ _ _ _ _ _ _ _=>rfl);have arm:aj P w K mg base ak 2 Mf Mi [azz,azx] (vz C):=(are Br.u B T).mono (by decide);have arn:=Br.u.binds2 (l:=[azz,azx]) (fun _ _ _ _ _ _ _ _=>rfl);have aro:aj P w K mg base ak 2 Mg Mj [azz,azx] (vz C):=(arf Bs.u B T).mono (by decide);have arp:=Bs.u.binds2 (l:=[azz,azx]) (fun _ _ _ _ _ _ _ _=>rfl);have arq:aj P w K mg base ak 2 Mh Ml [azz,azx] (vz C):=arh Bt.u T tm;have ars:=Bt.u.binds2 (l:=[azz,azx]) (fun _ _ _ _ _ _ _ _=>rfl);refine F.okL FL ?_
 . intro aw A outer s H vs Q E hr h xX dX;obtain⟨sv,c,xs,ps,ch,ns,rfl,hS,hP,Bu,hc,hV,h4,q⟩:=h;refine⟨_,(am (aJ (i:=2) FL.nd rfl (Or.inl rfl) (aG L7 hr rfl oQ L8 (aa (pv 0) (aa (pv 1) ac))))
    (am (aJ (i:=3) FL.nd rfl (Or.inl rfl) (df ac))
    (am (eJ eI rfl (cQ (pv 2)) (bc (i:=4) FL.nd rfl (Or.inl rfl))
    (am (cp (dj iO qU qV nW (pv 3) (aa (aG arm hr rfl Br arn (aa (pv 4) (aa (pv 2) ac))) ac)))
     (am (cp (dj iO qU qV nW (pv 3) (aa (aG aro hr rfl Bs arp (aa (pv 4) (aa (pv 2) ac))) ac)))
     (av (cp (dj iO qU qV nW (pv 3) (aa (aG arq hr rfl Bt ars (aa (pv 4) (aa (pv 2) ac))) ac)))))))
    (av (aV (dJ ahk (by rfl) B.sorted yV (aa (pv 3) ac))))))),?_⟩
   refine j6 ?_
   intros
   refine⟨_,rfl,_,rfl,sv,c,xs,ps,ch,rfl,hS,hc,hV,by omega,fun D H1 iX px n1 s1 e1 pr pn pc=>?_⟩;have ya:=Ta (hP.same s1) pr;have pm:=Tb pr;have dU:px.length<=4:=by
    have e:=pn.length_eq;rw[ao,ao]at e;omega
   refine⟨(by show 0<=sizeLine;decide),fun p1 H2 n2 s2 e2=>?_⟩;refine⟨_,rfl,D,rfl,⟨_,ae.of (s2 _ _ e1)⟩,?_⟩;refine iT (xs:=iX) (fun i σ H3=>∃u,σ=[some sv,some (.ref c),some (.ref D),some (.ref p1),u]/\ag H1 H3/\H3 p1=some (.lst [])) ⟨none,rfl,s2,e2⟩ ?_ ?_ ?_
   . rintro i σ H3 hi ⟨u,rfl,s3,e3⟩;exact ae.of (s3 _ _ e1)
   . intro i z σ H3 hz hQ;refine bg ?_;intro tT;obtain⟨u,rfl,s3,e3⟩:=hQ;obtain⟨p,hp,hE⟩:=eE ya hz;have pp:=pm p (eg hp);have go:∀{Hx:Hp}{Q:VK},ag H1 Hx->dL Hx (.lst []) Q->vz C [z,.ref D] Hx Q E0:=fun {Hx Q} sx q=>⟨z,D,iX,p,px,rfl,hE.same sx,sx _ _ e1,ya.same sx,by omega,by have:=(Bu.ok p pp).1;omega,fun o ho=>by have:=(Bu.ok o (pm o ho)).1;omega,fun o ho ne x hx gW=>ne (Bu.one o (pm o ho) p pp x gW hx),q⟩;refine⟨_,rfl,.inl ⟨rfl,_,ae.of e3⟩,_,rfl,_,rfl,go s3 fun D4 H4 n4 s4 e4=>?_⟩;have m4:ag H1 (ah H4 p1 (.lst ([]++[]))):=sY n2 (s3.trans s4);refine⟨p1,D4,_,_,rfl,rfl,s4 _ _ e3,e4,by decide,?_⟩;refine⟨_,rfl,.inl ⟨rfl,_,ae.of aH⟩,_,rfl,_,rfl,go m4 fun D5 H5 n5 s5 e5=>?_⟩;have m5:ag H1 (ah H5 p1 (.lst (([]++[])++[]))):=sY n2 (m4.trans s5);refine⟨p1,D5,_,_,rfl,rfl,s5 _ _ aH,e5,by decide,?_⟩;refine⟨_,rfl,.inl ⟨rfl,_,ae.of aH⟩,_,rfl,_,rfl,go m5 fun D6 H6 n6 s6 e6=>?_⟩;refine⟨p1,D6,_,_,rfl,rfl,s6 _ _ aH,e6,by decide,?_⟩;exact⟨_,rfl,sY n2 (m5.trans s6),aH⟩
   . rintro σ H3 ⟨u,rfl,s3,e3⟩;refine⟨_,rfl,p1,[],rfl,ae.of e3,by decide,fun bW pm' srt p4 H4 n4 s4 e4=>?_⟩;have ey:bW=[]:=pm'.eq_nil;subst ey;exact q p4 H4 (s1.free (s3.free n4)) (s1.trans (s3.trans s4)) e4
def Mm(C S:Addr):Sp:=fun vs H Q _=>∃(sv:V) (c:Addr) (xs:Lv) (ps:Lp) (ch:Ch) (ns:Ls),vs=[sv,.ref c]/\ja S H sv xs ps/\dQ C H xs ps/\Apart ns ps/\db H c ch/\qj xs ps ch/\ch.length<=4/\∀H',ag H H'->Q (.bl true) H'
theorem aru:aP [azu,azA] [azu,azA] (aA D9):=aZ
theorem arv(F:bB K "is_sound" D9 f fd)(B:b9 mg)(Bv:aO K mg "faults_of" D8 Mn Mo)(arw:aj P w K mg base ak 3 Mn Mo [azu,azA] (UN C S)):aj P w K mg base ak 4 f fd [azu,azA] (Mm C S):=by
 have arx:=Bv.u.binds2 (l:=[azu,azA]) (fun _ _ _ _ _ _ _ _=>rfl);refine F.ok aru (fun vs H Q E h=>?_) (fun aw A outer s H vs Q E hr h=>?_)
 . obtain⟨sv,c,xs,ps,ch,ns,rfl,_⟩:=h;rfl
 . obtain⟨sv,c,xs,ps,ch,ns,rfl,hS,hP,Bu,hc,hV,h4,q⟩:=h;refine⟨_,(av (aV (rf fw (dJ gD (by rfl) B.len gA (aa (aG arw hr rfl Bv arx (aa (pv 0) (aa (pv 1) ac))) ac)) aq (bT _)))),?_⟩;exact⟨_,rfl,_,rfl,sv,c,xs,ps,ch,ns,rfl,hS,hP,Bu,hc,hV,h4,fun r H1 n1 s1 e1=>⟨r,_,rfl,.inl (ae.of e1),rfl,q H1 s1⟩⟩
end K63
namespace K63
open PySem L2 PySem.Spec PyProof.Rows
variable {P:Program}{w:World}{K:Fg}{mg:Mv}{base:Heap}
seal PE PS cn PA PT PW PG gX PI gE
structure jN(C S:Addr)(H:Hp)(sv:V)(xs:Lv)(ps:Lp)(ns:Ls):Prop where
 sh:ja S H sv xs ps
 pc:dQ C H xs ps
 ap:Apart ns ps
 n4:ns.length<=4
 nm:∀n∈ns,cC n
theorem jN.same{H H':Hp}{sv:V}{xs:Lv}{ps:Lp}{ns:Ls}(h:jN C S H sv xs ps ns)(s:ag H H'):jN C S H' sv xs ps ns:=⟨h.sh.same s,h.pc.same s,h.ap,h.n4,h.nm⟩
theorem jN.pcok{H:Hp}{sv:V}{xs:Lv}{ps:Lp}{ns:Ls}(h:jN C S H sv xs ps ns):∀p∈ps,Ut ns p:=fun p hp=>by
 obtain⟨a,b,c⟩:=h.ap.ok p hp;obtain⟨d,e⟩:=h.ap.offs p hp;exact⟨a,fun f hf=>⟨(b f hf).2.2,(b f hf).2.1⟩,d,(h.nm _ (h.ap.nms p hp)).ln,fun t ht=>⟨⟨(h.nm t (e t ht)).ln,by have:=(h.nm t (e t ht)).hi;omega⟩,e t ht⟩⟩
structure eM(xs:Lv)(ps:Lp)(ch:Ch):Prop where
 nd:(ch.map (·.1)).Nodup
 va:qj xs ps ch
theorem Mp{xs:Lv}{ps:Lp}{v:V}{p:cf}(h:vd xs ps v p):p∈ps:=h.elim fun _ ary=>ary.elim fun a _=>eg a
theorem eM.len{xs:Lv}{ps:Lp}{ch:Ch}{ns:Ls}(h:eM xs ps ch)(a:Apart ns ps)(n4:ns.length<=4):ch.length<=4:=by
 have:=jp h.nd fun x hx=>by
  obtain⟨e,he,rfl⟩:=cD.mp hx;obtain⟨v,p,hi,e1,_⟩:=h.va e he;exact e1▸a.nms p (Mp hi)
 rw[ao]at this;omega
theorem arz{β:Type}{goal now:List (Str×β)}{x:Str}{e:Str×β}(h:e∈bF goal now x):e∈now\/e∈goal:=by
 unfold bF at h;split at h
 . rename_i m hm
   rcases rM h with z | z
   . right;rw[z];exact qt hm
   . exact .inl z
 . exact .inl (qL.mp h).1
theorem eM.step{xs:Lv}{ps:Lp}{now goal:Ch}(h:eM xs ps now)(g:eM xs ps goal)(x:Str):eM xs ps (bF goal now x):=⟨TK h.nd,fun e he=>(arz he).elim (h.va e) (g.va e)⟩
theorem eM.steps{xs:Lv}{ps:Lp}{goal:Ch}(g:eM xs ps goal):∀{us:Ls}{now:Ch},eM xs ps now->eM xs ps (us.foldl (bF goal) now)
 | [],_,h=>h
 | x::us,_,h=>eM.steps g (us:=us) (h.step g x)
theorem db.mut{H:Hp}{zs ky:Lv}{ch:Ch}(hD:H D=some (.lst zs))(h:db H c ch):db (ah H D (.lst ky)) c ch:=by
 obtain⟨kvs,h1,h2⟩:=h;exact⟨kvs,aB h1 (aK h1 hD (by intro z;cases z)),aE h2 fun kv e arA=>arA.elim fun a arB=>arB.elim fun m arC=>arC.elim fun b c=>⟨a,m,b,aB c (aK c hD (by intro z;cases z))⟩⟩
theorem Mq{H:Hp}{kvs:List (ar×V)}{fs:Ch}(h:Paired (dr H) kvs fs)(nd:(fs.map (·.1)).Nodup)(p:Str):(look fs p=none/\bh kvs (.inr p)=none)\/(∃m t,look fs p=some m/\bh kvs (.inr p)=some (.ref t)/\H t=some (.tup (m.map V.int))):=by
 have hk:∀kv f,dr H kv f->kv.1=Sum.inr f.1:=fun kv f z=>z.1
 by_cases hp:p∈fs.map (·.1)
 . obtain⟨v,m,e,hm,r⟩:=rO hk h hp;obtain⟨_,t,e2,e3⟩:=r;have e2:v=.ref t:=e2;exact .inr ⟨m,t,xN nd hm,by rw[e,e2],e3⟩
 . exact .inl ⟨fH.mpr hp,DG hk h hp⟩
def Mr:Oi->PySem.W.Dat
 | none=>.none
 | some m=>dI m
theorem arD{a b:Oi}(h:Mr a=Mr b):a=b:=by
 cases a with
 | none=>
  cases b with
  | none=>rfl
  | some y=>cases h
 | some x=>
  cases b with
  | none=>cases h
  | some y=>rw[aor.mp h]
def io(A:List Addr)(H:Hp)(v:V)(n:Str):Prop:=∃l,v=.ref l/\l∉A/\H l=some (.lst [.str n])
theorem io.same{A:List Addr}{H H':Hp}(s:ag H H'){v:V}{n:Str}(h:io A H v n):io A H' v n:=h.elim fun l arE=>arE.elim fun a arF=>arF.elim fun b c=>⟨l,a,b,s _ _ c⟩
theorem io.mut{A:List Addr}{H:Hp}(hD:D∈A){o:HO}{v:V}{n:Str}(h:io A H v n):io A (ah H D o) v n:=by
 obtain⟨l,a,b,c⟩:=h;exact⟨l,a,b,by rw[aW (show l≠D from fun z=>b (by rw[z];exact hD))];exact c⟩
theorem io.sub{A B:List Addr}(hs:∀x∈B,x∈A){H:Hp}{v:V}{n:Str}(h:io A H v n):io B H v n:=h.elim fun l arG=>arG.elim fun a arH=>arH.elim fun b c=>⟨l,a,fun z=>b (hs l z),c⟩
abbrev UO:Sp:=Lj dr fun _=>True
theorem arI(F:bB K aAb uO f fd)(B:b9 mg):aj P w K mg base ak 1 f fd [azX,azS] UO:=
 TU (Fv:=dr) (OK:=fun _=>True) (dat:=Mr) (fun _ _ _ z=>z.1) (fun s z=>dr.same s z) arD (fun h nd _ p=>by
  rcases Mq h nd p with⟨e1,e2⟩ | ⟨m,t,e1,e2,e3⟩
  . rw[e1,e2];exact⟨.non,rfl⟩
  . rw[e1,e2];exact⟨Ks e3,EV 8 m⟩) F B
def FM:Sp:=fun vs H Q _=>∃(a b c:Addr) (now goal:Ch) (x:Str),vs=[.ref a,.ref b,.ref c]/\db H a now/\db H b goal/\(now.map (·.1)).Nodup/\(goal.map (·.1)).Nodup/\H c=some (.lst [.str x])/\now.length<=50 /\
 ∀r H',H r=none->ag H H'->db H' r (bF goal now x)->Q (.ref r) H'
theorem Ms:aP [azU,azL,azY,"behind",azE] [azU,azL,azY] (aA xb):=aZ
theorem Mt(F:bB K aAs xb f fd)(B:b9 mg):aj P w K mg base ak 1 f fd [azU,azL,azY] FM:=by
 refine F.okL Ms ?_
 . intro aw A outer s H vs Q E hr h xX dX;obtain⟨a,b,c,now,goal,x,rfl,⟨kn,hn,pn⟩,⟨kg,hg,pg⟩,Lr,Lu,hc,hl,q⟩:=h;have hu:=hr.units;refine⟨_,(am (aJ (i:=3) Ms.nd rfl (Or.inl rfl) (eK C7 (by rfl) B.dict Oh (aa (pv 0) ac)))
    (am (eJ eI rfl (cQ (pv 2)) (bc (i:=4) Ms.nd rfl (Or.inl rfl))
    (av (cO (ww (CU hu (pv 4) (pv 1)) (by rfl))
     (av (jm hu (pv 3) (pv 4) (rn hu (pv 1) (pv 4) (fun _ _=>rfl)) rfl)) (av (cO (ww (CU hu (pv 4) (pv 3)) (by rfl))
      (av (cp (PJ (pv 3) (pv 4) ⟨rfl,rfl,rfl,rfl⟩))) dA)))))
    (av (aV (pv 3))))),?_⟩
   refine lw ?_;intro dD sS fE dP;have pl:=bC pn;have hk:∀kv f,dr H kv f->kv.1=Sum.inr f.1:=fun kv f z=>z.1;refine⟨_,rfl,a,_,rfl,hn,fun p1 H1 n1 s1 e1=>?_⟩;refine⟨_,rfl,c,rfl,⟨_,ae.of (s1 _ _ hc)⟩,?_⟩;refine iT (xs:=[.str x]) (fun i σ H2=>∃u kvs,σ=[some (.ref a),some (.ref b),some (.ref c),some (.ref p1),u]/\ag H H2/\H2 p1=some (.dK kvs)/\Paired (dr H) kvs (if i=0 then now else bF goal now x)) ⟨none,kn,rfl,s1,e1,pn⟩ ?_ ?_ ?_
   . rintro i σ H2 hi ⟨u,kvs,rfl,s2,_⟩;exact ae.of (s2 _ _ hc)
   . intro i x' σ H2 hx hQ;refine bg ?_;intro tT;obtain⟨u,kvs,rfl,s2,e2,p2⟩:=hQ;have i0:i=0:=by have:=(cW.mp hx).1;simpa using this
     subst i0;cases hx;rw[al rfl]at p2;have kl:=bC p2;have FN:=s2 _ _ hg;refine⟨_,rfl,_,rfl,b,_,rfl,c8.k (k:=.inr x) FN,_,rfl,?_⟩
     rcases Mq pg Lu x with⟨g1,g2⟩ | ⟨m,t,g1,g2,g3⟩
     . rw[g2];refine gk ?_;have es:bF goal now x=kB now x:=by unfold bF;rw[g1]
       refine⟨_,rfl,_,rfl,p1,_,rfl,c8.k (k:=.inr x) e2,_,rfl,?_⟩
       rcases Mq p2 Lr x with⟨k1,k2⟩ | ⟨m,t,k1,k2,k3⟩
       . rw[k2];refine gk ⟨_,kvs,rfl,s2,e2,?_⟩;rw[ai (by decide),es,Ld (fH.mp k1)];exact p2
       . rw[k2];refine gY ⟨_,rfl,p1,rfl,.inl ⟨_,.inl e2⟩,_,rfl,kvs,.inr x,.ref t,e2,rfl,k2,?_⟩;refine⟨_,_,rfl,sY n1 s2,aH,?_⟩;rw[ai (by decide),es];exact Lc hk p2
     . rw[g2];refine gY ⟨_,rfl,_,rfl,b,.ref t,rfl,by rw[←g2];exact c8.k (k:=.inr x) FN,_,rfl,_,rfl,p1,_,rfl,fT.k (k:=.inr x) e2 (bZ (by omega)),?_⟩;refine⟨_,_,rfl,sY n1 s2,aH,?_⟩;have es:bF goal now x=bI now x m:=by unfold bF;rw[g1]
       rw[ai (by decide),es];exact jv hk ⟨rfl,t,rfl,g3⟩ p2
   . rintro σ H2 ⟨u,kvs,rfl,s2,e2,p2⟩;rw[ai (by simp)]at p2;exact⟨_,rfl,q p1 H2 n1 s2 ⟨kvs,e2,aE p2 fun _ _=>dr.same s2⟩⟩
def UP:Sp:=fun vs H Q _=>∃(a b z:Addr) (names:Ls),vs=[.ref a,.ref b]/\H a=some (.lst [.ref z])/\H z=some (.lst [])/\H b=some (.lst (names.map V.str))/\names.length<=50 /\
 ∀l ys H',H l=none->ag H H'->H' l=some (.lst ys)->Paired (io [] H') ys names->Q (.ref l) H'
theorem Mu:aP [aAl,az9,"larger",azY] [aAl,az9] (aA Em):=aZ
theorem arJ(F:bB K "with_one_more" Em f fd)(B:b9 mg):aj P w K mg base ak 1 f fd [aAl,az9] UP:=by
 refine F.okL Mu ?_
 . intro aw A outer s H vs Q E hr h xX dX;obtain⟨a,b,z,names,rfl,ha,hz,hb,n1,q⟩:=h;refine⟨_,(am (aJ (i:=2) Mu.nd rfl (Or.inl rfl) (df ac))
    (am (eJ eI rfl (cQ (pv 0)) (bc (i:=3) Mu.nd rfl (Or.inr rfl))
    (av (cp (dj iO qU qV nW (pv 2) (aa (gF [azE] [azY] [3] eA rfl (cQ (pv 1)) (fun _ _ _ _=>(bc (i:=0) (show List.Nodup ([azE,azY]:Ls) by decide +kernel) rfl (Or.inl rfl))) (fun _ _ _ _=>nY (PW.pt (G8 (bY fw (dJ (agU K) (by rfl) B.len gA (aa (pv 1) ac)) aq (bT _)) (G7 (bY Rq (pv 0) (bJ (Ib K) (pv 1) (wx wz aq) (fun _ _=>rfl)) (bT _)))))) (fun _ _ _ _=>(aF wG (pv 1) (df (aa (pv 0) ac))))) ac)))))
    (av (aV (pv 2))))),?_⟩
   refine lw ?_;intro dD sS fE dP;refine⟨(by show 0<=sizeLine;decide),fun p1 H1 Kz s1 e1=>?_⟩;refine⟨_,rfl,a,rfl,⟨_,ae.of (s1 _ _ ha)⟩,?_⟩;refine iT (xs:=[.ref z]) (fun i σ H2=>∃u ys,σ=[some (.ref a),some (.ref b),some (.ref p1),u]/\ag H H2/\H2 p1=some (.lst ys)/\Paired (io [p1] H2) ys (if i=0 then [] else names)) ⟨none,[],rfl,s1,e1,.nil⟩ ?_ ?_ ?_
   . rintro i σ H2 hi ⟨u,ys,rfl,s2,_⟩;exact ae.of (s2 _ _ ha)
   . intro i x σ H2 hx hQ;refine bg ?_;intro tT;obtain⟨u,ys,rfl,s2,e2,p2⟩:=hQ;have i0:i=0:=by have:=(cW.mp hx).1;simpa using this
     subst i0;cases hx;cases p2;refine⟨_,rfl,.inl ⟨rfl,_,ae.of e2⟩,_,rfl,b,rfl,⟨_,ae.of (s2 _ _ hb)⟩,?_⟩;intro D hD;have nD:p1≠D:=fun z=>by rw[←z,e2]at hD;cases hD
     refine qm (σ0:=[none,some (.ref z)]) hD (ae.of (s2 _ _ hb)) (fun σ=>∃v,σ=[v,some (.ref z)]) (fun j ws H3=>Paired (io [D,p1] H3) ws (names.take j)) ⟨_,rfl⟩ .nil ?_ ?_
     . rintro j y ws σ H3 k k' hy ⟨v,rfl⟩ dg h3 hP eL ii;rw[dH]at hy;cases hn:names[j]? with
       | none=>rw[hn]at hy;cases hy
       | some n=>
        rw[hn]at hy;cases hy;have UQ:=h3 _ _ (s2 _ _ hz);have wl:=bC hP;rw[eG]at wl;refine⟨_,rfl,z,_,rfl,.inl (ae.of UQ),rfl,_,rfl,gY (gY ⟨_,rfl,_,rfl,(by show 1<=sizeLine;decide),fun p5 H5 n5 s5 e5=>?_⟩)⟩;refine⟨z,p5,_,_,rfl,rfl,s5 _ _ UQ,e5,(show 0+1<=sizeLine by decide),fun p6 H6 n6 s6 e6=>?_⟩;have UR:=s5.trans s6;refine eL _ _ _ ⟨_,rfl⟩ UR (bZ (by omega)) ?_;rw[qz hn];refine ju (io.mut (by simp) ⟨p6,rfl,?_,e6⟩) (aE hP fun _ _ z=>(z.same UR).mut (by simp));intro z;have Bw:H3 p6=none:=s5.free n6
        rcases aY.mp z with e | e
        . rw[e,dg]at Bw;cases Bw
        . rw[bw.mp e]at Bw;have:=h3 _ _ e2;rw[this]at Bw;cases Bw
     . rintro ws H3 dg h3 hP;rw[ao,eZ]at hP;have wl:=bC hP;have e23:=h3 _ _ e2;refine⟨p1,D,_,_,rfl,rfl,e23,dg,lq (by simp;omega),?_⟩;refine⟨_,_,rfl,sY Kz (s2.trans h3),aH,?_⟩;rw[ai (by decide)];exact aE hP fun _ _ z=>(z.mut (D:=p1) (by simp)).sub (by simp)
   . rintro σ H2 ⟨u,ys,rfl,s2,e2,p2⟩;rw[ai (by simp)]at p2;exact⟨_,rfl,q p1 ys H2 Kz s2 e2 (aE p2 fun _ _ z=>z.sub (by simp))⟩
def UU(C S:Addr):Sp:=fun vs H Q _=>∃(sv:V) (a b c:Addr) (xs:Lv) (ps:Lp) (ns:Ls) (now goal:Ch) (x:Str) (names:Ls),vs=[sv,.ref a,.ref b,.ref c]/\jN C S H sv xs ps ns/\db H a now/\db H b goal/\eM xs ps now/\eM xs ps goal/\H c=some (.lst ((x::names).map V.str))/\names.length<=40 /\
 ∀l H',ag H H'->H' l=some (.lst [.str x])->Q (.ref l) H'
theorem Bx:aP [azu,azU,azL,az9,aAl,aAm,azY] [azu,azU,azL,az9] (aA El):=aZ
theorem arL(F:bB K "first_group" El f fd)(B:b9 mg)(By:aO K mg "with_one_more" Em Mw Mx)(je:aO K mg aAs xb qA qB)
 (Bz:aO K mg "is_sound" D9 FO FP) (My:aj P w K mg base ak 4 FO FP [azu,azA] (Mm C S)):aj P w K mg base ak 5 f fd [azu,azU,azL,az9] (UU C S):=by
 have arM:aj P w K mg base ak 4 Mw Mx [aAl,az9] UP:=(arJ By.u B).mono (by decide);have arN:=By.u.binds2 (l:=[aAl,az9]) (fun _ _ _ _ _ _ _ _=>rfl);have BA:aj P w K mg base ak 4 qA qB [azU,azL,azY] FM:=(Mt je.u B).mono (by decide);have BB:=je.u.binds3 (l:=[azU,azL,azY]) (fun _ _ _ _ _ _ _ _ _=>rfl);have arO:=Bz.u.binds2 (l:=[azu,azA]) (fun _ _ _ _ _ _ _ _=>rfl);refine F.okL Bx ?_
 . intro aw A outer s H vs Q E hr h xX dX;obtain⟨sv,a,b,c,xs,ps,ns,now,goal,x,names,rfl,hW,hA,hB,k1,k2,hc,n40,q⟩:=h;refine⟨_,(am (aJ (i:=4) Bx.nd rfl (Or.inl rfl) (df (aa (df ac) ac)))
    (am (eJ eI rfl (OP rfl B.range (aa aq (aa (dJ gD (by rfl) B.len gA (aa (pv 3) ac)) ac))) (bc (i:=5) Bx.nd rfl (Or.inl rfl))
    (am (aJ (i:=4) Bx.nd rfl (Or.inl rfl) (aG arM hr rfl By arN (aa (pv 4) (aa (pv 3) ac))))
     (av (eJ eI rfl (cQ (pv 4)) (bc (i:=6) Bx.nd rfl (Or.inl rfl))
     (av (cO (kS (aG My hr rfl Bz arO (aa (pv 0) (aa (aG BA hr rfl je BB (aa (pv 1) (aa (pv 2) (aa (pv 6) ac)))) ac))))
      (av (aV (pv 6))) dA))))))
    (av (aV (pv 3))))),?_⟩
   refine lw ?_;intro dD sS fE dP;refine⟨(by show 0<=sizeLine;decide),fun p1 H1 n1 s1 e1=>?_⟩;refine⟨(by show 1<=sizeLine;decide),fun p2 H2 n2 s2 e2=>?_⟩;have bU:=s1.trans s2;have el:(((x::names).map V.str).length:Int)=1+(names.length:Int):=by rw[ao,cg];omega
   refine⟨_,rfl,c,_,rfl,.inl (ae.of (bU _ _ hc)),1,_,rfl,⟨by omega,by omega,by omega,by omega⟩,?_⟩;refine uc (fun i σ H3=>i=0/\σ=[some sv,some (.ref a),some (.ref b),some (.ref c),some (.ref p2),none,none]/\H3=H2) ⟨rfl,rfl,rfl⟩ ?_ ?_
   . rintro i σ H3 hi ⟨rfl,rfl,rfl⟩;refine bg ?_;intro tT;refine⟨_,rfl,_,rfl,p2,c,p1,x::names,rfl,e2,s2 _ _ e1,bU _ _ hc,by rw[cg];omega,fun l ys H4 n4 s4 e4 pr=>?_⟩;refine⟨_,rfl,l,rfl,⟨_,ae.of e4⟩,?_⟩;cases pr with
     | @cons y _ bW _ hy pr'=>
     obtain⟨yl,rfl,_,UV⟩:=hy;refine iT (xs:=.ref yl::bW) (fun j σ H5=>j=0/\σ=[some sv,some (.ref a),some (.ref b),some (.ref c),some (.ref l),some (.int (1+(0:Nat))),none]/\H5=H4) ⟨rfl,rfl,rfl⟩ ?_ ?_ ?_
     . rintro j σ H5 hj ⟨rfl,rfl,rfl⟩;exact ae.of e4
     . rintro j z σ H5 hz ⟨rfl,rfl,rfl⟩;cases hz;have vq:=bU.trans s4;have l4:=k1.len hW.ap hW.n4;refine⟨_,rfl,_,rfl,_,rfl,_,rfl,a,b,yl,now,goal,x,rfl,hA.same vq,hB.same vq,k1.nd,k2.nd,UV,by omega,fun r H6 n6 s6 c6=>?_⟩;have k3:=k1.step k2 x;have W6:=hW.same (vq.trans s6);refine⟨sv,r,xs,ps,_,ns,rfl,W6.sh,W6.pc,W6.ap,c6,k3.va,k3.len hW.ap hW.n4,fun H7 s7=>⟨_,rfl,gY ?_⟩⟩;exact⟨_,rfl,q yl H7 ((vq.trans s6).trans s7) ((s6.trans s7) _ _ UV)⟩
     . rintro σ H5 ⟨h,_⟩;exact absurd h (by simp)
   . rintro σ H3 ⟨h,rfl,rfl⟩;have n0:names=[]:=Cn.mp (by omega);rw[n0]at hc;exact⟨_,rfl,q c _ bU (bU _ _ hc)⟩
def Mz(C S:Addr):Sp:=fun vs H Q _=>∃(sv:V) (a b:Addr) (xs:Lv) (ps:Lp) (ns:Ls) (now goal:Ch),vs=[sv,.ref a,.ref b]/\jN C S H sv xs ps ns/\db H a now/\db H b goal/\eM xs ps now/\eM xs ps goal /\
 ∀l zs us H',H l=none->ag H H'->H' l=some (.lst zs)->jM now goal us->Paired (io [l] H') zs us->Q (.ref l) H'
theorem vB:aP [azu,azU,azL,aAl,"reached","left",azY] [azu,azU,azL] (aA Ek):=aZ
theorem arP(F:bB K "groups_to" Ek f fd)(B:b9 mg)(BC:aO K mg "first_group" El MA MB)(arQ:aj P w K mg base ak 5 MA MB [azu,azU,azL,az9] (UU C S))
 (je:aO K mg aAs xb qA qB) (mO:aO K mg aAb uO xP xQ):aj P w K mg base ak 6 f fd [azu,azU,azL] (Mz C S):=by
 have BA:aj P w K mg base ak 1 qA qB [azU,azL,azY] FM:=Mt je.u B;have Fl:aj P w K mg base ak 1 xP xQ [azX,azS] UO:=arI mO.u B;have arR:=BC.u.binds4 (l:=[azu,azU,azL,az9]) (fun _ _ _ _ _ _ _ _ _ _=>rfl);have BB:=je.u.binds3 (l:=[azU,azL,azY]) (fun _ _ _ _ _ _ _ _ _=>rfl);have Fm:=mO.u.binds2 (l:=[azX,azS]) (fun _ _ _ _ _ _ _ _=>rfl);refine F.okL vB ?_
 . intro aw A outer s H vs Q E hr h xX dX;obtain⟨sv,a,b,xs,ps,ns,now,goal,rfl,hW,hA,hB,cA,cB,q⟩:=h;have dC:=hr.mono (j:=1) (by decide);have nl:=cA.len hW.ap hW.n4;have gl:=cB.len hW.ap hW.n4;refine⟨_,(am (aJ (i:=3) vB.nd rfl (Or.inl rfl) (df ac))
    (am (aJ (i:=4) vB.nd rfl (Or.inl rfl) (pv 1))
    (am (aJ (i:=5) vB.nd rfl (Or.inl rfl) (aG Fl dC rfl mO Fm (aa (pv 4) (aa (pv 2) ac))))
    (am (OM eI (bY OX (dJ gD (by rfl) B.len gA (aa (pv 5) ac)) aq (bT _)) (am (aJ (i:=6) vB.nd rfl (Or.inl rfl) (aG arQ hr rfl BC arR (aa (pv 0) (aa (pv 4) (aa (pv 2) (aa (pv 5) ac))))))
     (am (cp (dj iO yW yX rj (pv 3) (aa (pv 6) ac)))
     (am (aJ (i:=4) vB.nd rfl (Or.inl rfl) (aG BA dC rfl je BB (aa (pv 4) (aa (pv 2) (aa (pv 6) ac)))))
     (av (aJ (i:=5) vB.nd rfl (Or.inl rfl) (aG Fl dC rfl mO Fm (aa (pv 4) (aa (pv 2) ac)))))))))
    (av (aV (pv 3))))))),?_⟩
   refine Iq ?_;intro dD sS EM oH fE dP;refine⟨(by show 0<=sizeLine;decide),fun p1 H1 n1 s1 e1=>?_⟩;refine⟨_,rfl,?_⟩;obtain⟨ka,ha1,ha2⟩:=hA.same s1;obtain⟨kb,xM,iG⟩:=hB.same s1;refine⟨_,rfl,_,rfl,a,b,ka,kb,now,goal,rfl,ha1,xM,ha2,iG,cA.nd,cB.nd,trivial,trivial,A1 (by omega),fun l2 H2 us n2 s2 e2 U=>?_⟩;have bU:=s1.trans s2;have ul:=U.len;refine⟨fun m σ H3=>∃i re lf u zs,m=us.length - i/\i<=us.length/\σ=[some sv,some (.ref a),some (.ref b),some (.ref p1),some (.ref re),some (.ref lf),u]/\ag H H3/\H3 p1=some (.lst zs)/\Paired (io [p1] H3) zs (us.take i)/\db H3 re ((us.take i).foldl (bF goal) now)/\lf≠p1/\H3 lf=some (.lst ((us.drop i).map V.str)),
    ⟨_,0,a,l2,none,[],rfl,dG _,rfl,bU,s2 _ _ e1,.nil,hA.same bU,(aL e1 n2).symm,e2⟩,?_⟩
   intro m σ H3 hQ;refine bg ?_;intro tT;obtain⟨i,re,lf,u,zs,rfl,hi,rfl,s3,e3,p3,c3,nlf,el⟩:=hQ;have zl:=bC p3;rw[eG]at zl;have k3:eM xs ps ((us.take i).foldl (bF goal) now):=cB.steps cA;refine⟨_,rfl,lf,_,rfl,.inl (ae.of el),_,_,rfl,rfl,_,rfl,?_⟩;refine bA (fun h=>?_) (fun h=>?_)
   . have rE:(0:Int)<(((us.drop i).map V.str).length:Int):=cT h;rw[ao,nw]at rE;have aN:i<us.length:=by omega
     have hx:us[i]?=some us[i]:=jl aN;have ed:us.drop i=us[i]::us.drop (i+1):=NX aN;rw[ed]at el;refine⟨fun σ' H'=>∃m',m'<us.length - i/\∃i re lf u zs,m'=us.length - i/\i<=us.length/\σ'=[some sv,some (.ref a),some (.ref b),some (.ref p1),some (.ref re),some (.ref lf),u]/\ag H H'/\H' p1=some (.lst zs)/\Paired (io [p1] H') zs (us.take i)/\db H' re ((us.take i).foldl (bF goal) now)/\lf≠p1/\H' lf=some (.lst ((us.drop i).map V.str)),fun σ' H' h=>h,?_⟩;refine j6 ?_
     intros
     refine⟨_,rfl,_,rfl,_,rfl,_,rfl,sv,re,b,lf,xs,ps,ns,_,goal,us[i],us.drop (i+1),rfl,hW.same s3,c3,hB.same s3,k3,cB,el,by rw[nw];omega,fun l4 H4 s4 e4=>?_⟩;have FQ:=s4 _ _ e3;have n4:l4≠p1:=fun z=>by
      rw[z,FQ]at e4;injection e4 with e4
      injection e4 with e4
      rw[e4]at p3;obtain⟨_,_,l,hl,_⟩:=eE (i:=0) p3 rfl;cases hl
     refine⟨_,rfl,.inl ⟨rfl,_,ae.of FQ⟩,_,rfl,p1,_,_,rfl,rfl,FQ,bZ (by omega),?_⟩;have m5:ag H (ah H4 p1 (.lst (zs++[.ref l4]))):=sY n1 (s3.trans s4);have cc:db (ah H4 p1 (.lst (zs++[.ref l4]))) re ((us.take i).foldl (bF goal) now):=db.mut FQ (c3.same s4);have e5:ah H4 p1 (.lst (zs++[.ref l4])) l4=some (.lst [.str us[i]]):=by rw[aW n4];exact e4
     have cl:=k3.len hW.ap hW.n4;refine⟨_,rfl,_,rfl,_,rfl,re,b,l4,_,goal,us[i],rfl,cc,hB.same m5,k3.nd,cB.nd,e5,by omega,fun r6 H6 n6 s6 c6=>?_⟩;have st:bF goal ((us.take i).foldl (bF goal) now) us[i]=(us.take (i+1)).foldl (bF goal) now:=by rw[qz hx,qT];rfl
     rw[st]at c6;have k6:eM xs ps ((us.take (i+1)).foldl (bF goal) now):=cB.steps cA;have cl6:=k6.len hW.ap hW.n4;obtain⟨kr,arU,arV⟩:=id c6;obtain⟨kg,hg1,FN⟩:=hB.same (m5.trans s6);refine⟨_,rfl,_,rfl,r6,b,kr,kg,_,goal,rfl,arU,hg1,arV,FN,k6.nd,cB.nd,trivial,trivial,A1 (by omega),fun l7 H7 us7 n7 s7 e7 U7=>?_⟩;have eu:us7=us.drop (i+1):=U7.eq (U.drop (i+1));subst eu;have vA:=s6.trans s7;have e57:=vA _ _ (aH (H:=H4) (a:=p1) (o:=.lst (zs++[.ref l4])));refine⟨_,(show us.length - (i+1)<us.length - i by omega),i+1,r6,l7,_,_,rfl,aN,rfl,m5.trans vA,e57,?_,c6.same s7,(aL (s6 _ _ aH) n7).symm,e7⟩;rw[qz hx];exact ju ⟨l4,rfl,by simpa using n4,vA _ _ e5⟩ (aE p3 fun _ _ z=>((z.same s4).mut (by simp)).same vA)
   . have l0:i=us.length:=Op fun z=>h (bN (by
      show(0:Int)<(((us.drop i).map V.str).length:Int);rw[ao,nw];omega))
     subst l0;rw[eZ]at p3;exact⟨_,rfl,q p1 zs us H3 n1 s3 e3 U p3⟩
end K63
namespace K63
open PySem L2 PySem.Spec
variable {H H2 H3:Hp}{dc dh dO:Addr}{ch:Ch}{cs:Cs}{ow:Ow}
theorem dr.put{H1:Hp}{ks nz:List (ar×V)}(hd:H1 d=some (.dK ks)){kv:ar×V}{e:Str×List Int}(h:dr H1 kv e):dr (ah H1 d (.dK nz)) kv e:=h.elim fun a arZ=>arZ.elim fun m ar0=>ar0.elim fun b c=>⟨a,m,b,aB c (aK c hd (by intro z;cases z))⟩
theorem jA.put{H1:Hp}{ks nz:List (ar×V)}(hd:H1 d=some (.dK ks)){kv:ar×V}{e:Str×(Ls×Ls)}(h:jA H1 kv e):jA (ah H1 d (.dK nz)) kv e:=
 h.elim fun a ar1=>ar1.elim fun t ar2=>ar2.elim fun l1 ar3=>ar3.elim fun l2 ar4=>ar4.elim fun b ar5=>ar5.elim fun c ar6=>ar6.elim fun d' f=>⟨a,t,l1,l2,b,aB c (aK c hd (by intro z;cases z)),aB d' (aK d' hd (by intro z;cases z)),aB f (aK f hd (by intro z;cases z))⟩
structure mS(ch:Ch)(cs:Cs)(ow:Ow):Prop where
 ok:wY ch cs ow
 d1:(ch.map (·.1)).Nodup
 d2:(cs.map (·.1)).Nodup
 d3:(ow.map (·.1)).Nodup
 n1:ch.length<=4
 n2:cs.length<=4
 n3:ow.length<=5
 ln:∀e∈ow,e.2.1.length<=4/\e.2.2.length<=4
structure lK(H H2:Hp)(dc dh dO:Addr)(ch:Ch)(cs:Cs)(ow:Ow):Prop where
 old:ag H H2
 nc:H dc=none
 nh:H dh=none
 no:H dO=none
 d1:dc≠dh
 d2:dc≠dO
 d3:dh≠dO
 ch:db H2 dc ch
 cs:xn H2 dh cs
 ow:si H2 dO ow
theorem lK.same(N:lK H H2 dc dh dO ch cs ow)(s:ag H2 H3):lK H H3 dc dh dO ch cs ow:=⟨N.old.trans s,N.nc,N.nh,N.no,N.d1,N.d2,N.d3,N.ch.same s,N.cs.same s,N.ow.same s⟩
theorem lK.putH(N:lK H H2 dc dh dO ch cs ow){kh:List (ar×V)}(hh:H2 dh=some (.dK kh)){c n:Str}:lK H (ah H2 dh (.dK (cz kh (.inr c) (.str n)))) dc dh dO ch (bI cs c n) ow:=by
 obtain⟨kc,a1,a2⟩:=N.ch;obtain⟨kh',b1,b2⟩:=N.cs;rw[hh]at b1;cases b1;obtain⟨ko,o1,o2⟩:=N.ow;exact⟨fun b z e=>aB (N.old b z e) (aL e N.nh),N.nc,N.nh,N.no,N.d1,N.d2,N.d3,⟨kc,aB a1 N.d1,aE a2 fun _ _=>dr.put hh⟩,⟨_,aH,jv (F:=uT) (fun kv f z=>z.1) (x:=c) (ls:=n) (v:=.str n) ⟨rfl,rfl⟩ b2⟩,⟨ko,aB o1 N.d3.symm,aE o2 fun _ _=>jA.put hh⟩⟩
theorem lK.putO(N:lK H H2 dc dh dO ch cs ow){ko:List (ar×V)}(ho:H2 dO=some (.dK ko)){p:Str}{b m:Ls}{t l1 l2:Addr}(ht:H2 t=some (.tup [.ref l1,.ref l2]))(h1:H2 l1=some (.lst (b.map V.str)))(h2:H2 l2=some (.lst (m.map V.str))):lK H (ah H2 dO (.dK (cz ko (.inr p) (.ref t)))) dc dh dO ch cs (bI ow p (b,m)):=by
 obtain⟨kc,a1,a2⟩:=N.ch;obtain⟨kh,b1,b2⟩:=N.cs;obtain⟨JS,o1,o2⟩:=N.ow;rw[ho]at o1;cases o1;exact⟨fun b z e=>aB (N.old b z e) (aL e N.no),N.nc,N.nh,N.no,N.d1,N.d2,N.d3,⟨kc,aB a1 N.d2,aE a2 fun _ _=>dr.put ho⟩,⟨kh,aB b1 N.d3,b2⟩,⟨_,aH,aE (jv (F:=jA H2) (fun kv f z=>z.1) (x:=p) (ls:=(b,m)) (v:=.ref t) ⟨rfl,t,l1,l2,rfl,ht,h1,h2⟩ o2) fun _ _=>jA.put ho⟩⟩
structure lL(ch:Ch)(cs:Cs)(ow:Ow)(a b c:Nat):Prop where
 ok:wY ch cs ow
 d1:(ch.map (·.1)).Nodup
 d2:(cs.map (·.1)).Nodup
 d3:(ow.map (·.1)).Nodup
 n1:ch.length<=a
 n2:cs.length<=b
 n3:ow.length<=c
 ln:∀e∈ow,e.2.1.length<=4/\e.2.2.length<=4
theorem lL.putH{ch:Ch}{cs:Cs}{ow:Ow}{a b c:Nat}(o:lL ch cs ow a b c){n m:Str}(h1:cC n)(h2:cC m):lL ch (bI cs n m) ow a (b+1) c:=
 ⟨⟨o.ok.ch,fun e he=>(rM he).elim (fun z=>by rw[z];exact⟨h1,h2⟩) (o.ok.cs e),o.ok.ow⟩,o.d1,lE o.d2,o.d3,o.n1,cu (j7 _ _ _) (WT o.n2),o.n3,o.ln⟩
theorem lL.putO{ch:Ch}{cs:Cs}{ow:Ow}{a b c:Nat}(o:lL ch cs ow a b c){p:Str}{x y:Ls}(h1:dW p)(h2:∀z∈x,iY z)(h3:∀z∈y,iY z)(h4:x.length<=4)(h5:y.length<=4):lL ch cs (bI ow p (x,y)) a b (c+1):=
 ⟨⟨o.ok.ch,o.ok.cs,fun e he=>(rM he).elim (fun z=>by rw[z];exact⟨h1,h2,h3⟩) (o.ok.ow e)⟩,o.d1,o.d2,lE o.d3,o.n1,o.n2,cu (j7 _ _ _) (WT o.n3),fun e he=>(rM he).elim (fun z=>by rw[z];exact⟨h4,h5⟩) (o.ln e)⟩
theorem lL.mono{ch:Ch}{cs:Cs}{ow:Ow}{a b c a' b' c':Nat}(o:lL ch cs ow a b c)(h1:a<=a')(h2:b<=b')(h3:c<=c'):lL ch cs ow a' b' c':=⟨o.ok,o.d1,o.d2,o.d3,cu o.n1 h1,cu o.n2 h2,cu o.n3 h3,o.ln⟩
theorem mS.bnd{ch:Ch}{cs:Cs}{ow:Ow}(h:mS ch cs ow):EJ ch cs ow where
 nch:=by have:=h.n1;omega
 ncs:=by have:=h.n2;omega
 now:=by have:=h.n3;omega
 dch:=h.d1
 dcs:=h.d2
 dow:=h.d3
 ch:=fun e he=>⟨by have:=(h.ok.ch e he).1.hi;omega,(h.ok.ch e he).2.ok⟩
 cs:=fun e he=>⟨by have:=(h.ok.cs e he).1.hi;omega,by have:=(h.ok.cs e he).2.hi;omega⟩
 ow:=fun e he=>by
  obtain⟨⟨ps,e1,p1,p2,p3⟩,l1,l2⟩:=h.ok.ow e he;obtain⟨k1,k2⟩:=h.ln e he;refine⟨?_,by omega,by omega,fun x hx=>(l1 x hx).hi,fun x hx=>(l2 x hx).hi⟩;rw[e1];have:=JU (sep:=pY) (b:=8) (fun p hp=>(p3 p hp).hi) (by rw[Jp];decide);omega
theorem cC.ok{x:Str}(h:cC x):gm x:=wF.mpr fun c hc=>by have:=h.az c hc;omega
theorem mS.perm{ch:Ch}{cs:Cs}{ow:Ow}(h:mS ch cs ow){bq:Ch}{bv:Cs}{bi:Ow}(p1:bq.Perm ch)(p2:bv.Perm cs)(p3:bi.Perm ow):mS bq bv bi where
 ok:=⟨fun e he=>h.ok.ch e (p1.mem_iff.mp he),fun e he=>h.ok.cs e (p2.mem_iff.mp he),fun e he=>h.ok.ow e (p3.mem_iff.mp he)⟩
 d1:=(p1.map _).nodup_iff.mpr h.d1
 d2:=(p2.map _).nodup_iff.mpr h.d2
 d3:=(p3.map _).nodup_iff.mpr h.d3
 n1:=by have:=p1.length_eq;have:=h.n1;omega
 n2:=by have:=p2.length_eq;have:=h.n2;omega
 n3:=by have:=p3.length_eq;have:=h.n3;omega
 ln:=fun e he=>h.ln e (p3.mem_iff.mp he)
theorem mS.rows{ch:Ch}{cs:Cs}{ow:Ow}(h:mS ch cs ow):(ff ch cs ow).length<=53:=by
 have:∀(l:Ow),(∀e∈l,e∈ow)->(l.flatMap dM).length<=l.length * 9:=by
  intro l
  induction l with
  | nil=>intro _;exact dG _
  | cons e l ih=>
   intro hm;have h1:=ih fun x hx=>hm x (bR _ hx);obtain⟨h2,h3⟩:=h.ln e (hm e bK);rw[GZ,bj,cg];have:(dM e).length<=9:=by
    unfold dM;simp only[bj,ao,cg,kL];omega
   omega
 have h3:=this ow fun e he=>he;have:=h.n1;have:=h.n2;have:=h.n3;have h4:ow.length * 9<=5 * 9:=Oj _ (by omega);unfold ff;rw[bj,bj,ao,ao];omega
theorem ar7:mS [] [] []:=⟨⟨(fun _ h=>nomatch h),(fun _ h=>nomatch h),(fun _ h=>nomatch h)⟩,kM,kM,kM,by decide,by decide,by decide,(fun _ h=>nomatch h)⟩
theorem ye{β:Type}:dN ([]:List (Str×β)) []:=⟨.nil,rfl⟩
open PyProof.Rows
variable {P:Program}{w:World}{K:Fg}{mg:Mv}{base:Heap}
seal PE PS cn PA PT PW PG gX PI gE
abbrev Bk:=List (Str×Str)
def mT(H:Hp)(v:V)(e:Str×Str):Prop:=∃t,v=.ref t/\H t=some (.tup [.str e.1,.str e.2])
theorem mT.same{H H':Hp}(s:ag H H'){v:V}{e:Str×Str}(h:mT H v e):mT H' v e:=h.elim fun t ar8=>ar8.elim fun a b=>⟨t,a,s _ _ b⟩
def UW(bk:Bk):Prop:=∀e∈bk,gm e.1/\gm e.2
def fZ:Str×Str:=("end","")
def dE:Str:="begin"
def dF(bk:Bk):Bool:=match bk.getLast? with
 | none=>true
 | some e=>decide (e=fZ)
theorem ar9{H:Hp}{tb:Lv}{bk:Bk}(h:Paired (mT H) tb bk):(tb=[]/\bk=[])\/∃xL t cV e,tb=xL++[.ref t]/\bk=cV++[e]/\H t=some (.tup [.str e.1,.str e.2]):=by
 induction h with
 | nil=>exact .inl ⟨rfl,rfl⟩
 | @cons v e tb bk r t ih=>
  rcases ih with⟨e1,e2⟩ | ⟨xL,t',cV,e',e1,e2,e3⟩
  . subst e1 e2;obtain⟨t,rfl,ht⟩:=r;exact .inr ⟨[],t,[],e,rfl,rfl,ht⟩
  . subst e1 e2;exact .inr ⟨v::xL,t',e::cV,e',rfl,rfl,e3⟩
theorem UX(r:Lv)(v:V):cy (r++[v]) (-1)=some v:=by
 unfold cy;have e:pJ (r++[v]).length (-1)=some r.length:=by
  unfold pJ;rw[bj,iN,ai (by omega),al (by omega)]
  congr 1
  omega
 rw[e];show(r++[v])[r.length]?=_;rw[GP (aI _),Nat.sub_self];rfl
def BD(D:Addr):Sp:=fun vs H Q _=>∃(x dx d b:Addr) (v:V) (tb:Lv) (bk:Bk),vs=[.ref x]/\H x=some (.ins D dx (bP d b v))/\H b=some (.lst tb)/\Paired (mT H) tb bk/\UW bk/\∀H',ag H H'->Q (.bl (dF bk)) H'
theorem UY:aP [azy,"book"] [azy] (aA xg):=aZ
theorem asa(F:bB K "is_up" xg f fd)(B:b9 mg)(T:ik K mg D f1 im f3 f4 f5 f6 f7)(lN:aU K aAp "Disk.book_now" qb im mV):aj P w K mg base ak 2 f fd [azy] (BD D):=by
 have BE:aj P w K mg base ak 1 im mV [azt] (Ff D):=Lf lN T B;have BF:=lN.binds1 (l:=[azt]) (fun _ _ _ _ _ _ _=>rfl);refine F.okL UY ?_
 . intro aw A outer s H vs Q E hr h xX dX;obtain⟨x,dx,d,b,v,tb,bk,rfl,hx,hb,pb,ok,q⟩:=h;have hu:=hr.units;refine⟨_,(am (aJ (i:=1) UY.nd rfl (Or.inl rfl) (rh (pv 0) T.cl T.mBNo BE hr BF .nil fA))
    (av (aV (OF (rf fw (dJ gD (by rfl) B.len gA (aa (pv 1) ac)) aq (bT _)) (Hd (rf (C0 hu) (bJ fR (pv 1) (wx wz aq) (fun _ _=>rfl)) (eV (aa bV (aa bV ac))) (bT _))))))),?_⟩
   refine⟨_,rfl,x,dx,_,rfl,hx,rfl,x,dx,d,b,v,tb,rfl,hx,hb,fun r H1 n1 s1 e1=>?_⟩;refine⟨_,rfl,r,_,rfl,.inl (ae.of e1),rfl,_,rfl,?_⟩
   rcases ar9 pb with⟨rfl,rfl⟩ | ⟨xL,t,cV,e,rfl,rfl,ht⟩
   . exact gY (q H1 s1)
   . refine bA (fun h=>?_) (fun h=>?_)
     . have h:=cT h;injection h with h
       rw[bj,iN]at h;omega
     . refine⟨_,rfl,_,rfl,r,_,_,_,rfl,rfl,ae.of e1,UX _ _,(by show 2<=sizeLine;decide),fun p2 H2 n2 s2 e2=>?_⟩;obtain⟨o1,o2⟩:=ok e (eF _ (bw.mpr rfl));refine⟨.tuple [.str e.1,.str e.2],.tuple [.str fZ.1,.str fZ.2],.tup (aX.of ((s1.trans s2) _ _ ht)) (.cons (.str _) (.cons (.str _) .nil)),.tup (aX.of e2) (.cons (.str _) (.cons (.str _) .nil)),?_,?_,fun bb rC=>?_⟩
       . simp only[PySem.W.kqdOk,NT,List.all_nil,Bool.and_true,gR];exact⟨o1,o2⟩
       . simp only[PySem.W.kqdOk,NT,List.all_nil,Bool.and_true,gR];exact⟨by decide +kernel,by decide +kernel⟩
       . have eb:bb=dF (cV++[e]):=by
          unfold dF;rw[WX,ayb,Option.some_or];show bb=decide (e=fZ);rw[Cb,rC,WV];refine⟨fun h=>?_,fun h=>by rw[h]⟩;injection h with h
          injection h with h1 h2
          injection h1 with h1
          injection h2 with h2
          injection h2 with h2
          exact Prod.ext h1 h2
         rw[eb];exact q H2 (s1.trans s2)
def bQ(bk:Bk):Ls:=(bk.filter fun e=>decide (e.1=dE)).map (·.2)
theorem yf(bk:Bk)(e:Str×Str):bQ (bk++[e])=if e.1=dE then bQ bk++[e.2] else bQ bk:=by
 unfold bQ;rw[Ol,dz]
 by_cases h:e.1=dE
 . rw[al h,qO,al (bN h)];rfl
 . rw[ai h,qO,ai (by rw[cI h];decide)];exact lX _
def ME(D:Addr):Sp:=fun vs H Q _=>∃(x dx d b:Addr) (v:V) (tb:Lv) (bk:Bk),vs=[.ref x]/\H x=some (.ins D dx (bP d b v))/\H b=some (.lst tb)/\Paired (mT H) tb bk/\bk.length<=500/\dL H (.lst ((Str.empty::bQ bk).map V.str)) Q
theorem asb:aP [azy] [azy] (aA En):=aZ
theorem asc(F:bB K "texts_begun" En f fd)(B:b9 mg)(T:ik K mg D f1 im f3 f4 f5 f6 f7)(lN:aU K aAp "Disk.book_now" qb im mV):aj P w K mg base ak 2 f fd [azy] (ME D):=by
 have BE:aj P w K mg base ak 1 im mV [azt] (Ff D):=Lf lN T B;have BF:=lN.binds1 (l:=[azt]) (fun _ _ _ _ _ _ _=>rfl);refine F.okL asb ?_
 . intro aw A outer s H vs Q E hr h xX dX;obtain⟨x,dx,d,b,v,tb,bk,rfl,hx,hb,pb,vt,q⟩:=h;refine⟨_,(av (aV (aF wG (df (aa bV ac)) (gF [az8,azN] [] [] eA rfl (cQ (rh (pv 0) T.cl T.mBNo BE hr BF .nil fA)) (fun _ _ _ _=>(Me (n:=2) K rfl (fb (bc (i:=0) (show List.Nodup ([az8,azN]:Ls) by decide +kernel) rfl (Or.inl rfl)) (fb (bc (i:=1) (show List.Nodup ([az8,azN]:Ls) by decide +kernel) rfl (Or.inl rfl)) mi)))) (fun _ _ _ _=>nY (bY fw (pv 0) bV (bT _))) (fun _ _ _ _=>(pv 1)))))),?_⟩;refine⟨(by show 1<=sizeLine;decide),fun p1 H1 n1 s1 e1=>?_⟩;have pl:=bC pb;refine⟨_,rfl,x,dx,_,rfl,s1 _ _ hx,rfl,x,dx,d,b,v,tb,rfl,s1 _ _ hx,s1 _ _ hb,fun r H2 n2 s2 e2=>⟨r,rfl,⟨_,ae.of e2⟩,?_⟩⟩;have bU:=s1.trans s2;intro D' jf;refine qm (σ0:=[none,none]) jf (ae.of e2) (fun σ=>∃u v,σ=[u,v]) (fun j zs _=>zs=(bQ (bk.take j)).map V.str) ⟨_,_,rfl⟩ rfl ?_ ?_
   . rintro j y zs σ H3 k k' hy ⟨u,v,rfl⟩ dg h3 rfl eL ii;obtain⟨e,he,t,rfl,ht⟩:=eE pb hy;have aN:=(cW.mp he).1;refine⟨t,_,rfl,aX.of ((bU.trans h3) _ _ ht),rfl,_,_,rfl,_,_,rfl,rfl,?_⟩;have bs:=yf (bk.take j) e;rw[←qz he]at bs;have bl:(bQ (bk.take j)).length<=500:=by
      unfold bQ;rw[ao];exact cu (yI _ _) (by rw[eG];omega)
     refine⟨_,rfl,rfl,_,rfl,?_⟩;refine bA (fun h=>?_) (fun h=>?_)
     . have h:=cT h;injection h with h
       rw[al (show e.1=dE from h)]at bs;refine⟨_,rfl,eL _ _ _ ⟨_,_,rfl⟩ (ag.refl _) (bZ (by rw[ao];omega)) ?_⟩;rw[bs,dz];rfl
     . rw[ai (fun z=>h (by rw[z];exact bN rfl))]at bs;refine ii _ _ ⟨_,_,rfl⟩ (ag.refl _) ?_;rw[bs]
   . rintro zs H3 dg h3 rfl;rw[pl,eZ]at dg;have bl:(bQ bk).length<=500:=by
      unfold bQ;rw[ao];exact cu (yI _ _) vt
     refine⟨p1,D',_,_,rfl,rfl,(s2.trans h3) _ _ e1,dg,lq (by rw[ao,iN];omega),fun p4 H4 n4 s4 e4=>?_⟩;exact q p4 H4 ((bU.trans h3).free n4) ((bU.trans h3).trans s4) e4
structure ip(xs:Lv)(ps:Lp)(ch:Ch)(cs:Cs)(ow:Ow):Prop where
 ok:mS ch cs ow
 va:qj xs ps ch
 o2:ow.length<=2
structure f8(xs:Lv)(ps:Lp)(t:Str)(ch:Ch)(cs:Cs)(ow:Ow):Prop where
 so:ip xs ps ch cs ow
 s1:dN ch ch
 s2:dN cs cs
 s3:dN ow ow
 tx:t=Str.join j8 (ff ch cs ow)
theorem ip.perm{xs:Lv}{ps:Lp}{ch bq:Ch}{cs bv:Cs}{ow bi:Ow}(h:ip xs ps ch cs ow)(p1:bq.Perm ch)(p2:bv.Perm cs)(p3:bi.Perm ow):ip xs ps bq bv bi:=⟨h.ok.perm p1 p2 p3,fun e he=>h.va e (p1.mem_iff.mp he),by have:=p3.length_eq;have:=h.o2;omega⟩
theorem ip.tx{xs:Lv}{ps:Lp}{ch bq:Ch}{cs bv:Cs}{ow bi:Ow}(h:ip xs ps ch cs ow)(p1:dN ch bq)(p2:dN cs bv)(p3:dN ow bi):f8 xs ps (Str.join j8 (ff bq bv bi)) bq bv bi:=⟨h.perm p1.pm p2.pm p3.pm,p1.self,p2.self,p3.self,rfl⟩
theorem FR{xs:Lv}{ps:Lp}:f8 xs ps Str.empty [] [] []:=⟨⟨ar7,(fun _ h=>nomatch h),by decide⟩,ye,ye,ye,rfl⟩
theorem f8.uniq{xs:Lv}{ps:Lp}{t:Str}{ch bq:Ch}{cs bv:Cs}{ow bi:Ow}(h:f8 xs ps t ch cs ow)(k:f8 xs ps t bq bv bi):ch=bq/\cs=bv/\ow=bi:=by
 have e1:rowsOf t=ff ch cs ow:=by rw[h.tx];exact JC (JB h.so.ok.ok)
 have e2:rowsOf t=ff bq bv bi:=by rw[k.tx];exact JC (JB k.so.ok.ok)
 obtain⟨a,b,c,n1⟩:=JD h.so.ok.ok h.so.ok.d1 h.so.ok.d2 h.so.ok.d3;obtain⟨a',b',c',n2⟩:=JD k.so.ok.ok k.so.ok.d1 k.so.ok.d2 k.so.ok.d3;rw[←e1,e2,n2]at n1;injection n1 with n1 n2 n3
 exact⟨n1.symm,n2.symm,n3.symm⟩
theorem f8.not{xs:Lv}{ps:Lp}{t:Str}{ch:Ch}{cs:Cs}{ow:Ow}(h:f8 xs ps t ch cs ow){T:Addr}{H:Hp}{Q:VK}(q:∀v H',ag H H'->(∀L,jt H L->gK T (msk L H') v ch cs ow)->Q v H'):EL T [.str t] H Q E0:=by
 have ok:=h.so.ok;have hb:rowsOf t=ff ch cs ow:=by rw[h.tx];exact JC (JB ok.ok)
 have hr:=ok.rows;obtain⟨_,asd⟩:=Sn ok.bnd (.refl _) (.refl _) (.refl _);have hl:=JU (sep:=j8) asd (by rw[Jo];decide);obtain⟨ck,b,m,hn⟩:=JD ok.ok ok.d1 ok.d2 ok.d3;refine⟨_,rfl,?_,?_,?_,?_⟩
 . have h4:(ff ch cs ow).length * (140+1)<=53 * 141:=Oj _ hr;rw[h.tx];omega
 . rw[hb];omega
 . rw[hb];exact alN ok.ok
 . rw[hb,hn];exact q
theorem f8.sho{xs:Lv}{ps:Lp}{t:Str}{ch:Ch}{cs:Cs}{ow:Ow}(h:f8 xs ps t ch cs ow){T:Addr}{H:Hp}{v:V}{Q:VK}(hs:gK T H v ch cs ow)(q:∀H',ag H H'->Q (.str t) H'):uX T [v] H Q E0:=by
 refine⟨v,ch,cs,ow,rfl,hs,h.so.ok.bnd,fun bq bv bi H' r1 r2 r3 s'=>?_⟩;rw[dN.eq h.so.ok.d1 r1 h.s1,dN.eq h.so.ok.d2 r2 h.s2,dN.eq h.so.ok.d3 r3 h.s3,←h.tx];exact q H' s'
theorem ip.sho{xs:Lv}{ps:Lp}{ch:Ch}{cs:Cs}{ow:Ow}(h:ip xs ps ch cs ow){T:Addr}{H:Hp}{v:V}{Q:VK}(hs:gK T H v ch cs ow)(q:∀t bq bv bi H',dN ch bq->dN cs bv->dN ow bi->f8 xs ps t bq bv bi->ag H H'->Q (.str t) H'):uX T [v] H Q E0:=
 ⟨v,ch,cs,ow,rfl,hs,h.ok.bnd,fun bq bv bi H' r1 r2 r3 s'=>q _ bq bv bi H' r1 r2 r3 (h.tx r1 r2 r3) s'⟩
def vC(xs:Lv)(ps:Lp)(ts:Ls):Prop:=∀t∈ts,∃ch cs ow,f8 xs ps t ch cs ow
theorem ase(ts:Ls)(t:Str):cy ((ts++[t]).map V.str) (-1)=some (.str t):=by
 rw[dz];exact UX _ _
def yg(D T:Addr):Sp:=fun vs H Q _=>∃(x dx d b:Addr) (v:V) (tb:Lv) (bk:Bk) (xs:Lv) (ps:Lp) (t:Str) (ch:Ch) (cs:Cs) (ow:Ow),vs=[.ref x]/\H x=some (.ins D dx (bP d b v))/\H b=some (.lst tb)/\Paired (mT H) tb bk/\bk.length<=500/\(Str.empty::bQ bk).getLast?=some t/\f8 xs ps t ch cs ow /\
 ∀v H',ag H H'->(∀L,jt H L->gK T (msk L H') v ch cs ow)->Q v H'
theorem asf:aP [azy] [azy] (aA uP):=aZ
theorem asg(F:bB K aAq uP f fd)(BG:aO K mg "texts_begun" En FS FU)(MF:aj P w K mg base ak 4 FS FU [azy] (ME D))
 (BH:aO K mg "stand_noted" Ei FT FV) (MG:aj P w K mg base ak 4 FT FV [azN] (EL T)):aj P w K mg base ak 5 f fd [azy] (yg D T):=by
 have ash:=BG.u.binds1 (l:=[azy]) (fun _ _ _ _ _ _ _=>rfl);have asi:=BH.u.binds1 (l:=[azN]) (fun _ _ _ _ _ _ _=>rfl);refine F.ok asf (fun vs H Q E h=>?_) (fun aw A outer s H vs Q E hr h=>?_)
 . obtain⟨x,dx,d,b,v,tb,bk,xs,ps,t,ch,cs,ow,rfl,_⟩:=h;rfl
 . obtain⟨x,dx,d,b,v,tb,bk,xs,ps,t,ch,cs,ow,rfl,hx,hb,pb,vt,hl,ht,q⟩:=h;refine⟨_,(av (aV (aG MG hr rfl BH asi (aa (bJ fR (aG MF hr rfl BG ash (aa (pv 0) ac)) (wx wz aq) (fun _ _=>rfl)) ac)))),?_⟩;refine⟨_,rfl,x,dx,d,b,v,tb,bk,rfl,hx,hb,pb,vt,fun r H1 n1 s1 e1=>?_⟩;obtain⟨ts,ets⟩:=List.getLast?_eq_some_iff.mp hl;rw[ets]at e1;refine⟨_,rfl,r,_,_,_,rfl,rfl,ae.of e1,ase ts t,?_⟩;exact ht.not fun v H' s' hv=>q v H' (s1.trans s') fun L hL=>hv L fun b hb=>(hL b hb).elim fun o asl=>asl.elim fun e n=>⟨o,s1 _ _ e,n⟩
end K63
namespace K63
open PySem L2 PySem.Spec PyProof.Rows
variable {P:Program}{w:World}{K:Fg}{mg:Mv}{base:Heap}
seal PE PS cn PA PT PW PG gX PI gE
structure Dk(D x dx d b:Addr)(lf:Option Int)(fs:Tr)(bk:Bk)(H:Hp):Prop where
 ob:H x=some (.ins D dx (bP d b (lv lf)))
 fi:∃kd,H d=some (.dK kd)/\Paired (bM H) kd fs
 bo:∃tb,H b=some (.lst tb)/\Paired (mT H) tb bk
 nd:(fs.map (·.1)).Nodup
 ok:dw fs
 bz:bk=[]->fs=[]
 bt:UW bk
 ps:∀m,lf=some m->0<=m
theorem Dk.same{lf:Option Int}{fs:Tr}{bk:Bk}{H H':Hp}(h:Dk D x dx d b lf fs bk H)(s:ag H H'):Dk D x dx d b lf fs bk H':=by
 obtain⟨kd,d1,d2⟩:=h.fi;obtain⟨tb,b1,b2⟩:=h.bo;exact⟨s _ _ h.ob,⟨kd,s _ _ d1,aE d2 fun _ _=>bM.same s⟩,⟨tb,s _ _ b1,aE b2 fun _ _=>mT.same s⟩,h.nd,h.ok,h.bz,h.bt,h.ps⟩
def be(x d b Pt:Addr)(H H':Hp):Prop:=∀q o,H q=some o->q≠x->q≠d->q≠b->q≠Pt->H' q=some o
theorem be.trans{H H1 H2:Hp}(a:be x d b Pt H H1)(c:be x d b Pt H1 H2):be x d b Pt H H2:=fun q o e n1 n2 n3 n4=>c q o (a q o e n1 n2 n3 n4) n1 n2 n3 n4
theorem be.of{H H':Hp}(s:ag H H'):be x d b Pt H H':=fun q o e _ _ _ _=>s q o e
theorem be.ofT{H H':Hp}(s:mG Pt H H'):be x d b Pt H H':=fun q o e _ _ _ n=>s q o e n
theorem be.msk{H H':Hp}(k:be x d b Pt H H'):ag (msk [x,d,b,Pt] H) (msk [x,d,b,Pt] H'):=fun q o e=>by
 have n:q∉[x,d,b,Pt]:=fun z=>by unfold K63.msk at e;rw[al z]at e;cases e
 have e':=bO q o e;simp only[aY,fq,ft,py]at n;exact cJ (by simp[n]) (k q o e' n.1 n.2.1 n.2.2.1 n.2.2.2)
theorem Dk.keepT{lf:Option Int}{fs:Tr}{bk:Bk}{H H':Hp}{lp:Pos}{qu:Str}(h:Dk D x dx d b lf fs bk H)(t:aD H Pt lp qu)(k:mG Pt H H'):Dk D x dx d b lf fs bk H':=by
 obtain⟨kd,d1,d2⟩:=h.fi;obtain⟨tb,b1,b2⟩:=h.bo;have g:∀{q:Addr}{o:HO},H q=some o->(∀φ,o≠.ext φ)->H' q=some o:=fun e n=>k _ _ e (aD.ne t e n);exact⟨g h.ob (by intro φ z;cases z),⟨kd,g d1 (by intro φ z;cases z),aE d2 fun _ _ asm=>asm.elim fun z1 asn=>asn.elim fun l aso=>aso.elim fun z2 z3=>⟨z1,l,z2,g z3 (by intro φ z;cases z)⟩⟩,⟨tb,g b1 (by intro φ z;cases z),aE b2 fun _ _ asp=>asp.elim fun t asq=>asq.elim fun z1 z2=>⟨t,z1,g z2 (by intro φ z;cases z)⟩⟩,h.nd,h.ok,h.bz,h.bt,h.ps⟩
theorem UZ{H:Hp}{tb:Lv}{bk:Bk}{ls:Ls}(hb:H b=some (.lst tb))(pb:Paired (mT H) tb bk)(n:bk≠[]\/ls≠[])(hl:H l=some (.lst (ls.map V.str))):l≠b:=fun e=>by
 rw[e,hb]at hl;injection hl with hl
 injection hl with hl
 subst hl;cases ls with
 | nil=>
  cases pb
  rcases n with z | z<;>exact z rfl
 | cons y ls=>
  cases pb with
  | cons r t=>
   obtain⟨t,z,_⟩:=r;cases z
theorem aD.kp{H H':Hp}{lp:Pos}{qu:Str}(h:aD H Pt lp qu)(k:∀q φ,H q=some (.ext φ)->H' q=some (.ext φ)):aD H' Pt lp qu:=by
 rcases h with z | ⟨c',z1,z2⟩
 . exact .inl (k _ _ z)
 . exact .inr ⟨c',k _ _ z1,k _ _ z2⟩
def vD(fs aM tr:Tr):Prop:=∀z∈aM.map (·.1),z∈fs.map (·.1)\/z∈tr.map (·.1)
theorem vD.len{fs aM tr:Tr}(k:vD fs aM tr)(nd:(aM.map (·.1)).Nodup):aM.length<=fs.length+tr.length:=by
 have:=jp (ys:=fs.map (·.1)++tr.map (·.1)) nd fun z hz=>bS.mpr (k z hz)
 rwa [bj,ao,ao,ao]at this
theorem vD.of{fs aM tr:Tr}(h:look aM=look tr):vD fs aM tr:=fun z hz=>.inr (Op fun c=>by
 have:=fH.mpr c;rw[←h]at this;exact fH.mp this hz)
def FW(D Fa:Addr):Sp:=fun vs H Q E=>∃(x dx d b t:Addr) (lf:Option Int) (fs:Tr) (bk:Bk) (kt:List (ar×V)) (tr:Tr),vs=[.ref x,.ref t]/\Dk D x dx d b lf fs bk H/\bk≠[]/\H t=some (.dK kt)/\d≠t/\Paired (bM H) kt tr/\(tr.map (·.1)).Nodup/\dw tr/\oP fs tr /\
 (∀lf' aM H',Dk D x dx d b lf' aM bk H'->look aM=look tr->aM.length=tr.length->(lf=none->lf'=none)->(∀p o,H p=some o->p≠x->p≠d->H' p=some o)->Q .non H') /\
 (∀aM H',lf≠none->Dk D x dx d b (some 0) aM bk H'->vD fs aM tr->(∀p o,H p=some o->p≠x->p≠d->H' p=some o)->E (.ref Fa) none H')
theorem U0{lf lf':Option Int}{fs aM:Tr}{bk:Bk}{H H':Hp}(h:Dk D x dx d b lf fs bk H)(bn:bk≠[])(t:Tn D x dx d b lf' aM H H')(nd:(aM.map (·.1)).Nodup)(ok:dw aM)(ps:∀m,lf'=some m->0<=m):Dk D x dx d b lf' aM bk H':=by
 obtain⟨kd,d1,d2⟩:=h.fi;obtain⟨tb,b1,b2⟩:=h.bo;exact⟨t.ob,t.hd,⟨tb,t.kp _ _ b1 (aK b1 h.ob (by intro z;cases z)) (aK b1 d1 (by intro z;cases z)),aE b2 fun _ _ asr=>asr.elim fun t' ass=>ass.elim fun z1 z2=>⟨t',z1,t.kp _ _ z2 (aK z2 h.ob (by intro z;cases z)) (aK z2 d1 (by intro z;cases z))⟩⟩,nd,ok,fun z=>absurd z bn,h.bt,ps⟩
theorem ast{k:Nat}(G:aj P w K mg base (ca P w) k f fd [azy,az0] (TZ D Fa)):aj P w K mg base (ca P w) k f fd [azy,az0] (FW D Fa):=by
 refine G.imp fun vs H Q E h=>?_;obtain⟨x,dx,d,b,t,lf,fs,bk,kt,tr,e,hD,bn,ht,dt,pt,nt,ot,MH,q1,q2⟩:=h;obtain⟨kd,d1,d2⟩:=id hD.fi;refine⟨x,dx,d,b,t,lf,kd,kt,fs,tr,e,hD.ob,d1,ht,dt,d2,pt,hD.nd,nt,hD.ok,ot,MH,hD.ps,fun us H' U hm T=>?_,fun us j H' U hj aN T=>?_⟩
 . have nd:=Lg (tr:=tr) (ps:=us) hD.nd;refine q1 _ _ H' (U0 hD bn T nd (Lh ot hD.ok) fun m z=>?_) (funext fun k=>U.all k) (TN nd nt fun k=>U.all k) (fun z=>by rw[z];rfl) T.kp;cases lf with
   | none=>cases z
   | some m'=>
    have:=hm m' rfl;have z:some (m' - (us.length:Int))=some m:=z;cases z;omega
 . have nd:=Lg (tr:=tr) (ps:=us.take j) hD.nd;have ul:=U.len;refine q2 _ H' (by rw[hj];intro z;cases z) (U0 hD bn T nd (Lh ot hD.ok) fun m z=>by cases z;omega) ?_ T.kp;intro z hz;refine Op fun c=>?_;rw[py]at c;refine fH.mp ?_ hz;rw[Fi];split
   . exact fH.mpr c.2
   . exact fH.mpr c.1
def FX(D Fa:Addr):Sp:=fun vs H Q E=>∃(x dx d b:Addr) (lf:Option Int) (fs:Tr) (bk:Bk) (y z:Str),vs=[.ref x,.str y,.str z]/\Dk D x dx d b lf fs bk H/\bk.length<=400/\gm y/\gm z /\
 (∀lf' H',gx lf=some lf'->Dk D x dx d b lf' fs (bk++[(y,z)]) H'->(∀p o,H p=some o->p≠x->p≠b->H' p=some o)->Q .non H')/\(gx lf=none->E (.ref Fa) none H)
theorem asu{k:Nat}(G:aj P w K mg base (ca P w) k f fd [azt,az8,azN] (TD D Fa)):aj P w K mg base (ca P w) k f fd [azt,az8,azN] (FX D Fa):=by
 refine G.imp fun vs H Q E h=>?_;obtain⟨x,dx,d,b,lf,fs,bk,y,z,e,hD,l4,oy,oz,q1,q2⟩:=h;obtain⟨kd,d1,d2⟩:=id hD.fi;obtain⟨tb,b1,b2⟩:=id hD.bo;have pl:=bC b2;refine⟨x,dx,d,b,lf,y,z,tb,e,hD.ob,b1,by omega,fun lf' e' t H' nt gW lC Kj kp fr=>?_,q2⟩;refine q1 lf' H' e' ⟨gW,⟨kd,kp _ _ d1 (aK d1 hD.ob (by intro z;cases z)) (aK d1 b1 (by intro z;cases z)),?_⟩,⟨_,lC,ju ⟨t,rfl,Kj⟩ (aE b2 fun _ _ asv=>asv.elim fun t' asw=>asw.elim fun z1 z2=>⟨t',z1,kp _ _ z2 (aK z2 hD.ob (by intro z;cases z)) (aK z2 b1 (by intro z;cases z))⟩)⟩,hD.nd,hD.ok,fun z=>by simp at z,?_,?_⟩ kp
 . by_cases bn:bk=[]
   . have f0:=hD.bz bn;subst f0;cases d2;exact .nil
   . exact aE d2 fun kv f asx=>asx.elim fun z1 asy=>asy.elim fun l asz=>asz.elim fun z2 z3=>⟨z1,l,z2,kp _ _ z3 (aK z3 hD.ob (by intro z;cases z)) (UZ b1 b2 (.inl bn) z3)⟩
 . intro e he
   rcases bS.mp he with z | z
   . exact hD.bt e z
   . rw[bw.mp z];exact⟨oy,oz⟩
 . intro m hm;cases lf with
   | none=>cases e';cases hm
   | some n=>
    by_cases h1:n<1
    . rw[K8 h1]at e';cases e'
    . rw[AY h1]at e';cases e';cases hm;omega
def FY(D Fa:Addr):Sp:=fun vs H Q E=>∃(x dx d b t:Addr) (lf:Option Int) (fs:Tr) (bk:Bk) (kt:List (ar×V)) (tr:Tr),vs=[.ref x,.ref t]/\Dk D x dx d b lf fs bk H/\bk≠[]/\bk.length<=400/\H t=some (.dK kt)/\d≠t/\Paired (bM H) kt tr/\(tr.map (·.1)).Nodup/\dw tr/\oP fs tr /\
 (∀lf' aM H',Dk D x dx d b lf' aM (bk++[fZ]) H'->look aM=look tr->aM.length=tr.length->(lf=none->lf'=none)->(∀p o,H p=some o->p≠x->p≠d->p≠b->H' p=some o)->Q .non H') /\
 (∀aM H',lf≠none->Dk D x dx d b (some 0) aM bk H'->vD fs aM tr->(∀p o,H p=some o->p≠x->p≠d->p≠b->H' p=some o)->E (.ref Fa) none H')
theorem asA:aP [azy,az0] [azy,az0] (aA Au):=aZ
theorem U1{lf:Option Int}{fs:Tr}{bk:Bk}{H:Hp}(h:Dk D x dx d b lf fs bk H)(e:gx lf=none):lf=some 0:=by
 cases lf with
 | none=>cases e
 | some n=>
  have:=h.ps n rfl
  by_cases h1:n<1
  . congr 1;omega
  . rw[AY h1]at e;cases e
theorem asB(F:bB K "finish" Au f fd)(T:ik K mg D f1 f2 f3 f4 jJ f6 f7)(mW:aO K mg "turn_to" xf vE vF)(yh:aj P w K mg base (ca P w) 3 vE vF [azy,az0] (FW D Fa))
 (vG:aU K "note" "Disk.note" rY jJ qC) (vH:aj P w K mg base (ca P w) 3 jJ qC [azt,az8,azN] (FX D Fa)):aj P w K mg base (ca P w) 4 f fd [azy,az0] (FY D Fa):=by
 have MI:=mW.u.binds2 (l:=[azy,az0]) (fun _ _ _ _ _ _ _ _=>rfl);have FZ:=vG.binds3 (l:=[azt,az8,azN]) (fun _ _ _ _ _ _ _ _ _=>rfl);refine F.okR asA (fun vs H Q E h=>?_) (fun aw A outer s H vs Q E hr h=>?_)
 . obtain⟨x,dx,d,b,t,lf,fs,bk,kt,tr,rfl,_⟩:=h;rfl
 . obtain⟨x,dx,d,b,t,lf,fs,bk,kt,tr,rfl,hD,bn,l4,ht,dt,pt,nt,ot,MH,q1,q2⟩:=h;refine⟨_,(am (cp (mo yh hr rfl mW.m mW.u.kp MI .nil lB (aa (pv 0) (aa (pv 1) ac))))
    (av (cp (jV (pv 0) T.cl T.mDNt vH hr FZ .nil lB (aa bV (aa bV ac)))))),?_⟩
   refine⟨_,rfl,_,rfl,x,dx,d,b,t,lf,fs,bk,kt,tr,rfl,hD,bn,ht,dt,pt,nt,ot,MH,fun lf' aM H1 qD lk el hn kp=>?_,fun aM H1 ln qD le kp=>q2 aM H1 ln qD le fun p o e a1 a2 _=>kp p o e a1 a2⟩;refine⟨_,rfl,x,dx,_,rfl,qD.ob,rfl,x,dx,d,b,lf',aM,bk,_,_,rfl,qD,l4,(by decide +kernel),(by decide +kernel),fun BI H2 e2 sM kp2=>?_,fun e2=>?_⟩
   . refine q1 BI aM H2 sM lk el (fun z=>?_) fun p o e a1 a2 a3=>kp2 p o (kp p o e a1 a2) a1 a3;have:=hn z;rw[this]at e2;cases e2;rfl
   . have z:=U1 qD e2;refine q2 aM H1 (fun y=>?_) (z▸qD) (.of lk) fun p o e a1 a2 _=>kp p o e a1 a2;rw[hn y]at z;cases z
end K63
namespace K63
open PySem L2 PySem.Spec PyProof.Rows
variable {P:Program}{w:World}{K:Fg}{mg:Mv}{base:Heap}
seal PE PS cn PA PT PW PG gX PI gE
theorem mG.msk{H H':Hp}(k:mG Pt H H'):ag (msk [Pt] H) (msk [Pt] H'):=fun q o e=>by
 have n:q∉[Pt]:=fun z=>by unfold K63.msk at e;rw[al z]at e;cases e
 exact cJ n (k q o (bO q o e) (by simpa using n))
theorem off{H:Hp}{o:HO}{lp:Pos}{qu:Str}(t:aD H Pt lp qu)(e:H q=some o)(n:∀φ,o≠.ext φ):msk [Pt] H q=some o:=cJ (by simpa using aD.ne t e n) e
theorem db.off{H:Hp}{ch:Ch}{lp:Pos}{qu:Str}(t:aD H Pt lp qu)(h:db H c ch):db (msk [Pt] H) c ch:=by
 obtain⟨kvs,h1,h2⟩:=h;exact⟨kvs,K63.off t h1 (by intro φ z;cases z),aE h2 fun _ _ asD=>asD.elim fun a asE=>asE.elim fun m asF=>asF.elim fun b c=>⟨a,m,b,K63.off t c (by intro φ z;cases z)⟩⟩
theorem MJ{Pt:Addr}{H H':Hp}{lp:Pos}{qu:Str}(s:ag (msk [Pt] H) (msk [Pt] H'))(t:aD H' Pt lp qu)(n:H' q=none):H q=none:=by
 cases e:H q with
 | none=>rfl
 | some o=>
  have np:q≠Pt:=fun z=>by
   obtain⟨φ,w⟩:=aD.at t;rw[z,w]at n;cases n
  have:=bO _ _ (s q o (cJ (by simpa using np) e));rw[n]at this;cases this
theorem mS.okO{ch:Ch}{cs:Cs}{ow:Ow}(h:mS ch cs ow):LW ow:=fun e he=>by
 obtain⟨a,b,c⟩:=h.ok.ow e he;obtain⟨d,f⟩:=h.ln e he;exact⟨by have:=a.len;omega,⟨by omega,fun x hx=>(b x hx).ln⟩,⟨by omega,fun x hx=>(c x hx).ln⟩⟩
def BJ(H R:Hp)(v:V)(e:Str×Tr):Prop:=∃tp g t kvs,v=.ref tp/\H tp=none/\R tp=some (.tup [.ref g,.ref t])/\R g=some (.lst [.str e.1])/\cC e.1/\H t=none/\R t=some (.dK kvs)/\Paired (de H R) kvs e.2/\(e.2.map (·.1)).Nodup/\e.2.length<=20/\dw e.2
theorem BJ.kp{H R R':Hp}(k:∀b o,R b=some o->(∀φ,o≠.ext φ)->R' b=some o){v:V}{e:Str×Tr}(h:BJ H R v e):BJ H R' v e:=by
 obtain⟨tp,g,t,kvs,h1,h2,h3,h4,h5,h6,h7,h8,h9⟩:=h;exact⟨tp,g,t,kvs,h1,h2,k _ _ h3 (by intro φ z;cases z),k _ _ h4 (by intro φ z;cases z),h5,h6,k _ _ h7 (by intro φ z;cases z),aE h8 fun _ _ asG=>asG.elim fun z1 asH=>asH.elim fun l asI=>asI.elim fun z2 asJ=>asJ.elim fun z3 z4=>⟨z1,l,z2,z3,k _ _ z4 (by intro φ z;cases z)⟩,h9⟩
def MK(C S T Pt:Addr):Sp:=fun vs H Q _=>∃(sv gv:V) (a:Addr) (xs:Lv) (ps:Lp) (ns:Ls) (now ch:Ch) (cs:Cs) (ow:Ow),vs=[sv,.ref a,gv]/\jN C S (msk [Pt] H) sv xs ps ns/\db (msk [Pt] H) a now/\eM xs ps now/\gK T (msk [Pt] H) gv ch cs ow/\ip xs ps ch cs ow/\aD H Pt dv di /\
 ∀l zs es H',H l=none->mG Pt H H'->aD H' Pt dv di->H' l=some (.lst zs)->Paired (BJ H (msk [l] H')) zs es->es.length<=8->Q (.ref l) H'
theorem BK:aP [azu,azU,azL,"steps","reached",azY] [azu,azU,azL] (aA Eo):=aZ
theorem asK(F:bB K "steps_to" Eo f fd)(UT:sf K mg T)(MT:Mk K T iI)(oJ:aU K "__init__" "Stand.__init__" qa iI lF)(qh:aj P w K mg base ak 5 iI lF [azt,azA,azI,azT] (xq T))
 (BL:aO K mg "groups_to" Ek F0 F1) (ML:aj P w K mg base ak 6 F0 F1 [azu,azU,azL] (Mz C S)) (je:aO K mg aAs xb qA qB) (BA:aj P w K mg base ak 6 qA qB [azU,azL,azY] FM)
 (iq:aO K mg aAe qf kD kE) (lO:aj P w K mg base ak 6 kD kE [azu,azM] (xZ C S T Pt)):aj P w K mg base ak 7 f fd [azu,azU,azL] (MK C S T Pt):=by
 have AK:=oJ.binds4 (l:=[azt,azA,azI,azT]) (fun _ _ _ _ _ _ _ _ _ _=>rfl);have asL:=BL.u.binds3 (l:=[azu,azU,azL]) (fun _ _ _ _ _ _ _ _ _=>rfl);have BB:=je.u.binds3 (l:=[azU,azL,azY]) (fun _ _ _ _ _ _ _ _ _=>rfl);have vI:=iq.u.binds2 (l:=[azu,azM]) (fun _ _ _ _ _ _ _ _=>rfl);refine F.okL BK ?_
 . intro aw A outer s H vs Q E hr h xX dX;obtain⟨sv,gv,a,xs,ps,ns,now,ch,cs,ow,rfl,hW,hA,cA,hG,gy,tab,q⟩:=h;refine⟨_,(am (aJ (i:=3) BK.nd rfl (Or.inl rfl) (df ac))
    (am (aJ (i:=4) BK.nd rfl (Or.inl rfl) (pv 1))
    (am (eJ eI rfl (cQ (aG ML hr rfl BL asL (aa (pv 0) (aa (pv 1) (aa (cU (pv 2) rfl) ac))))) (bc (i:=5) BK.nd rfl (Or.inl rfl))
    (am (aJ (i:=4) BK.nd rfl (Or.inl rfl) (aG BA hr rfl je BB (aa (pv 4) (aa (cU (pv 2) rfl) (aa (pv 5) ac)))))
     (av (cp (dj iO yW yX rj (pv 3) (aa (eV (aa (pv 5) (aa (aG lO hr rfl iq vI (aa (pv 0) (aa (zj MT qh hr rfl UT.mgC AK .nil fA (aa (pv 4) (aa (cU (pv 2) rfl) (aa (cU (pv 2) rfl) ac)))) ac))) ac))) ac))))))
    (av (aV (pv 3)))))),?_⟩
   refine j6 ?_;intro dD sS u4 u3 u2;obtain⟨ga,F2,gfl,c,h,o,rfl,t1,t2,t3,t4,t5,t6,t7⟩:=id hG;have cB:eM xs ps ch:=⟨gy.ok.d1,gy.va⟩;refine⟨(by show 0<=sizeLine;decide),fun p1 H1 n1 s1 e1=>?_⟩;refine⟨_,rfl,?_⟩;have m1:=ib (L:=[Pt]) s1;refine⟨_,rfl,_,rfl,_,rfl,ga,T,F2,_,_,rfl,s1 _ _ (bO _ _ t1),UT.cl,UT.nC,t2,?_⟩;refine⟨sv,a,c,xs,ps,ns,now,ch,rfl,hW.same (bO.trans s1),hA.same (bO.trans s1),t5.same (bO.trans s1),cA,cB,fun l zg us H2 n2 s2 e2 U pr=>⟨l,rfl,⟨_,ae.of e2⟩,?_⟩⟩;have m2:=m1.trans (ib (L:=[Pt]) s2);have BM:=(tab.same s1).same s2;have nl:=cA.len hW.ap hW.n4;have gl:=cB.len hW.ap hW.n4;have ul:=U.len;have U2:H p1=none:=n1;have usN:∀z∈us,cC z:=fun z hz=>by
    have cY:=(U.mem z).mp hz;have key:∀{c:Ch},eM xs ps c->z∈c.map (·.1)->cC z:=fun k hz=>by
     obtain⟨e,he,rfl⟩:=cD.mp hz;obtain⟨v,p,hi,e1,_⟩:=k.va e he;exact e1▸hW.nm _ (hW.ap.nms p (Mp hi))
    by_cases z1:z∈now.map (·.1)
    . exact key cA z1
    . by_cases z2:z∈ch.map (·.1)
      . exact key cB z2
      . exact absurd ((fH.mpr z1).trans (fH.mpr z2).symm) cY
   have zgl:=bC pr;refine iT (xs:=zg) (fun i σ H3=>∃u re zs es,σ=[some sv,some (.ref a),some (.ref ga),some (.ref p1),some (.ref re),u]/\ag (msk [Pt] H) (msk [Pt] H3)/\aD H3 Pt dv di/\H3 l=some (.lst zg)/\Paired (io [l] H3) zg us/\H3 p1=some (.lst zs)/\Paired (BJ H (msk [p1] H3)) zs es/\es.length=i/\db (msk [Pt] H3) re ((us.take i).foldl (bF ch) now))
    ⟨none,a,[],[],rfl,m2,BM,e2,pr,s2 _ _ e1,.nil,rfl,hA.same m2⟩ ?_ ?_ ?_
   . rintro i σ H3 hi ⟨u,re,zs,es,rfl,_,_,e3,_⟩;exact ae.of e3
   . intro i z σ H3 hz hQ;refine bg ?_;intro tT;obtain⟨u,re,zs,es,rfl,m3,lQ,U3,sy,yi,yj,il,c3⟩:=hQ;obtain⟨n,hn,g,rfl,gl',hg⟩:=eE sy hz;have aN:=(cW.mp hn).1;have k3:eM xs ps ((us.take i).foldl (bF ch) now):=cB.steps cA;have cl3:=k3.len hW.ap hW.n4;have G3:=hG.same m3;have zl:=bC yj;have gp:g≠p1:=fun z=>by
      rw[z,yi]at hg;injection hg with hg
      injection hg with hg
      subst hg;cases yj with
      | cons r t=>obtain⟨_,_,_,_,z,_⟩:=r;cases z
     refine⟨_,rfl,_,rfl,ga,T,F2,_,_,rfl,bO _ _ (m3 _ _ t1),UT.cl,UT.nC,t2,_,rfl,?_⟩;refine⟨re,c,g,_,ch,n,rfl,c3.same bO,(t5.same m3).same bO,k3.nd,cB.nd,hg,by omega,fun r H4 n4 s4 c4=>?_⟩;have m4:=m3.trans (ib (L:=[Pt]) s4);have oU:=lQ.same s4;have st:bF ch ((us.take i).foldl (bF ch) now) n=(us.take (i+1)).foldl (bF ch) now:=by rw[qz hn,qT];rfl
     rw[st]at c4;have k4:eM xs ps ((us.take (i+1)).foldl (bF ch) now):=cB.steps cA;have U4:=s4 _ _ yi;refine⟨_,rfl,.inl ⟨rfl,_,ae.of U4⟩,_,rfl,_,rfl,_,rfl,_,rfl,ga,T,F2,_,_,rfl,bO _ _ (m4 _ _ t1),UT.cl,UT.nH,t3,_,rfl,ga,T,F2,_,_,rfl,bO _ _ (m4 _ _ t1),UT.cl,UT.nO,t4,?_⟩;refine JT (T:=T) c4 ((t6.same m4).same bO) ((t7.same m4).same bO) gy.ok.d3 (by have:=gy.o2;omega) fun x H5 n5 s5 fM=>?_;have m5:=m4.trans (ib (L:=[Pt]) s5);have ij:=oU.same s5;have W5:=(hW.same m5).same bO;have U5:=fM [] (fun b hb=>nomatch hb);rw[AJ]at U5;refine⟨sv,.ref x,xs,ps,_,cs,ow,ns,rfl,W5.sh,W5.pc,W5.pcok,hW.n4,U5,k4.va,k4.len hW.ap hW.n4,gy.o2,gy.ok.okO,fun e he=>(gy.ok.ok.cs e he).2.ln,ij,fun t H6 kvs tr n6 kT oR e6 vJ oV jd pW _=>?_⟩;refine⟨(by show 2<=sizeLine;decide),fun tp H7 n7 s7 e7=>?_⟩;have m6:=m5.trans (mG.msk kT);have m7:=m6.trans (ib (L:=[Pt]) s7);have tu:=oR.same s7;have go:∀{b:Addr}{o:HO},H3 b=some o->(∀φ,o≠.ext φ)->H7 b=some o:=fun e ne=>s7 _ _ (kT _ _ (s5 _ _ (s4 _ _ e)) (aD.ne ij (s5 _ _ (s4 _ _ e)) ne));have U6:∀{b:Addr}{o:HO},H5 b=some o->(∀φ,o≠.ext φ)->H7 b=some o:=fun e ne=>s7 _ _ (kT _ _ e (aD.ne ij e ne));have F3:=go yi (by intro φ z;cases z);have F4:=s5 _ _ U4;have lp:l≠p1:=(aL e1 n2).symm;refine⟨p1,_,_,rfl,rfl,F3,bZ (by omega),?_⟩;have hu:∀{b:Addr}{o o':HO},H7 b=some o->b≠p1->ah H7 p1 o' b=some o:=fun e ne=>aB e ne;have tp1:tp≠p1:=fun z=>by rw[z,kT _ _ F4 (aD.ne ij F4 (by intro φ z;cases z))]at n7;cases n7
     have t1':t≠p1:=fun z=>by rw[z,F4]at n6;cases n6
     refine⟨_,r,zs++[.ref tp],es++[(n,tr)],rfl,?_,?_,hu (go U3 (by intro φ z;cases z)) lp,aE sy fun _ _ yy=>?_,aH,?_,by rw[bj,il];rfl,?_⟩
     . refine fun b ob eb=>?_;have:=m7 b ob eb;have nb:b∉[Pt]:=fun z=>by unfold K63.msk at this;rw[al z]at this;cases this
       exact cJ nb (hu (bO _ _ this) fun z=>by have:=bO _ _ eb;rw[z,U2]at this;cases this)
     . exact K63.aD.kp tu fun b φ e=>hu e (aK e F3 (by intro z;cases z))
     . obtain⟨l',y1,y2,y3⟩:=yy;refine⟨l',y1,y2,hu (go y3 (by intro φ z;cases z)) fun z=>?_⟩;rw[z,yi]at y3;injection y3 with y3
       injection y3 with y3
       subst y3;cases yj with
       | cons r t=>obtain⟨_,_,_,_,z,_⟩:=r;cases z
     . rw[DE bK];refine ju ?_ (aE yj fun _ _ z=>z.kp fun b ob eb ne=>?_)
       . have q1:∀{b:Addr}{o:HO},H7 b=some o->b≠p1->msk [p1] H7 b=some o:=fun e ne=>cJ (by simpa using ne) e;refine⟨tp,g,t,kvs,rfl,MJ m6 oR n7,q1 e7 tp1,q1 (go hg (by intro φ z;cases z)) gp,usN n (eg hn),MJ m5 ij n6,q1 (s7 _ _ e6) t1',aE vJ fun _ _ asP=>asP.elim fun y1 asQ=>asQ.elim fun l' asR=>asR.elim fun y2 asS=>asS.elim fun y3 y4=>⟨y1,l',y2,MJ m5 ij y3,q1 (s7 _ _ y4) fun z=>by rw[z,F4]at y3;cases y3⟩,oV,jd,pW⟩
       . have nb:b∉[p1]:=fun z=>by unfold K63.msk at eb;rw[al z]at eb;cases eb
         exact cJ nb (go (bO _ _ eb) ne)
     . have c7:db H7 r ((us.take (i+1)).foldl (bF ch) now):=by
        obtain⟨kr,r1,r2⟩:=c4.same s5;exact⟨kr,U6 r1 (by intro φ z;cases z),aE r2 fun _ _ asT=>asT.elim fun a asU=>asU.elim fun m asV=>asV.elim fun b c=>⟨a,m,b,U6 c (by intro φ z;cases z)⟩⟩
       refine db.off (K63.aD.kp tu fun b φ e=>hu e (aK e F3 (by intro z;cases z))) (db.mut F3 c7)
   . rintro σ H3 ⟨u,re,zs,es,rfl,m3,lQ,U3,sy,yi,yj,il,c3⟩;refine⟨_,rfl,q p1 zs es H3 U2 (fun b ob eb nb=>bO _ _ (m3 b ob (cJ (by simpa using nb) eb))) lQ yi yj (by omega)⟩
end K63
namespace K63
open PySem L2 PySem.Spec PyProof.Rows
variable {P:Program}{w:World}{K:Fg}{mg:Mv}{base:Heap}
seal PE PS cn PA PT PW PG gX PI gE
def BN:Str:="step"
def dZ(st:Ls):Bk:=st.map fun z=>(BN,z)
theorem f8.txt{xs:Lv}{ps:Lp}{t:Str}{ch:Ch}{cs:Cs}{ow:Ow}(h:f8 xs ps t ch cs ow):gm t:=by
 rw[h.tx,←uW];refine Ic (by decide +kernel) fun r hr=>?_;have l:∀{ys:Ls},(∀y∈ys,gm y)->gm (Str.join spS ys):=fun h=>by rw[←uW];exact Ic (by decide +kernel) h
 rcases JA h.so.ok.ok hr with⟨e,a,b,rfl⟩ | ⟨e,a,b,rfl⟩ | ⟨p,a,rfl⟩ | ⟨x,a,rfl⟩ | ⟨x,a,rfl⟩
 . refine l fun y hy=>?_;simp only[aY,fq,ft]at hy
   rcases hy with rfl | rfl | rfl
   . decide +kernel
   . exact a.ok
   . exact wF.mpr fun c hc=>by have:=b.signs c hc;omega
 . refine l fun y hy=>?_;simp only[aY,fq,ft]at hy
   rcases hy with rfl | rfl | rfl
   . decide +kernel
   . exact a.ok
   . exact b.ok
 . refine l fun y hy=>?_;simp only[aY,fq,ft]at hy
   rcases hy with rfl | rfl
   . decide +kernel
   . exact a.ln.ok
 . exact CY (by decide +kernel) a.ln.ok
 . exact CY (by decide +kernel) a.ln.ok
def f9(xs:Lv)(ps:Lp)(ch:Ch)(cs:Cs)(ow:Ow)(t:Str):Prop:=∃bq bv bi,dN ch bq/\dN cs bv/\dN ow bi/\f8 xs ps t bq bv bi
theorem f9.uniq{xs:Lv}{ps:Lp}{ch:Ch}{cs:Cs}{ow:Ow}{t t':Str}(ok:ip xs ps ch cs ow)(h:f9 xs ps ch cs ow t)(k:f9 xs ps ch cs ow t'):t=t':=by
 obtain⟨a,b,c,h1,h2,h3,h4⟩:=h;obtain⟨a',b',c',k1,k2,k3,k4⟩:=k;rw[h4.tx,k4.tx,dN.eq ok.ok.d1 h1 k1,dN.eq ok.ok.d2 h2 k2,dN.eq ok.ok.d3 h3 k3]
theorem f9.ok{xs:Lv}{ps:Lp}{ch:Ch}{cs:Cs}{ow:Ow}{t:Str}(h:f9 xs ps ch cs ow t):∃ch cs ow,f8 xs ps t ch cs ow:=h.elim fun a asW=>asW.elim fun b asX=>asX.elim fun c asY=>asY.elim fun _ asZ=>asZ.elim fun _ as0=>as0.elim fun _ h=>⟨a,b,c,h⟩
def vK(xs:Lv)(ps:Lp)(t:Str)(fs:Tr):Prop:=∃ch cs ow tr,f9 xs ps ch cs ow t/\ip xs ps ch cs ow/\vx ps ch cs ow tr/\look fs=look tr
theorem ip.pt{xs:Lv}{ps:Lp}{ch:Ch}{cs:Cs}{ow:Ow}(h:ip xs ps ch cs ow):∀e∈ow,dW e.1:=fun e he=>(h.ok.ok.ow e he).1
theorem vK.look{xs:Lv}{ps:Lp}{ns:Ls}{t:Str}{fs tr:Tr}{ch:Ch}{cs:Cs}{ow:Ow}(h:vK xs ps t fs)(ap:Apart ns ps)(k:f8 xs ps t ch cs ow)(g:vx ps ch cs ow tr):K63.look fs=K63.look tr:=by
 obtain⟨a,b,c,Fz,⟨a',b',c',r1,r2,r3,hT⟩,so,hr,e⟩:=h;obtain⟨rfl,rfl,rfl⟩:=hT.uniq k;rw[e];exact Us ap r1.pm.symm r2.pm.symm r3.pm.symm so.ok.d1 so.ok.d2 so.ok.d3 so.pt hr g
def mX(ps:Lp)(ch:Ch)(cs:Cs)(ow:Ow)(fs:Tr):Prop:=∀tr,vx ps ch cs ow tr->(tr.map (·.1)).Nodup->tr.length<=20->oP fs tr
theorem mX.of{ps:Lp}{ch:Ch}{cs:Cs}{ow:Ow}{fs:Tr}(h:fs.length<=43):mX ps ch cs ow fs:=fun tr _ _ l=>A1 (by omega)
theorem mX.fall{xs:Lv}{ps:Lp}{ns:Ls}{ch:Ch}{cs:Cs}{ow:Ow}{fs aM tr:Tr}(h:mX ps ch cs ow fs)(ap:Apart ns ps)(so:ip xs ps ch cs ow)(g:vx ps ch cs ow tr)(nd:(tr.map (·.1)).Nodup)(l:tr.length<=20)(k:vD fs aM tr):mX ps ch cs ow aM:=fun Fz g' _ _=>by
 obtain⟨U,hU,m⟩:=h tr g nd l;have e:=Us ap (.refl ch) (.refl cs) (.refl ow) so.ok.d1 so.ok.d2 so.ok.d3 so.pt g g';refine⟨U,hU,fun z hz=>?_⟩
 rcases hz with hz | hz
 . exact m z (k z hz)
 . refine m z (.inr (Op fun c=>?_));have:=fH.mpr c;rw[e]at this;exact fH.mp this hz
def F5(R:Hp)(v:V)(e:Str×Tr):Prop:=∃tp g t kvs,v=.ref tp/\R tp=some (.tup [.ref g,.ref t])/\R g=some (.lst [.str e.1])/\cC e.1/\R t=some (.dK kvs)/\Paired (bM R) kvs e.2/\(e.2.map (·.1)).Nodup/\e.2.length<=20/\dw e.2
theorem F5.same{R R':Hp}(s:ag R R'){v:V}{e:Str×Tr}(h:F5 R v e):F5 R' v e:=by
 obtain⟨tp,g,t,kvs,h1,h2,h3,h4,h5,h6,h7⟩:=h;exact⟨tp,g,t,kvs,h1,s _ _ h2,s _ _ h3,h4,s _ _ h5,aE h6 fun _ _=>bM.same s,h7⟩
theorem Dk.busy{lf:Option Int}{fs:Tr}{bk:Bk}{H:Hp}{lp:Pos}{qu:Str}(h:Dk D x dx d b lf fs bk H)(t:aD H Pt lp qu):jt H [x,d,b,Pt]:=fun q hq=>by
 obtain⟨kd,d1,_⟩:=h.fi;obtain⟨tb,b1,_⟩:=h.bo;obtain⟨φ,w⟩:=aD.at t;simp only[aY,fq,ft]at hq
 rcases hq with rfl | rfl | rfl | rfl
 . exact⟨_,h.ob,by intro vs z;cases z⟩
 . exact⟨_,d1,by intro vs z;cases z⟩
 . exact⟨_,b1,by intro vs z;cases z⟩
 . exact⟨_,w,by intro vs z;cases z⟩
theorem aD.kx{lf:Option Int}{fs:Tr}{bk:Bk}{H H':Hp}{lp:Pos}{qu:Str}(h:Dk D x dx d b lf fs bk H)(t:aD H Pt lp qu)(k:∀p o,H p=some o->p≠x->p≠d->p≠b->H' p=some o):aD H' Pt lp qu:=by
 obtain⟨kd,d1,_⟩:=h.fi;obtain⟨tb,b1,_⟩:=h.bo;exact K63.aD.kp t fun q φ e=>k _ _ e (aK e h.ob (by intro z;cases z)) (aK e d1 (by intro z;cases z)) (aK e b1 (by intro z;cases z))
def F6(C S T D Fa Pt:Addr):Sp:=fun vs H Q E=>∃(sv gv:V) (x dx d b:Addr) (lf:Option Int) (fs:Tr) (bk:Bk) (xs:Lv) (ps:Lp) (ns:Ls) (ch:Ch) (cs:Cs) (ow:Ow),vs=[sv,.ref x,gv]/\jN C S (msk [x,d,b,Pt] H) sv xs ps ns/\gK T (msk [x,d,b,Pt] H) gv ch cs ow/\ip xs ps ch cs ow /\
 Dk D x dx d b lf fs bk H/\fs.length<=20/\bk.length<=300/\vC xs ps (Str.empty::bQ bk)/\aD H Pt dv di /\
 (∀t H',f9 xs ps ch cs ow t->(Str.empty::bQ bk).getLast?=some t->Dk D x dx d b lf fs bk H'->be x d b Pt H H'->aD H' Pt dv di->Q .non H') /\
 (∀t lf' aM st H',f9 xs ps ch cs ow t->(Str.empty::bQ bk).getLast?≠some t->Dk D x dx d b lf' aM (bk++(dE,t)::dZ st++[fZ]) H'->aM.length<=20->vK xs ps t aM->st.length<=8->be x d b Pt H H'->aD H' Pt dv di->Q .non H') /\
 (∀t aM st H',f9 xs ps ch cs ow t->(Str.empty::bQ bk).getLast?≠some t->lf≠none->Dk D x dx d b (some 0) aM (bk++(dE,t)::dZ st) H'->aM.length<=40->st.length<=8->be x d b Pt H H'->aD H' Pt dv di->E (.ref Fa) none H') /\
 (gx lf=none->∀t H',f9 xs ps ch cs ow t->(Str.empty::bQ bk).getLast?≠some t->Dk D x dx d b lf fs bk H'->be x d b Pt H H'->aD H' Pt dv di->E (.ref Fa) none H')
theorem vL:aP [azu,azy,azL,azM,azN,"steps",az0,azY,"between"] [azu,azy,azL] (aA Aw):=aZ
theorem as1(F:bB K "do_deed" Aw f fd)(UD:ik K mg D f1 f2 f3 f4 jJ f6 f7)(UT:sf K mg T)
 (gN:aO K mg aAq uP kF kG) (kH:aj P w K mg base ak 7 kF kG [azy] (yg D T)) (iL:aO K mg aAn xa oW oZ) (lR:aj P w K mg base ak 7 oW oZ [azM] (uX T))
 (BO:aO K mg "steps_to" Eo F7 F8) (MM:aj P w K mg base ak 7 F7 F8 [azu,azU,azL] (MK C S T Pt)) (iq:aO K mg aAe qf kD kE) (lO:aj P w K mg base ak 7 kD kE [azu,azM] (xZ C S T Pt))
 (mW:aO K mg "turn_to" xf vE vF) (yh:aj P w K mg base (ca P w) 7 vE vF [azy,az0] (FW D Fa)) (vG:aU K "note" "Disk.note" rY jJ qC) (vH:aj P w K mg base (ca P w) 7 jJ qC [azt,az8,azN] (FX D Fa))
 (mY:aO K mg "finish" Au vM vN) (yk:aj P w K mg base (ca P w) 7 vM vN [azy,az0] (FY D Fa)):aj P w K mg base (ca P w) 8 f fd [azu,azy,azL] (F6 C S T D Fa Pt):=by
 have tw:=gN.u.binds1 (l:=[azy]) (fun _ _ _ _ _ _ _=>rfl);have tz:=iL.u.binds1 (l:=[azM]) (fun _ _ _ _ _ _ _=>rfl);have as2:=BO.u.binds3 (l:=[azu,azU,azL]) (fun _ _ _ _ _ _ _ _ _=>rfl);have vI:=iq.u.binds2 (l:=[azu,azM]) (fun _ _ _ _ _ _ _ _=>rfl);have MI:=mW.u.binds2 (l:=[azy,az0]) (fun _ _ _ _ _ _ _ _=>rfl);have FZ:=vG.binds3 (l:=[azt,az8,azN]) (fun _ _ _ _ _ _ _ _ _=>rfl);have MN:=mY.u.binds2 (l:=[azy,az0]) (fun _ _ _ _ _ _ _ _=>rfl);refine F.okR vL (fun vs H Q E h=>?_) (fun aw A outer s H vs Q E hr h=>?_)
 . obtain⟨sv,gv,x,dx,d,b,lf,fs,bk,xs,ps,ns,ch,cs,ow,rfl,_⟩:=h;rfl
 . refine Qp ?_;intro xX dX;obtain⟨sv,gv,x,dx,d,b,lf,fs,bk,xs,ps,ns,ch,cs,ow,rfl,hW,hG,gy,hD,jd,aza,tok,tab,q1,q2,q3,q4⟩:=h;refine⟨_,(am (aJ (i:=3) vL.nd rfl (Or.inl rfl) (aG kH hr rfl gN tw (aa (pv 1) ac)))
    (am (aJ (i:=4) vL.nd rfl (Or.inl rfl) (aG lR hr rfl iL tz (aa (pv 2) ac)))
    (am (cO (bY fw (aG lR hr rfl iL tz (aa (pv 3) ac)) (pv 4) (bT _))
    (av OH) dA)
    (am (aJ (i:=5) vL.nd rfl (Or.inl rfl) (aG MM hr rfl BO as2 (aa (pv 0) (aa (cU (pv 3) rfl) (aa (pv 2) ac)))))
    (am (aJ (i:=6) vL.nd rfl (Or.inl rfl) (aG lO hr rfl iq vI (aa (pv 0) (aa (pv 2) ac))))
    (am (cp (jV (pv 1) UD.cl UD.mDNt vH hr FZ .nil lB (aa bV (aa (pv 4) ac))))
    (am (eJ PassesOwn.leaving rfl (cQ (pv 5)) (pF rfl (fb (bc (i:=7) vL.nd rfl (Or.inl rfl)) (fb (bc (i:=8) vL.nd rfl (Or.inl rfl)) mi)))
    (am (cp (mo yh hr rfl mW.m mW.u.kp MI .nil lB (aa (pv 1) (aa (pv 8) ac))))
     (av (cp (jV (pv 1) UD.cl UD.mDNt vH hr FZ .nil lB (aa bV (aa (dj ny yT yU wJ bV (aa (pv 7) ac)) ac)))))))
    (av (cp (mo yk hr rfl mY.m mY.u.kp MN .nil lB (aa (pv 1) (aa (pv 6) ac)))))))))))),?_⟩
   refine aiE ?_;intro dD sS u8 u7 u6 u5 u4 u3 u2;obtain⟨tb,b1,b2⟩:=id hD.bo;obtain⟨t0,ym⟩:∃t0,(Str.empty::bQ bk).getLast?=some t0:=⟨_,ayc (yR _ _)⟩;obtain⟨gb,gO,gP,gQ⟩:=tok t0 (List.mem_of_getLast? ym);have bPt:jt H [Pt]:=fun q hq=>(hD.busy tab) q (by rw[bw.mp hq];simp);refine⟨_,rfl,x,dx,d,b,_,tb,bk,xs,ps,t0,gb,gO,gP,rfl,hD.ob,b1,b2,by omega,ym,gQ,fun v0 H1 s1 ia=>?_⟩;refine⟨_,rfl,?_⟩;dsimp only[fz,tM,yY];refine gy.sho ((hG.same bO).same s1) fun t bq bv bi H2 r1 r2 r3 hT s2=>?_;have hg:f9 xs ps ch cs ow t:=⟨bq,bv,bi,r1,r2,r3,hT⟩;have U8:=ia [Pt] bPt;obtain⟨va,vdx,vfl,c0,h0,o0,rfl,w1,w2,w3,w4,w5,w6,w7⟩:=id U8;refine⟨_,rfl,?_⟩;dsimp only[fz,tM,yY];refine gQ.sho ((U8.same bO).same s2) fun H3 s3=>⟨_,rfl,rfl,_,rfl,?_⟩;have fX:=s2.trans s3;have lU:=s1.trans fX;refine bA (fun h=>?_) (fun h=>?_)
   . have e:=cT h;injection e with e
     exact q1 t H3 hg (e▸ym) (hD.same lU) (.of lU) (tab.same lU)
   . have ne:(Str.empty::bQ bk).getLast?≠some t:=fun z=>h (by rw[ym]at z;injection z with z;rw[z];exact bN rfl);have m3:=ib (L:=[Pt]) lU;have less:∀{Hx:Hp},ag (msk [x,d,b,Pt] Hx) (msk [Pt] Hx):=Jl (by simp);have lQ:=tab.same lU;have U9:=hD.same lU;refine⟨_,rfl,_,rfl,va,T,vdx,_,_,rfl,fX _ _ (bO _ _ w1),UT.cl,UT.nC,w2,_,rfl,?_⟩;refine⟨sv,gv,c0,xs,ps,ns,gb,ch,cs,ow,rfl,(hW.same less).same m3,w5.same (ib fX),⟨gQ.so.ok.d1,gQ.so.va⟩,(hG.same less).same m3,gy,lQ,fun l zs es H4 nl kT oU el prS e8=>?_⟩;have k34:be x d b Pt H3 H4:=.ofT kT;have MO:be x d b Pt H H4:=(be.of lU).trans k34;have qE:=U9.keepT lQ kT;have W4:=(hW.same MO.msk).same bO;have G4:=(hG.same MO.msk).same bO;have cB:eM xs ps ch:=⟨gy.ok.d1,gy.va⟩;refine⟨_,rfl,_,rfl,sv,gv,xs,ps,ch,cs,ow,ns,rfl,W4.sh,W4.pc,W4.pcok,W4.n4,G4,gy.va,cB.len W4.ap W4.n4,gy.o2,gy.ok.okO,fun e he=>(gy.ok.ok.cs e he).2.ln,oU,fun t5 H5 kvs tr n5 yn ij e5 vJ oV lT pW vO=>?_⟩;have Va:be x d b Pt H4 H5:=.ofT yn;have BP:=MO.trans Va;have mL:=qE.keepT oU yn;have by3:=U9.busy lQ;have by4:=qE.busy oU;have nb:∀{q:Addr},H3 q=none->q∉[x,d,b,Pt]:=fun e=>by3.free e;have R4:∀{q:Addr}{o:HO},H4 q=some o->H3 q=none->msk [x,d,b,Pt] H4 q=some o:=fun e n=>cJ (nb n) e;obtain⟨Vb,c1,c2⟩:=id qE.bo;obtain⟨kd4,c3,_⟩:=id qE.fi;have EI:Paired (F5 (msk [x,d,b,Pt] H4)) zs es:=aE prS fun v e z=>by
      obtain⟨tp,g,tt,kk,z1,z2,z3,z4,z5,z6,z7,z8,z9⟩:=z;have g4:=bO _ _ z4;obtain⟨φ,wφ⟩:=aD.at oU;have gn:g∉[x,d,b,Pt]:=fun m=>by
       simp only[aY,fq,ft]at m
       rcases m with m | m | m | m
       . rw[m,qE.ob]at g4;cases g4
       . rw[m,c3]at g4;cases g4
       . exact UZ (ls:=[e.1]) c1 c2 (.inr (by simp)) g4 m
       . rw[m,wφ]at g4;cases g4
      exact⟨tp,g,tt,kk,z1,R4 (bO _ _ z3) z2,cJ gn g4,z5,R4 (bO _ _ z7) z6,aE z8 fun _ _ as8=>as8.elim fun y1 as9=>as9.elim fun l' ata=>ata.elim fun y2 atb=>atb.elim fun y3 y4=>⟨y1,l',y2,R4 (bO _ _ y4) y3⟩,z9⟩
     have l4:msk [x,d,b,Pt] H4 l=some (.lst zs):=R4 el nl;have F9:t5∉[x,d,b,Pt]:=by4.free n5;have fF:Paired (bM (msk [x,d,b,Pt] H5)) kvs tr:=aE vJ fun _ _ atc=>atc.elim fun y1 atd=>atd.elim fun l' ate=>ate.elim fun y2 atf=>atf.elim fun y3 y4=>⟨y1,l',y2,cJ (by4.free y3) y4⟩;have e5m:msk [x,d,b,Pt] H5 t5=some (.dK kvs):=cJ F9 e5;have dt5:d≠t5:=fun z=>F9 (by rw[←z];simp);refine⟨_,rfl,x,dx,_,rfl,mL.ob,rfl,_,rfl,x,dx,d,b,lf,fs,bk,_,t,rfl,mL,by omega,(by decide +kernel),hT.txt,fun Vc H6 e6 MP Vd=>?_,fun e=>q4 e t H5 hg ne mL BP ij⟩;have yo:be x d b Pt H5 H6:=fun q o e n1 _ n3 _=>Vd q o e n1 n3;have oR:aD H6 Pt dv di:=K63.aD.kx mL ij fun p o e n1 _ n3=>Vd p o e n1 n3;have MQ:=(Va.trans yo).msk;have m56:=yo.msk;have lfn:lf=none->Vc=none:=fun z=>by rw[z]at e6;cases e6;rfl
     have zl:=bC EI;refine⟨_,rfl,l,rfl,⟨_,ae.of (bO _ _ (MQ _ _ l4))⟩,?_⟩;refine iT (xs:=zs) (fun i σ H7=>∃u v vP vQ st,σ=[some sv,some (.ref x),some gv,some (.ref va),some (.str t),some (.ref l),some (.ref t5),u,v]/\be x d b Pt H6 H7/\aD H7 Pt dv di/\Dk D x dx d b vP vQ (bk++(dE,t)::dZ st) H7/\st.length=i/\vQ.length<=20/\(lf=none->vP=none))
      ⟨none,none,Vc,fs,[],rfl,.of (ag.refl _),oR,MP,rfl,jd,lfn⟩ ?_ ?_ ?_
     . rintro i σ H7 hi ⟨u,v,vP,vQ,st,rfl,k7,_⟩;exact ae.of (bO _ _ ((MQ.trans k7.msk) _ _ l4))
     . intro i z σ H7 hz hQ;refine bg ?_;intro tT;obtain⟨u,v,vP,vQ,st,rfl,k7,tu,oS,il,yp,BQ⟩:=hQ;obtain⟨e,he,hE⟩:=eE EI hz;have aN:=(cW.mp hz).1;obtain⟨tp,g,tt,kk,rfl,z2,z3,z4,z5,z6,z7,z8,z9⟩:=hE.same (MQ.trans k7.msk);have bn:bk++(dE,t)::dZ st≠[]:=by simp
       have lb:(bk++(dE,t)::dZ st).length<=309:=by
        rw[bj,cg];unfold dZ;rw[ao];omega
       have dtt:d≠tt:=fun z=>by
        obtain⟨kd,d1,_⟩:=id oS.fi;have:=z5;unfold msk at this;rw[al (by rw[←z];simp)]at this;cases this
       refine⟨tp,_,rfl,aX.of (bO _ _ z2),rfl,_,_,rfl,_,_,rfl,rfl,?_⟩;refine mC ?_
       intros
       refine⟨_,rfl,_,rfl,x,dx,d,b,tt,vP,vQ,_,kk,e.2,rfl,oS,bn,bO _ _ z5,dtt,aE z6 fun _ _=>bM.same bO,z7,z9,A1 (by omega),fun BR kI H8 gr Ga Ve Gb ir=>?_,fun kI H8 tD gr MR ir=>?_⟩
       . have qF:be x d b Pt H7 H8:=fun q o e n1 n2 _ _=>ir q o e n1 n2;have g8:=bO _ _ (qF.msk _ _ z3);have Vf:aD H8 Pt dv di:=K63.aD.kx oS tu fun p o e n1 n2 _=>ir p o e n1 n2;refine⟨_,rfl,x,dx,_,rfl,gr.ob,rfl,rfl,_,rfl,_,g,[e.1],rfl,rfl,ae.of g8,?_,?_⟩
         . have:=z4.hi;show e.1.length+0+1 * (Str.ofString " ").length<=16777216;have:(Str.ofString " ").length=1:=by decide +kernel
           omega
         refine⟨x,dx,d,b,BR,kI,_,_,_,rfl,gr,by omega,(by decide +kernel),Ic (by decide +kernel) (fun y hy=>by rw[bw.mp hy];exact z4.ok),fun lf9 H9 e9 hD9 Vg=>?_,fun e9=>?_⟩
         . have k89:be x d b Pt H8 H9:=fun q o e n1 _ n3 _=>Vg q o e n1 n3;refine⟨_,_,lf9,kI,st++[Txt.join " " [e.1]],rfl,k7.trans (qF.trans k89),K63.aD.kx gr Vf fun p o e n1 _ n3=>Vg p o e n1 n3,?_,by rw[bj,il];rfl,by omega,fun z=>?_⟩
           . have eb:bk++(dE,t)::dZ st++[(BN,Txt.join " " [e.1])]=bk++(dE,t)::dZ (st++[Txt.join " " [e.1]]):=by unfold dZ;rw[dz,kN];rfl
             rw[←eb];exact hD9
           . rw[Gb (BQ z)]at e9;cases e9;rfl
         . have z0:=U1 gr e9;refine q3 t kI st H8 hg ne (fun y=>?_) (z0▸gr) (by omega) (by omega) (BP.trans (yo.trans (k7.trans qF))) Vf;rw[Gb (BQ y)]at z0;cases z0
       . have qF:be x d b Pt H7 H8:=fun q o e n1 n2 _ _=>ir q o e n1 n2;have le9:=MR.len gr.nd;exact q3 t kI st H8 hg ne (fun y=>tD (BQ y)) gr (by omega) (by omega) (BP.trans (yo.trans (k7.trans qF))) (K63.aD.kx oS tu fun p o e n1 n2 _=>ir p o e n1 n2)
     . rintro σ H7 ⟨u,v,vP,vQ,st,rfl,k7,tu,oS,il,yp,BQ⟩;have bn:bk++(dE,t)::dZ st≠[]:=by simp
       have lb:(bk++(dE,t)::dZ st).length<=309:=by
        rw[bj,cg];unfold dZ;rw[ao];omega
       have Vh:=m56.trans k7.msk;refine⟨_,rfl,_,rfl,x,dx,d,b,t5,vP,vQ,_,kvs,tr,rfl,oS,bn,by omega,bO _ _ (Vh _ _ e5m),dt5,aE fF fun _ _ z=>(bM.same Vh z).same bO,oV,pW,A1 (by omega),fun BR kI H8 gr Ga Ve Gb ir=>?_,fun kI H8 tD gr MR ir=>?_⟩
       . have qF:be x d b Pt H7 H8:=fun q o e n1 n2 n3 _=>ir q o e n1 n2 n3;exact q2 t BR kI st H8 hg ne gr (by omega) ⟨ch,cs,ow,tr,hg,gy,vO,Ga⟩ (by omega) (BP.trans (yo.trans (k7.trans qF))) (K63.aD.kx oS tu ir)
       . have qF:be x d b Pt H7 H8:=fun q o e n1 n2 n3 _=>ir q o e n1 n2 n3;have le9:=MR.len gr.nd;exact q3 t kI st H8 hg ne (fun y=>tD (BQ y)) gr (by omega) (by omega) (BP.trans (yo.trans (k7.trans qF))) (K63.aD.kx oS tu ir)
end K63
namespace K63
open PySem L2 PySem.Spec PyProof.Rows
variable {P:Program}{w:World}{K:Fg}{mg:Mv}{base:Heap}
seal PE PS cn PA PT PW PG gX PI gE
def Gc(C S D Fa Pt:Addr):Sp:=fun vs H Q E=>∃(sv:V) (x dx d b:Addr) (lf:Option Int) (fs:Tr) (bk:Bk) (xs:Lv) (ps:Lp) (ns:Ls) (t:Str) (ch:Ch) (cs:Cs) (ow:Ow),vs=[sv,.ref x]/\jN C S (msk [x,d,b,Pt] H) sv xs ps ns/\Dk D x dx d b lf fs bk H/\bk.length<=390/\(Str.empty::bQ bk).getLast?=some t/\f8 xs ps t ch cs ow/\(dF bk=false->mX ps ch cs ow fs)/\aD H Pt dv di /\
 (dF bk=true->∀H',Dk D x dx d b lf fs bk H'->be x d b Pt H H'->aD H' Pt dv di->Q (.bl false) H') /\
 (dF bk=false->∀lf' aM H',Dk D x dx d b lf' aM (bk++[fZ]) H'->vK xs ps t aM->aM.length<=20->be x d b Pt H H'->aD H' Pt dv di->Q (.bl true) H') /\
 (dF bk=false->lf≠none->∀aM H',Dk D x dx d b (some 0) aM bk H'->mX ps ch cs ow aM->be x d b Pt H H'->aD H' Pt dv di->E (.ref Fa) none H')
theorem atp:aP [azu,azy] [azu,azy] (aA As):=aZ
theorem atq(F:bB K "come_up" As f fd)
 (jg:aO K mg "is_up" xg o4 o5) (mZ:aj P w K mg base ak 7 o4 o5 [azy] (BD D)) (gN:aO K mg aAq uP kF kG) (kH:aj P w K mg base ak 7 kF kG [azy] (yg D T))
 (iq:aO K mg aAe qf kD kE) (lO:aj P w K mg base ak 7 kD kE [azu,azM] (xZ C S T Pt))
 (mY:aO K mg "finish" Au vM vN) (yk:aj P w K mg base (ca P w) 7 vM vN [azy,az0] (FY D Fa)):aj P w K mg base (ca P w) 8 f fd [azu,azy] (Gc C S D Fa Pt):=by
 have vR:=jg.u.binds1 (l:=[azy]) (fun _ _ _ _ _ _ _=>rfl);have tw:=gN.u.binds1 (l:=[azy]) (fun _ _ _ _ _ _ _=>rfl);have vI:=iq.u.binds2 (l:=[azu,azM]) (fun _ _ _ _ _ _ _ _=>rfl);have MN:=mY.u.binds2 (l:=[azy,az0]) (fun _ _ _ _ _ _ _ _=>rfl);refine F.okR atp (fun vs H Q E h=>?_) (fun aw A outer s H vs Q E hr h=>?_)
 . obtain⟨sv,x,dx,d,b,lf,fs,bk,xs,ps,ns,t0,gb,gO,gP,rfl,_⟩:=h;rfl
 . obtain⟨sv,x,dx,d,b,lf,fs,bk,xs,ps,ns,t0,gb,gO,gP,rfl,hW,hD,azd,ym,gQ,Vi,tab,q1,q2,q3⟩:=h;refine⟨_,(am (cO (kS (aG mZ hr rfl jg vR (aa (pv 1) ac)))
    (av (aV pE)) dA)
    (am (cp (mo yk hr rfl mY.m mY.u.kp MN .nil lB (aa (pv 1) (aa (aG lO hr rfl iq vI (aa (pv 0) (aa (aG kH hr rfl gN tw (aa (pv 1) ac)) ac))) ac))))
    (av (aV pE)))),?_⟩
   obtain⟨tb,b1,b2⟩:=id hD.bo;refine⟨_,rfl,x,dx,d,b,_,tb,bk,rfl,hD.ob,b1,b2,hD.bt,fun H1 s1=>⟨_,rfl,?_⟩⟩;refine bA (fun h=>?_) (fun h=>?_)
   . exact q1 h H1 (hD.same s1) (.of s1) (tab.same s1)
   . have hf:dF bk=false:=qQ.mpr h;have bn:bk≠[]:=fun z=>by rw[z]at hf;cases hf
     have qD:=hD.same s1;obtain⟨jr,c1,c2⟩:=id qD.bo;refine⟨_,rfl,_,rfl,_,rfl,x,dx,d,b,_,jr,bk,xs,ps,t0,gb,gO,gP,rfl,qD.ob,c1,c2,by omega,ym,gQ,fun v0 H2 s2 ia=>?_⟩;have tq:=s1.trans s2;have W2:=(hW.same bO).same tq;have hv:=ia [] (fun b hb=>nomatch hb);rw[AJ]at hv;have BM:=tab.same tq;have cB:eM xs ps gb:=⟨gQ.so.ok.d1,gQ.so.va⟩;have sM:=hD.same tq;refine⟨sv,v0,xs,ps,gb,gO,gP,ns,rfl,W2.sh,W2.pc,W2.pcok,W2.n4,hv,gQ.so.va,cB.len W2.ap W2.n4,gQ.so.o2,gQ.so.ok.okO,fun e he=>(gQ.so.ok.ok.cs e he).2.ln,BM,fun t5 H5 kvs tr n5 yn ij e5 vJ oV lT pW vO=>?_⟩;have mL:=sM.keepT BM yn;have by2:=sM.busy BM;have F9:t5∉[x,d,b,Pt]:=by2.free n5;refine⟨x,dx,d,b,t5,lf,fs,bk,kvs,tr,rfl,mL,bn,by omega,e5,fun z=>F9 (by rw[←z];simp),aE vJ fun _ _ ats=>ats.elim fun y1 att=>att.elim fun l' atu=>atu.elim fun y2 atv=>atv.elim fun y3 y4=>⟨y1,l',y2,y4⟩,oV,pW,Vi hf tr vO oV lT,fun BR kI H8 gr Ga Ve Gb ir=>?_,fun kI H8 tD gr ki ir=>?_⟩
     . have MU:be x d b Pt H5 H8:=fun q o e n1 n2 n3 _=>ir q o e n1 n2 n3;exact q2 hf BR kI H8 gr ⟨gb,gO,gP,tr,⟨gb,gO,gP,gQ.s1,gQ.s2,gQ.s3,gQ⟩,gQ.so,vO,Ga⟩ (by omega) ((be.of tq).trans ((be.ofT yn).trans MU)) (K63.aD.kx mL ij ir)
     . have MU:be x d b Pt H5 H8:=fun q o e n1 n2 n3 _=>ir q o e n1 n2 n3;exact q3 hf tD kI H8 gr ((Vi hf).fall W2.ap gQ.so vO oV lT ki) ((be.of tq).trans ((be.ofT yn).trans MU)) (K63.aD.kx mL ij ir)
end K63
namespace K63
open PySem L2 PySem.Spec PyProof.Rows
variable {P:Program}{w:World}{K:Fg}{mg:Mv}{base:Heap}
seal PE PS cn PA PT PW PG gX PI gE
def MV(C T:Addr):Sp:=fun vs H Q _=>∃(a n:Addr) (cell:Int) (xs:Lv) (ps:Lp) (ns:Ls),vs=[.ref a,.ref n,.int cell]/\H a=some (.lst xs)/\dQ C H xs ps/\ps.length<=100/\(∀p∈ps,cC p.nm/\fg p.ms)/\H n=some (.lst (ns.map V.str))/\1<=ns.length/\ns.length<=4/\(∀n∈ns,cC n) /\
 ∀v ch cs ow H',ag H H'->(∀L,jt H L->gK T (msk L H') v ch cs ow)->ip xs ps ch cs ow->Q v H'
theorem qG:aP [azQ,azD,azv,"_law_chosen_here","_law_choices","_law_own",azB,"_law_common",azw,"_law_base"] [azQ,azD,azv] (aA Ev):=aZ
theorem atw(F:bB K "_law_stand" Ev f fd)(B:b9 mg)(UT:sf K mg T)(MT:Mk K T iI)(oJ:aU K "__init__" "Stand.__init__" qa iI lF)(qh:aj P w K mg base ak 2 iI lF [azt,azA,azI,azT] (xq T))
 (BS:aO K mg "_law_chosen" Eu MW MX) (atx:aj P w K mg base ak 3 MW MX [azQ,azD,azv] (Te K C)) (cH:aO K mg az7 r9 iZ i8) (fh:aj P w K mg base ak 3 iZ i8 [azv,azB] xk)
 (oM:aO K mg "_law_lines" Ay vg vh) (vi:aj P w K mg base ak 3 vg vh [azw] EF) (oK:aO K mg "_law_path" Az xA xC) (Kx:aj P w K mg base ak 3 xA xC [azw] JJ):aj P w K mg base ak 4 f fd [azQ,azD,azv] (MV C T):=by
 have AK:=oJ.binds4 (l:=[azt,azA,azI,azT]) (fun _ _ _ _ _ _ _ _ _ _=>rfl);have aty:=BS.u.binds3 (l:=[azQ,azD,azv]) (fun _ _ _ _ _ _ _ _ _=>rfl);have fj:=cH.u.binds2 (l:=[azv,azB]) (fun _ _ _ _ _ _ _ _=>rfl);have EX:=oM.u.binds1 (l:=[azw]) (fun _ _ _ _ _ _ _=>rfl);have Ky:=oK.u.binds1 (l:=[azw]) (fun _ _ _ _ _ _ _=>rfl);refine F.okL qG ?_
 . intro aw A outer s H vs Q E hr h xX dX;obtain⟨a,n,cell,xs,ps,ns,rfl,ha,bE,xp,Gd,hn,n1,n4,nok,q⟩:=h;have hu:=hr.units;refine⟨_,(am (aJ (i:=3) qG.nd rfl (Or.inl rfl) (aG atx hr rfl BS aty (aa (pv 0) (aa (pv 1) (aa (aG fh hr rfl cH fj (aa (pv 2) (aa aq ac))) ac)))))
    (am (aJ (i:=4) qG.nd rfl (Or.inl rfl) mB)
    (am (aJ (i:=5) qG.nd rfl (Or.inl rfl) mB)
    (am (eJ eI rfl (nK rfl B.range (aa (aF cF (aG fh hr rfl cH fj (aa (pv 2) (aa aq ac))) aq) ac)) (bc (i:=6) qG.nd rfl (Or.inl rfl))
    (am (aJ (i:=7) qG.nd rfl (Or.inl rfl) (bJ fR (pv 1) (aF cF (aG fh hr rfl cH fj (aa (pv 2) (aa (aF fc aq (pv 6)) ac))) (dJ gD (by rfl) B.len gA (aa (pv 1) ac))) (fun _ _=>rfl)))
     (av (jm hu (pv 4) (pv 7) (bJ fR (pv 1) (aF cF (aG fh hr rfl cH fj (aa (pv 2) (aa (aF fc aq (pv 6)) ac))) (dJ gD (by rfl) B.len gA (aa (pv 1) ac))) (fun _ _=>rfl)) rfl))))
    (am (eJ eI rfl (nK rfl B.range (aa (aF cF (aG fh hr rfl cH fj (aa (pv 2) (aa aq ac))) aq) ac)) (bc (i:=6) qG.nd rfl (Or.inl rfl))
    (am (aJ (i:=8) qG.nd rfl (Or.inl rfl) (aG fh hr rfl cH fj (aa (pv 2) (aa (aF fc aq (pv 6)) ac))))
     (am (aJ (i:=9) qG.nd rfl (Or.inl rfl) (aG vi hr rfl oM EX (aa (aG fh hr rfl cH fj (aa (pv 2) (aa (aF fc aq (pv 6)) ac))) ac)))
     (av (jm hu (pv 5) (aG Kx hr rfl oK Ky (aa (pv 8) ac)) (eV (aa (pv 9) (aa (aG vi hr rfl oM EX (aa (aG fh hr rfl cH fj (aa (pv 2) (aa (aF fc aq (pv 6)) ac))) ac)) ac))) rfl)))))
    (av (aV (zj MT qh hr rfl UT.mgC AK .nil fA (aa (pv 3) (aa (pv 4) (aa (pv 5) ac))))))))))),?_⟩
   refine wN ?_;intro dD sS u6 u5 u4 u3 u2;have name:∀r:Int,∃z,cy (ns.map V.str) (r % ((ns.map V.str).length:Int))=some (V.str z)/\cC z:=fun r=>by
    have hl:((ns.map V.str).length:Int)=ns.length:=by rw[ao]
    rw[hl];have h0:=yO r (show(ns.length:Int)≠0 by omega);have h1:=Co r (show(0:Int)<ns.length by omega);obtain⟨z,hz,zm⟩:=zC (xs:=ns) (r:=r % (ns.length:Int)) h0 h1;exact⟨z,hz,nok z (eg zm)⟩
   have Vj:(0:Int)<((ns.map V.str).length:Int):=by rw[ao];omega
   refine⟨_,rfl,_,rfl,_,rfl,cell,_,rfl,fun m0=>?_⟩;refine⟨a,n,m0,xs,ps,ns,rfl,ha,bE,xp,hn,n4,fun dc H1 ch nc s1 hc hv nd c4=>?_⟩;refine fun dh H2 nh s2 e2=>?_;refine fun dO H3 no s3 e3=>?_;have fX:=s1.trans (s2.trans s3);obtain⟨kc,eL,ii⟩:=id hc;have P0:lK H H3 dc dh dO ch [] []:=⟨fX,nc,s1.free nh,(s1.trans s2).free no,aL eL nh,aL (s2 _ _ eL) no,aL e2 no,hc.same (s2.trans s3),⟨[],s3 _ _ e2,.nil⟩,⟨[],e3,.nil⟩⟩;have o0:lL ch [] [] 4 0 0:=⟨⟨fun e he=>?_,(fun _ h=>nomatch h),(fun _ h=>nomatch h)⟩,nd,kM,kM,c4,aI _,aI _,(fun _ h=>nomatch h)⟩
   rotate_left
   . obtain⟨v,p,hi,e1,e2⟩:=hv e he;obtain⟨a1,a2⟩:=Gd p (Mp hi);exact⟨e1▸a1,e2▸a2⟩
   refine⟨_,rfl,cell,_,rfl,fun m1=>?_⟩;refine⟨_,_,rfl,rfl,(by show(0:Int)<3;decide),m1 % 3,rfl,by omega,by omega,?_⟩;refine uc (fun i σ H4=>∃u v cs,σ=[some (.ref a),some (.ref n),some (.int cell),some (.ref dc),some (.ref dh),some (.ref dO),u,v,none,none]/\lK H H4 dc dh dO ch cs []/\lL ch cs [] 4 i 0) ⟨none,none,[],rfl,P0,o0⟩ ?_ ?_
   . intro i σ H4 hi hQ;refine bg ?_;intro tT;obtain⟨u,v,cs,rfl,N,ok⟩:=hQ;have Ge:=N.old _ _ hn;refine⟨_,rfl,_,rfl,_,rfl,_,_,rfl,rfl,cell,_,rfl,fun m2=>?_⟩;obtain⟨z1,E2,nz1⟩:=name m2;refine⟨_,rfl,n,_,rfl,.inl (ae.of Ge),_,_,rfl,rfl,Vj,n,_,_,_,rfl,rfl,ae.of Ge,E2,?_⟩;refine⟨_,rfl,_,rfl,_,rfl,_,_,rfl,rfl,cell,_,rfl,fun m3=>?_⟩;obtain⟨z2,hz2,nz2⟩:=name m3;obtain⟨kh,c1,c2⟩:=id N.cs;have lc:=bC c2;have:=ok.n2;refine⟨_,rfl,n,_,rfl,.inl (ae.of Ge),_,_,rfl,rfl,Vj,n,_,_,_,rfl,rfl,ae.of Ge,hz2,_,rfl,_,rfl,dh,_,rfl,fT.k (k:=.inr z1) c1 (bZ (by omega)),?_⟩;exact⟨_,_,_,rfl,N.putH c1,ok.putH nz1 nz2⟩
   . intro σ H4 hQ;refine bg ?_;intro tT;obtain⟨u,v,cs,rfl,N4,ok4⟩:=hQ;refine⟨_,rfl,cell,_,rfl,fun m5=>?_⟩;refine⟨_,_,rfl,rfl,(by show(0:Int)<3;decide),m5 % 3,rfl,by omega,by omega,?_⟩;refine uc (fun i σ H5=>∃u x8 x9 ow,σ=[some (.ref a),some (.ref n),some (.int cell),some (.ref dc),some (.ref dh),some (.ref dO),u,v,x8,x9]/\lK H H5 dc dh dO ch cs ow/\lL ch cs ow 4 4 i) ⟨u,none,none,[],rfl,N4,ok4.mono (aI _) (by omega) (aI _)⟩ ?_ ?_
     . intro i σ H5 hi hQ;refine bg ?_;intro tT;obtain⟨u,x8,x9,ow,rfl,N,ok⟩:=hQ;refine⟨_,rfl,_,rfl,_,_,rfl,rfl,cell,_,rfl,fun m6=>?_⟩;refine⟨_,rfl,_,rfl,_,_,rfl,rfl,cell,_,rfl,fun m7=>⟨m7,rfl,fun l1 H6 ls1 nl1 s6 e6 k6 o6=>?_⟩⟩;refine⟨_,rfl,_,rfl,_,rfl,_,_,rfl,rfl,cell,_,rfl,fun m8=>⟨m8,rfl,fun l2 H7 ls2 nl2 s7 e7 k7 o7=>?_⟩⟩;refine⟨(by show 2<=sizeLine;decide),fun t H8 nt s8 e8=>?_⟩;refine⟨_,rfl,_,rfl,m6,rfl,fun pt H9 hpt s9=>?_⟩;have N9:=N.same (s6.trans (s7.trans (s8.trans s9)));obtain⟨ko,c1,c2⟩:=id N9.ow;have lc:=bC c2;have:=ok.n3;refine⟨dO,_,rfl,fT.k (k:=.inr pt) c1 (bZ (by omega)),?_⟩;exact⟨_,_,_,_,rfl,N9.putO c1 (s9 _ _ e8) ((s7.trans (s8.trans s9)) _ _ e6) ((s8.trans s9) _ _ e7),ok.putO hpt o6 o7 k6 k7⟩
     . intro σ H5 hQ;refine bg ?_;intro tT;obtain⟨u,x8,x9,ow,rfl,N,ok⟩:=hQ;have o2:ow.length<=2:=cu ok.n3 (by omega);refine⟨_,rfl,_,rfl,_,rfl,?_⟩;refine JT (T:=T) N.ch N.cs N.ow ok.d3 (by omega) fun x H6 nx s6 fM=>?_;refine q (.ref x) ch cs ow H6 (N.old.trans s6) (fun L hL=>fM L fun b hb=>(hL b hb).elim fun o atF=>atF.elim fun e n=>⟨o,N.old b o e,n⟩) ⟨⟨ok.ok,ok.d1,ok.d2,ok.d3,ok.n1,ok.n2,by omega,ok.ln⟩,hv,o2⟩
end K63
namespace L2
open PySem PySem.Spec PyProof.Rows
open PySem.W (KeqHits)
section
variable {X:Cx}
theorem atG:cL X (compareOp .Is) (fun x y H Q=>∃b c:Bool,x=.bl b/\y=.bl c/\Q (.bl (b == c)) H):=by
 intro pins s σ H x y v u Q I rx ry h;obtain⟨b,c,rfl,rfl,q⟩:=h;cases rx;cases ry;exact is_bool (cR I q rfl)
theorem atH(hu:X.A.units+65<cLine):cL X (compareOp .Eq) (fun x y H Q=>∃a b kvs kb gB,x=.ref a/\y=.ref b/\H a=some (.dK kvs)/\H b=some (.dK gB)/\Paired (Ix X.K H) kvs kb/\(∀p∈kb,p∈gB)/\kvs.length=gB.length/\(gB.map (·.1)).Nodup/\Q (.bl true) H):=by
 intro pins s σ H x y v u Q I rx ry h;obtain⟨a,b,kvs,kb,gB,rfl,rfl,ea,eb,pr,hm,hl,nd,q⟩:=h;cases rx;cases ry;obtain⟨_,hd,vs,rel,dd⟩:=mq I.hok ea;obtain⟨_,nI,ws,zH,gj⟩:=mq I.hok eb;refine PySem.W.keq_eq (knd:=cw X.prog X.w) (r:=true) hd nI dd gj (by omega) (fun _=>Qw I hu nd zH pr rel hm) ⟨.bl true,H,I,?_,q⟩;have e:vs.length=ws.length:=by rw[←rel.length,←zH.length,hl]
 rw[e];simp[RelV]
end
end L2
namespace K63
open PySem L2 PySem.Spec PyProof.Rows
variable {P:Program}{w:World}{K:Fg}{mg:Mv}{base:Heap}
seal PE PS cn PA PT PW PG gX PI gE
theorem Dk.allow{lf lf':Option Int}{fs:Tr}{bk:Bk}{H:Hp}(h:Dk D x dx d b lf fs bk H)(p:∀m,lf'=some m->0<=m):Dk D x dx d b lf' fs bk (ah H x (.ins D dx (bP d b (lv lf')))):=by
 obtain⟨kd,d1,d2⟩:=h.fi;obtain⟨tb,b1,b2⟩:=h.bo;have k:∀{q:Addr}{o:HO},H q=some o->(∀c d f,o≠.ins c d f)->ah H x (.ins D dx (bP d b (lv lf'))) q=some o:=fun e n=>aB e (aK e h.ob (n _ _ _));exact⟨aH,⟨kd,k d1 (by intro _ _ _ z;cases z),aE d2 fun _ _ atJ=>atJ.elim fun z1 atK=>atK.elim fun l atL=>atL.elim fun z2 z3=>⟨z1,l,z2,k z3 (by intro _ _ _ z;cases z)⟩⟩,⟨tb,k b1 (by intro _ _ _ z;cases z),aE b2 fun _ _ atM=>atM.elim fun t atN=>atN.elim fun z1 z2=>⟨t,z1,k z2 (by intro _ _ _ z;cases z)⟩⟩,h.nd,h.ok,h.bz,h.bt,p⟩
theorem be.allow{H:Hp}{o:HO}:be x d b Pt H (ah H x o):=fun q _ e n _ _ _=>aB e n
theorem aD.allow{lf:Option Int}{fs:Tr}{bk:Bk}{H:Hp}{lp:Pos}{qu:Str}{o:HO}(h:Dk D x dx d b lf fs bk H)(t:aD H Pt lp qu):aD (ah H x o) Pt lp qu:=K63.aD.kp t fun q φ e=>aB e (aK e h.ob (by intro z;cases z))
theorem atO(bk:Bk):∀st:Ls,bQ (bk++dZ st)=bQ bk:=fun st=>by
 unfold bQ dZ;rw[Ol,dz];have e:(st.map fun z=>(BN,z)).filter (fun e=>decide (e.1=dE))=[]:=by
  rw[List.filter_eq_nil_iff];intro e he;obtain⟨z,_,rfl⟩:=cD.mp he;exact fun h=>absurd (cT h) (show BN≠dE by decide +kernel)
 rw[e];exact lX _
theorem Gf(bk:Bk)(t:Str)(st:Ls):bQ (bk++(dE,t)::dZ st)=bQ bk++[t]:=by
 have e:bk++(dE,t)::dZ st=(bk++[(dE,t)])++dZ st:=by rw[kN];rfl
 rw[e,atO,yf,al rfl]
theorem Gg(bk:Bk)(t:Str)(st:Ls):bQ (bk++(dE,t)::dZ st++[fZ])=bQ bk++[t]:=by
 rw[yf,ai (show fZ.1≠dE by decide +kernel),Gf]
theorem o8(bk:Bk):dF (bk++[fZ])=true:=by
 unfold dF;rw[WX,ayb,Option.some_or];exact bN rfl
theorem MY(bk:Bk)(t:Str)(st:Ls):dF (bk++(dE,t)::dZ st)=false:=by
 unfold dF;have key:∃e:Str×Str,(bk++(dE,t)::dZ st).getLast?=some e/\e.1≠fZ.1:=by
  have ne:(bk++(dE,t)::dZ st)≠[]:=by simp
  refine⟨_,ayc ne,?_⟩;rw[List.getLast_append_of_ne_nil _ (yR _ _)];have hm:=List.getLast_mem (yR (dE,t) (dZ st))
  rcases aY.mp hm with z | z
  . rw[z];exact show dE≠fZ.1 by decide +kernel
  . obtain⟨y,_,ey⟩:=cD.mp z;rw[←ey];exact show BN≠fZ.1 by decide +kernel
 obtain⟨e,h1,h2⟩:=key;rw[h1];exact cI fun z=>h2 (by rw[z])
theorem vC.snoc{xs:Lv}{ps:Lp}{bk:Bk}{t:Str}(h:vC xs ps (Str.empty::bQ bk))(k:∃ch cs ow,f8 xs ps t ch cs ow):vC xs ps (Str.empty::(bQ bk++[t])):=fun y hy=>by
 rcases aY.mp hy with z | z
 . exact h y (by rw[z];exact bK)
 . rcases bS.mp z with z | z
   . exact h y (bR _ z)
   . rw[bw.mp z];exact k
theorem MZ(a:Str)(l:Ls)(t:Str):(a::(l++[t])).getLast?=some t:=by
 rw[←tM,WX];rfl
structure DS(D x dx d b Pt:Addr)(xs:Lv)(ps:Lp)(t:Str)(ch:Ch)(cs:Cs)(ow:Ow)(lf:Option Int)(fs:Tr)(bk:Bk)(H:Hp):Prop where
 dk:Dk D x dx d b lf fs bk H
 la:(Str.empty::bQ bk).getLast?=some t
 tx:f8 xs ps t ch cs ow
 ln:bk.length+(if dF bk=true then 0 else 1)<=60
 tk:vC xs ps (Str.empty::bQ bk)
 st:(dF bk=true/\vK xs ps t fs/\fs.length<=20)\/(dF bk=false/\mX ps ch cs ow fs)
 tb:aD H Pt dv di
section
variable {D x dx d b Pt:Addr}{xs:Lv}{ps:Lp}{t:Str}{ch:Ch}{cs:Cs}{ow:Ow}{lf lf':Option Int}{fs:Tr}{bk:Bk}{H H':Hp}
theorem DS.same(h:DS D x dx d b Pt xs ps t ch cs ow lf fs bk H)(s:ag H H'):DS D x dx d b Pt xs ps t ch cs ow lf fs bk H':=⟨h.dk.same s,h.la,h.tx,h.ln,h.tk,h.st,h.tb.same s⟩
theorem DS.allow(h:DS D x dx d b Pt xs ps t ch cs ow lf fs bk H)(p:∀m,lf'=some m->0<=m):DS D x dx d b Pt xs ps t ch cs ow lf' fs bk (ah H x (.ins D dx (bP d b (lv lf')))):=⟨h.dk.allow p,h.la,h.tx,h.ln,h.tk,h.st,K63.aD.allow h.dk h.tb⟩
theorem DS.len(h:DS D x dx d b Pt xs ps t ch cs ow lf fs bk H):bk.length<=60:=by
 have:=h.ln;omega
theorem DS.ful(h:DS D x dx d b Pt xs ps t ch cs ow lf fs bk H)(u:dF bk=false):mX ps ch cs ow fs:=by
 rcases h.st with⟨z,_⟩ | ⟨_,z⟩
 . rw[u]at z;cases z
 . exact z
theorem DS.full(h:DS D x dx d b Pt xs ps t ch cs ow lf fs bk H)(u:dF bk=true):vK xs ps t fs/\fs.length<=20:=by
 rcases h.st with⟨_,z⟩ | ⟨z,_⟩
 . exact z
 . rw[u]at z;cases z
end
def M0(C S D Pt:Addr):Sp:=fun vs H Q _=>∃(sv:V) (x dx d b:Addr) (lf:Option Int) (fs:Tr) (bk:Bk) (xs:Lv) (ps:Lp) (ns:Ls) (t:Str) (ch:Ch) (cs:Cs) (ow:Ow),vs=[sv,.ref x]/\jN C S (msk [x,d,b,Pt] H) sv xs ps ns/\DS D x dx d b Pt xs ps t ch cs ow lf fs bk H /\
 ∀v lf' aM cV H',DS D x dx d b Pt xs ps t ch cs ow lf' aM cV H'->be x d b Pt H H'->(v=.non\/v=.bl (!dF bk))->Q v H'
theorem Gh:aP [azK,azF,"_law_found"] [azK,azF] (aA Ex):=aZ
theorem atP(F:bB K "_law_come" Ex f fd)(mF:mg "Fallen"=some (.ref Fa))(ex:PySem.W.exmOne K (.ref Fa) (.ref Fa)=some true)
 (m9:aO K mg "come_up" As vS vT) (yq:aj P w K mg base (ca P w) 8 vS vT [azu,azy] (Gc C S D Fa Pt)):aj P w K mg base ak 9 f fd [azK,azF] (M0 C S D Pt):=by
 have M2:=m9.u.binds2 (l:=[azu,azy]) (fun _ _ _ _ _ _ _ _=>rfl);refine F.ok Gh (fun vs H Q E h=>?_) (fun aw A outer s H vs Q E hr h=>?_)
 . obtain⟨sv,x,dx,d,b,lf,fs,bk,xs,ps,ns,t,ch,cs,ow,rfl,_⟩:=h;rfl
 . obtain⟨sv,x,dx,d,b,lf,fs,bk,xs,ps,ns,t,ch,cs,ow,rfl,hW,h,q⟩:=h;refine⟨_,(am (aJ (i:=2) Gh.nd rfl (Or.inl rfl) kR)
    (wM (Qz rfl rfl mF rfl (fun XE pn E hp=>av (aJ (i:=2) Gh.nd rfl (Or.inl rfl) (Qu yq hr rfl m9.m m9.u.kp M2 .nil hp (aa (pv 0) (aa (pv 1) ac))))) (fun a=>av (aJ (i:=2) Gh.nd rfl (Or.inl rfl) kR)))
    (av (aV (pv 2))))),?_⟩
   refine⟨fun σ' H'=>∃v lf' aM cV,σ'=[some sv,some (.ref x),some v]/\DS D x dx d b Pt xs ps t ch cs ow lf' aM cV H'/\be x d b Pt H H'/\(v=.non\/v=.bl (!dF bk)),?_,?_⟩
   . have ln:=h.ln;refine⟨_,rfl,_,rfl,sv,x,dx,d,b,lf,fs,bk,xs,ps,ns,t,ch,cs,ow,rfl,hW,h.dk,by omega,h.la,h.tx,h.ful,h.tb,fun u H' hD k tb=>?_,fun u lf' aM H' hD fu jd k tb=>?_,fun u ln aM H' hD fu k tb=>?_⟩
     . exact⟨.bl false,lf,fs,bk,rfl,⟨hD,h.la,h.tx,h.ln,h.tk,h.st,tb⟩,k,.inr (by rw[u];rfl)⟩
     . have eb:bQ (bk++[fZ])=bQ bk:=by rw[yf,ai (show fZ.1≠dE by decide +kernel)]
       rw[u]at ln;refine⟨.bl true,lf',aM,bk++[fZ],rfl,⟨hD,by rw[eb];exact h.la,h.tx,?_,by rw[eb];exact h.tk,.inl ⟨o8 bk,fu,jd⟩,tb⟩,k,.inr (by rw[u];rfl)⟩;rw[o8,al rfl,bj,iN];simpa using ln
     . exact⟨ex,.non,some 0,aM,bk,rfl,⟨hD,h.la,h.tx,h.ln,h.tk,.inr ⟨u,fu⟩,tb⟩,k,.inl rfl⟩
   . rintro σ' H' ⟨v,lf',aM,cV,rfl,hS,k,hv⟩;exact⟨_,rfl,q v lf' aM cV H' hS k hv⟩
def Vk(D:Addr):Sp:=fun vs H Q _=>∃(x dx d b:Addr) (v:V) (tb:Lv) (bk:Bk),vs=[.ref x]/\H x=some (.ins D dx (bP d b v))/\H b=some (.lst tb)/\Paired (mT H) tb bk/\bk.length<=500/\∀H',ag H H'->Q (.int ((bQ bk).length:Nat)) H'
theorem atQ:aP [azF] [azF] (aA Ey):=aZ
theorem atR(F:bB K "_law_begun" Ey f fd)(B:b9 mg)(T:ik K mg D f1 im f3 f4 f5 f6 f7)(lN:aU K aAp "Disk.book_now" qb im mV):aj P w K mg base ak 2 f fd [azF] (Vk D):=by
 have BE:aj P w K mg base ak 1 im mV [azt] (Ff D):=Lf lN T B;have BF:=lN.binds1 (l:=[azt]) (fun _ _ _ _ _ _ _=>rfl);refine F.okL atQ ?_
 . intro aw A outer s H vs Q E hr h xX dX;obtain⟨x,dx,d,b,v,tb,bk,rfl,hx,hb,pb,vt,q⟩:=h;refine⟨_,(av (aV (dJ gD (by rfl) B.len gA (aa (gF ["_law_kind","_law_text"] [] [] eA rfl (cQ (rh (pv 0) T.cl T.mBNo BE hr BF .nil fA)) (fun _ _ _ _=>(Me (n:=2) K rfl (fb (bc (i:=0) (show List.Nodup (["_law_kind","_law_text"]:Ls) by decide +kernel) rfl (Or.inl rfl)) (fb (bc (i:=1) (show List.Nodup (["_law_kind","_law_text"]:Ls) by decide +kernel) rfl (Or.inl rfl)) mi)))) (fun _ _ _ _=>nY (bY fw (pv 0) bV (bT _))) (fun _ _ _ _=>aq)) ac)))),?_⟩;have pl:=bC pb;refine⟨_,rfl,x,dx,_,rfl,hx,rfl,x,dx,d,b,v,tb,rfl,hx,hb,fun r H2 n2 s2 e2=>⟨r,rfl,⟨_,ae.of e2⟩,?_⟩⟩;intro D' jf;refine qm (σ0:=[none,none]) jf (ae.of e2) (fun σ=>∃u v,σ=[u,v]) (fun j zs _=>zs.length=(bQ (bk.take j)).length) ⟨_,_,rfl⟩ rfl ?_ ?_
   . rintro j y zs σ H3 k k' hy ⟨u,v,rfl⟩ dg h3 hz eL ii;obtain⟨e,he,t,rfl,ht⟩:=eE pb hy;have aN:=(cW.mp he).1;refine⟨t,_,rfl,aX.of ((s2.trans h3) _ _ ht),rfl,_,_,rfl,_,_,rfl,rfl,?_⟩;have bs:=yf (bk.take j) e;rw[←qz he]at bs;have bl:(bQ (bk.take j)).length<=500:=by
      unfold bQ;rw[ao];exact cu (yI _ _) (by rw[eG];omega)
     refine⟨_,rfl,rfl,_,rfl,?_⟩;refine bA (fun h=>?_) (fun h=>?_)
     . have h:=cT h;injection h with h
       rw[al (show e.1=dE from h)]at bs;refine eL _ _ _ ⟨_,_,rfl⟩ (ag.refl _) (bZ (by omega)) ?_;rw[bs,bj,bj,hz];rfl
     . rw[ai (fun z=>h (by rw[z];exact bN rfl))]at bs;refine ii _ _ ⟨_,_,rfl⟩ (ag.refl _) ?_;rw[bs];exact hz
   . rintro zs H3 dg h3 hz;rw[pl,eZ]at hz;refine⟨D',_,rfl,.inl (ae.of dg),?_⟩;rw[hz];exact q H3 (s2.trans h3)
def M3(C S T D Pt:Addr):Sp:=fun vs H Q _=>∃(sv gv:V) (x dx d b:Addr) (lf:Option Int) (fs:Tr) (bk:Bk) (xs:Lv) (ps:Lp) (ns:Ls) (t0:Str) (gb:Ch) (gO:Cs) (gP:Ow) (ch:Ch) (cs:Cs) (ow:Ow),vs=[sv,.ref x,gv]/\jN C S (msk [x,d,b,Pt] H) sv xs ps ns/\gK T (msk [x,d,b,Pt] H) gv ch cs ow/\ip xs ps ch cs ow/\DS D x dx d b Pt xs ps t0 gb gO gP lf fs bk H/\dF bk=true/\bk.length<=30 /\
 ∀fJ t iM jh ji lf' aM cV H',DS D x dx d b Pt xs ps t iM jh ji lf' aM cV H'->be x d b Pt H H'->((fJ=false/\f9 xs ps ch cs ow t)\/(fJ=true/\t=t0/\bQ cV=bQ bk/\dF cV=true)\/(fJ=true/\f9 xs ps ch cs ow t/\(bQ cV).length=(bQ bk).length+1/\dF cV=false/\aM.length<=40/\cV≠[]))->Q (.bl fJ) H'
theorem M4:aP [azK,azF,aAa,"_law_fell"] [azK,azF,aAa] (aA Ew):=aZ
theorem atU(F:bB K "_law_deed" Ew f fd)(mF:mg "Fallen"=some (.ref Fa))(ex:PySem.W.exmOne K (.ref Fa) (.ref Fa)=some true)
 (ng:aO K mg "do_deed" Aw vU vV) (yr:aj P w K mg base (ca P w) 8 vU vV [azu,azy,azL] (F6 C S T D Fa Pt)):aj P w K mg base ak 9 f fd [azK,azF,aAa] (M3 C S T D Pt):=by
 have M6:=ng.u.binds3 (l:=[azu,azy,azL]) (fun _ _ _ _ _ _ _ _ _=>rfl);refine F.ok M4 (fun vs H Q E h=>?_) (fun aw A outer s H vs Q E hr h=>?_)
 . obtain⟨sv,gv,x,dx,d,b,lf,fs,bk,xs,ps,ns,t0,gb,gO,gP,ch,cs,ow,rfl,_⟩:=h;rfl
 . obtain⟨sv,gv,x,dx,d,b,lf,fs,bk,xs,ps,ns,t0,gb,gO,gP,ch,cs,ow,rfl,hW,hG,gy,h,Gi,Vl,q⟩:=h;refine⟨_,(am (aJ (i:=3) M4.nd rfl (Or.inl rfl) pE)
    (wM (Qz rfl rfl mF rfl (fun XE pn E hp=>av (cp (Qu yr hr rfl ng.m ng.u.kp M6 .nil hp (aa (pv 0) (aa (pv 1) (aa (pv 2) ac)))))) (fun a=>av (aJ (i:=3) M4.nd rfl (Or.inl rfl) pE)))
    (av (aV (pv 3))))),?_⟩
   refine⟨fun σ' H'=>∃fJ t iM jh ji lf' aM cV,σ'=[some sv,some (.ref x),some gv,some (.bl fJ)]/\DS D x dx d b Pt xs ps t iM jh ji lf' aM cV H'/\be x d b Pt H H'/\((fJ=false/\f9 xs ps ch cs ow t)\/(fJ=true/\t=t0/\bQ cV=bQ bk/\dF cV=true)\/(fJ=true/\f9 xs ps ch cs ow t/\(bQ cV).length=(bQ bk).length+1/\dF cV=false/\aM.length<=40/\cV≠[])),?_,?_⟩
   . have sl:∀st:Ls,(dZ st).length=st.length:=fun st=>by unfold dZ;rw[ao]
     refine⟨_,rfl,_,rfl,_,rfl,sv,gv,x,dx,d,b,lf,fs,bk,xs,ps,ns,ch,cs,ow,rfl,hW,hG,gy,h.dk,(h.full Gi).2,by omega,h.tk,h.tb,fun t H' hg hl jf k' ni=>?_,fun t lf' aM st H' hg hl jf yp fu s8 k' ni=>?_,fun t aM st H' hg hl tD jf M7 s8 k' ni=>?_,fun _ t H' hg hl jf k' ni=>?_⟩
     . have e:t0=t:=by have:=h.la;rw[hl]at this;injection this with this;exact this.symm
       subst e;exact⟨false,t0,gb,gO,gP,lf,fs,bk,rfl,⟨jf,h.la,h.tx,h.ln,h.tk,h.st,ni⟩,k',.inl ⟨rfl,hg⟩⟩
     . obtain⟨bq,bv,bi,r1,r2,r3,hT⟩:=id hg;refine⟨false,t,bq,bv,bi,lf',aM,_,rfl,⟨jf,by rw[Gg];exact MZ _ _ _,hT,?_,by rw[Gg];exact h.tk.snoc hg.ok,.inl ⟨o8 _,fu,yp⟩,ni⟩,k',.inl ⟨rfl,hg⟩⟩;rw[o8,al rfl,bj,bj,cg,sl,iN];omega
     . obtain⟨bq,bv,bi,r1,r2,r3,hT⟩:=id hg;refine⟨ex,true,t,bq,bv,bi,some 0,aM,_,rfl,⟨jf,by rw[Gf];exact MZ _ _ _,hT,?_,by rw[Gf];exact h.tk.snoc hg.ok,.inr ⟨MY _ _ _,mX.of (by omega)⟩,ni⟩,k',.inr (.inr ⟨rfl,hg,by rw[Gf,bj];rfl,MY _ _ _,M7,by simp⟩)⟩;rw[MY,ai (by decide),bj,cg,sl];omega
     . exact⟨ex,true,t0,gb,gO,gP,lf,fs,bk,rfl,⟨jf,h.la,h.tx,h.ln,h.tk,h.st,ni⟩,k',.inr (.inl ⟨rfl,rfl,rfl,Gi⟩)⟩
   . rintro σ' H' ⟨fJ,t,iM,jh,ji,lf',aM,cV,rfl,hS,k,hc⟩;exact⟨_,rfl,q fJ t iM jh ji lf' aM cV H' hS k hc⟩
end K63
namespace K63
open PySem L2 PySem.Spec PyProof.Rows
variable {P:Program}{w:World}{K:Fg}{mg:Mv}{base:Heap}
seal PE PS cn PA PT PW PG gX PI gE
theorem atW{K:Fg}{H:Hp}{gB:List (ar×V)}{tr:Tr}(hw:Paired (bM H) gB tr){kvs:List (ar×V)}{fs:Tr}(ok:dw fs)(hs:∀f∈fs,f∈tr)(h:Paired (bM H) kvs fs):∃kb,Paired (Ix K H) kvs kb/\∀p∈kb,p∈gB:=by
 induction h with
 | nil=>exact⟨[],.nil,fun _ h=>nomatch h⟩
 | @cons kv f kvs fs r t ih=>
  obtain⟨kb,h1,h2⟩:=ih (fun g hg=>ok g (bR _ hg)) (fun g hg=>hs g (bR _ hg));obtain⟨i,hi⟩:=List.mem_iff_getElem?.mp (hs f bK);obtain⟨kw,hkw,a2,l2,b2,c2⟩:=DF hw hi;obtain⟨a1,l1,b1,c1⟩:=r;refine⟨kw::kb,.cons ⟨a1.trans a2.symm,dS f.2,?_,?_,TH (ok f bK)⟩ h1,fun p hp=>?_⟩
  . rw[b1];exact pQ (ae.of c1)
  . rw[b2];exact pQ (ae.of c2)
  . rcases aY.mp hp with e | hp
    . rw[e];exact eg hkw
    . exact h2 p hp
section
variable {D x dx d b:Addr}{lf lf':Option Int}{fs:Tr}{bk:Bk}{H H':Hp}{kd:List (ar×V)} {p:Str}
theorem Vm{aM:Tr}{M8:List (ar×V)}(h:Dk D x dx d b lf fs bk H)(bn:bk≠[])(hd:H d=some (.dK kd))(h1:H' x=some (.ins D dx (bP d b (lv lf'))))(h2:H' d=some (.dK M8))(kp:∀p o,H p=some o->p≠x->p≠d->H' p=some o)(pr:Paired (bM H') M8 aM)(nd:(aM.map (·.1)).Nodup)(ok:dw aM)(l0:∀m,lf'=some m->0<=m):Dk D x dx d b lf' aM bk H':=by
 obtain⟨tb,b1,b2⟩:=h.bo;have k:∀{q:Addr}{o:HO},H q=some o->(∀c d f,o≠.ins c d f)->(∀k,o≠.dK k)->H' q=some o:=fun e n1 n2=>kp _ _ e (aK e h.ob (n1 _ _ _)) (aK e hd (n2 _));exact⟨h1,⟨M8,h2,pr⟩,⟨tb,k b1 (by intro _ _ _ z;cases z) (by intro _ z;cases z),aE b2 fun _ _ atY=>atY.elim fun t atZ=>atZ.elim fun z1 z2=>⟨t,z1,k z2 (by intro _ _ _ z;cases z) (by intro _ z;cases z)⟩⟩,nd,ok,fun z=>absurd z bn,h.bt,l0⟩
theorem Vn{ls:Ls}(h:Dk D x dx d b lf fs bk H)(bn:bk≠[])(hd:H d=some (.dK kd))(pk:Paired (bM H) kd fs)(ok:∀y∈ls,Ln y)(h1:H' x=some (.ins D dx (bP d b (lv lf'))))(h2:H' d=some (.dK (cz kd (.inr p) (.ref q))))(h3:H' q=some (.lst (ls.map V.str)))(kp:∀p o,H p=some o->p≠x->p≠d->H' p=some o)(l0:∀m,lf'=some m->0<=m):Dk D x dx d b lf' (bI fs p ls) bk H':=by
 have kk:∀kv f,bM H kv f->bM H' kv f:=fun kv f at1=>at1.elim fun z1 at2=>at2.elim fun l3 at3=>at3.elim fun z2 z3=>⟨z1,l3,z2,kp _ _ z3 (aK z3 h.ob (by intro z;cases z)) (aK z3 hd (by intro z;cases z))⟩;exact Vm h bn hd h1 h2 kp (jv (F:=bM H') (fun kv f z=>z.1) ⟨rfl,q,rfl,h3⟩ (aE pk kk)) (lE h.nd) (Bb h.ok ok) l0
theorem at4(h:Dk D x dx d b lf fs bk H)(bn:bk≠[])(hd:H d=some (.dK kd))(pk:Paired (bM H) kd fs)(h1:H' x=some (.ins D dx (bP d b (lv lf'))))(h2:H' d=some (.dK (if (bh kd (.inr p)).isSome=true then pM kd (.inr p) else kd)))(kp:∀p o,H p=some o->p≠x->p≠d->H' p=some o)(l0:∀m,lf'=some m->0<=m):Dk D x dx d b lf' (kB fs p) bk H':=by
 have kk:∀kv f,bM H kv f->bM H' kv f:=fun kv f at5=>at5.elim fun z1 at6=>at6.elim fun l3 at7=>at7.elim fun z2 z3=>⟨z1,l3,z2,kp _ _ z3 (aK z3 h.ob (by intro z;cases z)) (aK z3 hd (by intro z;cases z))⟩;have A5:∀kv f,bM H kv f->kv.1=Sum.inr f.1:=fun kv f z=>z.1;refine Vm h bn hd h1 h2 kp ?_ (h.nd.sublist (Om.map _)) (fun f hf=>h.ok f (qL.mp hf).1) l0
 rcases TF A5 pk p with⟨hp,hs⟩ | ⟨hp,hs⟩
 . rw[al hs];exact aE (Lc A5 pk) kk
 . rw[hs,Ld hp];exact aE pk kk
end
theorem M9{x:V}(h:(!decide (x=x))=true):False:=by simp at h
def Nb(C S D Pt:Addr):Sp:=fun vs H Q _=>∃(sv:V) (x dx d b:Addr) (lf:Option Int) (fs:Tr) (bk:Bk) (xs:Lv) (ps:Lp) (ns:Ls) (t:Str) (ch:Ch) (cs:Cs) (ow:Ow) (cell:Int),vs=[sv,.ref x,.int cell,.str t]/\jN C S (msk [x,d,b,Pt] H) sv xs ps ns/\DS D x dx d b Pt xs ps t ch cs ow lf fs bk H /\
 ∀lf' aM cV H',DS D x dx d b Pt xs ps t ch cs ow lf' aM cV H'->dF cV=true->be x d b Pt H H'->Q (.bl true) H'
theorem BU:aP [azK,azF,azv,aAi,azB,"_law_pending","_law_found"] [azK,azF,azv,aAi] (aA Ez):=aZ
theorem at8(F:bB K "_law_up" Ez f fd)(B:b9 mg)(UD:ik K mg D f1 f2 f3 f4 f5 jK f7)(vW:aU K "allow" "Disk.allow" rZ jK qH)(tE:aj P w K mg base ak 9 jK qH [azt,aAm] (Fd D))
 (jg:aO K mg "is_up" xg o4 o5) (mZ:aj P w K mg base ak 9 o4 o5 [azy] (BD D)) (cH:aO K mg az7 r9 iZ i8) (fh:aj P w K mg base ak 9 iZ i8 [azv,azB] xk)
 (BV:aO K mg "_law_come" Ex Gj Gk) (Nc:aj P w K mg base ak 9 Gj Gk [azK,azF] (M0 C S D Pt)) (iL:aO K mg aAn xa oW oZ) (lR:aj P w K mg base ak 9 oW oZ [azM] (uX T))
 (gN:aO K mg aAq uP kF kG) (kH:aj P w K mg base ak 9 kF kG [azy] (yg D T)) (m9:aO K mg "come_up" As vS vT) (yq:aj P w K mg base (ca P w) 9 vS vT [azu,azy] (Gc C S D Fa Pt)):aj P w K mg base ak 10 f fd [azK,azF,azv,aAi] (Nb C S D Pt):=by
 have BW:=vW.binds2 (l:=[azt,aAm]) (fun _ _ _ _ _ _ _ _=>rfl);have vR:=jg.u.binds1 (l:=[azy]) (fun _ _ _ _ _ _ _=>rfl);have fj:=cH.u.binds2 (l:=[azv,azB]) (fun _ _ _ _ _ _ _ _=>rfl);have at9:=BV.u.binds2 (l:=[azK,azF]) (fun _ _ _ _ _ _ _ _=>rfl);have tz:=iL.u.binds1 (l:=[azM]) (fun _ _ _ _ _ _ _=>rfl);have tw:=gN.u.binds1 (l:=[azy]) (fun _ _ _ _ _ _ _=>rfl);have M2:=m9.u.binds2 (l:=[azu,azy]) (fun _ _ _ _ _ _ _ _=>rfl);refine F.okL BU ?_
 . intro aw A outer s H vs Q E hr h xX dX;obtain⟨sv,x,dx,d,b,lf,fs,bk,xs,ps,ns,t,ch,cs,ow,cell,rfl,hW,hS,q⟩:=h;refine⟨_,(am (eJ eI rfl (nK rfl B.range (aa aq ac)) (bc (i:=4) BU.nd rfl (Or.inl rfl))
    (am (aJ (i:=5) BU.nd rfl (Or.inl rfl) (OG (aG mZ hr rfl jg vR (aa (pv 1) ac))))
     (am (cp (jV (pv 1) UD.cl UD.mDAl tE hr BW .nil fA (aa (aF cF (aG fh hr rfl cH fj (aa (pv 2) (aa (aF fc aq (pv 4)) ac))) aq) ac)))
     (am (aJ (i:=6) BU.nd rfl (Or.inl rfl) (aG Nc hr rfl BV at9 (aa (pv 0) (aa (pv 1) ac))))
     (am (cO (bY za (aG lR hr rfl iL tz (aa (aG kH hr rfl gN tw (aa (pv 1) ac)) ac)) (pv 3) (bT _))
     (av (aV pE)) dA)
     (av (cO (PW.pt (mf (bY OY (pv 6) kR (bT _)) (qZ (bY za (pv 6) (pv 5) (bT _)))))
     (av (aV pE)) dA)))))))
    (am (aJ (i:=5) BU.nd rfl (Or.inl rfl) (OG (aG mZ hr rfl jg vR (aa (pv 1) ac))))
    (am (cp (jV (pv 1) UD.cl UD.mDAl tE hr BW .nil fA (aa kR ac)))
    (av (aV (rf fw (mo yq hr rfl m9.m m9.u.kp M2 .nil zK (aa (pv 0) (aa (pv 1) ac))) (pv 5) (bT _))))))),?_⟩
   refine j6 ?_;intro dD sS u4 u3 u2;refine⟨3,rfl,by omega,by omega,?_⟩;refine uc (fun i σ H1=>∃lf fs bk v4 v5 v6,σ=[some sv,some (.ref x),some (.int cell),some (.str t),v4,v5,v6]/\DS D x dx d b Pt xs ps t ch cs ow lf fs bk H1/\be x d b Pt H H1) ⟨lf,fs,bk,none,none,none,rfl,hS,.of (ag.refl _)⟩ ?_ ?_
   . rintro i σ H1 hi ⟨lf,fs,bk,v4,v5,v6,rfl,h1,k1⟩;refine bg ?_;intro tT;refine Iq ?_
     intros
     obtain⟨jr,b1,b2⟩:=id h1.dk.bo;refine⟨_,rfl,x,dx,d,b,_,jr,bk,rfl,h1.dk.ob,b1,b2,h1.dk.bt,fun H2 s2=>⟨_,rfl,?_⟩⟩;have h2:=h1.same s2;refine⟨_,rfl,x,dx,_,rfl,h2.dk.ob,rfl,_,rfl,_,rfl,_,_,rfl,rfl,cell,_,rfl,fun mm=>?_⟩;refine⟨_,_,rfl,rfl,(by show(0:Int)<8;decide),x,dx,d,b,_,_,rfl,h2.dk.ob,?_⟩;have h3:=h2.allow (lf':=some (mm % 8)) fun m z=>by cases z;omega
     have k3:be x d b Pt H (ah H2 x (.ins D dx (bP d b (lv (some (mm % 8)))))):=k1.trans ((be.of s2).trans .allow);generalize hH3:ah H2 x (.ins D dx (bP d b (lv (some (mm % 8)))))=H3 at h3 k3;show _;have aub:ah H2 x (.ins D dx (bP d b (.int (mm % 8))))=H3:=hH3;rw[aub];refine⟨_,rfl,_,rfl,sv,x,dx,d,b,_,fs,bk,xs,ps,ns,t,ch,cs,ow,rfl,hW.same k3.msk,h3,fun v lf' aM cV H4 h4 k4 hv=>?_⟩;obtain⟨Vb,c1,c2⟩:=id h4.dk.bo;have l4:=h4.len;refine⟨_,rfl,x,dx,d,b,_,Vb,cV,xs,ps,t,ch,cs,ow,rfl,h4.dk.ob,c1,c2,by omega,h4.la,h4.tx,fun w0 H5 s5 hw=>?_⟩;have hw5:gK T H5 w0 ch cs ow:=by
      have:=hw [] fun b z=>nomatch z
      rwa [AJ]at this
     dsimp only[fz,tM,yY];refine h4.tx.sho hw5 fun H6 s6=>?_;refine⟨_,rfl,rfl,_,rfl,?_⟩;refine bA (fun h=>(M9 h).elim) fun _=>?_;have h6:=h4.same (s5.trans s6);have k6:be x d b Pt H H6:=(k3.trans k4).trans (.of (s5.trans s6));refine⟨_,rfl,rfl,_,rfl,?_⟩
     rcases hv with rfl | rfl
     . refine gk ?_;exact⟨lf',aM,cV,_,_,_,rfl,h6,k6⟩
     . refine gY ?_;refine⟨_,rfl,_,rfl,rfl,_,rfl,?_⟩;refine bA (fun h=>(M9 h).elim) fun _=>?_;exact⟨lf',aM,cV,_,_,_,rfl,h6,k6⟩
   . rintro σ H1 ⟨lf,fs,bk,v4,v5,v6,rfl,h1,k1⟩;obtain⟨jr,b1,b2⟩:=id h1.dk.bo;refine⟨_,rfl,x,dx,d,b,_,jr,bk,rfl,h1.dk.ob,b1,b2,h1.dk.bt,fun H2 s2=>⟨_,rfl,?_⟩⟩;have h2:=h1.same s2;refine⟨_,rfl,x,dx,_,rfl,h2.dk.ob,rfl,x,dx,d,b,_,_,rfl,h2.dk.ob,?_⟩;have h3:DS D x dx d b Pt xs ps t ch cs ow none fs bk (ah H2 x (.ins D dx (bP d b .non))):=h2.allow (lf':=none) fun m z=>nomatch z
     have k3:be x d b Pt H (ah H2 x (.ins D dx (bP d b .non))):=k1.trans ((be.of s2).trans .allow);generalize ah H2 x (.ins D dx (bP d b .non))=H3 at h3 k3 ⊢;have l3:=h3.len;have ln:=h3.ln;refine⟨_,rfl,_,rfl,sv,x,dx,d,b,none,fs,bk,xs,ps,ns,t,ch,cs,ow,rfl,hW.same k3.msk,h3.dk,by omega,h3.la,h3.tx,h3.ful,h3.tb,fun u H' hD k tb=>?_,fun u lf' aM H' hD fu jd k tb=>?_,fun u ln=>absurd rfl ln⟩
     . refine⟨_,rfl,rfl,?_⟩;rw[u];exact q none fs bk H' ⟨hD,h3.la,h3.tx,h3.ln,h3.tk,h3.st,tb⟩ u (k3.trans k)
     . have eb:bQ (bk++[fZ])=bQ bk:=by rw[yf,ai (show fZ.1≠dE by decide +kernel)]
       refine⟨_,rfl,rfl,?_⟩;rw[u]at ln ⊢;refine q lf' aM (bk++[fZ]) H' ⟨hD,by rw[eb];exact h3.la,h3.tx,?_,by rw[eb];exact h3.tk,.inl ⟨o8 bk,fu,jd⟩,tb⟩ (o8 bk) (k3.trans k);rw[o8,al rfl,bj,iN];simpa using ln
end K63
namespace K63
open PySem L2 PySem.Spec PyProof.Rows
variable {P:Program}{w:World}{K:Fg}{mg:Mv}{base:Heap}
seal PE PS cn PA PT PW PG gX PI gE
theorem aud{H:Hp}{t:Addr}:msk [t] H t=none:=by
 unfold msk;rw[al bK]
theorem Gm{H:Hp}{t:Addr}(n:q≠t):msk [t] H q=H q:=by
 unfold msk;rw[ai (by simpa using n)]
theorem aue{K:Fg}{H:Hp}{xs:Lv}(n:∃φ,H Pt=some (.ext φ))(h:ae K H a xs):ae K (msk [Pt] H) a xs:=by
 obtain⟨φ,n⟩:=n
 rcases h with(h | ⟨o,h⟩) | h
 . exact .inl (.inl (by rw[Gm (aK h n (by intro z;cases z))];exact h))
 . exact .inl (.inr ⟨o,by rw[Gm (aK h n (by intro z;cases z))];exact h⟩)
 . exact .inr h
theorem auf{xs:Lv}{ps:Lp}:vK xs ps Str.empty []:=⟨[],[],[],[],⟨[],[],[],ye,ye,ye,FR⟩,FR.so,⟨[],[],⟨.refl _,fun p hp=>nomatch hp⟩,SV,fun _ _=>rfl,fun c aug=>aug.elim fun p auh=>auh.elim fun hp _=>nomatch hp⟩,rfl⟩
theorem aui{H:Hp}{Q:Addr->Hp->Prop}{E:XK}{xs:Lv}{ps:Lp}(ha:H a=some (.lst xs))(bE:dQ C H xs ps)(ET:ps.length<=100)(su:(ps.map fY).Nodup)(q:∀x H',H x=none->ag H H'->ja S H' (.ref x) xs ps->Q x H') :
 ∀x dx,H x=none->H dx=none->dx≠x->Kn K C S (.ref x::([.ref a]++[])) (ah (ah H dx (.own x)) x (.ins S dx [])) (fun v H2=>v=.non/\Q x H2) E:=by
 intro x dx hx uV nx;have s1:ag H (ah (ah H dx (.own x)) x (.ins S dx [])):=fV (fU uV) hx;refine⟨x,dx,a,xs,ps,rfl,aH,s1 _ _ ha,bE.same s1,ET,su,fun H' keep hS=>⟨rfl,q x H' hx (fun b o e=>keep b o (s1 _ _ e) (aL e hx)) hS⟩⟩
theorem auj{H:Hp}{Q:Addr->Hp->Prop}{E:XK}(q:∀x dx d b H',H x=none->H d=none->H b=none->ag H H'->Dk C x dx d b none [] [] H'->Q x H') :
 ∀x dx,H x=none->H dx=none->dx≠x->K9 C [.ref x] (ah (ah H dx (.own x)) x (.ins C dx [])) (fun v H2=>v=.non/\Q x H2) E:=by
 intro x dx hx uV nx;have s1:ag H (ah (ah H dx (.own x)) x (.ins C dx [])):=fV (fU uV) hx;exact⟨x,dx,rfl,aH,fun d b H' nd nb h1 h2 h3 k=>⟨rfl,q x dx d b H' hx (s1.free nd) (s1.free nb) (fun p o e=>k p o (s1 _ _ e) (aL e hx)) ⟨h1,⟨[],h2,.nil⟩,⟨[],h3,.nil⟩,kM,(fun f z=>nomatch z),fun _=>rfl,(fun e z=>nomatch z),fun m z=>nomatch z⟩⟩⟩
theorem ja.off{H:Hp}{v:V}{xs:Lv}{ps:Lp}(n:∃φ,H Pt=some (.ext φ))(h:ja S H v xs ps):ja S (msk [Pt] H) v xs ps:=by
 obtain⟨φ,n⟩:=n;obtain⟨a,dx,fl,d,kvs,e,h1,h2,h3,h4,h5⟩:=h;exact⟨a,dx,fl,d,kvs,e,by rw[Gm (aK h1 n (by intro z;cases z))];exact h1,h2,h3,by rw[Gm (aK h4 n (by intro z;cases z))];exact h4,h5⟩
def Gn(K:Fg)(Pt:Addr):Sp:=fun vs H Q _=>∃(a:Addr) (ns:List Int),vs=[.ref a]/\ae K H a (ns.map V.int)/\ns.length<=63/\aD H Pt dv di/\∀H',aD H' Pt dv di->Q (.bl true) H'
theorem lV:aP [azG,azD,azQ,azK,azF,"_law_here",aAa,"_law_begun_here",azv,"_law_fell",aAi] [azG] (aA uQ):=aZ
theorem auk(F:bB K "law" uQ f fd)(B:b9 mg)(US:vc K mg S fP)(UD:ik K mg D kz f2 jH jI f5 jK f7)(MS:Mk K S vX)(MD:Mk K D vY)
 (Gv:aU K "__init__" "Shelf.__init__" uM vX BX) (aul:aj P w K mg base ak 9 vX BX [azt,azx] (Kn K C S)) (Gw:aU K "__init__" "Disk.__init__" uN vY BY) (aum:aj P w K mg base ak 9 vY BY [azt] (K9 D))
 (sO:aU K aAu "Disk.files_now" rV kz sN) (Lx:aj P w K mg base ak 10 kz sN [azt] (Le D)) (vv:aU K "put" "Disk.put" rW jH qv) (vw:aj P w K mg base (ca P w) 10 jH qv [azt,azC,azO] (E9 K D Fa)) (sP:aU K "erase" "Disk.erase" rX jI qw) (A2:aj P w K mg base (ca P w) 10 jI qw [azt,azC] (Fb D Fa)) (vW:aU K "allow" "Disk.allow" rZ jK qH) (tE:aj P w K mg base ak 10 jK qH [azt,aAm] (Fd D))
 (jF:aO K mg aAv Ax xz xB) (vj:aj P w K mg base ak 10 xz xB [azG,azB] (JF K))
 (BZ:aO K mg "_law_name" Ep Nd Nh) (aun:aj P w K mg base ak 10 Nd Nh [azv,aAj] RY)
 (B0:aO K mg az6 xh Nf Ni) (auo:aj P w K mg base ak 10 Nf Ni [azG,azD,aAg] (Th K C))
 (yt:aO K mg "_law_stand" Ev Go Gr) (Gx:aj P w K mg base ak 10 Go Gr [azQ,azD,azv] (MV C T))
 (ng:aO K mg "do_deed" Aw vU vV) (yr:aj P w K mg base (ca P w) 10 vU vV [azu,azy,azL] (F6 C S T D Fa Pt))
 (yu:aO K mg "_law_begun" Ey Ng Nj) (Vo:aj P w K mg base ak 10 Ng Nj [azF] (Vk D))
 (B1:aO K mg "_law_deed" Ew Gp Gs) (Nk:aj P w K mg base ak 10 Gp Gs [azK,azF,aAa] (M3 C S T D Pt))
 (iL:aO K mg aAn xa oW oZ) (lR:aj P w K mg base ak 10 oW oZ [azM] (uX T))
 (jg:aO K mg "is_up" xg o4 o5) (mZ:aj P w K mg base ak 10 o4 o5 [azy] (BD D))
 (B2:aO K mg "_law_up" Ez Gq Gu) (Nl:aj P w K mg base ak 10 Gq Gu [azK,azF,azv,aAi] (Nb C S D Pt))
 (gN:aO K mg aAq uP kF kG) (kH:aj P w K mg base ak 10 kF kG [azy] (yg D T))
 (iq:aO K mg aAe qf kD kE) (lO:aj P w K mg base ak 10 kD kE [azu,azM] (xZ C S T Pt)):aj P w K mg base ak 11 f fd [azG] (Gn K Pt):=by
 have aup:=Gv.binds2 (l:=[azt,azx]) (fun _ _ _ _ _ _ _ _=>rfl);have auq:=Gw.binds1 (l:=[azt]) (fun _ _ _ _ _ _ _=>rfl);have vk:=jF.u.binds2 (l:=[azG,azB]) (fun _ _ _ _ _ _ _ _=>rfl);have aur:=BZ.u.binds2 (l:=[azv,aAj]) (fun _ _ _ _ _ _ _ _=>rfl);have aus:=B0.u.binds3 (l:=[azG,azD,aAg]) (fun _ _ _ _ _ _ _ _ _=>rfl);have Vp:=yt.u.binds3 (l:=[azQ,azD,azv]) (fun _ _ _ _ _ _ _ _ _=>rfl);have M6:=ng.u.binds3 (l:=[azu,azy,azL]) (fun _ _ _ _ _ _ _ _ _=>rfl);have Vq:=yu.u.binds1 (l:=[azF]) (fun _ _ _ _ _ _ _=>rfl);have aut:=B1.u.binds3 (l:=[azK,azF,aAa]) (fun _ _ _ _ _ _ _ _ _=>rfl);have tz:=iL.u.binds1 (l:=[azM]) (fun _ _ _ _ _ _ _=>rfl);have vR:=jg.u.binds1 (l:=[azy]) (fun _ _ _ _ _ _ _=>rfl);have auu:=B2.u.binds4 (l:=[azK,azF,azv,aAi]) (fun _ _ _ _ _ _ _ _ _ _=>rfl);have tw:=gN.u.binds1 (l:=[azy]) (fun _ _ _ _ _ _ _=>rfl);have vI:=iq.u.binds2 (l:=[azu,azM]) (fun _ _ _ _ _ _ _ _=>rfl);have Ly:=sO.binds1 (l:=[azt]) (fun _ _ _ _ _ _ _=>rfl);have Fn:=vv.binds3 (l:=[azt,azC,azO]) (fun _ _ _ _ _ _ _ _ _=>rfl);have Lz:=sP.binds2 (l:=[azt,azC]) (fun _ _ _ _ _ _ _ _=>rfl);have BW:=vW.binds2 (l:=[azt,aAm]) (fun _ _ _ _ _ _ _ _=>rfl);refine F.okL lV ?_
 . intro aw A outer s H vs Q E hr h xX dX;obtain⟨a,is,rfl,hS,h63,tab,q⟩:=h;have hu5:(A.deeper (PyProof.Rows.envOfC "law" (aA uQ) s.heap.objs.size f aw)).units+65<cLine:=by have:=hr.un;omega
   refine⟨_,(am (rA (i:=1) [aAj] [azG] [0] lV.nd rfl rfl eA rfl (nK rfl B.range (aa (aF fc aq (aF cF (aG vj hr rfl jF vk (aa (pv 0) (aa aq ac))) aq)) ac)) (fun _ _ _ _=>(bc (i:=0) (show List.Nodup ([aAj,azG]:Ls) by decide +kernel) rfl (Or.inl rfl))) (fun _ _ _ _=>iB) (fun _ _ _ _=>(aG aun hr rfl BZ aur (aa (aG vj hr rfl jF vk (aa (pv 1) (aa aq ac))) (aa (pv 0) ac)))))
    (am (aJ (i:=2) lV.nd rfl (Or.inl rfl) (aG auo hr rfl B0 aus (aa (pv 0) (aa (pv 1) (aa aq ac)))))
    (am (aJ (i:=3) lV.nd rfl (Or.inl rfl) (zj MS aul hr rfl US.mgC aup .nil fA (aa (pv 2) ac)))
    (am (aJ (i:=4) lV.nd rfl (Or.inl rfl) (abF MD aum hr rfl UD.mgC auq .nil fA))
    (am (aJ (i:=5) lV.nd rfl (Or.inl rfl) (aG Gx hr rfl yt Vp (aa (pv 2) (aa (pv 1) (aa (aG vj hr rfl jF vk (aa (pv 0) (aa aq ac))) ac)))))
    (am (aJ (i:=6) lV.nd rfl (Or.inl rfl) (aG Gx hr rfl yt Vp (aa (pv 2) (aa (pv 1) (aa (aG vj hr rfl jF vk (aa (pv 0) (aa aq ac))) ac)))))
    (wM (cp (mo yr hr rfl ng.m ng.u.kp M6 .nil zK (aa (pv 3) (aa (pv 4) (aa (pv 5) ac)))))
    (am (aJ (i:=7) lV.nd rfl (Or.inl rfl) (aG Vo hr rfl yu Vq (aa (pv 4) ac)))
    (am (aJ (i:=8) lV.nd rfl (Or.inl rfl) (aG vj hr rfl jF vk (aa (pv 0) (aa aq ac))))
    (am (cp (jV (pv 4) UD.cl UD.mDAl tE hr BW .nil fA (aa (aF cF (pv 8) aq) ac)))
    (am (aJ (i:=9) lV.nd rfl (Or.inl rfl) (aG Nk hr rfl B1 aut (aa (pv 3) (aa (pv 4) (aa (pv 6) ac)))))
    (am (aJ (i:=10) lV.nd rfl (Or.inl rfl) (aG lR hr rfl iL tz (aa (pv 6) ac)))
    (wM (cO (PW.pt (mf (kS (pv 9)) (qZ (bY fw (aG Vo hr rfl yu Vq (aa (pv 4) ac)) (pv 7) (bT _)))))
    (av (aJ (i:=10) lV.nd rfl (Or.inl rfl) (aG lR hr rfl iL tz (aa (pv 5) ac)))) dA)
    (wM (cO (PW.pt (mf (kS (pv 9)) (mf (bY fw (aF cF (aF ix (pv 8) aq) aq) aq (bT _)) (qZ (G9 (kS (aG mZ hr rfl jg vR (aa (pv 4) ac))))))))
    (am (cp (jV (pv 4) UD.cl UD.mDAl tE hr BW .nil fA (aa kR ac)))
     (am (cp (jV (pv 4) UD.cl UD.mDPt vw hr Fn .nil zK (aa bV (aa (df (aa bV ac)) ac))))
     (am (cp (jV (pv 4) UD.cl UD.mDPt vw hr Fn .nil zK (aa bV (aa (df ac) ac))))
     (av (cp (jV (pv 4) UD.cl UD.mDEr A2 hr Lz .nil zK (aa bV ac))))))) dA)
    (am (cO (PW.pt (G8 (G9 (kS (aG Nl hr rfl B2 auu (aa (pv 3) (aa (pv 4) (aa (aF ix (pv 8) aq) (aa (pv 10) ac))))))) (G7 (bY za (aG lR hr rfl iL tz (aa (aG kH hr rfl gN tw (aa (pv 4) ac)) ac)) (pv 10) (bT _)))))
    (av (aV pE)) dA)
    (av (aV (XZ (rf atG (aG mZ hr rfl jg vR (aa (pv 4) ac)) pE (bT _)) (Hd (rf (atH hu5) (rh (pv 4) UD.cl UD.mFNo Lx hr Ly .nil fA) (aG lO hr rfl iq vI (aa (pv 3) (aa (aG kH hr rfl gN tw (aa (pv 4) ac)) ac))) (bT _))))))))))))))))))))),?_⟩
   refine Qo ?_;intro dD sS u7 u6 u5 u4 u3 u2;refine⟨_,rfl,a,0,is,rfl,by omega,hS,fun c0=>?_⟩;refine⟨_,_,rfl,rfl,(by show(0:Int)<4;decide),_,_,rfl,rfl,1+c0 % 4,rfl,by omega,by omega,?_⟩;refine zA (σ0:=[none,some (.ref a)]) (fun σ=>∃v,σ=[v,some (.ref a)]) (fun i ys _=>∃xs:Ls,ys=xs.map V.str/\xs.length=i/\∀x∈xs,cC x) ⟨_,rfl⟩ (fun _ _=>⟨[],rfl,rfl,fun x hx=>nomatch hx⟩) ?_ ?_
   . intro D i ys σ H2 k hD hi eX hd hs gt hk;refine bg ?_;intro tT;obtain⟨v,rfl⟩:=eX;obtain⟨xs,rfl,hx,hxs⟩:=gt;refine⟨_,rfl,a,1,is,rfl,by omega,hs.seq hS,fun c1=>⟨_,rfl,_,_,rfl,fun x H3 lx s3=>?_⟩⟩;refine hk _ _ _ ⟨_,rfl⟩ s3 (bZ (by rw[ao];omega)) ⟨xs++[x],uv xs x,by rw[bj,hx];rfl,fun y hy=>?_⟩
     rcases bS.mp hy with z | z
     . exact hxs y z
     . rw[bw.mp z];exact lx
   intro nA ys H1 nD hn s1 gu;refine bg ?_;intro tT;obtain⟨ns,rfl,nl,j0⟩:=gu;have n1:1<=ns.length:=by omega
   have n4:ns.length<=4:=by omega
   refine⟨_,rfl,_,rfl,a,nA,is,ns,rfl,s1.seq hS,hn,n1,n4,fun fa H2 xs ps _ s2 e2 bE ap=>?_⟩;have p6:=ap.len;refine⟨_,rfl,?_⟩;dsimp only[List.set,fz];refine aui (K:=K) (C:=C) (S:=S) e2 bE (by omega) ap.nd fun sh H3 n3 s3 hSh=>?_;have Nm:=bE.same s3
   try dsimp only[List.set,fz]
   refine auj (Q:=fun x H1=>_) fun x dx d b H4 nx nd nb s4 qE=>?_;have lU:ag H H3:=s1.trans (s2.trans s3);have lQ:aD H3 Pt dv di:=tab.same lU;have Gd:∀p∈ps,cC p.nm/\fg p.ms:=fun p hp=>⟨j0 _ (ap.nms p hp),ap.mks p hp⟩;have Fx:=s4;have f4:=s4 _ _ (s3 _ _ e2);have KA:=s4 _ _ (s3 _ _ (s2 _ _ hn));have oU:=lQ.same s4;refine⟨_,rfl,_,rfl,_,rfl,a,9,is,rfl,by omega,(lU.trans s4).seq hS,fun c9=>?_⟩;refine⟨fa,nA,_,xs,ps,ns,rfl,f4,Nm.same s4,by omega,Gd,KA,n1,n4,j0,fun hv Vr Vs Vt H5 s5 hhv No=>?_⟩;have h5:=hhv [x,d,b,Pt] (qE.busy oU);refine⟨_,rfl,_,rfl,_,rfl,a,10,is,rfl,by omega,((lU.trans s4).trans s5).seq hS,fun c10=>?_⟩;refine⟨fa,nA,_,xs,ps,ns,rfl,s5 _ _ f4,(Nm.same s4).same s5,by omega,Gd,s5 _ _ KA,n1,n4,j0,fun gv ch cs ow H6 s6 hgv so=>?_⟩;have g6:=hgv [x,d,b,Pt] ((qE.same s5).busy (oU.same s5));have h6:=h5.same (ib s6);have Np:=s5.trans s6;have MP:=qE.same Np;have oR:=oU.same Np;have sR:ag (msk [Pt] H3) (msk [x,d,b,Pt] H6):=fun q o e=>by
    have e3:=bO q o e;have np:q≠Pt:=fun z=>by rw[z,aud]at e;cases e
    refine cJ (fun z=>?_) (Np _ _ (s4 q o e3));simp only[aY,fq,ft]at z
    rcases z with z | z | z | z
    . rw[z,nx]at e3;cases e3
    . rw[z,nd]at e3;cases e3
    . rw[z,nb]at e3;cases e3
    . exact np z
   have auA:∀{v:V}{p:cf},i9 C H3 v p->i9 C (msk [Pt] H3) v p:=fun z=>z.off fun b' hb o eo=>by
    obtain⟨φ,w⟩:=aD.at lQ;rw[bw.mp hb,w]at eo;cases eo;exact⟨(by intro _ _ _ z;cases z),(by intro _ z;cases z),(by intro _ z;cases z)⟩
   have W6:jN C S (msk [x,d,b,Pt] H6) (.ref sh) xs ps ns:=⟨(ja.off (aD.at lQ) hSh).same sR,dQ.same sR (aE Nm fun _ _=>auA),ap,n4,j0⟩;have aR:ae K (msk [x,d,b,Pt] H6) a (is.map V.int):=sR.seq (aue (aD.at lQ) (lU.seq hS));have Nq:vC xs ps [Str.empty]:=fun t ht=>⟨[],[],[],by rw[bw.mp ht];exact FR⟩;refine⟨fun σ H7=>∃t0 gb gO gP lf fs bk,σ=[some (.ref a),some (.ref nA),some (.ref fa),some (.ref sh),some (.ref x),some hv,some gv,none,none,none,none]/\DS D x dx d b Pt xs ps t0 gb gO gP lf fs bk H7/\f9 xs ps Vr Vs Vt t0/\dF bk=true/\bk.length<=30/\be x d b Pt H6 H7,?_,?_⟩
   . refine⟨_,rfl,_,rfl,_,rfl,.ref sh,hv,x,dx,d,b,none,[],[],xs,ps,ns,Vr,Vs,Vt,rfl,W6,h6,No,MP,by decide,by decide,Nq,oR,fun t H' hg hl jf k' ni=>?_,fun t lf' aM st H' hg hl jf yp fu s8 k' ni=>?_,fun t aM st H' hg hl tD=>absurd rfl tD,fun e=>nomatch e⟩
     . have e:Str.empty=t:=by injection hl
       subst e;exact⟨Str.empty,[],[],[],none,[],[],rfl,⟨jf,rfl,FR,by decide,Nq,.inl ⟨rfl,auf,by decide⟩,ni⟩,hg,rfl,by decide,k'⟩
     . obtain⟨bq,bv,bi,r1,r2,r3,hT⟩:=id hg;have sl:(dZ st).length=st.length:=by unfold dZ;rw[ao]
       have ll:([]++(dE,t)::dZ st++[fZ]:Bk).length<=30:=by
        rw[bj,bj,cg,sl,iN];show 0+(st.length+1)+1<=30;omega
       refine⟨t,bq,bv,bi,lf',aM,_,rfl,⟨jf,by rw[Gg];exact MZ _ _ _,hT,?_,by rw[Gg];exact vC.snoc (bk:=[]) Nq hg.ok,.inl ⟨o8 _,fu,yp⟩,ni⟩,hg,o8 _,ll,k'⟩;rw[o8,al rfl];omega
   intro σ H7 hQ;refine bg ?_;intro tT;obtain⟨t0,gb,gO,gP,lf,fs,bk,rfl,h7,hgH,Gi,Vl,k7⟩:=hQ;refine wN ?_
   intros
   obtain⟨yd,b71,b72⟩:=id h7.dk.bo;refine⟨_,rfl,x,dx,d,b,_,yd,bk,rfl,h7.dk.ob,b71,b72,by omega,fun H8 s8=>?_⟩;have h8:=h7.same s8;have k8:be x d b Pt H6 H8:=k7.trans (.of s8);refine⟨_,rfl,a,11,is,rfl,by omega,bO.seq (k8.msk.seq aR),fun c=>?_⟩;refine⟨_,rfl,x,dx,_,rfl,h8.dk.ob,rfl,_,rfl,_,_,rfl,rfl,(by show(0:Int)<41;decide),x,dx,d,b,_,_,rfl,h8.dk.ob,?_⟩;have h9:DS D x dx d b Pt xs ps t0 gb gO gP (some (c % 41)) fs bk (ah H8 x (.ins D dx (bP d b (.int (c % 41))))):=h8.allow (lf':=some (c % 41)) fun m z=>by cases z;omega
   have k9:be x d b Pt H6 (ah H8 x (.ins D dx (bP d b (.int (c % 41))))):=k8.trans .allow;generalize ah H8 x (.ins D dx (bP d b (.int (c % 41))))=H9 at h9 k9 ⊢;refine⟨_,rfl,_,rfl,_,rfl,.ref sh,gv,x,dx,d,b,_,fs,bk,xs,ps,ns,t0,gb,gO,gP,ch,cs,ow,rfl,W6.same k9.msk,g6.same k9.msk,so,h9,Gi,Vl,fun fJ t iM jh ji Gy o9 fK KO h10 k10 hc=>?_⟩;have Vu:=k9.trans k10;refine⟨_,rfl,?_⟩;dsimp only[fz,tM,yY];refine so.sho ((g6.same Vu.msk).same bO) fun t' bq bv bi vn r1 r2 r3 hT Vv=>?_;have Vw:f9 xs ps ch cs ow t':=⟨bq,bv,bi,r1,r2,r3,hT⟩;have jb:=h10.same Vv;have Gz:be x d b Pt H6 vn:=Vu.trans (.of Vv);refine⟨fun σ B3=>σ=[some (.ref a),some (.ref nA),some (.ref fa),some (.ref sh),some (.ref x),some hv,some gv,some (.int ((bQ bk).length:Nat)),some (.int c),some (.bl fJ),some (.str t)]/\DS D x dx d b Pt xs ps t iM jh ji Gy o9 fK B3/\be x d b Pt H6 B3,?_,?_⟩
   . refine⟨_,rfl,fJ,rfl,?_⟩;obtain⟨jr,c1,c2⟩:=id jb.dk.bo;have l1:=jb.len
     rcases hc with⟨rfl,hg⟩ | ⟨rfl,et,eb,u1⟩ | ⟨rfl,hg,eb,u1,M7,bn⟩
     . refine gk ?_;refine gk ?_;have e:=f9.uniq so Vw hg;subst e;exact⟨rfl,jb,Gz⟩
     . subst et;refine gY ?_;refine⟨_,rfl,x,dx,d,b,_,jr,fK,rfl,jb.dk.ob,c1,c2,by omega,fun B3 bU=>?_⟩;refine⟨_,rfl,rfl,_,rfl,?_⟩;rw[eb];refine bA (fun _=>?_) (fun h=>absurd (bN rfl) h);refine⟨_,rfl,?_⟩;dsimp only[fz,tM,yY];refine No.sho ((h6.same (Gz.trans (be.of bU)).msk).same bO) fun t2 ch2 cs2 ow2 qI q1 q2 q3 A6 fX=>?_;have e:=f9.uniq No ⟨ch2,cs2,ow2,q1,q2,q3,A6⟩ hgH;subst e;exact⟨rfl,jb.same (bU.trans fX),Gz.trans (.of (bU.trans fX))⟩
     . refine gY ?_;refine⟨_,rfl,x,dx,d,b,_,jr,fK,rfl,jb.dk.ob,c1,c2,by omega,fun B3 bU=>?_⟩;refine⟨_,rfl,rfl,_,rfl,?_⟩;refine bA (fun h=>?_) (fun _=>?_)
       . have h:=cT h;injection h with h
         omega
       . have e:=f9.uniq so Vw hg;subst e;exact⟨rfl,jb.same bU,Gz.trans (.of bU)⟩
   rintro σ B3 ⟨rfl,ph,Nr⟩;have hnu:fJ=true->dF fK=false->o9.length<=40/\fK≠[]:=fun e u=>by
    rcases hc with⟨z,_⟩ | ⟨_,_,_,z⟩ | ⟨_,_,_,_,z⟩
    . rw[z]at e;cases e
    . rw[u]at z;cases z
    . exact z
   refine⟨fun σ qI=>∃BI Nu sU,σ=[some (.ref a),some (.ref nA),some (.ref fa),some (.ref sh),some (.ref x),some hv,some gv,some (.int ((bQ bk).length:Nat)),some (.int c),some (.bl fJ),some (.str t)]/\DS D x dx d b Pt xs ps t iM jh ji BI Nu sU qI/\be x d b Pt H6 qI,?_,?_⟩
   . refine⟨_,rfl,fJ,rfl,?_⟩;cases fJ with
     | false=>exact gk (gk ⟨Gy,o9,fK,rfl,ph,Nr⟩)
     | true=>
      refine gY ?_;refine⟨_,rfl,_,_,rfl,rfl,⟨by omega,by omega⟩,_,_,rfl,rfl,(by show(0:Int)<2;decide),rfl,_,rfl,?_⟩;refine bA (fun _=>?_) (fun _=>gk ⟨Gy,o9,fK,rfl,ph,Nr⟩);obtain⟨jr,c1,c2⟩:=id ph.dk.bo;refine⟨_,rfl,x,dx,d,b,_,jr,fK,rfl,ph.dk.ob,c1,c2,ph.dk.bt,fun qI fX=>⟨_,rfl,?_⟩⟩;have yw:=ph.same fX;have B4:be x d b Pt H6 qI:=Nr.trans (.of fX);refine bA (fun h=>?_) (fun _=>⟨Gy,o9,fK,rfl,yw,B4⟩);have u1:dF fK=false:=by
       cases e:dF fK with
       | false=>rfl
       | true=>rw[e]at h;cases h
      obtain⟨M7,bn⟩:=hnu rfl u1;refine j6 ?_
      intros
      refine⟨_,rfl,x,dx,_,rfl,yw.dk.ob,rfl,x,dx,d,b,_,_,rfl,yw.dk.ob,?_⟩;have nj:DS D x dx d b Pt xs ps t iM jh ji none o9 fK (ah qI x (.ins D dx (bP d b .non))):=yw.allow (lf':=none) fun m z=>nomatch z
      have GA:be x d b Pt H6 (ah qI x (.ins D dx (bP d b .non))):=B4.trans .allow;generalize ah qI x (.ins D dx (bP d b .non))=H14 at nj GA ⊢;refine⟨_,rfl,x,dx,_,rfl,nj.dk.ob,rfl,(by show 1<=sizeLine;decide),fun p1 Vx n15 uY e15=>?_⟩;have uo:=nj.same uY;obtain⟨kd1,d1,d2⟩:=id uo.dk.fi;have pl1:=bC d2;refine⟨x,dx,d,b,p1,none,_,kd1,_,rfl,uo.dk.ob,d1,e15,by omega,fun lf' e q1 GB nq y1 y2 y3 y4 y5=>?_,fun e=>nomatch e⟩;cases e;have Vy:=Vn (ls:=["by hand"]) uo.dk bn d1 d2 (fun y hy=>by rw[bw.mp hy];exact agD (by decide +kernel)) y1 y2 y3 y4 fun m z=>nomatch z
      have Nv:be x d b Pt H6 GB:=GA.trans ((be.of uY).trans fun q o e n1 n2 _ _=>y4 q o e n1 n2);have t16:aD GB Pt dv di:=K63.aD.kx uo.dk uo.tb fun p o e n1 n2 _=>y4 p o e n1 n2;have azk:=j7 o9 "a" ["by hand"];refine⟨_,rfl,x,dx,_,rfl,Vy.ob,rfl,(by show 0<=sizeLine;decide),fun p2 Vz n17 yx e17=>?_⟩;have GC:=Vy.same yx;obtain⟨kd2,d3,d4⟩:=id GC.fi;have pl2:=bC d4;refine⟨x,dx,d,b,p2,none,_,kd2,_,rfl,GC.ob,d3,e17,by omega,fun lf' e q2 GD nq z1 z2 z3 z4 z5=>?_,fun e=>nomatch e⟩;cases e;have B5:=Vn (ls:=[]) GC bn d3 d4 (fun y hy=>nomatch hy) z1 z2 z3 z4 fun m z=>nomatch z
      have Nw:be x d b Pt H6 GD:=Nv.trans ((be.of yx).trans fun q o e n1 n2 _ _=>z4 q o e n1 n2);have t18:aD GD Pt dv di:=K63.aD.kx GC (t16.same yx) fun p o e n1 n2 _=>z4 p o e n1 n2;have azn:=j7 (bI o9 "a" ["by hand"]) "strange" [];obtain⟨kd3,d5,d6⟩:=id B5.fi;refine⟨_,rfl,x,dx,_,rfl,B5.ob,rfl,x,dx,d,b,none,_,kd3,rfl,B5.ob,d5,fun lf' e GF w1 w2 w3 w4=>?_,fun e=>nomatch e⟩;cases e;have D19:=at4 B5 bn d5 d6 w1 w2 w3 fun m z=>nomatch z
      have azo:(kB (bI (bI o9 "a" ["by hand"]) "strange" []) "zz").length<=(bI (bI o9 "a" ["by hand"]) "strange" []).length:=yI _ _;refine⟨none,_,fK,rfl,⟨D19,ph.la,ph.tx,ph.ln,ph.tk,.inr ⟨u1,mX.of (by omega)⟩,K63.aD.kx B5 t18 fun p o e n1 n2 _=>w3 p o e n1 n2⟩,Nw.trans fun q o e n1 n2 _ _=>w3 q o e n1 n2⟩
   rintro σ qI ⟨BI,Nu,sU,rfl,yw,B4⟩;refine mC ?_
   intros
   refine⟨_,rfl,_,rfl,_,rfl,_,_,rfl,rfl,⟨by omega,by omega⟩,_,rfl,?_⟩;refine⟨.ref sh,x,dx,d,b,BI,Nu,sU,xs,ps,ns,t,iM,jh,ji,_,rfl,W6.same B4.msk,yw,fun lf3 VA Nx H14 nj u3 GA=>⟨_,rfl,?_⟩⟩;refine gk ?_;have auT:=B4.trans GA;obtain⟨jr,c1,c2⟩:=id nj.dk.bo;have l1:=nj.len;refine⟨_,rfl,x,dx,d,b,_,jr,Nx,xs,ps,t,iM,jh,ji,rfl,nj.dk.ob,c1,c2,by omega,nj.la,nj.tx,fun v0 Vx uY ia=>?_⟩;have hv1:gK T Vx v0 iM jh ji:=by
    have:=ia [] fun b z=>nomatch z
    rwa [AJ]at this
   dsimp only[fz,tM,yY];refine nj.tx.sho hv1 fun GB VB=>?_;refine⟨_,rfl,rfl,_,rfl,?_⟩;refine bA (fun h=>(M9 h).elim) fun _=>?_;have GG:=nj.same (uY.trans VB);have Nv:be x d b Pt H6 GB:=auT.trans (.of (uY.trans VB));obtain⟨Af,c3,c4⟩:=id GG.dk.bo;refine⟨_,rfl,x,dx,d,b,_,Af,Nx,rfl,GG.dk.ob,c3,c4,GG.dk.bt,fun Vz yx=>⟨_,_,rfl,rfl,_,rfl,?_⟩⟩;rw[u3];refine gY ?_;have qJ:=GG.same yx;have k17:be x d b Pt H6 Vz:=Nv.trans (.of yx);obtain⟨kd,d1,d2⟩:=id qJ.dk.fi;obtain⟨fu,yp⟩:=qJ.full u3;refine⟨_,rfl,x,dx,_,rfl,qJ.dk.ob,rfl,x,dx,d,b,_,kd,VA,rfl,qJ.dk.ob,d1,d2,qJ.dk.nd,by omega,fun r GD kr nr VC e18 auX=>?_⟩;have lW:=qJ.same VC;have Nw:be x d b Pt H6 GD:=k17.trans (.of VC);obtain⟨tb3,c5,c6⟩:=id lW.dk.bo;refine⟨_,rfl,_,rfl,x,dx,d,b,_,tb3,Nx,xs,ps,t,iM,jh,ji,rfl,lW.dk.ob,c5,c6,by omega,lW.la,lW.tx,fun v1 GF GH hv2=>?_⟩;have hv3:gK T GF v1 iM jh ji:=by
    have:=hv2 [] fun b z=>nomatch z
    rwa [AJ]at this
   have k19:be x d b Pt H6 GF:=Nw.trans (.of GH);have yz:=(W6.same k19.msk).same bO;have VD:=lW.tb.same GH;have cB:eM xs ps iM:=⟨lW.tx.so.ok.d1,lW.tx.so.va⟩;refine⟨.ref sh,v1,xs,ps,iM,jh,ji,ns,rfl,yz.sh,yz.pc,yz.pcok,yz.n4,hv3,lW.tx.so.va,cB.len yz.ap yz.n4,lW.tx.so.o2,lW.tx.so.ok.okO,fun e he=>(lW.tx.so.ok.ok.cs e he).2.ln,VD,fun t5 GI kvs tr n20 kT au2 e20 vJ oV lT pW vO=>?_⟩;have lk:=fu.look ap lW.tx vO;have keep:∀{q:Addr}{o:HO},GF q=some o->(∀φ,o≠.ext φ)->GI q=some o:=fun e n=>kT _ _ e (aD.ne VD e n);have r20:=keep (GH _ _ e18) (by intro φ z;cases z);have pk:Paired (bM GI) kr VA:=aE auX fun kv f au5=>au5.elim fun z1 au6=>au6.elim fun l au7=>au7.elim fun z2 au8=>au8.elim fun _ z3=>⟨z1,l,z2,keep (GH _ _ z3) (by intro φ z;cases z)⟩;have pw:Paired (bM GI) kvs tr:=aE vJ fun _ _ z=>z.du;obtain⟨kb,Mc,e2'⟩:=atW (K:=K) pw qJ.dk.ok (fun f hf=>qt (by rw[←lk];exact xN qJ.dk.nd hf)) pk;refine⟨r,t5,kr,kb,kvs,rfl,rfl,r20,e20,Mc,e2',?_,aps pw oV,q GI au2⟩;rw[bC pk,bC pw];exact TN qJ.dk.nd oV fun k=>congrFun lk k
end K63
set_option maxHeartbeats 8000000
namespace K63
open PySem L2
def VE(K:Fg)(mg:Mv):Prop:=∃C vf AS,Txt K mg C/\Mk K C vf/\aU K "__init__" "Parcel.__init__" rT vf AS
theorem ava{K:Fg}{h:Heap}{mg:Mv}{C f0:Addr}{vZ v3:Oa}{v7:Array (Option Value)}{v8 v9 wa wb nn wc:Value}(X:K.In h)(G:h.Ns mainGlobals mg)
 (aC:PySem.W.nsIn K mainGlobals "Parcel"=some (some (.ref C))) (a0:PySem.W.findIn K (.ref C) "__init__"=some (some (.ref f0))) (i0:PySem.W.isFn K (.ref f0)=true)
 (l0:K.lookup f0=some ⟨v8,vZ,.func (PySem.W.fnOf "__init__" "Parcel.__init__" (eh rT) (da rT) (aA rT) .none v9 wa wb v3 nn wc),v7⟩) (c0:PySem.W.codeIn K nn "Parcel.__init__"=true) (k0:PySem.W.keepIn K (.ref f0)=true)
 (pg:PySem.W.plainGet K C Str.empty=true) (hd:PySem.W.hasDictIn K C=true) (po:PySem.W.plainOver K C=true) (sa:PySem.W.findIn K (.ref C) "__setattr__"=some (some (.builtin "object.__setattr__"))) (mk:PySem.W.makesIn K C=true) (kc:PySem.W.keepIn K (.ref C)=true) (n0:PySem.W.findIn K (.ref C) "name"=some none) (n1:PySem.W.findIn K (.ref C) "make"=some none) (n2:PySem.W.findIn K (.ref C) "rank"=some none) (n3:PySem.W.findIn K (.ref C) "files"=some none) (n4:PySem.W.findIn K (.ref C) "needs"=some none) (n5:PySem.W.findIn K (.ref C) "shuts"=some none) (n6:PySem.W.findIn K (.ref C) "offers"=some none):VE K mg:=
 ⟨C,f0,_,⟨⟨pg,hd,po,sa⟩,n0,n1,n2,n3,n4,n5,n6,yL X G aC⟩,⟨mk,a0,i0,kc⟩,jX l0 c0 k0⟩
def VF(K:Fg)(mg:Mv):Prop:=∃S vX BX km qk,vc K mg S km/\Mk K S vX/\aU K "__init__" "Shelf.__init__" uM vX BX/\aU K "parcel" "Shelf.parcel" p9 km qk
theorem avb{K:Fg}{h:Heap}{mg:Mv}{S f0 f1:Addr}{vZ v3:Oa}{v7:Array (Option Value)}{v8 v9 wa wb nn wc:Value}{Ny Nz:Oa}{NA:Array (Option Value)}{NC ND NE kf B6 NF:Value}(X:K.In h)(G:h.Ns mainGlobals mg)
 (aC:PySem.W.nsIn K mainGlobals "Shelf"=some (some (.ref S))) (a0:PySem.W.findIn K (.ref S) "__init__"=some (some (.ref f0))) (i0:PySem.W.isFn K (.ref f0)=true)
 (l0:K.lookup f0=some ⟨v8,vZ,.func (PySem.W.fnOf "__init__" "Shelf.__init__" (eh uM) (da uM) (aA uM) .none v9 wa wb v3 nn wc),v7⟩) (c0:PySem.W.codeIn K nn "Shelf.__init__"=true) (k0:PySem.W.keepIn K (.ref f0)=true) (a1:PySem.W.findIn K (.ref S) "parcel"=some (some (.ref f1))) (i1:PySem.W.isFn K (.ref f1)=true)
 (l1:K.lookup f1=some ⟨NC,Ny,.func (PySem.W.fnOf "parcel" "Shelf.parcel" (eh p9) (da p9) (aA p9) .none ND NE kf Nz B6 NF),NA⟩) (c1:PySem.W.codeIn K B6 "Shelf.parcel"=true) (k1:PySem.W.keepIn K (.ref f1)=true)
 (pg:PySem.W.plainGet K S Str.empty=true) (hd:PySem.W.hasDictIn K S=true) (po:PySem.W.plainOver K S=true) (sa:PySem.W.findIn K (.ref S) "__setattr__"=some (some (.builtin "object.__setattr__"))) (mk:PySem.W.makesIn K S=true) (kc:PySem.W.keepIn K (.ref S)=true) (n0:PySem.W.findIn K (.ref S) "shelved"=some none):VF K mg:=
 ⟨S,f0,_,f1,_,⟨⟨pg,hd,po,sa⟩,n0,⟨a1,i1,k1⟩,yL X G aC⟩,⟨mk,a0,i0,kc⟩,jX l0 c0 k0,jX l1 c1 k1⟩
def VG(K:Fg)(mg:Mv):Prop:=∃T iI lF,sf K mg T/\Mk K T iI/\aU K "__init__" "Stand.__init__" qa iI lF
theorem avc{K:Fg}{h:Heap}{mg:Mv}{T f0:Addr}{vZ v3:Oa}{v7:Array (Option Value)}{v8 v9 wa wb nn wc:Value}(X:K.In h)(G:h.Ns mainGlobals mg)
 (aC:PySem.W.nsIn K mainGlobals "Stand"=some (some (.ref T))) (a0:PySem.W.findIn K (.ref T) "__init__"=some (some (.ref f0))) (i0:PySem.W.isFn K (.ref f0)=true)
 (l0:K.lookup f0=some ⟨v8,vZ,.func (PySem.W.fnOf "__init__" "Stand.__init__" (eh qa) (da qa) (aA qa) .none v9 wa wb v3 nn wc),v7⟩) (c0:PySem.W.codeIn K nn "Stand.__init__"=true) (k0:PySem.W.keepIn K (.ref f0)=true)
 (pg:PySem.W.plainGet K T Str.empty=true) (hd:PySem.W.hasDictIn K T=true) (po:PySem.W.plainOver K T=true) (sa:PySem.W.findIn K (.ref T) "__setattr__"=some (some (.builtin "object.__setattr__"))) (mk:PySem.W.makesIn K T=true) (kc:PySem.W.keepIn K (.ref T)=true) (n0:PySem.W.findIn K (.ref T) "chosen"=some none) (n1:PySem.W.findIn K (.ref T) "choices"=some none) (n2:PySem.W.findIn K (.ref T) "own"=some none):VG K mg:=
 ⟨T,f0,_,⟨⟨pg,hd,po,sa⟩,n0,n1,n2,yL X G aC⟩,⟨mk,a0,i0,kc⟩,jX l0 c0 k0⟩
def VH(K:Fg)(mg:Mv):Prop:=∃D vY BY kz sN im mV jH qv jI qw jJ qC jK qH gM lI,ik K mg D kz im jH jI jJ jK gM/\Mk K D vY/\aU K "__init__" "Disk.__init__" uN vY BY/\aU K "files_now" "Disk.files_now" rV kz sN/\aU K "book_now" "Disk.book_now" qb im mV/\aU K "put" "Disk.put" rW jH qv/\aU K "erase" "Disk.erase" rX jI qw/\aU K "note" "Disk.note" rY jJ qC/\aU K "allow" "Disk.allow" rZ jK qH/\aU K "take_write" "Disk.take_write" qe gM lI
theorem avd{K:Fg}{h:Heap}{mg:Mv}{D f0 f1 f2 f3 f4 f5 f6 f7:Addr}{vZ v3:Oa}{v7:Array (Option Value)}{v8 v9 wa wb nn wc:Value}{Ny Nz:Oa}{NA:Array (Option Value)}{NC ND NE kf B6 NF:Value}{od2 an2:Oa}{Aa:Array (Option Value)}{oc2 kV2 dc2 mI VI ct2:Value}{Bg an3:Oa}{sl3:Array (Option Value)}{oc3 kV3 dc3 kj VJ ct3:Value}{od4 an4:Oa}{sl4:Array (Option Value)}{oc4 kV4 dc4 pm4 VL ct4:Value}{od5 an5:Oa}{sl5:Array (Option Value)}{oc5 kV5 dc5 pm5 VM ct5:Value}{od6 an6:Oa}{sl6:Array (Option Value)}{oc6 kV6 dc6 pm6 VN ct6:Value}{od7 an7:Oa}{sl7:Array (Option Value)}{oc7 kV7 dc7 pm7 VO ct7:Value}(X:K.In h)(G:h.Ns mainGlobals mg)
 (aC:PySem.W.nsIn K mainGlobals "Disk"=some (some (.ref D))) (a0:PySem.W.findIn K (.ref D) "__init__"=some (some (.ref f0))) (i0:PySem.W.isFn K (.ref f0)=true)
 (l0:K.lookup f0=some ⟨v8,vZ,.func (PySem.W.fnOf "__init__" "Disk.__init__" (eh uN) (da uN) (aA uN) .none v9 wa wb v3 nn wc),v7⟩) (c0:PySem.W.codeIn K nn "Disk.__init__"=true) (k0:PySem.W.keepIn K (.ref f0)=true) (a1:PySem.W.findIn K (.ref D) "files_now"=some (some (.ref f1))) (i1:PySem.W.isFn K (.ref f1)=true)
 (l1:K.lookup f1=some ⟨NC,Ny,.func (PySem.W.fnOf "files_now" "Disk.files_now" (eh rV) (da rV) (aA rV) .none ND NE kf Nz B6 NF),NA⟩) (c1:PySem.W.codeIn K B6 "Disk.files_now"=true) (k1:PySem.W.keepIn K (.ref f1)=true) (a2:PySem.W.findIn K (.ref D) "book_now"=some (some (.ref f2))) (i2:PySem.W.isFn K (.ref f2)=true)
 (l2:K.lookup f2=some ⟨oc2,od2,.func (PySem.W.fnOf "book_now" "Disk.book_now" (eh qb) (da qb) (aA qb) .none kV2 dc2 mI an2 VI ct2),Aa⟩) (c2:PySem.W.codeIn K VI "Disk.book_now"=true) (k2:PySem.W.keepIn K (.ref f2)=true) (a3:PySem.W.findIn K (.ref D) "put"=some (some (.ref f3))) (i3:PySem.W.isFn K (.ref f3)=true)
 (l3:K.lookup f3=some ⟨oc3,Bg,.func (PySem.W.fnOf "put" "Disk.put" (eh rW) (da rW) (aA rW) .none kV3 dc3 kj an3 VJ ct3),sl3⟩) (c3:PySem.W.codeIn K VJ "Disk.put"=true) (k3:PySem.W.keepIn K (.ref f3)=true) (a4:PySem.W.findIn K (.ref D) "erase"=some (some (.ref f4))) (i4:PySem.W.isFn K (.ref f4)=true)
 (l4:K.lookup f4=some ⟨oc4,od4,.func (PySem.W.fnOf "erase" "Disk.erase" (eh rX) (da rX) (aA rX) .none kV4 dc4 pm4 an4 VL ct4),sl4⟩) (c4:PySem.W.codeIn K VL "Disk.erase"=true) (k4:PySem.W.keepIn K (.ref f4)=true) (a5:PySem.W.findIn K (.ref D) "note"=some (some (.ref f5))) (i5:PySem.W.isFn K (.ref f5)=true)
 (l5:K.lookup f5=some ⟨oc5,od5,.func (PySem.W.fnOf "note" "Disk.note" (eh rY) (da rY) (aA rY) .none kV5 dc5 pm5 an5 VM ct5),sl5⟩) (c5:PySem.W.codeIn K VM "Disk.note"=true) (k5:PySem.W.keepIn K (.ref f5)=true) (a6:PySem.W.findIn K (.ref D) "allow"=some (some (.ref f6))) (i6:PySem.W.isFn K (.ref f6)=true)
 (l6:K.lookup f6=some ⟨oc6,od6,.func (PySem.W.fnOf "allow" "Disk.allow" (eh rZ) (da rZ) (aA rZ) .none kV6 dc6 pm6 an6 VN ct6),sl6⟩) (c6:PySem.W.codeIn K VN "Disk.allow"=true) (k6:PySem.W.keepIn K (.ref f6)=true) (a7:PySem.W.findIn K (.ref D) "take_write"=some (some (.ref f7))) (i7:PySem.W.isFn K (.ref f7)=true)
 (l7:K.lookup f7=some ⟨oc7,od7,.func (PySem.W.fnOf "take_write" "Disk.take_write" (eh qe) (da qe) (aA qe) .none kV7 dc7 pm7 an7 VO ct7),sl7⟩) (c7:PySem.W.codeIn K VO "Disk.take_write"=true) (k7:PySem.W.keepIn K (.ref f7)=true)
 (pg:PySem.W.plainGet K D Str.empty=true) (hd:PySem.W.hasDictIn K D=true) (po:PySem.W.plainOver K D=true) (sa:PySem.W.findIn K (.ref D) "__setattr__"=some (some (.builtin "object.__setattr__"))) (mk:PySem.W.makesIn K D=true) (kc:PySem.W.keepIn K (.ref D)=true) (n0:PySem.W.findIn K (.ref D) "files"=some none) (n1:PySem.W.findIn K (.ref D) "book"=some none) (n2:PySem.W.findIn K (.ref D) "left"=some none):VH K mg:=
 ⟨D,f0,_,f1,_,f2,_,f3,_,f4,_,f5,_,f6,_,f7,_,⟨⟨pg,hd,po,sa⟩,n0,n1,n2,⟨a1,i1,k1⟩,⟨a2,i2,k2⟩,⟨a3,i3,k3⟩,⟨a4,i4,k4⟩,⟨a5,i5,k5⟩,⟨a6,i6,k6⟩,⟨a7,i7,k7⟩,yL X G aC⟩,⟨mk,a0,i0,kc⟩,jX l0 c0 k0,jX l1 c1 k1,jX l2 c2 k2,jX l3 c3 k3,jX l4 c4 k4,jX l5 c5 k5,jX l6 c6 k6,jX l7 c7 k7⟩
structure avW(K:Fg)(mg:Mv)(Fa:Addr):Prop where
 xc:Df K Fa
 mF:mg "Fallen"=some (.ref Fa)
 ex:PySem.W.exmOne K (.ref Fa) (.ref Fa)=some true
def VQ(K:Fg)(mg:Mv):Prop:=∃Fa,avW K mg Fa
theorem avX{K:Fg}{h:Heap}{mg:Mv}(X:K.In h)(G:h.Ns mainGlobals mg)(nFa:PySem.W.nsIn K mainGlobals "Fallen"=some (some (.ref Fa)))(exc:PySem.W.excIn K Fa [.type "ValueError",.type "Exception",.type "BaseException",.type "object"] "ValueError.__new__"=true)(ga:PySem.W.findIn K (.ref Fa) "__getattribute__"=some (some (.builtin "BaseException.__getattribute__")))(gh:PySem.W.findIn K (.ref Fa) "__getattr__"=some none)(cls:PySem.W.findIn K (.ref Fa) "__class__"=some (some (.builtin "object.__class__")))(spc:PySem.W.specialIn K (.builtin "object.__class__") "__get__"=some (some (.builtin "getset_descriptor.__get__")))(tak:PySem.W.takesIn K (.builtin "object.__class__")=some true)(mro:PySem.W.mroIn K Fa (.type "object")=some true)(mrb:PySem.W.mroIn K Fa (.type "BaseException")=some true)(ex:PySem.W.exmOne K (.ref Fa) (.ref Fa)=some true):VQ K mg:=
 ⟨Fa,⟨exc,ga,gh,cls,spc,tak,mro,mrb⟩,yL X G nFa,ex⟩
def VR(K:Fg)(mg:Mv)(x:Str)(st:Stmt)(Pt:Addr):Prop:=∃f c fd,mg x=some (.ref f)/\xK K x x st f c fd/\PySem.W.codeHdIn K c Pt=true/\K.lookup Pt=none
theorem avZ{K:Fg}{h:Heap}{mg:Mv}{x:Str}{st:Stmt}{f c Pt:Addr}{od an:Oa}{sl:Array (Option Value)}{oc kV dc pm ct:Value}(X:K.In h)(G:h.Ns mainGlobals mg)
 (a:PySem.W.nsIn K mainGlobals x=some (some (.ref f))) (l:K.lookup f=some ⟨oc,od,.func (PySem.W.fnOf x x (eh st) (da st) (aA st) .none kV dc pm an (.ref c) ct),sl⟩) (cc:PySem.W.codeIn K (.ref c) x=true) (k:PySem.W.keepIn K (.ref f)=true) (hd:PySem.W.codeHdIn K c Pt=true) (hn:K.lookup Pt=none) :
 VR K mg x st Pt:=⟨f,c,_,yL X G a,⟨⟨_,_,_,_,_,_,_,_,rfl,l,cc⟩,k⟩,hd,hn⟩
theorem av0{K:Fg}{h:Heap}{mg:Mv}(X:K.In h)(G:h.Ns mainGlobals mg)(z0:PySem.W.nsIn K mainGlobals "range"=some none)(z1:PySem.W.nsIn K mainGlobals "len"=some none)(z2:PySem.W.nsIn K mainGlobals "min"=some none)(z3:PySem.W.nsIn K mainGlobals "list"=some none)(z4:PySem.W.nsIn K mainGlobals "dict"=some none)(z5:PySem.W.nsIn K mainGlobals "set"=some none)(z6:PySem.W.nsIn K mainGlobals "sorted"=some none)(z7:PySem.W.nsIn K mainGlobals "isinstance"=some none)(z8:PySem.W.nsIn K mainGlobals "str"=some none)(z9:PySem.W.nsIn K mainGlobals "tuple"=some none)(z10:PySem.W.nsIn K mainGlobals "all"=some none)(z11:PySem.W.nsIn K mainGlobals "enumerate"=some none)(z12:PySem.W.nsIn K mainGlobals "int"=some none):b9 mg:=
 ⟨ma X G z0,ma X G z1,ma X G z2,ma X G z3,ma X G z4,ma X G z5,ma X G z6,ma X G z7,ma X G z8,ma X G z9,ma X G z10,ma X G z11,ma X G z12⟩
theorem av4{P:Program}{w:World}{K:Fg}{mg:Mv}(jC:mg "law"=some (.ref fa))(B:b9 mg)(CC:VE K mg)(CS:VF K mg)(CT:VG K mg)(CD:VH K mg)(CR:VQ K mg)(DN:VR K mg "name_behind" wZ Pt)(av5:bD K mg "_law_begun" Ey)(av6:bD K mg "_law_come" Ex)(av7:bD K mg "_law_up" Ez)(av8:bD K mg "_law_cell_at" Ax)(av9:bD K mg "_law_chosen" Eu)(awa:bD K mg "_law_deed" Ew)(awb:bD K mg "_law_line" Es)(awc:bD K mg "_law_lines" Ay)(awd:bD K mg "_law_make" Et)(awe:bD K mg "_law_mixed" r9)(awf:bD K mg "_law_name" Ep)(awg:bD K mg "_law_parcels_apart" xh)(awh:bD K mg "_law_path" Az)(awi:bD K mg "_law_stand" Ev)(awj:bD K mg "alike_ahead" DU)(awk:bD K mg "are_apart" DX)(awl:bD K mg "block_of" DT)(awm:bD K mg "brought_by" Ee)(awn:bD K mg "change_rows" Eh)(awo:bD K mg "changes_copied" Ed)(awp:bD K mg "clash_faults" Ec)(awq:bD K mg "come_up" As)(awr:bD K mg "commons_of" Eg)(aws:bD K mg "do_deed" Aw)(awt:bD K mg "faults_of" D8)(awu:bD K mg "files_of_change" Ef)(awv:bD K mg "finish" Au)(aww:bD K mg "first_group" El)(awx:bD K mg "groups_to" Ek)(awy:bD K mg "is_ahead" Ap)(awz:bD K mg "is_sound" D9)(awA:bD K mg "is_up" xg)(awB:bD K mg "keys_unlike" uO)(awC:bD K mg "law" uQ)(awD:bD K mg "make_noted" Ej)(awE:bD K mg "make_shown" D3)(awF:bD K mg "need_faults" Ea)(awG:bD K mg "parcels_of" Aq)(awH:bD K mg "paths_of" Ar)(awI:bD K mg "put_together" DZ)(awJ:bD K mg "rows_of" D0)(awK:bD K mg "set_behind" xb)(awL:bD K mg "shut_faults" Eb)(awM:bD K mg "stand_noted" Ei)(awN:bD K mg "stand_on" uP)(awO:bD K mg "stand_shown" xa)(awP:bD K mg "steps_to" Eo)(awQ:bD K mg "takes_none" DW)(awR:bD K mg "texts_begun" En)(awS:bD K mg "tree_of" qf)(awT:bD K mg "turn_to" xf)(awU:bD K mg "with_both" DY)(awV:bD K mg "with_one_more" Em) :
 ∃(fd:Fy) (c:Addr),(∀(s:Shared) (v:Value),BindsTo s fd ⟨[v],[]⟩ [("_law_script",v)])/\PySem.W.codeHdIn K c Pt=true/\K.lookup Pt=none/\∀base:Heap,K.In base->base.Ns mainGlobals mg->base.BuiltinsAt mg Pt->aj P w K mg base ak 11 fa fd ["_law_script"] (Gn K Pt):=by
 obtain⟨C,vf,AS,TC,MC,EW⟩:=CC;obtain⟨S,vX,BX,km,qk,US,MS,Gv,ql⟩:=CS;obtain⟨T,iI,lF,UT,MT,oJ⟩:=CT;obtain⟨D,vY,BY,kz,sN,im,mV,jH,qv,jI,qw,jJ,qC,jK,qH,gM,lI,UD,MD,Gw,sO,lN,vv,sP,vG,vW,mM⟩:=CD;obtain⟨Fa,R⟩:=CR;obtain⟨FC,cN,FE,awW,Bf,VS,hPt⟩:=DN;obtain⟨Ng,Nj,awY,yu,_⟩:=av5;obtain⟨Gj,Gk,awZ,BV,_⟩:=av6;obtain⟨Gq,Gu,aw0,B2,_⟩:=av7;obtain⟨xz,xB,VT,jF,_⟩:=av8;obtain⟨MW,MX,aw1,BS,_⟩:=av9;obtain⟨Gp,Gs,aw2,B1,_⟩:=awa;obtain⟨JG,JH,aw3,AD,_⟩:=awb;obtain⟨vg,vh,VU,oM,_⟩:=awc;obtain⟨Kv,Kw,aw4,AT,_⟩:=awd;obtain⟨iZ,i8,B7,cH,_⟩:=awe;obtain⟨Nd,Nh,aw5,BZ,_⟩:=awf;obtain⟨Nf,Ni,aw6,B0,_⟩:=awg;obtain⟨xA,xC,VW,oK,_⟩:=awh;obtain⟨Go,Gr,aw7,yt,_⟩:=awi;obtain⟨LD,LF,aw8,xR,_⟩:=awj;obtain⟨LM,LP,aw9,A8,_⟩:=awk;obtain⟨LL,LO,axa,xW,_⟩:=awl;obtain⟨L0,L3,axb,Bc,_⟩:=awm;obtain⟨JX,JZ,axc,xv,_⟩:=awn;obtain⟨JP,JQ,axd,AG,_⟩:=awo;obtain⟨Mh,Ml,axe,Bt,_⟩:=awp;obtain⟨vS,vT,VX,m9,_⟩:=awq;obtain⟨L1,L4,axf,Bd,_⟩:=awr;obtain⟨vU,vV,VY,ng,_⟩:=aws;obtain⟨Mn,Mo,axg,Bv,_⟩:=awt;obtain⟨FA,FD,axh,Be,_⟩:=awu;obtain⟨vM,vN,VZ,mY,_⟩:=awv;obtain⟨MA,MB,axi,BC,_⟩:=aww;obtain⟨F0,F1,axj,BL,_⟩:=awx;obtain⟨xS,xT,V0,mQ,_⟩:=awy;obtain⟨FO,FP,axk,Bz,_⟩:=awz;obtain⟨o4,o5,NG,jg,_⟩:=awA;obtain⟨xP,xQ,V1,mO,_⟩:=awB;obtain⟨azr,azs,axl,V2,_⟩:=awC;obtain⟨Kb,Kd,axm,xx,_⟩:=awD;obtain⟨JW,JY,axn,xu,_⟩:=awE;obtain⟨Mf,Mi,axo,Br,_⟩:=awF;obtain⟨x5,x6,V3,oQ,_⟩:=awG;obtain⟨Bp,Bq,axp,tm,_⟩:=awH;obtain⟨LS,LU,axq,A9,_⟩:=awI;obtain⟨Ka,Kc,axr,xw,_⟩:=awJ;obtain⟨qA,qB,NH,je,_⟩:=awK;obtain⟨Mg,Mj,axs,Bs,_⟩:=awL;obtain⟨FT,FV,axt,BH,_⟩:=awM;obtain⟨kF,kG,GJ,gN,_⟩:=awN;obtain⟨oW,oZ,NJ,iL,_⟩:=awO;obtain⟨F7,F8,axu,BO,_⟩:=awP;obtain⟨LH,LI,axv,xU,_⟩:=awQ;obtain⟨FS,FU,axw,BG,_⟩:=awR;obtain⟨kD,kE,GK,iq,_⟩:=awS;obtain⟨vE,vF,V4,mW,_⟩:=awT;obtain⟨LN,LQ,axx,xY,_⟩:=awU;obtain⟨Mw,Mx,axy,By,_⟩:=awV;have e:=jC.symm.trans axl;cases e;obtain⟨oc,od,kV,doc,pm,an,aw,ct,iU,rfl,lk,iw⟩:=id V2.ex;refine⟨PySem.W.fnOf "law" "law" (eh uQ) (da uQ) (aA uQ) .none kV doc pm an aw ct,cN,fun s v=>.of_eq rfl,VS,hPt,fun base _ _ hB=>?_⟩;have oO:aj P w K mg base (ca P w) 1 gM lI ["self"] (AZ D Fa):=apf mM UD R.xc R.mF;have vw:aj P w K mg base (ca P w) 2 jH qv ["self","path","lines"] (E9 K D Fa):=apj vv UD B mM oO;have yh:aj P w K mg base (ca P w) 3 vE vF ["disk","tree"] (FW D Fa):=ast (apJ mW B UD sO vv vw sP (TB sP UD mM oO) ⟨mO,V1⟩);have vH:aj P w K mg base (ca P w) 2 jJ qC ["self","kind","text"] (FX D Fa):=asu (apm vG UD mM oO);have yk:aj P w K mg base (ca P w) 4 vM vN ["disk","tree"] (FY D Fa):=asB mY UD ⟨mW,V4⟩ yh vG (vH.mono (by decide));have qh:aj P w K mg base ak 2 iI lF ["self","chosen","choices","own"] (xq T):=amJ oJ UT B ⟨AG,axd⟩;have vi:aj P w K mg base ak 2 vg vh ["_law_number"] EF:=alZ oM B ⟨cH,B7⟩ ⟨AD,aw3⟩;have MG:aj P w K mg base ak 4 FT FV ["text"] (EL T):=anz BH B UT MT ⟨xw,axr⟩ ⟨xx,axm⟩ oJ qh;have lR:aj P w K mg base ak 2 oW oZ ["stand"] (uX T):=amR iL UT B ⟨xu,axn⟩ ⟨xv,axc⟩;have MF:aj P w K mg base ak 4 FS FU ["disk"] (ME D):=(asc BG B UD lN).mono (by decide);have kH:aj P w K mg base ak 5 kF kG ["disk"] (yg D T):=asg gN ⟨BG,axw⟩ MF ⟨BH,axt⟩ MG;have L6:aj P w K mg base ak 4 FA FD ["path","change","brought"] LR:=aqj Be B ⟨A9,axq⟩ (aqb A9 B ⟨xW,axa⟩ ⟨A8,aw9⟩ ⟨mQ,V0⟩ ⟨xY,axx⟩ (ap1 xW B ⟨xR,aw8⟩) (ap6 A8 ⟨mQ,V0⟩ ⟨xU,axv⟩));have lO:aj P w K mg base ak 5 kD kE ["shelf","stand"] (xZ C S T Pt):=aqP iq B TC US UT ql ⟨oQ,V3⟩ ⟨Bc,axb⟩ ⟨Bd,axf⟩ ⟨Be,axh⟩ L6 ⟨Bf.fn,awW⟩ (ao8 Bf B TC VS hB);have My:aj P w K mg base ak 4 FO FP ["shelf","chosen"] (Mm C S):=arv Bz B ⟨Bv,axg⟩ (arl Bv B TC US ql ⟨oQ,V3⟩ ⟨Br,axo⟩ ⟨Bs,axs⟩ ⟨Bt,axe⟩ ⟨tm,axp⟩);have ML:aj P w K mg base ak 6 F0 F1 ["shelf","now","goal"] (Mz C S):=arP BL B ⟨BC,axi⟩ (arL BC B ⟨By,axy⟩ ⟨je,NH⟩ ⟨Bz,axk⟩ My) ⟨je,NH⟩ ⟨mO,V1⟩;have MM:aj P w K mg base ak 7 F7 F8 ["shelf","now","goal"] (MK C S T Pt):=asK BO UT MT oJ (qh.mono (by decide)) ⟨BL,axj⟩ ML ⟨je,NH⟩ ((Mt je B).mono (by decide)) ⟨iq,GK⟩ (lO.mono (by decide));have yr:aj P w K mg base (ca P w) 8 vU vV ["shelf","disk","goal"] (F6 C S T D Fa Pt):=as1 ng UD UT ⟨gN,GJ⟩ (kH.mono (by decide)) ⟨iL,NJ⟩ (lR.mono (by decide)) ⟨BO,axu⟩ MM ⟨iq,GK⟩ (lO.mono (by decide)) ⟨mW,V4⟩ (yh.mono (by decide)) vG (vH.mono (by decide)) ⟨mY,VZ⟩ (yk.mono (by decide));have mZ:aj P w K mg base ak 2 o4 o5 ["disk"] (BD D):=asa jg B UD lN;have yq:aj P w K mg base (ca P w) 8 vS vT ["shelf","disk"] (Gc C S D Fa Pt):=atq m9 ⟨jg,NG⟩ (mZ.mono (by decide)) ⟨gN,GJ⟩ (kH.mono (by decide)) ⟨iq,GK⟩ (lO.mono (by decide)) ⟨mY,VZ⟩ (yk.mono (by decide));have Gx:aj P w K mg base ak 4 Go Gr ["_law_parcels","_law_names","_law_cell"] (MV C T):=atw yt B UT MT oJ qh ⟨BS,aw1⟩ ((aou BS B TC ⟨cH,B7⟩).mono (by decide)) ⟨cH,B7⟩ ((AB cH).mono (by decide)) ⟨oM,VU⟩ (vi.mono (by decide)) ⟨oK,VW⟩ ((R3 oK).mono (by decide));have tE:aj P w K mg base ak 1 jK qH ["self","many"] (Fd D):=app vW UD;have A2:aj P w K mg base (ca P w) 2 jI qw ["self","path"] (Fb D Fa):=TB sP UD mM oO;have Nk:aj P w K mg base ak 9 Gp Gs ["_law_shelf","_law_disk","_law_goal"] (M3 C S T D Pt):=atU B1 R.mF R.ex ⟨ng,VY⟩ yr;have Nc:aj P w K mg base ak 9 Gj Gk ["_law_shelf","_law_disk"] (M0 C S D Pt):=atP BV R.mF R.ex ⟨m9,VX⟩ yq;have Nl:aj P w K mg base ak 10 Gq Gu ["_law_shelf","_law_disk","_law_cell","_law_due"] (Nb C S D Pt):=at8 B2 B UD vW (tE.mono (by decide)) ⟨jg,NG⟩ (mZ.mono (by decide)) ⟨cH,B7⟩ ((AB cH).mono (by decide)) ⟨BV,awZ⟩ Nc ⟨iL,NJ⟩ (lR.mono (by decide)) ⟨gN,GJ⟩ (kH.mono (by decide)) ⟨m9,VX⟩ (yq.mono (by decide));exact auk V2 B US UD MS MD Gv ((anX Gv TC US).mono (by decide)) Gw ((aph Gw UD).mono (by decide)) sO ((TJ sO UD B).mono (by decide)) vv (vw.mono (by decide)) sP (A2.mono (by decide)) vW (tE.mono (by decide)) ⟨jF,VT⟩ ((RX jF B).mono (by decide)) ⟨BZ,aw5⟩ ((alV BZ B).mono (by decide)) ⟨B0,aw6⟩ ((aoF B0 B TC MC EW ⟨cH,B7⟩ ⟨jF,VT⟩ ⟨oK,VW⟩ ⟨oM,VU⟩ vi ⟨AT,aw4⟩).mono (by decide)) ⟨yt,aw7⟩ (Gx.mono (by decide)) ⟨ng,VY⟩ (yr.mono (by decide)) ⟨yu,awY⟩ ((atR yu B UD lN).mono (by decide)) ⟨B1,aw2⟩ (Nk.mono (by decide)) ⟨iL,NJ⟩ (lR.mono (by decide)) ⟨jg,NG⟩ (mZ.mono (by decide)) ⟨B2,aw0⟩ Nl ⟨gN,GJ⟩ (kH.mono (by decide)) ⟨iq,GK⟩ (lO.mono (by decide))
theorem axz{l:PySem.W.OpenLaw}{q:Program}{loose:Ls}{XP:(Mv)->Heap->Prop}{YP:World->Heap->Prop}{d:DefRec}{K:Params->Fg}{Pt:Addr}(hn:l.most=some 63)(zx:d.params.defaults=[])
 (hY:∀(w:World) (h:Heap),YP w h->(K w.params).In h/\h.get? Pt=some (PySem.W.tabObj #[]))
 (F:∀(w:World) (mg:Mv) (fa:Addr) (h:Heap),(K w.params).In h->h.Ns mainGlobals mg->mg d.name=some (.ref fa) ->
  ∃(fd:Fy) (c:Addr),(∀(s:Shared) (u:Value),BindsTo s fd ⟨[u],[]⟩ [("_law_script",u)])/\PySem.W.codeHdIn (K w.params) c Pt=true/\(K w.params).lookup Pt=none/\∀base:Heap,(K w.params).In base->base.Ns mainGlobals mg->base.BuiltinsAt mg Pt->aj l.prog w (K w.params) mg base ak 11 fa fd ["_law_script"] (Gn (K w.params) Pt)) :
 PySem.W.WalkO q loose XP YP l.row.toRowW d [] (fun f vs=>PySem.call f vs):=
 L2.alp (n:=63) (k:=11) (x:="_law_script") (qual:=di) (lpos:=dv) (Pt:=Pt) (CX:=fun _=>ak) (sp:=fun w=>Gn (K w.params) Pt) hn (by decide) zx ⟨rfl,by decide,by decide,rfl⟩ hY F (fun _ _ a ns hl hT hS=>⟨a,ns,rfl,hS,hl,.inl hT,fun _ t=>⟨rfl,t⟩⟩) fun _ _ _ _ _ z=>z
end K63
open PySem PySem.W PyProof.Rows
namespace PySem.W.Fast
def tw14237636966897364819:=0
def tw12270234587892500756:=0
def tw3857445241631987813:=0
def tw4166024127062465678:=0
def tw17286292783908186323:=0
def tw15390283626927284393:=0
def tw11862605679417791776:=0
def tw5900571088311013889:=0
def tw11486014254875909215:=0
def tw2823107289643534811:=0
def tw7167499743367959943:=0
def tw6011543429109991463:=0
def tw358341498513368742:=0
def tw12469829396513162494:=0
def tw15287199751452538392:=0
def tw2198323039861654206:=0
def tw16692042252464075358:=0
def tw7916227812839684588:=0
def tw15497791953505728140:=0
def tw2668398698713260568:=0
def tw18082542198770376823:=0
def tw18222982948193695988:=0
def tw12557144473893021737:=0
def tw11834449706217306815:=0
def tw16513093055215725322:=0
def tw14633285840457171595:=0
def tw14725338659882122802:=0
def tw13427160828634425945:=0
def tw1048339607598802916:=0
def tw4551001348691557594:=0
def tw7503151110203653948:=0
def tw13092020262723138055:=0
def tw14845912561435755556:=0
def tw17197981454740613468:=0
def tw12387473769013614448:=0
def tw12383211966800884903:=0
def tw14185416305090287144:=0
def tw15325330418300046067:=0
def tw7489342996303867903:=0
def tw8342419836554954885:=0
def tw345064009709437545:=0
def tw5237477600673583424:=0
def tw16810688562425961095:=0
def tw2862943211244048177:=0
def tw10131217942152798448:=0
def tw8855485963812795975:=0
def tw9244928211698036678:=0
def tw11071547311365000986:=0
def tw13862632348676475896:=0
def tw17670406484866741421:=0
def tw4126279600056797122:=0
def tw487279553653055486:=0
def tw11376382954634984194:=0
def tw1616490962502970849:=0
def tw9715218416487906260:=0
def tw13755849192503096219:=0
def tw10627810959782276318:=0
def tw7999335164404212481:=0
def tw3055076582420495414:=0
def tw4355262549871256794:=0
def tw5378753601281275427:=0
def tw11062543862433132183:=0
def tw4385368735274425976:=0
def tw2750997515986971541:=0
def tw2518801890513340618:=0
def tw14230928985349034989:=0
def tw10080689357084227485:=0
def tw11934640705393188913:=0
def tw5012123830129245831:=0
def tw12340147725935528652:=0
def tw1984589237740808833:=0
def tw4391141867679513843:=0
def tw7085711761390841062:=0
def tw10594684641623617046:=0
def tw11715995983458123181:=0
def tw8611573250394595817:=0
def tw11100306319555655873:=0
def tw11028906155507219208:=0
def tw14751248402793114939:=0
def tw9773308533872666555:=0
def tw11069954076631715284:=0
def tw9575410687196369329:=0
def tw18268571063135584155:=0
def tw17110755625253721821:=0
def tw6582304388729947519:=0
def tw12787295411826490354:=0
def tw5911577584773462501:=0
def tw17067624266782627125:=0
def tw13686674466383443737:=0
def tw14624121935862220484:=0
def tw13965020124015215783:=0
def tw2278299338891357579:=0
def tw2709010576643731496:=0
def tw17660614645644128946:=0
def tw14074524840872515338:=0
def tw11578395438541363132:=0
def tw7082412007485695839:=0
def tw237288763085488084:=0
def tw1770780290142079879:=0
def tw18078554471389309305:=0
def tw9926203397650193598:=0
def tw1852058626363794026:=0
def tw8662023291160021402:=0
def tw2992385027719370446:=0
def tw1886075237602683753:=0
def tw10186630275955574463:=0
def tw11102696859107538354:=0
def tw5812294918590189591:=0
def tw11986826292056609085:=0
def tw10173190631632356163:=0
def tw12440010478581399011:=0
def tw14837843520849827427:=0
def tw11984949863755302730:=0
def tw2153785797780255815:=0
def tw6811339739971929448:=0
def tw59211936969089103:=0
def tw407256712672855615:=0
def tw13492280231871178898:=0
def tw960323365791035155:=0
def tw1042223462354023885:=0
def tw18307181580116891711:=0
def tw7329416245598808538:=0
def tw15543868006464760336:=0
def tw2950448380773896610:=0
def tw18444335672197749115:=0
def tw16801807396212569049:=0
def tw6005991148875999915:=0
def tw11641094426208783835:=0
def tw9697873110487213385:=0
def tw5955532189114910160:=0
def tw18265174924346787852:=0
def tw4434464183785717549:=0
def tw12752436842023045164:=0
def tw7331491918316745262:=0
def tw5770315683977904195:=0
def tw2817570613195845289:=0
def tw2161697679837044817:=0
def tw506820867135118783:=0
def tw17321017528942096271:=0
def tw13516266464346823573:=0
def tw402265296447643580:=0
def tw10186982266259412355:=0
def tw12156132453057835216:=0
def tw16543381554407359923:=0
def tw13491495556884926247:=0
def tw12945466968750235816:=0
def tw16668151479811680687:=0
def tw6699531741891897075:=0
def tw10393023002068534987:=0
def tw12813941222212215365:=0
def tw17109507103064736518:=0
def tw7775524994270346630:=0
def tw17636938813914722779:=0
def tw17360985925386138899:=0
def tw1771362881503809915:=0
def tw12310200832028908217:=0
def tw13295749876066099937:=0
def tw16871331590770566851:=0
def tw3486372966176773807:=0
def tw8543515661095336437:=0
def tw11588435931638385073:=0
def tw9958593100013391620:=0
def tw8437074136539138839:=0
def tw3848523953896034032:=0
def tw16953019900276218467:=0
def tw13274676747319537000:=0
def tw6618019476808342326:=0
def tw11360362244550894237:=0
def tw14627917103343197143:=0
def tw2076870078504851704:=0
def tw14831378691299711946:=0
def tw10863953496661281208:=0
def tw14798494166211222921:=0
def tw9652846759748996994:=0
def tw5815860367558984082:=0
def tw13695928613549838973:=0
def tw2484898487923773151:=0
def tw13698444649910438712:=0
def tw7254359284839178367:=0
def tw5310148987463617337:=0
def tw5873810463233976275:=0
def tw3595520132924754554:=0
def tw18231967031161802806:=0
def tw5342177005556161436:=0
def tw2414669289690196132:=0
def tw10838952333876801475:=0
def tw8033005380281270851:=0
def tw17417612580912833541:=0
def tw16854523684942285849:=0
def tw13642747989260296036:=0
def tw17727497253922456034:=0
def tw1454780934547766189:=0
def tw1238009439069982640:=0
def tw13551754688477356539:=0
def tw16294067938020660197:=0
def tw2508631641751721768:=0
def tw744659532229130243:=0
def tw17437437092889695582:=0
def tw6815302963307188247:=0
def tw4897284044104996380:=0
def tw8786409849436427620:=0
def tw9400188120999573716:=0
def tw18182507967448706795:=0
def tw9196737988209646299:=0
def tw12143890909887034733:=0
def tw13496688349358958244:=0
def tw1500715223718370125:=0
def tw10583911782903637:=0
def tw16243360895638642736:=0
def tw13707263377708573493:=0
def tw9938047502062436764:=0
def tw5468149627347170177:=0
def tw17619273020368959621:=0
def tw8770462497970062568:=0
def tw6995366781368687574:=0
def tw17534672574409272679:=0
def tw16173407214801306475:=0
def tw9913516646875228758:=0
def tw12545280985236952532:=0
def tw12002625887826211632:=0
def tw12537536232959921070:=0
def tw14034709130926183673:=0
def tw15885448891203542540:=0
def tw1603479318458169424:=0
def tw15232776785311066320:=0
def tw7566847211087739534:=0
def tw5561764773622111158:=0
def tw3308232193400312693:=0
def tw1514401466642165912:=0
def tw5311652547812974633:=0
def tw3019083062250156895:=0
def tw8160443786715491434:=0
def tw16828405127763406992:=0
def tw13034495565297017376:=0
def tw12581424545011806793:=0
def tw14066028830019291901:=0
def tw8519127542305542236:=0
def tw4985583533159154926:=0
def tw14596380716532145104:=0
def tw6730471286686526230:=0
def tw9919938334640660295:=0
def tw7670965738127046307:=0
def tw13161283401775437395:=0
def tw3070236176250284457:=0
def tw9086388404471857729:=0
def tw5728557491971976217:=0
def tw5520217213342799894:=0
def tw4124140682087548679:=0
def tw18015870660995403473:=0
def tw17469988337354109330:=0
def tw11634840660310848206:=0
def tw1625275657649091481:=0
def tw8825221300507536467:=0
def tw3071144147483402610:=0
def tw8772050507180285298:=0
def tw7003800646547061118:=0
def tw11665303067312239855:=0
end PySem.W.Fast
def PySem.W.Fast.tw5447196056000613462:PySem.Program:=PySem.Challenge.pw_parcelmend_k63_a_deed_that_falls
set_option maxRecDepth 100000 in
set_option maxHeartbeats 0 in
theorem PySem.Challenge.cw_parcelmend_k63_a_deed_that_falls_holds : PySem.Challenge.rw_parcelmend_k63_a_deed_that_falls.Holds := by
 w_on;o_law;k_head;(case hw=>w_witness2)
 k_fill
 refine K63.axz (l:=PySem.Challenge.rw_parcelmend_k63_a_deed_that_falls) rfl rfl (fun w h Y=>⟨PySem.W.km_in_of Y,PySem.W.km_tabs_of Y _ bK⟩) ?F
 case F=>
  intro w mg fa h KX G zy
  refine' K63.av4 zy (K63.av0 KX G ?_ ?_ ?_ ?_ ?_ ?_ ?_ ?_ ?_ ?_ ?_ ?_ ?_) (K63.ava KX G ?_ ?_ ?_ ?_ ?_ ?_ ?_ ?_ ?_ ?_ ?_ ?_ ?_ ?_ ?_ ?_ ?_ ?_ ?_) (K63.avb KX G ?_ ?_ ?_ ?_ ?_ ?_ ?_ ?_ ?_ ?_ ?_ ?_ ?_ ?_ ?_ ?_ ?_ ?_) (K63.avc KX G ?_ ?_ ?_ ?_ ?_ ?_ ?_ ?_ ?_ ?_ ?_ ?_ ?_ ?_ ?_) (K63.avd KX G ?_ ?_ ?_ ?_ ?_ ?_ ?_ ?_ ?_ ?_ ?_ ?_ ?_ ?_ ?_ ?_ ?_ ?_ ?_ ?_ ?_ ?_ ?_ ?_ ?_ ?_ ?_ ?_ ?_ ?_ ?_ ?_ ?_ ?_ ?_ ?_ ?_ ?_ ?_ ?_ ?_ ?_ ?_ ?_ ?_ ?_ ?_ ?_ ?_ ?_) (K63.avX KX G ?_ ?_ ?_ ?_ ?_ ?_ ?_ ?_ ?_ ?_) (K63.avZ KX G ?_ ?_ ?_ ?_ ?_ ?_)
   (L2.bH KX G ?_ ?_ ?_ ?_)
   (L2.bH KX G ?_ ?_ ?_ ?_)
   (L2.bH KX G ?_ ?_ ?_ ?_)
   (L2.bH KX G ?_ ?_ ?_ ?_)
   (L2.bH KX G ?_ ?_ ?_ ?_)
   (L2.bH KX G ?_ ?_ ?_ ?_)
   (L2.bH KX G ?_ ?_ ?_ ?_)
   (L2.bH KX G ?_ ?_ ?_ ?_)
   (L2.bH KX G ?_ ?_ ?_ ?_)
   (L2.bH KX G ?_ ?_ ?_ ?_)
   (L2.bH KX G ?_ ?_ ?_ ?_)
   (L2.bH KX G ?_ ?_ ?_ ?_)
   (L2.bH KX G ?_ ?_ ?_ ?_)
   (L2.bH KX G ?_ ?_ ?_ ?_)
   (L2.bH KX G ?_ ?_ ?_ ?_)
   (L2.bH KX G ?_ ?_ ?_ ?_)
   (L2.bH KX G ?_ ?_ ?_ ?_)
   (L2.bH KX G ?_ ?_ ?_ ?_)
   (L2.bH KX G ?_ ?_ ?_ ?_)
   (L2.bH KX G ?_ ?_ ?_ ?_)
   (L2.bH KX G ?_ ?_ ?_ ?_)
   (L2.bH KX G ?_ ?_ ?_ ?_)
   (L2.bH KX G ?_ ?_ ?_ ?_)
   (L2.bH KX G ?_ ?_ ?_ ?_)
   (L2.bH KX G ?_ ?_ ?_ ?_)
   (L2.bH KX G ?_ ?_ ?_ ?_)
   (L2.bH KX G ?_ ?_ ?_ ?_)
   (L2.bH KX G ?_ ?_ ?_ ?_)
   (L2.bH KX G ?_ ?_ ?_ ?_)
   (L2.bH KX G ?_ ?_ ?_ ?_)
   (L2.bH KX G ?_ ?_ ?_ ?_)
   (L2.bH KX G ?_ ?_ ?_ ?_)
   (L2.bH KX G ?_ ?_ ?_ ?_)
   (L2.bH KX G ?_ ?_ ?_ ?_)
   (L2.bH KX G ?_ ?_ ?_ ?_)
   (L2.bH KX G ?_ ?_ ?_ ?_)
   (L2.bH KX G ?_ ?_ ?_ ?_)
   (L2.bH KX G ?_ ?_ ?_ ?_)
   (L2.bH KX G ?_ ?_ ?_ ?_)
   (L2.bH KX G ?_ ?_ ?_ ?_)
   (L2.bH KX G ?_ ?_ ?_ ?_)
   (L2.bH KX G ?_ ?_ ?_ ?_)
   (L2.bH KX G ?_ ?_ ?_ ?_)
   (L2.bH KX G ?_ ?_ ?_ ?_)
   (L2.bH KX G ?_ ?_ ?_ ?_)
   (L2.bH KX G ?_ ?_ ?_ ?_)
   (L2.bH KX G ?_ ?_ ?_ ?_)
   (L2.bH KX G ?_ ?_ ?_ ?_)
   (L2.bH KX G ?_ ?_ ?_ ?_)
   (L2.bH KX G ?_ ?_ ?_ ?_)
   (L2.bH KX G ?_ ?_ ?_ ?_)
   (L2.bH KX G ?_ ?_ ?_ ?_)
   (L2.bH KX G ?_ ?_ ?_ ?_)
  all_goals try first | k_is | k_exc | kts_exm | kernel_rfl
