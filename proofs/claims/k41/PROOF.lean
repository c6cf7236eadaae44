import PyProof.Rows.All
import Wide.All
import OpenK.AllK
import Wide.FinOn
import Lean
import PyProof.EqAt
import PyProof.EqKinds
import PyProof.TupleCall
import KE.KRevSl
import KE.KDictSum
import KE.KEqDict
import PyProof.P3Eq
import KE.KTryMore
import KE.KSortTup
import PyProof.NeKinds
import KE.KIntText
import PyProof.DictValues
import PyProof.DictWalks
import KE.KItemsList
import KE.KLam
import PySem.Challenge.RW_parcelmend_k41_wishes_and_width
import KE.KMinKey
import KE.RegKIsAll
import KE.RegKTryMore
set_option Elab.async false
set_option linter.all false
set_option genInjectivity false
set_option genSizeOf false
set_option genSizeOfSpec false
set_option maxRecDepth 100000
namespace L2
open PySem PySem.Spec PyProof.Rows
noncomputable abbrev Key:=Sum Int Str
noncomputable def keyIs:Key->Value->Bool
 | .inl k,v=>Value.isInt k v
 | .inr x,v=>Value.isStrOf x v
noncomputable def keyH(w:World):Key->Int
 | .inl k=>hashInt k
 | .inr x=>hashStr w x
theorem keyIs_shape:∀{k:Key} {v:Value},keyIs k v=true->(∃i t,k=Sum.inl i/\v=Value.int i t)\/(∃x t,k=Sum.inr x/\v=Value.str x t)
 | .inl i,v,h=>by
  obtain⟨t,e⟩:=Value.isInt_shape (k:=i) (v:=v) h
  exact .inl ⟨i,t,rfl,e⟩
 | .inr x,v,h=>by
  obtain⟨t,e⟩:=Value.isStrOf_shape (x:=x) (v:=v) h
  exact .inr ⟨x,t,rfl,e⟩
theorem keyIs_int(i:Int)(t:Tok):keyIs (.inl i) (.int i t)=true:=by simp[keyIs,Value.isInt]
theorem keyIs_str(x:Str)(t:Tok):keyIs (.inr x) (.str x t)=true:=by simp[keyIs,Value.isStrOf]
theorem key_ll(a b:Int):decide ((Sum.inl a:Key)=Sum.inl b)=(a == b):=by
 by_cases e:a=b
 · subst e;simp
 · have h:¬(Sum.inl a:Key)=Sum.inl b:=fun q=>e (Sum.inl.inj q)
   rw[decide_eq_false h]
   exact(beq_eq_false_iff_ne.mpr e).symm
theorem key_rr(a b:Str):decide ((Sum.inr a:Key)=Sum.inr b)=decide (a=b):=by
 by_cases e:a=b
 · subst e;simp
 · have h:¬(Sum.inr a:Key)=Sum.inr b:=fun q=>e (Sum.inr.inj q)
   rw[decide_eq_false h,decide_eq_false e]
theorem key_lr(a:Int)(b:Str):decide ((Sum.inl a:Key)=Sum.inr b)=false:=decide_eq_false (fun q=>nomatch q)
theorem key_rl(a:Str)(b:Int):decide ((Sum.inr a:Key)=Sum.inl b)=false:=decide_eq_false (fun q=>nomatch q)
noncomputable def mixKind(prog:Program)(w:World):PySem.KeyKind prog w Key where
 is:=keyIs
 hash:=keyH w
 inj:=fun v a b ha hb=>by
  rcases keyIs_shape ha with⟨i,t,rfl,rfl⟩ | ⟨x,t,rfl,rfl⟩
  · rcases keyIs_shape hb with⟨j,u,rfl,e⟩ | ⟨y,u,rfl,e⟩
    · injection e with e1 _;rw[e1]
    · exact nomatch e
  · rcases keyIs_shape hb with⟨j,u,rfl,e⟩ | ⟨y,u,rfl,e⟩
    · exact nomatch e
    · injection e with e1 _;rw[e1]
 byValue:=fun k v h=>by
  rcases keyIs_shape h with⟨i,t,rfl,rfl⟩ | ⟨x,t,rfl,rfl⟩<;>rfl
 pyHash:=fun hv h=>by
  rcases keyIs_shape hv with⟨i,t,rfl,rfl⟩ | ⟨x,t,rfl,rfl⟩
  · exact wpAny_pyHash_int h
  · exact wpAny_pyHash_str h
 eqBool:=fun hu hv h=>by
  rcases keyIs_shape hu with⟨i,t,rfl,rfl⟩ | ⟨x,t,rfl,rfl⟩
  · rcases keyIs_shape hv with⟨j,u,rfl,rfl⟩ | ⟨y,u,rfl,rfl⟩
    · rw[key_ll]at h;exact wpAny_eqBool_int h
    · rw[key_lr]at h;exact SeqAt.EqAt.int_str i t y u _ _ _ _ h
  · rcases keyIs_shape hv with⟨j,u,rfl,rfl⟩ | ⟨y,u,rfl,rfl⟩
    · rw[key_rl]at h;exact SeqAt.EqAt.str_int x t j u _ _ _ _ h
    · rw[key_rr]at h;exact wpAny_eqBool_str h
 «strs»:=fun k x t v h=>by
  rcases keyIs_shape h with⟨i,u,rfl,e⟩ | ⟨y,u,rfl,e⟩
  · exact nomatch e
  · injection e with e1 _
    subst e1
    cases v<;>rfl
theorem mixKind_int(prog:Program)(w:World)(i:Int)(t:Tok):(mixKind prog w).is (.inl i) (.int i t)=true:=keyIs_int i t
theorem mixKind_str(prog:Program)(w:World)(x:Str)(t:Tok):(mixKind prog w).is (.inr x) (.str x t)=true:=keyIs_str x t
end L2
namespace L2
open PySem PySem.Spec PyProof.Rows
noncomputable abbrev NI:=Sum Key (List Key)
section
variable {P:Program} {w:World}
noncomputable def NItem(P:Program)(w:World)(h:Heap):NI->Value->Prop
 | .inl k,v=>keyIs k v=true
 | .inr ls,v=>∃b,v = .ref b/\IsTupleKey (mixKind P w) h ls b
inductive NItems (P:Program) (w:World) (h:Heap):List NI->List Value->Prop
 | nil:NItems P w h [] []
 | cons {i:NI} {v:Value} {ks:List NI} {vs:List Value}:NItem P w h i v->NItems P w h ks vs->NItems P w h (i::ks) (v::vs)
noncomputable def NKey(P:Program)(w:World)(h:Heap)(ks:List NI)(a:Addr):Prop:=∃o items n,h.get? a=some o/\o.cls = .type "tuple"/\o.data = .seq items n/\NItems P w h ks items.toList
noncomputable def niHash(P:Program)(w:World):NI->Int
 | .inl k=>keyH w k
 | .inr ls=>tupleKeyHash (mixKind P w) ls
noncomputable def niDraws:NI->Nat
 | .inl _=>1
 | .inr ls=>ls.length+1
noncomputable def nkHash(P:Program)(w:World)(ks:List NI):Int:=reduceHash (Builtin.Tuple.tupleHashOf (ks.map (niHash P w)))
noncomputable def nkDraws(ks:List NI):Nat:=(ks.map niDraws).sum+1
theorem NItem.inj{h:Heap}{i j:NI}{v:Value}(a:NItem P w h i v)(b:NItem P w h j v):i=j:=by
 cases i with
 | inl k=>
  cases j with
  | inl l=>rw[(mixKind P w).inj v k l a b]
  | inr l=>
   obtain⟨c,rfl,_⟩:=b
   rcases keyIs_shape a with⟨_,_,_,e⟩ | ⟨_,_,_,e⟩<;>cases e
 | inr k=>
  obtain⟨c,rfl,hc⟩:=a
  cases j with
  | inl l=>rcases keyIs_shape b with⟨_,_,_,e⟩ | ⟨_,_,_,e⟩<;>cases e
  | inr l=>
   obtain⟨d,e,hd⟩:=b
   cases e
   rw[hc.inj hd]
theorem NItems.inj{h:Heap}{x y:List NI}{vs:List Value}(a:NItems P w h x vs)(b:NItems P w h y vs):x=y:=by
 induction a generalizing y with
 | nil=>cases b;rfl
 | cons p _ ih=>
  cases b with
  | cons q r=>rw[p.inj q,ih r]
theorem NKey.typeIs{s:Shared}{ks:List NI}{a:Addr}(x:NKey P w s.heap ks a):s.TypeIs (.ref a) "tuple":=x.elim fun o zq478=>zq478.elim fun _ zq479=>zq479.elim fun _ zq480=>zq480.elim fun ho zq481=>zq481.elim fun hc _=>⟨o,ho,hc⟩
theorem NKey.inj{h:Heap}{a:Addr}{x y:List NI}(p:NKey P w h x a)(q:NKey P w h y a):x=y:=by
 obtain⟨o,its,n,e,_,d,i⟩:=p
 obtain⟨o',its',n',e',_,d',i'⟩:=q
 rw[e]at e';cases e'
 rw[d]at d'
 injection d' with d1 _
 subst d1
 exact i.inj i'
theorem NItems.keeps{h h':Heap}{ks:List NI}{vs:List Value}(k:∀ls b,IsTupleKey (mixKind P w) h ls b->IsTupleKey (mixKind P w) h' ls b)(x:NItems P w h ks vs):NItems P w h' ks vs:=by
 induction x with
 | nil=>exact .nil
 | @cons i v ks vs p _ ih=>
  refine .cons ?_ ih
  cases i with
  | inl l=>exact p
  | inr l=>
   obtain⟨b,e,hb⟩:=p
   exact⟨b,e,k _ _ hb⟩
theorem NKey.keeps{h h':Heap}{ks:List NI}{a d:Addr}{o:Obj}{es:Array DictEntry}{ep:Nat}(x:NKey P w h ks a)(ho:h.get? d=some o)(hd:o.data = .dict es ep)(hs:Heap.SameBut d h h'):NKey P w h' ks a:=by
 obtain⟨oa,its,n,e,c,e2,i⟩:=x
 have ne:a≠d:=by
  intro z
  rw[z,ho]at e
  cases e
  rw[hd]at e2
  cases e2
 exact⟨oa,its,n,(hs.2 a ne).trans e,c,e2,i.keeps fun ls b hb=>hb.keeps ho hd hs⟩
variable {A:Around} {E:Value->Shared->Prop} {s:Shared}
theorem NItem.hash{i:NI}{v:Value}{Q:Int->Shared->Prop}(hu:A.units<cLine)(x:NItem P w s.heap i v)(h:Q (niHash P w i) { s with toks:=s.toks+niDraws i }):wpAny (model P w) A (pyHash v) Q E s:=by
 cases i with
 | inl k=>exact(mixKind P w).pyHash (k:=k) x h
 | inr ls=>
  obtain⟨b,rfl,hb⟩:=x
  exact wpAny_pyHash_tuple hu hb h
theorem NItem.eq{i j:NI}{u v:Value}{Q:Bool->Shared->Prop}(hu:A.units<cLine)(x:NItem P w s.heap i u)(y:NItem P w s.heap j v)(h:Q (decide (i=j)) s):wpAny (model P w) A (eqBool u v) Q E s:=by
 cases i with
 | inl k=>
  cases j with
  | inl l=>
   have e:decide ((Sum.inl k:NI)=Sum.inl l)=decide (k=l):=by
    by_cases q:k=l
    · rw[q];simp
    · rw[decide_eq_false q,decide_eq_false (fun z=>q (Sum.inl.inj z))]
   rw[e]at h
   exact(mixKind P w).eqBool (a:=k) (b:=l) x y h
  | inr l=>
   rw[decide_eq_false (fun z=>nomatch z)]at h
   obtain⟨b,rfl,o,its,n,e,c,d,_⟩:=y
   rcases keyIs_shape x with⟨a,t,_,rfl⟩ | ⟨a,t,_,rfl⟩
   · exact SeqAt.EqAt.int_tuple a t ⟨o,e,c,n,d⟩ hu _ _ _ _ h
   · exact SeqAt.EqAt.str_tuple a t ⟨o,e,c,n,d⟩ hu _ _ _ _ h
 | inr k=>
  obtain⟨a,rfl,ha⟩:=x
  cases j with
  | inl l=>
   rw[decide_eq_false (fun z=>nomatch z)]at h
   obtain⟨o,its,n,e,c,d,_⟩:=ha
   rcases keyIs_shape y with⟨b,t,_,rfl⟩ | ⟨b,t,_,rfl⟩
   · exact SeqAt.EqAt.tuple_int b t ⟨o,e,c,n,d⟩ hu _ _ _ _ h
   · exact SeqAt.EqAt.tuple_str b t ⟨o,e,c,n,d⟩ hu _ _ _ _ h
  | inr l=>
   obtain⟨b,rfl,hb⟩:=y
   have e:decide ((Sum.inr k:NI)=Sum.inr l)=decide (k=l):=by
    by_cases q:k=l
    · rw[q];simp
    · rw[decide_eq_false q,decide_eq_false (fun z=>q (Sum.inr.inj z))]
   rw[e]at h
   exact wpAny_eqBool_tuple hu ha hb h
theorem nest_hash{ks:List NI}{a:Addr}{Q:Int->Shared->Prop}(hu:A.units+8<cLine)(hk:NKey P w s.heap ks a)(h:Q (nkHash P w ks) { s with toks:=s.toks+nkDraws ks }):wpAny (model P w) A (pyHash (.ref a)) Q E s:=by
 have hT:=hk.typeIs
 obtain⟨o,its,n,ho,_,hd,hi⟩:=hk
 have hu0:A.units<cLine:=by omega
 unfold pyHash
 first | unfold pyHashByItsType | skip
 first | refine wpAny_bind (wpAny_cRoomFor_or (.inr hu0) ?_) | skip
 refine wpAny_bind (wpAny_specialOf hT F.slot_tuple_hash.lookup ?_)
 show wpAny _ _ (if (some (Value.builtin "tuple.__hash__") == some Value.none)=true then _ else _) Q E s
 rw[if_neg (by rw[beq_builtin_none];exact Bool.false_ne_true)]
 refine wpAny_bind (wpAny_specialOf hT F.slot_tuple_hash.lookup ?_)
 show wpAny _ _ (callSpecialIfBoundUnlessNone? (.ref a) "__hash__" _ >>= _) Q E s
 refine wpAny_bind (wpAny_callSpecialIfBoundUnlessNone?_slot hT F.slot_tuple_hash (wpAny_call_entry F.slot_tuple_hash hT F.entry_tuple_hash ?_ (F.args_tuple_hash_1 _)))
 show wpAny _ _ (Builtin.Tuple.tupleItemsOf (.ref a) >>= _) _ _ s
 refine wpAny_bind (wpAny_tupleItemsOf ho hd ?_)
 refine wpAny_bind ?_
 rw[←Array.forIn_toList]
 refine wpAny_forIn_list _
  (fun rest (b:Array Int) s'=>∃done left,ks=done++left/\NItems P w s.heap left rest/\b.toList=done.map (niHash P w)/\s' = { s with toks:=s.toks+(done.map niDraws).sum })
  _ ?_ ?_ _ _ ⟨[],ks,rfl,hi,rfl,rfl⟩
 · rintro x rest b s' ⟨done,left,rfl,hl,hb,rfl⟩
   cases hl with
   | @cons k _ ks' _ h1 hl'=>
    refine wpAny_bind (NItem.hash (i:=k) (show A.units+1<cLine by omega) h1 ?_)
    first
     | exact wpAny_pure ⟨done++[k],ks',by simp,hl',by simp[hb],by simp[Nat.add_assoc]⟩
     | exact wpAny_bind (wpAny_pure (wpAny_pure ⟨done++[k],ks',by simp,hl',by simp[hb],by simp[Nat.add_assoc]⟩))
 · rintro b s' ⟨done,left,rfl,hl,hb,rfl⟩
   cases hl
   rw[List.append_nil]at h
   show wpAny _ _ (retInt (Builtin.Tuple.tupleHashOf b.toList)) _ _ _
   rw[hb]
   refine wpAny_ret_mkInt ?_
   generalize hz:Builtin.Tuple.tupleHashOf (done.map (niHash P w))=z at h ⊢
   show wpAny _ _ (if (decide (-(2:Int) ^ 63<=z) && decide (z<2 ^ 63))=true then _ else _) Q E _
   unfold nkHash reduceHash at h
   rw[hz]at h
   by_cases hr:(decide (-(2:Int) ^ 63<=z) && decide (z<2 ^ 63))=true
   · rw[if_pos hr]
     rw[if_pos hr]at h
     exact wpAny_pure (by simpa [Nat.add_assoc,nkDraws]using h)
   · rw[if_neg hr]
     rw[if_neg hr]at h
     exact wpAny_bind (wpAny_rule (wpAny_pure (by simpa [Nat.add_assoc,nkDraws]using h)))
theorem nest_eqTree{x y:List NI}{a b:Addr}{R:PySem.Fin->Shared->Prop}(hu:A.units<cLine)(hx:NKey P w s.heap x a)(hy:NKey P w s.heap y b)(h:R (.done (.ret (.bool (decide (x=y))))) s) :
 wpAny (model P w) A (Builtin.«tuple.__eq__» ⟨[.ref a,.ref b],[]⟩) R E s:=by
 have hTb:=hy.typeIs
 obtain⟨oa,xs,na,hoa,_,hda,hia⟩:=hx
 obtain⟨ob,ys,nb,hob,_,hdb,hib⟩:=hy
 show wpAny _ _ (isInstance (.ref b) (.type "tuple") >>= _) _ _ s
 refine wpAny_bind (wpAny_isInstance hTb isSubtype_tuple_tuple ?_)
 simp only[Bool.not_true,Bool.false_eq_true,if_false]
 refine wpAny_bind (wpAny_tupleItemsOf hoa hda ?_)
 refine wpAny_bind (wpAny_tupleItemsOf hob hdb ?_)
 refine wpAny_bind ?_
 refine wpAny_forIn_list _
  (fun rest r s'=>r.1=none/\s'=s/\∃x' y' xs' ys',rest=List.zip xs' ys'/\NItems P w s.heap x' xs'/\NItems P w s.heap y' ys'/\decide (x'=y')=decide (x=y)/\(xs'.length == ys'.length)=(xs.size == ys.size))
  _ ?_ ?_ _ _ ⟨rfl,rfl,x,y,xs.toList,ys.toList,rfl,hia,hib,rfl,by simp⟩
 · rintro⟨u,v⟩ rest r s' ⟨hr,rfl,x',y',xs',ys',hz,hx',hy',hdec,hlen⟩
   cases hx' with
   | nil=>simp at hz
   | @cons k1 u' x'' xs'' h1 hx''=>
    cases hy' with
    | nil=>simp at hz
    | @cons k2 v' y'' ys'' h2 hy''=>
     simp only[List.zip_cons_cons,List.cons.injEq,Prod.mk.injEq]at hz
     obtain⟨⟨rfl,rfl⟩,rfl⟩:=hz
     refine wpAny_bind (NItem.eq (i:=k1) (j:=k2) hu h1 h2 ?_)
     by_cases hk:k1=k2
     · subst hk
       rw[decide_eq_true rfl]
       simp only[Bool.not_true,Bool.false_eq_true,if_false]
       refine wpAny_pure ⟨rfl,rfl,x'',y'',xs'',ys'',rfl,hx'',hy'',?_,by simpa using hlen⟩
       rw[←hdec]
       by_cases hxy:x''=y''
       · simp[hxy]
       · simp[hxy]
     · rw[decide_eq_false hk]
       simp only[Bool.not_false,if_true]
       have hf:decide (x=y)=false:=by rw[←hdec];simp[hk]
       rw[hf]at h
       exact wpAny_bind (wpAny_pure (wpAny_pure (wpAny_pure h)))
 · rintro⟨r1,r2⟩ s' ⟨hr,rfl,x',y',xs',ys',hz,hx',hy',hdec,hlen⟩
   simp only at hr
   subst hr
   refine wpAny_pure ?_
   have hfin:(xs.size == ys.size)=decide (x=y):=by
    rw[←hdec,←hlen]
    cases hx' with
    | nil=>
     cases hy' with
     | nil=>simp
     | cons _ _=>simp
    | cons _ _=>
     cases hy' with
     | nil=>simp
     | cons _ _=>simp at hz
   show R (.done (.ret (.bool (xs.size == ys.size)))) s'
   rw[hfin];exact h
theorem nest_eqBool{x y:List NI}{a b:Addr}{Q:Bool->Shared->Prop}(hu:A.units+8<cLine)(hx:NKey P w s.heap x a)(hy:NKey P w s.heap y b)(h:Q (decide (x=y)) s) :
 wpAny (model P w) A (eqBool (.ref a) (.ref b)) Q E s:=by
 unfold eqBool
 try with_reducible refine wpAny_holding ?_
 show wpAny _ _ (if (Value.ref a == Value.ref b)=true then _ else _) Q E s
 by_cases hab:(Value.ref a == Value.ref b)=true
 · rw[if_pos hab]
   have e:a=b:=by have:=eq_of_beq hab;injection this
   subst e
   obtain rfl:=hx.inj hy
   exact wpAny_bind (wpAny_rule (wpAny_pure (by simpa using h)))
 · rw[if_neg hab]
   exact wpAny_bind (wpAny_richCompare_same_room (op:=.Eq) hx.typeIs hy.typeIs F.slot_tuple_eq
    (wpAny_call_entry F.slot_tuple_eq hx.typeIs F.entry_tuple_eq (nest_eqTree (show A.units+1<cLine by omega) hx hy ⟨_,rfl,(fun e=>nomatch e),wpAny_truthy_bool h⟩) (F.args_tuple_eq_2 _ _)) (by omega))
theorem nest_quiet0{M:Model}{ls:List Key}{a:Addr}{n:Nat}{Q:Bool->Shared->Prop}(hk:IsTupleKey (mixKind P w) s.heap ls a)(h:Q true s):wpAny M A (eqIsQuiet (n+1) (.ref a)) Q E s:=by
 have hT:=hk.typeIs
 obtain⟨o,its,m,ho,_,hd,hi⟩:=hk
 unfold eqIsQuiet
 refine wpAny_bind (wpAny_specialOf hT F.slot_tuple_eq.lookup ?_)
 show wpAny _ _ (isInstance (.ref a) (.type "tuple") >>= _) _ _ s
 refine wpAny_bind (wpAny_isInstance hT isSubtype_tuple_tuple ?_)
 simp only[Bool.not_true,Bool.false_eq_true,if_false]
 refine wpAny_bind (wpAny_seqItems ho hd ?_)
 refine wpAny_bind ?_
 show wpAny _ _ (forIn its _ _) _ _ s
 rw[←Array.forIn_toList]
 refine wpAny_forIn_list _ (fun rest r s'=>r.1=none/\s'=s/\∀v∈rest,carriedByValue v=true) _ ?_ ?_ _ _ ⟨rfl,rfl,hi.byValue⟩
 · rintro v rest r s' ⟨hr,rfl,hall⟩
   rw[eqIsQuiet_byValue _ (hall v List.mem_cons_self)]
   refine wpAny_bind (wpAny_pure ?_)
   simp only[Bool.not_true,Bool.false_eq_true,if_false]
   exact wpAny_pure ⟨rfl,rfl,fun u hu'=>hall u (List.mem_cons_of_mem _ hu')⟩
 · rintro⟨r1,r2⟩ s' ⟨hr,rfl,_⟩
   simp only at hr
   subst hr
   exact wpAny_pure h
theorem nest_quiet{M:Model}{ks:List NI}{a:Addr}{Q:Bool->Shared->Prop}(hk:NKey P w s.heap ks a)(h:Q true s):wpAny M A (eqIsQuiet 8 (.ref a)) Q E s:=by
 have hT:=hk.typeIs
 obtain⟨o,its,m,ho,_,hd,hi⟩:=hk
 unfold eqIsQuiet
 refine wpAny_bind (wpAny_specialOf hT F.slot_tuple_eq.lookup ?_)
 show wpAny _ _ (isInstance (.ref a) (.type "tuple") >>= _) _ _ s
 refine wpAny_bind (wpAny_isInstance hT isSubtype_tuple_tuple ?_)
 simp only[Bool.not_true,Bool.false_eq_true,if_false]
 refine wpAny_bind (wpAny_seqItems ho hd ?_)
 refine wpAny_bind ?_
 show wpAny _ _ (forIn its _ _) _ _ s
 rw[←Array.forIn_toList]
 refine wpAny_forIn_list _ (fun rest r s'=>r.1=none/\s'=s/\∃ls,NItems P w s.heap ls rest) _ ?_ ?_ _ _ ⟨rfl,rfl,ks,hi⟩
 · rintro v rest r s' ⟨hr,rfl,ls,hls⟩
   cases hls with
   | @cons i _ ls' _ h1 h2=>
    have fin:∀{R:Bool->Shared->Prop},R true s'->wpAny M A (eqIsQuiet 7 v) R E s':=fun {R} q=>by
     cases i with
     | inl k=>
      rw[eqIsQuiet_byValue _ ((mixKind P w).byValue k v h1)]
      exact wpAny_pure q
     | inr l=>
      obtain⟨b,rfl,hb⟩:=h1
      exact nest_quiet0 hb q
    refine wpAny_bind (fin ?_)
    simp only[Bool.not_true,Bool.false_eq_true,if_false]
    exact wpAny_pure ⟨rfl,rfl,ls',h2⟩
 · rintro⟨r1,r2⟩ s' ⟨hr,rfl,_⟩
   simp only at hr
   subst hr
   exact wpAny_pure h
end
noncomputable def nestKind(P:Program)(w:World):HeapKind P w (List NI) where
 is:=NKey P w
 hash:=nkHash P w
 draws:=nkDraws
 room:=fun A=>A.units+8<cLine
 inj:=fun a b=>a.inj b
 keeps:=fun x ho hd hs=>x.keeps ho hd hs
 pyHash:=fun hu hk h=>nest_hash hu hk h
 eqBool:=fun hu hx hy h=>nest_eqBool hu hx hy h
 quiet:=fun hk h=>nest_quiet hk h
theorem nestKind_room{P:Program}{w:World}{A:Around}(hu:A.units+64<cLine):(nestKind P w).room A.in1:=show A.units+1+8<cLine by omega
end L2
namespace L2
open PySem PySem.Spec PyProof.Rows
set_option genInjectivity true in
inductive V where
 | non | bl (b:Bool) | int (i:Int) | str (x:Str) | byt (b:Array UInt8) | flt (b:UInt64) | ref (a:Addr) | ty (n:String)
 deriving DecidableEq
noncomputable def RelV:V->Value->Prop
 | .non,u=>u=Value.none
 | .bl b,u=>u=Value.bool b
 | .int i,u=>∃t,u=Value.int i t
 | .str x,u=>∃t,u=Value.str x t
 | .byt b,u=>∃t,u=Value.bytes b t
 | .flt b,u=>∃t,u=Value.float b t
 | .ref a,u=>u=Value.ref a
 | .ty n,u=>u=Value.type n
noncomputable abbrev Vals:List V->List Value->Prop:=Paired RelV
theorem Vals.length{xs:List V}{us:List Value}(r:Vals xs us):xs.length=us.length:=Paired.length r
theorem Vals.get:∀{xs:List V} {us:List Value} {i:Nat} {x:V},Vals xs us->xs[i]? = some x->∃u,us[i]? = some u/\RelV x u
 | _,_,_,_,.nil,e=>by simp at e
 | _,_,0,_,.cons r _,e=>by simp at e;subst e;exact⟨_,rfl,r⟩
 | _,_,i+1,x,.cons _ t,e=>by
  obtain⟨u,h1,h2⟩:=Vals.get (i:=i) (x:=x) t (by simpa using e)
  exact⟨u,by simpa using h1,h2⟩
theorem Vals.append:∀{xs ys:List V} {us ws:List Value},Vals xs us->Vals ys ws->Vals (xs++ys) (us++ws)
 | _,_,_,_,.nil,s=>s
 | _,_,_,_,.cons r t,s=>.cons r (Vals.append t s)
theorem Vals.take:∀{xs:List V} {us:List Value} (n:Nat),Vals xs us->Vals (xs.take n) (us.take n)
 | _,_,0,_=>.nil
 | _,_,_+1,.nil=>.nil
 | _,_,n+1,.cons r t=>.cons r (Vals.take n t)
theorem Vals.drop:∀{xs:List V} {us:List Value} (n:Nat),Vals xs us->Vals (xs.drop n) (us.drop n)
 | _,_,0,r=>r
 | _,_,_+1,.nil=>.nil
 | _,_,n+1,.cons _ t=>Vals.drop n t
noncomputable def RelO:Option V->Option Value->Prop
 | some v,some u=>RelV v u
 | none,none=>True
 | _,_=>False
noncomputable def KV{κ:Type}:List (κ×V)->List (κ×Value)->Prop:=Paired fun(p:κ×V) (q:κ×Value)=>p.1=q.1/\RelV p.2 q.2
noncomputable def kV:Key->V
 | .inl i=>.int i
 | .inr x=>.str x
inductive HO where
 | lst (xs:List V)
 | tup (xs:List V)
 | dK (kvs:List (Key×V)) | dT (kvs:List (List NI×V))
 | set (S:Int->Bool) (n:Nat)
 | ins (C dx:Addr) (fs:List (Str×V))
 | own (x:Addr)
 | xd (fs:List (Str×V))
 | met (f x:Addr)
 | rng (lo hi:Int)
 | frz (o:Obj) (u:HO)
 | tbl (ps:Array Value)
 | ext (φ:Heap->Prop)
noncomputable abbrev Hp:=Addr->Option HO
noncomputable def upd(H:Hp)(a:Addr)(o:HO):Hp:=fun b=>if b=a then some o else H b
theorem upd_same{H:Hp}{a:Addr}{o:HO}:upd H a o a=some o:=by unfold upd;rw[if_pos rfl]
theorem upd_ne{H:Hp}{a b:Addr}{o:HO}(h:b≠a):upd H a o b=H b:=by unfold upd;rw[if_neg h]
theorem upd_upd{H:Hp}{a:Addr}{o u:HO}:upd (upd H a o) a u=upd H a u:=by
 funext b;unfold upd;split<;>rfl
theorem ne_of{H:Hp}{a b:Addr}{o u:HO}(h:H a=some o)(h':H b=some u)(d:o≠u):a≠b:=by
 intro e;subst e;rw[h]at h';exact d (Option.some.inj h')
theorem ne_of_none{H:Hp}{a b:Addr}{o:HO}(h:H a=some o)(h':H b=none):a≠b:=by
 intro e;subst e;rw[h]at h';cases h'
noncomputable def NV(H:Hp):NI->V->Prop
 | .inl k,v=>v=kV k
 | .inr ls,v=>∃b,v = .ref b/\H b=some (.tup (ls.map kV))
noncomputable abbrev NVs (H:Hp):List NI->List V->Prop:=Paired (NV H)
noncomputable def NAt(H:Hp)(ks:List NI)(a:Addr):Prop:=∃vs,H a=some (.tup vs)/\NVs H ks vs
theorem paired_mapP{α β:Type}{F G:α->β->Prop}:∀{l₁:List α} {l₂:List β},Paired F l₁ l₂->(∀a b,F a b->G a b)->Paired G l₁ l₂
 | _,_,.nil,_=>.nil
 | _,_,.cons r t,f=>.cons (f _ _ r) (paired_mapP t f)
theorem NAt.keeps{H H':Hp}{ks:List NI}{a:Addr}(x:NAt H ks a)(ht:∀b xs,H b=some (.tup xs)->H' b=some (.tup xs)):NAt H' ks a:=by
 obtain⟨vs,e,r⟩:=x
 refine⟨vs,ht _ _ e,paired_mapP r fun i v z=>?_⟩
 cases i with
 | inl k=>exact z
 | inr l=>
  obtain⟨b,e1,e2⟩:=z
  exact⟨b,e1,ht _ _ e2⟩
section
variable (P:Program) (w:World)
noncomputable def ObjOk(H:Hp)(h:Heap)(a:Addr):HO->Prop
 | .lst xs=>xs.length<=sizeLine/\∃(its:List Value) (n:Nat),Vals xs its/\h.get? a=some { cls:=.type "list",data:=.seq its.toArray n }
 | .tup xs=>xs.length<=sizeLine/\∃its:List Value,Vals xs its/\IsTup h a its.toArray
 | .dK kvs=>kvs.length<=sizeLine/\(a == sysModules)=false/\∃vs,KV kvs vs/\h.DictOf (mixKind P w) a vs
 | .dT kvs=>kvs.length<=sizeLine/\(a == sysModules)=false/\∃xs:List (List NI×Addr×Value),
  Paired (fun(p:List NI×V) (q:List NI×Addr×Value)=>p.1=q.1/\NAt H p.1 q.2.1/\RelV p.2 q.2.2) kvs xs /\
  ∃o es ep,h.get? a=some o/\o.ExactDict/\o.data = .dict es ep/\es.toList=xs.map (entryOfKey (nestKind P w))/\(xs.map (·.1)).Nodup
 | .set S n=>h.SetOf (intKind P w) a S n
 | .ins C dx fs=>H dx=some (.own a)/\fs.length<=1000/\dx≠a/\h.get? a=some (PySem.W.instObj C dx) /\
  ∃mA,h.Ns1 dx mA/\(∀f,RelO (fs.lookup f) (mA f))/\PySem.Within mA (fs.map (·.1))
 | .own _=>∃o,h.get? a=some o
 | .xd fs=>∃mA,h.Ns1 a mA/\∀f,RelO (fs.lookup f) (mA f)
 | .rng lo hi=>∃t u v,h.get? a=some { cls:=.type "range",data:=.fields #[.int lo t,.int hi u,.int 1 v] }
 | .frz o u=>h.get? a=some o/\ObjOk H h a u
 | .tbl ps=>h.get? a=some { cls:=.none,data:=.fields ps }
 | .met f x=>h.get? a=some (PySem.W.methodObj (.ref f) (.ref x))
 | .ext φ=>φ h/\(∃o,h.get? a=some o)/\∀h1 h2:Heap,φ h1->(∀o,h1.get? a=some o->h2.get? a=some o)->φ h2
noncomputable def HOk(H:Hp)(h:Heap):Prop:=∀a o,H a=some o->ObjOk P w H h a o
end
section
variable {P:Program} {w:World} {H H':Hp} {h h':Heap} {a:Addr} {o:HO}
theorem ObjOk.lt(x:ObjOk P w H h a o):a<h.objs.size:=by
 cases o with
 | lst xs=>obtain⟨_,_,_,_,e⟩:=x;exact Heap.lt_size e
 | tup xs=>obtain⟨_,_,_,p⟩:=x;exact p.lt
 | dK kvs=>obtain⟨_,_,_,_,o,_,_,e,_⟩:=x;exact Heap.lt_size e
 | dT kvs=>obtain⟨_,_,_,_,o,_,_,e,_⟩:=x;exact Heap.lt_size e
 | set S n=>obtain⟨o,_,_,_,e,_⟩:=x;exact Heap.lt_size e
 | ins C dx fs=>obtain⟨_,_,_,e,_⟩:=x;exact Heap.lt_size e
 | own y=>obtain⟨_,e⟩:=x;exact Heap.lt_size e
 | xd fs=>obtain⟨_,⟨_,_,_,e,_⟩,_⟩:=x;exact Heap.lt_size e
 | rng lo hi=>obtain⟨_,_,_,e⟩:=x;exact Heap.lt_size e
 | frz ob u=>obtain⟨e,_⟩:=x;exact Heap.lt_size e
 | tbl ps=>exact Heap.lt_size (show h.get? a=some _ from x)
 | met f y=>exact Heap.lt_size (show h.get? a=some _ from x)
 | ext φ=>obtain⟨_,⟨_,e⟩,_⟩:=x;exact Heap.lt_size e
theorem Paired.mapP{α β:Type}{F G:α->β->Prop}:∀{l₁:List α} {l₂:List β},Paired F l₁ l₂->(∀a b,F a b->G a b)->Paired G l₁ l₂
 | _,_,.nil,_=>.nil
 | _,_,.cons r t,f=>.cons (f _ _ r) (Paired.mapP t f)
theorem ObjOk.stay(x:ObjOk P w H h a o)(k:∀b u,(b=a\/H b=some (.own a))->h.get? b=some u->h'.get? b=some u)
 (ho:∀b,H b=some (.own a)->H' b=some (.own a)) (ht:∀b xs,H b=some (.tup xs)->H' b=some (.tup xs)):ObjOk P w H' h' a o:=by
 induction o with
 | lst xs=>obtain⟨z,its,n,r,e⟩:=x;exact⟨z,its,n,r,k _ _ (.inl rfl) e⟩
 | tup xs=>obtain⟨z,its,r,ob,e,c⟩:=x;exact⟨z,its,r,ob,k _ _ (.inl rfl) e,c⟩
 | dK kvs=>obtain⟨z,y,vs,r,ob,es,ep,e,c⟩:=x;exact⟨z,y,vs,r,ob,es,ep,k _ _ (.inl rfl) e,c⟩
 | dT kvs=>
  obtain⟨z,y,xs,r,ob,es,ep,e,c⟩:=x
  exact⟨z,y,xs,Paired.mapP r fun p q z=>⟨z.1,z.2.1.keeps ht,z.2.2⟩,ob,es,ep,k _ _ (.inl rfl) e,c⟩
 | set S n=>obtain⟨ob,es,ep,t,e,c⟩:=x;exact⟨ob,es,ep,t,k _ _ (.inl rfl) e,c⟩
 | ins C dx fs=>
  obtain⟨d,z,ne,e,mA,⟨od,es,ep,e2,c⟩,r⟩:=x
  exact⟨ho _ d,z,ne,k _ _ (.inl rfl) e,mA,⟨od,es,ep,k _ _ (.inr d) e2,c⟩,r⟩
 | own y=>obtain⟨ob,e⟩:=x;exact⟨ob,k _ _ (.inl rfl) e⟩
 | xd fs=>obtain⟨mA,⟨od,es,ep,e,c⟩,r⟩:=x;exact⟨mA,⟨od,es,ep,k _ _ (.inl rfl) e,c⟩,r⟩
 | rng lo hi=>obtain⟨t,u,v,e⟩:=x;exact⟨t,u,v,k _ _ (.inl rfl) e⟩
 | frz ob u ih=>obtain⟨e,q⟩:=x;exact⟨k _ _ (.inl rfl) e,ih q⟩
 | tbl ps=>
  have e:h.get? a=some { cls:=.none,data:=.fields ps }:=x
  show h'.get? a=some { cls:=.none,data:=.fields ps }
  exact k a _ (.inl rfl) e
 | met f y=>
  have e:h.get? a=some (PySem.W.methodObj (.ref f) (.ref y)):=x
  show h'.get? a=some (PySem.W.methodObj (.ref f) (.ref y))
  exact k a _ (.inl rfl) e
 | ext φ=>obtain⟨p,⟨o,e⟩,st⟩:=x;exact⟨st _ _ p fun o q=>k _ _ (.inl rfl) q,⟨o,k _ _ (.inl rfl) e⟩,st⟩
theorem HOk.lt(x:HOk P w H h)(e:H a=some o):a<h.objs.size:=(x a o e).lt
theorem HOk.fresh(x:HOk P w H h)(e:h.objs.size<=a):H a=none:=by
 cases q:H a with
 | none=>rfl
 | some u=>exact absurd (Nat.lt_of_lt_of_le (x.lt q) e) (Nat.lt_irrefl _)
theorem HOk.kept(x:HOk P w H h)(k:∀b u,h.get? b=some u->h'.get? b=some u):HOk P w H h':=fun a o e=>
 (x a o e).stay (fun b u _ q=>k b u q) (fun _ q=>q) fun _ _ q=>q
theorem HOk.laid(x:HOk P w H h)(k:∀b u,h.get? b=some u->h'.get? b=some u)(hp:h.objs.size<=a)(new:ObjOk P w (upd H a o) h' a o):HOk P w (upd H a o) h':=fun b u e=>by
 have hn:=x.fresh hp
 by_cases hb:b=a
 · subst hb;rw[upd_same]at e;cases e;exact new
 · rw[upd_ne hb]at e
   exact(x b u e).stay (fun c v _ q=>k c v q) (fun c q=>by rw[upd_ne (ne_of_none q hn)];exact q) fun c xs q=>by rw[upd_ne (ne_of_none q hn)];exact q
end
noncomputable def Rd(H:Hp)(a:Addr)(u:HO):Prop:=H a=some u\/∃o,H a=some (.frz o u)
theorem Rd.ok{P:Program}{w:World}{H:Hp}{h:Heap}{a:Addr}{u:HO}(r:Rd H a u)(x:HOk P w H h):ObjOk P w H h a u:=by
 rcases r with r | ⟨o,r⟩
 · exact x a u r
 · obtain⟨_,q⟩:=x a _ r
   exact q
noncomputable def Mut:Option HO->Prop
 | some (.lst _)=>True
 | some (.dK _)=>True
 | some (.dT _)=>True
 | some (.set _ _)=>True
 | some (.ins _ _ _)=>True
 | some (.ext _)=>True
 | _=>False
section
variable {P:Program} {w:World} {H:Hp} {h h':Heap} {x e:Addr} {o':HO}
theorem HOk.write(ok:HOk P w H h)(mu:Mut (H x))(he:e=x\/H e=some (.own x))(k:∀b u,b≠e->h.get? b=some u->h'.get? b=some u)(heo:∃u,h'.get? e=some u)
 (new:ObjOk P w (upd H x o') h' x o'):HOk P w (upd H x o') h':=fun b u q=>by
 have nown:∀c y,H c=some (.own y)->c≠x:=fun c y r z=>by subst z;rw[r]at mu;exact mu
 have ntup:∀c xs,H c=some (.tup xs)->c≠x:=fun c xs r z=>by subst z;rw[r]at mu;exact mu
 by_cases hb:b=x
 · subst hb;rw[upd_same]at q;cases q;exact new
 · rw[upd_ne hb]at q
   by_cases hbe:b=e
   · have q':H b=some (.own x):=by
      rcases he with z | z
      · exact absurd (hbe.trans z) hb
      · rw[hbe];exact z
     rw[q]at q';cases q'
     obtain⟨v,hv⟩:=heo
     exact⟨v,by rw[hbe];exact hv⟩
   · refine(ok b u q).stay (fun c v hc r=>k c v ?_ r) (fun c r=>by rw[upd_ne (nown c b r)];exact r) fun c xs r=>by rw[upd_ne (ntup c xs r)];exact r
     rcases hc with rfl | hc
     · exact hbe
     · rintro rfl
       rcases he with z | z
       · exact nown c b hc z
       · rw[hc]at z;cases z;exact hb rfl
end
structure Un(fs ex:List Addr)(H H':Hp)(h h':Heap):Prop where
 keep:∀b o,h.get? b=some o->H b=none->b∉fs->b∉ex->h'.get? b=some o
 slot:∀b o,h.get? b=some o->H b=none->b∈fs->b∉ex->∃sl,h'.get? b=some { o with slots:=sl }
 free:∀b o,h.get? b=some o->H b=none->b∉ex->H' b=none
 there:∀b o,h.get? b=some o->b∉ex->∃o',h'.get? b=some o'
 tups:∀b xs,H b=some (.tup xs)->H' b=some (.tup xs)
 frzs:∀b o u,H b=some (.frz o u)->H' b=some (.frz o u)
 tbls:∀b ps,H b=some (.tbl ps)->∃more,H' b=some (.tbl (ps++more))
section
variable {fs fs' ex ex':List Addr} {H H1 H2:Hp} {h h1 h2 h':Heap} {a x e:Addr} {o:HO}
theorem Un.any(u:Un fs ex H H1 h h1){b:Addr}{ob:Obj}(q:h.get? b=some ob)(n:H b=none)(hx:b∉ex):∃sl,h1.get? b=some { ob with slots:=sl }:=by
 by_cases hb:b∈fs
 · exact u.slot b ob q n hb hx
 · exact⟨ob.slots,u.keep b ob q n hb hx⟩
theorem Un.trans(a:Un fs ex H H1 h h1)(b:Un fs ex H1 H2 h1 h2):Un fs ex H H2 h h2 where
 keep:=fun c ob q n hc hx=>b.keep c ob (a.keep c ob q n hc hx) (a.free c ob q n hx) hc hx
 slot:=fun c ob q n hc hx=>by
  obtain⟨sl,e1⟩:=a.slot c ob q n hc hx
  obtain⟨sl',e2⟩:=b.slot c _ e1 (a.free c ob q n hx) hc hx
  exact⟨sl',e2⟩
 free:=fun c ob q n hx=>by
  obtain⟨o',e1⟩:=a.there c ob q hx
  exact b.free c o' e1 (a.free c ob q n hx) hx
 there:=fun c ob q hx=>by
  obtain⟨o',e1⟩:=a.there c ob q hx
  exact b.there c o' e1 hx
 tups:=fun c xs q=>b.tups c xs (a.tups c xs q)
 frzs:=fun c ob xs q=>b.frzs c ob xs (a.frzs c ob xs q)
 tbls:=fun c ps q=>by
  obtain⟨m1,e1⟩:=a.tbls c ps q
  obtain⟨m2,e2⟩:=b.tbls c _ e1
  exact⟨m1++m2,by rw[e2,Array.append_assoc]⟩
theorem Un.kept(k:∀b u,h.get? b=some u->h'.get? b=some u):Un fs ex H H h h':=
 ⟨fun b ob q _ _ _=>k b ob q,fun b ob q _ _ _=>⟨ob.slots,k b ob q⟩,fun _ _ _ n _=>n,fun b ob q _=>⟨ob,k b ob q⟩,fun _ _ q=>q,fun _ _ _ q=>q,fun _ ps q=>⟨#[],by rw[q];simp⟩⟩
theorem Un.refl:Un fs ex H H h h:=Un.kept fun _ _ q=>q
theorem Un.laid(k:∀b u,h.get? b=some u->h'.get? b=some u)(hp:h.objs.size<=a)(hn:H a=none):Un fs ex H (upd H a o) h h' where
 keep:=fun b u q _ _ _=>k b u q
 slot:=fun b u q _ _ _=>⟨u.slots,k b u q⟩
 free:=fun b u q n _=>by rw[upd_ne (Nat.ne_of_lt (Nat.lt_of_lt_of_le (Heap.lt_size q) hp))];exact n
 there:=fun b u q _=>⟨u,k b u q⟩
 tups:=fun b xs q=>by rw[upd_ne (ne_of_none q hn)];exact q
 frzs:=fun b u xs q=>by rw[upd_ne (ne_of_none q hn)];exact q
 tbls:=fun b ps q=>⟨#[],by rw[upd_ne (ne_of_none q hn),q];simp⟩
theorem Un.write(mu:Mut (H x))(he:e=x\/H e=some (.own x))(k:∀b u,b≠e->h.get? b=some u->h'.get? b=some u)(heo:∃u,h'.get? e=some u):Un fs ex H (upd H x o) h h':=by
 have hx:∀b,H b=none->b≠x:=fun b n z=>by subst z;rw[n]at mu;exact mu
 have hb:∀b,H b=none->b≠e:=fun b n z=>by
  subst z
  rcases he with r | r
  · exact hx b n r
  · rw[n]at r;cases r
 have hm:∀b u,H b=some u->¬Mut (some u)->b≠x:=fun b u q nm z=>by subst z;rw[q]at mu;exact nm mu
 refine⟨fun b u q n _ _=>k b u (hb b n) q,fun b u q n _ _=>⟨u.slots,k b u (hb b n) q⟩,fun b u q n _=>by rw[upd_ne (hx b n)];exact n,fun b u q _=>?_,
  fun b xs q=>by rw[upd_ne (hm b _ q fun z=>z)];exact q,fun b u xs q=>by rw[upd_ne (hm b _ q fun z=>z)];exact q,fun b ps q=>⟨#[],by rw[upd_ne (hm b _ q fun z=>z),q];simp⟩⟩
 by_cases hbe:b=e
 · subst hbe;exact heo
 · exact⟨u,k b u hbe q⟩
end
noncomputable def trk(h:Heap)(H:Hp):List Addr:=(List.range h.objs.size).filter fun a=>(H a).isSome
noncomputable def hidT(h:Heap)(H:Hp):Heap:=PySem.W.hideAll h (trk h H)
theorem hidT_size(h:Heap)(H:Hp):(hidT h H).objs.size=h.objs.size:=PySem.W.hideAll_size _ _
theorem hidT_get{h:Heap}{H:Hp}{b:Addr}{o:Obj}(e:h.get? b=some o)(n:H b=none):(hidT h H).get? b=some o:=
 PySem.W.hideAll_get _ e fun hm=>by
  have q:(H b).isSome=true:=(List.mem_filter.mp hm).2
  rw[n]at q;simp at q
theorem of_hidT{h:Heap}{H:Hp}{b:Addr}{o:Obj}(e:(hidT h H).get? b=some o):h.get? b=some o/\H b=none:=by
 have e':h.get? b=some o:=PySem.W.of_hideAll (trk h H) e
 refine⟨e',?_⟩
 cases q:H b with
 | none=>rfl
 | some x=>
  have hm:b∈trk h H:=List.mem_filter.mpr ⟨List.mem_range.mpr (Heap.lt_size e'),by simp[q]⟩
  have z:(hidT h H).get? b=none:=PySem.W.hideAll_none (trk h H) hm
  rw[z]at e;cases e
end L2
namespace L2
open PySem PySem.Spec PyProof.Rows
structure Mod(K:PySem.W.Frag)(mg:Str->Option Value)(base:Heap):Prop where
 kin:K.In base
 glob:base.Ns mainGlobals mg
 blt:∃mb,base.Ns builtinsNs mb/\∀x:Str,x≠"__name__"->mb x=bootBuiltins x
 nolimit:base.NoLimit
structure Cx where
 prog:Program
 w:World
 K:PySem.W.Frag
 mg:Str->Option Value
 base:Heap
 A:Around
 N:List Str
 s₀:Shared
 H₀:Hp
 env:Env
 outer:List Env
 stack:List Env
 ex:List Addr
 fn:Str->Bool
 calm:Bool
 pn:List (Addr×Obj)
 xe:Value->Shared->Prop
noncomputable def frs(l:List Env):List Addr:=l.filterMap (·.frame)
noncomputable abbrev Cx.fs (X:Cx):List Addr:=frs X.outer
noncomputable def Vis(sc:Scope)(x:Str):Prop:=sc.names.lookup x=some .local\/sc.names.lookup x=some .cell\/sc.names.lookup x=some .free
noncomputable def Loc(sc:Scope)(x:Str):Prop:=sc.names.lookup x=some .local\/sc.names.lookup x=some .cell
noncomputable def Look(env:Env)(h:Heap)(m:Str->Option Value)(x:Str)(u:Value):Prop:=
 (env.kindOf x=some .local/\m x=some u)\/((env.kindOf x=some .cell\/env.kindOf x=some .free)/\∃c,env.cells.lookup x=some c/\h.IsCell c (some u))
structure Cx.Ok(X:Cx):Prop where
 mod:Mod X.K X.mg X.base
 kind:X.env.scope.kind = .function
 glob:X.env.globals=mainGlobals
 blt:X.env.builtins=builtinsNs
 above:X.s₀.heap.objs.size<=X.env.locals
 inj:∀x y c,X.env.cells.lookup x=some c->X.env.cells.lookup y=some c->x=y
 has:∀x,(X.env.kindOf x=some .cell\/X.env.kindOf x=some .free)->∃c,X.env.cells.lookup x=some c
 cab:∀x c,X.fn x=true->X.env.cells.lookup x=some c->X.s₀.heap.objs.size<=c
 hd:X.calm=true->X.A.handled=none
 frames:X.A.frames=some X.stack
 stk:X.stack=X.outer\/(X.stack=X.env::X.outer/\X.env.frame=some X.env.locals)
 exf:∀b∈X.ex,b≠X.env.locals/\∀x c,X.env.cells.lookup x=some c->c≠b
 bs:∀b o,X.base.get? b=some o->X.s₀.heap.get? b=some o/\X.H₀ b=none
 bsz:X.base.objs.size<=X.s₀.heap.objs.size
 noex:∀b o,X.base.get? b=some o->b∉X.ex
 exfs:∀b∈X.ex,b∉X.fs
 funs:X.s₀.heap.FunFrames X.base X.outer
 frf:∀b∈X.fs,X.H₀ b=none
structure Inv(X:Cx)(pins:List (Addr×Obj))(σ:List (Option V))(H:Hp)(s:Shared):Prop where
 ok:X.Ok
 os:s.os=X.s₀.os
 bare:AllBare s.gens
 base:Un X.fs X.ex X.H₀ H X.s₀.heap s.heap
 loc:∃m,s.heap.Ns X.env.locals m/\∀(i:Nat) (x:Str) (v:V),X.N[i]? = some x->σ[i]? = some (some v)->Vis X.env.scope x->∃u,RelV v u/\Look X.env s.heap m x u
 cell:∀x c,X.env.cells.lookup x=some c->∃v,s.heap.IsCell c v
 free:H X.env.locals=none
 freeC:∀x c,X.env.cells.lookup x=some c->H c=none
 pin:∀p∈X.pn++pins,s.heap.get? p.1=some p.2/\H p.1=none/\p.1≠X.env.locals/\p.1∉X.fs/\∀v,p.2.data≠.cell v
 hok:HOk X.prog X.w H s.heap
 len:σ.length=X.N.length
section
variable {X:Cx} {pins:List (Addr×Obj)} {σ:List (Option V)} {H H':Hp} {s:Shared} {h':Heap}
theorem Cx.Ok.nofr(ok:X.Ok){b:Addr}{o:Obj}(e:X.base.get? b=some o):b∉X.fs:=fun hb=>by
 have:=(ok.funs.mem hb).1
 rw[e]at this;cases this
theorem Inv.bs(I:Inv X pins σ H s):∀b o,X.base.get? b=some o->s.heap.get? b=some o/\H b=none:=fun b o e=>
 ⟨I.base.keep b o (I.ok.bs b o e).1 (I.ok.bs b o e).2 (I.ok.nofr e) (I.ok.noex b o e),I.base.free b o (I.ok.bs b o e).1 (I.ok.bs b o e).2 (I.ok.noex b o e)⟩
theorem Inv.bk(I:Inv X pins σ H s):∀b o,X.base.get? b=some o->s.heap.get? b=some o:=fun b o e=>(I.bs b o e).1
theorem Inv.mod(I:Inv X pins σ H s):Mod X.K X.mg X.base:=I.ok.mod
theorem Inv.kIn(I:Inv X pins σ H s):X.K.In s.heap:=I.ok.mod.kin.keeps I.bk
theorem Inv.nolimit(I:Inv X pins σ H s):s.heap.NoLimit:=I.ok.mod.nolimit.keeps I.bk
theorem Inv.lt(I:Inv X pins σ H s):X.env.locals<s.heap.objs.size:=I.loc.elim fun _ zq483=>zq483.elim fun hn _=>hn.lt
theorem Inv.sz(I:Inv X pins σ H s):X.s₀.heap.objs.size<=s.heap.objs.size:=Nat.le_trans I.ok.above (Nat.le_of_lt I.lt)
theorem Inv.nofs(I:Inv X pins σ H s){a:Addr}(h:s.heap.objs.size<=a):a∉X.fs:=fun hb=>by
 obtain⟨_,o,ho,_⟩:=I.ok.funs.mem hb
 exact absurd (Nat.lt_of_lt_of_le (Heap.lt_size ho) (Nat.le_trans I.sz h)) (Nat.lt_irrefl _)
theorem Inv.cne(I:Inv X pins σ H s):∀x c,X.env.cells.lookup x=some c->c≠X.env.locals:=fun x c e z=>by
 obtain⟨v,o,ho,hd⟩:=I.cell x c e
 obtain⟨m,⟨o',es,ep,ho',hd',_⟩,_⟩:=I.loc
 rw[z,ho']at ho;cases ho;rw[hd']at hd;cases hd
theorem Inv.funs(I:Inv X pins σ H s):s.heap.FunFrames X.base X.outer:=by
 have all:∀(l:List Env),(∀b∈frs l,b∈X.fs)->X.s₀.heap.FunFrames X.base l->s.heap.FunFrames X.base l:=by
  intro l
  induction l with
  | nil=>intro _ _;trivial
  | cons env r ih=>
   intro hs hl
   obtain⟨hk,⟨L,o,hf,hn,ho,hd⟩,hr⟩:=hl
   have hL:L∈X.fs:=hs L (by unfold frs;rw[List.filterMap_cons,hf];exact List.mem_cons_self)
   obtain⟨sl,e⟩:=I.base.slot L o ho (I.ok.frf L hL) hL fun z=>I.ok.exfs L z hL
   exact⟨hk,⟨L,_,hf,hn,e,hd⟩,ih (fun b hb=>hs b (by unfold frs;rw[List.filterMap_cons,hf];exact List.mem_cons_of_mem _ hb)) hr⟩
 exact all X.outer (fun _ hb=>hb) I.ok.funs
theorem Inv.stack(I:Inv X pins σ H s):s.heap.FunFrames X.base X.stack:=by
 rcases I.ok.stk with e | ⟨e,hf⟩
 · rw[e];exact I.funs
 · rw[e]
   obtain⟨m,hn,_⟩:=I.loc
   refine .cons (by rw[I.ok.kind];decide) hf hn ?_ I.funs
   exact Heap.get?_none_of_le (Nat.le_trans I.ok.bsz I.ok.above)
theorem Inv.stkSub(I:Inv X pins σ H s):∀b∈frs X.stack,b∈X.env.locals::X.fs:=fun b hb=>by
 rcases I.ok.stk with e | ⟨e,hf⟩
 · rw[e]at hb;exact List.mem_cons_of_mem _ hb
 · rw[e]at hb
   unfold frs at hb
   rw[List.filterMap_cons,hf]at hb
   exact hb
theorem Inv.stkFree(I:Inv X pins σ H s):∀b∈frs X.stack,H b=none:=fun b hb=>by
 rcases List.mem_cons.mp (I.stkSub b hb) with e | hb
 · rw[e];exact I.free
 · obtain⟨_,o,ho,_⟩:=I.ok.funs.mem hb
   exact I.base.free b o ho (I.ok.frf b hb) fun z=>I.ok.exfs b z hb
theorem Inv.step{g':Array GenState}{t':Nat}{d':Drawn}{ch:List Addr}(I:Inv X pins σ H s)
 (hch:∀b∈ch,(b∈X.ex\/X.s₀.heap.objs.size<=b)/\b≠X.env.locals/\(∀x c,X.env.cells.lookup x=some c->c≠b)/\∀p∈X.pn++pins,p.1≠b)
 (keep:∀b o,b≠X.env.locals->b∉X.fs->b∉ch->s.heap.get? b=some o->H b=none->h'.get? b=some o)
 (slot:∀b o,b≠X.env.locals->b∈X.fs->b∉ch->s.heap.get? b=some o->H b=none->∃sl,h'.get? b=some { o with slots:=sl }) (free:∀b o,b∉ch->s.heap.get? b=some o->H b=none->H' b=none)
 (there:∀b o,b∉ch->s.heap.get? b=some o->∃o',h'.get? b=some o')
 (tups:∀b xs,H b=some (.tup xs)->H' b=some (.tup xs)) (frzs:∀b o u,H b=some (.frz o u)->H' b=some (.frz o u)) (tbls:∀b ps,H b=some (.tbl ps)->∃more,H' b=some (.tbl (ps++more)))
 (ns:∀m,s.heap.Ns X.env.locals m->h'.Ns X.env.locals m) (hok:HOk X.prog X.w H' h') (hg:AllBare g') :
 Inv X pins σ H' { s with heap:=h',gens:=g',drawn:=d',toks:=t' }:=by
 have neL:∀b o,X.s₀.heap.get? b=some o->b≠X.env.locals:=fun b o e=>Nat.ne_of_lt (Nat.lt_of_lt_of_le (Heap.lt_size e) I.ok.above)
 have neC:∀b o,X.s₀.heap.get? b=some o->b∉X.ex->b∉ch:=fun b o e hx hb=>by
  rcases(hch b hb).1 with z | z
  · exact hx z
  · exact absurd (Nat.lt_of_lt_of_le (Heap.lt_size e) z) (Nat.lt_irrefl _)
 have cellK:∀x c,X.env.cells.lookup x=some c->∀v,s.heap.IsCell c v->h'.IsCell c v:=fun x c e v zq1=>zq1.elim fun o zq2=>zq2.elim fun ho hd=>by
  have nch:c∉ch:=fun z=>(hch c z).2.2.1 x c e rfl
  by_cases hc:c∈X.fs
  · obtain⟨sl,q⟩:=slot c o (I.cne x c e) hc nch ho (I.freeC x c e)
    exact⟨_,q,hd⟩
  · exact⟨o,keep c o (I.cne x c e) hc nch ho (I.freeC x c e),hd⟩
 refine⟨I.ok,I.os,hg,⟨fun b o e n hb hx=>?_,fun b o e n hb hx=>?_,fun b o e n hx=>?_,fun b o e hx=>?_,fun b xs e=>tups b xs (I.base.tups b xs e),fun b o xs e=>frzs b o xs (I.base.frzs b o xs e),fun b ps e=>?_⟩,?_,fun x c e=>?_,?_,fun x c e=>?_,fun p hp=>?_,hok,I.len⟩
 · exact keep b o (neL b o e) hb (neC b o e hx) (I.base.keep b o e n hb hx) (I.base.free b o e n hx)
 · obtain⟨sl,e1⟩:=I.base.slot b o e n hb hx
   obtain⟨sl',e2⟩:=slot b _ (neL b o e) hb (neC b o e hx) e1 (I.base.free b o e n hx)
   exact⟨sl',e2⟩
 · obtain⟨o',e1⟩:=I.base.there b o e hx
   exact free b o' (neC b o e hx) e1 (I.base.free b o e n hx)
 · obtain⟨o',e1⟩:=I.base.there b o e hx
   exact there b o' (neC b o e hx) e1
 · obtain⟨m1,e1⟩:=I.base.tbls b ps e
   obtain⟨m2,e2⟩:=tbls b _ e1
   exact⟨m1++m2,by rw[e2,Array.append_assoc]⟩
 · obtain⟨m,hn,hl⟩:=I.loc
   refine⟨m,ns m hn,fun i x v e1 e2 e3=>?_⟩
   obtain⟨u,r,l⟩:=hl i x v e1 e2 e3
   refine⟨u,r,?_⟩
   rcases l with l | ⟨k,c,e,z⟩
   · exact .inl l
   · exact .inr ⟨k,c,e,cellK x c e _ z⟩
 · obtain⟨v,z⟩:=I.cell x c e
   exact⟨v,cellK x c e v z⟩
 · obtain⟨m,⟨o,_,_,ho,_⟩,_⟩:=I.loc
   exact free _ o (fun z=>(hch _ z).2.1 rfl) ho I.free
 · obtain⟨v,o,ho,hd⟩:=I.cell x c e
   exact free c o (fun z=>(hch c z).2.2.1 x c e rfl) ho (I.freeC x c e)
 · obtain⟨e,n,ne,nf,d⟩:=I.pin p hp
   have nch:p.1∉ch:=fun z=>(hch p.1 z).2.2.2 p hp rfl
   exact⟨keep p.1 p.2 ne nf nch e n,free p.1 p.2 nch e n,ne,nf,d⟩
theorem Inv.un{t':Nat}(I:Inv X pins σ H s)(u:Un X.fs [] H H' s.heap h')(hok:HOk X.prog X.w H' h'):Inv X pins σ H' { s with heap:=h',toks:=t' }:=by
 obtain⟨m,⟨o,es,ep,ho,r⟩,_⟩:=id I.loc
 obtain⟨sl,hL⟩:=u.any ho I.free (by simp)
 exact I.step (g':=s.gens) (d':=s.drawn) (ch:=[]) (fun _ z=>nomatch z) (fun b o _ hb _ e n=>u.keep b o e n hb (by simp)) (fun b o _ hb _ e n=>u.slot b o e n hb (by simp)) (fun b o _ e n=>u.free b o e n (by simp)) (fun b o _ e=>u.there b o e (by simp)) u.tups u.frzs u.tbls (fun m' hm=>by
  obtain⟨o',es',ep',ho',r'⟩:=hm
  rw[ho]at ho';cases ho'
  exact⟨_,es',ep',hL,r'⟩) hok I.bare
theorem Inv.call{g':Array GenState}{t':Nat}{d':Drawn}{ch:List Addr}(I:Inv X pins σ H s)(u:Un (frs X.stack) ch H H' s.heap h')(hok:HOk X.prog X.w H' h')(hg:AllBare g')
 (hch:∀b∈ch,(b∈X.ex\/X.s₀.heap.objs.size<=b)/\b≠X.env.locals/\(∀x c,X.env.cells.lookup x=some c->c≠b)/\∀p∈X.pn++pins,p.1≠b) :
 Inv X pins σ H' { s with heap:=h',gens:=g',drawn:=d',toks:=t' }:=by
 obtain⟨m,⟨o,es,ep,ho,r⟩,_⟩:=id I.loc
 obtain⟨sl,hL⟩:=u.any ho I.free fun z=>(hch _ z).2.1 rfl
 exact I.step (ch:=ch) hch (fun b o hL hb hc e n=>u.keep b o e n (fun z=>(List.mem_cons.mp (I.stkSub b z)).elim hL hb) hc) (fun b o _ _ hc e n=>u.any e n hc) (fun b o hc e n=>u.free b o e n hc) (fun b o hc e=>u.there b o e hc) u.tups u.frzs u.tbls (fun m' hm=>by
  obtain⟨o',es',ep',ho',r'⟩:=hm
  rw[ho]at ho';cases ho'
  exact⟨_,es',ep',hL,r'⟩) hok hg
theorem Inv.turned{t':Nat}{it:Addr}(I:Inv X pins σ H s)(k:∀b o,b≠it->s.heap.get? b=some o->h'.get? b=some o)(hn:H it=none)(hL:it≠X.env.locals)
 (h1:it∈X.ex\/X.s₀.heap.objs.size<=it) (h2:∀x c,X.env.cells.lookup x=some c->c≠it) (h3:∀p∈X.pn++pins,p.1≠it):Inv X pins σ H { s with heap:=h',toks:=t' }:=by
 have nit:∀b u,H b=some u->b≠it:=fun b u e z=>by rw[z,hn]at e;cases e
 refine I.step (g':=s.gens) (d':=s.drawn) (ch:=[it]) (fun b hb=>?_) (fun b o _ _ hc e _=>k b o (fun z=>hc (by simp[z])) e) (fun b o _ _ hc e _=>⟨o.slots,k b o (fun z=>hc (by simp[z])) e⟩) (fun _ _ _ _ n=>n)
  (fun b o hc e=>⟨o,k b o (fun z=>hc (by simp[z])) e⟩) (fun _ _ e=>e) (fun _ _ _ e=>e) (fun b ps e=>⟨#[],by rw[e];simp⟩) (fun m hm=>?_) (fun b u e=>?_) I.bare
 · have e:b=it:=by simpa using hb
   subst e
   exact⟨h1,hL,h2,h3⟩
 · obtain⟨o,es,ep,ho,r⟩:=hm
   exact⟨o,es,ep,k _ o (Ne.symm hL) ho,r⟩
 · refine(I.hok b u e).stay (fun c v hc q=>k c v ?_ q) (fun _ q=>q) fun _ _ q=>q
   rcases hc with z | z
   · rw[z];exact nit b u e
   · exact nit c _ z
theorem Inv.tok(I:Inv X pins σ H s)(t:Nat):Inv X pins σ H { s with toks:=t }:=I.un (h':=s.heap) (t':=t) Un.refl I.hok
theorem Inv.kept{t':Nat}(I:Inv X pins σ H s)(k:∀b u,s.heap.get? b=some u->h'.get? b=some u):Inv X pins σ H { s with heap:=h',toks:=t' }:=I.un (Un.kept k) (I.hok.kept k)
theorem Inv.laid{a:Addr}{o:HO}{t':Nat}(I:Inv X pins σ H s)(k:∀b u,s.heap.get? b=some u->h'.get? b=some u)(hp:s.heap.objs.size<=a)(new:ObjOk X.prog X.w (upd H a o) h' a o) :
 Inv X pins σ (upd H a o) { s with heap:=h',toks:=t' }:=I.un (Un.laid k hp (I.hok.fresh hp)) (I.hok.laid k hp new)
theorem Inv.write{x e:Addr}{o:HO}{t':Nat}(I:Inv X pins σ H s)(mu:Mut (H x))(he:e=x\/H e=some (.own x))(k:∀b u,b≠e->s.heap.get? b=some u->h'.get? b=some u)(heo:∃u,h'.get? e=some u)
 (new:ObjOk X.prog X.w (upd H x o) h' x o):Inv X pins σ (upd H x o) { s with heap:=h',toks:=t' }:=I.un (Un.write mu he k heo) (I.hok.write mu he k heo new)
theorem Inv.pins_of{pins':List (Addr×Obj)}(I:Inv X pins σ H s)(h:∀p∈pins',s.heap.get? p.1=some p.2/\H p.1=none/\p.1≠X.env.locals/\p.1∉X.fs/\∀v,p.2.data≠.cell v):Inv X pins' σ H s:=
 ⟨I.ok,I.os,I.bare,I.base,I.loc,I.cell,I.free,I.freeC,fun p hp=>(List.mem_append.mp hp).elim (fun z=>I.pin p (List.mem_append_left _ z)) (h p),I.hok,I.len⟩
theorem nodup_ix{N:List Str}(hN:N.Nodup){i j:Nat}{x:Str}(a:N[i]? = some x)(b:N[j]? = some x):i=j:=by
 obtain⟨h1,e1⟩:=List.getElem?_eq_some_iff.mp a
 obtain⟨h2,e2⟩:=List.getElem?_eq_some_iff.mp b
 exact(List.getElem_inj hN).mp (e1.trans e2.symm)
theorem store_ok2{M:Model}{A:Around}{E:Value->Shared->Prop}{i:Nat}{x:Str}{v:V}{u:Value}{Q:Unit->Shared->Prop}(I:Inv X pins σ H s)(hN:X.N.Nodup)(hi:X.N[i]? = some x)(hx:Loc X.env.scope x)(r:RelV v u)
 (h:∀s',Inv X pins (σ.set i (some v)) H s'->(∃a,Heap.SameBut a s.heap s'.heap/\(a=X.env.locals\/X.env.cells.lookup x=some a))->Q () s') (hf:X.fn x=true\/X.env.scope.names.lookup x=some .local:=by first | exact .inl rfl | exact .inr rfl | assumption):wpAny M A (storeName X.env x u) Q E s:=by
 obtain⟨m,hn,hl⟩:=id I.loc
 have hcls:(X.env.scope.kind == .class || (X.env.scope.kind == .module && X.env.locals != X.env.globals))=false:=by rw[I.ok.kind];rfl
 have hiσ:i<σ.length:=by rw[I.len];exact(List.getElem?_eq_some_iff.mp hi).1
 have cne:=I.cne
 have tracked:∀{a:Addr} {h':Heap},(∃o,s.heap.get? a=some o/\H a=none)->Heap.SameBut a s.heap h'->HOk X.prog X.w H h':=fun {a h'} ha hs b ob e=>by
  obtain⟨_,_,hfree⟩:=ha
  refine(I.hok b ob e).stay (fun c w' hc q=>(hs.2 c ?_).trans q) (fun _ q=>q) fun _ _ q=>q
  rintro rfl
  rcases hc with rfl | hc
  · rw[hfree]at e;cases e
  · rw[hfree]at hc;cases hc
 rcases hx with hk | hk
 · refine wpAny_storeName_local hk hn (fun h' hn' hs=>?_) hcls
   obtain⟨oL,_,_,hoL,_⟩:=id hn
   refine h _ ⟨I.ok,I.os,I.bare,⟨fun b o e n hb hx=>?_,fun b o e n hb hx=>?_,I.base.free,fun b o e hx=>?_,I.base.tups,I.base.frzs,I.base.tbls⟩,⟨_,hn',fun j y v' e1 e2 e3=>?_⟩,fun y c e=>?_,I.free,I.freeC,fun p hp=>?_,tracked ⟨oL,hoL,I.free⟩ hs,by simpa using I.len⟩ ⟨_,hs,.inl rfl⟩
   · exact(hs.2 b (Nat.ne_of_lt (Nat.lt_of_lt_of_le (Heap.lt_size e) I.ok.above))).trans (I.base.keep b o e n hb hx)
   · obtain⟨sl,e1⟩:=I.base.slot b o e n hb hx
     exact⟨sl,(hs.2 b (Nat.ne_of_lt (Nat.lt_of_lt_of_le (Heap.lt_size e) I.ok.above))).trans e1⟩
   · obtain⟨o',e1⟩:=I.base.there b o e hx
     exact⟨o',(hs.2 b (Nat.ne_of_lt (Nat.lt_of_lt_of_le (Heap.lt_size e) I.ok.above))).trans e1⟩
   · by_cases hj:j=i
     · subst hj
       rw[hi]at e1;cases e1
       rw[List.getElem?_set_self hiσ]at e2
       cases e2
       exact⟨u,r,.inl ⟨hk,by simp⟩⟩
     · rw[List.getElem?_set_ne (Ne.symm hj)]at e2
       obtain⟨u',r',q⟩:=hl j y v' e1 e2 e3
       refine⟨u',r',?_⟩
       rcases q with⟨k,e⟩ | ⟨k,c,e,z⟩
       · refine .inl ⟨k,?_⟩
         have:y≠x:=fun e=>hj (nodup_ix hN e1 (e▸hi))
         simp[this,e]
       · exact .inr ⟨k,c,e,z.sameBut hs (cne y c e)⟩
   · obtain⟨w',z⟩:=I.cell y c e
     exact⟨w',z.sameBut hs (cne y c e)⟩
   · obtain⟨e,n,ne,nf,d⟩:=I.pin p hp
     exact⟨(hs.2 p.1 ne).trans e,n,ne,nf,d⟩
 · have hfn:X.fn x=true:=by
    rcases hf with z | z
    · exact z
    · rw[z]at hk;cases hk
   obtain⟨c,hc⟩:=I.ok.has x (.inl hk)
   obtain⟨w',z⟩:=I.cell x c hc
   refine wpAny_storeName_cell I.ok.kind hk hc z (fun h' hc' hs=>?_)
   obtain⟨oc,hoc,hocd⟩:=id z
   refine h { s with heap:=h' } ⟨I.ok,I.os,I.bare,⟨fun b o e n hb hx=>?_,fun b o e n hb hx=>?_,I.base.free,fun b o e hx=>?_,I.base.tups,I.base.frzs,I.base.tbls⟩,⟨m,hn.sameBut hs (Ne.symm (cne x c hc)),fun j y v' e1 e2 e3=>?_⟩,fun y c' e=>?_,I.free,I.freeC,fun p hp=>?_,tracked ⟨oc,hoc,I.freeC x c hc⟩ hs,by simpa using I.len⟩ ⟨c,hs,.inr hc⟩
   · exact(hs.2 b (Nat.ne_of_lt (Nat.lt_of_lt_of_le (Heap.lt_size e) (I.ok.cab x c hfn hc)))).trans (I.base.keep b o e n hb hx)
   · obtain⟨sl,e1⟩:=I.base.slot b o e n hb hx
     exact⟨sl,(hs.2 b (Nat.ne_of_lt (Nat.lt_of_lt_of_le (Heap.lt_size e) (I.ok.cab x c hfn hc)))).trans e1⟩
   · obtain⟨o',e1⟩:=I.base.there b o e hx
     exact⟨o',(hs.2 b (Nat.ne_of_lt (Nat.lt_of_lt_of_le (Heap.lt_size e) (I.ok.cab x c hfn hc)))).trans e1⟩
   · by_cases hj:j=i
     · subst hj
       rw[hi]at e1;cases e1
       rw[List.getElem?_set_self hiσ]at e2
       cases e2
       exact⟨u,r,.inr ⟨.inl hk,c,hc,hc'⟩⟩
     · rw[List.getElem?_set_ne (Ne.symm hj)]at e2
       obtain⟨u',r',q⟩:=hl j y v' e1 e2 e3
       refine⟨u',r',?_⟩
       rcases q with q | ⟨k,c',e,z'⟩
       · exact .inl q
       · refine .inr ⟨k,c',e,z'.sameBut hs ?_⟩
         rintro rfl
         exact hj (nodup_ix hN e1 (I.ok.inj _ _ _ e hc▸hi))
   · by_cases hcc:c'=c
     · subst hcc;exact⟨_,hc'⟩
     · obtain⟨w2,z2⟩:=I.cell y c' e
       exact⟨w2,z2.sameBut hs hcc⟩
   · obtain⟨e,n,ne,nf,d⟩:=I.pin p hp
     refine⟨(hs.2 p.1 ?_).trans e,n,ne,nf,d⟩
     intro q
     rw[q,hoc]at e
     have q':oc=p.2:=Option.some.inj e
     exact d w' (by rw[←q'];exact hocd)
theorem store_ok{M:Model}{A:Around}{E:Value->Shared->Prop}{i:Nat}{x:Str}{v:V}{u:Value}{Q:Unit->Shared->Prop}(I:Inv X pins σ H s)(hN:X.N.Nodup)(hi:X.N[i]? = some x)(hx:Loc X.env.scope x)(r:RelV v u)
 (h:∀s',Inv X pins (σ.set i (some v)) H s'->Q () s') (hf:X.fn x=true\/X.env.scope.names.lookup x=some .local:=by first | exact .inl rfl | exact .inr rfl | assumption):wpAny M A (storeName X.env x u) Q E s:=
 store_ok2 I hN hi hx r (fun s' I' _=>h s' I') hf
theorem Inv.call'{s':Shared}{ch:List Addr}(I:Inv X pins σ H s)(ho:s'.os=s.os)(u:Un (frs X.stack) ch H H' s.heap s'.heap)(hok:HOk X.prog X.w H' s'.heap)(hg:AllBare s'.gens)
 (hch:∀b∈ch,(b∈X.ex\/X.s₀.heap.objs.size<=b)/\b≠X.env.locals/\(∀x c,X.env.cells.lookup x=some c->c≠b)/\∀p∈X.pn++pins,p.1≠b):Inv X pins σ H' s':=by
 obtain⟨h',g',d',t',o'⟩:=s'
 have e:o'=s.os:=ho
 subst e
 exact I.call (g':=g') (t':=t') (d':=d') u hok hg hch
end
noncomputable abbrev XK:=Value->Option Addr->Hp->Prop
noncomputable abbrev St:=List (Option V)
noncomputable abbrev VK:=V->Hp->Prop
noncomputable abbrev TE:=St->Hp->VK->Prop
noncomputable abbrev TT:=St->Hp->(Bool->Hp->Prop)->Prop
noncomputable abbrev TA:=St->Hp->(List V->Hp->Prop)->Prop
structure Ends where
 nx:St->Hp->Prop
 rt:VK
 bk:St->Hp->Prop:=fun _ _=>False
 ct:St->Hp->Prop:=fun _ _=>False
noncomputable abbrev TS:=Ends->St->Hp->Prop
noncomputable def EP(X:Cx)(pins:List (Addr×Obj))(σ:St)(Q:VK)(u:Value)(s':Shared):Prop:=∃v H',Inv X pins σ H' s'/\RelV v u/\Q v H'
noncomputable def TP(X:Cx)(pins:List (Addr×Obj))(σ:St)(Q:Bool->Hp->Prop)(b:Bool)(s':Shared):Prop:=∃H',Inv X pins σ H' s'/\Q b H'
noncomputable def AP(X:Cx)(pins:List (Addr×Obj))(σ:St)(Q:List V->Hp->Prop)(us:List Value)(s':Shared):Prop:=∃vs H',Inv X pins σ H' s'/\Vals vs us/\Q vs H'
noncomputable def SP(X:Cx)(pins:List (Addr×Obj))(D:Ends)(f:Flow)(s':Shared):Prop:=
 match f with
 | .next=>∃σ' H',Inv X pins σ' H' s'/\D.nx σ' H'
 | .brk=>∃σ' H',Inv X pins σ' H' s'/\D.bk σ' H'
 | .cont=>∃σ' H',Inv X pins σ' H' s'/\D.ct σ' H'
 | .ret u=>∃v σ' H',Inv X pins σ' H' s'/\RelV v u/\D.rt v H'
noncomputable def PE(X:Cx)(e:Expr)(t:TE):Prop:=
 ∀(pins:List (Addr×Obj)) (s:Shared) (σ:St) (H:Hp) (Q:VK),Inv X pins σ H s->t σ H Q->wpAny (model X.prog X.w) X.A (eval e X.env) (EP X pins σ Q) X.xe s
noncomputable def PT(X:Cx)(e:Expr)(t:TT):Prop:=
 ∀(pins:List (Addr×Obj)) (s:Shared) (σ:St) (H:Hp) (Q:Bool->Hp->Prop),Inv X pins σ H s->t σ H Q->wpAny (model X.prog X.w) X.A (isTrue e X.env (eval e X.env)) (TP X pins σ Q) X.xe s
noncomputable def PW(X:Cx)(e:Expr)(t:TT):Prop:=
 ∀(whole:Sem Value) (pins:List (Addr×Obj)) (s:Shared) (σ:St) (H:Hp) (Q:Bool->Hp->Prop),Inv X pins σ H s->t σ H Q->wpAny (model X.prog X.w) X.A (isTrue e X.env whole) (TP X pins σ Q) X.xe s
theorem PW.pt{X:Cx}{e:Expr}{t:TT}(h:PW X e t):PT X e t:=h _
noncomputable def PA(X:Cx)(es:List Expr)(t:TA):Prop:=
 ∀(pos:Pos) (pins:List (Addr×Obj)) (s:Shared) (σ:St) (H:Hp) (Q:List V->Hp->Prop),Inv X pins σ H s->t σ H Q->wpAny (model X.prog X.w) X.A (spliced (backTo pos (starEach es X.env))) (AP X pins σ Q) X.xe s
noncomputable def PS(X:Cx)(st:Stmt)(t:TS):Prop:=
 ∀(pins:List (Addr×Obj)) (s:Shared) (σ:St) (H:Hp) (D:Ends),Inv X pins σ H s->t D σ H->wpAny (model X.prog X.w) X.A (exec st X.env) (SP X pins D) X.xe s
noncomputable def PSs(X:Cx)(st:List Stmt)(t:TS):Prop:=
 ∀(pins:List (Addr×Obj)) (s:Shared) (σ:St) (H:Hp) (D:Ends),Inv X pins σ H s->t D σ H->wpAny (model X.prog X.w) X.A (execs st X.env) (SP X pins D) X.xe s
theorem thn{α:Type}{t:Sem α}{Q Q':α->Shared->Prop}{M:Model}{A:Around}{E:Value->Shared->Prop}{s:Shared}(h:wpAny M A t Q E s)(hQ:∀a s,Q a s->Q' a s):wpAny M A t Q' E s:=wpAny_mono h hQ fun _ _ x=>x
end L2
namespace L2
open PySem PySem.Spec PyProof.Rows
section
variable {X:Cx}
noncomputable def tVar(i:Nat):TE:=fun σ H Q=>∃v,σ[i]? = some (some v)/\Q v H
noncomputable def tC(v:V):TE:=fun _ H Q=>Q v H
theorem pe_var{i:Nat}{x:Str}{pos:Pos}(hN:X.N[i]? = some x)(hv:Vis X.env.scope x)(hd:(x == ("__debug__":Str))=false:=by decide)(hcd:(x == ("__classdict__":Str))=false:=by decide):PE X (.Name x pos) (tVar i):=by
 intro pins s σ H Q I h
 obtain⟨v,e,h⟩:=h
 obtain⟨m,hn,hl⟩:=I.loc
 obtain⟨u,r,l⟩:=hl i x v hN e hv
 have fin:EP X pins σ Q u s:=⟨v,H,I,r,h⟩
 rcases l with⟨hk,hm⟩ | ⟨hk,c,hc,hcell⟩
 · exact wpAny_Name (wpAny_loadName_local I.ok.kind hk hn hm fin) hd
 · rcases hk with hk | hk
   · exact wpAny_Name (wpAny_loadName_cell I.ok.kind hk hc hcell fin) hd
   · exact wpAny_Name (wpAny_loadName_free I.ok.kind hk hc hcell fin hcd) hd
theorem pe_int{i j pos}:PE X (.Constant (.int i) j pos) (tC (.int i)):=fun _ _ _ H _ I h=>wpAny_Constant_int ⟨.int i,H,I.tok _,⟨_,rfl⟩,h⟩
theorem pe_bl{b j pos}:PE X (.Constant (.bool b) j pos) (tC (.bl b)):=fun _ _ _ H _ I h=>Constant_bool ⟨.bl b,H,I,rfl,h⟩
theorem pe_non{j pos}:PE X (.Constant .none j pos) (tC .non):=fun _ _ _ H _ I h=>Constant_none ⟨.non,H,I,rfl,h⟩
theorem pe_str{x j pos}:PE X (.Constant (.str x) j pos) (tC (.str x)):=fun _ _ _ H _ I h=>Calls.Constant_str ⟨.str x,H,I.tok _,⟨_,rfl⟩,h⟩
noncomputable def Gl(X:Cx)(x:Str):Prop:=X.env.kindOf x=some .globalImplicit
theorem ld_glob{E:Value->Shared->Prop}{pins:List (Addr×Obj)}{s:Shared}{σ:St}{H:Hp}{x:Str}{u:Value}{pos:Pos}{Q:Value->Shared->Prop}(I:Inv X pins σ H s)(hg:Gl X x)(hm:X.mg x=some u)(h:Q u s)
 (hd:(x == ("__debug__":Str))=false:=by decide):wpAny (model X.prog X.w) X.A (eval (.Name x pos) X.env) Q E s:=
 Calls.Name_function_global I.ok.kind hg (Calls.loadGlobal_global (by rw[I.ok.glob];exact I.mod.glob.keeps I.bk) hm h) hd
theorem ld_blt{E:Value->Shared->Prop}{pins:List (Addr×Obj)}{s:Shared}{σ:St}{H:Hp}{x:Str}{u:Value}{pos:Pos}{Q:Value->Shared->Prop}(I:Inv X pins σ H s)(hg:Gl X x)(hm:X.mg x=none)(hv:bootBuiltins x=some u)(h:Q u s)
 (hn:x≠"__name__":=by decide) (hd:(x == ("__debug__":Str))=false:=by decide):wpAny (model X.prog X.w) X.A (eval (.Name x pos) X.env) Q E s:=by
 obtain⟨mb,h1,h2⟩:=I.mod.blt
 exact Calls.Name_function_global I.ok.kind hg (Calls.loadGlobal_builtin (by rw[I.ok.glob];exact I.mod.glob.keeps I.bk) hm (by rw[I.ok.blt];exact h1.keeps I.bk) ((h2 x hn).trans hv) h) hd
theorem pe_glob{x:Str}{v:V}{u:Value}{pos:Pos}(hg:Gl X x)(hm:X.mg x=some u)(r:RelV v u)(hd:(x == ("__debug__":Str))=false:=by decide):PE X (.Name x pos) (tC v):=
 fun _ _ _ H _ I h=>ld_glob I hg hm ⟨v,H,I,r,h⟩ hd
theorem pe_bltn{x:Str}{v:V}{u:Value}{pos:Pos}(hg:Gl X x)(hm:X.mg x=none)(hv:bootBuiltins x=some u)(r:RelV v u)(hn:x≠"__name__":=by decide)(hd:(x == ("__debug__":Str))=false:=by decide):PE X (.Name x pos) (tC v):=
 fun _ _ _ H _ I h=>ld_blt I hg hm hv ⟨v,H,I,r,h⟩ hn hd
variable {a b:Expr} {ta tb:TE} {pos:Pos}
noncomputable def PC(X:Cx)(op:CmpOp)(a b:Expr)(t:TE):Prop:=
 ∀(pins:List (Addr×Obj)) (s:Shared) (σ:St) (H:Hp) (Q:VK),Inv X pins σ H s->t σ H Q ->
  wpAny (model X.prog X.w) X.A (eval a X.env) (fun v s₁=>wpAny (model X.prog X.w) X.A (eval b X.env) (fun u s₂=>wpAny (model X.prog X.w) X.A (compareOp op v u) (EP X pins σ Q) X.xe s₂) X.xe s₁) X.xe s
noncomputable def tB(t:TE):TT:=fun σ H Q=>t σ H fun x H1=>∃c,x = .bl c/\Q c H1
theorem pt_cmp{op:CmpOp}{t:TE}(h:PC X op a b t)(h1:behindInMarks op b=false:=by first | exact nobehind _ (by decide) (by decide) | rfl):PT X (.Compare a [op] [b] pos) (tB t):=by
 intro pins s σ H Q I hw
 refine wpAny_isTrue_Compare1 (thn (h pins s σ H _ I hw) fun v s1 h1=>thn h1 fun u s2 h2=>thn h2 fun c s3 zq3=>zq3.elim fun x zq4=>zq4.elim fun H1 zq5=>zq5.elim fun I1 zq6=>zq6.elim fun r1 q1=>?_) h1
 obtain⟨d,rfl,q⟩:=q1
 cases r1
 exact wpAny_truthy_bool ⟨H1,I1,q⟩
theorem pt_val{e:Expr}{t:TE}(h:PE X e t)(he:∀whole,isTrue e X.env whole=(do let v ←whole;standAt e.pos;holding [v] (truthy v)):=by intro _;rfl):PT X e (tB t):=by
 intro pins s σ H Q I hw
 refine isTrue_plain (thn (h pins s σ H _ I hw) fun v s1 zq7=>zq7.elim fun x zq8=>zq8.elim fun H1 zq9=>zq9.elim fun I1 zq10=>zq10.elim fun r1 q1=>?_) (he _)
 obtain⟨d,rfl,q⟩:=q1
 cases r1
 exact wpAny_truthy_bool ⟨H1,I1,q⟩
variable {tA tB':TT} {rest:List Expr}
noncomputable def tAnd(t u:TT):TT:=fun σ H Q=>t σ H fun c H1=>if c=true then u σ H1 Q else Q false H1
noncomputable def tOr(t u:TT):TT:=fun σ H Q=>t σ H fun c H1=>if c=true then Q true H1 else u σ H1 Q
noncomputable def tNot(t:TT):TT:=fun σ H Q=>t σ H fun c H1=>Q (!c) H1
theorem pw_and1(ha:PT X a tA):PW X (.BoolOp .And [a] pos) tA:=by
 intro wh pins s σ H Q I h
 refine isTrue_and (thn (ha pins s σ H Q I h) fun c s1 e=>?_)
 cases c with
 | true=>exact isTrue_and_nil e
 | false=>exact e
theorem pw_or1(ha:PT X a tA):PW X (.BoolOp .Or [a] pos) tA:=by
 intro wh pins s σ H Q I h
 refine isTrue_or (thn (ha pins s σ H Q I h) fun c s1 e=>?_)
 cases c with
 | false=>exact isTrue_or_nil e
 | true=>exact e
theorem pw_and(ha:PT X a tA)(hb:PW X (.BoolOp .And (b::rest) pos) tB'):PW X (.BoolOp .And (a::b::rest) pos) (tAnd tA tB'):=by
 intro wh pins s σ H Q I h
 refine isTrue_and (thn (ha pins s σ H _ I h) fun c s1 zq11=>zq11.elim fun H1 zq12=>zq12.elim fun I1 q1=>?_)
 cases c with
 | true=>exact hb wh pins s1 σ H1 Q I1 q1
 | false=>exact⟨H1,I1,q1⟩
theorem pw_or(ha:PT X a tA)(hb:PW X (.BoolOp .Or (b::rest) pos) tB'):PW X (.BoolOp .Or (a::b::rest) pos) (tOr tA tB'):=by
 intro wh pins s σ H Q I h
 refine isTrue_or (thn (ha pins s σ H _ I h) fun c s1 zq13=>zq13.elim fun H1 zq14=>zq14.elim fun I1 q1=>?_)
 cases c with
 | true=>exact⟨H1,I1,q1⟩
 | false=>exact hb wh pins s1 σ H1 Q I1 q1
theorem pt_not(ha:PT X a tA):PT X (.UnaryOp .Not a pos) (tNot tA):=by
 intro pins s σ H Q I h
 exact isTrue_not (ha pins s σ H (fun c H1=>Q (!c) H1) I h)
noncomputable def tAndV(ta tb:TE):TE:=fun σ H Q=>ta σ H fun x H1=>∃c,x = .bl c/\if c=true then tb σ H1 Q else Q (.bl false) H1
noncomputable def tOrV(ta tb:TE):TE:=fun σ H Q=>ta σ H fun x H1=>∃c,x = .bl c/\if c=true then Q (.bl true) H1 else tb σ H1 Q
noncomputable def tNotV(ta:TE):TE:=fun σ H Q=>ta σ H fun x H1=>∃c,x = .bl c/\Q (.bl (!c)) H1
theorem pe_one{op}{t:TE}(h:PE X a t):PE X (.BoolOp op [a] pos) t:=fun pins s σ H Q I hw=>BoolOp_one (h pins s σ H Q I hw)
theorem pe_and(ha:PE X a ta)(hb:PE X (.BoolOp .And (b::rest) pos) tb):PE X (.BoolOp .And (a::b::rest) pos) (tAndV ta tb):=by
 intro pins s σ H Q I h
 refine BoolOp_and (thn (ha pins s σ H _ I h) fun v s1 zq15=>zq15.elim fun x zq16=>zq16.elim fun H1 zq17=>zq17.elim fun I1 zq18=>zq18.elim fun r1 q1=>?_)
 obtain⟨c,rfl,q1⟩:=q1
 cases r1
 refine wpAny_truthy_bool ?_
 cases c with
 | true=>exact hb pins s1 σ H1 Q I1 q1
 | false=>exact⟨.bl false,H1,I1,rfl,q1⟩
theorem pe_or(ha:PE X a ta)(hb:PE X (.BoolOp .Or (b::rest) pos) tb):PE X (.BoolOp .Or (a::b::rest) pos) (tOrV ta tb):=by
 intro pins s σ H Q I h
 refine BoolOp_or (thn (ha pins s σ H _ I h) fun v s1 zq19=>zq19.elim fun x zq20=>zq20.elim fun H1 zq21=>zq21.elim fun I1 zq22=>zq22.elim fun r1 q1=>?_)
 obtain⟨c,rfl,q1⟩:=q1
 cases r1
 refine wpAny_truthy_bool ?_
 cases c with
 | false=>exact hb pins s1 σ H1 Q I1 q1
 | true=>exact⟨.bl true,H1,I1,rfl,q1⟩
theorem pe_not(ha:PE X a ta):PE X (.UnaryOp .Not a pos) (tNotV ta):=by
 intro pins s σ H Q I h
 refine UnaryOp_ (thn (ha pins s σ H _ I h) fun v s1 zq23=>zq23.elim fun x zq24=>zq24.elim fun H1 zq25=>zq25.elim fun I1 zq26=>zq26.elim fun r1 q1=>?_)
 obtain⟨c,rfl,q1⟩:=q1
 cases r1
 exact not_of (wpAny_truthy_bool ⟨.bl (!c),H1,I1,rfl,q1⟩)
end
end L2
namespace L2
open PySem PySem.Spec PyProof.Rows
noncomputable def SqL(K:PySem.W.Frag)(H:Hp)(a:Addr)(xs:List V):Prop:=
 Rd H a (.lst xs) \/
  ∃(o:Obj) (its:Array Value) (n:Nat),K.lookup a=some o/\o.cls = .type "list"/\o.dict=none/\o.data = .seq its n/\its.size<=sizeLine/\Vals xs its.toList
noncomputable def SqT(K:PySem.W.Frag)(H:Hp)(a:Addr)(xs:List V):Prop:=
 Rd H a (.tup xs) \/
  ∃(o:Obj) (its:Array Value) (n:Nat),K.lookup a=some o/\o.cls = .type "tuple"/\o.data = .seq its n/\its.size<=sizeLine/\Vals xs its.toList
noncomputable def absV:Value->Option V
 | .none=>some .non
 | .bool b=>some (.bl b)
 | .int i _=>some (.int i)
 | .str x _=>some (.str x)
 | .bytes b _=>some (.byt b)
 | .float b _=>some (.flt b)
 | .ref a=>some (.ref a)
 | .type n=>some (.ty n)
 | _=>none
theorem RelV.abs{x:V}{u:Value}(r:RelV x u):absV u=some x:=by
 cases x with
 | non=>cases r;rfl
 | bl _=>cases r;rfl
 | int _=>obtain⟨t,rfl⟩:=r;rfl
 | str _=>obtain⟨t,rfl⟩:=r;rfl
 | byt _=>obtain⟨t,rfl⟩:=r;rfl
 | flt _=>obtain⟨t,rfl⟩:=r;rfl
 | ref _=>cases r;rfl
 | ty _=>cases r;rfl
theorem RelV.inj{x y:V}{u:Value}(r:RelV x u)(q:RelV y u):x=y:=Option.some.inj (r.abs.symm.trans q.abs)
theorem Vals.inj:∀{xs ys:List V} {us:List Value},Vals xs us->Vals ys us->xs=ys
 | _,_,_,.nil,.nil=>rfl
 | _,_,_,.cons r t,.cons r' t'=>by rw[r.inj r',Vals.inj t t']
section
variable {X:Cx} {pins:List (Addr×Obj)} {σ:St} {H:Hp} {s:Shared} {a:Addr} {xs ys:List V}
theorem SqL.of{K:PySem.W.Frag}(h:H a=some (.lst xs)):SqL K H a xs:=.inl (.inl h)
theorem SqT.of{K:PySem.W.Frag}(h:H a=some (.tup xs)):SqT K H a xs:=.inl (.inl h)
theorem Inv.list(I:Inv X pins σ H s)(h:SqL X.K H a xs):∃its:List Value,Vals xs its/\PlainL s.heap a its.toArray/\xs.length<=sizeLine:=by
 rcases h with h | ⟨o,its,n,hk,hc,hd,hs,hz,r⟩
 · obtain⟨z,its,n,r,e⟩:=h.ok I.hok
   exact⟨its,r,⟨_,n,e,rfl,rfl,rfl⟩,z⟩
 · refine⟨its.toList,r,⟨o,n,I.kIn a o hk,hc,hd,by simpa using hs⟩,?_⟩
   have e:=r.length
   simp only[Array.length_toList]at e
   omega
theorem Inv.tuple(I:Inv X pins σ H s)(h:SqT X.K H a xs):∃its:List Value,Vals xs its/\IsTup s.heap a its.toArray/\xs.length<=sizeLine:=by
 rcases h with h | ⟨o,its,n,hk,hc,hs,hz,r⟩
 · obtain⟨z,its,r,p⟩:=h.ok I.hok
   exact⟨its,r,p,z⟩
 · refine⟨its.toList,r,⟨o,I.kIn a o hk,hc,n,by simpa using hs⟩,?_⟩
   have e:=r.length
   simp only[Array.length_toList]at e
   omega
theorem Inv.list_inj(I:Inv X pins σ H s)(h:SqL X.K H a xs)(h':SqL X.K H a ys):xs=ys:=by
 obtain⟨its,r,⟨o,n,e,_,_,d⟩,_⟩:=I.list h
 obtain⟨its',r',⟨o',n',e',_,_,d'⟩,_⟩:=I.list h'
 rw[e]at e';cases e'
 rw[d]at d'
 injection d' with d1 _
 have:its=its':=by simpa using congrArg Array.toList d1
 subst this
 exact r.inj r'
end
noncomputable abbrev Cx.wish (X:Cx) (E:Value->Shared->Prop):Cx:={ X with xe:=E }
noncomputable abbrev Cx.nox (X:Cx):Cx:=X.wish fun _ _=>False
theorem Cx.Ok.wish{X:Cx}(ok:X.Ok)(E:Value->Shared->Prop):(X.wish E).Ok:=
 ⟨ok.mod,ok.kind,ok.glob,ok.blt,ok.above,ok.inj,ok.has,ok.cab,ok.hd,ok.frames,ok.stk,ok.exf,ok.bs,ok.bsz,ok.noex,ok.exfs,ok.funs,ok.frf⟩
theorem Cx.Ok.unwish{X:Cx}{E:Value->Shared->Prop}(ok:(X.wish E).Ok):X.Ok:=
 ⟨ok.mod,ok.kind,ok.glob,ok.blt,ok.above,ok.inj,ok.has,ok.cab,ok.hd,ok.frames,ok.stk,ok.exf,ok.bs,ok.bsz,ok.noex,ok.exfs,ok.funs,ok.frf⟩
section
variable {X:Cx} {pins:List (Addr×Obj)} {σ:St} {H:Hp} {s:Shared} {E:Value->Shared->Prop}
theorem Inv.wish(I:Inv X pins σ H s)(E:Value->Shared->Prop):Inv (X.wish E) pins σ H s:=⟨I.ok.wish E,I.os,I.bare,I.base,I.loc,I.cell,I.free,I.freeC,I.pin,I.hok,I.len⟩
theorem Inv.unwish(I:Inv (X.wish E) pins σ H s):Inv X pins σ H s:=⟨I.ok.unwish,I.os,I.bare,I.base,I.loc,I.cell,I.free,I.freeC,I.pin,I.hok,I.len⟩
theorem SP.unwish{D:Ends}{f:Flow}{s':Shared}(h:SP (X.wish E) pins D f s'):SP X pins D f s':=by
 cases f with
 | next=>obtain⟨σ',H',I,q⟩:=h;exact⟨σ',H',I.unwish,q⟩
 | brk=>obtain⟨σ',H',I,q⟩:=h;exact⟨σ',H',I.unwish,q⟩
 | cont=>obtain⟨σ',H',I,q⟩:=h;exact⟨σ',H',I.unwish,q⟩
 | ret u=>obtain⟨v,σ',H',I,r,q⟩:=h;exact⟨v,σ',H',I.unwish,r,q⟩
theorem PSs.nox{st:List Stmt}{t:TS}(h:PSs X.nox st t):PSs X st t:=fun pins s σ H D I hw=>
 wpAny_mono (h pins s σ H D (I.wish _) hw) (fun _ _ q=>q.unwish) fun _ _ z=>False.elim z
end
section
variable {X:Cx} {st:Stmt} {rest:List Stmt} {t u:TS} {e:Expr} {te:TE} {pos:Pos}
noncomputable def tNext:TS:=fun D σ H=>D.nx σ H
noncomputable def tSeq(t u:TS):TS:=fun D σ H=>t { D with nx:=u D } σ H
theorem pss_nil:PSs X [] tNext:=fun _ _ σ H _ I h=>wpAny_execs_nil ⟨σ,H,I,h⟩
theorem pss_cons(h1:PS X st t)(h2:PSs X rest u):PSs X (st::rest) (tSeq t u):=by
 intro pins s σ H D I h
 refine wpAny_execs_cons (thn (h1 pins s σ H { D with nx:=u D } I h) fun f s1 q=>?_)
 cases f with
 | next=>
  obtain⟨σ',H',I',q⟩:=q
  exact h2 pins s1 σ' H' D I' q
 | ret v=>exact q
 | brk=>exact q
 | cont=>exact q
theorem pss_one(h1:PS X st t):PSs X [st] t:=by
 intro pins s σ H D I h
 refine wpAny_execs_cons (thn (h1 pins s σ H D I h) fun f s1 q=>?_)
 cases f with
 | next=>exact wpAny_execs_nil q
 | ret v=>exact q
 | brk=>exact q
 | cont=>exact q
theorem Inv.quiet{pins:List (Addr×Obj)}{σ:St}{H:Hp}{s:Shared}(I:Inv X pins σ H s):interactive X.env=false:=by simp[interactive,I.ok.kind]
noncomputable def tDrop(te:TE):TS:=fun D σ H=>te σ H fun _ H1=>D.nx σ H1
theorem ps_expr(he:PE X e te)(hs:swapsWith e none pos.line X.env=pure false:=by rfl):PS X (.Expr e pos) (tDrop te):=by
 intro pins s σ H D I h
 exact wpAny_Expr_any (thn (he pins s σ H _ I h) fun v s1 zq27=>zq27.elim fun x zq28=>zq28.elim fun H1 zq29=>zq29.elim fun I1 zq30=>zq30.elim fun r1 q1=>⟨σ,H1,I1,q1⟩) I.quiet hs
noncomputable def tRet(te:TE):TS:=fun D σ H=>te σ H D.rt
theorem ps_ret(he:PE X e te):PS X (.Return (some e) pos) (tRet te):=by
 intro pins s σ H D I h
 exact wpAny_Return_some (thn (he pins s σ H _ I h) fun v s1 zq31=>zq31.elim fun x zq32=>zq32.elim fun H1 zq33=>zq33.elim fun I1 zq34=>zq34.elim fun r1 q1=>⟨x,σ,H1,I1,r1,q1⟩)
noncomputable def tIfS(c:TT)(t u:TS):TS:=fun D σ H=>c σ H fun b H1=>if b=true then t D σ H1 else u D σ H1
theorem ps_if{c:Expr}{a b:List Stmt}{tc:TT}(hc:PT X c tc)(ha:PSs X a t)(hb:PSs X b u):PS X (.If c a b pos) (tIfS tc t u):=by
 intro pins s σ H D I h
 refine wpAny_If (thn (hc pins s σ H _ I h) fun d s1 zq35=>zq35.elim fun H1 zq36=>zq36.elim fun I1 q1=>?_)
 cases d with
 | true=>exact ha pins s1 σ H1 D I1 q1
 | false=>exact hb pins s1 σ H1 D I1 q1
noncomputable def tNever:TS:=fun _ _ _=>False
theorem ps_never:PS X st tNever:=fun _ _ _ _ _ _ h=>h.elim
end
noncomputable abbrev TG:=V->St->Hp->(St->Hp->Prop)->Prop
noncomputable abbrev TGs:=List V->St->Hp->(St->Hp->Prop)->Prop
noncomputable def PG(X:Cx)(target:Expr)(t:TG):Prop:=
 ∀(pins:List (Addr×Obj)) (s:Shared) (σ:St) (H:Hp) (v:V) (u:Value) (Q:St->Hp->Prop),Inv X pins σ H s->RelV v u->t v σ H Q ->
  wpAny (model X.prog X.w) X.A (assign target X.env u) (fun _ s'=>∃σ' H',Inv X pins σ' H' s'/\Q σ' H') X.xe s
noncomputable def PGs(X:Cx)(ts:List Expr)(t:TGs):Prop:=
 ∀(pins:List (Addr×Obj)) (s:Shared) (σ:St) (H:Hp) (vs:List V) (us:List Value) (Q:St->Hp->Prop),Inv X pins σ H s->Vals vs us->t vs σ H Q ->
  wpAny (model X.prog X.w) X.A (assignInOrder ((assignEach ts X.env).map (·.2)) us) (fun _ s'=>∃σ' H',Inv X pins σ' H' s'/\Q σ' H') X.xe s
section
variable {X:Cx} {pos:Pos}
noncomputable def gName(i:Nat):TG:=fun v σ H Q=>Q (σ.set i (some v)) H
theorem pg_name{i:Nat}{x:Str}(hN:X.N.Nodup)(hi:X.N[i]? = some x)(hx:Loc X.env.scope x)(hf:X.fn x=true\/X.env.scope.names.lookup x=some .local:=by first | exact .inl rfl | exact .inr rfl | assumption):PG X (.Name x pos) (gName i):=by
 intro pins s σ H v u Q I r h
 exact wpAny_assign_Name (store_ok I hN hi hx r (fun s' I'=>⟨_,H,I',h⟩) hf)
noncomputable def gNil:TGs:=fun vs σ H Q=>vs = []/\Q σ H
noncomputable def gCons(t:TG)(u:TGs):TGs:=fun vs σ H Q=>∃v r,vs=v::r/\t v σ H fun σ' H'=>u r σ' H' Q
theorem pgs_nil:PGs X [] gNil:=by
 intro pins s σ H vs us Q I r h
 obtain⟨e,h⟩:=h
 subst e
 cases r
 exact assignInOrder_nil ⟨σ,H,I,h⟩
theorem pgs_cons{e:Expr}{es:List Expr}{t:TG}{u:TGs}(h1:PG X e t)(h2:PGs X es u)
 (hs:(assignEach (e::es) X.env).map (·.2)=assign e X.env::(assignEach es X.env).map (·.2):=by rfl):PGs X (e::es) (gCons t u):=by
 intro pins s σ H vs us Q I r h
 obtain⟨v,vr,e1,h⟩:=h
 subst e1
 cases r with
 | cons r rr=>
  rw[hs]
  refine assignInOrder_cons (thn (h1 pins s σ H _ _ _ I r h) fun _ s1 zq37=>zq37.elim fun σ1 zq38=>zq38.elim fun H1 zq39=>zq39.elim fun I1 q1=>?_)
  exact h2 pins s1 σ1 H1 _ _ Q I1 rr q1
noncomputable def gTup(K:PySem.W.Frag)(n:Nat)(t:TGs):TG:=fun v σ H Q=>∃a xs,v = .ref a/\SqT K H a xs/\xs.length=n/\t xs σ H Q
theorem pg_tup{es:List Expr}{k:Nat}{t:TGs}{n:Nat}(hc:X.calm=true)(h:PGs X es t)
 (hn:(assignEach es X.env).length=n:=by rfl) (hst:(assignEach es X.env).findIdx? (·.1)=none:=by rfl):PG X (.Tuple es k pos) (gTup X.K n t):=by
 intro pins s σ H v u Q I r hw
 obtain⟨a,xs,e1,hq,hl,hw⟩:=hw
 subst e1
 cases r
 obtain⟨its,rv,ht,hz⟩:=I.tuple hq
 refine assign_Tuple_tuple (I.ok.hd hc) ht (by simp[hn,←hl,rv.length]) hst fun h' hx=>?_
 have I1:Inv X pins σ H { s with heap:=h' }:=I.kept (t':=s.toks) fun b o e=>hx b o (Nat.ne_of_lt (Heap.lt_size e)) e
 exact h pins _ σ H xs _ Q I1 (by simpa using rv) hw
noncomputable def tAsg(te:TE)(g:TG):TS:=fun D σ H=>te σ H fun x H1=>g x σ H1 D.nx
theorem ps_set{i:Nat}{x:Str}{e:Expr}{te:TE}{pos':Pos}(hN:X.N.Nodup)(hi:X.N[i]? = some x)(hx:Loc X.env.scope x)(he:PE X e te)(hs:swapsWith e (some (.Name x pos')) pos.line X.env=pure false:=by rfl)(hf:X.fn x=true\/X.env.scope.names.lookup x=some .local:=by first | exact .inl rfl | exact .inr rfl | assumption) :
 PS X (.Assign [.Name x pos'] e pos) (tAsg te (gName i)):=by
 intro pins s σ H D I h
 refine wpAny_Assign_Name (thn (he pins s σ H _ I h) fun v s1 zq40=>zq40.elim fun y zq41=>zq41.elim fun H1 zq42=>zq42.elim fun I1 zq43=>zq43.elim fun r1 q1=>?_) hs
 exact store_ok I1 hN hi hx r1 (fun s2 I2=>⟨_,H1,I2,q1⟩) hf
end
section
variable {X:Cx} {pos:Pos}
end
structure It where
 go:Nat->Hp->Prop
 yld:Nat->Hp->V->Hp->Prop
 stop:Nat->Hp->Prop
noncomputable def FpOk(X:Cx)(pins:List (Addr×Obj))(H:Hp)(b:Addr):Prop:=
 H b=none/\b≠X.env.locals/\b∉X.fs/\(b∈X.ex\/X.s₀.heap.objs.size<=b)/\(∀x c,X.env.cells.lookup x=some c->c≠b)/\∀p∈X.pn++pins,p.1≠b
theorem Inv.fpOk{X:Cx}{pins:List (Addr×Obj)}{σ:St}{H H':Hp}{s:Shared}{b:Addr}(I:Inv X pins σ H s)(hb:s.heap.objs.size<=b)(hn:H' b=none):FpOk X pins H' b:=by
 refine⟨hn,Nat.ne_of_gt (Nat.lt_of_lt_of_le I.lt hb),I.nofs hb,.inr (Nat.le_trans I.sz hb),fun x c e z=>?_,fun p hp z=>?_⟩
 · obtain⟨v,q⟩:=I.cell x c e
   exact absurd (Nat.lt_of_lt_of_le q.lt (by rw[z];exact hb)) (Nat.lt_irrefl _)
 · exact absurd (Nat.lt_of_lt_of_le (Heap.lt_size (I.pin p hp).1) (by rw[z];exact hb)) (Nat.lt_irrefl _)
structure Turn(P:Program)(w:World)(K:PySem.W.Frag)(tg:Expr)(J:It)(fp:List Addr)(it:Addr)(tn:Nat->Heap->Prop):Prop where
 mem:it∈fp
 obj:∀i h,tn i h->∀b∈fp,∃o,h.get? b=some o/\∀v,o.data≠.cell v
 keep:∀i h h',tn i h->(∀b∈fp,∀o,h.get? b=some o->h'.get? b=some o)->tn i h'
 item:∀(X:Cx),X.prog=P->X.w=w->X.K=K->X.calm=true->∀(i:Nat) (pins:List (Addr×Obj)) (s:Shared) (σ:St) (H:Hp) (E:Value->Shared->Prop),Inv X pins σ H s->(∀b∈fp,FpOk X pins H b)->tn i s.heap->J.go i H ->
  wpAny (model P w) X.A (pyNext (.ref it)) (fun r s1=>∃u,r=some u /\
   wpAny (model P w) X.A (letOwnedTupleGo tg (.ref it) u) (fun _ s2=>∃x H',Inv X pins σ H' s2/\RelV x u/\J.yld i H x H'/\tn (i+1) s2.heap/\∀b∈fp,H' b=none) E s1) E s
 done:∀(X:Cx),X.prog=P->X.w=w->X.K=K->X.calm=true->∀(i:Nat) (pins:List (Addr×Obj)) (s:Shared) (σ:St) (H:Hp) (E:Value->Shared->Prop),Inv X pins σ H s->(∀b∈fp,FpOk X pins H b)->tn i s.heap->J.stop i H ->
  wpAny (model P w) X.A (pyNext (.ref it)) (fun r s1=>r=none/\Inv X pins σ H s1) E s
 self:∀(A:Around) (i:Nat) (s:Shared) (Q:Value->Shared->Prop) (E:Value->Shared->Prop),tn i s.heap->Q (.ref it) s->wpAny (model P w) A (pyIter (.ref it)) Q E s
noncomputable abbrev TI:=St->Hp->(It->Hp->Prop)->Prop
noncomputable def PIE(X:Cx)(pins:List (Addr×Obj))(σ:St)(tg:Expr)(R:It->Hp->Prop)(itv:Value)(s2:Shared):Prop:=
 ∃(it:Addr) (fp:List Addr) (tn:Nat->Heap->Prop) (J:It) (H':Hp),itv = .ref it/\Inv X pins σ H' s2/\Turn X.prog X.w X.K tg J fp it tn/\tn 0 s2.heap/\(∀b∈fp,FpOk X pins H' b)/\R J H'
noncomputable def PI(X:Cx)(tg iter:Expr)(wi:TI):Prop:=
 ∀(pins:List (Addr×Obj)) (s:Shared) (σ:St) (H:Hp) (R:It->Hp->Prop),Inv X pins σ H s->wi σ H R ->
  wpAny (model X.prog X.w) X.A (eval iter X.env) (fun v s1=>wpAny (model X.prog X.w) X.A (pyIter v) (PIE X pins σ tg R) X.xe s1) X.xe s
theorem go_of{M:Model}{A:Around}{E:Value->Shared->Prop}{s:Shared}{tg:Expr}{it:Addr}{u:Value}{o:Obj}{n:String}{vs:Array Value}{Q:Unit->Shared->Prop}(ho:s.heap.get? it=some o)(hc:o.cls = .type n)(hd:o.data = .fields vs)
 (hn:["enumerate","zip","dict_itemiterator","dict_reverseitemiterator","odict_iterator","itertools.zip_longest","itertools.pairwise"].contains n=false) (hQ:Q () s):wpAny M A (letOwnedTupleGo tg (.ref it) u) Q E s:=by
 unfold letOwnedTupleGo
 cases tg<;>first
  | exact wpAny_pure hQ
  | (cases u<;>first
   | exact wpAny_pure hQ
   | (refine wpAny_bind (wpAny_load ho ?_)
      rw[hc,hd]
      show wpAny M A (if (["enumerate","zip","dict_itemiterator","dict_reverseitemiterator","odict_iterator","itertools.zip_longest","itertools.pairwise"].contains n && vs[0]? == some (rawInt _))=true then _ else _) Q E s
      rw[if_neg (by intro h;rw[hn,Bool.false_and]at h;cases h)]
      exact wpAny_pure hQ))
noncomputable def Itl(K:PySem.W.Frag)(a:Addr):It:=
 ⟨fun i H=>∃xs x,SqL K H a xs/\xs[i]? = some x,fun i H x H'=>H'=H/\∀xs,SqL K H a xs->xs[i]? = some x,fun i H=>∃xs,SqL K H a xs/\xs.length<=i⟩
noncomputable def Itr(lo:Int)(n:Nat):It:=⟨fun i _=>i<n,fun i H x H'=>H'=H/\x = .int (lo+i),fun i _=>n<=i⟩
theorem turn_list{P:Program}{w:World}{K:PySem.W.Frag}{tg:Expr}(a it:Addr):Turn P w K tg (Itl K a) [it] it (fun i h=>h.IsListIter it a i) where
 mem:=by simp
 obj:=fun i h st b hb=>by
  have e:b=it:=by simpa using hb
  subst e
  obtain⟨o,e,c,d⟩:=st
  exact⟨o,e,fun v z=>by rw[d]at z;cases z⟩
 keep:=fun i h h' st k=>st.at fun o e=>k it (by simp) o e
 item:=by
  intro X hP hw hK hc i pins s σ H E I hf st hg
  subst hP hw hK
  obtain⟨xs,x,hq,hx⟩:=hg
  obtain⟨its,rv,p,hz⟩:=I.list hq
  obtain⟨u,hu,ru⟩:=rv.get hx
  obtain⟨f0,f1,f2,f3,f4,f5⟩:=hf it (by simp)
  refine wpAny_pyNext_list_item st p.isList (x:=u) (by simpa using hu) fun h' st' sb=>?_
  have I1:Inv X pins σ H { s with heap:=h' }:=I.turned (t':=s.toks) (fun b o hb e=>(sb.2 b hb).trans e) f0 f1 f3 f4 f5
  obtain⟨o,e,c,d⟩:=id st'
  exact⟨u,rfl,go_of (s:={ s with heap:=h' }) e c d (by decide) ⟨x,H,I1,ru,⟨rfl,fun ys hy=>by rw[I.list_inj hy hq];exact hx⟩,st',fun b hb=>(hf b hb).1⟩⟩
 done:=by
  intro X hP hw hK hc i pins s σ H E I hf st hg
  subst hP hw hK
  obtain⟨xs,hq,hx⟩:=hg
  obtain⟨its,rv,p,hz⟩:=I.list hq
  obtain⟨f0,f1,f2,f3,f4,f5⟩:=hf it (by simp)
  have hl:=rv.length
  exact wpAny_pyNext_list_end (I.ok.hd hc) st p.isList (by simp;omega) fun h' eb=>⟨rfl,I.turned (t':=s.toks) (fun b o hb e=>eb b o hb e) f0 f1 f3 f4 f5⟩
 self:=fun _ _ _ _ _ st h=>wpAny_pyIter_listiter st h
theorem turn_range{P:Program}{w:World}{K:PySem.W.Frag}{tg:Expr}(it:Addr)(lo:Int)(n:Nat):Turn P w K tg (Itr lo n) [it] it (fun i h=>IsRangeIter h it (lo+(i:Nat) * 1) ((n:Int) - (i:Nat)) 1) where
 mem:=by simp
 obj:=fun i h st b hb=>by
  have e:b=it:=by simpa using hb
  subst e
  exact⟨_,st,fun v z=>by
   have z':Data.fields _=Data.cell v:=z
   cases z'⟩
 keep:=fun i h h' st k=>k it (by simp) _ st
 item:=by
  intro X hP hw hK hc i pins s σ H E I hf st hg
  subst hP hw hK
  obtain⟨f0,f1,f2,f3,f4,f5⟩:=hf it (by simp)
  have W:=Walks.range (prog:=X.prog) (w:=X.w) (I.ok.hd hc) it lo 1 n
  refine W.item i s _ _ hg st fun v h' tk hv st' kk=>?_
  obtain⟨t,rfl⟩:=hv
  have I1:Inv X pins σ H { s with heap:=h',toks:=tk }:=I.turned (fun b o hb e=>kk b o (by simpa using hb) e) f0 f1 f3 f4 f5
  refine⟨_,rfl,go_of (s:={ s with heap:=h',toks:=tk }) (n:="range_iterator") st' rfl rfl (by decide) ⟨.int (lo+i),H,I1,⟨t,?_⟩,⟨rfl,rfl⟩,st',fun b hb=>(hf b hb).1⟩⟩
  rw[Int.mul_one]
 done:=by
  intro X hP hw hK hc i pins s σ H E I hf st hg
  subst hP hw hK
  obtain⟨f0,f1,f2,f3,f4,f5⟩:=hf it (by simp)
  exact wpAny_pyNext_range_end (I.ok.hd hc) st (by have:n<=i:=hg;omega) fun h' eb=>⟨rfl,I.turned (t':=s.toks) (fun b o hb e=>eb b o hb e) f0 f1 f3 f4 f5⟩
 self:=fun _ _ _ _ _ st h=>wpAny_pyIter_rangeiter st h
end L2
namespace L2
open PySem PySem.Spec PyProof.Rows
section
variable {X:Cx} {tg:Expr}
noncomputable def iList(K:PySem.W.Frag)(tl:TE):TI:=fun σ H R=>tl σ H fun x H1=>∃a,x = .ref a/\(∃xs,SqL K H1 a xs)/\R (Itl K a) H1
theorem pi_list{l:Expr}{tl:TE}(hl:PE X l tl):PI X tg l (iList X.K tl):=by
 intro pins s σ H R I h
 refine thn (hl pins s σ H _ I h) fun v s1 zq44=>zq44.elim fun x zq45=>zq45.elim fun H1 zq46=>zq46.elim fun I1 zq47=>zq47.elim fun r1 q1=>?_
 obtain⟨a,e,⟨xs,hq⟩,q⟩:=q1
 subst e
 cases r1
 obtain⟨its,rv,p,hz⟩:=I1.list hq
 refine wpAny_pyIter_list p.isList ?_
 refine⟨s1.heap.objs.size,[s1.heap.objs.size],_,_,H1,rfl,I1.kept (t':=s1.toks) fun b o e=>Heap.get?_push_of_some _ e,turn_list a _,⟨_,Heap.get?_push_size _ rfl,rfl,rfl⟩,fun b hb=>?_,q⟩
 have e:b=s1.heap.objs.size:=by simpa using hb
 subst e
 exact I1.fpOk (Nat.le_refl _) (I1.hok.fresh (Nat.le_refl _))
theorem range_it{pins:List (Addr×Obj)}{σ:St}{H:Hp}{s:Shared}{R:It->Hp->Prop}{E:Value->Shared->Prop}{lo hi:Int}{t u v:Tok}{tk:Nat}(I:Inv X pins σ H s)(h1:-(2 ^ 62)<=lo)(h2:lo<2 ^ 62)(h3:-(2 ^ 62)<=hi)(h4:hi<2 ^ 62)
 (q:R (Itr lo (hi - lo).toNat) H):wpAny (model X.prog X.w) X.A (pyIter (.ref s.heap.objs.size)) (PIE X pins σ tg R) E { s with heap:=s.heap.push { cls:=.type "range",data:=.fields #[.int lo t,.int hi u,.int 1 v] },toks:=tk }:=by
 refine wpAny_pyIter_range (IsRange.new ..) (small_one h1 h2 h3 h4) ?_
 have I1:Inv X pins σ H { s with heap:=s.heap.push { cls:=.type "range",data:=.fields #[.int lo t,.int hi u,.int 1 v] },toks:=tk }:=I.kept fun b o e=>Heap.get?_push_of_some _ e
 refine⟨(s.heap.push { cls:=.type "range",data:=.fields #[.int lo t,.int hi u,.int 1 v] }).objs.size,[(s.heap.push { cls:=.type "range",data:=.fields #[.int lo t,.int hi u,.int 1 v] }).objs.size],_,_,H,rfl,
  I1.kept (t':=tk) fun b o e=>Heap.get?_push_of_some _ e,turn_range _ lo (hi - lo).toNat,?_,fun b hb=>?_,q⟩
 · have e1:lo+((0:Nat):Int) * 1=lo:=by simp
   have e2:(((hi - lo).toNat:Nat):Int) - ((0:Nat):Int)=Builtin.Range.rangeSize lo hi 1:=by rw[rangeSize_one];split<;>omega
   show IsRangeIter _ _ (lo+((0:Nat):Int) * 1) ((((hi - lo).toNat:Nat):Int) - ((0:Nat):Int)) 1
   rw[e1,e2]
   exact Heap.get?_push_size _ rfl
 · have e:b=(s.heap.push { cls:=.type "range",data:=.fields #[.int lo t,.int hi u,.int 1 v] }).objs.size:=by simpa using hb
   subst e
   exact I1.fpOk (Nat.le_refl _) (I1.hok.fresh (Nat.le_refl _))
noncomputable def iRng1(ta:TA):TI:=fun σ H R=>ta σ H fun vs H1=>∃j:Int,vs = [.int j]/\-(2 ^ 62)<=j/\j<2 ^ 62/\R (Itr 0 j.toNat) H1
theorem pi_range1{a:Expr}{ta:TA}{p pos:Pos}(hg:Gl X "range")(hm:X.mg "range" = none)(ha:PA X [a] ta)(hs:starEach [a] X.env = [(false,eval a X.env)]:=by rfl):PI X tg (.Call (.Name "range" p) [a] [] pos) (iRng1 ta):=by
 intro pins s σ H R I h
 refine Call_ (ld_blt I hg hm boot_range (PyProof.Rows.callWith_type1 (thn (ha pos pins s σ H _ I h) fun us s1 zq48=>zq48.elim fun vs zq49=>zq49.elim fun H1 zq50=>zq50.elim fun I1 zq51=>zq51.elim fun r1 q1=>?_) hs rfl))
 obtain⟨j,e,q1,q2,q⟩:=q1
 subst e
 cases r1 with
 | cons r rr=>
  cases rr
  obtain⟨t,rfl⟩:=r
  exact call_range_1 (range_it I1 (by omega) (by omega) q1 q2 (by simpa using q))
noncomputable def tFor(wi:TI)(g:TG)(tb:TS):TS:=fun D σ H=>wi σ H fun J H1=>∃W:Nat->Nat->St->Hp->Prop,(∃m,W 0 m σ H1)/\∀i m σ H,W i m σ H ->
 (J.stop i H/\D.nx σ H)\/(J.go i H/\∃N:St->Hp->Prop,(∀σ' H',N σ' H'->∃m',m'<m/\W (i+1) m' σ' H')/\∀x H',J.yld i H x H'->g x σ H' fun σ2 H2=>tb { D with nx:=N,ct:=N,bk:=D.nx } σ2 H2)
noncomputable def pinsAt(fp:List Addr)(h:Heap):List (Addr×Obj):=fp.filterMap fun b=>(h.get? b).map fun o=>(b,o)
theorem mem_pinsAt{fp:List Addr}{h:Heap}{b:Addr}{o:Obj}(hb:b∈fp)(e:h.get? b=some o):(b,o)∈pinsAt fp h:=List.mem_filterMap.mpr ⟨b,hb,by rw[e];rfl⟩
theorem of_pinsAt{fp:List Addr}{h:Heap}{p:Addr×Obj}(hp:p∈pinsAt fp h):p.1∈fp/\h.get? p.1=some p.2:=by
 obtain⟨b,hb,e⟩:=List.mem_filterMap.mp hp
 cases q:h.get? b with
 | none=>rw[q]at e;cases e
 | some o=>
  rw[q]at e
  have e':(b,o)=p:=Option.some.inj e
  subst e'
  exact⟨hb,q⟩
theorem Inv.pinned{pins:List (Addr×Obj)}{σ:St}{H:Hp}{s:Shared}{fp:List Addr}(I:Inv X pins σ H s)(hf:∀b∈fp,FpOk X pins H b)(ho:∀b∈fp,∃o,s.heap.get? b=some o/\∀v,o.data≠.cell v):Inv X (pins++pinsAt fp s.heap) σ H s:=
 I.pins_of fun p hp=>(List.mem_append.mp hp).elim (fun z=>I.pin p (List.mem_append_right _ z)) fun z=>by
  obtain⟨hb,e⟩:=of_pinsAt z
  obtain⟨f0,f1,f2,_⟩:=hf p.1 hb
  obtain⟨o,e',d⟩:=ho p.1 hb
  rw[e]at e';cases e'
  exact⟨e,f0,f1,f2,d⟩
theorem Inv.unpinned{pins pl:List (Addr×Obj)}{σ:St}{H:Hp}{s:Shared}(I:Inv X (pins++pl) σ H s):Inv X pins σ H s:=I.pins_of fun p hp=>I.pin p (List.mem_append_right _ (List.mem_append_left _ hp))
theorem ps_for{iter:Expr}{body:List Stmt}{wi:TI}{g:TG}{tb:TS}{pos:Pos}(hp:PassesOwn (model X.prog X.w) X.A X.env X.xe)(hc:X.calm=true)(hi:PI X tg iter wi)(hg:PG X tg g)(hb:PSs X body tb)
 (hs:∀x,foldedSetIterable iter X.env x=pure x:=by intro _;rfl):PS X (.For tg iter body [] pos) (tFor wi g tb):=by
 intro pins s σ H D I h
 refine wpAny_For (thn (hi pins s σ H _ I h) fun v s1 h1=>thn h1 fun itv s2 h2=>?_) hs
 obtain⟨it,fp,tn,J,H2,e,I2,T,st2,f2,W,⟨m0,w0⟩,turn⟩:=h2
 subst e
 have stat:∀{H':Hp},(∀b∈fp,H' b=none)->∀b∈fp,FpOk X pins H' b:=fun hn b hb=>⟨hn b hb,(f2 b hb).2⟩
 refine codeAny_forLoop_any (fun n s'=>∃i σ' H',Inv X pins σ' H' s'/\tn i s'.heap/\(∀b∈fp,H' b=none)/\W i n σ' H') ?_ m0 ⟨0,σ,H2,I2,st2,fun b hb=>(f2 b hb).1,w0⟩
 rintro n s3 ⟨i,σ3,H3,I3,st3,fr3,w3⟩
 rcases turn i n σ3 H3 w3 with⟨stop,qn⟩ | ⟨go,N,hN,step⟩
 · refine wpAny_passesOwn hp (thn (T.done X rfl rfl rfl hc i pins s3 σ3 H3 X.xe I3 (stat fr3) st3 stop) fun r s4 zq52=>zq52.elim fun hr I4=>?_)
   subst hr
   exact wpAny_execs_nil ⟨σ3,H3,I4,qn⟩
 · refine wpAny_passesOwn hp (thn (T.item X rfl rfl rfl hc i pins s3 σ3 H3 X.xe I3 (stat fr3) st3 go) fun r s4 zq53=>zq53.elim fun u zq54=>zq54.elim fun hr h4=>?_)
   subst hr
   refine wpAny_passesOwn hp (thn h4 fun _ s5 zq55=>zq55.elim fun x zq56=>zq56.elim fun H5 zq57=>zq57.elim fun I5 zq58=>zq58.elim fun r5 zq59=>zq59.elim fun y5 zq60=>zq60.elim fun st5 fr5=>?_)
   have I5':=I5.pinned (stat fr5) (T.obj _ _ st5)
   refine wpAny_passesOwn hp (thn (hg _ s5 σ3 H5 x u _ I5' r5 (step x H5 y5)) fun _ s6 zq61=>zq61.elim fun σ6 zq62=>zq62.elim fun H6 zq63=>zq63.elim fun I6 q6=>?_)
   refine wpAny_passesOwn hp (thn (hb _ s6 σ6 H6 _ I6 q6) fun f s7 q7=>?_)
   have again:∀{σ7:St} {H7:Hp},Inv X (pins++pinsAt fp s5.heap) σ7 H7 s7->N σ7 H7->∃m,m<n/\∃i σ' H',Inv X pins σ' H' s7/\tn i s7.heap/\(∀b∈fp,H' b=none)/\W i m σ' H':=fun {σ7 H7} I7 n7=>by
    obtain⟨m',hm,w7⟩:=hN σ7 H7 n7
    refine⟨m',hm,i+1,σ7,H7,I7.unpinned,T.keep _ _ _ st5 fun b hb o e=>(I7.pin (b,o) (List.mem_append_right _ (List.mem_append_right _ (mem_pinsAt hb e)))).1,fun b hb=>?_,w7⟩
    obtain⟨o,e,d⟩:=T.obj _ _ st5 b hb
    exact(I7.pin (b,o) (List.mem_append_right _ (List.mem_append_right _ (mem_pinsAt hb e)))).2.1
   cases f with
   | next=>obtain⟨σ7,H7,I7,n7⟩:=q7;exact again I7 n7
   | cont=>obtain⟨σ7,H7,I7,n7⟩:=q7;exact again I7 n7
   | brk=>obtain⟨σ7,H7,I7,q7⟩:=q7;exact⟨σ7,H7,I7.unpinned,q7⟩
   | ret v=>obtain⟨x7,σ7,H7,I7,r7,q7⟩:=q7;exact⟨x7,σ7,H7,I7.unpinned,r7,q7⟩
end
theorem for_list{K:PySem.W.Frag}{a:Addr}{xs:List V}{g:TG}{tb:TS}{D:Ends}{σ:St}{H:Hp}(Pv:Nat->St->Hp->Prop)(h0:Pv 0 σ H)(hl:∀i σ H,i<=xs.length->Pv i σ H->SqL K H a xs)
 (hs:∀i x σ H,xs[i]? = some x->Pv i σ H->g x σ H fun σ2 H2=>tb { D with nx:=Pv (i+1),ct:=Pv (i+1),bk:=D.nx } σ2 H2) (hd:∀σ H,Pv xs.length σ H->D.nx σ H) :
 ∃W:Nat->Nat->St->Hp->Prop,(∃m,W 0 m σ H)/\∀i m σ H,W i m σ H ->
  ((Itl K a).stop i H/\D.nx σ H)\/((Itl K a).go i H/\∃N:St->Hp->Prop,(∀σ' H',N σ' H'->∃m',m'<m/\W (i+1) m' σ' H')/\∀x H',(Itl K a).yld i H x H'->g x σ H' fun σ2 H2=>tb { D with nx:=N,ct:=N,bk:=D.nx } σ2 H2):=by
 refine⟨fun i m σ H=>m=xs.length - i/\i<=xs.length/\Pv i σ H,⟨xs.length,by simp,Nat.zero_le _,h0⟩,?_⟩
 rintro i m σ H ⟨rfl,hi,p⟩
 have q:=hl i σ H hi p
 by_cases hlt:i<xs.length
 · refine .inr ⟨⟨xs,xs[i],q,by simp[hlt]⟩,Pv (i+1),fun σ' H' p'=>⟨xs.length - (i+1),by omega,rfl,hlt,p'⟩,fun x H' y=>?_⟩
   obtain⟨e,y⟩:=y
   subst e
   exact hs i x σ _ (y xs q) p
 · have e:i=xs.length:=by omega
   subst e
   exact .inl ⟨⟨xs,q,Nat.le_refl _⟩,hd σ H p⟩
theorem for_range{lo:Int}{n:Nat}{g:TG}{tb:TS}{D:Ends}{σ:St}{H:Hp}(Pv:Nat->St->Hp->Prop)(h0:Pv 0 σ H)
 (hs:∀i σ H,i<n->Pv i σ H->g (.int (lo+i)) σ H fun σ2 H2=>tb { D with nx:=Pv (i+1),ct:=Pv (i+1),bk:=D.nx } σ2 H2) (hd:∀σ H,Pv n σ H->D.nx σ H) :
 ∃W:Nat->Nat->St->Hp->Prop,(∃m,W 0 m σ H)/\∀i m σ H,W i m σ H ->
  ((Itr lo n).stop i H/\D.nx σ H)\/((Itr lo n).go i H/\∃N:St->Hp->Prop,(∀σ' H',N σ' H'->∃m',m'<m/\W (i+1) m' σ' H')/\∀x H',(Itr lo n).yld i H x H'->g x σ H' fun σ2 H2=>tb { D with nx:=N,ct:=N,bk:=D.nx } σ2 H2):=by
 refine⟨fun i m σ H=>m=n - i/\i<=n/\Pv i σ H,⟨n,by simp,Nat.zero_le _,h0⟩,?_⟩
 rintro i m σ H ⟨rfl,hi,p⟩
 by_cases hlt:i<n
 · refine .inr ⟨hlt,Pv (i+1),fun σ' H' p'=>⟨n - (i+1),by omega,rfl,hlt,p'⟩,fun x H' y=>?_⟩
   obtain⟨e,y⟩:=y
   subst e y
   exact hs i σ _ hlt p
 · have e:i=n:=by omega
   subst e
   exact .inl ⟨Nat.le_refl _,hd σ H p⟩
end L2
namespace L2
open PySem PySem.Spec PyProof.Rows
noncomputable abbrev R2:=V->V->Hp->VK->Prop
noncomputable def OpR(X:Cx)(f:Value->Value->Sem Value)(r:R2):Prop:=
 ∀(pins:List (Addr×Obj)) (s:Shared) (σ:St) (H:Hp) (x y:V) (v u:Value) (Q:VK),Inv X pins σ H s->RelV x v->RelV y u->r x y H Q ->
  wpAny (model X.prog X.w) X.A (f v u) (EP X pins σ Q) X.xe s
noncomputable def UnR(X:Cx)(f:Value->Sem Value)(r:V->Hp->VK->Prop):Prop:=
 ∀(pins:List (Addr×Obj)) (s:Shared) (σ:St) (H:Hp) (x:V) (v:Value) (Q:VK),Inv X pins σ H s->RelV x v->r x H Q ->
  wpAny (model X.prog X.w) X.A (f v) (EP X pins σ Q) X.xe s
noncomputable def CallR(X:Cx)(f:Value)(r:List V->Hp->VK->Prop):Prop:=
 ∀(pins:List (Addr×Obj)) (s:Shared) (σ:St) (H:Hp) (xs:List V) (us:List Value) (Q:VK),Inv X pins σ H s->Vals xs us->r xs H Q ->
  wpAny (model X.prog X.w) X.A (call f us) (EP X pins σ Q) X.xe s
noncomputable def tOp(r:R2)(ta tb:TE):TE:=fun σ H Q=>ta σ H fun x H1=>tb σ H1 fun y H2=>r x y H2 Q
noncomputable def tUn(r:V->Hp->VK->Prop)(ta:TE):TE:=fun σ H Q=>ta σ H fun x H1=>r x H1 Q
noncomputable def rI(C:Int->Int->Prop)(g:Int->Int->V):R2:=fun x y H Q=>∃i j,x = .int i/\y = .int j/\C i j/\Q (g i j) H
noncomputable def rI0(g:Int->Int->V):R2:=fun x y H Q=>∃i j,x = .int i/\y = .int j/\Q (g i j) H
noncomputable def rU(g:Int->V):V->Hp->VK->Prop:=fun x H Q=>∃i,x = .int i/\Q (g i) H
section
variable {X:Cx} {a b c:Expr} {ta tb tc:TE} {pos:Pos}
theorem binT(ha:PE X a ta)(hb:PE X b tb){pins:List (Addr×Obj)}{s:Shared}{σ:St}{H:Hp}{R:V->V->Hp->Prop}(I:Inv X pins σ H s)
 (h:ta σ H fun x H1=>tb σ H1 fun y H2=>R x y H2) {Q:Value->Shared->Prop} {f:Value->Value->Sem Value}
 (hf:∀v u s2 x y H2,Inv X pins σ H2 s2->RelV x v->RelV y u->R x y H2->wpAny (model X.prog X.w) X.A (f v u) Q X.xe s2) :
 wpAny (model X.prog X.w) X.A (eval a X.env) (fun v s₁=>wpAny (model X.prog X.w) X.A (eval b X.env) (fun u s₂=>wpAny (model X.prog X.w) X.A (f v u) Q X.xe s₂) X.xe s₁) X.xe s:=by
 refine thn (ha pins s σ H _ I h) fun v s1 zq64=>zq64.elim fun x zq65=>zq65.elim fun H1 zq66=>zq66.elim fun I1 zq67=>zq67.elim fun r1 q1=>?_
 refine thn (hb pins s1 σ H1 _ I1 q1) fun u s2 zq68=>zq68.elim fun y zq69=>zq69.elim fun H2 zq70=>zq70.elim fun I2 zq71=>zq71.elim fun r2 q2=>?_
 exact hf v u s2 x y H2 I2 r1 r2 q2
theorem pe_op{op:Operator}{r:R2}(ho:OpR X (binaryOp op) r)(ha:PE X a ta)(hb:PE X b tb):PE X (.BinOp a op b pos) (tOp r ta tb):=by
 intro pins s σ H Q I h
 exact wpAny_BinOp (binT ha hb I h fun v u s2 x y H2 I2 rx ry q=>ho pins s2 σ H2 x y v u Q I2 rx ry q)
theorem pe_un{op:UnaryOp}{r:V->Hp->VK->Prop}(ho:UnR X (unaryOp op) r)(ha:PE X a ta):PE X (.UnaryOp op a pos) (tUn r ta):=by
 intro pins s σ H Q I h
 exact UnaryOp_ (thn (ha pins s σ H _ I h) fun v s1 zq72=>zq72.elim fun x zq73=>zq73.elim fun H1 zq74=>zq74.elim fun I1 zq75=>zq75.elim fun r1 q1=>ho pins s1 σ H1 x v Q I1 r1 q1)
theorem opI{f:Value->Value->Sem Value}{C:Int->Int->Prop}{g:Int->Int->Int}
 (rule:∀(i j:Int) (t u:Tok) (s:Shared) (Q:Value->Shared->Prop) (E:Value->Shared->Prop),C i j->Q (.int (g i j) s.toks) { s with toks:=s.toks+1 }->wpAny (model X.prog X.w) X.A (f (.int i t) (.int j u)) Q E s) :
 OpR X f (rI C fun i j=>.int (g i j)):=by
 intro pins s σ H x y v u Q I rx ry h
 obtain⟨i,j,rfl,rfl,hc,q⟩:=h
 obtain⟨t,rfl⟩:=rx
 obtain⟨t',rfl⟩:=ry
 exact rule i j t t' s _ _ hc ⟨.int (g i j),H,I.tok _,⟨_,rfl⟩,q⟩
theorem opI0{f:Value->Value->Sem Value}{g:Int->Int->Int}
 (rule:∀(i j:Int) (t u:Tok) (s:Shared) (Q:Value->Shared->Prop) (E:Value->Shared->Prop),Q (.int (g i j) s.toks) { s with toks:=s.toks+1 }->wpAny (model X.prog X.w) X.A (f (.int i t) (.int j u)) Q E s) :
 OpR X f (rI0 fun i j=>.int (g i j)):=by
 intro pins s σ H x y v u Q I rx ry h
 obtain⟨i,j,rfl,rfl,q⟩:=h
 obtain⟨t,rfl⟩:=rx
 obtain⟨t',rfl⟩:=ry
 exact rule i j t t' s _ _ ⟨.int (g i j),H,I.tok _,⟨_,rfl⟩,q⟩
theorem opB0{f:Value->Value->Sem Value}{g:Int->Int->Bool}
 (rule:∀(i j:Int) (t u:Tok) (s:Shared) (Q:Value->Shared->Prop) (E:Value->Shared->Prop),Q (.bool (g i j)) s->wpAny (model X.prog X.w) X.A (f (.int i t) (.int j u)) Q E s) :
 OpR X f (rI0 fun i j=>.bl (g i j)):=by
 intro pins s σ H x y v u Q I rx ry h
 obtain⟨i,j,rfl,rfl,q⟩:=h
 obtain⟨t,rfl⟩:=rx
 obtain⟨t',rfl⟩:=ry
 exact rule i j t t' s _ _ ⟨.bl (g i j),H,I,rfl,q⟩
noncomputable def CDiv(i j:Int):Prop:=0<j/\j<1073741824
noncomputable def CPow(i j:Int):Prop:=0<=j/\j<=1000000/\i.natAbs<2 ^ 64
noncomputable def CMul(i j:Int):Prop:=(-(2 ^ 64)<i/\i<2 ^ 64)\/(-(2 ^ 64)<j/\j<2 ^ 64)
theorem CMul.ok{i j:Int}(h:CMul i j):IntMulOk i j:=by
 rcases h with⟨h1,h2⟩ | ⟨h1,h2⟩
 · exact .of_left (intBits_le_64 h1 h2)
 · exact .of_right (intBits_le_64 h1 h2)
theorem op_add:OpR X (binaryOp .Add) (rI0 fun i j=>.int (i+j)):=opI0 fun _ _ _ _ _ _ _ q=>add_int q
theorem op_mul:OpR X (binaryOp .Mult) (rI CMul fun i j=>.int (i * j)):=opI fun _ _ _ _ _ _ _ hc q=>mul_int q hc.ok
theorem op_fdiv:OpR X (binaryOp .FloorDiv) (rI CDiv fun i j=>.int (i / j)):=opI fun i j _ _ _ _ _ hc q=>by
 have h1:(0:Int)<j:=hc.1
 have h2:j<1073741824:=hc.2
 exact floordiv_int (by omega) (by rw[Int.fdiv_eq_ediv_of_nonneg i (by omega)];exact q) (.inl (PyProof.noPylong_small (by omega)))
theorem op_mod:OpR X (binaryOp .Mod) (rI (fun _ j=>0<j) fun i j=>.int (i % j)):=opI fun i j _ _ _ _ _ hc q=>by
 have h1:(0:Int)<j:=hc
 exact mod_int' (by omega) (by rw[Int.fmod_eq_emod_of_nonneg i (by omega)];exact q)
theorem op_pow:OpR X (binaryOp .Pow) (rI CPow fun i j=>.int (i ^ j.toNat)):=opI fun _ _ _ _ _ _ _ hc q=>pow_int_small hc.1 hc.2.1 hc.2.2 q
theorem unI{f:Value->Sem Value}{g:Int->Int}
 (rule:∀(i:Int) (t:Tok) (s:Shared) (Q:Value->Shared->Prop) (E:Value->Shared->Prop),Q (.int (g i) s.toks) { s with toks:=s.toks+1 }->wpAny (model X.prog X.w) X.A (f (.int i t)) Q E s) :
 UnR X f (rU fun i=>.int (g i)):=by
 intro pins s σ H x v Q I rx h
 obtain⟨i,rfl,q⟩:=h
 obtain⟨t,rfl⟩:=rx
 exact rule i t s _ _ ⟨.int (g i),H,I.tok _,⟨_,rfl⟩,q⟩
theorem un_neg:UnR X (unaryOp .USub) (rU fun i=>.int (-i)):=unI fun _ _ _ _ _ q=>neg_int q
end
noncomputable def scal:V->V->Bool
 | .non,.non=>true | .non,.int _=>true | .int _,.non=>true | .non,.bl _=>true | .bl _,.non=>true | .non,.str _=>true | .str _,.non=>true
 | .int _,.int _=>true | .bl _,.bl _=>true | .str _,.str _=>true | .byt _,.byt _=>true
 | .int _,.str _=>true | .str _,.int _=>true | .bl _,.str _=>true | .str _,.bl _=>true
 | _,_=>false
noncomputable def rEq:R2:=fun x y H Q=>scal x y=true/\Q (.bl (decide (x=y))) H
noncomputable def rNe:R2:=fun x y H Q=>scal x y=true/\Q (.bl (!decide (x=y))) H
theorem dec_int{i j:Int}:decide (V.int i=V.int j)=(i == j):=by
 rw[Bool.eq_iff_iff]
 simp
theorem dec_bl{i j:Bool}:decide (V.bl i=V.bl j)=(i == j):=by
 rw[Bool.eq_iff_iff]
 simp
theorem dec_str{i j:Str}:decide (V.str i=V.str j)=(i == j):=by
 rw[Bool.eq_iff_iff]
 simp
theorem dec_byt{i j:Array UInt8}:decide (V.byt i=V.byt j)=(i.toList == j.toList):=by
 rw[Bool.eq_iff_iff]
 cases i
 cases j
 simp
section
variable {X:Cx} {a b c:Expr} {ta tb tc:TE} {pos:Pos}
theorem fin_bl{pins:List (Addr×Obj)}{σ:St}{H:Hp}{s:Shared}{Q:VK}{k k':Bool}(I:Inv X pins σ H s)(q:Q (.bl k) H)(e:k=k'):EP X pins σ Q (.bool k') s:=by
 subst e
 exact⟨.bl k,H,I,rfl,q⟩
theorem op_eq:OpR X (compareOp .Eq) rEq:=by
 intro pins s σ H x y v u Q I rx ry h
 obtain⟨hs,q⟩:=h
 cases x with
 | non=>
  cases rx
  cases y with
  | non=>cases ry;exact PySem.EqNone.eq_none_none (fin_bl I q (by simp))
  | bl j=>cases ry;exact PySem.EqNone.eq_none_bool (fin_bl I q (by simp))
  | int j=>obtain⟨t',rfl⟩:=ry;exact PySem.EqNone.eq_none_int (fin_bl I q (by simp))
  | str j=>obtain⟨t',rfl⟩:=ry;exact PySem.EqNone.eq_none_str (fin_bl I q (by simp))
  | _=>exact absurd (show false=true from hs) Bool.false_ne_true
 | bl i=>
  cases rx
  cases y with
  | non=>cases ry;exact PySem.EqNone.eq_bool_none (fin_bl I q (by simp))
  | bl j=>cases ry;exact eq_bool (fin_bl I q dec_bl)
  | str j=>obtain⟨t',rfl⟩:=ry;exact PySem.EqMixed.eq_bool_str (fin_bl I q (by simp))
  | _=>exact absurd (show false=true from hs) Bool.false_ne_true
 | int i=>
  obtain⟨t,rfl⟩:=rx
  cases y with
  | non=>cases ry;exact PySem.EqNone.eq_int_none (fin_bl I q (by simp))
  | int j=>obtain⟨t',rfl⟩:=ry;exact eq_int (fin_bl I q dec_int)
  | str j=>obtain⟨t',rfl⟩:=ry;exact PySem.EqMixed.eq_int_str (fin_bl I q (by simp))
  | _=>exact absurd (show false=true from hs) Bool.false_ne_true
 | str i=>
  obtain⟨t,rfl⟩:=rx
  cases y with
  | non=>cases ry;exact PySem.EqNone.eq_str_none (fin_bl I q (by simp))
  | bl j=>cases ry;exact PySem.EqMixed.eq_str_bool (fin_bl I q (by simp))
  | int j=>obtain⟨t',rfl⟩:=ry;exact PySem.EqMixed.eq_str_int (fin_bl I q (by simp))
  | str j=>obtain⟨t',rfl⟩:=ry;exact eq_str (fin_bl I q dec_str)
  | _=>exact absurd (show false=true from hs) Bool.false_ne_true
 | byt i=>
  obtain⟨t,rfl⟩:=rx
  cases y with
  | byt j=>obtain⟨t',rfl⟩:=ry;exact PySem.W.eq_bytes (fin_bl I q dec_byt)
  | _=>exact absurd (show false=true from hs) Bool.false_ne_true
 | _=>cases y<;>exact absurd (show false=true from hs) Bool.false_ne_true
theorem op_ne:OpR X (compareOp .NotEq) rNe:=by
 intro pins s σ H x y v u Q I rx ry h
 obtain⟨hs,q⟩:=h
 cases x with
 | non=>
  cases rx
  cases y with
  | non=>cases ry;exact PySem.EqNone.ne_none_none (fin_bl I q (by simp))
  | bl j=>cases ry;exact PySem.EqNone.ne_none_bool (fin_bl I q (by simp))
  | int j=>obtain⟨t',rfl⟩:=ry;exact PySem.EqNone.ne_none_int (fin_bl I q (by simp))
  | str j=>obtain⟨t',rfl⟩:=ry;exact PySem.EqNone.ne_none_str (fin_bl I q (by simp))
  | _=>exact absurd (show false=true from hs) Bool.false_ne_true
 | bl i=>
  cases rx
  cases y with
  | non=>cases ry;exact PySem.EqNone.ne_bool_none (fin_bl I q (by simp))
  | bl j=>cases ry;exact ne_bool (fin_bl I q (congrArg not dec_bl))
  | str j=>obtain⟨t',rfl⟩:=ry;exact PySem.EqMixed.ne_bool_str (fin_bl I q (by simp))
  | _=>exact absurd (show false=true from hs) Bool.false_ne_true
 | int i=>
  obtain⟨t,rfl⟩:=rx
  cases y with
  | non=>cases ry;exact PySem.EqNone.ne_int_none (fin_bl I q (by simp))
  | int j=>obtain⟨t',rfl⟩:=ry;exact ne_int (fin_bl I q (congrArg not dec_int))
  | str j=>obtain⟨t',rfl⟩:=ry;exact PySem.EqMixed.ne_int_str (fin_bl I q (by simp))
  | _=>exact absurd (show false=true from hs) Bool.false_ne_true
 | str i=>
  obtain⟨t,rfl⟩:=rx
  cases y with
  | non=>cases ry;exact PySem.EqNone.ne_str_none (fin_bl I q (by simp))
  | bl j=>cases ry;exact PySem.EqMixed.ne_str_bool (fin_bl I q (by simp))
  | int j=>obtain⟨t',rfl⟩:=ry;exact PySem.EqMixed.ne_str_int (fin_bl I q (by simp))
  | str j=>obtain⟨t',rfl⟩:=ry;exact ne_str (fin_bl I q (congrArg not dec_str))
  | _=>exact absurd (show false=true from hs) Bool.false_ne_true
 | byt i=>
  obtain⟨t,rfl⟩:=rx
  cases y with
  | byt j=>obtain⟨t',rfl⟩:=ry;exact PySem.W.ne_bytes (fin_bl I q (congrArg not dec_byt))
  | _=>exact absurd (show false=true from hs) Bool.false_ne_true
 | _=>cases y<;>exact absurd (show false=true from hs) Bool.false_ne_true
theorem op_lt:OpR X (compareOp .Lt) (rI0 fun i j=>.bl (decide (i<j))):=opB0 fun _ _ _ _ _ _ _ q=>lt_int q
theorem op_gt:OpR X (compareOp .Gt) (rI0 fun i j=>.bl (decide (j<i))):=opB0 fun _ _ _ _ _ _ _ q=>gt_int q
theorem op_isN:OpR X (compareOp .Is) (fun x y H Q=>y = .non/\Q (.bl (decide (x = .non))) H):=by
 intro pins s σ H x y v u Q I rx ry h
 obtain⟨rfl,q⟩:=h
 cases ry
 refine is_none_gen (fin_bl I q ?_)
 cases x<;>first
  | (cases rx;rfl)
  | (obtain⟨t,rfl⟩:=rx;rfl)
theorem op_notN:OpR X (compareOp .IsNot) (fun x y H Q=>y = .non/\Q (.bl (!decide (x = .non))) H):=by
 intro pins s σ H x y v u Q I rx ry h
 obtain⟨rfl,q⟩:=h
 cases ry
 refine isnot_none_gen (fin_bl I q ?_)
 cases x<;>first
  | (cases rx;rfl)
  | (obtain⟨t,rfl⟩:=rx;rfl)
theorem nomark(b:Expr){op:CmpOp}(h:op≠.In:=by decide)(h2:op≠.NotIn:=by decide):behindInMarks op b=false:=by
 have e1:(op == CmpOp.In)=false:=by cases op<;>first | rfl | exact absurd rfl h
 have e2:(op == CmpOp.NotIn)=false:=by cases op<;>first | rfl | exact absurd rfl h2
 cases b<;>simp[behindInMarks,e1,e2]
theorem pe_cmpR{op:CmpOp}{r:R2}(ho:OpR X (compareOp op) r)(ha:PE X a ta)(hb:PE X b tb)(hm:behindInMarks op b=false):PE X (.Compare a [op] [b] pos) (tOp r ta tb):=by
 intro pins s σ H Q I h
 exact wpAny_Compare1 (binT ha hb I h fun v u s2 x y H2 I2 rx ry q=>ho pins s2 σ H2 x y v u Q I2 rx ry q) hm
noncomputable def tTest(t:TE):TT:=fun σ H Q=>t σ H fun x H'=>∃k,x = .bl k/\Q k H'
theorem pt_cmpR{op:CmpOp}{r:R2}(ho:OpR X (compareOp op) r)(ha:PE X a ta)(hb:PE X b tb)(hm:behindInMarks op b=false):PT X (.Compare a [op] [b] pos) (tTest (tOp r ta tb)):=by
 intro pins s σ H Q I h
 refine wpAny_isTrue_Compare1 (thn (ha pins s σ H _ I h) fun v s1 zq76=>zq76.elim fun x zq77=>zq77.elim fun H1 zq78=>zq78.elim fun I1 zq79=>zq79.elim fun r1 q1=>thn (hb pins s1 σ H1 _ I1 q1) fun u s2 zq80=>zq80.elim fun y zq81=>zq81.elim fun H2 zq82=>zq82.elim fun I2 zq83=>zq83.elim fun r2 q2=>
  thn (ho pins s2 σ H2 x y v u _ I2 r1 r2 q2) fun c s3 zq84=>zq84.elim fun z zq85=>zq85.elim fun H3 zq86=>zq86.elim fun I3 zq87=>zq87.elim fun r3 zq88=>zq88.elim fun k zq89=>zq89.elim fun e q3=>?_) hm
 subst e
 cases r3
 exact wpAny_truthy_bool ⟨H3,I3,q3⟩
theorem line63:(sizeLine:Nat)<2 ^ 63:=by rw[sizeLine_eq];decide
theorem op_add_str:OpR X (binaryOp .Add) (fun x y H Q=>∃i j,x = .str i/\y = .str j/\i.length+j.length<=sizeLine/\Q (.str (i++j)) H):=by
 intro pins s σ H x y v u Q I rx ry h
 obtain⟨i,j,rfl,rfl,hz,q⟩:=h
 obtain⟨t,rfl⟩:=rx
 obtain⟨t',rfl⟩:=ry
 exact add_str (fun t' tk=>⟨.str (i++j),H,I.tok _,⟨_,rfl⟩,q⟩) hz
theorem vals1{x:V}{us:List Value}(r:Vals [x] us):∃u,us = [u]/\RelV x u:=by
 cases r with
 | cons r1 r2=>cases r2;exact⟨_,rfl,r1⟩
theorem vals2{x y:V}{us:List Value}(r:Vals [x,y] us):∃u w',us = [u,w']/\RelV x u/\RelV y w':=by
 cases r with
 | cons r1 r2=>
  cases r2 with
  | cons r3 r4=>cases r4;exact⟨_,_,rfl,r1,r3⟩
end
end L2
namespace L2
open PySem PySem.Spec PyProof.Rows
structure ObjM(h:Heap)(x dx C:Addr)(mA:Str->Option Value):Prop where
 obj:h.get? x=some (PySem.W.instObj C dx)
 ns:h.Ns1 dx mA
 ne:dx≠x
theorem lookIn_ns{h:Heap}{dx:Addr}{mA:Str->Option Value}(n:h.Ns1 dx mA):∃od,h.get? dx=some od/\∀name,PySem.W.lookIn name od=some (mA name):=by
 obtain⟨o,es,ep,ho,hd,hk,_,hm⟩:=n
 refine⟨o,ho,fun name=>?_⟩
 have e:=hm name
 unfold nsFind findBy at e
 rw[←Array.find?_toList]at e
 unfold PySem.W.lookIn
 rw[hd]
 dsimp only
 split
 · rename_i y q
   rw[q]at e
   exact congrArg some e
 · rename_i q
   rw[q]at e
   have a:es.toList.any (·.refKey)=false:=by
    rw[List.any_eq_false]
    intro y hy
    obtain⟨z,t,hkey⟩:=hk y (Array.mem_toList_iff.mp hy)
    simp[DictEntry.refKey,hkey]
   have a':¬es.toList.any (·.refKey)=true:=by rw[a];exact Bool.false_ne_true
   rw[if_neg a']
   exact congrArg some e
theorem ObjM.look{h:Heap}{x dx C:Addr}{mA:Str->Option Value}(I:ObjM h x dx C mA):∃od,PySem.W.InstAt h x (PySem.W.instObj C dx) C (some od)/\∀name,PySem.W.lookIn name od=some (mA name):=
 (lookIn_ns I.ns).elim fun od zq484=>zq484.elim fun ho hl=>⟨od,⟨I.obj,rfl,rfl,ho⟩,hl⟩
section
variable {prog:Program} {w:World} {A:Around} {E:Value->Shared->Prop} {s:Shared} {K:PySem.W.Frag} {x dx C f:Addr} {mA:Str->Option Value} {name:Str} {v:Value}
theorem get_map{expr:Bool}{Q:Value->Shared->Prop}(X:K.In s.heap)(I:ObjM s.heap x dx C mA)(hg:PySem.W.plainGet K C name=true)(hh:PySem.W.hasDictIn K C=true)
 (ha:PySem.W.findIn K (.ref C) name=some none) (hv:mA name=some v) (hv':PySem.W.handedIn v=true) (h:Q v { s with toks:=s.toks+1 }) :
 wpAny (model prog w) A (getAttr (.ref x) name expr) Q E s:=by
 obtain⟨od,J,hl⟩:=I.look
 exact PySem.W.get_value X J (PySem.W.plainGet_of hg).1 (PySem.W.findObj_own hh ha rfl (by rw[hl,hv])) hv' h
theorem get_meth{pl:Sem Bool}{Q:Value×List Value->Shared->Prop}(X:K.In s.heap)(I:ObjM s.heap x dx C mA)(hg:PySem.W.plainGet K C name=true)
 (hf:PySem.W.findIn K (.ref C) name=some (some (.ref f))) (ht:PySem.W.isFn K (.ref f)=true) (hv:mA name=none) (h:Q (.ref f,[.ref x]) s) :
 wpAny (model prog w) A (getMethod (.ref x) name pl) Q E s:=by
 obtain⟨od,J,hl⟩:=I.look
 exact PySem.W.method_fn X J (PySem.W.plainGet_of hg).1 (PySem.W.plainGet_of hg).2 hf (beq_iff_eq.mp ht) (by show(PySem.W.lookIn name od).map (·.isSome)=some false;rw[hl,hv];rfl) h
theorem set_map{ns:List Str}{Q:Unit->Shared->Prop}(X:K.In s.heap)(I:ObjM s.heap x dx C mA)
 (hs:PySem.W.findIn K (.ref C) "__setattr__" = some (some (.builtin "object.__setattr__"))) (hp:PySem.W.plainOver K C=true) (ht:PySem.W.takerIn K C name=some none) (hh:PySem.W.hasDictIn K C=true)
 (hw:PySem.Within mA ns) (hsz:ns.length<=sizeLine)
 (h:∀h',ObjM h' x dx C (fun y=>if y=name then some v else mA y)->Heap.SameBut dx s.heap h'->Q () { s with heap:=h',toks:=s.toks+2 }) :
 wpAny (model prog w) A (setAttr (.ref x) name v) Q E s:=by
 obtain⟨od,J,hl⟩:=I.look
 refine PySem.W.set_plain X J hs (PySem.W.osa_open (s:={ s with toks:=s.toks+1 }) (r:=none) X J hp ht fun b=>?_)
 obtain⟨cd,hc,hd'⟩:=PySem.W.any_some hh
 have hx:s.heap.get? x=some ⟨.ref C,some dx,.plain,#[]⟩:=I.obj
 refine wpAny_bind (wpAny_pure (wpAny_bind (wpAny_bind (wpAny_loadPart hx (wpAny_bind (PySem.W.Looks.here (s:={ s with toks:=s.toks+1 }) (PySem.W.looks_clsIn X hc) ?_))))))
 rw[hd']
 refine wpAny_pure (a:=some dx) (wpAny_bind (wpAny_pure (wpAny_bind ?_)))
 refine wpAny_nsSet1 (s:={ s with toks:=s.toks+1 }) I.ns fun h' hn2 hs2=>?_
 obtain⟨oD,esD,epD,hoD,hdD,hcD⟩:=hn2.count (PySem.Within.cons name v hw)
 refine wpAny_bind (wpAny_lookBehind hoD (by rw[hdD];exact pastItsLine_dict (Nat.le_trans hcD (by rw[List.length_cons];omega))) ?_)
 exact wpAny_pure (h _ ⟨(hs2.2 _ (Ne.symm I.ne)).trans I.obj,hn2,I.ne⟩ hs2)
theorem make_map{R:Result->Shared->Prop}{vs:List Value}{kw:List (Str×Value)}(X:K.In s.heap)(hm:PySem.W.makesIn K C=true)
 (hi:PySem.W.findIn K (.ref C) "__init__" = some (some (.ref f))) (hf:PySem.W.typeIn K (.ref f)=some (.type "function"))
 (h:codeAny (model prog w) (A.under (.builtin "type.__call__" ⟨.ref C::vs,kw⟩)) (.call (.ref f) ⟨.ref (s.heap.objs.size+1)::vs,kw⟩) (PySem.W.InitBack (s.heap.objs.size+1) R)
  { s with heap:=(s.heap.push PySem.W.emptyDict).push (PySem.W.instObj C s.heap.objs.size) }) :
 codeAny (model prog w) A (.call (.ref C) ⟨vs,kw⟩) R s:=by
 obtain⟨hh,g,d,t,os⟩:=s
 exact PySem.W.make_core (PySem.W.makes_of X hm) (PySem.W.looks_findIn X hi) (fun self=>PySem.W.bind_fn X self hf) (.inl rfl) h
end
noncomputable def putF(f:Str)(v:V):List (Str×V)->List (Str×V)
 | []=>[(f,v)]
 | (g,x)::r=>if g=f then(g,v)::r else(g,x)::putF f v r
theorem lookup_putF(f g:Str)(v:V):∀fs:List (Str×V),(putF f v fs).lookup g=if g=f then some v else fs.lookup g
 | []=>by
  show List.lookup g [(f,v)]=_
  by_cases h:g=f
  · have hb:(g == f)=true:=beq_iff_eq.mpr h
    simp only[List.lookup,hb,if_pos h]
  · have hb:(g == f)=false:=beq_eq_false_iff_ne.mpr h
    simp only[List.lookup,hb,if_neg h]
 | (k,x)::r=>by
  have ih:=lookup_putF f g v r
  rw[show putF f v ((k,x)::r)=(if k=f then(k,v)::r else(k,x)::putF f v r) from rfl]
  by_cases hk:k=f
  · rw[if_pos hk]
    by_cases h:g=k
    · have hb:(g == k)=true:=beq_iff_eq.mpr h
      simp only[List.lookup,hb,if_pos (h.trans hk)]
    · have hb:(g == k)=false:=beq_eq_false_iff_ne.mpr h
      simp only[List.lookup,hb,if_neg (fun e:g=f=>h (e.trans hk.symm))]
  · rw[if_neg hk]
    by_cases h:g=k
    · have hb:(g == k)=true:=beq_iff_eq.mpr h
      simp only[List.lookup,hb,if_neg (fun e:g=f=>hk (h.symm.trans e))]
    · have hb:(g == k)=false:=beq_eq_false_iff_ne.mpr h
      simp only[List.lookup,hb]
      exact ih
theorem keys_putF(f:Str)(v:V):∀fs:List (Str×V),f∈(putF f v fs).map (·.1)/\∀g,g∈fs.map (·.1)->g∈(putF f v fs).map (·.1)
 | []=>⟨by simp[putF],fun g h=>by simp at h⟩
 | (k,x)::r=>by
  obtain⟨i1,i2⟩:=keys_putF f v r
  rw[show putF f v ((k,x)::r)=(if k=f then(k,v)::r else(k,x)::putF f v r) from rfl]
  by_cases hk:k=f
  · rw[if_pos hk]
    subst hk
    exact⟨by simp,fun g h=>by simpa using h⟩
  · rw[if_neg hk]
    refine⟨?_,fun g h=>?_⟩
    · rw[List.map_cons]
      exact List.mem_cons_of_mem _ i1
    · rw[List.map_cons]at h ⊢
      rcases List.mem_cons.mp h with e | e
      · exact List.mem_cons.mpr (.inl e)
      · exact List.mem_cons_of_mem _ (i2 g e)
theorem length_putF(f:Str)(v:V):∀fs:List (Str×V),(putF f v fs).length<=fs.length+1
 | []=>by simp[putF]
 | (k,x)::r=>by
  have ih:=length_putF f v r
  rw[show putF f v ((k,x)::r)=(if k=f then(k,v)::r else(k,x)::putF f v r) from rfl]
  by_cases hk:k=f
  · rw[if_pos hk,List.length_cons,List.length_cons];omega
  · rw[if_neg hk,List.length_cons,List.length_cons];omega
theorem RelO.some_of{v:V}{o:Option Value}(r:RelO (some v) o):∃u,o=some u/\RelV v u:=by
 cases o with
 | none=>exact(show False from r).elim
 | some u=>exact⟨u,rfl,r⟩
theorem RelO.none_of{o:Option Value}(r:RelO none o):o=none:=by
 cases o with
 | none=>rfl
 | some u=>exact(show False from r).elim
theorem handed_of{v:V}{u:Value}(r:RelV v u):PySem.W.handedIn u=true:=by
 cases v with
 | non=>cases (show u=Value.none from r);rfl
 | bl b=>cases (show u=Value.bool b from r);rfl
 | int i=>obtain⟨t,e⟩:=(show∃t,u=Value.int i t from r);cases e;rfl
 | str x=>obtain⟨t,e⟩:=(show∃t,u=Value.str x t from r);cases e;rfl
 | byt b=>obtain⟨t,e⟩:=(show∃t,u=Value.bytes b t from r);cases e;rfl
 | flt b=>obtain⟨t,e⟩:=(show∃t,u=Value.float b t from r);cases e;rfl
 | ref a=>cases (show u=Value.ref a from r);rfl
 | ty n=>cases (show u=Value.type n from r);rfl
section
variable {P:Program} {w:World} {H H':Hp} {h h':Heap} {a C dx:Addr} {fs fs':List (Str×V)}
theorem ins_get(hok:HOk P w H h)(e:H a=some (.ins C dx fs)):∃mA,ObjM h a dx C mA/\(∀f,RelO (fs.lookup f) (mA f))/\PySem.Within mA (fs.map (·.1))/\fs.length<=1000/\H dx=some (.own a):=by
 obtain⟨d,z,ne,ob,mA,n,r,q⟩:=(show ObjOk P w H h a (.ins C dx fs) from hok a _ e)
 exact⟨mA,⟨ob,n,ne⟩,r,q,z,d⟩
end
structure Cls(K:PySem.W.Frag)(C:Addr):Prop where
 pg:PySem.W.plainGet K C Str.empty=true
 hd:PySem.W.hasDictIn K C=true
 po:PySem.W.plainOver K C=true
 sa:PySem.W.findIn K (.ref C) "__setattr__" = some (some (.builtin "object.__setattr__"))
theorem Cls.get{K:PySem.W.Frag}{C:Addr}(c:Cls K C)(f:Str):PySem.W.plainGet K C f=true:=c.pg
noncomputable def NoAttr(K:PySem.W.Frag)(C:Addr)(f:Str):Prop:=PySem.W.findIn K (.ref C) f=some none
theorem NoAttr.taker{K:PySem.W.Frag}{C:Addr}{f:Str}(n:NoAttr K C f):PySem.W.takerIn K C f=some none:=by
 unfold PySem.W.takerIn
 rw[show PySem.W.findIn K (.ref C) f=some none from n]
 rfl
structure Meth(K:PySem.W.Frag)(C:Addr)(m:Str)(f:Addr):Prop where
 at_:PySem.W.findIn K (.ref C) m=some (some (.ref f))
 fn:PySem.W.isFn K (.ref f)=true
 kp:PySem.W.keepIn K (.ref f)=true
section
variable {X:Cx} {pins:List (Addr×Obj)} {σ:St} {H:Hp} {s:Shared} {a C dx:Addr} {fs:List (Str×V)} {f:Str} {v:V} {A:Around} {E:Value->Shared->Prop}
theorem getattr_ok{b:Bool}{Q:Value->Shared->Prop}(I:Inv X pins σ H s)(e:H a=some (.ins C dx fs))(c:Cls X.K C)(n:NoAttr X.K C f)(l:fs.lookup f=some v)
 (h:∀u s',Inv X pins σ H s'->RelV v u->Q u s'):wpAny (model X.prog X.w) A (getAttr (.ref a) f b) Q E s:=by
 obtain⟨mA,O,r,_,_,_⟩:=ins_get I.hok e
 obtain⟨u,hu,ru⟩:=RelO.some_of (v:=v) (o:=mA f) (by rw[←l];exact r f)
 exact get_map I.kIn O (c.get f) c.hd n hu (handed_of ru) (h u _ (I.tok _) ru)
theorem getmeth_ok{m:Str}{g:Addr}{pl:Sem Bool}{Q:Value×List Value->Shared->Prop}(I:Inv X pins σ H s)(e:H a=some (.ins C dx fs))(c:Cls X.K C)(k:Meth X.K C m g)(l:fs.lookup m=none)
 (h:Q (.ref g,[.ref a]) s):wpAny (model X.prog X.w) A (getMethod (.ref a) m pl) Q E s:=by
 obtain⟨mA,O,r,_,_,_⟩:=ins_get I.hok e
 have hn:mA m=none:=RelO.none_of (by rw[←l];exact r m)
 exact get_meth I.kIn O (c.get m) k.at_ k.fn hn h
theorem setattr_ok{y:V}{u:Value}{Q:Unit->Shared->Prop}(I:Inv X pins σ H s)(e:H a=some (.ins C dx fs))(c:Cls X.K C)(n:NoAttr X.K C f)(hl:fs.length<1000)(ry:RelV y u)
 (h:∀s',Inv X pins σ (upd H a (.ins C dx (putF f y fs))) s'->Q () s'):wpAny (model X.prog X.w) A (setAttr (.ref a) f u) Q E s:=by
 obtain⟨mA,O,r,wi,_,ho⟩:=ins_get I.hok e
 have hz:(fs.map (·.1)).length<=sizeLine:=by rw[List.length_map,sizeLine_eq];omega
 refine set_map I.kIn O c.sa c.po n.taker c.hd wi hz fun h' O' sb=>h _ ?_
 have hd:∃o,h'.get? dx=some o:=O'.ns.elim fun o zq485=>zq485.elim fun _ zq486=>zq486.elim fun _ zq487=>zq487.elim fun e' _=>⟨o,e'⟩
 refine I.write (x:=a) (e:=dx) (by rw[e];exact True.intro) (.inr ho) (fun b q hb z=>(sb.2 b hb).trans z) hd ?_
 refine⟨by rw[upd_ne O.ne];exact ho,?_,O.ne,O'.obj,_,O'.ns,fun g=>?_,fun g hg=>?_⟩
 · have:=length_putF f y fs;omega
 · show RelO ((putF f y fs).lookup g) (if g=f then some u else mA g)
   rw[lookup_putF]
   by_cases q:g=f
   · rw[if_pos q,if_pos q];exact ry
   · rw[if_neg q,if_neg q];exact r g
 · by_cases q:g=f
   · rw[q];exact(keys_putF f y fs).1
   · refine(keys_putF f y fs).2 g (wi g fun z=>hg ?_)
     show(if g=f then some u else mA g)=none
     rw[if_neg q];exact z
theorem Inv.made(I:Inv X pins σ H s):Inv X pins σ (upd (upd H s.heap.objs.size (.own (s.heap.objs.size+1))) (s.heap.objs.size+1) (.ins C s.heap.objs.size []))
 { s with heap:=(s.heap.push PySem.W.emptyDict).push (PySem.W.instObj C s.heap.objs.size) }:=by
 have e1:(s.heap.push PySem.W.emptyDict).get? s.heap.objs.size=some PySem.W.emptyDict:=Heap.get?_push_size s.heap rfl
 have e2:((s.heap.push PySem.W.emptyDict).push (PySem.W.instObj C s.heap.objs.size)).get? (s.heap.objs.size+1)=some (PySem.W.instObj C s.heap.objs.size):=by
  have:=Heap.get?_push_size (s.heap.push PySem.W.emptyDict) (o:=PySem.W.instObj C s.heap.objs.size) rfl
  rwa [Heap.size_push]at this
 have e3:(s.heap.push PySem.W.emptyDict).Ns s.heap.objs.size (fun _=>none):=⟨PySem.W.emptyDict,#[],_,e1,rfl,(fun e he=>absurd he (by simp)),fun _=>rfl⟩
 have I1:=I.laid (a:=s.heap.objs.size) (o:=.own (s.heap.objs.size+1)) (h':=s.heap.push PySem.W.emptyDict) (t':=s.toks) (fun b u q=>Heap.get?_push_of_some _ q) (Nat.le_refl _) ⟨_,e1⟩
 refine I1.laid (a:=s.heap.objs.size+1) (o:=.ins C s.heap.objs.size []) (t':=s.toks) (fun b u q=>Heap.get?_push_of_some _ q) (Nat.le_of_eq (Heap.size_push _ _)) ?_
 have ne:s.heap.objs.size≠s.heap.objs.size+1:=Nat.ne_of_lt (Nat.lt_succ_self _)
 refine⟨by rw[upd_ne ne,upd_same],Nat.zero_le _,ne,e2,fun _=>none,(Heap.Ns1.of_empty e3).at fun o q=>Heap.get?_push_of_some _ q,fun _=>True.intro,fun y hy=>absurd rfl hy⟩
theorem attr_of{prog:Program}{w:World}{env:Env}{e:Expr}{f:Str}{pos:Pos}{s:Shared}{Q:Value->Shared->Prop}(hb:attributeBase e f env (eval e env)=eval e env)
 (h:wpAny (model prog w) A (eval e env) (fun o s₁=>wpAny (model prog w) A (getAttr o f true) Q E s₁) E s):wpAny (model prog w) A (eval (.Attribute e f pos) env) Q E s:=
 Attribute_any_ h (by rw[arm_eval_Attribute,hb])
end
noncomputable def tFld(K:PySem.W.Frag)(ta:TE)(f:Str):TE:=fun σ H Q=>ta σ H fun x H1=>∃a C dx fs v,x = .ref a/\H1 a=some (.ins C dx fs)/\Cls K C/\NoAttr K C f/\fs.lookup f=some v/\Q v H1
noncomputable def sFld(K:PySem.W.Frag)(ta tv:TE)(f:Str):TS:=fun D σ H=>tv σ H fun y H1=>ta σ H1 fun x H2=>∃a C dx fs,x = .ref a/\H2 a=some (.ins C dx fs)/\Cls K C/\NoAttr K C f/\fs.length<1000 /\
 D.nx σ (upd H2 a (.ins C dx (putF f y fs)))
section
variable {X:Cx} {o e value:Expr} {f:Str} {pos pos' tpos:Pos} {ta tv:TE}
theorem pe_fld(he:PE X e ta)(hb:attributeBase e f X.env (eval e X.env)=eval e X.env):PE X (.Attribute e f pos) (tFld X.K ta f):=by
 intro pins s σ H Q I h
 refine attr_of hb (thn (he pins s σ H _ I h) fun u s1 zq90=>zq90.elim fun x zq91=>zq91.elim fun H1 zq92=>zq92.elim fun I1 zq93=>zq93.elim fun rx zq94=>zq94.elim fun a zq95=>zq95.elim fun C zq96=>zq96.elim fun dx zq97=>zq97.elim fun fs zq98=>zq98.elim fun v zq99=>zq99.elim fun ex zq100=>zq100.elim fun ea zq101=>zq101.elim fun c zq102=>zq102.elim fun n zq103=>zq103.elim fun l q=>?_)
 subst ex
 obtain rfl:u=Value.ref a:=rx
 exact getattr_ok I1 ea c n l fun u' s2 I2 ru=>⟨v,H1,I2,ru,q⟩
theorem ps_fld(ha:PE X o ta)(hv:PE X value tv)(hs:swapsWith value (some (.Attribute o f pos')) pos.line X.env=pure false):PS X (.Assign [.Attribute o f pos'] value pos) (sFld X.K ta tv f):=by
 intro pins s σ H D I h
 refine plainObj_wpAny_Assign_Attribute (thn (hv pins s σ H _ I h) fun u s1 zq104=>zq104.elim fun y zq105=>zq105.elim fun H1 zq106=>zq106.elim fun I1 zq107=>zq107.elim fun ry q=>thn (ha pins s1 σ H1 _ I1 q) fun ov s2 zq108=>zq108.elim fun x zq109=>zq109.elim fun H2 zq110=>zq110.elim fun I2 zq111=>zq111.elim fun rx zq112=>zq112.elim fun a zq113=>zq113.elim fun C zq114=>zq114.elim fun dx zq115=>zq115.elim fun fs zq116=>zq116.elim fun ex zq117=>zq117.elim fun ea zq118=>zq118.elim fun c zq119=>zq119.elim fun n zq120=>zq120.elim fun l q2=>?_) hs
 subst ex
 obtain rfl:ov=Value.ref a:=rx
 exact setattr_ok I2 ea c n l ry fun s3 I3=>⟨σ,_,I3,q2⟩
end
section
variable {X:Cx} {pins:List (Addr×Obj)} {σ:St} {H:Hp} {s:Shared} {A:Around} {E:Value->Shared->Prop} {Q:Value->Shared->Prop} {c:Value} {b:Bool}
inductive TyOf (K:PySem.W.Frag) (H:Hp):V->Value->Prop where
 | non:TyOf K H .non (.type "NoneType")
 | bl (x:Bool):TyOf K H (.bl x) (.type "bool")
 | int (i:Int):TyOf K H (.int i) (.type "int")
 | str (x:Str):TyOf K H (.str x) (.type "str")
 | flt (x:UInt64):TyOf K H (.flt x) (.type "float")
 | lst {a:Addr} {xs:List V} (e:H a=some (.lst xs)):TyOf K H (.ref a) (.type "list")
 | frz {a:Addr} {o:Obj} {xs:List V} (e:H a=some (.frz o (.lst xs))):TyOf K H (.ref a) (.type "list")
 | tup {a:Addr} {xs:List V} (e:H a=some (.tup xs)):TyOf K H (.ref a) (.type "tuple")
 | dK {a:Addr} {kvs:List (Key×V)} (e:H a=some (.dK kvs)):TyOf K H (.ref a) (.type "dict")
 | dT {a:Addr} {kvs:List (List NI×V)} (e:H a=some (.dT kvs)):TyOf K H (.ref a) (.type "dict")
 | ins {a C dx:Addr} {fs:List (Str×V)} (e:H a=some (.ins C dx fs)) (cl:Cls K C) (ha:PySem.W.findIn K (.ref C) "__class__" = some (some (.builtin "object.__class__")))
  (hn:PySem.W.specialIn K (.builtin "object.__class__") "__get__" = some (some (.builtin "getset_descriptor.__get__"))) (htk:PySem.W.takesIn K (.builtin "object.__class__")=some true)
  (hm:PySem.W.mroIn K C (.type "object")=some true):TyOf K H (.ref a) (.ref C)
theorem isinst_ok{x:V}{u t:Value}(I:Inv X pins σ H s)(rx:RelV x u)(ty:TyOf X.K H x t)(e:PySem.W.kitOne X.K t c=some b)(h:∀tk,Q (.bool b) { s with toks:=tk }) :
 wpAny (model X.prog X.w) A (call (.builtin "isinstance") [u,c]) Q E s:=by
 cases ty with
 | non=>cases (show u=Value.none from rx);exact PySem.W.kia_one PySem.W.kitx_none I.kIn True.intro e (fun z=>nomatch z) h
 | bl y=>cases (show u=Value.bool y from rx);exact PySem.W.kia_one PySem.W.kitx_bool I.kIn True.intro e (fun z=>nomatch z) h
 | int i=>obtain⟨t,q⟩:=(show∃t,u=Value.int i t from rx);cases q;exact PySem.W.kia_one PySem.W.kitx_int I.kIn True.intro e (fun z=>nomatch z) h
 | str y=>obtain⟨t,q⟩:=(show∃t,u=Value.str y t from rx);cases q;exact PySem.W.kia_one PySem.W.kitx_str I.kIn True.intro e (fun z=>nomatch z) h
 | flt y=>obtain⟨t,q⟩:=(show∃t,u=Value.float y t from rx);cases q;exact PySem.W.kia_one PySem.W.kitx_float I.kIn True.intro e (fun z=>nomatch z) h
 | @lst a xs ea=>
  cases (show u=Value.ref a from rx)
  obtain⟨_,_,n,_,h1⟩:=(show ObjOk X.prog X.w H s.heap a (.lst xs) from I.hok a _ ea)
  exact PySem.W.kia_one PySem.W.kitx_list I.kIn ⟨_,h1,rfl⟩ e (fun z=>nomatch z) h
 | @frz a ob xs ea=>
  cases (show u=Value.ref a from rx)
  obtain⟨_,_,_,n,_,h1⟩:=(show ObjOk X.prog X.w H s.heap a (.frz ob (.lst xs)) from I.hok a _ ea)
  exact PySem.W.kia_one PySem.W.kitx_list I.kIn ⟨_,h1,rfl⟩ e (fun z=>nomatch z) h
 | @tup a xs ea=>
  cases (show u=Value.ref a from rx)
  obtain⟨_,_,_,p⟩:=(show ObjOk X.prog X.w H s.heap a (.tup xs) from I.hok a _ ea)
  obtain⟨o,h1,h2,_⟩:=p
  exact PySem.W.kia_one PySem.W.kitx_tuple I.kIn ⟨o,h1,h2⟩ e (fun z=>nomatch z) h
 | @dK a kvs ea=>
  cases (show u=Value.ref a from rx)
  obtain⟨_,_,vs,_,p⟩:=(show ObjOk X.prog X.w H s.heap a (.dK kvs) from I.hok a _ ea)
  obtain⟨o,es,ep,h1,h2,_⟩:=p
  exact PySem.W.kia_one PySem.W.kitx_dict I.kIn ⟨o,h1,h2.1⟩ e (fun z=>nomatch z) h
 | @dT a kvs ea=>
  cases (show u=Value.ref a from rx)
  obtain⟨_,_,xs,_,o,es,ep,h1,h2,_⟩:=(show ObjOk X.prog X.w H s.heap a (.dT kvs) from I.hok a _ ea)
  exact PySem.W.kia_one PySem.W.kitx_dict I.kIn ⟨o,h1,h2.1⟩ e (fun z=>nomatch z) h
 | @ins a C dx fs ea cl ha hn htk hm=>
  cases (show u=Value.ref a from rx)
  obtain⟨mA,O,_⟩:=ins_get I.hok ea
  obtain⟨od,J,_⟩:=O.look
  exact PySem.W.kia_one (PySem.W.kitx_own (cl.get _) cl.hd ha hn htk hm) I.kIn J e (fun z=>nomatch z) h
end
end L2
namespace L2
open PySem PySem.Spec PyProof.Rows
structure Room(k:Nat)(A:Around):Prop where
 hd:A.handled=none
 dp:A.depth+3 * k+5<recursionLimit
 un:A.units+16 * k+200<cLine
 gd:A.guards=some []
theorem Room.mono{j k:Nat}{A:Around}(r:Room k A)(h:j<=k):Room j A:=⟨r.hd,by have:=r.dp;omega,by have:=r.un;omega,r.gd⟩
theorem Room.deeper{k:Nat}{A:Around}(r:Room (k+1) A)(env:Env):Room k (A.deeper env):=
 ⟨r.hd,by have:=r.dp;show A.depth+1+3 * k+5<_;omega,by have:=r.un;show A.units+3+16 * k+200<_;omega,r.gd⟩
theorem Room.in1{k:Nat}{A:Around}(r:Room (k+1) A):Room k A.in1:=
 ⟨r.hd,by have:=r.dp;show A.depth+3 * k+5<_;omega,by have:=r.un;show A.units+1+16 * k+200<_;omega,r.gd⟩
theorem make_depth{A:Around}{C:Addr}{us:List Value}{kw:List (Str×Value)}:(A.under (.builtin "type.__call__" ⟨.ref C::us,kw⟩)).depth=A.depth+1:=by
 first | rfl | simp[Around.under,Code.weight,Code.isCreation,Code.isGuard,Code.isCaller,Code.frames,Code.isFrame,guardIds]
theorem make_units{A:Around}{C:Addr}{us:List Value}{kw:List (Str×Value)}:(A.under (.builtin "type.__call__" ⟨.ref C::us,kw⟩)).units=A.units+1:=by
 first | rfl | simp[Around.under,Code.cUnits,Code.frames,Code.isFrame]
theorem make_guards{A:Around}{C:Addr}{us:List Value}{kw:List (Str×Value)}:(A.under (.builtin "type.__call__" ⟨.ref C::us,kw⟩)).guards=A.guards:=by
 first | rfl | simp[Around.under,pushGuards,Code.guards,Code.isGuard,guardIds]
theorem Room.make{k:Nat}{A:Around}(r:Room (k+1) A)(C:Addr)(us:List Value)(kw:List (Str×Value)):Room k (A.under (.builtin "type.__call__" ⟨.ref C::us,kw⟩)):=
 ⟨r.hd,by have:=r.dp;rw[make_depth];omega,by have:=r.un;rw[make_units];omega,make_guards.trans r.gd⟩
theorem Room.depth{k:Nat}{A:Around}(r:Room k A):A.depth<recursionLimit:=by have:=r.dp;omega
theorem Room.units{k:Nat}{A:Around}(r:Room k A):A.units+64<cLine:=by have:=r.un;omega
theorem Room.units0{k:Nat}{A:Around}(r:Room k A):A.units<cLine:=by have:=r.un;omega
noncomputable def tNil:TA:=fun _ H Q=>Q [] H
noncomputable def tCons(ta:TE)(tr:TA):TA:=fun σ H Q=>ta σ H fun x H1=>tr σ H1 fun xs H2=>Q (x::xs) H2
section
variable {X:Cx} {e:Expr} {es:List Expr} {te:TE} {t:TA} {pos:Pos}
theorem pa_nil:PA X [] tNil:=fun _ _ _ _ H Q I h=>Calls.spliced_nil ⟨[],H,I,.nil,h⟩
theorem pa_cons(ha:PE X e te)(hr:PA X es t)(hs:starEach (e::es) X.env=(false,eval e X.env)::starEach es X.env:=by rfl):PA X (e::es) (tCons te t):=by
 intro pos pins s σ H Q I h
 rw[hs]
 show wpAny _ _ (spliced ((false,eval e X.env)::backTo pos (starEach es X.env))) _ _ s
 refine Calls.spliced_cons (thn (ha pins s σ H _ I h) fun u s1 zq121=>zq121.elim fun x zq122=>zq122.elim fun H1 zq123=>zq123.elim fun I1 zq124=>zq124.elim fun r1 q1=>?_)
 exact thn (hr pos pins s1 σ H1 _ I1 q1) fun us s2 zq125=>zq125.elim fun xs zq126=>zq126.elim fun H2 zq127=>zq127.elim fun I2 zq128=>zq128.elim fun r2 q2=>⟨x::xs,H2,I2,.cons r1 r2,q2⟩
noncomputable def tTup(t:TA):TE:=fun σ H Q=>t σ H fun xs H1=>xs.length<=sizeLine/\∀p,H1 p=none->Q (.ref p) (upd H1 p (.tup xs))
noncomputable def tLst(t:TA):TE:=fun σ H Q=>t σ H fun xs H1=>xs.length<=sizeLine/\∀p,H1 p=none->Q (.ref p) (upd H1 p (.lst xs))
theorem pe_tup{x1}(h:PA X es t):PE X (.Tuple es x1 pos) (tTup t):=by
 intro pins s σ H Q I hq
 refine wpAny_Tuple_spliced (thn (h pos pins s σ H _ I hq) fun us s1 zq129=>zq129.elim fun xs zq130=>zq130.elim fun H1 zq131=>zq131.elim fun I1 zq132=>zq132.elim fun r zq133=>zq133.elim fun z q=>⟨by rw[←r.length];exact z,?_⟩)
 have hf:H1 s1.heap.objs.size=none:=I1.hok.fresh (Nat.le_refl _)
 refine⟨.ref s1.heap.objs.size,upd H1 s1.heap.objs.size (.tup xs),I1.laid (t':=s1.toks) (fun b u e=>Heap.get?_push_of_some _ e) (Nat.le_refl _) ?_,rfl,q _ hf⟩
 exact⟨z,us,r,⟨_,Heap.get?_push_size _ rfl,rfl,_,rfl⟩⟩
theorem pe_lst(h:PA X es t):PE X (.List es pos) (tLst t):=by
 intro pins s σ H Q I hq
 refine wpAny_List_spliced (thn (h pos pins s σ H _ I hq) fun us s1 zq134=>zq134.elim fun xs zq135=>zq135.elim fun H1 zq136=>zq136.elim fun I1 zq137=>zq137.elim fun r zq138=>zq138.elim fun z q=>⟨by rw[←r.length];exact z,?_⟩)
 have hf:H1 s1.heap.objs.size=none:=I1.hok.fresh (Nat.le_refl _)
 refine⟨.ref s1.heap.objs.size,upd H1 s1.heap.objs.size (.lst xs),I1.laid (t':=s1.toks) (fun b u e=>Heap.get?_push_of_some _ e) (Nat.le_refl _) ?_,rfl,q _ hf⟩
 exact⟨z,us,0,r,Heap.get?_push_size _ rfl⟩
end
noncomputable abbrev Sp:=List V->Hp->VK->XK->Prop
noncomputable abbrev CXT:=List Env->Hp->Shared->XK->Value->Shared->Prop
structure Env0(P:Program)(w:World)(K:PySem.W.Frag)(mg:Str->Option Value)(base:Heap)(A:Around)(outer:List Env)(s:Shared)(H:Hp):Prop where
 frames:A.frames=some outer
 mod:Mod K mg base
 bs:∀b o,base.get? b=some o->s.heap.get? b=some o/\H b=none
 bsz:base.objs.size<=s.heap.objs.size
 funs:s.heap.FunFrames base outer
 frf:∀b∈frs outer,H b=none
 hok:HOk P w H s.heap
 bare:AllBare s.gens
noncomputable def CE(outer:List Env)(P:Program)(w:World)(H:Hp)(s:Shared)(Q:VK)(u:Value)(s':Shared):Prop:=
 ∃v H',s'.os=s.os/\AllBare s'.gens/\Un (frs outer) [] H H' s.heap s'.heap/\HOk P w H' s'.heap/\RelV v u/\Q v H'
noncomputable def CR(CX:CXT)(outer:List Env)(P:Program)(w:World)(H:Hp)(s:Shared)(Q:VK)(E:XK)(r:Result)(s':Shared):Prop:=
 match r with
 | .ok (.ret u)=>CE outer P w H s Q u s'
 | .ok _=>False
 | .error e=>CX outer H s E e s'
structure FnOk(P:Program)(w:World)(K:PySem.W.Frag)(mg:Str->Option Value)(base:Heap)(CX:CXT)(k:Nat)(f:Addr)(fd:FuncData)(ps:List Str)(sp:Sp):Prop where
 len:∀vs H Q E,sp vs H Q E->vs.length=ps.length
 run:∀(A:Around) (outer:List Env) (s:Shared) (H:Hp) (args:Args) (us:List Value) (vs:List V) (Q:VK) (E:XK),Room k A->Env0 P w K mg base A outer s H->BindsTo s fd args (ps.zip us)->Vals vs us->sp vs H Q E ->
  codeAny (model P w) A (.call (.ref f) args) (CR CX outer P w H s Q E) s
theorem FnOk.mono{P:Program}{w:World}{K:PySem.W.Frag}{mg:Str->Option Value}{base:Heap}{CX:CXT}{j k:Nat}{f:Addr}{fd:FuncData}{ps:List Str}{sp:Sp}(F:FnOk P w K mg base CX j f fd ps sp)(h:j<=k) :
 FnOk P w K mg base CX k f fd ps sp:=⟨F.len,fun A outer s H args us vs Q E hr=>F.run A outer s H args us vs Q E (hr.mono h)⟩
theorem Env0.make{P:Program}{w:World}{K:PySem.W.Frag}{mg:Str->Option Value}{base:Heap}{A:Around}{outer:List Env}{s:Shared}{H:Hp}(e:Env0 P w K mg base A outer s H)(C:Addr)(us:List Value)(kw:List (Str×Value)) :
 Env0 P w K mg base (A.under (.builtin "type.__call__" ⟨.ref C::us,kw⟩)) outer s H:=⟨by first | exact e.frames | (simpa [Around.under,Code.envs,Code.isFrame,pushEnvs]using e.frames),e.mod,e.bs,e.bsz,e.funs,e.frf,e.hok,e.bare⟩
theorem Env0.in1{P:Program}{w:World}{K:PySem.W.Frag}{mg:Str->Option Value}{base:Heap}{A:Around}{outer:List Env}{s:Shared}{H:Hp}(e:Env0 P w K mg base A outer s H) :
 Env0 P w K mg base A.in1 outer s H:=⟨e.frames,e.mod,e.bs,e.bsz,e.funs,e.frf,e.hok,e.bare⟩
section
variable {X:Cx} {pins:List (Addr×Obj)} {σ:St} {H:Hp} {s s':Shared}
theorem Inv.env0(I:Inv X pins σ H s):Env0 X.prog X.w X.K X.mg X.base X.A X.stack s H:=
 ⟨I.ok.frames,I.ok.mod,I.bs,Nat.le_trans I.ok.bsz I.sz,I.stack,I.stkFree,I.hok,I.bare⟩
theorem Inv.after{Q:VK}{u:Value}(I:Inv X pins σ H s)(h:CE X.stack X.prog X.w H s Q u s'):EP X pins σ Q u s':=by
 obtain⟨v,H',os,bare,un,hok,r,q⟩:=h
 obtain⟨hh,g,d,t,os'⟩:=s'
 obtain rfl:os'=s.os:=os
 exact⟨v,H',I.call (h':=hh) (g':=g) (d':=d) (t':=t) (ch:=[]) un hok bare (fun b z=>absurd z (by simp)),r,q⟩
end
noncomputable def tCall(sp:Sp)(dvs:List V)(E:XK)(t:TA):TE:=fun σ H Q=>t σ H fun vs H1=>sp (vs++dvs) H1 Q E
noncomputable def tMeth(C:Addr)(m:Str)(sp:Sp)(dvs:List V)(E:XK)(ta:TE)(t:TA):TE:=fun σ H Q=>ta σ H fun x H1=>∃a dx fs,x = .ref a/\H1 a=some (.ins C dx fs)/\fs.lookup m=none /\
 t σ H1 fun vs H2=>sp (x::(vs++dvs)) H2 Q E
noncomputable def tMake(C:Addr)(sp:Sp)(dvs:List V)(E:XK)(t:TA):TE:=fun σ H Q=>t σ H fun vs H1=>∀x dx,H1 x=none->H1 dx=none->dx≠x ->
 sp (.ref x::(vs++dvs)) (upd (upd H1 dx (.own x)) x (.ins C dx [])) (fun v H2=>v = .non/\Q (.ref x) H2) E
noncomputable def Binds(K:PySem.W.Frag)(fd:FuncData)(ps:List Str)(ds:List Value):Prop:=
 ∀(s:Shared) (us:List Value),K.In s.heap->(us++ds).length=ps.length->BindsTo s fd ⟨us,[]⟩ (ps.zip (us++ds))
theorem Binds.all{K:PySem.W.Frag}{fd:FuncData}{ps:List Str}(h:∀us:List Value,us.length=ps.length->bindArgs fd ⟨us,[]⟩=pure (ps.zip us)):Binds K fd ps []:=fun s us _ hl=>by
 rw[List.append_nil]at hl ⊢
 exact .of_eq (h us hl)
noncomputable def Passes(CX:CXT)(X:Cx)(E:XK):Prop:=∀(pins:List (Addr×Obj)) (σ:St) (H:Hp) (s:Shared) (e:Value) (s':Shared),Inv X pins σ H s->CX X.stack H s E e s'->X.xe e s'
section
variable {X:Cx} {CX:CXT} {k:Nat} {f C:Addr} {fd:FuncData} {ps:List Str} {sp:Sp} {dvs:List V} {ds:List Value} {E:XK} {x m:Str} {p pos apos:Pos} {e o:Expr} {es:List Expr} {ta:TE} {t:TA}
theorem run_fn{pins:List (Addr×Obj)}{σ:St}{H:Hp}{s:Shared}{Q:VK}{us:List Value}{vs:List V}(F:FnOk X.prog X.w X.K X.mg X.base CX k f fd ps sp)(hr:Room k X.A)(hb:Binds X.K fd ps ds)(hd:Vals dvs ds)(hx:Passes CX X E)
 (I:Inv X pins σ H s) (r:Vals vs us) (h:sp (vs++dvs) H Q E):wpAny (model X.prog X.w) X.A (call (.ref f) us) (EP X pins σ Q) X.xe s:=by
 have r2:Vals (vs++dvs) (us++ds):=r.append hd
 have hl:(us++ds).length=ps.length:=by rw[←r2.length];exact F.len _ _ _ _ h
 refine wpAny_call (codeAny_mono (F.run X.A X.stack s H ⟨us,[]⟩ (us++ds) (vs++dvs) Q E hr I.env0 (hb s us I.kIn hl) r2 h) fun r s' hq=>?_)
 cases r with
 | error e=>exact hx pins σ H s e s' I hq
 | ok fl=>
  cases fl with
  | ret u=>exact I.after hq
  | next=>exact False.elim hq
  | brk=>exact False.elim hq
  | cont=>exact False.elim hq
theorem pe_call(F:FnOk X.prog X.w X.K X.mg X.base CX k f fd ps sp)(hr:Room k X.A)(hg:Gl X x)(hm:X.mg x=some (.ref f))(hk:PySem.W.keepIn X.K (.ref f)=true)(hb:Binds X.K fd ps ds)(hd:Vals dvs ds)(hx:Passes CX X E)
 (ha:PA X (e::es) t) (hdb:(x == ("__debug__":Str))=false:=by decide) (he:starEach (e::es) X.env=(false,eval e X.env)::starEach es X.env:=by rfl) (hpl:(backTo pos (starEach es X.env)).any (·.1)=false:=by rfl) :
 PE X (.Call (.Name x p) (e::es) [] pos) (tCall sp dvs E t):=by
 intro pins s σ H Q I h
 refine wpAny_Call_Name_kw (ld_glob I hg hm ?_ hdb)
 refine PySem.W.callWith_K (h₀:=X.base) I.ok.mod.kin hk (thn (ha pos pins s σ H _ I h) fun us s1 zq139=>zq139.elim fun vs zq140=>zq140.elim fun H1 zq141=>zq141.elim fun I1 zq142=>zq142.elim fun r q=>⟨I1.kIn,?_⟩) he hpl
 exact run_fn F hr hb hd hx I1 r q
theorem pe_meth{pl:Sem Bool}(he:PE X o ta)(c:Cls X.K C)(hm:Meth X.K C m f)(F:FnOk X.prog X.w X.K X.mg X.base CX k f fd ps sp)(hr:Room k X.A)(hb:Binds X.K fd ps ds)(hd:Vals dvs ds)(hx:Passes CX X E)(ha:PA X (e::es) t)
 (hst:starEach (e::es) X.env=(false,eval e X.env)::starEach es X.env:=by rfl) (hpl:(backTo pos (starEach es X.env)).any (·.1)=false:=by rfl)
 (ht:eval (.Call (.Attribute o m apos) (e::es) [] pos) X.env=(do
  let ov ←eval o X.env
  standAt apos.atName
  let (f,first) ←holding [ov] (getMethod ov m pl)
  callWith pos f first (backTo pos (starEach (e::es) X.env)) (backToKw pos (keywordEach [] X.env))):=by rfl) :
 PE X (.Call (.Attribute o m apos) (e::es) [] pos) (tMeth C m sp dvs E ta t):=by
 intro pins s σ H Q I h
 refine PySem.W.methodCall_KW (pl:=pl) (thn (he pins s σ H _ I h) fun u s1 zq143=>zq143.elim fun x zq144=>zq144.elim fun H1 zq145=>zq145.elim fun I1 zq146=>zq146.elim fun rx zq147=>zq147.elim fun a zq148=>zq148.elim fun dx zq149=>zq149.elim fun fs zq150=>zq150.elim fun ex zq151=>zq151.elim fun ea zq152=>zq152.elim fun l q=>?_) ht
 subst ex
 obtain rfl:u=Value.ref a:=rx
 refine getmeth_ok I1 ea c hm l ?_
 refine PySem.W.callWith_K (first:=[.ref a]) (h₀:=X.base) I.ok.mod.kin hm.kp (thn (ha pos pins s1 σ H1 _ I1 q) fun us s2 zq153=>zq153.elim fun vs zq154=>zq154.elim fun H2 zq155=>zq155.elim fun I2 zq156=>zq156.elim fun r q2=>⟨I2.kIn,?_⟩) hst hpl
 exact run_fn (us:=.ref a::us) (vs:=.ref a::vs) F hr hb hd hx I2 (.cons rfl r) q2
theorem pe_meth0{pl:Sem Bool}(he:PE X o ta)(c:Cls X.K C)(hm:Meth X.K C m f)(F:FnOk X.prog X.w X.K X.mg X.base CX k f fd ps sp)(hr:Room k X.A)(hb:Binds X.K fd ps ds)(hd:Vals dvs ds)(hx:Passes CX X E)
 (ht:eval (.Call (.Attribute o m apos) [] [] pos) X.env=(do
  let ov ←eval o X.env
  standAt apos.atName
  let (f,first) ←holding [ov] (getMethod ov m pl)
  callWith pos f first (backTo pos (starEach [] X.env)) (backToKw pos (keywordEach [] X.env))):=by rfl) :
 PE X (.Call (.Attribute o m apos) [] [] pos) (tMeth C m sp dvs E ta tNil):=by
 intro pins s σ H Q I h
 refine PySem.W.methodCall_KW (pl:=pl) (thn (he pins s σ H _ I h) fun u s1 zq157=>zq157.elim fun x zq158=>zq158.elim fun H1 zq159=>zq159.elim fun I1 zq160=>zq160.elim fun rx zq161=>zq161.elim fun a zq162=>zq162.elim fun dx zq163=>zq163.elim fun fs zq164=>zq164.elim fun ex zq165=>zq165.elim fun ea zq166=>zq166.elim fun l q=>?_) ht
 subst ex
 obtain rfl:u=Value.ref a:=rx
 refine getmeth_ok I1 ea c hm l ?_
 exact PySem.W.callWith_K0 (first:=[.ref a]) I1.kIn hm.kp (run_fn (us:=[.ref a]) (vs:=[.ref a]) F hr hb hd hx I1 (.cons rfl .nil) q)
structure Mk(K:PySem.W.Frag)(C f:Addr):Prop where
 makes:PySem.W.makesIn K C=true
 init:PySem.W.findIn K (.ref C) "__init__" = some (some (.ref f))
 fn:PySem.W.isFn K (.ref f)=true
 kp:PySem.W.keepIn K (.ref C)=true
theorem run_make{pins:List (Addr×Obj)}{σ:St}{H:Hp}{s:Shared}{Q:VK}{us:List Value}{vs:List V}(M:Mk X.K C f)(F:FnOk X.prog X.w X.K X.mg X.base CX k f fd ps sp)(hr:Room (k+1) X.A)(hb:Binds X.K fd ps ds)(hd:Vals dvs ds)
 (hx:Passes CX X E) (I:Inv X pins σ H s) (r:Vals vs us)
 (h:∀x dx,H x=none->H dx=none->dx≠x->sp (.ref x::(vs++dvs)) (upd (upd H dx (.own x)) x (.ins C dx [])) (fun v H2=>v = .non/\Q (.ref x) H2) E) :
 wpAny (model X.prog X.w) X.A (call (.ref C) us) (EP X pins σ Q) X.xe s:=by
 have hq:=h (s.heap.objs.size+1) s.heap.objs.size (I.hok.fresh (Nat.le_succ _)) (I.hok.fresh (Nat.le_refl _)) (Nat.ne_of_lt (Nat.lt_succ_self _))
 have I2:=Inv.made (C:=C) I
 have r2:Vals (V.ref (s.heap.objs.size+1)::(vs++dvs)) (Value.ref (s.heap.objs.size+1)::(us++ds)):=.cons rfl (r.append hd)
 have hl:(Value.ref (s.heap.objs.size+1)::us++ds).length=ps.length:=by
  have e:=r2.length
  rw[F.len _ _ _ _ hq]at e
  exact e.symm
 refine wpAny_call (make_map (f:=f) I.kIn M.makes M.init (beq_iff_eq.mp M.fn) (codeAny_mono (F.run _ X.stack _ _ ⟨Value.ref (s.heap.objs.size+1)::us,[]⟩ (Value.ref (s.heap.objs.size+1)::(us++ds)) _ _ E (hr.make C us [])
  (I2.env0.make C us []) (hb _ (Value.ref (s.heap.objs.size+1)::us) I2.kIn hl) r2 hq) fun r s' hq'=>?_))
 cases r with
 | error e=>exact hx pins σ _ _ e s' I2 hq'
 | ok fl=>
  cases fl with
  | ret u=>
   obtain⟨v,H',I3,rv,ev,q3⟩:=I2.after hq'
   subst ev
   exact⟨rv,⟨V.ref (s.heap.objs.size+1),H',I3,rfl,q3⟩⟩
  | next=>exact False.elim hq'
  | brk=>exact False.elim hq'
  | cont=>exact False.elim hq'
theorem pe_make(M:Mk X.K C f)(F:FnOk X.prog X.w X.K X.mg X.base CX k f fd ps sp)(hr:Room (k+1) X.A)(hg:Gl X x)(hm:X.mg x=some (.ref C))(hb:Binds X.K fd ps ds)(hd:Vals dvs ds)(hx:Passes CX X E)
 (ha:PA X (e::es) t) (hdb:(x == ("__debug__":Str))=false:=by decide) (he:starEach (e::es) X.env=(false,eval e X.env)::starEach es X.env:=by rfl) (hpl:(backTo pos (starEach es X.env)).any (·.1)=false:=by rfl) :
 PE X (.Call (.Name x p) (e::es) [] pos) (tMake C sp dvs E t):=by
 intro pins s σ H Q I h
 refine wpAny_Call_Name_kw (ld_glob I hg hm ?_ hdb)
 refine PySem.W.callWith_K (h₀:=X.base) I.ok.mod.kin M.kp (thn (ha pos pins s σ H _ I h) fun us s1 zq167=>zq167.elim fun vs zq168=>zq168.elim fun H1 zq169=>zq169.elim fun I1 zq170=>zq170.elim fun r q=>⟨I1.kIn,?_⟩) he hpl
 exact run_make M F hr hb hd hx I1 r q
end
noncomputable def PK(X:Cx)(kws:List Keyword)(t:TA):Prop:=
 ∀(pos:Pos) (pins:List (Addr×Obj)) (s:Shared) (σ:St) (H:Hp) (Q:List V->Hp->Prop),Inv X pins σ H s->t σ H Q->wpAny (model X.prog X.w) X.A (evalAll ((backToKw pos (keywordEach kws X.env)).map (·.2))) (AP X pins σ Q) X.xe s
section
variable {X:Cx} {CX:CXT} {k:Nat} {f C:Addr} {fd:FuncData} {ps ks:List Str} {sp:Sp} {E:XK} {x m:Str} {p pos apos kpos:Pos} {e o:Expr} {es:List Expr} {kws:List Keyword} {te ta:TE} {t tk:TA} {nm:Option Str}
theorem pk_nil:PK X [] tNil:=fun _ _ _ _ H Q I h=>wpAny_evalAll_nil ⟨[],H,I,.nil,h⟩
theorem pk_cons(ha:PE X e te)(hr:PK X kws t):PK X (⟨nm,e,kpos⟩::kws) (tCons te t):=by
 intro pos pins s σ H Q I h
 show wpAny _ _ (evalAll ((do let v ←eval e X.env;standAt pos;pure v)::(backToKw pos (keywordEach kws X.env)).map (·.2))) _ _ s
 refine wpAny_evalAll_cons (wpAny_bind (thn (ha pins s σ H _ I h) fun u s1 zq171=>zq171.elim fun x zq172=>zq172.elim fun H1 zq173=>zq173.elim fun I1 zq174=>zq174.elim fun r1 q1=>wpAny_bind (wpAny_standAt (wpAny_pure ?_))))
 exact thn (hr pos pins s1 σ H1 _ I1 q1) fun us s2 zq175=>zq175.elim fun xs zq176=>zq176.elim fun H2 zq177=>zq177.elim fun I2 zq178=>zq178.elim fun r2 q2=>⟨x::xs,H2,I2,.cons r1 r2,q2⟩
variable {g:List Value->List Value->List Value} {gV:List V->List V->List V}
end
structure FnScope(N P:List Str)(sc:Scope):Prop where
 kind:sc.kind = .function
 co:sc.isCoroutine=false
 gen:sc.isGenerator=false
 nd:N.Nodup
 pre:N.take P.length=P
 par:∀x∈P,sc.names.lookup x=some .local\/sc.names.lookup x=some .cell
 nofree:∀y∈sc.names,y.2≠.free
theorem bindL_out{kindOf:Str->Option NameKind}{x:Str}:∀{binds:List (Str×Value)} {m:Str->Option Value},(∀v,(x,v)∉binds)->bindL kindOf binds m x=m x
 | [],_,_=>rfl
 | (n,v)::r,m,h=>by
  unfold bindL
  rw[bindL_out fun w hw=>h w (List.mem_cons_of_mem _ hw)]
  split
  · have:x≠n:=by rintro rfl;exact h v List.mem_cons_self
    simp[this]
  · rfl
theorem bindC_out{kindOf:Str->Option NameKind}{x:Str}:∀{binds:List (Str×Value)} {m:Str->Option Value},(∀v,(x,v)∉binds)->bindC kindOf binds m x=m x
 | [],_,_=>rfl
 | (n,v)::r,m,h=>by
  unfold bindC
  rw[bindC_out fun w hw=>h w (List.mem_cons_of_mem _ hw)]
  split
  · rfl
  · have:x≠n:=by rintro rfl;exact h v List.mem_cons_self
    simp[this]
theorem bindL_get{kindOf:Str->Option NameKind}{x:Str}{v:Value}:∀{P:List Str} {vs:List Value} {i:Nat} {m:Str->Option Value},P.Nodup->P[i]? = some x->vs[i]? = some v->kindOf x=some .local ->
 bindL kindOf (P.zip vs) m x=some v
 | [],_,_,_,_,h,_,_=>by simp at h
 | _::_,[],_,_,_,_,h,_=>by simp at h
 | p::P,w::vs,0,m,nd,h1,h2,hk=>by
  simp at h1 h2;subst h1;subst h2
  show bindL kindOf ((p,w)::P.zip vs) m p=_
  unfold bindL
  rw[bindL_out fun v hv=>(List.nodup_cons.mp nd).1 (List.of_mem_zip hv).1,if_pos hk]
  simp
 | p::P,w::vs,i+1,m,nd,h1,h2,hk=>by
  show bindL kindOf ((p,w)::P.zip vs) m x=_
  unfold bindL
  exact bindL_get (i:=i) (List.nodup_cons.mp nd).2 (by simpa using h1) (by simpa using h2) hk
theorem bindC_get{kindOf:Str->Option NameKind}{x:Str}{v:Value}:∀{P:List Str} {vs:List Value} {i:Nat} {m:Str->Option Value},P.Nodup->P[i]? = some x->vs[i]? = some v->kindOf x≠some .local ->
 bindC kindOf (P.zip vs) m x=some v
 | [],_,_,_,_,h,_,_=>by simp at h
 | _::_,[],_,_,_,_,h,_=>by simp at h
 | p::P,w::vs,0,m,nd,h1,h2,hk=>by
  simp at h1 h2;subst h1;subst h2
  show bindC kindOf ((p,w)::P.zip vs) m p=_
  unfold bindC
  rw[bindC_out fun v hv=>(List.nodup_cons.mp nd).1 (List.of_mem_zip hv).1,if_neg hk]
  simp
 | p::P,w::vs,i+1,m,nd,h1,h2,hk=>by
  show bindC kindOf ((p,w)::P.zip vs) m x=_
  unfold bindC
  exact bindC_get (i:=i) (List.nodup_cons.mp nd).2 (by simpa using h1) (by simpa using h2) hk
noncomputable def start(N:List Str)(vs:List V):St:=vs.map some++List.replicate (N.length - vs.length) none
noncomputable def cxOf(CX:CXT)(P:Program)(w:World)(K:PySem.W.Frag)(mg:Str->Option Value)(base:Heap)(N:List Str)(qual:Str)(scope:Scope)(f:Addr)(cd:Value)(A:Around)(outer:List Env)(s:Shared)(H:Hp)(E:XK):Cx where
 prog:=P
 w:=w
 K:=K
 mg:=mg
 base:=base
 A:=A.deeper (envOfC qual scope s.heap.objs.size f cd)
 N:=N
 s₀:=s
 H₀:=H
 env:=envOfC qual scope s.heap.objs.size f cd
 outer:=outer
 stack:=envOfC qual scope s.heap.objs.size f cd::outer
 ex:=[]
 calm:=true
 fn:=fun _=>true
 pn:=[]
 xe:=fun e s'=>wpAny (model P w) (A.deeper (envOfC qual scope s.heap.objs.size f cd)) (leaving (envOfC qual scope s.heap.objs.size f cd) e) (fun _ s''=>CX outer H s E e s'') (fun e' s''=>CX outer H s E e' s'') s'
theorem cell_has{sc:Scope}{n:Nat}{x:Str}(h:sc.names.lookup x=some .cell):∃c,(cellsFrom n sc.names []).lookup x=some c:=by
 have q:=PySem.W.cellsFrom_some sc.names n [] (.inl h)
 exact Option.isSome_iff_exists.mp q
theorem inv_start{CX:CXT}{P:Program}{w:World}{K:PySem.W.Frag}{mg:Str->Option Value}{base:Heap}{N ps:List Str}{qual:Str}{scope:Scope}{f:Addr}{cd:Value}{A:Around}{outer:List Env}{s s1:Shared}{H:Hp}{E:XK}{us:List Value}{vs:List V}
 (S:FnScope N ps scope) (hd:A.handled=none) (e0:Env0 P w K mg base A outer s H) (hl:vs.length=ps.length) (r:Vals vs us)
 (x:InCallC s s.heap.objs.size (bindL (envOfC qual scope s.heap.objs.size f cd).kindOf (ps.zip us) fun _=>none) (cellsFrom (s.heap.objs.size+1) scope.names []) (bindC (envOfC qual scope s.heap.objs.size f cd).kindOf (ps.zip us) fun _=>none) s1) :
 Inv (cxOf CX P w K mg base N qual scope f cd A outer s H E) [] (start N vs) H s1:=by
 have hpl:ps.length<=N.length:=by have:=congrArg List.length S.pre;rw[List.length_take]at this;omega
 obtain⟨h1,tk,rfl,hk⟩:=x.done
 have noA:∀b:Addr,b∉(cxOf CX P w K mg base N qual scope f cd A outer s H E).ex:=fun b z=>absurd (show b∈([]:List Addr) from z) (by simp)
 refine⟨⟨e0.mod,S.kind,rfl,rfl,Nat.le_refl _,fun y z c h1 h2=>?_,fun y hy=>?_,fun y c _ h=>?_,fun _=>hd,Around.frames_deeper e0.frames,.inr ⟨rfl,rfl⟩,fun b z=>absurd z (noA b),e0.bs,e0.bsz,fun b _ _=>noA b,fun b z=>absurd z (noA b),e0.funs,e0.frf⟩,
  rfl,e0.bare,Un.kept hk,⟨_,x.toInCall.ns,fun i y v h1 h2 h3=>?_⟩,fun y c h=>⟨_,x.cell y c h⟩,e0.hok.fresh (Nat.le_refl _),fun y c h=>?_,fun p hp=>absurd (show p∈([]:List (Addr×Obj)) from hp) (by simp),e0.hok.kept hk,?_⟩
 · exact name_of_addr x.apart (PySem.mem_of_lookup h1) (PySem.mem_of_lookup h2)
 · have hy:scope.names.lookup y=some .cell\/scope.names.lookup y=some .free:=hy
   rcases hy with hy | hy
   · exact cell_has hy
   · exact absurd rfl (S.nofree _ (PySem.mem_of_lookup hy))
 · exact Nat.le_of_lt (x.above y c (PySem.mem_of_lookup h))
 · have hi:i<vs.length:=by
    unfold start at h2
    by_cases hi:i<vs.length
    · exact hi
    · rw[List.getElem?_append_right (by simpa using hi)]at h2
      rw[List.getElem?_replicate]at h2
      split at h2<;>cases h2
   have ha:vs[i]? = some v:=by
    unfold start at h2
    rw[List.getElem?_append_left (by simpa using hi),List.getElem?_map]at h2
    cases e:vs[i]? with
    | none=>rw[e]at h2;cases h2
    | some a=>rw[e]at h2;cases h2;rfl
   obtain⟨u,hu,rv⟩:=r.get ha
   have hp:ps[i]? = some y:=by
    rw[←S.pre,List.getElem?_take_of_lt (by omega)];exact h1
   have ndP:ps.Nodup:=by rw[←S.pre];exact S.nd.sublist (List.take_sublist _ _)
   refine⟨u,rv,?_⟩
   rcases S.par y (List.mem_of_getElem? hp) with k | k
   · exact .inl ⟨k,bindL_get ndP hp hu k⟩
   · obtain⟨c,e⟩:=cell_has (n:=s.heap.objs.size+1) k
     refine .inr ⟨.inl k,c,e,?_⟩
     have q:=x.cell y c e
     rw[bindC_get ndP hp hu (by show scope.names.lookup y≠_;rw[k];decide)]at q
     exact q
 · exact e0.hok.fresh (Nat.le_of_lt (x.above y c (PySem.mem_of_lookup h)))
 · unfold start
   show _=N.length
   rw[List.length_append,List.length_map,List.length_replicate]
   omega
theorem fn_of{CX:CXT}{P:Program}{w:World}{K:PySem.W.Frag}{mg:Str->Option Value}{base:Heap}{k:Nat}{f:Addr}{name qual:Str}{params:Arguments}{body:List Stmt}{scope:Scope}{dV kV doc pm cdv ct oc:Value}{an od:Option Addr}
 {osl:Array (Option Value)} {N ps:List Str} {sp:Sp} (lk:K.lookup f=some ⟨oc,od,.func (PySem.W.fnOf name qual params body scope dV kV doc pm an cdv ct),osl⟩) (hcd:PySem.W.codeIn K cdv qual=true) (S:FnScope N ps scope)
 (len:∀vs H Q E,sp vs H Q E->vs.length=ps.length)
 (hbody:∀(A:Around) (outer:List Env) (s:Shared) (H:Hp) (vs:List V) (Q:VK) (E:XK),Room k (A.deeper (envOfC qual scope s.heap.objs.size f cdv))->sp vs H Q E ->
  ∃t,PSs (cxOf CX P w K mg base N qual scope f cdv A outer s H E) body t/\t { nx:=fun _ H'=>Q .non H',rt:=Q } (start N vs) H) :
 FnOk P w K mg base CX (k+1) f (PySem.W.fnOf name qual params body scope dV kV doc pm an cdv ct) ps sp:=by
 refine⟨len,fun A outer s H args us vs Q E hr e0 hb r hsp=>?_⟩
 have hl:=len _ _ _ _ hsp
 have KX:K.In s.heap:=e0.mod.kin.keeps fun b o e=>(e0.bs b o e).1
 have lim:s.heap.NoLimit:=e0.mod.nolimit.keeps fun b o e=>(e0.bs b o e).1
 have hkind:∀y∈ps.zip us,scope.names.lookup y.1=some .local\/(scope.names.lookup y.1=some .cell/\((cellsFrom (s.heap.objs.size+1) scope.names []).lookup y.1).isSome=true):=fun⟨n,v⟩ hy=>by
  rcases S.par n (List.of_mem_zip hy).1 with q | q
  · exact .inl q
  · exact .inr ⟨q,PySem.W.cellsFrom_some _ _ _ (.inl q)⟩
 refine codeAny_call_function hr.depth (KX _ _ lk) rfl S.co S.gen rfl (PySem.W.codeRec_of KX hcd) (hb _ _ _ _ ?_)
 refine wpAny_newFunctionEnv_cells S.kind hkind fun env he s1 x=>?_
 subst he
 refine⟨lim.keeps x.toInCall.keep,codeAny_func ?_⟩
 obtain⟨t,ht,hq⟩:=hbody A outer s H vs Q E (hr.deeper _) hsp
 have I:Inv (cxOf CX P w K mg base N qual scope f cdv A outer s H E) [] (start N vs) H s1:=inv_start S hr.hd e0 hl r x
 refine wpAny_mono (ht [] s1 (start N vs) H _ I hq) (fun fl s' hs=>?_) fun e s' hs=>hs
 have fin:∀{σ':St} {H':Hp} {v:V} {u:Value},Inv (cxOf CX P w K mg base N qual scope f cdv A outer s H E) [] σ' H' s'->RelV v u->Q v H'->CE outer P w H s Q u s':=
  fun {σ' H' v u} J rv q=>⟨v,H',J.os,J.bare,J.base,J.hok,rv,q⟩
 cases fl with
 | ret u=>
  obtain⟨v,σ',H',J,rv,q⟩:=hs
  exact fin J rv q
 | next=>
  obtain⟨σ',H',J,q⟩:=hs
  exact fin (v:=V.non) (u:=Value.none) J rfl q
 | brk=>
  obtain⟨_,_,_,q⟩:=hs
  exact False.elim q
 | cont=>
  obtain⟨_,_,_,q⟩:=hs
  exact False.elim q
end L2
namespace L2
open PySem PySem.Spec PyProof.Rows
section
variable {X:Cx} {x:Str} {p pos:Pos} {e:Expr} {es:List Expr} {t:TA} {id T:String} {r:List V->Hp->VK->Prop}
noncomputable def tCB(r:List V->Hp->VK->Prop)(t:TA):TE:=fun σ H Q=>t σ H fun vs H1=>r vs H1 Q
theorem pe_callB(hc:CallR X (.builtin id) r)(hg:Gl X x)(hm:X.mg x=none)(hv:bootBuiltins x=some (.builtin id))(ha:PA X (e::es) t)(hn:x≠"__name__":=by decide)(hdb:(x == ("__debug__":Str))=false:=by decide)
 (he:starEach (e::es) X.env=(false,eval e X.env)::starEach es X.env:=by rfl) (hpl:(backTo pos (starEach es X.env)).any (·.1)=false:=by rfl):PE X (.Call (.Name x p) (e::es) [] pos) (tCB r t):=by
 intro pins s σ H Q I h
 refine wpAny_Call_Name_kw (ld_blt I hg hm hv ?_ hn hdb)
 exact PyProof.Rows.callWith_builtin1 (thn (ha pos pins s σ H _ I h) fun us s1 zq180=>zq180.elim fun vs zq181=>zq181.elim fun H1 zq182=>zq182.elim fun I1 zq183=>zq183.elim fun r1 q1=>hc pins s1 σ H1 vs us Q I1 r1 q1) he hpl
theorem pe_callTy(hc:CallR X (.type T) r)(hg:Gl X x)(hm:X.mg x=none)(hv:bootBuiltins x=some (.type T))(ha:PA X (e::es) t)(hn:x≠"__name__":=by decide)(hdb:(x == ("__debug__":Str))=false:=by decide)
 (he:starEach (e::es) X.env=(false,eval e X.env)::starEach es X.env:=by rfl) (hpl:(backTo pos (starEach es X.env)).any (·.1)=false:=by rfl):PE X (.Call (.Name x p) (e::es) [] pos) (tCB r t):=by
 intro pins s σ H Q I h
 refine wpAny_Call_Name_kw (ld_blt I hg hm hv ?_ hn hdb)
 exact PyProof.Rows.callWith_type1 (thn (ha pos pins s σ H _ I h) fun us s1 zq184=>zq184.elim fun vs zq185=>zq185.elim fun H1 zq186=>zq186.elim fun I1 zq187=>zq187.elim fun r1 q1=>hc pins s1 σ H1 vs us Q I1 r1 q1) he hpl
end
end L2
namespace HT
open PySem PyProof.Rows
noncomputable def lexLt:List Int->List Int->Bool
 | [],[]=>false
 | [],_::_=>true
 | _::_,[]=>false
 | x::xs,y::ys=>if x=y then lexLt xs ys else decide (x<y)
theorem lexLt_cons(x y:Int)(xs ys:List Int):lexLt (x::xs) (y::ys)=if x=y then lexLt xs ys else decide (x<y):=rfl
theorem lexLt_nil_nil:lexLt [] []=false:=rfl
theorem lexLt_nil_cons(y:Int)(ys:List Int):lexLt [] (y::ys)=true:=rfl
theorem lexLt_cons_nil(x:Int)(xs:List Int):lexLt (x::xs) []=false:=rfl
theorem eqAt_int(A:Around)(s:Shared)(a:Int)(t:Tok)(c:Int)(u:Tok):∃e,SeqAt.EqAt A s (.int a t) (.int c u) e/\(e=true↔a=c):=
 ⟨(a == c),SeqAt.EqAt.int_int a t c u,by simp⟩
theorem rcLt_int(A:Around)(s:Shared)(a:Int)(t:Tok)(c:Int)(u:Tok)(prog:Program)(w:World)(E:Value->Shared->Prop)(Q:Value->Shared->Prop)(h:Q (.bool (decide (a<c))) s) :
 wpAny (model prog w) A (richCompare .Lt (.int a t) (.int c u)) Q E s:=
 (PyProof.Rows.lt_int h:wpAny (model prog w) A (compareOp .Lt (.int a t) (.int c u)) Q E s)
section
open PySem.SeqAt
open PySem.AutoSeq1 (wpAny_loadPart')
open PySem.MeetsSeq PySem.MeetsSeq2 PySem.MeetsSeq3
theorem tuple_lt_ints(l b:Addr)(items items2:Array Value)(n n2:Nat)(dd dd2:Option Addr)(sl sl2:Array (Option Value))(ns ms:List Int)(hi:IntsAre items.toList ns)(hj:IntsAre items2.toList ms) :
 Meets (Builtin.«tuple.__lt__» ⟨[.ref l,.ref b],[]⟩)
  (fun _ R s=>s.heap.get? l=some { cls:=.type "tuple",dict:=dd,data:=.seq items n,slots:=sl }/\s.heap.get? b=some { cls:=.type "tuple",dict:=dd2,data:=.seq items2 n2,slots:=sl2 } /\
   R (.ok (.ret (.bool (lexLt ns ms)))) s):=
 .of_wp fun prog w A R s h=>by
  obtain⟨hp,g,d,tk,os⟩:=s;obtain⟨hl,hb,h⟩:=h
  have f2:=AutoSeq1.sub_tuple_tuple
  have z1:items.size=ns.length:=by rw[←hi.length];simp
  have z2:items2.size=ms.length:=by rw[←hj.length];simp
  wp_walk using wpAny_loadPart' hl,wpAny_loadPart' hb,wpAny_forIn_list _ (fun rest b s'=>b.1=none/\s'=⟨hp,g,d,tk,os⟩/\∃(vs ws:List Value) (ns' ms':List Int),rest=vs.zip ws /\
   IntsAre vs ns'/\IntsAre ws ms'/\ns'.length+items2.size=ms'.length+items.size/\R (.ok (.ret (.bool (lexLt ns' ms')))) ⟨hp,g,d,tk,os⟩) _
  case turn=>
   rintro⟨y,x⟩ rest b s' ⟨hb',rfl,vs,ws,ns',ms',hz,hvi,hwi,hlen,hR⟩
   cases hvi with
   | nil=>rw[List.zip_nil_left]at hz;cases hz
   | cons a t hvi'=>
    cases hwi with
    | nil=>rw[List.zip_nil_right]at hz;cases hz
    | cons c u hwi'=>
     rw[List.zip_cons_cons]at hz
     injection hz with hyx hrest
     injection hyx with hy hx
     subst hy hx
     rw[lexLt_cons]at hR
     simp only[List.length_cons]at hlen
     obtain⟨e,he,hiff⟩:=eqAt_int A.in1 ⟨hp,g,d,tk,os⟩ a t c u
     refine wpAny_bind (he prog w _ _ ?_)
     cases e with
     | true=>
      rw[if_pos (hiff.mp rfl)]at hR
      wp_walk
      exact⟨rfl,rfl,_,_,_,_,hrest,hvi',hwi',by omega,hR⟩
     | false=>
      rw[if_neg (fun q=>absurd (hiff.mpr q) Bool.false_ne_true)]at hR
      have hri:=rcLt_int A.in1 ⟨hp,g,d,tk,os⟩ a t c u prog w
      wp_walk using hri
      exact⟨_,rfl,by simpa using hR⟩
  case fin=>
   rintro⟨b1,b2⟩ s' ⟨hb',rfl,vs,ws,ns',ms',hz,hvi,hwi,hlen,hR⟩
   simp only at hb'
   subst hb'
   have hv:lexLt ns' ms'=decide (items.size<items2.size):=by
    cases hvi with
    | nil=>
     cases hwi with
     | nil=>
      simp only[List.length_nil]at hlen
      rw[lexLt_nil_nil]
      exact(decide_eq_false (by omega)).symm
     | cons c u hw=>
      simp only[List.length_nil,List.length_cons]at hlen
      rw[lexLt_nil_cons]
      exact(decide_eq_true (by omega)).symm
    | cons a t hv=>
     cases hwi with
     | nil=>
      simp only[List.length_nil,List.length_cons]at hlen
      rw[lexLt_cons_nil]
      exact(decide_eq_false (by omega)).symm
     | cons c u hw=>
      rw[List.zip_cons_cons]at hz
      cases hz
   rw[hv]at hR
   wp_walk
   exact⟨_,rfl,by simpa [Builtin.Tuple.tupleCompareSizes]using hR⟩
  case h=>
   exact⟨rfl,rfl,items.toList,items2.toList,ns,ms,rfl,hi,hj,by omega,h⟩
end
section
variable {prog:Program} {w:World} {A:Around} {E:Value->Shared->Prop} {s:Shared}
theorem lt_tupInts{l b:Addr}{items items2:Array Value}{ns ms:List Int}{Q:Value->Shared->Prop}(hl:IsTup s.heap l items)(hb:IsTup s.heap b items2)(hi:IntsAre items.toList ns)(hj:IntsAre items2.toList ms)
 (hu:A.units<cLine) (h:Q (.bool (lexLt ns ms)) s):wpAny (model prog w) A (compareOp .Lt (.ref l) (.ref b)) Q E s:=by
 obtain⟨⟨cls,dd,data,sl⟩,ho,hc,n,hd⟩:=id hl
 obtain⟨⟨cls2,dd2,data2,sl2⟩,ho2,hc2,n2,hd2⟩:=id hb
 simp only at hc hd hc2 hd2
 subst hc hd hc2 hd2
 exact richCompare_meets_room (op:=.Lt) ⟨_,ho,rfl⟩ ⟨_,ho2,rfl⟩ PySem.F.slot_tuple_lt PySem.F.entry_tuple_lt (PySem.F.args_tuple_lt_2 _ _) (tuple_lt_ints l b items items2 n n2 dd dd2 sl sl2 ns ms hi hj)
  ⟨ho,ho2,show Value.bool (lexLt ns ms)≠Value.notImplemented/\Q (.bool (lexLt ns ms)) s from ⟨(fun x=>nomatch x),h⟩⟩ hu
noncomputable def sIx(n d:Nat):Option Int->Nat
 | none=>d
 | some v=>if v<0 then(v+(n:Int)).toNat else min v.toNat n
theorem sIx_nat(n d k:Nat):sIx n d (some (k:Int))=min k n:=by
 show(if (k:Int)<0 then((k:Int)+(n:Int)).toNat else min (k:Int).toNat n)=min k n
 rw[if_neg (by omega),Int.toNat_natCast]
end
end HT
namespace L2
open PySem PySem.Spec PyProof.Rows
noncomputable abbrev TO:=St->Hp->(Option Int->Hp->Prop)->Prop
noncomputable def PO(X:Cx)(e:Option Expr)(t:TO):Prop:=
 ∀(pins:List (Addr×Obj)) (s:Shared) (σ:St) (H:Hp) (Q:Option Int->Hp->Prop),Inv X pins σ H s->t σ H Q ->
  wpAny (model X.prog X.w) X.A (evalPart e X.env) (fun u s'=>∃o H',Inv X pins σ H' s'/\IsPart u o/\Q o H') X.xe s
noncomputable def tPart(t:TE):TO:=fun σ H Q=>t σ H fun x H1=>∃i,x = .int i/\Q (some i) H1
theorem intsAre_of{ns:List Int}:∀{us:List Value},Vals (ns.map V.int) us->IntsAre us ns:=by
 induction ns with
 | nil=>intro us r;rw[List.map_nil]at r;cases r;exact .nil
 | cons n ns ih=>
  intro us r
  rw[List.map_cons]at r
  cases r with
  | cons r1 r2=>
   obtain⟨t,e⟩:=r1
   subst e
   exact .cons n t (ih r2)
section
variable {X:Cx} {e:Expr} {te:TE} {lo hi:Option Expr} {tl th:TO} {pos p2:Pos}
theorem po_some(h:PE X e te):PO X (some e) (tPart te):=by
 intro pins s σ H Q I hw
 rw[evalPart_some]
 refine thn (h pins s σ H _ I hw) fun u s1 zq188=>zq188.elim fun x zq189=>zq189.elim fun H1 zq190=>zq190.elim fun I1 zq191=>zq191.elim fun r1 q1=>?_
 obtain⟨i,rfl,q⟩:=q1
 obtain⟨t,rfl⟩:=r1
 exact⟨some i,H1,I1,.int i t,q⟩
noncomputable def SlR(X:Cx)(r:V->Option Int->Option Int->Hp->VK->Prop):Prop:=
 ∀(pins:List (Addr×Obj)) (s:Shared) (σ:St) (H:Hp) (x:V) (v vl vu:Value) (lo hi:Option Int) (sl:Addr) (Q:VK),Inv X pins σ H s->RelV x v->s.heap.IsSliceOf sl vl vu .none->IsPart vl lo->IsPart vu hi->r x lo hi H Q ->
  ∃T id,typeLookup (.type T) "__getitem__" = pure (some (.builtin id))/\s.TypeIs v T/\wpAny (model X.prog X.w) X.A (getItem v (.ref sl)) (EP X pins σ Q) X.xe s
noncomputable def tSl(r:V->Option Int->Option Int->Hp->VK->Prop)(te:TE)(tl th:TO):TE:=fun σ H Q=>te σ H fun x H1=>tl σ H1 fun l H2=>th σ H2 fun u H3=>r x l u H3 Q
theorem pe_slice{r:V->Option Int->Option Int->Hp->VK->Prop}(hr:SlR X r)(he:PE X e te)(hl:PO X lo tl)(hu:PO X hi th):PE X (.Subscript e (.Slice lo hi none p2) pos) (tSl r te tl th):=by
 intro pins s σ H Q I h
 refine Subscript_ (thn (he pins s σ H _ I h) fun v s1 zq192=>zq192.elim fun x zq193=>zq193.elim fun H1 zq194=>zq194.elim fun I1 zq195=>zq195.elim fun r1 q1=>?_)
 refine wpAny_Slice (thn (hl pins s1 σ H1 _ I1 q1) fun vl s2 zq196=>zq196.elim fun l zq197=>zq197.elim fun H2 zq198=>zq198.elim fun I2 zq199=>zq199.elim fun pl q2=>thn (hu pins s2 σ H2 _ I2 q2) fun vu s3 zq200=>zq200.elim fun u zq201=>zq201.elim fun H3 zq202=>zq202.elim fun I3 zq203=>zq203.elim fun pu q3=>?_)
 rw[evalPart_none]
 refine wpAny_pure ?_
 have I4:Inv X pins σ H3 { s3 with heap:=s3.heap.push { cls:=.type "slice",data:=.fields #[vl,vu,.none] } }:=I3.kept (t':=s3.toks) fun b ob q=>Heap.get?_push_of_some _ q
 obtain⟨T,id,hT,ht,hg⟩:=hr pins { s3 with heap:=s3.heap.push { cls:=.type "slice",data:=.fields #[vl,vu,.none] } } σ H3 x v vl vu l u s3.heap.objs.size Q I4 r1 (Heap.IsSliceOf.new ..) pl pu q3
 show wpAny (model X.prog X.w) X.A (subscriptTail e (.Slice lo hi none p2) v (.ref s3.heap.objs.size)) (EP X pins σ Q) X.xe { s3 with heap:=s3.heap.push { cls:=.type "slice",data:=.fields #[vl,vu,.none] } }
 exact tail_any (ops:=[.ref s3.heap.objs.size,v]) ht hT hg (by with_unfolding_all rfl)
noncomputable def cutV(xs:List V)(lo hi:Option Int):List V:=(xs.drop (HT.sIx xs.length 0 lo)).take (HT.sIx xs.length xs.length hi - HT.sIx xs.length 0 lo)
theorem cutV_length(xs:List V)(lo hi:Option Int):(cutV xs lo hi).length<=xs.length:=by
 unfold cutV
 rw[List.length_take,List.length_drop]
 omega
noncomputable def rLtT(K:PySem.W.Frag):R2:=fun x y H Q=>∃a b ns ms,x = .ref a/\y = .ref b/\SqT K H a (ns.map V.int)/\SqT K H b (ms.map V.int)/\Q (.bl (HT.lexLt ns ms)) H
theorem op_ltT(hu:X.A.units<cLine):OpR X (compareOp .Lt) (rLtT X.K):=by
 intro pins s σ H x y v u Q I rx ry h
 obtain⟨a,b,ns,ms,rfl,rfl,ha,hb,q⟩:=h
 cases rx
 cases ry
 obtain⟨its,r1,p1,_⟩:=I.tuple ha
 obtain⟨its2,r2,p2,_⟩:=I.tuple hb
 have i1:IntsAre its.toArray.toList ns:=intsAre_of r1
 have i2:IntsAre its2.toArray.toList ms:=intsAre_of r2
 exact HT.lt_tupInts p1 p2 i1 i2 hu ⟨.bl (HT.lexLt ns ms),H,I,rfl,q⟩
end
end L2
namespace L2
open PySem PySem.Spec PyProof.Rows
noncomputable def ixN(n:Nat)(i:Int):Option Nat:=if 0<=i then(if i<n then some i.toNat else none) else if -(n:Int)<=i then some (i+n).toNat else none
noncomputable def atI{α:Type}(xs:List α)(i:Int):Option α:=(ixN xs.length i).bind fun j=>xs[j]?
theorem ixN_seq{n:Nat}{i:Int}{j:Nat}(h:ixN n i=some j):seqIndex? i n=some j/\j<n/\-(n:Int)<=i/\i<n:=by
 unfold ixN at h
 by_cases h0:0<=i
 · rw[if_pos h0]at h
   by_cases h1:i<n
   · rw[if_pos h1]at h
     have e:i.toNat=j:=Option.some.inj h
     exact⟨by rw[seqIndex_of h0 h1,e],by omega,by omega,h1⟩
   · rw[if_neg h1]at h;cases h
 · rw[if_neg h0]at h
   by_cases h1:-(n:Int)<=i
   · rw[if_pos h1]at h
     have e:(i+n).toNat=j:=Option.some.inj h
     exact⟨by rw[seqIndex_neg (by omega) h1,e],by omega,h1,by omega⟩
   · rw[if_neg h1]at h;cases h
theorem atI_get{α:Type}{xs:List α}{i:Int}{v:α}(h:atI xs i=some v):∃j,seqIndex? i xs.length=some j/\xs[j]? = some v/\j<xs.length/\-(xs.length:Int)<=i/\i<xs.length:=by
 unfold atI at h
 cases e:ixN xs.length i with
 | none=>rw[e]at h;cases h
 | some j=>
  rw[e]at h
  obtain⟨h1,h2,h3,h4⟩:=ixN_seq e
  exact⟨j,h1,h,h2,h3,h4⟩
theorem atI_nat{α:Type}{xs:List α}{j:Nat}{v:α}(h:xs[j]? = some v):atI xs (j:Int)=some v:=by
 have hj:j<xs.length:=(List.getElem?_eq_some_iff.mp h).1
 have e:ixN xs.length (j:Int)=some j:=by
  unfold ixN
  rw[if_pos (by omega),if_pos (by omega)];simp
 unfold atI;rw[e];exact h
noncomputable def PlainIx(b:Expr):Prop:=∀o i,subscripted b false o i=operate [o,i] (getItem o i)
noncomputable def IxR(X:Cx)(r:R2):Prop:=
 ∀(value slice:Expr) (pins:List (Addr×Obj)) (s:Shared) (σ:St) (H:Hp) (x y:V) (v u:Value) (Q:VK),Inv X pins σ H s->RelV x v->RelV y u->r x y H Q ->
  subscripted slice false v u=operate [v,u] (getItem v u)->wpAny (model X.prog X.w) X.A (subscriptTail value slice v u) (EP X pins σ Q) X.xe s
noncomputable def MtR(X:Cx)(id:String)(r:V->List V->Hp->VK->Prop):Prop:=
 ∀(pins:List (Addr×Obj)) (s:Shared) (σ:St) (H:Hp) (x:V) (xs:List V) (v:Value) (us:List Value) (Q:VK),Inv X pins σ H s->RelV x v->Vals xs us->r x xs H Q ->
  wpAny (model X.prog X.w) X.A (call (.builtin id) (v::us)) (EP X pins σ Q) X.xe s
section
variable {X:Cx} {a b:Expr} {ta tb:TE} {pos:Pos}
theorem pe_ix{r:R2}(hr:IxR X r)(ha:PE X a ta)(hb:PE X b tb)(hs:PlainIx b):PE X (.Subscript a b pos) (tOp r ta tb):=by
 intro pins s σ H Q I h
 exact Subscript_ (binT ha hb I h fun v u s2 x y H2 I2 rx ry q=>hr a b pins s2 σ H2 x y v u Q I2 rx ry q (hs _ _))
noncomputable def rIxL(K:PySem.W.Frag):R2:=fun x y H Q=>∃p xs i v,x = .ref p/\y = .int i/\SqL K H p xs/\atI xs i=some v/\Q v H
noncomputable def rIxT(K:PySem.W.Frag):R2:=fun x y H Q=>∃p xs i v,x = .ref p/\y = .int i/\SqT K H p xs/\atI xs i=some v/\Q v H
noncomputable def rIxS:R2:=fun x y H Q=>∃z i c,x = .str z/\y = .int i/\z.length<=sizeLine/\atI z.cps.toList i=some c/\Q (.str ⟨#[c]⟩) H
theorem ix_list:IxR X (rIxL X.K):=by
 intro value slice pins s σ H x y v u Q I rx ry h hs
 obtain⟨p,xs,i,z,rfl,rfl,hq,he,q⟩:=h
 cases rx
 obtain⟨t,rfl⟩:=ry
 obtain⟨its,r,pl,hz⟩:=I.list hq
 obtain⟨j,h1,h2,h3,h4,h5⟩:=atI_get he
 obtain⟨w,ew,rw'⟩:=r.get h2
 have hl:=r.length
 have hn:=line63
 have fin:EP X pins σ Q w s:=⟨z,H,I,rw',q⟩
 by_cases h0:0<=i
 · have hj:i.toNat=j:=by
    rw[seqIndex_of h0 h5]at h1
    exact Option.some.inj h1
   exact item_listR pl.isList h0 (by omega) (by rw[hj];simpa using ew) fin hs
 · have hj:(i+(its.toArray.size:Int)).toNat=j:=by
    rw[seqIndex_neg (by omega) h4]at h1
    rw[List.size_toArray,←hl]
    exact Option.some.inj h1
   exact subscriptTail_builtinR (x:=w) pl.isList.typeIs slot_list_getitem.lookup
    (wpAny_getItem_list_neg (Q:=fun r s'=>r=w/\EP X pins σ Q r s') pl.isList (by omega) (by rw[List.size_toArray]<;>omega) (by omega) (by rw[hj];simpa using ew) ⟨rfl,fin⟩) hs
theorem ix_tup:IxR X (rIxT X.K):=by
 intro value slice pins s σ H x y v u Q I rx ry h hs
 obtain⟨p,xs,i,z,rfl,rfl,hq,he,q⟩:=h
 cases rx
 obtain⟨t,rfl⟩:=ry
 obtain⟨its,r,pl,hz⟩:=I.tuple hq
 obtain⟨j,h1,h2,h3,h4,h5⟩:=atI_get he
 obtain⟨w,ew,rw'⟩:=r.get h2
 have hl:=r.length
 have hn:=line63
 have fin:EP X pins σ Q w s:=⟨z,H,I,rw',q⟩
 exact subscriptTail_builtinR (x:=w) pl.typeIs slot_tuple_getitem.lookup
  (getItem_tuple (j:=j) (Q:=fun r s'=>r=w/\EP X pins σ Q r s') pl (by omega) (by omega) (by rw[List.size_toArray,←hl];exact h1) (by simpa using ew) ⟨rfl,fin⟩) hs
theorem ix_str:IxR X rIxS:=by
 intro value slice pins s σ H x y v u Q I rx ry h hs
 obtain⟨z,i,c,rfl,rfl,hz,he,q⟩:=h
 obtain⟨t,rfl⟩:=rx
 obtain⟨t',rfl⟩:=ry
 obtain⟨j,h1,h2,h3,h4,h5⟩:=atI_get he
 have hl:z.cps.toList.length=z.length:=by simp[Str.length]
 rw[hl]at h1 h4 h5
 have hn:=line63
 exact tail_any (typeIs_str s z t) slot_str_getitem.lookup (getItem_str (c:=c) (by
  have e1:decide (i < -(2 ^ 63:Int))=false:=decide_eq_false (by omega)
  have e2:decide (i >= 2 ^ 63)=false:=decide_eq_false (by omega)
  rw[e1,e2,Bool.or_false]) (by rw[h1];simpa using h2) ⟨.str ⟨#[c]⟩,H,I.tok _,⟨_,rfl⟩,q⟩) hs
theorem slice_bounds(lo hi:Option Int)(n:Nat):(sliceBounds lo hi none n).1=((HT.sIx n 0 lo:Nat):Int)/\(sliceBounds lo hi none n).2.1=((HT.sIx n n hi:Nat):Int)/\(sliceBounds lo hi none n).2.2=1:=by
 refine⟨?_,?_,rfl⟩
 · cases lo with
   | none=>simp[sliceBounds,HT.sIx]
   | some i=>
    simp only[sliceBounds,HT.sIx,Option.getD_none,show(1:Int) > 0 by decide,if_true]
    by_cases h:i<0
    · simp only[h,if_true]<;>omega
    · simp only[h,if_false]<;>omega
 · cases hi with
   | none=>simp[sliceBounds,HT.sIx]
   | some i=>
    simp only[sliceBounds,HT.sIx,Option.getD_none,show(1:Int) > 0 by decide,if_true]
    by_cases h:i<0
    · simp only[h,if_true]<;>omega
    · simp only[h,if_false]<;>omega
theorem slicePick_cut(its:List Value)(lo hi:Option Int):slicePick its.toArray lo hi none=((its.drop (HT.sIx its.length 0 lo)).take (HT.sIx its.length its.length hi - HT.sIx its.length 0 lo)).toArray:=by
 obtain⟨h1,h2,h3⟩:=slice_bounds lo hi its.toArray.size
 unfold slicePick
 rw[h1,h2,h3]
 simp only[sliceRange_one,pick_run,List.size_toArray]<;>rfl
noncomputable def rSlL(K:PySem.W.Frag):V->Option Int->Option Int->Hp->VK->Prop:=fun x lo hi H Q=>∃a xs,x = .ref a/\SqL K H a xs/\∀p,H p=none->Q (.ref p) (upd H p (.lst (cutV xs lo hi)))
theorem sl_list:SlR X (rSlL X.K):=by
 intro pins s σ H x v vl vu lo hi sl Q I rx hs pl pu h
 obtain⟨a,xs,rfl,hx,q⟩:=h
 cases rx
 obtain⟨its,r,ht,hz⟩:=I.list hx
 have hlen:=r.length
 refine⟨"list",_,slot_list_getitem.lookup,ht.isList.typeIs,?_⟩
 refine wpAny_getItem_list_slice ht.isList hs pl pu .none (by simp) ?_ (by rw[List.size_toArray]<;>omega)
 rw[slicePick_cut,←hlen]
 refine⟨.ref s.heap.objs.size,_,I.laid (t':=s.toks) (o:=.lst (cutV xs lo hi)) (fun b ob q=>Heap.get?_push_of_some _ q) (Nat.le_refl _) ?_,rfl,q _ (I.hok.fresh (Nat.le_refl _))⟩
 exact⟨Nat.le_trans (cutV_length xs lo hi) hz,_,0,(r.drop (HT.sIx xs.length 0 lo)).take (HT.sIx xs.length xs.length hi - HT.sIx xs.length 0 lo),Heap.get?_push_size _ rfl⟩
noncomputable def flatV:V->Bool
 | .non=>true
 | .bl _=>true
 | .int _=>true
 | .str _=>true
 | _=>false
noncomputable def eqV:V->V->Bool
 | .non,.non=>true
 | .bl a,.bl b=>a == b
 | .bl a,.int b=>(if a then 1 else 0) == b
 | .int a,.bl b=>a == (if b then 1 else 0)
 | .int a,.int b=>a == b
 | .str a,.str b=>a == b
 | _,_=>false
theorem eqAt_V{A:Around}{s:Shared}{y x:V}{u v:Value}(ry:RelV y u)(rx:RelV x v)(fy:flatV y=true)(fx:flatV x=true):SeqAt.EqAt A s u v (eqV y x):=by
 cases y with
 | non=>
  cases ry
  cases x with
  | non=>cases rx;exact SeqAt.EqAt.same _
  | bl b=>cases rx;exact SeqAt.EqAt.none_bool b
  | int b=>obtain⟨t,rfl⟩:=rx;exact SeqAt.EqAt.none_int b t
  | str b=>obtain⟨t,rfl⟩:=rx;exact SeqAt.EqAt.none_str b t
  | _=>exact absurd (show false=true from fx) Bool.false_ne_true
 | bl a=>
  cases ry
  cases x with
  | non=>cases rx;exact SeqAt.EqAt.bool_none a
  | bl b=>cases rx;exact SeqAt.EqAt.bool_bool a b
  | int b=>obtain⟨t,rfl⟩:=rx;exact SeqAt.EqAt.bool_int a b t
  | str b=>obtain⟨t,rfl⟩:=rx;exact SeqAt.EqAt.bool_str a b t
  | _=>exact absurd (show false=true from fx) Bool.false_ne_true
 | int a=>
  obtain⟨t',rfl⟩:=ry
  cases x with
  | non=>cases rx;exact SeqAt.EqAt.int_none a t'
  | bl b=>cases rx;exact SeqAt.EqAt.int_bool a t' b
  | int b=>obtain⟨t,rfl⟩:=rx;exact SeqAt.EqAt.int_int a t' b t
  | str b=>obtain⟨t,rfl⟩:=rx;exact SeqAt.EqAt.int_str a t' b t
  | _=>exact absurd (show false=true from fx) Bool.false_ne_true
 | str a=>
  obtain⟨t',rfl⟩:=ry
  cases x with
  | non=>cases rx;exact SeqAt.EqAt.str_none a t'
  | bl b=>cases rx;exact SeqAt.EqAt.str_bool a t' b
  | int b=>obtain⟨t,rfl⟩:=rx;exact SeqAt.EqAt.str_int a t' b t
  | str b=>obtain⟨t,rfl⟩:=rx;exact SeqAt.EqAt.str_str a t' b t
  | _=>exact absurd (show false=true from fx) Bool.false_ne_true
 | _=>exact absurd (show false=true from fy) Bool.false_ne_true
noncomputable def eqU(x:V)(u:Value):Bool:=match u with
 | .none=>eqV .non x
 | .bool b=>eqV (.bl b) x
 | .int i _=>eqV (.int i) x
 | .str z _=>eqV (.str z) x
 | _=>false
theorem eqU_of{x y:V}{u:Value}(r:RelV y u)(f:flatV y=true):eqU x u=eqV y x:=by
 cases y with
 | non=>cases r;rfl
 | bl b=>cases r;rfl
 | int i=>obtain⟨t,rfl⟩:=r;rfl
 | str z=>obtain⟨t,rfl⟩:=r;rfl
 | _=>exact absurd (show false=true from f) Bool.false_ne_true
theorem any_eqU{x:V}:∀{xs:List V} {us:List Value},Vals xs us->xs.all flatV=true->us.any (eqU x)=xs.any fun y=>eqV y x
 | _,_,.nil,_=>rfl
 | y::xs,u::us,.cons r t,f=>by
  rw[List.all_cons,Bool.and_eq_true]at f
  rw[List.any_cons,List.any_cons,eqU_of r f.1,any_eqU t f.2]
theorem mem_eqAt{A:Around}{s:Shared}{x:V}{v:Value}(rx:RelV x v)(fx:flatV x=true):∀{xs:List V} {us:List Value},Vals xs us->xs.all flatV=true->∀u∈us,SeqAt.EqAt A s u v (eqU x u)
 | _,_,.nil,_=>fun u hu=>by cases hu
 | y::xs,u::us,.cons r t,f=>fun u' hu=>by
  rw[List.all_cons,Bool.and_eq_true]at f
  rcases List.mem_cons.mp hu with rfl | hu
  · rw[eqU_of r f.1];exact eqAt_V r rx f.1 fx
  · exact mem_eqAt rx fx t f.2 u' hu
noncomputable def inV(x:V)(xs:List V):Bool:=xs.any fun y=>eqV y x
noncomputable def rIn(K:PySem.W.Frag)(neg:Bool):R2:=fun x y H Q=>∃p xs,y = .ref p/\(SqL K H p xs\/SqT K H p xs)/\flatV x=true/\xs.all flatV=true/\Q (.bl (if neg then !inV x xs else inV x xs)) H
theorem op_in_seq:OpR X (compareOp .In) (rIn X.K false):=by
 intro pins s σ H x y v u Q I rx ry h
 obtain⟨p,xs,rfl,hq,fx,fs,q⟩:=h
 cases ry
 rcases hq with hq | hq
 · obtain⟨its,r,pl,hz⟩:=I.list hq
   refine SeqAt.in_listAt (eqU x) pl.isList (fun w hw=>mem_eqAt rx fx r fs w (by simpa using hw)) ⟨.bl _,H,I,rfl,?_⟩
   rw[show its.toArray.any (eqU x)=its.any (eqU x) by simp,any_eqU r fs]
   exact q
 · obtain⟨its,r,pl,hz⟩:=I.tuple hq
   refine SeqAt.in_tupleAt (eqU x) pl (fun w hw=>mem_eqAt rx fx r fs w (by simpa using hw)) ⟨.bl _,H,I,rfl,?_⟩
   rw[show its.toArray.any (eqU x)=its.any (eqU x) by simp,any_eqU r fs]
   exact q
theorem call_len_seq:CallR X (.builtin "len") (fun xs H Q=>∃p ys,xs = [.ref p]/\(SqL X.K H p ys\/SqT X.K H p ys)/\Q (.int ys.length) H):=by
 intro pins s σ H xs us Q I r h
 obtain⟨p,ys,rfl,hq,q⟩:=h
 obtain⟨u,rfl,rx⟩:=vals1 r
 cases rx
 have hn:=line63
 rcases hq with hq | hq
 · obtain⟨its,r',pl,hz⟩:=I.list hq
   have hlen:=r'.length
   exact Calls.call_len_list pl.isList (by simp only[List.size_toArray]<;>omega) ⟨.int ys.length,H,I.tok _,⟨s.toks+1,by rw[List.size_toArray,hlen]⟩,q⟩
 · obtain⟨its,r',pl,hz⟩:=I.tuple hq
   have hlen:=r'.length
   exact len_tuple pl (by simp only[List.size_toArray]<;>omega) ⟨.int ys.length,H,I.tok _,⟨s.toks+1,by rw[List.size_toArray,hlen]⟩,q⟩
theorem call_list_of:CallR X (.type "list") (fun xs H Q=>∃p ys,xs = [.ref p]/\(SqL X.K H p ys\/SqT X.K H p ys)/\∀l,H l=none->Q (.ref l) (upd H l (.lst ys))):=by
 intro pins s σ H xs us Q I r h
 obtain⟨p,ys,rfl,hq,q⟩:=h
 obtain⟨u,rfl,rx⟩:=vals1 r
 cases rx
 have fin:∀(its:List Value),Vals ys its->ys.length<=sizeLine->∀(h':Heap) (c':Nat),(∀b o',s.heap.get? b=some o'->h'.get? b=some o') ->
  h'.get? s.heap.objs.size=some { cls:=.type "list",dict:=none,data:=.seq its.toArray c',slots:=#[] }->EP X pins σ Q (.ref s.heap.objs.size) { s with heap:=h' }:=fun its r' hz h' c' kp e=>
  ⟨.ref s.heap.objs.size,_,I.laid (t':=s.toks) kp (Nat.le_refl _) (show ObjOk X.prog X.w _ h' _ (.lst ys) from ⟨hz,its,c',r',e⟩),rfl,q _ (I.hok.fresh (Nat.le_refl _))⟩
 rcases hq with hq | hq
 · obtain⟨its,r',pl,hz⟩:=I.list hq
   have hlen:=r'.length
   obtain⟨o,ho,hc,n,hd⟩:=pl.isList
   exact call_list_seq p (.inl rfl) ho hc hd (fun h' c' kp e=>fin its r' hz h' c' kp e) (by simp only[List.size_toArray]<;>omega)
 · obtain⟨its,r',pl,hz⟩:=I.tuple hq
   have hlen:=r'.length
   obtain⟨o,ho,hc,n,hd⟩:=pl
   exact call_list_seq p (.inr rfl) ho hc hd (fun h' c' kp e=>fin its r' hz h' c' kp e) (by simp only[List.size_toArray]<;>omega)
noncomputable def tyV(K:PySem.W.Frag)(T:String)(x:V)(H:Hp):Prop:=match x with
 | .str _=>T = "str"
 | .int _=>T = "int"
 | .ref p=>(T = "list"/\∃xs,SqL K H p xs)\/(T = "tuple"/\∃o,K.lookup p=some o/\o.cls = .type "tuple"/\o.dict=none) \/
  (T = "dict"/\((∃kvs,H p=some (.dK kvs))\/∃kvs,H p=some (.dT kvs)))\/(T = "set"/\∃S n,H p=some (.set S n))
 | _=>False
theorem tyV_is{pins:List (Addr×Obj)}{σ:St}{H:Hp}{s:Shared}{T:String}{x:V}{v:Value}(I:Inv X pins σ H s)(r:RelV x v)(ty:tyV X.K T x H) :
 s.TypeIs v T/\∀a,v = .ref a->∃ob,s.heap.get? a=some ob/\ob.dict=none:=by
 cases x with
 | str z=>
  obtain⟨t,rfl⟩:=r
  cases (show T = "str" from ty)
  exact⟨typeIs_str s z t,fun _ e=>nomatch e⟩
 | int i=>
  obtain⟨t,rfl⟩:=r
  cases (show T = "int" from ty)
  exact⟨typeIs_int s i t,fun _ e=>nomatch e⟩
 | ref p=>
  cases r
  rcases ty with⟨rfl,xs,hq⟩ | ⟨rfl,o,hk,hc,hd⟩ | ⟨rfl,hk⟩ | ⟨rfl,S,n,hk⟩
  · obtain⟨its,_,pl,_⟩:=I.list hq
    refine⟨pl.isList.typeIs,fun a e=>?_⟩
    cases e
    obtain⟨o,n,e,c,hd,_⟩:=pl
    exact⟨o,e,hd⟩
  · refine⟨⟨o,I.kIn p o hk,hc⟩,fun a e=>?_⟩
    cases e
    exact⟨o,I.kIn _ o hk,hd⟩
  · have z:∃o,s.heap.get? p=some o/\o.ExactDict:=by
     rcases hk with⟨kvs,hk⟩ | ⟨kvs,hk⟩
     · obtain⟨_,_,_,_,o,_,_,e,ex,_⟩:=I.hok p _ hk
       exact⟨o,e,ex⟩
     · obtain⟨_,_,_,_,o,_,_,e,ex,_⟩:=I.hok p _ hk
       exact⟨o,e,ex⟩
    obtain⟨o,e,ex⟩:=z
    refine⟨⟨o,e,ex.1⟩,fun a e2=>?_⟩
    cases e2
    exact⟨o,e,ex.2.1⟩
  · obtain⟨o,_,_,_,e,ex,_⟩:=I.hok p _ hk
    refine⟨⟨o,e,ex.1⟩,fun a e2=>?_⟩
    cases e2
    exact⟨o,e,ex.2.1⟩
 | _=>exact False.elim ty
noncomputable def tBM(K:PySem.W.Frag)(T:String)(r:V->List V->Hp->VK->Prop)(to:TE)(t:TA):TE:=fun σ H Q=>to σ H fun x H1=>tyV K T x H1/\t σ H1 fun xs H2=>r x xs H2 Q
variable {o e:Expr} {es:List Expr} {to:TE} {t:TA} {name:Str} {apos cpos:Pos} {T id:String} {r:V->List V->Hp->VK->Prop}
theorem pe_bm(pa:PlainAttrs T)(slot:Slot T name id)(hty:typeOf (.builtin id)=pure (.type "method_descriptor"))(hm:MtR X id r)(ho:PE X o to)(ha:PA X (e::es) t)
 (hbase:attributeBase o name X.env (eval o X.env)=eval o X.env:=by rfl)
 (hfew:((backTo cpos (starEach (e::es) X.env)).all (fun x=>!x.1) && (backToKw cpos (keywordEach [] X.env)).all (fun x=>x.1.isSome)
  && decide ((e::es).length+([]:List Keyword).length+(if ([]:List Keyword).isEmpty then 0 else 1)<30))=true:=by rfl)
 (hline:(apos.endLine == cpos.line)=true:=by rfl) (hs:starEach (e::es) X.env=(false,eval e X.env)::starEach es X.env:=by rfl) (hplain:(backTo cpos (starEach es X.env)).any (·.1)=false:=by rfl) :
 PE X (.Call (.Attribute o name apos) (e::es) [] cpos) (tBM X.K T r to t):=by
 intro pins s σ H Q I h
 refine wpAny_Call_method_late hbase hfew hline rfl (thn (ho pins s σ H _ I h) fun v s1 zq204=>zq204.elim fun x zq205=>zq205.elim fun H1 zq206=>zq206.elim fun I1 zq207=>zq207.elim fun r1 zq208=>zq208.elim fun ty q1=>?_)
 obtain⟨h1,h2⟩:=tyV_is I1 r1 ty
 refine⟨T,id,pa,slot,hty,h1,h2,?_⟩
 have hA:=ha cpos pins s1 σ H1 _ I1 q1
 rw[hs]at hA ⊢
 refine Calls.callWith_builtin (by show(false || (backTo cpos (starEach es X.env)).any (·.1))=false;rw[hplain]<;>rfl) (Calls.evalArgs_plain ?_)
 exact thn hA fun us s2 zq209=>zq209.elim fun vs zq210=>zq210.elim fun H2 zq211=>zq211.elim fun I2 zq212=>zq212.elim fun r2 q2=>hm pins s2 σ H2 x vs v us Q I2 r1 r2 q2
end
end L2
namespace L2
open PySem PySem.Spec PyProof.Rows
noncomputable def MtM(X:Cx)(id:String)(r:V->List V->Hp->VK->Prop):Prop:=
 ∀(pins:List (Addr×Obj)) (s:Shared) (σ:St) (H:Hp) (x:V) (xs:List V) (v:Value) (us:List Value) (Q:VK),Inv X pins σ H s->RelV x v->Vals xs us->r x xs H Q ->
  wpAny (model X.prog X.w) X.A (call (.builtin id) (v::us)) (EP X pins σ Q) X.xe s
theorem Vals.one:∀{x:V} {us:List Value},Vals [x] us->∃u,us = [u]/\RelV x u
 | _,_,.cons r .nil=>⟨_,rfl,r⟩
section
variable {X:Cx} {pins:List (Addr×Obj)} {σ:St} {H:Hp} {s:Shared} {l b:Addr} {xs ys zs:List V}
theorem Inv.lset{its its':List Value}{n:Nat}{f:Array Value->Array Value}{t':Nat}(I:Inv X pins σ H s)(hH:H l=some (.lst xs))
 (e:s.heap.get? l=some { cls:=.type "list",data:=.seq its.toArray n }) (hf:f its.toArray=its'.toArray) (hv:Vals ys its') (hz:ys.length<=sizeLine) :
 Inv X pins σ (upd H l (.lst ys)) { s with heap:=s.heap.update l (Obj.mapSeq f),toks:=t' }:=by
 have q:=PySem.IsL.update e f
 rw[hf]at q
 refine I.write (x:=l) (e:=l) (by rw[hH];exact trivial) (.inl rfl) (fun b' u hb hu=>(Heap.get?_update_other s.heap (Obj.mapSeq f) (Ne.symm hb)).trans hu) ⟨_,q⟩ ?_
 exact⟨hz,its',_,hv,q⟩
theorem Inv.lnew{its:List Value}{t':Nat}(I:Inv X pins σ H s)(hv:Vals ys its)(hz:ys.length<=sizeLine) :
 Inv X pins σ (upd H s.heap.objs.size (.lst ys)) { s with heap:=s.heap.push { cls:=.type "list",data:=.seq its.toArray },toks:=t' }:=
 I.laid (fun _ _ q=>Heap.get?_push_of_some _ q) (Nat.le_refl _) ⟨hz,its,0,hv,Heap.get?_push_size _ rfl⟩
theorem Inv.fresh(I:Inv X pins σ H s):H s.heap.objs.size=none:=I.hok.fresh (Nat.le_refl _)
theorem Inv.lstM(I:Inv X pins σ H s)(hH:H l=some (.lst xs)):xs.length<=sizeLine/\∃(its:List Value) (n:Nat),Vals xs its/\xs.length=its.length/\s.heap.get? l=some { cls:=.type "list",data:=.seq its.toArray n }:=by
 obtain⟨z,its,n,r,e⟩:=I.hok l _ hH
 exact⟨z,its,n,r,r.length,e⟩
theorem notLongL{n:Nat}(h:n<=sizeLine):Builtin.List.listTooLong n=false:=by
 unfold Builtin.List.listTooLong
 exact decide_eq_false (by omega)
end
section
variable {X:Cx}
noncomputable def rAppend:V->List V->Hp->VK->Prop:=fun x vs H Q=>∃l xs y,x = .ref l/\vs = [y]/\H l=some (.lst xs)/\xs.length<sizeLine/\Q .non (upd H l (.lst (xs++[y])))
theorem mt_append:MtM X "list.append" rAppend:=by
 intro pins s σ H x vs v us Q I rx rv h
 obtain⟨l,xs,y,rfl,rfl,hH,hz,q⟩:=h
 cases rx
 obtain⟨u,rfl,ru⟩:=rv.one
 obtain⟨z,its,n,r,hl,e⟩:=I.lstM hH
 refine call_meets F.slot_list_append ⟨_,e,rfl⟩ F.entry_list_append (F.args_list_append_2 _ _) (PySem.list_append l its.toArray n u (by rw[List.size_toArray];omega)) ⟨e,?_⟩
 refine⟨.non,_,I.lset (its':=its++[u]) hH e (by simp) (r.append (.cons ru .nil)) ?_,rfl,q⟩
 rw[List.length_append,List.length_singleton]
 omega
noncomputable def rExtend:V->List V->Hp->VK->Prop:=fun x vs H Q=>∃l b xs zs,x = .ref l/\vs = [.ref b]/\H l=some (.lst xs)/\H b=some (.lst zs)/\xs.length+zs.length<=sizeLine/\Q .non (upd H l (.lst (xs++zs)))
theorem mt_extend:MtM X "list.extend" rExtend:=by
 intro pins s σ H x vs v us Q I rx rv h
 obtain⟨l,b,xs,zs,rfl,rfl,hH,hB,hz,q⟩:=h
 cases rx
 obtain⟨u,rfl,ru⟩:=rv.one
 cases ru
 obtain⟨z,its,n,r,hl,e⟩:=I.lstM hH
 obtain⟨z2,its2,n2,r2,hl2,e2⟩:=I.lstM hB
 have hsz:its.toArray.size+its2.toArray.size<=sizeLine:=by rw[List.size_toArray,List.size_toArray];omega
 have hlong:¬(!its.toArray.isEmpty && Builtin.List.listTooLong (its.toArray.size+its2.toArray.size))=true:=by
  rw[notLongL hsz,Bool.and_false]
  exact Bool.false_ne_true
 refine call_meets F.slot_list_extend ⟨_,e,rfl⟩ F.entry_list_extend (F.args_list_extend_2 _ _)
  (AutoSeq1.list_extend_list_list_0 l its.toArray n b its2.toArray n2 hlong (by rw[List.size_toArray];omega) (by omega)) ⟨e,e2,?_⟩
 refine⟨.non,_,I.lset (its':=its++its2) hH e (by simp) (r.append r2) ?_,rfl,q⟩
 rw[List.length_append]
 omega
noncomputable def rCat:R2:=fun x y H Q=>∃l b xs zs,x = .ref l/\y = .ref b/\H l=some (.lst xs)/\H b=some (.lst zs)/\xs.length+zs.length<=sizeLine/\∀p,H p=none->Q (.ref p) (upd H p (.lst (xs++zs)))
theorem op_cat:OpR X (binaryOp .Add) rCat:=by
 intro pins s σ H x y v u Q I rx ry h
 obtain⟨l,b,xs,zs,rfl,rfl,hH,hB,hz,q⟩:=h
 cases rx
 cases ry
 obtain⟨z,its,n,r,hl,e⟩:=I.lstM hH
 obtain⟨z2,its2,n2,r2,hl2,e2⟩:=I.lstM hB
 refine PySem.P.add_list e e2 ?_ (by rw[List.size_toArray,List.size_toArray];omega)
 have ea:its.toArray++its2.toArray=(its++its2).toArray:=by simp
 rw[ea]
 exact⟨.ref _,_,I.lnew (t':=s.toks) (r.append r2) (by rw[List.length_append];omega),rfl,q _ I.fresh⟩
end
section
variable {prog:Program} {w:World} {A:Around} {E:Value->Shared->Prop} {s:Shared}
set_option maxRecDepth 100000 in
end
section
variable {X:Cx}
end
end L2
namespace L2
open PySem PySem.Spec PyProof.Rows
section
variable {κ:Type} [DecidableEq κ]
noncomputable def valV(kvs:List (κ×V))(k:κ):Option V:=(kvs.find? fun kv=>decide (kv.1=k)).map (·.2)
noncomputable def putK(kvs:List (κ×V))(k:κ)(v:V):List (κ×V):=
 if (kvs.any fun kv=>decide (kv.1=k))=true then kvs.map (fun kv=>if kv.1=k then(kv.1,v) else kv) else kvs++[(k,v)]
theorem valV_pos{p:κ×V}{r:List (κ×V)}{k:κ}(e:p.1=k):valV (p::r) k=some p.2:=by simp[valV,List.find?_cons,e]
theorem valV_neg{p:κ×V}{r:List (κ×V)}{k:κ}(e:¬p.1=k):valV (p::r) k=valV r k:=by simp[valV,List.find?_cons,e]
theorem valV_any(k:κ):∀kvs:List (κ×V),(kvs.any fun kv=>decide (kv.1=k))=(valV kvs k).isSome
 | []=>rfl
 | p::r=>by
  rw[List.any_cons]
  by_cases e:p.1=k
  · simp only[valV_pos e,decide_eq_true e,Bool.true_or,Option.isSome_some]
  · rw[valV_neg e,decide_eq_false e,Bool.false_or];exact valV_any k r
theorem valV_map(k j:κ)(y:V):∀kvs:List (κ×V),valV (kvs.map fun kv=>if kv.1=k then(kv.1,y) else kv) j=(valV kvs j).map fun x=>if j=k then y else x
 | []=>rfl
 | p::r=>by
  have ih:=valV_map k j y r
  rw[List.map_cons]
  by_cases h:p.1=k
  · rw[if_pos h]
    by_cases e:p.1=j
    · rw[valV_pos (p:=(p.1,y)) e,valV_pos e,Option.map_some,if_pos (e.symm.trans h)]
    · rw[valV_neg (p:=(p.1,y)) e,valV_neg e,ih]
  · rw[if_neg h]
    by_cases e:p.1=j
    · rw[valV_pos (p:=p) e,valV_pos e,Option.map_some,if_neg (fun z=>h (e.trans z))]
    · rw[valV_neg (p:=p) e,valV_neg e,ih]
theorem valV_snoc(k j:κ)(y:V):∀kvs:List (κ×V),valV kvs k=none->valV (kvs++[(k,y)]) j=if j=k then some y else valV kvs j
 | [],_=>by
  by_cases e:k=j
  · rw[if_pos e.symm];exact valV_pos (p:=(k,y)) e
  · rw[if_neg (fun z=>e z.symm)];exact valV_neg (p:=(k,y)) e
 | p::r,hn=>by
  rw[List.cons_append]
  have hk:¬p.1=k:=fun z=>by rw[valV_pos z]at hn;cases hn
  rw[valV_neg hk]at hn
  have ih:=valV_snoc k j y r hn
  by_cases e:p.1=j
  · rw[valV_pos e,valV_pos e,if_neg (fun z=>hk (e.trans z))]
  · rw[valV_neg e,valV_neg e,ih]
theorem valV_put(kvs:List (κ×V))(k j:κ)(y:V):valV (putK kvs k y) j=if j=k then some y else valV kvs j:=by
 unfold putK
 by_cases a:(kvs.any fun kv=>decide (kv.1=k))=true
 · rw[if_pos a,valV_map]
   rw[valV_any]at a
   by_cases e:j=k
   · obtain⟨x,hx⟩:=Option.isSome_iff_exists.mp a
     rw[if_pos e,e,hx,Option.map_some,if_pos rfl]
   · rw[if_neg e]
     cases valV kvs j with
     | none=>rfl
     | some x=>rw[Option.map_some,if_neg e]
 · rw[if_neg a]
   refine valV_snoc k j y kvs ?_
   rw[valV_any]at a
   cases q:valV kvs k with
   | none=>rfl
   | some x=>rw[q]at a;exact(a rfl).elim
theorem length_putK(kvs:List (κ×V))(k:κ)(v:V):(putK kvs k v).length<=kvs.length+1:=by
 unfold putK
 split
 · rw[List.length_map];omega
 · rw[List.length_append,List.length_cons,List.length_nil];omega
theorem putK_new{kvs:List (κ×V)}{k:κ}(v:V)(h:valV kvs k=none):putK kvs k v=kvs++[(k,v)]:=by
 unfold putK
 rw[valV_any,h]
 exact if_neg (by decide)
theorem RelO.isSome_eq{o:Option V}{u:Option Value}(r:RelO o u):o.isSome=u.isSome:=by
 cases o with
 | none=>cases u with
  | none=>rfl
  | some _=>exact(show False from r).elim
 | some _=>cases u with
  | none=>exact(show False from r).elim
  | some _=>rfl
theorem RelO.getD{o:Option V}{u:Option Value}{d:V}{d':Value}(r:RelO o u)(rd:RelV d d'):RelV (o.getD d) (u.getD d'):=by
 cases o with
 | none=>cases u with
  | none=>exact rd
  | some _=>exact(show False from r).elim
 | some _=>cases u with
  | none=>exact(show False from r).elim
  | some _=>exact r
theorem KV.val{kvs:List (κ×V)}{vs:List (κ×Value)}(r:KV kvs vs)(k:κ):RelO (valV kvs k) (valueAt vs k):=by
 unfold KV at r
 induction r with
 | nil=>exact True.intro
 | @cons p q ps qs h t ih=>
  obtain⟨h1,h2⟩:=h
  by_cases e:p.1=k
  · have e':q.1=k:=h1.symm.trans e
    have b:valueAt (q::qs) k=some q.2:=by simp[valueAt,List.find?_cons,e']
    rw[valV_pos e,b];exact h2
  · have e':¬q.1=k:=fun z=>e (h1.trans z)
    have b:valueAt (q::qs) k=valueAt qs k:=by simp[valueAt,List.find?_cons,e']
    rw[valV_neg e,b];exact ih
theorem KV.any{kvs:List (κ×V)}{vs:List (κ×Value)}(r:KV kvs vs)(k:κ):(kvs.any fun kv=>decide (kv.1=k))=vs.any fun kv=>decide (kv.1=k):=by
 unfold KV at r
 induction r with
 | nil=>rfl
 | cons h t ih=>rw[List.any_cons,List.any_cons,ih,h.1]
theorem KV.repl{kvs:List (κ×V)}{vs:List (κ×Value)}(r:KV kvs vs)(k:κ){y:V}{u:Value}(ry:RelV y u) :
 KV (kvs.map fun kv=>if kv.1=k then(kv.1,y) else kv) (vs.map fun kv=>if kv.1=k then(kv.1,u) else kv):=by
 unfold KV at r ⊢
 induction r with
 | nil=>exact .nil
 | @cons p q ps qs h t ih=>
  rw[List.map_cons,List.map_cons]
  refine .cons ?_ ih
  obtain⟨h1,h2⟩:=h
  by_cases e:p.1=k
  · rw[if_pos e,if_pos (h1.symm.trans e)];exact⟨h1,ry⟩
  · rw[if_neg e,if_neg (fun z=>e (h1.trans z))];exact⟨h1,h2⟩
theorem KV.put{kvs:List (κ×V)}{vs:List (κ×Value)}(r:KV kvs vs)(k:κ){y:V}{u:Value}(ry:RelV y u):KV (putK kvs k y) (stored vs k u):=by
 unfold putK stored
 rw[r.any k]
 by_cases e:(vs.any fun kv=>decide (kv.1=k))=true
 · rw[if_pos e,if_pos e];exact r.repl k ry
 · rw[if_neg e,if_neg e];exact Paired.snoc r ⟨rfl,ry⟩
theorem KV.length{kvs:List (κ×V)}{vs:List (κ×Value)}(r:KV kvs vs):kvs.length=vs.length:=Paired.length r
end
theorem kV_is{P:Program}{w:World}{k:Key}{u:Value}(r:RelV (kV k) u):(mixKind P w).is k u=true:=by
 cases k with
 | inl i=>obtain⟨t,e⟩:=(show∃t,u=Value.int i t from r);subst e;exact mixKind_int P w i t
 | inr x=>obtain⟨t,e⟩:=(show∃t,u=Value.str x t from r);subst e;exact mixKind_str P w x t
theorem items_are{P:Program}{w:World}:∀{ks:List Key} {us:List Value},Vals (ks.map kV) us->ItemsAre (mixKind P w) ks us
 | [],_,r=>by rw[List.map_nil]at r;cases r;exact .nil
 | k::ks,_,r=>by
  rw[List.map_cons]at r
  cases r with
  | cons h t=>exact .cons (kV_is h) (items_are t)
noncomputable abbrev KT (H:Hp):List (List NI×V)->List (List NI×Addr×Value)->Prop:=Paired fun p q=>p.1=q.1/\NAt H p.1 q.2.1/\RelV p.2 q.2.2
theorem KT.val{H:Hp}{kvs:List (List NI×V)}{xs:List (List NI×Addr×Value)}(r:KT H kvs xs)(k:List NI):RelO (valV kvs k) ((atKey xs k).map (·.2)):=by
 induction r with
 | nil=>exact True.intro
 | @cons p q ps qs h t ih=>
  obtain⟨h1,_,h2⟩:=h
  by_cases e:p.1=k
  · have e':q.1=k:=h1.symm.trans e
    have b:atKey (q::qs) k=some q.2:=by simp[atKey,List.find?_cons,e']
    rw[valV_pos e,b];exact h2
  · have e':¬q.1=k:=fun z=>e (h1.trans z)
    have b:atKey (q::qs) k=atKey qs k:=by simp[atKey,List.find?_cons,e']
    rw[valV_neg e,b];exact ih
theorem KT.repl{H:Hp}{kvs:List (List NI×V)}{xs:List (List NI×Addr×Value)}(r:KT H kvs xs)(k:List NI){y:V}{u:Value}(ry:RelV y u) :
 KT H (kvs.map fun kv=>if kv.1=k then(kv.1,y) else kv) (xs.map (putAt k u)):=by
 induction r with
 | nil=>exact .nil
 | @cons p q ps qs h t ih=>
  rw[List.map_cons,List.map_cons]
  refine .cons ?_ ih
  obtain⟨h1,h2,h3⟩:=h
  unfold putAt
  by_cases e:p.1=k
  · rw[if_pos e,if_pos (h1.symm.trans e)];exact⟨h1,h2,ry⟩
  · rw[if_neg e,if_neg (fun z=>e (h1.trans z))];exact⟨h1,h2,h3⟩
theorem KT.put{H:Hp}{kvs:List (List NI×V)}{xs:List (List NI×Addr×Value)}(r:KT H kvs xs)(k:List NI){b:Addr}{y:V}{u:Value}(hb:NAt H k b)(ry:RelV y u) :
 KT H (putK kvs k y) (storedH xs k b u):=by
 have e:(kvs.any fun kv=>decide (kv.1=k))=(atKey xs k).isSome:=by
  rw[valV_any,(r.val k).isSome_eq,Option.isSome_map]
 unfold putK storedH
 rw[e]
 by_cases q:(atKey xs k).isSome=true
 · rw[if_pos q,if_pos q];exact r.repl k ry
 · rw[if_neg q,if_neg q];exact Paired.snoc r ⟨rfl,hb,ry⟩
theorem KT.keeps{H H':Hp}{kvs:List (List NI×V)}{xs:List (List NI×Addr×Value)}(r:KT H kvs xs)(ht:∀b ys,H b=some (.tup ys)->H' b=some (.tup ys)):KT H' kvs xs:=
 Paired.mapP r fun _ _ z=>⟨z.1,z.2.1.keeps ht,z.2.2⟩
section
variable {P:Program} {w:World} {H:Hp} {h:Heap} {a:Addr}
theorem rd_of{u:HO}(ok:HOk P w H h)(e:Rd H a u):ObjOk P w H h a u:=e.ok ok
theorem dk_rd{kvs:List (Key×V)}(ok:HOk P w H h)(e:Rd H a (.dK kvs)):kvs.length<=sizeLine/\(a == sysModules)=false/\∃vs,KV kvs vs/\h.DictOf (mixKind P w) a vs:=
 show ObjOk P w H h a (.dK kvs) from rd_of ok e
theorem dk_of{kvs:List (Key×V)}(ok:HOk P w H h)(e:H a=some (.dK kvs)):kvs.length<=sizeLine/\(a == sysModules)=false/\∃vs,KV kvs vs/\h.DictOf (mixKind P w) a vs:=dk_rd ok (.inl e)
theorem nitems_of{ks:List NI}{vs:List V}{us:List Value}(ok:HOk P w H h)(x:NVs H ks vs)(r:Vals vs us):NItems P w h ks us:=by
 induction x generalizing us with
 | nil=>cases r;exact .nil
 | @cons i v ks vs p _ ih=>
  cases r with
  | cons rv rr=>
   refine .cons ?_ (ih rr)
   cases i with
   | inl k=>
    have p:v=kV k:=p
    subst p
    exact kV_is (P:=P) (w:=w) rv
   | inr l=>
    obtain⟨b,rfl,e⟩:=p
    cases rv
    obtain⟨_,its,r2,o,h1,h2,n,h3⟩:=(show ObjOk P w H h b (.tup (l.map kV)) from ok b _ e)
    exact⟨b,rfl,o,its.toArray,n,h1,h2,h3,by simpa using items_are r2⟩
theorem key_of{ks:List NI}(ok:HOk P w H h)(e:NAt H ks a):(nestKind P w).is h ks a:=by
 obtain⟨vs,e,x⟩:=e
 obtain⟨_,its,r,o,h1,h2,n,h3⟩:=(show ObjOk P w H h a (.tup vs) from ok a _ e)
 exact⟨o,its.toArray,n,h1,h2,h3,by simpa using nitems_of ok x r⟩
theorem dt_rd{kvs:List (List NI×V)}(ok:HOk P w H h)(e:Rd H a (.dT kvs)):kvs.length<=sizeLine/\(a == sysModules)=false /\
 ∃xs,KT H kvs xs/\h.DictOfH (nestKind P w) a xs:=by
 obtain⟨z,y,xs,r,o,es,ep,h1,h2,h3,h4,h5⟩:=(show ObjOk P w H h a (.dT kvs) from rd_of ok e)
 refine⟨z,y,xs,r,o,es,ep,h1,h2,h3,h4,fun x hx=>?_,h5⟩
 have all:∀{l:List (List NI×V)} {m:List (List NI×Addr×Value)},KT H l m->∀x∈m,(nestKind P w).is h x.1 x.2.1:=by
  intro l m q
  induction q with
  | nil=>intro x hx;exact nomatch hx
  | @cons p q ps qs hq t ih=>
   intro x hx
   rcases List.mem_cons.mp hx with e | hx
   · subst e
     exact key_of ok (by rw[←hq.1];exact hq.2.1)
   · exact ih x hx
 exact all r x hx
theorem dt_of{kvs:List (List NI×V)}(ok:HOk P w H h)(e:H a=some (.dT kvs)):kvs.length<=sizeLine/\(a == sysModules)=false /\
 ∃xs,KT H kvs xs/\h.DictOfH (nestKind P w) a xs:=dt_rd ok (.inl e)
end
noncomputable def DGet(H:Hp)(a:Addr)(y:V)(r:Option V):Prop:=
 (∃kvs k,Rd H a (.dK kvs)/\y=kV k/\r=valV kvs k)\/∃kvs k b,Rd H a (.dT kvs)/\y = .ref b/\NAt H k b/\r=valV kvs k
noncomputable def DPut(H:Hp)(a:Addr)(y v:V)(H':Hp):Prop:=
 (∃kvs k,H a=some (.dK kvs)/\y=kV k/\kvs.length<sizeLine/\H'=upd H a (.dK (putK kvs k v))) \/
 ∃kvs k b,H a=some (.dT kvs)/\y = .ref b/\NAt H k b/\kvs.length<sizeLine/\H'=upd H a (.dT (putK kvs k v))
theorem DGet.k{H:Hp}{a:Addr}{kvs:List (Key×V)}{k:Key}(e:H a=some (.dK kvs)):DGet H a (kV k) (valV kvs k):=.inl ⟨kvs,k,.inl e,rfl,rfl⟩
theorem DGet.t{H:Hp}{a b:Addr}{kvs:List (List NI×V)}{k:List NI}(e:H a=some (.dT kvs))(eb:NAt H k b):DGet H a (.ref b) (valV kvs k):=.inr ⟨kvs,k,b,.inl e,rfl,eb,rfl⟩
theorem DPut.k{H:Hp}{a:Addr}{kvs:List (Key×V)}{k:Key}{v:V}(e:H a=some (.dK kvs))(hl:kvs.length<sizeLine):DPut H a (kV k) v (upd H a (.dK (putK kvs k v))):=.inl ⟨kvs,k,e,rfl,hl,rfl⟩
theorem DPut.t{H:Hp}{a b:Addr}{kvs:List (List NI×V)}{k:List NI}{v:V}(e:H a=some (.dT kvs))(eb:NAt H k b)(hl:kvs.length<sizeLine) :
 DPut H a (.ref b) v (upd H a (.dT (putK kvs k v))):=.inr ⟨kvs,k,b,e,rfl,eb,hl,rfl⟩
section
variable {X:Cx} {pins:List (Addr×Obj)} {σ:St} {H:Hp} {s:Shared} {a:Addr} {y v:V} {u r:Value} {o:Option V} {A:Around} {E:Value->Shared->Prop}
theorem Inv.big(I:Inv X pins σ H s):sysModules<s.heap.objs.size:=by
 have h:mainGlobals<s.heap.objs.size:=(I.mod.glob.keeps I.bk).lt
 exact Nat.lt_trans (by decide) h
theorem d_getItem{Q:Value->Shared->Prop}(hu:A.units+64<cLine)(I:Inv X pins σ H s)(g:DGet H a y (some v))(ry:RelV y u)(h:∀w' s',Inv X pins σ H s'->RelV v w'->Q w' s') :
 wpAny (model X.prog X.w) A (getItem (.ref a) u) Q E s:=by
 rcases g with⟨kvs,k,e,ey,l⟩ | ⟨kvs,k,b,e,ey,eb,l⟩
 · subst ey
   obtain⟨z,hd,vs,rel,dd⟩:=dk_rd I.hok e
   obtain⟨w',hw,rw'⟩:=RelO.some_of (v:=v) (o:=valueAt vs k) (by rw[l];exact rel.val k)
   exact wpAny_getItem_of (kV_is ry) dd.mapOf hw (h w' _ (I.tok _) rw')
 · subst ey
   cases (show u=Value.ref b from ry)
   obtain⟨z,hd,xs,rel,dd⟩:=dt_rd I.hok e
   obtain⟨w',hw,rw'⟩:=RelO.some_of (v:=v) (o:=(atKey xs k).map (·.2)) (by rw[l];exact rel.val k)
   obtain⟨p,hp,hp2⟩:=Option.map_eq_some_iff.mp hw
   refine wpAny_getItem_heap (nestKind_room hu) (key_of I.hok eb) dd hp ?_
   rw[hp2]
   exact h w' _ (I.tok _) rw'
theorem d_notIn{Q:Value->Shared->Prop}(hu:A.units+64<cLine)(I:Inv X pins σ H s)(g:DGet H a y o)(ry:RelV y u)(h:∀s',Inv X pins σ H s'->Q (.bool (!o.isSome)) s') :
 wpAny (model X.prog X.w) A (compareOp .NotIn u (.ref a)) Q E s:=by
 rcases g with⟨kvs,k,e,ey,l⟩ | ⟨kvs,k,b,e,ey,eb,l⟩
 · subst ey
   obtain⟨z,hd,vs,rel,dd⟩:=dk_rd I.hok e
   refine wpAny_notIn_of (kV_is ry) hd dd.mapOf ?_
   rw[←(rel.val k).isSome_eq,←l]
   exact h _ (I.tok _)
 · subst ey
   cases (show u=Value.ref b from ry)
   obtain⟨z,hd,xs,rel,dd⟩:=dt_rd I.hok e
   refine wpAny_notIn_heap (nestKind_room hu) (key_of I.hok eb) hd dd ?_
   have q:=(rel.val k).isSome_eq
   rw[Option.isSome_map]at q
   rw[←q,←l]
   exact h _ (I.tok _)
theorem d_write{h':Heap}{t':Nat}{ob:HO}(I:Inv X pins σ H s)(mu:Mut (H a))(hs:Heap.SameBut a s.heap h')(he:∃q,h'.get? a=some q)(new:ObjOk X.prog X.w (upd H a ob) h' a ob) :
 Inv X pins σ (upd H a ob) { s with heap:=h',toks:=t' }:=
 I.write (x:=a) (e:=a) mu (.inl rfl) (fun b q hb z=>(hs.2 b hb).trans z) he new
theorem dk_new{P:Program}{w:World}{H':Hp}{h':Heap}{kvs:List (Key×V)}{vs:List (Key×Value)}(z:kvs.length<=sizeLine)(hd:(a == sysModules)=false)(rel:KV kvs vs)(dd:h'.DictOf (mixKind P w) a vs) :
 ObjOk P w H' h' a (.dK kvs):=⟨z,hd,vs,rel,dd⟩
theorem d_setItem{H':Hp}{Q:Unit->Shared->Prop}(hu:A.units+64<cLine)(I:Inv X pins σ H s)(g:DPut H a y v H')(ry:RelV y u)(rv:RelV v r)(h:∀s',Inv X pins σ H' s'->Q () s') :
 wpAny (model X.prog X.w) A (setItem (.ref a) u r) Q E s:=by
 rcases g with⟨kvs,k,e,ey,l,eH⟩ | ⟨kvs,k,b,e,ey,eb,l,eH⟩
 · subst ey eH
   obtain⟨z,hd,vs,rel,dd⟩:=dk_of I.hok e
   have hz:vs.length<=sizeLine:=by rw[←rel.length];exact z
   have hl:(putK kvs k v).length<=sizeLine:=by have:=length_putK kvs k v;omega
   refine wpAny_setItem_pairs (hsz:=hz) (kV_is ry) dd fun h' dd' hs=>h _ ?_
   have he:∃q,h'.get? a=some q:=dd'.elim fun q zq488=>zq488.elim fun _ zq489=>zq489.elim fun _ zq490=>zq490.elim fun hq _=>⟨q,hq⟩
   exact d_write I (by rw[e];exact True.intro) hs he (dk_new hl hd (rel.put k rv) dd')
 · subst ey eH
   cases (show u=Value.ref b from ry)
   obtain⟨z,hd,xs,rel,dd⟩:=dt_of I.hok e
   have hz:xs.length<=sizeLine:=by rw[←Paired.length rel];exact z
   have hl:(putK kvs k v).length<=sizeLine:=by have:=length_putK kvs k v;omega
   refine wpAny_setItem_heap (hsz:=hz) (nestKind_room hu) (key_of I.hok eb) dd fun h' dd' hs=>h _ ?_
   obtain⟨q,es,ep,hq,h2,h3,h4,_,h5⟩:=dd'
   refine d_write I (by rw[e];exact True.intro) hs ⟨q,hq⟩ ⟨hl,hd,_,(rel.put k eb rv).keeps fun c ys ec=>?_,q,es,ep,hq,h2,h3,h4,h5⟩
   rw[upd_ne (ne_of ec e (fun z=>nomatch z))]
   exact ec
end
section
variable {X:Cx} {pins:List (Addr×Obj)} {σ:St} {H:Hp} {s:Shared} {a:Addr} {kvs:List (Key×V)} {k:Key} {u:Value} {A:Around} {E:Value->Shared->Prop}
end
noncomputable def NoSl(i:Expr):Prop:=∀ov iv,subscripted i false ov iv=operate [ov,iv] (getItem ov iv)
theorem subD_of{prog:Program}{w:World}{A:Around}{E:Value->Shared->Prop}{s:Shared}{env:Env}{value slice:Expr}{pos:Pos}{T id:String}{Q:Value->Shared->Prop}
 (hl:typeLookup (.type T) "__getitem__" = pure (some (.builtin id))) (hs:NoSl slice)
 (h:wpAny (model prog w) A (eval value env) (fun o s₁=>wpAny (model prog w) A (eval slice env) (fun i s₂=>s₂.TypeIs o T/\wpAny (model prog w) A (getItem o i) Q E s₂) E s₁) E s) :
 wpAny (model prog w) A (eval (.Subscript value slice pos) env) Q E s:=by
 refine Subscript_ (wpAny_mono h (fun o s₁ h₁=>wpAny_mono h₁ (fun i s₂ h₂=>?_) fun _ _ x=>x) fun _ _ x=>x)
 obtain⟨hT,h₂⟩:=h₂
 unfold subscriptTail
 refine wpAny_bind ?_
 rw[getitemInPython_of_ne hT.not_modules]
 refine wpAny_bind (wpAny_specialOf hT hl ?_)
 have fin:wpAny (model prog w) A (subscripted slice false o i) (fun r s₃=>wpAny (model prog w) A (letTemporaryGo value o r >>= fun _=>pure r) Q E s₃) E s₂:=by
  rw[hs o i]
  exact wpAny_operating (wpAny_mono h₂ (fun r s₃ h₃=>wpAny_bind (wpAny_letTemporaryGo (wpAny_pure h₃))) fun _ _ x=>x)
 first
  | exact wpAny_pure (wpAny_bind fin)
  | exact wpAny_bind (wpAny_pure (wpAny_bind fin))
  | exact wpAny_bind fin
theorem dict_typeIs{X:Cx}{pins:List (Addr×Obj)}{σ:St}{H:Hp}{s:Shared}{a:Addr}{y:V}{o:Option V}(I:Inv X pins σ H s)(g:DGet H a y o):s.TypeIs (.ref a) "dict":=by
 rcases g with⟨kvs,k,e,_,_⟩ | ⟨kvs,k,b,e,_,_,_⟩
 · obtain⟨_,_,vs,_,dd⟩:=dk_rd I.hok e
   exact dd.typeIs
 · obtain⟨_,_,xs,_,dd⟩:=dt_rd I.hok e
   exact dd.typeIs
noncomputable def tDGet(td ty:TE):TE:=fun σ H Q=>td σ H fun x H1=>ty σ H1 fun y H2=>∃a v,x = .ref a/\DGet H2 a y (some v)/\Q v H2
noncomputable def tDNotIn(ty td:TE):TE:=fun σ H Q=>ty σ H fun y H1=>td σ H1 fun x H2=>∃a o,x = .ref a/\DGet H2 a y o/\Q (.bl (!o.isSome)) H2
noncomputable def sDPut(td ty tv:TE):TS:=fun D σ H=>tv σ H fun v H1=>td σ H1 fun x H2=>ty σ H2 fun y H3=>∃a H4,x = .ref a/\DPut H3 a y v H4/\D.nx σ H4
section
variable {X:Cx} {o i e value:Expr} {pos pos' tpos:Pos} {td ty tv:TE}
theorem pe_dget(hu:X.A.units+64<cLine)(ho:PE X o td)(hi:PE X i ty)(hs:NoSl i):PE X (.Subscript o i pos) (tDGet td ty):=by
 intro pins s σ H Q I h
 refine subD_of PySem.F.slot_dict_getitem.lookup hs (thn (ho pins s σ H _ I h) fun u s1 zq213=>zq213.elim fun x zq214=>zq214.elim fun H1 zq215=>zq215.elim fun I1 zq216=>zq216.elim fun rx q1=>thn (hi pins s1 σ H1 _ I1 q1) fun iv s2 zq217=>zq217.elim fun y zq218=>zq218.elim fun H2 zq219=>zq219.elim fun I2 zq220=>zq220.elim fun ry zq221=>zq221.elim fun a zq222=>zq222.elim fun v zq223=>zq223.elim fun ex zq224=>zq224.elim fun g q2=>?_)
 subst ex
 obtain rfl:u=Value.ref a:=rx
 exact⟨dict_typeIs I2 g,d_getItem hu I2 g ry fun w' s3 I3 rw'=>⟨v,H2,I3,rw',q2⟩⟩
theorem pc_dnotin(hu:X.A.units+64<cLine)(hi:PE X i ty)(ho:PE X o td):PC X .NotIn i o (tDNotIn ty td):=by
 intro pins s σ H Q I h
 refine thn (hi pins s σ H _ I h) fun iv s1 zq225=>zq225.elim fun y zq226=>zq226.elim fun H1 zq227=>zq227.elim fun I1 zq228=>zq228.elim fun ry q1=>thn (ho pins s1 σ H1 _ I1 q1) fun u s2 zq229=>zq229.elim fun x zq230=>zq230.elim fun H2 zq231=>zq231.elim fun I2 zq232=>zq232.elim fun rx zq233=>zq233.elim fun a zq234=>zq234.elim fun ov zq235=>zq235.elim fun ex zq236=>zq236.elim fun g q2=>?_
 subst ex
 obtain rfl:u=Value.ref a:=rx
 exact d_notIn hu I2 g ry fun s3 I3=>⟨.bl (!ov.isSome),H2,I3,rfl,q2⟩
theorem ps_dput(hu:X.A.units+64<cLine)(ho:PE X o td)(hi:PE X i ty)(hv:PE X value tv)(hs:swapsWith value (some (.Subscript o i pos')) pos.line X.env=pure false) :
 PS X (.Assign [.Subscript o i pos'] value pos) (sDPut td ty tv):=by
 intro pins s σ H D I h
 refine wpAny_Assign_Subscript (thn (hv pins s σ H _ I h) fun r s1 zq237=>zq237.elim fun v zq238=>zq238.elim fun H1 zq239=>zq239.elim fun I1 zq240=>zq240.elim fun rv q1=>thn (ho pins s1 σ H1 _ I1 q1) fun u s2 zq241=>zq241.elim fun x zq242=>zq242.elim fun H2 zq243=>zq243.elim fun I2 zq244=>zq244.elim fun rx q2=>thn (hi pins s2 σ H2 _ I2 q2) fun iv s3 zq245=>zq245.elim fun y zq246=>zq246.elim fun H3 zq247=>zq247.elim fun I3 zq248=>zq248.elim fun ry zq249=>zq249.elim fun a zq250=>zq250.elim fun H4 zq251=>zq251.elim fun ex zq252=>zq252.elim fun g q3=>?_) hs
 subst ex
 obtain rfl:u=Value.ref a:=rx
 exact d_setItem hu I3 g ry rv fun s4 I4=>⟨σ,H4,I4,q3⟩
end
theorem dk_empty{P:Program}{w:World}{H:Hp}(h:Heap)(hb:sysModules<h.objs.size):ObjOk P w H (h.push { cls:=.type "dict",data:=.dict #[] }) h.objs.size (.dK []):=
 ⟨Nat.zero_le _,beq_eq_false_iff_ne.mpr (Ne.symm (Nat.ne_of_lt hb)),[],.nil,Heap.DictOf.new h⟩
theorem dt_empty{P:Program}{w:World}{H:Hp}(h:Heap)(hb:sysModules<h.objs.size):ObjOk P w H (h.push { cls:=.type "dict",data:=.dict #[] }) h.objs.size (.dT []):=
 ⟨Nat.zero_le _,beq_eq_false_iff_ne.mpr (Ne.symm (Nat.ne_of_lt hb)),[],.nil,_,#[],0,Heap.get?_push_size _ rfl,⟨rfl,rfl,rfl⟩,rfl,rfl,List.nodup_nil⟩
noncomputable def tDNewK:TE:=fun _ H Q=>∀p,H p=none->Q (.ref p) (upd H p (.dK []))
noncomputable def tDNewT:TE:=fun _ H Q=>∀p,H p=none->Q (.ref p) (upd H p (.dT []))
section
variable {X:Cx} {pos:Pos}
theorem pe_dnewK:PE X (.Dict [] [] pos) tDNewK:=fun pins s σ H Q I h=>
 wpAny_Dict_empty ⟨.ref s.heap.objs.size,_,I.laid (a:=s.heap.objs.size) (o:=.dK []) (t':=s.toks) (fun _ _ q=>Heap.get?_push_of_some _ q) (Nat.le_refl _) (dk_empty s.heap I.big),rfl,h _ (I.hok.fresh (Nat.le_refl _))⟩
theorem pe_dnewT:PE X (.Dict [] [] pos) tDNewT:=fun pins s σ H Q I h=>
 wpAny_Dict_empty ⟨.ref s.heap.objs.size,_,I.laid (a:=s.heap.objs.size) (o:=.dT []) (t':=s.toks) (fun _ _ q=>Heap.get?_push_of_some _ q) (Nat.le_refl _) (dt_empty s.heap I.big),rfl,h _ (I.hok.fresh (Nat.le_refl _))⟩
end
structure M1(X:Cx)(o:Expr)(m:Str)(apos:Pos)(e:Expr)(cpos:Pos):Prop where
 base:attributeBase o m X.env (eval o X.env)=eval o X.env
 few:((backTo cpos (starEach [e] X.env)).all (fun x=>!x.1) && (backToKw cpos (keywordEach [] X.env)).all (fun x=>x.1.isSome)
  && decide (([e]:List Expr).length+([]:List Keyword).length+(if ([]:List Keyword).isEmpty then 0 else 1)<30))=true
 line:(apos.endLine == cpos.line)=true
 trees:backTo cpos (starEach [e] X.env) = [(false,eval e X.env)]
structure M2(X:Cx)(o:Expr)(m:Str)(apos:Pos)(e f:Expr)(cpos:Pos):Prop where
 base:attributeBase o m X.env (eval o X.env)=eval o X.env
 few:((backTo cpos (starEach [e,f] X.env)).all (fun x=>!x.1) && (backToKw cpos (keywordEach [] X.env)).all (fun x=>x.1.isSome)
  && decide (([e,f]:List Expr).length+([]:List Keyword).length+(if ([]:List Keyword).isEmpty then 0 else 1)<30))=true
 line:(apos.endLine == cpos.line)=true
 trees:backTo cpos (starEach [e,f] X.env) = [(false,eval e X.env),(false,eval f X.env)]
noncomputable def IsD(H:Hp)(a:Addr):Prop:=(∃kvs,Rd H a (.dK kvs))\/∃kvs,Rd H a (.dT kvs)
theorem isD_at{X:Cx}{pins:List (Addr×Obj)}{σ:St}{H:Hp}{s:Shared}{a:Addr}(I:Inv X pins σ H s)(d:IsD H a) :
 s.TypeIs (.ref a) "dict"/\(∀b,Value.ref a = .ref b->∃ob,s.heap.get? b=some ob/\ob.dict=none)/\(a == sysModules)=false:=by
 rcases d with⟨kvs,e⟩ | ⟨kvs,e⟩
 · obtain⟨_,hd,vs,_,dd⟩:=dk_rd I.hok e
   refine⟨dd.typeIs,fun b q=>?_,hd⟩
   cases q
   obtain⟨ob,_,_,h1,h2,_⟩:=dd
   exact⟨ob,h1,h2.2.1⟩
 · obtain⟨_,hd,xs,_,dd⟩:=dt_rd I.hok e
   refine⟨dd.typeIs,fun b q=>?_,hd⟩
   cases q
   obtain⟨ob,_,_,h1,h2,_⟩:=dd
   exact⟨ob,h1,h2.2.1⟩
section
variable {X:Cx} {pins:List (Addr×Obj)} {σ:St} {H:Hp} {s:Shared} {a:Addr} {y d:V} {u r:Value} {o:Option V} {A:Around} {E:Value->Shared->Prop}
theorem d_get1{Q:Value->Shared->Prop}(hu:A.units+64<cLine)(I:Inv X pins σ H s)(g:DGet H a y o)(ry:RelV y u)(h:∀w' s',Inv X pins σ H s'->RelV (o.getD .non) w'->Q w' s') :
 wpAny (model X.prog X.w) A (call (.builtin "dict.get") [.ref a,u]) Q E s:=by
 rcases g with⟨kvs,k,e,ey,l⟩ | ⟨kvs,k,b,e,ey,eb,l⟩
 · subst ey
   obtain⟨z,hd,vs,rel,dd⟩:=dk_rd I.hok e
   refine call_meetsIn PySem.F.slot_dict_get dd.typeIs PySem.F.entry_dict_get (PySem.F.args_dict_get_2 _ _) (meets_dict_get (mixKind X.prog X.w) a (kV_is ry) hd) ⟨_,dd.mapOf,h _ _ (I.tok _) ?_⟩
   rw[l]
   exact(rel.val k).getD rfl
 · subst ey
   cases (show u=Value.ref b from ry)
   obtain⟨z,hd,xs,rel,dd⟩:=dt_rd I.hok e
   refine call_meetsIn PySem.F.slot_dict_get dd.typeIs PySem.F.entry_dict_get (PySem.F.args_dict_get_2 _ _) (meetsH_dict_get (nestKind X.prog X.w) a b hd) ⟨nestKind_room hu,k,xs,key_of I.hok eb,dd,h _ _ (I.tok _) ?_⟩
   rw[l]
   exact(rel.val k).getD rfl
theorem d_get2{Q:Value->Shared->Prop}(hu:A.units+64<cLine)(I:Inv X pins σ H s)(g:DGet H a y o)(ry:RelV y u)(rd:RelV d r)(h:∀w' s',Inv X pins σ H s'->RelV (o.getD d) w'->Q w' s') :
 wpAny (model X.prog X.w) A (call (.builtin "dict.get") [.ref a,u,r]) Q E s:=by
 rcases g with⟨kvs,k,e,ey,l⟩ | ⟨kvs,k,b,e,ey,eb,l⟩
 · subst ey
   obtain⟨z,hd,vs,rel,dd⟩:=dk_rd I.hok e
   refine call_meetsIn PySem.F.slot_dict_get dd.typeIs PySem.F.entry_dict_get (PySem.F.args_dict_get_3 _ _ _) (meets_dict_get_default (mixKind X.prog X.w) a (kV_is ry) hd r) ⟨_,dd.mapOf,h _ _ (I.tok _) ?_⟩
   rw[l]
   exact(rel.val k).getD rd
 · subst ey
   cases (show u=Value.ref b from ry)
   obtain⟨z,hd,xs,rel,dd⟩:=dt_rd I.hok e
   refine call_meetsIn PySem.F.slot_dict_get dd.typeIs PySem.F.entry_dict_get (PySem.F.args_dict_get_3 _ _ _) (meetsH_dict_get_default (nestKind X.prog X.w) a b hd r) ⟨nestKind_room hu,k,xs,key_of I.hok eb,dd,h _ _ (I.tok _) ?_⟩
   rw[l]
   exact(rel.val k).getD rd
end
noncomputable def tDGet1(td ty:TE):TE:=fun σ H Q=>td σ H fun x H1=>∃a,x = .ref a/\IsD H1 a/\ty σ H1 fun y H2=>∃o,DGet H2 a y o/\Q (o.getD .non) H2
noncomputable def tDGet2(td ty tx:TE):TE:=fun σ H Q=>td σ H fun x H1=>∃a,x = .ref a/\IsD H1 a/\ty σ H1 fun y H2=>tx σ H2 fun z H3=>∃o,DGet H3 a y o/\Q (o.getD z) H3
section
variable {X:Cx} {o e f:Expr} {apos cpos:Pos} {td ty tx:TE}
theorem pe_dget1(hu:X.A.units+64<cLine)(ho:PE X o td)(he:PE X e ty)(m:M1 X o "get" apos e cpos):PE X (.Call (.Attribute o "get" apos) [e] [] cpos) (tDGet1 td ty):=by
 intro pins s σ H Q I h
 refine wpAny_Call_method m.base m.few m.line PySem.F.plainAttrs_dict PySem.F.slot_dict_get PySem.F.type_dict_get (thn (ho pins s σ H _ I h) fun u s1 zq253=>zq253.elim fun x zq254=>zq254.elim fun H1 zq255=>zq255.elim fun I1 zq256=>zq256.elim fun rx zq257=>zq257.elim fun a zq258=>zq258.elim fun ex zq259=>zq259.elim fun d q1=>?_)
 subst ex
 obtain rfl:u=Value.ref a:=rx
 obtain⟨t1,t2,_⟩:=isD_at I1 d
 refine⟨t1,t2,?_⟩
 rw[m.trees]
 refine Calls.callWith_builtin rfl (Calls.evalArgs_plain (Calls.spliced_cons (thn (he pins s1 σ H1 _ I1 q1) fun iv s2 zq260=>zq260.elim fun y zq261=>zq261.elim fun H2 zq262=>zq262.elim fun I2 zq263=>zq263.elim fun ry zq264=>zq264.elim fun ov zq265=>zq265.elim fun g q2=>Calls.spliced_nil ?_)))
 exact d_get1 hu I2 g ry fun w' s3 I3 rw'=>⟨_,H2,I3,rw',q2⟩
theorem pe_dget2(hu:X.A.units+64<cLine)(ho:PE X o td)(he:PE X e ty)(hf:PE X f tx)(m:M2 X o "get" apos e f cpos):PE X (.Call (.Attribute o "get" apos) [e,f] [] cpos) (tDGet2 td ty tx):=by
 intro pins s σ H Q I h
 refine wpAny_Call_method m.base m.few m.line PySem.F.plainAttrs_dict PySem.F.slot_dict_get PySem.F.type_dict_get (thn (ho pins s σ H _ I h) fun u s1 zq266=>zq266.elim fun x zq267=>zq267.elim fun H1 zq268=>zq268.elim fun I1 zq269=>zq269.elim fun rx zq270=>zq270.elim fun a zq271=>zq271.elim fun ex zq272=>zq272.elim fun d q1=>?_)
 subst ex
 obtain rfl:u=Value.ref a:=rx
 obtain⟨t1,t2,_⟩:=isD_at I1 d
 refine⟨t1,t2,?_⟩
 rw[m.trees]
 refine Calls.callWith_builtin rfl (Calls.evalArgs_plain (Calls.spliced_cons (thn (he pins s1 σ H1 _ I1 q1) fun iv s2 zq273=>zq273.elim fun y zq274=>zq274.elim fun H2 zq275=>zq275.elim fun I2 zq276=>zq276.elim fun ry q2=>
  Calls.spliced_cons (thn (hf pins s2 σ H2 _ I2 q2) fun fv s3 zq277=>zq277.elim fun z zq278=>zq278.elim fun H3 zq279=>zq279.elim fun I3 zq280=>zq280.elim fun rz zq281=>zq281.elim fun ov zq282=>zq282.elim fun g q3=>Calls.spliced_nil ?_))))
 exact d_get2 hu I3 g ry rz fun w' s4 I4 rw'=>⟨_,H3,I4,rw',q3⟩
end
section
variable {X:Cx} {pins:List (Addr×Obj)} {σ:St} {H:Hp} {s:Shared} {a:Addr} {kvs:List (Key×V)} {A:Around} {E:Value->Shared->Prop}
theorem d_copyOf{Q:Value->Shared->Prop}(I:Inv X pins σ H s)(e:Rd H a (.dK kvs))(h:∀p s',H p=none->Inv X pins σ (upd H p (.dK kvs)) s'->Q (.ref p) s'):wpAny (model X.prog X.w) A (call (.type "dict") [.ref a]) Q E s:=by
 obtain⟨z,hd,vs,rel,dd⟩:=dk_rd I.hok e
 refine kt_call_dict hd dd (by rw[←rel.length];exact z) fun h' dd' hs=>?_
 refine h _ _ (I.hok.fresh (Nat.le_refl _)) (I.laid (a:=s.heap.objs.size) (o:=.dK kvs) (t':=s.toks) (fun b q hq=>?_) (Nat.le_refl _) (dk_new z (beq_eq_false_iff_ne.mpr (Ne.symm (Nat.ne_of_lt I.big))) rel dd'))
 exact(hs.2 b (Nat.ne_of_lt (Heap.lt_size hq))).trans (Heap.get?_push_of_some _ hq)
end
section
variable {X:Cx} {pins:List (Addr×Obj)} {σ:St} {H:Hp} {s:Shared} {a:Addr} {y:V} {u:Value} {A:Around} {E:Value->Shared->Prop}
end
end L2
namespace Att
open PySem PySem.W PySem.Calls PyProof.Rows
theorem ints_of_wellAll{P:Params}{h:Heap}:∀(ns:List Int) (vs:List Value),WellAll P h vs (ns.map WData.int)->IntsAre vs ns:=by
 intro ns
 induction ns with
 | nil=>
  intro vs w
  rw[List.map_nil]at w
  cases w
  exact .nil
 | cons n ns ih=>
  intro vs w
  rw[List.map_cons]at w
  cases w with
  | cons a b=>
   cases a
   exact .cons _ _ (ih _ b)
theorem script_of{l:OpenLaw}{n:Nat}(hn:l.most=some n){P:Params}{h:Heap}{args:List WData}{vals:List Value}
 (hpre:l.row.toRowW.claim.pre args=true) (hwl:WellAll P h vals args) :
 ∃a vs ns,vals = [Value.ref a]/\args = [WData.list (ns.map WData.int)]/\h.get? a=some { cls:=.type "list",data:=.seq vs.toArray }/\IntsAre vs ns/\ns.length<=n:=by
 have hsh:WShape.hasAll [] args [.list .int]=true:=(pre_splitW hpre).1
 have hc:l.pre.holds [] { args:=args } = true:=(pre_splitW hpre).2
 obtain⟨d,r,rfl,h1,h2⟩:=hasAllW_cons hsh
 obtain rfl:=hasAllW_nil h2
 obtain⟨xs,rfl,h3⟩:=hasW_list h1
 obtain⟨ns,rfl⟩:=items_int h3
 have hlen:ns.length<=n:=by
  unfold OpenLaw.pre at hc
  have h4:(WTm.not (.lt (.lit (.int (n:Int))) (.len (.arg 0)))).holds [] { args:=[.list (ns.map .int)] } = true:=by
   have h4:=(holds_andW hc).1
   rw[hn]at h4
   exact h4
  have h5:=condW_of h4 (w_not (w_lt w_lit (w_len_list (w_arg rfl))))
  rw[List.length_map]at h5
  refine Nat.le_of_not_lt fun q=>?_
  have q':(n:Int)<((ns.length:Nat):Int):=by omega
  first
   | (rw[decide_eq_true q']at h5;exact absurd h5 (by decide))
   | (simp at h5;omega)
 cases hwl with
 | cons w1 w2=>
  cases w2
  cases w1 with
  | list ho hall=>exact⟨_,_,ns,rfl,rfl,ho,ints_of_wellAll ns _ hall,hlen⟩
theorem post_true(l:OpenLaw)(args:List WData):l.row.toRowW.claim.post args (.bool true) args=true:=
 postW_of (r:=l.row.toRowW) (X:=(true == true))
  (show WShape.has [] (.bool true) .bool=true by first | rfl | decide | simp[WShape.has,WShape.arms,WShape.armsAll])
  (show(WTm.eq .res (.lit (.bool true))).value [] { args:=args,res:=some (.bool true),after:=args } = some (.bool (true == true)) from w_eq_bool (w_res rfl) w_lit) rfl
theorem attach_call{l:OpenLaw}{n:Nat}{q:Program}{loose:List Str}{XP:(Str->Option Value)->Heap->Prop}{YP:World->Heap->Prop}{d:DefRec}
 (hn:l.most=some n) (hdf:d.params.defaults = [])
 (call:∀(w:World) (s₀ s₁:Shared) (mg mb:Str->Option Value) (fa:Addr) (o:Obj) (pm cd doc:Value) (a:Addr) (vs:List Value) (ns:List Int),
  Ground q loose [] XP w s₀ mg mb s₁.heap->YP w s₁.heap ->
  s₁.heap.get? fa=some o->o.data = .func (docDef d.name d.params d.body d.scope pm cd doc)->s₁.heap.CodeRec cd d.name->mg d.name=some (.ref fa) ->
  s₁.heap.get? a=some { cls:=.type "list",data:=.seq vs.toArray }->IntsAre vs ns->ns.length<=n->s₁.gens = #[] ->
  codeAny (model l.prog w) callerA (.call (.ref fa) ⟨[.ref a],[]⟩) (fun r s'=>r = .ok (.ret (.bool true))/\OldK s₁.heap s'.heap/\s'.os=s₁.os/\AllBare s'.gens) s₁) :
 WalkO q loose XP YP l.row.toRowW d [] (fun f vs=>PySem.call f vs):=by
 intro w s₀ s₁ mg mb G Y fa o pm cd doc dV kV ho hd hcd hD hmg hg args vals as hpre hlay hrd hwl hlo
 obtain rfl:dV = .none:=Dflts.none hD hdf
 obtain rfl:kV = .none:=Dflts.noKw hD
 obtain⟨a,vs,ns,rfl,rfl,hobj,hints,hlen⟩:=script_of hn hpre hwl
 refine enter_call (codeAny_mono (call w s₀ s₁ mg mb fa o pm cd doc a vs ns G Y ho (fd_plain hd) hcd hmg hobj hints hlen hg) fun r s' hq=>?_)
 obtain⟨rfl,h2,h3,h4⟩:=hq
 exact⟨.inl ⟨.bool true,.bool true,[],rfl,fun _=>rfl,.bool true,post_true l _,fun _=>⟨List.Pairwise.nil,fun _ hm=>(nomatch hm)⟩⟩,h2,h3,h4⟩
section
variable {prog:Program} {w:World} {A:Around} {E:Value->Shared->Prop} {s:Shared} {K:Frag}
end
end Att
namespace L2
open PySem PySem.Spec PyProof.Rows
theorem vals_ints:∀{vs:List Value} {ns:List Int},IntsAre vs ns->Vals (ns.map V.int) vs
 | _,_,.nil=>.nil
 | _,_,.cons n t h=>.cons ⟨t,rfl⟩ (vals_ints h)
end L2
namespace L2
open PySem PySem.Spec PyProof.Rows
end L2
namespace L2
open PySem PySem.Spec PyProof.Rows
noncomputable def inClass(s:Stmt)(j:Nat):Stmt:=match s with
 | .ClassDef _ _ _ body _ _ _ _ _ _ _=>body.getD j (.Pass ⟨0,0,0,0⟩)
 | _=>.Pass ⟨0,0,0,0⟩
noncomputable def defArgs(s:Stmt):Arguments:=match s with
 | .FunctionDef _ a _ _ _ _ _ _ _ _=>a
 | _=>{ posonlyargs:=[],args:=[],vararg:=none,kwonlyargs:=[],kw_defaults:=[],kwarg:=none,defaults:=[] }
noncomputable def defBody(s:Stmt):List Stmt:=match s with
 | .FunctionDef _ _ b _ _ _ _ _ _ _=>b
 | _=>[]
noncomputable def defScope(s:Stmt):Scope:=match s with
 | .FunctionDef _ _ _ _ _ _ sc _ _ _=>sc
 | _=>{ kind:=.function,names:=[],isGenerator:=false,isCoroutine:=false }
noncomputable abbrev CX0:CXT:=fun _ _ _ _ _ _=>False
noncomputable abbrev E0:XK:=fun _ _ _=>False
theorem pass0{X:Cx}:Passes CX0 X E0:=fun _ _ _ _ _ _ _ h=>h.elim
structure Fun(K:PySem.W.Frag)(x qual:Str)(st:Stmt)(f:Addr)(fd:FuncData):Prop where
 ex:∃(oc:Value) (od:Option Addr) (kV doc pm:Value) (an:Option Addr) (cdv ct:Value) (osl:Array (Option Value)),
  fd=PySem.W.fnOf x qual (defArgs st) (defBody st) (defScope st) .none kV doc pm an cdv ct/\K.lookup f=some ⟨oc,od,.func fd,osl⟩/\PySem.W.codeIn K cdv qual=true
 kp:PySem.W.keepIn K (.ref f)=true
section
variable {P:Program} {w:World} {K:PySem.W.Frag} {mg:Str->Option Value} {base:Heap}
theorem Fun.ok{x qual:Str}{st:Stmt}{f:Addr}{fd:FuncData}{N ps:List Str}{k:Nat}{sp:Sp}(F:Fun K x qual st f fd)(S:FnScope N ps (defScope st))(len:∀vs H Q E,sp vs H Q E->vs.length=ps.length)
 (hbody:∀(cdv:Value) (A:Around) (outer:List Env) (s:Shared) (H:Hp) (vs:List V) (Q:VK) (E:XK),Room k (A.deeper (envOfC qual (defScope st) s.heap.objs.size f cdv))->sp vs H Q E ->
  ∃t,PSs (cxOf CX0 P w K mg base N qual (defScope st) f cdv A outer s H E).nox (defBody st) t/\t { nx:=fun _ H'=>Q .non H',rt:=Q } (start N vs) H):FnOk P w K mg base CX0 (k+1) f fd ps sp:=by
 obtain⟨oc,od,kV,doc,pm,an,cdv,ct,osl,rfl,lk,hcd⟩:=F.ex
 refine fn_of lk hcd S len fun A outer s H vs Q E hr hsp=>?_
 obtain⟨t,h,q⟩:=hbody cdv A outer s H vs Q E hr hsp
 exact⟨t,h.nox,q⟩
theorem Fun.binds{x qual:Str}{st:Stmt}{f:Addr}{fd:FuncData}{ps:List Str}(F:Fun K x qual st f fd)
 (h:∀(kV doc pm:Value) (an:Option Addr) (cdv ct:Value) (us:List Value),us.length=ps.length->bindArgs (PySem.W.fnOf x qual (defArgs st) (defBody st) (defScope st) .none kV doc pm an cdv ct) ⟨us,[]⟩=pure (ps.zip us)):Binds K fd ps []:=by
 obtain⟨oc,od,kV,doc,pm,an,cdv,ct,osl,rfl,lk,hcd⟩:=F.ex
 exact .all (h kV doc pm an cdv ct)
theorem fun_mk{x qual:Str}{st:Stmt}{f:Addr}{oc:Value}{od an:Option Addr}{osl:Array (Option Value)}{kV doc pm cdv ct:Value}(l:K.lookup f=some ⟨oc,od,.func (PySem.W.fnOf x qual (defArgs st) (defBody st) (defScope st) .none kV doc pm an cdv ct),osl⟩)
 (c:PySem.W.codeIn K cdv qual=true) (k:PySem.W.keepIn K (.ref f)=true):Fun K x qual st f (PySem.W.fnOf x qual (defArgs st) (defBody st) (defScope st) .none kV doc pm an cdv ct):=⟨⟨oc,od,kV,doc,pm,an,cdv,ct,osl,rfl,l,c⟩,k⟩
end
theorem small1000{n:Nat}(h:n<=1000):n<sizeLine:=Nat.lt_of_le_of_lt h (by decide)
section
variable {X:Cx}
theorem pv(i:Nat){x:Str}{pos:Pos}(hN:X.N[i]? = some x:=by rfl)(hv:Vis X.env.scope x:=by first | exact Or.inl rfl | exact Or.inr (Or.inl rfl) | exact Or.inr (Or.inr rfl))(hd:(x == ("__debug__":Str))=false:=by decide)
 (hcd:(x == ("__classdict__":Str))=false:=by decide):PE X (.Name x pos) (tVar i):=pe_var hN hv hd hcd
end
theorem iteF{A B:Prop}(h:B):if false=true then A else B:=by
 rw[if_neg Bool.false_ne_true]
 exact h
theorem iteT{A B:Prop}(h:A):if true=true then A else B:=by
 rw[if_pos rfl]
 exact h
theorem ite2{c A B:Prop}[Decidable c](h1:c->A)(h2:¬c->B):if c then A else B:=by
 by_cases h:c
 · rw[if_pos h]
   exact h1 h
 · rw[if_neg h]
   exact h2 h
noncomputable def Same(H H':Hp):Prop:=∀b o,H b=some o->H' b=some o
theorem Same.refl(H:Hp):Same H H:=fun _ _ h=>h
theorem Same.trans{H H1 H2:Hp}(a:Same H H1)(b:Same H1 H2):Same H H2:=fun c o h=>b c o (a c o h)
theorem Same.free{H H':Hp}(e:Same H H'){l:Addr}(h:H' l=Option.none):H l=Option.none:=by
 cases q:H l with
 | none=>rfl
 | some o=>
  rw[e l o q]at h
  cases h
theorem Same.seq{K:PySem.W.Frag}{H H':Hp}{a:Addr}{xs:List V}(e:Same H H')(h:SqL K H a xs):SqL K H' a xs:=by
 rcases h with(h | ⟨o,h⟩) | h
 · exact .inl (.inl (e _ _ h))
 · exact .inl (.inr ⟨o,e _ _ h⟩)
 · exact .inr h
section
variable {κ:Type} [DecidableEq κ]
theorem valV_in{kvs:List (κ×V)}{k:κ}{v:V}(h:valV kvs k=some v):k∈kvs.map (·.1):=by
 have q:(kvs.any fun kv=>decide (kv.1=k))=true:=by
  rw[valV_any,h]
  all_goals rfl
 obtain⟨p,hp,e⟩:=List.any_eq_true.mp q
 exact List.mem_map.mpr ⟨p,hp,of_decide_eq_true e⟩
end
end L2
namespace L2
open PySem PySem.Spec PyProof.Rows
section
variable {K:PySem.W.Frag}
theorem len_succ {us : List Value} {n : Nat} (h : us.length = n + 1) : ∃ u r, us = u :: r ∧ r.length = n := by
  cases us with
  | nil=>cases h
  | cons u r=>exact⟨u,r,rfl,Nat.succ.inj h⟩
theorem len_is1{us:List Value}{l:List Str}(hl:l.length=1)(h:us.length=l.length):∃u0,us = [u0]:=by
 rw[hl]at h
 match us,h with
 | [u0],_=>exact⟨u0,rfl⟩
theorem Fun.binds1{x qual:Str}{st:Stmt}{f:Addr}{fd:FuncData}{l:List Str}(F:Fun K x qual st f fd)
 (h:∀(kV doc pm:Value) (an:Option Addr) (cdv ct u0:Value),bindArgs (PySem.W.fnOf x qual (defArgs st) (defBody st) (defScope st) .none kV doc pm an cdv ct) ⟨[u0],[]⟩=pure (l.zip [u0])) (hl:l.length=1:=by rfl):Binds K fd l []:=
 F.binds (ps:=l) fun kV doc pm an cdv ct us e=>by
  obtain⟨u0,rfl⟩:=len_is1 hl e
  exact h kV doc pm an cdv ct u0
theorem len_is2{us:List Value}{l:List Str}(hl:l.length=2)(h:us.length=l.length):∃u0 u1,us = [u0,u1]:=by
 rw[hl]at h
 match us,h with
 | [u0,u1],_=>exact⟨u0,u1,rfl⟩
theorem Fun.binds2{x qual:Str}{st:Stmt}{f:Addr}{fd:FuncData}{l:List Str}(F:Fun K x qual st f fd)
 (h:∀(kV doc pm:Value) (an:Option Addr) (cdv ct u0 u1:Value),bindArgs (PySem.W.fnOf x qual (defArgs st) (defBody st) (defScope st) .none kV doc pm an cdv ct) ⟨[u0,u1],[]⟩=pure (l.zip [u0,u1])) (hl:l.length=2:=by rfl):Binds K fd l []:=
 F.binds (ps:=l) fun kV doc pm an cdv ct us e=>by
  obtain⟨u0,u1,rfl⟩:=len_is2 hl e
  exact h kV doc pm an cdv ct u0 u1
theorem len_is3{us:List Value}{l:List Str}(hl:l.length=3)(h:us.length=l.length):∃u0 u1 u2,us = [u0,u1,u2]:=by
 rw[hl]at h
 match us,h with
 | [u0,u1,u2],_=>exact⟨u0,u1,u2,rfl⟩
theorem Fun.binds3{x qual:Str}{st:Stmt}{f:Addr}{fd:FuncData}{l:List Str}(F:Fun K x qual st f fd)
 (h:∀(kV doc pm:Value) (an:Option Addr) (cdv ct u0 u1 u2:Value),bindArgs (PySem.W.fnOf x qual (defArgs st) (defBody st) (defScope st) .none kV doc pm an cdv ct) ⟨[u0,u1,u2],[]⟩=pure (l.zip [u0,u1,u2])) (hl:l.length=3:=by rfl):Binds K fd l []:=
 F.binds (ps:=l) fun kV doc pm an cdv ct us e=>by
  obtain⟨u0,u1,u2,rfl⟩:=len_is3 hl e
  exact h kV doc pm an cdv ct u0 u1 u2
theorem len_is8{us:List Value}{l:List Str}(hl:l.length=8)(h:us.length=l.length):∃u0 u1 u2 u3 u4 u5 u6 u7,us = [u0,u1,u2,u3,u4,u5,u6,u7]:=by
 rw[hl]at h
 match us,h with
 | [u0,u1,u2,u3,u4,u5,u6,u7],_=>exact⟨u0,u1,u2,u3,u4,u5,u6,u7,rfl⟩
theorem Fun.binds8{x qual:Str}{st:Stmt}{f:Addr}{fd:FuncData}{l:List Str}(F:Fun K x qual st f fd)
 (h:∀(kV doc pm:Value) (an:Option Addr) (cdv ct u0 u1 u2 u3 u4 u5 u6 u7:Value),bindArgs (PySem.W.fnOf x qual (defArgs st) (defBody st) (defScope st) .none kV doc pm an cdv ct) ⟨[u0,u1,u2,u3,u4,u5,u6,u7],[]⟩=pure (l.zip [u0,u1,u2,u3,u4,u5,u6,u7])) (hl:l.length=8:=by rfl):Binds K fd l []:=
 F.binds (ps:=l) fun kV doc pm an cdv ct us e=>by
  obtain⟨u0,u1,u2,u3,u4,u5,u6,u7,rfl⟩:=len_is8 hl e
  exact h kV doc pm an cdv ct u0 u1 u2 u3 u4 u5 u6 u7
end
end L2
set_option maxHeartbeats 4000000
namespace L2
open PySem PySem.Spec PyProof.Rows
theorem same_upd{H:Hp}{p:Addr}{o:HO}(h:H p=none):Same H (upd H p o):=fun b u e=>by
 rw[upd_ne (ne_of_none e h)];exact e
theorem same_upd'{H0 H:Hp}{p:Addr}{o:HO}(s:Same H0 H)(h:H0 p=none):Same H0 (upd H p o):=fun b u e=>by
 rw[upd_ne (ne_of_none e h)];exact s b u e
theorem same_sqT{K:PySem.W.Frag}{H H':Hp}{a:Addr}{xs:List V}(e:Same H H')(h:SqT K H a xs):SqT K H' a xs:=by
 rcases h with(h | ⟨o,h⟩) | h
 · exact .inl (.inl (e _ _ h))
 · exact .inl (.inr ⟨o,e _ _ h⟩)
 · exact .inr h
noncomputable abbrev TxtOk (x:Str):Prop:=PyData.strOk x=true
theorem txtOk_iff{x:Str}:TxtOk x↔∀c∈x.cps.toList,c<0x110000:=by
 unfold TxtOk PyData.strOk
 rw[Array.all_eq_true']
 simp
theorem txtOk_app{x y:Str}(hx:TxtOk x)(hy:TxtOk y):TxtOk (x++y):=by
 rw[txtOk_iff]at *
 intro c hc
 have e:(x++y).cps.toList=x.cps.toList++y.cps.toList:=by
  show(x.cps++y.cps).toList=_
  simp
 rw[e,List.mem_append]at hc
 exact hc.elim (hx c) (hy c)
theorem txtOk_one{c:Nat}(h:c<0x110000):TxtOk ⟨#[c]⟩:=by
 rw[txtOk_iff]
 intro d hd
 have e:d=c:=by simpa using hd
 rw[e];exact h
theorem len_app(x y:Str):(x++y).length=x.length+y.length:=by
 show(x.cps++y.cps).size=_
 rw[Array.size_append];rfl
theorem len_one(c:Nat):(⟨#[c]⟩:Str).length=1:=rfl
section
variable {X:Cx}
theorem call_isi:CallR X (.builtin "isinstance") (fun xs H Q=>∃x t c b,xs = [x,.ty c]/\TyOf X.K H x t/\PySem.W.kitOne X.K t (.type c)=some b/\Q (.bl b) H):=by
 intro pins s σ H xs us Q I r h
 obtain⟨x,t,c,b,rfl,ty,e,q⟩:=h
 obtain⟨u,u2,rfl,r1,r2⟩:=vals2 r
 cases (show u2=Value.type c from r2)
 exact isinst_ok I r1 ty e fun tk=>⟨.bl b,H,I.tok tk,rfl,q⟩
end
end L2
namespace HT
open PySem PyProof.Rows
theorem rcGe_int(A:Around)(s:Shared)(a:Int)(t:Tok)(c:Int)(u:Tok)(prog:Program)(w:World)(E:Value->Shared->Prop)(Q:Value->Shared->Prop)(h:Q (.bool (decide (c<=a))) s) :
 wpAny (model prog w) A (richCompare .GtE (.int a t) (.int c u)) Q E s:=
 (PyProof.Rows.ge_int h:wpAny (model prog w) A (compareOp .GtE (.int a t) (.int c u)) Q E s)
section
open PySem.SeqAt
open PySem.AutoSeq1 (wpAny_loadPart')
open PySem.MeetsSeq PySem.MeetsSeq2 PySem.MeetsSeq3
theorem tuple_ge_ints(l b:Addr)(items items2:Array Value)(n n2:Nat)(dd dd2:Option Addr)(sl sl2:Array (Option Value))(ns ms:List Int)(hi:IntsAre items.toList ns)(hj:IntsAre items2.toList ms) :
 Meets (Builtin.«tuple.__ge__» ⟨[.ref l,.ref b],[]⟩)
  (fun _ R s=>s.heap.get? l=some { cls:=.type "tuple",dict:=dd,data:=.seq items n,slots:=sl }/\s.heap.get? b=some { cls:=.type "tuple",dict:=dd2,data:=.seq items2 n2,slots:=sl2 } /\
   R (.ok (.ret (.bool (!lexLt ns ms)))) s):=
 .of_wp fun prog w A R s h=>by
  obtain⟨hp,g,d,tk,os⟩:=s;obtain⟨hl,hb,h⟩:=h
  have f2:=AutoSeq1.sub_tuple_tuple
  have z1:items.size=ns.length:=by rw[←hi.length];simp
  have z2:items2.size=ms.length:=by rw[←hj.length];simp
  wp_walk using wpAny_loadPart' hl,wpAny_loadPart' hb,wpAny_forIn_list _ (fun rest b s'=>b.1=none/\s'=⟨hp,g,d,tk,os⟩/\∃(vs ws:List Value) (ns' ms':List Int),rest=vs.zip ws /\
   IntsAre vs ns'/\IntsAre ws ms'/\ns'.length+items2.size=ms'.length+items.size/\R (.ok (.ret (.bool (!lexLt ns' ms')))) ⟨hp,g,d,tk,os⟩) _
  case turn=>
   rintro⟨y,x⟩ rest b s' ⟨hb',rfl,vs,ws,ns',ms',hz,hvi,hwi,hlen,hR⟩
   cases hvi with
   | nil=>rw[List.zip_nil_left]at hz;cases hz
   | cons a t hvi'=>
    cases hwi with
    | nil=>rw[List.zip_nil_right]at hz;cases hz
    | cons c u hwi'=>
     rw[List.zip_cons_cons]at hz
     injection hz with hyx hrest
     injection hyx with hy hx
     subst hy hx
     rw[lexLt_cons]at hR
     simp only[List.length_cons]at hlen
     obtain⟨e,he,hiff⟩:=eqAt_int A.in1 ⟨hp,g,d,tk,os⟩ a t c u
     refine wpAny_bind (he prog w _ _ ?_)
     cases e with
     | true=>
      rw[if_pos (hiff.mp rfl)]at hR
      wp_walk
      exact⟨rfl,rfl,_,_,_,_,hrest,hvi',hwi',by omega,hR⟩
     | false=>
      have hne:a≠c:=fun q=>absurd (hiff.mpr q) Bool.false_ne_true
      rw[if_neg hne]at hR
      have hri:=rcGe_int A.in1 ⟨hp,g,d,tk,os⟩ a t c u prog w
      have eb:(!decide (a<c))=decide (c<=a):=by
       by_cases q:a<c
       · rw[decide_eq_true q,decide_eq_false (by omega)];rfl
       · rw[decide_eq_false q,decide_eq_true (by omega)];rfl
      rw[eb]at hR
      wp_walk using hri
      exact⟨_,rfl,by simpa using hR⟩
  case fin=>
   rintro⟨b1,b2⟩ s' ⟨hb',rfl,vs,ws,ns',ms',hz,hvi,hwi,hlen,hR⟩
   simp only at hb'
   subst hb'
   have hv:(!lexLt ns' ms')=decide (items2.size<=items.size):=by
    cases hvi with
    | nil=>
     cases hwi with
     | nil=>
      simp only[List.length_nil]at hlen
      rw[lexLt_nil_nil]
      exact(decide_eq_true (by omega)).symm
     | cons c u hw=>
      simp only[List.length_nil,List.length_cons]at hlen
      rw[lexLt_nil_cons]
      exact(decide_eq_false (by omega)).symm
    | cons a t hv=>
     cases hwi with
     | nil=>
      simp only[List.length_nil,List.length_cons]at hlen
      rw[lexLt_cons_nil]
      exact(decide_eq_true (by omega)).symm
     | cons c u hw=>
      rw[List.zip_cons_cons]at hz
      cases hz
   rw[hv]at hR
   wp_walk
   exact⟨_,rfl,by simpa [Builtin.Tuple.tupleCompareSizes]using hR⟩
  case h=>
   exact⟨rfl,rfl,items.toList,items2.toList,ns,ms,rfl,hi,hj,by omega,h⟩
end
section
variable {prog:Program} {w:World} {A:Around} {E:Value->Shared->Prop} {s:Shared}
theorem ge_tupInts{l b:Addr}{items items2:Array Value}{ns ms:List Int}{Q:Value->Shared->Prop}(hl:IsTup s.heap l items)(hb:IsTup s.heap b items2)(hi:IntsAre items.toList ns)(hj:IntsAre items2.toList ms)
 (hu:A.units<cLine) (h:Q (.bool (!lexLt ns ms)) s):wpAny (model prog w) A (compareOp .GtE (.ref l) (.ref b)) Q E s:=by
 obtain⟨⟨cls,dd,data,sl⟩,ho,hc,n,hd⟩:=id hl
 obtain⟨⟨cls2,dd2,data2,sl2⟩,ho2,hc2,n2,hd2⟩:=id hb
 simp only at hc hd hc2 hd2
 subst hc hd hc2 hd2
 exact richCompare_meets_room (op:=.GtE) ⟨_,ho,rfl⟩ ⟨_,ho2,rfl⟩ PySem.F.slot_tuple_ge PySem.F.entry_tuple_ge (PySem.F.args_tuple_ge_2 _ _) (tuple_ge_ints l b items items2 n n2 dd dd2 sl sl2 ns ms hi hj)
  ⟨ho,ho2,show Value.bool (!lexLt ns ms)≠Value.notImplemented/\Q (.bool (!lexLt ns ms)) s from ⟨(fun x=>nomatch x),h⟩⟩ hu
end
end HT
namespace L2
open PySem PySem.Spec PyProof.Rows
section
variable {X:Cx}
noncomputable def rGeT(K:PySem.W.Frag):R2:=fun x y H Q=>∃a b ns ms,x = .ref a/\y = .ref b/\SqT K H a (ns.map V.int)/\SqT K H b (ms.map V.int)/\Q (.bl (!HT.lexLt ns ms)) H
theorem op_geT(hu:X.A.units<cLine):OpR X (compareOp .GtE) (rGeT X.K):=by
 intro pins s σ H x y v u Q I rx ry h
 obtain⟨a,b,ns,ms,rfl,rfl,ha,hb,q⟩:=h
 cases rx
 cases ry
 obtain⟨its,r,p,_⟩:=I.tuple ha
 obtain⟨its2,r2,p2,_⟩:=I.tuple hb
 exact HT.ge_tupInts p p2 (by simpa using intsAre_of r) (by simpa using intsAre_of r2) hu ⟨.bl _,H,I,rfl,q⟩
end
mutual
inductive DV (K:PySem.W.Frag) (H:Hp):V->PySem.W.Dat->Prop
 | non:DV K H .non .none
 | int (i:Int):DV K H (.int i) (.int i)
 | str (x:Str):DV K H (.str x) (.str x)
 | tup {a:Addr} {xs:List V} {ds:List PySem.W.Dat}:SqT K H a xs->DVs K H xs ds->DV K H (.ref a) (.tuple ds)
 | lst {a:Addr} {xs:List V} {ds:List PySem.W.Dat}:SqL K H a xs->DVs K H xs ds->DV K H (.ref a) (.list ds)
inductive DVs (K:PySem.W.Frag) (H:Hp):List V->List PySem.W.Dat->Prop
 | nil:DVs K H [] []
 | cons {x:V} {d:PySem.W.Dat} {xs:List V} {ds:List PySem.W.Dat}:DV K H x d->DVs K H xs ds->DVs K H (x::xs) (d::ds)
end
theorem dvs_ints{K:PySem.W.Frag}{H:Hp}:∀ns:List Int,DVs K H (ns.map V.int) (ns.map PySem.W.Dat.int)
 | []=>.nil
 | n::ns=>.cons (.int n) (dvs_ints ns)
section
variable {X:Cx} {pins:List (Addr×Obj)} {σ:St} {H:Hp} {s:Shared}
mutual
theorem DV.reads(I:Inv X pins σ H s):∀{x:V} {d:PySem.W.Dat} {u:Value},DV X.K H x d->RelV x u->∃as,Reads s.heap u (PySem.W.kqdP d) as
 | _,_,_,.non,r=>by cases r;exact⟨_,Reads.none⟩
 | _,_,_,.int i,r=>by obtain⟨t,rfl⟩:=r;exact⟨_,Reads.int i t⟩
 | _,_,_,.str x,r=>by obtain⟨t,rfl⟩:=r;exact⟨_,Reads.str x t⟩
 | _,_,_,.tup h q,r=>by
  cases r
  obtain⟨its,rv,⟨o,e,c,n,d⟩,_⟩:=I.tuple h
  obtain⟨as,z⟩:=DVs.reads I q rv
  rw[PySem.W.kqdP]
  exact⟨as,reads_tuple_at e c d (by simpa using z)⟩
 | _,_,_,.lst h q,r=>by
  cases r
  obtain⟨its,rv,⟨o,n,e,c,_,d⟩,_⟩:=I.list h
  obtain⟨as,z⟩:=DVs.reads I q rv
  rw[PySem.W.kqdP]
  exact⟨_,reads_list_at e c d (by simpa using z)⟩
theorem DVs.reads(I:Inv X pins σ H s):∀{xs:List V} {ds:List PySem.W.Dat} {us:List Value},DVs X.K H xs ds->Vals xs us->∃as,ReadsAll s.heap us (PySem.W.kqdPs ds) as
 | _,_,_,.nil,.nil=>⟨_,ReadsAll.nil⟩
 | _,_,_,.cons q qs,.cons r rs=>by
  obtain⟨as,z⟩:=DV.reads I q r
  obtain⟨bs,y⟩:=DVs.reads I qs rs
  rw[PySem.W.kqdPs]
  exact⟨_,ReadsAll.cons z y⟩
end
end
theorem dat_shaped{d:PySem.W.Dat}(h:PySem.W.kqdOk 9 d=true):SeqAt.shaped (PySem.W.kqdP d)=true:=by
 have l:=PySem.W.kqd_lay 9 d h
 unfold SeqAt.shaped
 rw[l.1,Bool.true_and]
 exact decide_eq_true (Nat.le_trans l.2 (by decide))
section
variable {X:Cx}
theorem op_eqD(hu:X.A.units+64<cLine):OpR X (compareOp .Eq) (fun x y H Q=>∃d e,DV X.K H x d/\DV X.K H y e/\PySem.W.kqdOk 9 d=true/\PySem.W.kqdOk 9 e=true/\∀b:Bool,(b=true↔d=e)->Q (.bl b) H):=by
 intro pins s σ H x y v u Q I rx ry h
 obtain⟨d,e,hd,he,od,oe,q⟩:=h
 obtain⟨as,ra⟩:=hd.reads I rx
 obtain⟨bs,rb⟩:=he.reads I ry
 exact eq_dataH ra rb (dat_shaped od) (dat_shaped oe) hu ⟨.bl _,H,I,rfl,q _ (PySem.W.kqd_eqv 9 d e 9 od oe)⟩
theorem op_neD(hu:X.A.units+64<cLine):OpR X (compareOp .NotEq) (fun x y H Q=>∃d e,DV X.K H x d/\DV X.K H y e/\PySem.W.kqdOk 9 d=true/\PySem.W.kqdOk 9 e=true/\∀b:Bool,(b=true↔d=e)->Q (.bl (!b)) H):=by
 intro pins s σ H x y v u Q I rx ry h
 obtain⟨d,e,hd,he,od,oe,q⟩:=h
 obtain⟨as,ra⟩:=hd.reads I rx
 obtain⟨bs,rb⟩:=he.reads I ry
 exact ne_dataH ra rb (dat_shaped od) (dat_shaped oe) hu ⟨.bl _,H,I,rfl,q _ (PySem.W.kqd_eqv 9 d e 9 od oe)⟩
end
end L2
namespace L2
open PySem PySem.Spec PyProof.Rows
section
variable {X:Cx} {st:Stmt} {rest:List Stmt} {t u:TS}
noncomputable def tCut(M:St->Hp->Prop)(t u:TS):TS:=fun D σ H=>t { D with nx:=M } σ H/\∀σ' H',M σ' H'->u D σ' H'
theorem pss_cut(M:St->Hp->Prop)(h1:PS X st t)(h2:PSs X rest u):PSs X (st::rest) (tCut M t u):=by
 intro pins s σ H D I h
 refine wpAny_execs_cons (thn (h1 pins s σ H { D with nx:=M } I h.1) fun f s1 q=>?_)
 cases f with
 | next=>
  obtain⟨σ',H',I',q⟩:=q
  exact h2 pins s1 σ' H' D I' (h.2 σ' H' q)
 | ret v=>exact q
 | brk=>exact q
 | cont=>exact q
end
theorem free_upd{H:Hp}{p t:Addr}{o:HO}(h:upd H p o t=none):t≠p/\H t=none:=by
 by_cases e:t=p
 · subst e;rw[upd_same]at h;cases h
 · exact⟨e,by rw[upd_ne e]at h;exact h⟩
theorem fit{a b:Str}(ha:a.length<=100)(hb:b.length<=100):a.length+b.length<=sizeLine:=Nat.le_of_lt (small1000 (by omega))
theorem fit1{a:Str}(ha:a.length<=100):a.length<=sizeLine:=Nat.le_of_lt (small1000 (by omega))
theorem atI_in{α:Type}{xs:List α}{r:Int}(h0:0<=r)(h1:r<xs.length):∃v,atI xs r=some v/\xs[r.toNat]? = some v:=by
 obtain⟨n,rfl⟩:∃n:Nat,r=n:=⟨r.toNat,by omega⟩
 have hn:n<xs.length:=by omega
 have e:xs[n]? = some (xs[n]'hn):=by simp
 exact⟨_,atI_nat e,by simpa using e⟩
theorem atI_ints{ns:List Int}{r:Int}(h0:0<=r)(h1:r<ns.length):∃z,atI (ns.map V.int) r=some (V.int z)/\ns[r.toNat]? = some z:=by
 obtain⟨v,e,e2⟩:=atI_in (xs:=ns.map V.int) h0 (by rw[List.length_map];exact h1)
 rw[List.getElem?_map]at e2
 cases q:ns[r.toNat]? with
 | none=>rw[q]at e2;cases e2
 | some z=>
  rw[q]at e2
  cases e2
  exact⟨z,e,rfl⟩
noncomputable def DefAt(K:PySem.W.Frag)(mg:Str->Option Value)(x:Str)(st:Stmt):Prop:=∃f fd,mg x=some (.ref f)/\Fun K x x st f fd/\PySem.W.keepIn K (.ref f)=true
theorem defAt_mk{K:PySem.W.Frag}{h:Heap}{mg:Str->Option Value}{x:Str}{st:Stmt}{f:Addr}{od an:Option Addr}{sl:Array (Option Value)}{oc kV dc pm cd ct:Value}(X:K.In h)(G:h.Ns mainGlobals mg)
 (a:PySem.W.nsIn K mainGlobals x=some (some (.ref f))) (l:K.lookup f=some ⟨oc,od,.func (PySem.W.fnOf x x (defArgs st) (defBody st) (defScope st) .none kV dc pm an cd ct),sl⟩) (c:PySem.W.codeIn K cd x=true) (k:PySem.W.keepIn K (.ref f)=true) :
 DefAt K mg x st:=⟨f,_,PySem.W.mg_of X G a,fun_mk l c k,k⟩
end L2
namespace L2
open PySem PySem.Spec PyProof.Rows
noncomputable abbrev testsOf (ifs:List Expr) (env:Env):Sem Bool:=
 forIn ifs true fun c r=>if r=true then do let ok ←isTrue c env (eval c env);pure (ForInStep.yield ok) else pure (ForInStep.yield r)
noncomputable def PTs(X:Cx)(ifs:List Expr)(t:TT):Prop:=
 ∀(pins:List (Addr×Obj)) (s:Shared) (σ:St) (H:Hp) (Q:Bool->Hp->Prop),Inv X pins σ H s->t σ H Q->wpAny (model X.prog X.w) X.A (testsOf ifs X.env) (TP X pins σ Q) X.xe s
noncomputable def tTrue:TT:=fun _ H Q=>Q true H
theorem pts_nil{X:Cx}:PTs X [] tTrue:=fun _ _ _ H _ I h=>wpAny_tests_nil ⟨H,I,h⟩
theorem pts_one{X:Cx}{c:Expr}{t:TT}(h:PT X c t):PTs X [c] t:=fun pins s σ H Q I q=>wpAny_tests_one (h pins s σ H Q I q)
section
variable {prog:Program} {w:World} {A:Around} {R:Result->Shared->Prop} {s:Shared}
theorem comp_loop{elt target iter:Expr}{ifs:List Expr}{scope:Scope}{pos:Pos}{it acc:Value}{env:Env}(I:Nat->Shared->Prop)
 (turn:∀n s,I n s->wpAny (model prog w) A (pyNext it) (fun r s₁=>match r with
  | none=>R (.ok .next) s₁
  | some v=>wpAny (model prog w) A (letOwnedTupleGo target it v) (fun _ s₀=>wpAny (model prog w) A (assign target env v) (fun _ s₂=>
   wpAny (model prog w) A (testsOf ifs env) (fun ok s₃=>
    if ok=true then wpAny (model prog w) A (eval elt env) (fun x s₄=>
     wpAny (model prog w) A (call (.builtin "list.append") [acc,x]) (fun _ s₅=>∃m,m<n/\I m s₅) (notedBy (model prog w) A env fun e s'=>R (.error e) s') s₄) (notedBy (model prog w) A env fun e s'=>R (.error e) s') s₃
    else∃m,m<n/\I m s₃) (notedBy (model prog w) A env fun e s'=>R (.error e) s') s₂) (notedBy (model prog w) A env fun e s'=>R (.error e) s') s₀) (notedBy (model prog w) A env fun e s'=>R (.error e) s') s₁) (notedBy (model prog w) A env fun e s'=>R (.error e) s') s)
 (n:Nat) (h:I n s):codeAny (model prog w) A (.compLoop (.ListComp elt [⟨target,iter,ifs,0⟩] scope pos) 0 it acc env) R s:=by
 refine codeAny_loop rfl I (fun n s hI=>?_) n h
 show wpAny _ A ((compTurn (.ListComp elt [⟨target,iter,ifs,0⟩] scope pos) 0 it acc env).onRaise (fun x=>do noteFrame x env;theTreesLotGoes x)) _ _ s
 refine wpAny_noted ?_
 rw[compTurn_list]
 refine wpAny_bind (wpAny_standAt (wpAny_bind (wpAny_mono (turn n s hI) (fun r s₁ h₁=>?_) fun _ _ h'=>h')))
 cases r with
 | none=>exact wpAny_pure h₁
 | some v=>
  refine wpAny_bind (wpAny_mono h₁ (fun _ s₀ h₀=>?_) fun _ _ h'=>h')
  refine wpAny_bind (wpAny_mono h₀ (fun _ s₂ h₂=>wpAny_bind (wpAny_mono h₂ (fun ok s₃ h₃=>?_) fun _ _ h'=>h')) fun _ _ h'=>h')
  cases ok with
  | false=>exact wpAny_pure ⟨rfl,h₃⟩
  | true=>
   exact wpAny_bind (wpAny_bind (wpAny_mono h₃ (fun x s₄ h₄=>wpAny_bind (wpAny_mono h₄ (fun _ s₅ h₅=>wpAny_pure (wpAny_pure ⟨rfl,h₅⟩)) fun _ _ h'=>h')) fun _ _ h'=>h'))
end
theorem hok_but{P:Program}{w:World}{H:Hp}{h1 h2:Heap}{C:Addr}(ok:HOk P w H h1)(sb:Heap.SameBut C h1 h2)(hn:H C=none):HOk P w H h2:=fun b ob e=>by
 refine(ok b ob e).stay (fun c w' hc q=>(sb.2 c ?_).trans q) (fun _ q=>q) fun _ _ q=>q
 rintro rfl
 rcases hc with rfl | hc
 · rw[hn]at e;cases e
 · rw[hn]at hc;cases hc
noncomputable def CompAsk(J:It)(g:TG)(tt:TT)(te:TE)(D:Addr)(Qd:Hp->Prop)(W:Nat->Nat->St->Hp->Prop):Prop:=
 ∀i m σ H,W i m σ H->(J.stop i H/\Qd H)\/(J.go i H/\∀x H2,J.yld i H x H2->g x σ H2 fun σ3 H3=>tt σ3 H3 fun ok H4=>
  if ok=true then te σ3 H4 fun y H5=>∃ys,H5 D=some (.lst ys)/\ys.length<sizeLine/\∃m',m'<m/\W (i+1) m' σ3 (upd H5 D (.lst (ys++[y])))
  else∃m',m'<m/\W (i+1) m' σ3 H4)
section
variable {X:Cx} {pins:List (Addr×Obj)} {σ:St} {H3:Hp} {s3:Shared}
end
end L2
namespace L2
open PySem PySem.Spec PyProof.Rows
noncomputable def takenFrom(env:Env):List (Str×NameKind)->List (Str×Addr)->List (Str×Addr)
 | [],cs=>cs
 | (n,k)::r,cs=>if k = .free then takenFrom env r ((n,(env.cells.lookup n).getD 0)::cs) else takenFrom env r cs
theorem closureFor_taken{scope:Scope}{env:Env}(h:∀y∈scope.names,y.2 = .free->∃c,env.cells.lookup y.1=some c):closureFor scope env=pure (takenFrom env scope.names []):=by
 unfold closureFor
 generalize scope.names=l at h
 have go:∀(l:List (Str×NameKind)) (cs:List (Str×Addr)),(∀y∈l,y.2 = .free->∃c,env.cells.lookup y.1=some c) ->
  (forIn l cs fun(x:Str×NameKind) (r:List (Str×Addr))=>(if (x.2 == .free)=true then do let y ←cellOf env x.1;pure (ForInStep.yield ((x.1,y)::r)) else pure (ForInStep.yield r):Sem (ForInStep (List (Str×Addr)))))=pure (takenFrom env l cs):=by
  intro l
  induction l with
  | nil=>intro cs _;rfl
  | cons x l ih=>
   intro cs h
   obtain⟨n,k⟩:=x
   rw[List.forIn_cons]
   by_cases e:k = .free
   · subst e
     obtain⟨c,hc⟩:=h _ List.mem_cons_self rfl
     have hc:env.cells.lookup n=some c:=hc
     have e1:cellOf env n=pure c:=by unfold cellOf;rw[hc]
     simp only[e1,takenFrom,hc,if_true,Option.getD_some,beq_self_eq_true,pure_bind]
     exact ih _ fun y hy=>h y (List.mem_cons_of_mem _ hy)
   · have e':(k == NameKind.free)=false:=by simpa using e
     simp only[e',takenFrom,e,if_false,Bool.false_eq_true,pure_bind]
     exact ih _ fun y hy=>h y (List.mem_cons_of_mem _ hy)
 have:=go l [] h
 simpa using this
theorem takenFrom_some{env:Env}:∀{l:List (Str×NameKind)} {cs:List (Str×Addr)} {x:Str} {c:Addr},(∀y∈l,y.2 = .free->∃c,env.cells.lookup y.1=some c)->(∀x c,cs.lookup x=some c->env.cells.lookup x=some c) ->
 (takenFrom env l cs).lookup x=some c->env.cells.lookup x=some c
 | [],_,_,_,_,hc,e=>hc _ _ e
 | (n,k)::l,cs,x,c,h,hc,e=>by
  unfold takenFrom at e
  have h':∀y∈l,y.2 = .free->∃c,env.cells.lookup y.1=some c:=fun y hy=>h y (List.mem_cons_of_mem _ hy)
  split at e
  · refine takenFrom_some h' (fun z d hz=>?_) e
    rename_i hk
    rw[List.lookup_cons]at hz
    split at hz
    · rename_i q
      obtain⟨d',hd⟩:=h (n,k) List.mem_cons_self hk
      have hd:env.cells.lookup n=some d':=hd
      have:z=n:=by simpa using q
      subst this
      rw[hd]at hz ⊢
      exact hz
    · exact hc _ _ hz
  · exact takenFrom_some h' hc e
theorem takenFrom_mono{env:Env}:∀{l:List (Str×NameKind)} {cs:List (Str×Addr)} {x:Str},(cs.lookup x).isSome=true->((takenFrom env l cs).lookup x).isSome=true
 | [],_,_,h=>h
 | (n,k)::l,cs,x,h=>by
  unfold takenFrom
  split
  · refine takenFrom_mono ?_
    rw[List.lookup_cons]
    split
    · rfl
    · exact h
  · exact takenFrom_mono h
theorem takenFrom_has{env:Env}{x:Str}:∀{l:List (Str×NameKind)} {cs:List (Str×Addr)},(x,NameKind.free)∈l->((takenFrom env l cs).lookup x).isSome=true
 | (n,k)::l,cs,h=>by
  unfold takenFrom
  rcases List.mem_cons.mp h with e | e
  · cases e
    rw[if_pos rfl]
    refine takenFrom_mono ?_
    rw[List.lookup_cons]
    simp
  · split
    · exact takenFrom_has e
    · exact takenFrom_has e
noncomputable def cxCompF(X:Cx)(N:List Str)(sc:Scope)(s₀:Shared)(H₀:Hp)(C:Addr)(ex:List Addr):Cx where
 prog:=X.prog
 w:=X.w
 K:=X.K
 mg:=X.mg
 base:=X.base
 A:=X.A
 N:=N
 s₀:=s₀
 H₀:=H₀
 env:=compEnvC sc (takenFrom X.env sc.names []) C X.env
 outer:=X.stack
 stack:=X.stack
 ex:=ex
 fn:=fun _=>false
 calm:=X.calm
 pn:=[]
 xe:=fun _ _=>False
structure CompScopeF(X:Cx)(own cap:List Str)(js:List Nat)(sc:Scope):Prop where
 kind:sc.kind = .function
 nocell:∀y∈sc.names,y.2≠.cell
 names:∀y∈sc.names,y.2 = .local->sc.names.lookup y.1=some .local
 nd:(own++cap).Nodup
 frees:∀y∈sc.names,y.2 = .free->y.1∈cap
 slots:js.map (fun j=>X.N[j]?)=cap.map some
 outer':cap.map X.env.kindOf=cap.map fun _=>some NameKind.cell
 capk':cap.map (fun x=>(relabel sc X.env).names.lookup x)=cap.map fun _=>some NameKind.cell
theorem map_all{α β:Type}{f:α->β}{c:β}:∀{l:List α},l.map f=l.map (fun _=>c)->∀x∈l,f x=c
 | [],_,_,h=>nomatch h
 | y::l,e,x,h=>by
  rw[List.map_cons,List.map_cons]at e
  injection e with e1 e2
  rcases List.mem_cons.mp h with q | q
  · rw[q];exact e1
  · exact map_all e2 x q
theorem CompScopeF.outer{X:Cx}{own cap:List Str}{js:List Nat}{sc:Scope}(S:CompScopeF X own cap js sc):∀x∈cap,X.env.kindOf x=some .cell:=map_all S.outer'
theorem CompScopeF.capk{X:Cx}{own cap:List Str}{js:List Nat}{sc:Scope}(S:CompScopeF X own cap js sc):∀x∈cap,(relabel sc X.env).names.lookup x≠some .local:=fun x hx h=>by
 rw[map_all S.capk' x hx]at h;cases h
noncomputable def compStart(n:Nat)(js:List Nat)(σ:St):St:=List.replicate n none++js.map fun j=>(σ[j]?).join
noncomputable def tCompF(wi:TI)(n:Nat)(js:List Nat)(g:TG)(tt:TT)(te:TE):TE:=fun σ H Q=>wi σ H fun J H1=>∀D,H1 D=none ->
 ∃W:Nat->Nat->St->Hp->Prop,(∃m,W 0 m (compStart n js σ) (upd H1 D (.lst [])))/\CompAsk J g tt te D (fun H'=>Q (.ref D) H') W
section
variable {X:Cx} {pins:List (Addr×Obj)} {σ:St} {H3:Hp} {s3:Shared}
theorem kind_relabel{sc:Scope}{env:Env}{x:Str}{k:NameKind}(h:(relabel sc env).names.lookup x=some k):k = .local\/k = .globalImplicit\/(x,k)∈sc.names\/(x,NameKind.free)∈sc.names:=by
 have hm:=PySem.mem_of_lookup h
 unfold relabel at hm
 obtain⟨⟨n,k'⟩,hn,e⟩:=List.mem_map.mp hm
 dsimp only at e
 split at e
 · rename_i c
   cases e
   simp only[Bool.and_eq_true,beq_iff_eq]at c
   obtain⟨⟨c,_⟩,_⟩:=c
   subst c
   exact .inr (.inr (.inr hn))
 · cases e
   exact .inr (.inr (.inl hn))
theorem comp_coreF{elt tg iter:Expr}{ifs:List Expr}{sc:Scope}{pos:Pos}{own cap:List Str}{js:List Nat}{g:TG}{tt:TT}{te:TE}{it C D:Addr}{fp:List Addr}{tn:Nat->Heap->Prop}{J:It}{h4:Heap}{tk:Nat}{m:Str->Option Value}
 {W:Nat->Nat->St->Hp->Prop} {Qd:Hp->Prop} {m0:Nat} (S:CompScopeF X own cap js sc) (hc:X.calm=true) (I3:Inv X pins σ H3 s3) (T:Turn X.prog X.w X.K tg J fp it tn) (st3:tn 0 s3.heap) (f3:∀b∈fp,FpOk X pins H3 b)
 (eC:C=s3.heap.objs.size) (hns:h4.Ns C m) (hk:∀b o,s3.heap.get? b=some o->h4.get? b=some o)
 (hg:PG (cxCompF X (own++cap) sc s3 H3 C fp) tg g) (ht:PTs (cxCompF X (own++cap) sc s3 H3 C fp) ifs tt) (he:PE (cxCompF X (own++cap) sc s3 H3 C fp) elt te)
 (w0:W 0 m0 (compStart own.length js σ) H3) (ask:CompAsk J g tt te D Qd W) :
 codeAny (model X.prog X.w) X.A (.compStart (.ListComp elt [⟨tg,iter,ifs,0⟩] sc pos) 0 (.ref it) (.ref D) (compEnvC sc (takenFrom X.env sc.names []) C X.env))
  (fun r s'=>r = .ok .next/\∃m' H',s'.heap.Ns C m'/\s'.os=s3.os/\AllBare s'.gens/\Un (frs X.stack) fp H3 H' s3.heap s'.heap/\HOk X.prog X.w H' s'.heap/\H' C=none/\Qd H') { s3 with heap:=h4,toks:=tk }:=by
 have frs':∀y∈sc.names,y.2 = .free->∃c,X.env.cells.lookup y.1=some c:=fun y hy e=>I3.ok.has _ (.inl (S.outer _ (S.frees y hy e)))
 have toL:∀(x:Str) (c:Addr),(cxCompF X (own++cap) sc s3 H3 C fp).env.cells.lookup x=some c->X.env.cells.lookup x=some c:=fun x c e=>
  takenFrom_some frs' (fun x c h=>by cases (show([]:List (Str×Addr)).lookup x=some c from h)) e
 have ltC:∀(x:Str) (c:Addr),X.env.cells.lookup x=some c->c<s3.heap.objs.size:=fun x c e=>by
  obtain⟨v,q⟩:=I3.cell x c e
  exact q.lt
 have fpl:∀b∈fp,b<s3.heap.objs.size:=fun b hb=>by
  obtain⟨o,e,_⟩:=T.obj 0 _ st3 b hb
  exact Heap.lt_size e
 have ok':(cxCompF X (own++cap) sc s3 H3 C fp).Ok:=by
  refine⟨I3.ok.mod,S.kind,I3.ok.glob,I3.ok.blt,Nat.le_of_eq eC.symm,fun x y c e1 e2=>I3.ok.inj x y c (toL x c e1) (toL y c e2),fun x hx=>?_,(fun x c z _=>nomatch (show false=true from z)),I3.ok.hd,I3.ok.frames,.inl rfl,fun b hb=>?_,
   I3.bs,Nat.le_trans I3.ok.bsz I3.sz,fun b o e hb=>?_,fun b hb hs=>?_,I3.stack,I3.stkFree⟩
  · have hx':(relabel sc X.env).names.lookup x=some .cell\/(relabel sc X.env).names.lookup x=some .free:=hx
    have hm:(x,NameKind.free)∈sc.names:=by
     rcases hx' with z | z
     · rcases kind_relabel z with q | q | q | q
       · cases q
       · cases q
       · exact absurd rfl (S.nocell _ q)
       · exact q
     · rcases kind_relabel z with q | q | q | q
       · cases q
       · cases q
       · exact q
       · exact q
    exact Option.isSome_iff_exists.mp (takenFrom_has hm)
  · refine⟨?_,fun x c e=>(f3 b hb).2.2.2.2.1 x c (toL x c e)⟩
    show b≠C
    rw[eC]
    exact Nat.ne_of_lt (fpl b hb)
  · rcases(f3 b hb).2.2.2.1 with z | z
    · exact I3.ok.noex b o e z
    · have h1:b<X.base.objs.size:=Heap.lt_size e
      exact absurd (Nat.lt_of_lt_of_le h1 (Nat.le_trans I3.ok.bsz z)) (Nat.lt_irrefl _)
  · obtain⟨_,f1,f2,_⟩:=f3 b hb
    rcases List.mem_cons.mp (I3.stkSub b hs) with z | z
    · exact f1 z
    · exact f2 z
 have hCn:H3 C=none:=by rw[eC];exact I3.hok.fresh (Nat.le_refl _)
 have sl:js.length=cap.length:=by have:=congrArg List.length S.slots;simpa using this
 have I4:Inv (cxCompF X (own++cap) sc s3 H3 C fp) [] (compStart own.length js σ) H3 { s3 with heap:=h4,toks:=tk }:=by
  refine⟨ok',rfl,I3.bare,Un.kept hk,⟨m,hns,fun i x v e1 e2 hv=>?_⟩,fun x c e=>?_,hCn,fun x c e=>I3.freeC x c (toL x c e),fun p hp=>?_,I3.hok.kept hk,?_⟩
  · have e1:(own++cap)[i]? = some x:=e1
    unfold compStart at e2
    by_cases hi:i<own.length
    · rw[List.getElem?_append_left (by simpa using hi),List.getElem?_replicate,if_pos hi]at e2
      cases e2
    · rw[List.getElem?_append_right (by omega)]at e1
      rw[List.getElem?_append_right (by simpa using hi),List.length_replicate,List.getElem?_map]at e2
      obtain⟨j,hj⟩:∃j,js[i - own.length]? = some j:=by
       cases q:js[i - own.length]? with
       | none=>rw[q]at e2;cases e2
       | some j=>exact⟨j,rfl⟩
      rw[hj]at e2
      have e2:(σ[j]?).join=some v:=Option.some.inj e2
      have e3:σ[j]? = some (some v):=by
       cases q:σ[j]? with
       | none=>rw[q]at e2;cases e2
       | some z=>rw[q]at e2;rw[show z=some v from e2]
      have hs:=congrArg (fun l=>l[i - own.length]?) S.slots
      simp only[List.getElem?_map,hj,e1,Option.map_some]at hs
      have hN:X.N[j]? = some x:=Option.some.inj hs
      have hx:x∈cap:=List.mem_of_getElem? e1
      obtain⟨m2,hn2,hl2⟩:=I3.loc
      obtain⟨u,ru,lk⟩:=hl2 j x v hN e3 (.inr (.inl (S.outer x hx)))
      refine⟨u,ru,?_⟩
      rcases lk with⟨k1,_⟩ | ⟨_,c,hc1,hc2⟩
      · rw[S.outer x hx]at k1;cases k1
      · have hv:Vis (relabel sc X.env) x:=hv
        have kd:(cxCompF X (own++cap) sc s3 H3 C fp).env.kindOf x=some .cell\/(cxCompF X (own++cap) sc s3 H3 C fp).env.kindOf x=some .free\/(cxCompF X (own++cap) sc s3 H3 C fp).env.kindOf x=some .local:=by
         rcases hv with z | z | z
         · exact .inr (.inr z)
         · exact .inl z
         · exact .inr (.inl z)
        rcases kd with kd | kd | kd
        · obtain⟨c',hc'⟩:=ok'.has x (.inl kd)
          have:=toL x c' hc'
          rw[hc1]at this
          cases this
          exact .inr ⟨.inl kd,c,hc',hc2.keeps hk⟩
        · obtain⟨c',hc'⟩:=ok'.has x (.inr kd)
          have:=toL x c' hc'
          rw[hc1]at this
          cases this
          exact .inr ⟨.inr kd,c,hc',hc2.keeps hk⟩
        · have kd:(relabel sc X.env).names.lookup x=some .local:=kd
          exact absurd kd (S.capk x hx)
  · obtain⟨v,q⟩:=I3.cell x c (toL x c e)
    exact⟨v,q.keeps hk⟩
  · have hp':p∈([]:List (Addr×Obj)):=hp
    cases hp'
  · show(compStart own.length js σ).length=(own++cap).length
    unfold compStart
    rw[List.length_append,List.length_replicate,List.length_map,List.length_append,sl]
 have fpS:∀{H':Hp},(∀b∈fp,H' b=none)->∀b∈fp,FpOk (cxCompF X (own++cap) sc s3 H3 C fp) [] H' b:=fun {H'} hn b hb=>by
  refine⟨hn b hb,?_,fun hs=>ok'.exfs b hb hs,.inl hb,fun x c e=>(f3 b hb).2.2.2.2.1 x c (toL x c e),fun p hp=>?_⟩
  · show b≠C
    rw[eC]
    exact Nat.ne_of_lt (fpl b hb)
  · have hp':p∈([]:List (Addr×Obj)):=hp
    cases hp'
 have st4:tn 0 h4:=T.keep 0 _ _ st3 fun b _ o e=>hk b o e
 have loop:codeAny (model X.prog X.w) X.A (.compLoop (.ListComp elt [⟨tg,iter,ifs,0⟩] sc pos) 0 (.ref it) (.ref D) (compEnvC sc (takenFrom X.env sc.names []) C X.env))
  (fun r s'=>r = .ok .next/\∃m' H',s'.heap.Ns C m'/\s'.os=s3.os/\AllBare s'.gens/\Un (frs X.stack) fp H3 H' s3.heap s'.heap/\HOk X.prog X.w H' s'.heap/\H' C=none/\Qd H') { s3 with heap:=h4,toks:=tk }:=by
  refine comp_loop (fun n s'=>∃i σ' H',Inv (cxCompF X (own++cap) sc s3 H3 C fp) [] σ' H' s'/\tn i s'.heap/\(∀b∈fp,H' b=none)/\W i n σ' H') ?_ m0 ⟨0,_,H3,I4,st4,fun b hb=>(f3 b hb).1,w0⟩
  rintro n s' ⟨i,σ',H',J',st',fr',w'⟩
  rcases ask i n σ' H' w' with⟨stop,qd⟩ | ⟨go,step⟩
  · refine thn (T.done (cxCompF X (own++cap) sc s3 H3 C fp) rfl rfl rfl hc i [] s' σ' H' _ J' (fpS fr') st' stop) fun r s1 zq283=>zq283.elim fun hr J1=>?_
    subst hr
    obtain⟨m1,hn1,_⟩:=J1.loc
    exact⟨rfl,m1,H',hn1,J1.os,J1.bare,J1.base,J1.hok,J1.free,qd⟩
  · refine thn (T.item (cxCompF X (own++cap) sc s3 H3 C fp) rfl rfl rfl hc i [] s' σ' H' _ J' (fpS fr') st' go) fun r s1 zq284=>zq284.elim fun u zq285=>zq285.elim fun hr h1=>?_
    subst hr
    refine thn h1 fun _ s2 zq286=>zq286.elim fun x zq287=>zq287.elim fun H5 zq288=>zq288.elim fun J5 zq289=>zq289.elim fun r5 zq290=>zq290.elim fun y5 zq291=>zq291.elim fun st5 fr5=>?_
    have J5':=J5.pinned (fpS fr5) (T.obj _ _ st5)
    refine wpAny_mono (hg _ s2 σ' H5 x u _ J5' r5 (step x H5 y5)) (fun _ s6 zq292=>zq292.elim fun σ6 zq293=>zq293.elim fun H6 zq294=>zq294.elim fun J6 q6=>?_) (fun _ _ z=>z.elim)
    refine wpAny_mono (ht _ s6 σ6 H6 _ J6 q6) (fun ok s7 zq295=>zq295.elim fun H7 zq296=>zq296.elim fun J7 q7=>?_) (fun _ _ z=>z.elim)
    have again:∀{s9:Shared} {H9:Hp} {m':Nat},Inv (cxCompF X (own++cap) sc s3 H3 C fp) ([]++pinsAt fp s2.heap) σ6 H9 s9->m'<n->W (i+1) m' σ6 H9 ->
     ∃m,m<n/\∃i σ' H',Inv (cxCompF X (own++cap) sc s3 H3 C fp) [] σ' H' s9/\tn i s9.heap/\(∀b∈fp,H' b=none)/\W i m σ' H':=fun {s9 H9 m'} J9 hm w9=>by
     refine⟨m',hm,i+1,σ6,H9,J9.unpinned,T.keep _ _ _ st5 fun b hb o e=>(J9.pin (b,o) (List.mem_append_right _ (List.mem_append_right _ (mem_pinsAt hb e)))).1,fun b hb=>?_,w9⟩
     obtain⟨o,e,d⟩:=T.obj _ _ st5 b hb
     exact(J9.pin (b,o) (List.mem_append_right _ (List.mem_append_right _ (mem_pinsAt hb e)))).2.1
    cases ok with
    | false=>
     rw[if_neg Bool.false_ne_true]at q7 ⊢
     obtain⟨m',hm,w7⟩:=q7
     exact again J7 hm w7
    | true=>
     rw[if_pos rfl]at q7 ⊢
     refine wpAny_mono (he _ s7 σ6 H7 _ J7 q7) (fun y s8 zq297=>zq297.elim fun yv zq298=>zq298.elim fun H8 zq299=>zq299.elim fun J8 zq300=>zq300.elim fun r8 zq301=>zq301.elim fun ys zq302=>zq302.elim fun hD8 zq303=>zq303.elim fun hz zq304=>zq304.elim fun m' zq305=>zq305.elim fun hm w8=>?_) (fun _ _ z=>z.elim)
     refine wpAny_mono (mt_append (X:=cxCompF X (own++cap) sc s3 H3 C fp) _ s8 σ6 H8 (.ref D) [yv] (.ref D) [y] (fun v H9=>H9=upd H8 D (.lst (ys++[yv]))) J8 rfl (.cons r8 .nil) ⟨D,ys,yv,rfl,rfl,hD8,hz,rfl⟩) (fun _ s9 zq306=>zq306.elim fun _ zq307=>zq307.elim fun H9 zq308=>zq308.elim fun J9 zq309=>zq309.elim fun _ eH=>?_) (fun _ _ z=>z.elim)
     subst eH
     exact again J9 hm w8
 exact codeAny_compStart_list loop (T.self X.A 0 _ _ _ st4 loop)
theorem comp_runF{elt tg iter:Expr}{ifs:List Expr}{sc:Scope}{pos:Pos}{own cap:List Str}{js:List Nat}{g:TG}{tt:TT}{te:TE}{it:Addr}{fp:List Addr}{tn:Nat->Heap->Prop}{J:It}{H2:Hp}{s2:Shared}{use:Option (Value->Sem Unit)}{Qr:Value->Shared->Prop}{Er:Value->Shared->Prop}
 {Q:V->Hp->Prop} (S:CompScopeF X own cap js sc) (hc:X.calm=true) (I2:Inv X pins σ H2 s2) (T:Turn X.prog X.w X.K tg J fp it tn) (st2:tn 0 s2.heap) (f2:∀b∈fp,FpOk X pins H2 b)
 (hg:∀s₀ H₀ C ex,PG (cxCompF X (own++cap) sc s₀ H₀ C ex) tg g) (ht:∀s₀ H₀ C ex,PTs (cxCompF X (own++cap) sc s₀ H₀ C ex) ifs tt) (he:∀s₀ H₀ C ex,PE (cxCompF X (own++cap) sc s₀ H₀ C ex) elt te)
 (q2:∀D,H2 D=none->∃W:Nat->Nat->St->Hp->Prop,(∃m,W 0 m (compStart own.length js σ) (upd H2 D (.lst [])))/\CompAsk J g tt te D (fun H'=>Q (.ref D) H') W)
 (fin:∀(D C:Addr) (H':Hp) (s':Shared) (m':Str->Option Value),s2.heap.objs.size<C->s'.heap.Ns C m'->Inv X pins σ H' s'->H' C=none->Q (.ref D) H'->compPost (model X.prog X.w) X.A Er use Qr (.ref D) C (.ok .next) s') :
 wpAny (model X.prog X.w) X.A (newList []) (fun acc s₃=>wpAny (model X.prog X.w) X.A (newFunctionEnv sc X.env.globals (takenFrom X.env sc.names []) [] X.env.qual none .none (some X.env)) (fun cenv s₄=>
  codeAny (model X.prog X.w) X.A (.compStart (.ListComp elt [⟨tg,iter,ifs,0⟩] sc pos) 0 (.ref it) acc { cenv with scope:=relabel sc X.env }) (compPost (model X.prog X.w) X.A Er use Qr acc cenv.locals) s₄) Er s₃) Er s2:=by
 have hDn:H2 s2.heap.objs.size=none:=I2.fresh
 obtain⟨W,⟨m0,w0⟩,ask⟩:=q2 _ hDn
 have I3:=I2.lnew (ys:=[]) (its:=[]) (t':=s2.toks) .nil (Nat.zero_le _)
 have fpl:∀b∈fp,b<s2.heap.objs.size:=fun b hb=>by
  obtain⟨o,e,_⟩:=T.obj 0 _ st2 b hb
  exact Heap.lt_size e
 have f3:∀b∈fp,FpOk X pins (upd H2 s2.heap.objs.size (.lst [])) b:=fun b hb=>by
  refine⟨?_,(f2 b hb).2⟩
  rw[upd_ne (Nat.ne_of_lt (fpl b hb))]
  exact(f2 b hb).1
 refine wpAny_newObj_type (hd:=by size_fits) (wpAny_newFunctionEnv S.nocell (by intro y hy;simp at hy) (fun h4 hns hsb=>?_) S.kind)
 dsimp only at hns hsb ⊢
 have hkp:∀b o,(s2.heap.push { cls:=.type "list",dict:=none,data:=.seq ([]:List Value).toArray }).get? b=some o->h4.get? b=some o:=fun b o e=>
  hsb.extBut b o (Nat.ne_of_lt (Heap.lt_size e)) (Heap.get?_push_of_some _ e)
 have st3:tn 0 (s2.heap.push { cls:=.type "list",dict:=none,data:=.seq ([]:List Value).toArray }):=T.keep 0 _ _ st2 fun b _ o e=>Heap.get?_push_of_some _ e
 refine codeAny_mono (comp_coreF (s3:={ s2 with heap:=s2.heap.push { cls:=.type "list",dict:=none,data:=.seq ([]:List Value).toArray } }) (tk:=s2.toks+([]:List (Str×Value)).length) S hc I3 T st3 f3 rfl hns hkp (hg _ _ _ _) (ht _ _ _ _) (he _ _ _ _) w0 ask) fun r s' hr=>?_
 obtain⟨er,m',H',hn',os',bare',un',hok',free',qd⟩:=hr
 subst er
 have un1:Un (frs X.stack) fp H2 (upd H2 s2.heap.objs.size (.lst [])) s2.heap (s2.heap.push { cls:=.type "list",dict:=none,data:=.seq ([]:List Value).toArray }):=Un.laid (fun b o e=>Heap.get?_push_of_some _ e) (Nat.le_refl _) hDn
 refine fin _ _ H' s' m' ?_ hn' (I2.call' (s':=s') (ch:=fp) os' (un1.trans un') hok' bare' (fun b hb=>⟨(f2 b hb).2.2.2.1,(f2 b hb).2.1,(f2 b hb).2.2.2.2.1,(f2 b hb).2.2.2.2.2⟩)) free' qd
 show s2.heap.objs.size<(s2.heap.push { cls:=.type "list",dict:=none,data:=.seq ([]:List Value).toArray }).objs.size
 rw[Heap.size_push]
 exact Nat.lt_succ_self _
theorem Inv.letGo{H:Hp}{s:Shared}{C:Addr}{h':Heap}(I:Inv X pins σ H s)(sb:Heap.SameBut C s.heap h')(hn:H C=none)(h0:X.s₀.heap.objs.size<=C)(h1:C≠X.env.locals)(h2:∀x c,X.env.cells.lookup x=some c->c≠C)(h3:∀p∈X.pn++pins,p.1≠C) :
 Inv X pins σ H { s with heap:=h' }:=by
 refine I.call' (s':={ s with heap:=h' }) (ch:=[C]) rfl ⟨fun b o e _ _ hb=>?_,fun b o e _ _ hb=>⟨o.slots,?_⟩,fun _ _ _ n _=>n,fun b o e hb=>⟨o,?_⟩,fun _ _ q=>q,fun _ _ _ q=>q,fun _ ps q=>⟨#[],by rw[q];simp⟩⟩ (hok_but I.hok sb hn) I.bare (fun b hb=>?_)
 · exact(sb.2 b (by simpa using hb)).trans e
 · exact(sb.2 b (by simpa using hb)).trans e
 · exact(sb.2 b (by simpa using hb)).trans e
 · have:b=C:=by simpa using hb
   subst this
   exact⟨.inr h0,h1,h2,h3⟩
theorem Inv.goes{H2 H:Hp}{s2 s:Shared}{σ':St}{C:Addr}{h':Heap}(I2:Inv X pins σ' H2 s2)(hC:s2.heap.objs.size<C)(I:Inv X pins σ H s)(sb:Heap.SameBut C s.heap h')(hn:H C=none):Inv X pins σ H { s with heap:=h' }:=by
 refine I.letGo sb hn (Nat.le_of_lt (Nat.lt_of_le_of_lt I2.sz hC)) (Nat.ne_of_gt (Nat.lt_trans I2.lt hC)) (fun x c e z=>?_) (fun p hp z=>?_)
 · obtain⟨v,q⟩:=I2.cell x c e
   exact absurd (Nat.lt_trans q.lt hC) (by rw[z];exact Nat.lt_irrefl _)
 · exact absurd (Nat.lt_trans (Heap.lt_size (I2.pin p hp).1) hC) (by rw[z];exact Nat.lt_irrefl _)
theorem CompScopeF.clos{own cap:List Str}{js:List Nat}{sc:Scope}(S:CompScopeF X own cap js sc)(ok:X.Ok):closureFor sc X.env=pure (takenFrom X.env sc.names []):=
 closureFor_taken fun y hy e=>ok.has _ (.inl (S.outer _ (S.frees y hy e)))
theorem pe_compF{elt tg iter:Expr}{ifs:List Expr}{sc:Scope}{pos:Pos}(own cap:List Str)(js:List Nat){wi:TI}{g:TG}{tt:TT}{te:TE}(S:CompScopeF X own cap js sc)(hc:X.calm=true)(hi:PI X tg iter wi)
 (hg:∀s₀ H₀ C ex,PG (cxCompF X (own++cap) sc s₀ H₀ C ex) tg g) (ht:∀s₀ H₀ C ex,PTs (cxCompF X (own++cap) sc s₀ H₀ C ex) ifs tt) (he:∀s₀ H₀ C ex,PE (cxCompF X (own++cap) sc s₀ H₀ C ex) elt te)
 (hs:∀x,foldedSetIterable iter X.env x=pure x:=by intro _;rfl):PE X (.ListComp elt [⟨tg,iter,ifs,0⟩] sc pos) (tCompF wi own.length js g tt te):=by
 intro pins s σ H Q I h
 rw[eval_ListComp]
 refine wpAny_comprehension_free (use:=none) rfl hs (S.clos I.ok) S.kind S.names (thn (hi pins s σ H _ I h) fun v s1 h1=>thn h1 fun itv s2 h2=>?_)
 obtain⟨it,fp,tn,J,H2,e,I2,T,st2,f2,q2⟩:=h2
 subst e
 refine comp_runF (Q:=Q) S hc I2 T st2 f2 hg ht he q2 fun D C H' s' m' hC hn' I' free' qd=>?_
 exact⟨m',hn',fun h' sb=>⟨.ref D,H',I2.goes hC I' sb free',rfl,qd⟩⟩
theorem ps_setComp{i:Nat}{x:Str}{elt tg iter:Expr}{ifs:List Expr}{sc:Scope}{pos px ps:Pos}(own cap:List Str)(js:List Nat){wi:TI}{g:TG}{tt:TT}{te:TE}(hN:X.N.Nodup)(hx:X.N[i]? = some x)(hl:X.env.scope.names.lookup x=some .local)(S:CompScopeF X own cap js sc)(hc:X.calm=true)
 (hi:PI X tg iter wi) (hg:∀s₀ H₀ C ex,PG (cxCompF X (own++cap) sc s₀ H₀ C ex) tg g) (ht:∀s₀ H₀ C ex,PTs (cxCompF X (own++cap) sc s₀ H₀ C ex) ifs tt) (he:∀s₀ H₀ C ex,PE (cxCompF X (own++cap) sc s₀ H₀ C ex) elt te)
 (hsw:swapsWith (.ListComp elt [⟨tg,iter,ifs,0⟩] sc pos) (some (.Name x px)) ps.line X.env=pure true:=by rfl)
 (hs:∀x,foldedSetIterable iter X.env x=pure x:=by intro _;rfl):PS X (.Assign [.Name x px] (.ListComp elt [⟨tg,iter,ifs,0⟩] sc pos) ps) (tAsg (tCompF wi own.length js g tt te) (gName i)):=by
 intro pins s σ H D I h
 rw[exec_Assign_Name_used _ _ _ _ hsw]
 refine wpAny_bind (wpAny_standAt (wpAny_bind ?_))
 show wpAny _ X.A (do let _ ←comprehension (.ListComp elt [⟨tg,iter,ifs,0⟩] sc pos) sc X.env _ (newList []) false (eval iter X.env) (some (assign (.Name x px) X.env))) _ _ s
 refine wpAny_bind (wpAny_mono (wpAny_comprehension_free (use:=some (assign (.Name x px) X.env)) (Q:=fun _ s'=>∃σ' H',Inv X pins σ' H' s'/\D.nx σ' H') rfl hs (S.clos I.ok) S.kind S.names
  (thn (hi pins s σ H _ I h) fun v s1 h1=>thn h1 fun itv s2 h2=>?_)) (fun _ s' hq=>wpAny_pure (wpAny_pure hq)) fun _ _ e=>e)
 obtain⟨it,fp,tn,J,H2,e,I2,T,st2,f2,q2⟩:=h2
 subst e
 refine comp_runF (Q:=fun v H1=>gName i v σ H1 D.nx) S hc I2 T st2 f2 hg ht he q2 fun D' C H' s' m' hC hn' I' free' qd=>?_
 show wpAny _ X.A (assign (.Name x px) X.env (.ref D')) _ _ s'
 refine wpAny_assign_Name (store_ok2 (v:=.ref D') I' hN hx (.inl hl) rfl (fun s'' I'' zq310=>zq310.elim fun a zq311=>zq311.elim fun sb ha=>?_) (.inr hl))
 have ne:C≠a:=by
  rcases ha with z | z
  · rw[z];exact Nat.ne_of_gt (Nat.lt_trans I2.lt hC)
  · obtain⟨v,q⟩:=I2.cell x a z
    exact Nat.ne_of_gt (Nat.lt_trans q.lt hC)
 exact⟨m',hn'.sameBut sb ne,fun h' sb'=>⟨_,H',I2.goes hC I'' sb' free',qd⟩⟩
end
end L2
namespace L2
open PySem PySem.Spec PyProof.Rows
section
variable {X:Cx} {e k:Expr} {te tk:TE} {pos p2:Pos}
end
section
variable {X:Cx} {a b c d:Expr} {ta tb tc td:TE} {pos:Pos}
end
end L2
namespace L2
open PySem PySem.Spec PyProof.Rows
noncomputable abbrev New (H:Hp) (o:HO) (Q:V->Hp->Prop):Prop:=∀p H',H p=none->Same H H'->H' p=some o->Q (.ref p) H'
theorem New.at{H:Hp}{o:HO}{Q:V->Hp->Prop}(h:New H o Q):∀p,H p=none->Q (.ref p) (upd H p o):=fun p hp=>h p _ hp (same_upd hp) upd_same
theorem OpR.weak{X:Cx}{f:Value->Value->Sem Value}{r r':R2}(h:OpR X f r)(w:∀x y H Q,r' x y H Q->r x y H Q):OpR X f r':=fun pins s σ H x y v u Q I rx ry q=>h pins s σ H x y v u Q I rx ry (w _ _ _ _ q)
theorem CallR.weak{X:Cx}{f:Value}{r r':List V->Hp->VK->Prop}(h:CallR X f r)(w:∀xs H Q,r' xs H Q->r xs H Q):CallR X f r':=fun pins s σ H xs us Q I rx q=>h pins s σ H xs us Q I rx (w _ _ _ q)
theorem SlR.weak{X:Cx}{r r':V->Option Int->Option Int->Hp->VK->Prop}(h:SlR X r)(w:∀x l u H Q,r' x l u H Q->r x l u H Q):SlR X r':=fun pins s σ H x v vl vu lo hi sl Q I rx hs pl pu q=>h pins s σ H x v vl vu lo hi sl Q I rx hs pl pu (w _ _ _ _ _ q)
section
variable {X:Cx} {e k:Expr} {es:List Expr} {te tk:TE} {t:TA} {pos p2:Pos}
noncomputable def rCatN:R2:=fun x y H Q=>∃l b xs zs,x = .ref l/\y = .ref b/\H l=some (.lst xs)/\H b=some (.lst zs)/\xs.length+zs.length<=sizeLine/\New H (.lst (xs++zs)) Q
theorem op_catN:OpR X (binaryOp .Add) rCatN:=op_cat.weak fun x y H Q zq312=>zq312.elim fun l zq313=>zq313.elim fun b zq314=>zq314.elim fun xs zq315=>zq315.elim fun zs zq316=>zq316.elim fun a1 zq317=>zq317.elim fun a2 zq318=>zq318.elim fun a3 zq319=>zq319.elim fun a4 zq320=>zq320.elim fun a5 a6=>⟨l,b,xs,zs,a1,a2,a3,a4,a5,a6.at⟩
noncomputable def rSlN(K:PySem.W.Frag):V->Option Int->Option Int->Hp->VK->Prop:=fun x lo hi H Q=>∃a xs,x = .ref a/\SqL K H a xs/\New H (.lst (cutV xs lo hi)) Q
theorem sl_listN:SlR X (rSlN X.K):=sl_list.weak fun x l u H Q zq321=>zq321.elim fun a zq322=>zq322.elim fun xs zq323=>zq323.elim fun a1 zq324=>zq324.elim fun a2 a3=>⟨a,xs,a1,a2,a3.at⟩
theorem call_listN:CallR X (.type "list") (fun xs H Q=>∃p ys,xs = [.ref p]/\(SqL X.K H p ys\/SqT X.K H p ys)/\New H (.lst ys) Q):=call_list_of.weak fun xs H Q zq325=>zq325.elim fun p zq326=>zq326.elim fun ys zq327=>zq327.elim fun a1 zq328=>zq328.elim fun a2 a3=>⟨p,ys,a1,a2,a3.at⟩
noncomputable def tTupN(t:TA):TE:=fun σ H Q=>t σ H fun xs H1=>xs.length<=sizeLine/\New H1 (.tup xs) Q
noncomputable def tLstN(t:TA):TE:=fun σ H Q=>t σ H fun xs H1=>xs.length<=sizeLine/\New H1 (.lst xs) Q
theorem PA.thn{t:TA}(h:PA X es t){A:Hp->Prop}{F:VK->List V->Hp->Prop}{G:VK->List V->Hp->Prop}(w:∀Q xs H,F Q xs H->G Q xs H):PA X es (fun σ H R=>∃Q:VK,t σ H (F Q)/\R=G Q):=by
 intro pos pins s σ H R I ⟨Q,q,e⟩
 subst e
 exact L2.thn (h pos pins s σ H _ I q) fun us s1 zq329=>zq329.elim fun vs zq330=>zq330.elim fun H1 zq331=>zq331.elim fun I1 zq332=>zq332.elim fun r1 q1=>⟨vs,H1,I1,r1,w _ _ _ q1⟩
theorem pe_tupN{x1}(h:PA X es t):PE X (.Tuple es x1 pos) (tTupN t):=by
 intro pins s σ H Q I q
 exact pe_tup (PA.thn (A:=fun _=>True) (F:=fun Q xs H1=>xs.length<=sizeLine/\New H1 (.tup xs) Q) (G:=fun Q xs H1=>xs.length<=sizeLine/\∀p,H1 p=none->Q (.ref p) (upd H1 p (.tup xs))) h (fun Q xs H zq333=>zq333.elim fun a b=>⟨a,b.at⟩)) pins s σ H Q I ⟨Q,q,rfl⟩
theorem pe_lstN(h:PA X es t):PE X (.List es pos) (tLstN t):=by
 intro pins s σ H Q I q
 exact pe_lst (PA.thn (A:=fun _=>True) (F:=fun Q xs H1=>xs.length<=sizeLine/\New H1 (.lst xs) Q) (G:=fun Q xs H1=>xs.length<=sizeLine/\∀p,H1 p=none->Q (.ref p) (upd H1 p (.lst xs))) h (fun Q xs H zq334=>zq334.elim fun a b=>⟨a,b.at⟩)) pins s σ H Q I ⟨Q,q,rfl⟩
end
section
variable {g:TG} {tt:TT} {te:TE} {H1:Hp} {Q:Addr->Hp->Prop}
theorem comp_rangeG{lo:Int}{n:Nat}{σ0:St}(S:St->Prop)(P:Nat->List V->Hp->Prop)(s0:S σ0)(st:∀D,H1 D=none->P 0 [] (upd H1 D (.lst [])))
 (turn:∀D i ys σ H (k:St->V->Hp->Prop) (k':St->Hp->Prop),H1 D=none->i<n->S σ->H D=some (.lst ys)->Same H1 H->P i ys H ->
  (∀σ3 y H5,S σ3->Same H H5->ys.length<sizeLine->P (i+1) (ys++[y]) (upd H5 D (.lst (ys++[y])))->k σ3 y H5)->(∀σ3 H4,S σ3->Same H H4->P (i+1) ys H4->k' σ3 H4) ->
  g (.int (lo+i)) σ H fun σ3 H3=>tt σ3 H3 fun ok H4=>if ok=true then te σ3 H4 (k σ3) else k' σ3 H4)
 (done:∀D ys H,H1 D=none->H D=some (.lst ys)->Same H1 H->P n ys H->Q D H) :
 ∀D,H1 D=none->∃W:Nat->Nat->St->Hp->Prop,(∃m,W 0 m σ0 (upd H1 D (.lst [])))/\CompAsk (Itr lo n) g tt te D (fun H'=>Q D H') W:=by
 intro D hD
 refine⟨fun i m σ H=>m=n - i/\i<=n/\S σ/\∃ys,H D=some (.lst ys)/\Same H1 H/\P i ys H,⟨n,by simp,Nat.zero_le _,s0,[],upd_same,same_upd hD,st D hD⟩,?_⟩
 rintro i m σ H ⟨rfl,hi,hS,ys,hd,hs,hp⟩
 by_cases hlt:i<n
 · refine .inr ⟨hlt,fun x H2 hy=>?_⟩
   obtain⟨e1,e2⟩:=hy
   subst e1 e2
   exact turn D i ys σ _ (fun σ3 y H5=>∃ys,H5 D=some (.lst ys)/\ys.length<sizeLine/\∃m',m'<n - i/\(m'=n - (i+1)/\i+1<=n/\S σ3/\∃zs,upd H5 D (.lst (ys++[y])) D=some (.lst zs)/\Same H1 (upd H5 D (.lst (ys++[y])))/\P (i+1) zs (upd H5 D (.lst (ys++[y])))))
    (fun σ3 H4=>∃m',m'<n - i/\(m'=n - (i+1)/\i+1<=n/\S σ3/\∃zs,H4 D=some (.lst zs)/\Same H1 H4/\P (i+1) zs H4)) hD hlt hS hd hs hp
    (fun σ3 y H5 a1 a2 a3 a4=>⟨ys,a2 _ _ hd,a3,n - (i+1),by omega,rfl,hlt,a1,ys++[y],upd_same,same_upd' (hs.trans a2) hD,a4⟩)
    (fun σ3 H4 a1 a2 a3=>⟨n - (i+1),by omega,rfl,hlt,a1,ys,a2 _ _ hd,hs.trans a2,a3⟩)
 · have e:i=n:=by omega
   subst e
   exact .inl ⟨Nat.le_refl _,done D ys H hD hd hs hp⟩
theorem comp_listG{K:PySem.W.Frag}{a:Addr}{xs:List V}{σ0:St}(hx:SqL K H1 a xs)(S:St->Prop)(P:Nat->List V->Hp->Prop)(s0:S σ0)(st:∀D,H1 D=none->P 0 [] (upd H1 D (.lst [])))
 (turn:∀D i x ys σ H (k:St->V->Hp->Prop) (k':St->Hp->Prop),H1 D=none->xs[i]? = some x->S σ->H D=some (.lst ys)->Same H1 H->P i ys H ->
  (∀σ3 y H5,S σ3->Same H H5->ys.length<sizeLine->P (i+1) (ys++[y]) (upd H5 D (.lst (ys++[y])))->k σ3 y H5)->(∀σ3 H4,S σ3->Same H H4->P (i+1) ys H4->k' σ3 H4) ->
  g x σ H fun σ3 H3=>tt σ3 H3 fun ok H4=>if ok=true then te σ3 H4 (k σ3) else k' σ3 H4)
 (done:∀D ys H,H1 D=none->H D=some (.lst ys)->Same H1 H->P xs.length ys H->Q D H) :
 ∀D,H1 D=none->∃W:Nat->Nat->St->Hp->Prop,(∃m,W 0 m σ0 (upd H1 D (.lst [])))/\CompAsk (Itl K a) g tt te D (fun H'=>Q D H') W:=by
 intro D hD
 refine⟨fun i m σ H=>m=xs.length - i/\i<=xs.length/\S σ/\∃ys,H D=some (.lst ys)/\Same H1 H/\P i ys H,⟨xs.length,by simp,Nat.zero_le _,s0,[],upd_same,same_upd hD,st D hD⟩,?_⟩
 rintro i m σ H ⟨rfl,hi,hS,ys,hd,hs,hp⟩
 have q:SqL K H a xs:=Same.seq hs hx
 by_cases hlt:i<xs.length
 · refine .inr ⟨⟨xs,xs[i],q,by simp[hlt]⟩,fun x H2 hy=>?_⟩
   obtain⟨e1,e2⟩:=hy
   subst e1
   exact turn D i x ys σ _ (fun σ3 y H5=>∃ys,H5 D=some (.lst ys)/\ys.length<sizeLine/\∃m',m'<xs.length - i/\(m'=xs.length - (i+1)/\i+1<=xs.length/\S σ3/\∃zs,upd H5 D (.lst (ys++[y])) D=some (.lst zs)/\Same H1 (upd H5 D (.lst (ys++[y])))/\P (i+1) zs (upd H5 D (.lst (ys++[y])))))
    (fun σ3 H4=>∃m',m'<xs.length - i/\(m'=xs.length - (i+1)/\i+1<=xs.length/\S σ3/\∃zs,H4 D=some (.lst zs)/\Same H1 H4/\P (i+1) zs H4)) hD (e2 xs q) hS hd hs hp
    (fun σ3 y H5 a1 a2 a3 a4=>⟨ys,a2 _ _ hd,a3,xs.length - (i+1),by omega,rfl,hlt,a1,ys++[y],upd_same,same_upd' (hs.trans a2) hD,a4⟩)
    (fun σ3 H4 a1 a2 a3=>⟨xs.length - (i+1),by omega,rfl,hlt,a1,ys,a2 _ _ hd,hs.trans a2,a3⟩)
 · have e:i=xs.length:=by omega
   subst e
   exact .inl ⟨⟨xs,q,Nat.le_refl _⟩,done D ys H hD hd hs hp⟩
theorem comp_range0{lo:Int}{n:Nat}{σ0:St}(S:St->Prop)(P:Nat->List V->Hp->Prop)(s0:S σ0)(st:∀D,H1 D=none->P 0 [] (upd H1 D (.lst [])))
 (turn:∀D i ys σ H (k:St->V->Hp->Prop),H1 D=none->i<n->S σ->H D=some (.lst ys)->Same H1 H->P i ys H ->
  (∀σ3 y H5,S σ3->Same H H5->ys.length<sizeLine->P (i+1) (ys++[y]) (upd H5 D (.lst (ys++[y])))->k σ3 y H5)->g (.int (lo+i)) σ H fun σ3 H3=>te σ3 H3 (k σ3))
 (done:∀D ys H,H1 D=none->H D=some (.lst ys)->Same H1 H->P n ys H->Q D H) :
 ∀D,H1 D=none->∃W:Nat->Nat->St->Hp->Prop,(∃m,W 0 m σ0 (upd H1 D (.lst [])))/\CompAsk (Itr lo n) g tTrue te D (fun H'=>Q D H') W:=
 comp_rangeG S P s0 st (fun D i ys σ H k k' a1 a2 a3 a4 a5 a6 a7 _=>turn D i ys σ H k a1 a2 a3 a4 a5 a6 a7) done
theorem comp_list0{K:PySem.W.Frag}{a:Addr}{xs:List V}{σ0:St}(hx:SqL K H1 a xs)(S:St->Prop)(P:Nat->List V->Hp->Prop)(s0:S σ0)(st:∀D,H1 D=none->P 0 [] (upd H1 D (.lst [])))
 (turn:∀D i x ys σ H (k:St->V->Hp->Prop),H1 D=none->xs[i]? = some x->S σ->H D=some (.lst ys)->Same H1 H->P i ys H ->
  (∀σ3 y H5,S σ3->Same H H5->ys.length<sizeLine->P (i+1) (ys++[y]) (upd H5 D (.lst (ys++[y])))->k σ3 y H5)->g x σ H fun σ3 H3=>te σ3 H3 (k σ3))
 (done:∀D ys H,H1 D=none->H D=some (.lst ys)->Same H1 H->P xs.length ys H->Q D H) :
 ∀D,H1 D=none->∃W:Nat->Nat->St->Hp->Prop,(∃m,W 0 m σ0 (upd H1 D (.lst [])))/\CompAsk (Itl K a) g tTrue te D (fun H'=>Q D H') W:=
 comp_listG hx S P s0 st (fun D i x ys σ H k k' a1 a2 a3 a4 a5 a6 a7 _=>turn D i x ys σ H k a1 a2 a3 a4 a5 a6 a7) done
end
end L2
namespace Lcp
open PySem
end Lcp
namespace L2
open PySem PySem.Spec PyProof.Rows
theorem atI_strs{xs:List Str}{r:Int}(h0:0<=r)(h1:r<xs.length):∃z,atI (xs.map V.str) r=some (V.str z)/\xs[r.toNat]? = some z:=by
 obtain⟨v,e,e2⟩:=atI_in (xs:=xs.map V.str) h0 (by rw[List.length_map];exact h1)
 rw[List.getElem?_map]at e2
 cases q:xs[r.toNat]? with
 | none=>rw[q]at e2;cases e2
 | some z=>
  rw[q]at e2
  cases e2
  exact⟨z,e,rfl⟩
theorem strs_snoc(xs:List Str)(y:Str):xs.map V.str++[V.str y]=(xs++[y]).map V.str:=by rw[List.map_append];rfl
theorem smallL{n:Nat}(h:n<=1000):n<=sizeLine:=Nat.le_of_lt (small1000 h)
end L2
namespace L2
open PySem PySem.Spec PyProof.Rows
end L2
namespace Lcp
open PySem L2
end Lcp
namespace L2
open PySem PySem.Spec PyProof.Rows Lcp
end L2
namespace L2
open PySem PySem.Spec PyProof.Rows
section
variable {X:Cx}
end
section
variable {X:Cx} {K:PySem.W.Frag}
theorem ix_tupK(K:PySem.W.Frag)(h:X.K=K:=by rfl):IxR X (rIxT K):=h▸ix_tup
theorem op_inK(K:PySem.W.Frag)(h:X.K=K:=by rfl):OpR X (compareOp .In) (rIn K false):=h▸op_in_seq
noncomputable def rLenK(K:PySem.W.Frag):List V->Hp->VK->Prop:=fun xs H Q=>∃p ys,xs = [.ref p]/\(SqL K H p ys\/SqT K H p ys)/\Q (.int ys.length) H
theorem call_lenK(K:PySem.W.Frag)(h:X.K=K:=by rfl):CallR X (.builtin "len") (rLenK K):=by subst h;exact call_len_seq
end
end L2
namespace Lcp
open PySem L2
end Lcp
namespace L2
open PySem PySem.Spec PyProof.Rows
section
variable {X:Cx} {pins:List (Addr×Obj)} {σ:St} {H:Hp} {s:Shared}
theorem Inv.rehp{H':Hp}(I:Inv X pins σ H s)(h0:∀b,H b=none->H' b=none)(ht:∀b xs,H b=some (.tup xs)->H' b=some (.tup xs))(hf:∀b o u,X.H₀ b=some (.frz o u)->H' b=some (.frz o u))
 (hb:∀b ps,H b=some (.tbl ps)->H' b=some (.tbl ps)) (hok:HOk X.prog X.w H' s.heap):Inv X pins σ H' s:=
 ⟨I.ok,I.os,I.bare,⟨I.base.keep,I.base.slot,fun b o e n hx=>h0 b (I.base.free b o e n hx),I.base.there,fun b xs e=>ht b xs (I.base.tups b xs e),hf,fun b ps e=>(I.base.tbls b ps e).elim fun m q=>⟨m,hb _ _ q⟩⟩,I.loc,I.cell,h0 _ I.free,
  fun x c e=>h0 _ (I.freeC x c e),fun p hp=>⟨(I.pin p hp).1,h0 _ (I.pin p hp).2.1,(I.pin p hp).2.2⟩,hok,I.len⟩
theorem Inv.freeze{d:Addr}{kvs:List (Key×V)}{o:Obj}(I:Inv X pins σ H s)(e:H d=some (.dK kvs))(ho:s.heap.get? d=some o):Inv X pins σ (upd H d (.frz o (.dK kvs))) s:=by
 have ne:∀b u,H b=some u->(∀ks,u≠.dK ks)->b≠d:=fun b u q hu z=>by rw[z,e]at q;cases q;exact hu _ rfl
 refine I.rehp (fun b q=>?_) (fun b xs q=>?_) (fun b o' u q=>?_) (fun b ps q=>?_) fun b u q=>?_
 · rw[upd_ne (fun z=>by rw[z,e]at q;cases q)];exact q
 · rw[upd_ne (ne b _ q (by intro ks z;cases z))];exact q
 · have q:=I.base.frzs b o' u q
   rw[upd_ne (ne b _ q (by intro ks z;cases z))];exact q
 · rw[upd_ne (ne b _ q (by intro ks z;cases z))];exact q
 · have up:∀{c:Addr} {w:HO},H c=some w->(∀ks,w≠.dK ks)->upd H d (.frz o (.dK kvs)) c=some w:=fun {c w} hc hw=>by rw[upd_ne (ne c _ hc hw)];exact hc
   by_cases z:b=d
   · subst z
     rw[upd_same]at q
     cases q
     exact⟨ho,(I.hok b _ e).stay (fun _ _ _ q=>q) (fun c hc=>up hc (by intro ks z;cases z)) fun c xs hc=>up hc (by intro ks z;cases z)⟩
   · rw[upd_ne z]at q
     exact(I.hok b _ q).stay (fun _ _ _ q=>q) (fun c hc=>up hc (by intro ks z;cases z)) fun c xs hc=>up hc (by intro ks z;cases z)
theorem Inv.thaw{d:Addr}{kvs:List (Key×V)}{o:Obj}(I:Inv X pins σ H s)(e:H d=some (.frz o (.dK kvs)))(hz:∀o' u,X.H₀ d≠some (.frz o' u)):Inv X pins σ (upd H d (.dK kvs)) s:=by
 have ne:∀b u,H b=some u->(∀o' u',u≠.frz o' u')->b≠d:=fun b u q hu z=>by rw[z,e]at q;cases q;exact hu _ _ rfl
 have up:∀{c:Addr} {w:HO},H c=some w->(∀o' u',w≠.frz o' u')->upd H d (.dK kvs) c=some w:=fun {c w} hc hw=>by rw[upd_ne (ne c _ hc hw)];exact hc
 refine I.rehp (fun b q=>?_) (fun b xs q=>up q (by intro _ _ z;cases z)) (fun b o' u q=>?_) (fun b ps q=>up q (by intro _ _ z;cases z)) fun b u q=>?_
 · rw[upd_ne (fun z=>by rw[z,e]at q;cases q)];exact q
 · have nb:b≠d:=fun z=>hz o' u (z▸q)
   rw[upd_ne nb];exact I.base.frzs b o' u q
 · by_cases z:b=d
   · subst z
     rw[upd_same]at q
     cases q
     exact(show ObjOk X.prog X.w H s.heap b (.dK kvs) from (show ObjOk X.prog X.w H s.heap b (.frz o (.dK kvs)) from I.hok b _ e).2).stay (fun _ _ _ q=>q) (fun c hc=>up hc (by intro _ _ z;cases z)) fun c xs hc=>up hc (by intro _ _ z;cases z)
   · rw[upd_ne z]at q
     exact(I.hok b _ q).stay (fun _ _ _ q=>q) (fun c hc=>up hc (by intro _ _ z;cases z)) fun c xs hc=>up hc (by intro _ _ z;cases z)
theorem Inv.track{a:Addr}{o:HO}(I:Inv X pins σ H s)(hn:H a=none)(h0:X.s₀.heap.objs.size<=a)(h1:a≠X.env.locals)(h2:∀x c,X.env.cells.lookup x=some c->c≠a)(h3:∀p∈X.pn++pins,p.1≠a)
 (new:ObjOk X.prog X.w (upd H a o) s.heap a o):Inv X pins σ (upd H a o) s:=by
 have up:∀{c:Addr} {w:HO},H c=some w->upd H a o c=some w:=fun {c w} hc=>by rw[upd_ne (ne_of_none hc hn)];exact hc
 refine⟨I.ok,I.os,I.bare,⟨I.base.keep,I.base.slot,fun b ob e n hx=>?_,I.base.there,fun b xs e=>up (I.base.tups b xs e),fun b o' u e=>up (I.base.frzs b o' u e),fun b ps e=>(I.base.tbls b ps e).elim fun m q=>⟨m,up q⟩⟩,I.loc,I.cell,?_,fun x c e=>?_,
  fun p hp=>⟨(I.pin p hp).1,?_,(I.pin p hp).2.2⟩,fun b u q=>?_,I.len⟩
 · rw[upd_ne (Nat.ne_of_lt (Nat.lt_of_lt_of_le (Heap.lt_size e) h0))]
   exact I.base.free b ob e n hx
 · rw[upd_ne (Ne.symm h1)];exact I.free
 · rw[upd_ne (h2 x c e)];exact I.freeC x c e
 · rw[upd_ne (h3 p hp)];exact(I.pin p hp).2.1
 · by_cases z:b=a
   · subst z
     rw[upd_same]at q
     cases q
     exact new
   · rw[upd_ne z]at q
     exact(I.hok b _ q).stay (fun _ _ _ q=>q) (fun c hc=>up hc) fun c xs hc=>up hc
end
section
variable {X:Cx}
theorem call_dictN:CallR X (.type "dict") (fun xs H Q=>∃a kvs,xs = [.ref a]/\H a=some (.dK kvs)/\New H (.dK kvs) Q):=by
 intro pins s σ H xs us Q I r h
 obtain⟨a,kvs,rfl,e,q⟩:=h
 obtain⟨u,rfl,ru⟩:=vals1 r
 cases ru
 exact d_copyOf I (.inl e) fun p s' hp I'=>⟨.ref p,_,I',rfl,q.at p hp⟩
end
theorem rel_key{k:Key}{v:Value}(h:keyIs k v=true):RelV (kV k) v:=by
 rcases keyIs_shape h with⟨i,t,rfl,rfl⟩ | ⟨x,t,rfl,rfl⟩
 · exact⟨t,rfl⟩
 · exact⟨t,rfl⟩
theorem vals_strs:∀{us:List Value} {ys:List Str},StrsAre us ys->Vals (ys.map V.str) us
 | _,_,.nil=>.nil
 | _,_,.cons x t r=>.cons ⟨t,rfl⟩ (vals_strs r)
section
variable {prog:Program} {w:World} {A:Around} {E:Value->Shared->Prop} {s:Shared}
theorem sorted_collects{r:Addr}{Q:Value->Shared->Prop}(hcol:wpAny (model prog w) A.in1 (collect (.ref r)) (fun us s'=>∃(ys:List Str) (h':Heap) (tk:Nat),s' = { s with heap:=h',toks:=tk }/\StrsAre us ys/\us.length<64 /\
 ∀(h2:Heap) (out:List Value) (ys':List Str) (e:Nat),(∀b o,h'.get? b=some o->h2.get? b=some o)->h2.get? h'.objs.size=some (seqObj "list" out.toArray e)->StrsAre out ys'->ys'.Perm ys->sortedS ys'=true->Q (.ref h'.objs.size) { s with heap:=h2,toks:=tk }) E s) :
 wpAny (model prog w) A (call (.builtin "sorted") [.ref r]) Q E s:=by
 refine Calls.call_function_entry kind_sorted plain_sorted entry_sorted (args_sorted1 _) ?_
 unfold Builtin.«sorted»
 refine wpAny_bind (m:=checkCount "sorted" 1 1 _) (wpAny_pure ?_)
 refine wpAny_bind (wpAny_mono hcol (fun us s' zq335=>zq335.elim fun ys zq336=>zq336.elim fun h' zq337=>zq337.elim fun tk zq338=>zq338.elim fun es zq339=>zq339.elim fun hS zq340=>zq340.elim fun h64 fin=>?_) fun _ _ e=>e)
 subst es
 refine wpAny_bind (wpAny_newList ?_ (by rw[sizeLine_eq];omega))
 have hoL:(h'.push (seqObj "list" us.toArray 0)).get? h'.objs.size=some (seqObj "list" us.toArray 0):=Heap.get?_push_size _ rfl
 show wpAny _ _ _ _ _ { s with heap:=h'.push (seqObj "list" us.toArray 0),toks:=tk }
 refine wpAny_bind (wpAny_holding (wpAny_call_entry slot_list_sort ⟨_,hoL,rfl⟩ entry_list_sort (list_sort_treeK strKind_oneLt hoL hS.keysOf (fun v₁ v₂ rest e=>keyKind_strs (by rw[←e];exact hS)) h64 fun st' a1 a2=>⟨_,rfl,?_⟩) (args_list_sort _)))
 obtain⟨ys',h1,h2,h3⟩:=sorted_out_str hS a1 a2
 obtain⟨e,he⟩:=sortedHeap_at (vs:=us) (out:=(arrOf st').map (·.2)) hoL
 refine wpAny_pure ⟨_,rfl,fin _ ((arrOf st').map (·.2)).toList ys' e (fun b o q=>?_) (by rw[Array.toArray_toList];exact he) h1 h2 h3⟩
 have hb:=Heap.lt_size q
 rw[sortedHeap_old (Nat.ne_of_lt hb) (by rw[Heap.size_push];exact Nat.lt_succ_of_lt hb)]
 exact Heap.get?_push_of_some _ q
end
section
variable {X:Cx}
theorem inv_sorted{pins:List (Addr×Obj)}{σ:St}{H:Hp}{s:Shared}{h' h2:Heap}{tk e:Nat}{out:List Value}{ys':List Str}(I:Inv X pins σ H { s with heap:=h',toks:=tk })(k:∀b o,h'.get? b=some o->h2.get? b=some o)
 (he:h2.get? h'.objs.size=some (seqObj "list" out.toArray e)) (hS:StrsAre out ys') (hl:ys'.length<=sizeLine):Inv X pins σ (upd H h'.objs.size (.lst (ys'.map V.str))) { s with heap:=h2,toks:=tk }:=
 I.laid (s:={ s with heap:=h',toks:=tk }) (t':=tk) k (Nat.le_refl _) ⟨by rw[List.length_map];exact hl,out,e,vals_strs hS,he⟩
noncomputable def KeysS(kvs:List (Key×V))(ks:List Str):Prop:=kvs.map (·.1)=ks.map Sum.inr
theorem keysS_items{kvs:List (Key×V)}{ks:List Str}(h:KeysS kvs ks){vs:List (Key×Value)}(rel:KV kvs vs){us:List Value}(hl:us.length=vs.length)(hv:∀(j:Nat) (v:Value),us[j]? = some v->∃k x,vs[j]? = some (k,x)/\(mixKind X.prog X.w).is k v=true):StrsAre us ks:=by
 induction us generalizing kvs vs ks with
 | nil=>
  have:vs = []:=List.length_eq_zero_iff.mp hl.symm
  subst this
  cases rel
  unfold KeysS at h
  cases ks with
  | nil=>exact .nil
  | cons a b=>cases h
 | cons u us ih=>
  cases rel with
  | nil=>cases hl
  | @cons p q ps qs r rr=>
   cases ks with
   | nil=>cases h
   | cons a ks=>
    unfold KeysS at h
    rw[List.map_cons,List.map_cons]at h
    injection h with h1 h2
    obtain⟨k,x,e,hk⟩:=hv 0 u rfl
    have e:q=(k,x):=Option.some.inj e
    have hp:p.1=k:=by rw[r.1,e]
    have hk:keyIs k u=true:=hk
    rw[←hp,h1]at hk
    rcases keyIs_shape hk with⟨i,t,e1,e2⟩ | ⟨x',t,e1,e2⟩
    · cases e1
    · cases e1
      subst e2
      exact .cons _ _ (ih h2 rr (by simpa using hl) fun j v hj=>hv (j+1) v (by simpa using hj))
theorem call_sortedD(hc:X.calm=true):CallR X (.builtin "sorted") (fun xs H Q=>∃d kvs ks,xs = [.ref d]/\H d=some (.dK kvs)/\KeysS kvs ks/\kvs.length<64/\∀ys',ys'.Perm ks->sortedS ys'=true->New H (.lst (ys'.map V.str)) Q):=by
 intro pins s σ H xs us Q I r h
 obtain⟨d,kvs,ks,rfl,e,hks,h64,q⟩:=h
 obtain⟨u,rfl,ru⟩:=vals1 r
 cases ru
 obtain⟨z,hd,vs,rel,dd⟩:=dk_of I.hok e
 obtain⟨ep,hat⟩:=dd.dictAt
 have hlen:=rel.length
 refine sorted_collects (PySem.W.kdu_collect (PySem.W.kdl_dict (knd:=mixKind X.prog X.w) (kvs:=vs) (ep:=ep) hd) (I.ok.hd hc) hat (by omega) fun h' tk acc hk hacc=>?_)
 have hS:StrsAre acc.toList ks:=keysS_items (X:=X) hks rel (by rw[Array.length_toList];exact hacc.1) fun j v hj=>hacc.2 j v (by rw[←Array.getElem?_toList];exact hj)
 have hl2:acc.toList.length=vs.length:=by rw[Array.length_toList];exact hacc.1
 have I':Inv X pins σ H { s with heap:=h',toks:=tk }:=I.kept hk
 refine⟨ks,h',tk,rfl,hS,by omega,fun h2 out ys' e' k2 he hS' hp' hs'=>?_⟩
 have hl:=hp'.length_eq
 have hl3:=StrsAre.length hS
 exact⟨.ref h'.objs.size,_,inv_sorted I' k2 he hS' (smallL (by omega)),rfl,(q ys' hp' hs').at _ (I'.hok.fresh (Nat.le_refl _))⟩
end
end L2
namespace L2
open PySem PySem.Spec PyProof.Rows
section
variable {X:Cx}
end
noncomputable def epOf(o:Obj):Nat:=match o.data with
 | .dict _ ep=>ep
 | _=>0
noncomputable def Iti(d:Addr)(kvs:List (Key×V))(o:Obj):It:=
 ⟨fun i H=>H d=some (.frz o (.dK kvs))/\i<kvs.length,fun i H x H'=>∃k v p,kvs[i]? = some (k,v)/\H p=none/\x = .ref p/\H'=upd H p (.tup [kV k,v]),fun i H=>H d=some (.frz o (.dK kvs))/\kvs.length<=i⟩
theorem frz_dict{P:Program}{w:World}{H:Hp}{h:Heap}{d:Addr}{kvs:List (Key×V)}{o:Obj}(ok:HOk P w H h)(e:H d=some (.frz o (.dK kvs))):∃vs,KV kvs vs/\h.DictAt (mixKind P w) d vs (epOf o)/\(d == sysModules)=false:=by
 obtain⟨ho,_,hd,vs,rel,o',es,ep,ho',hc,hdat,r⟩:=(show ObjOk P w H h d (.frz o (.dK kvs)) from ok d _ e)
 rw[ho]at ho'
 cases ho'
 refine⟨vs,rel,⟨o,es,ho,hc,?_,r⟩,hd⟩
 unfold epOf
 rw[hdat]
theorem kv_get{kvs:List (Key×V)}{vs:List (Key×Value)}(r:KV kvs vs){i:Nat}{k:Key}{v:V}(h:kvs[i]? = some (k,v)):∃u,vs[i]? = some (k,u)/\RelV v u:=by
 unfold KV at r
 induction r generalizing i with
 | nil=>simp at h
 | @cons p q ps qs r1 rr ih=>
  cases i with
  | zero=>
   simp at h
   subst h
   obtain⟨a,b⟩:=q
   exact⟨b,by simp;exact r1.1.symm,r1.2⟩
  | succ i=>exact ih (by simpa using h)
theorem entry_itemiter:entryFor table "dict_itemiterator.__iter__" = some Builtin.«dict_keyiterator.__iter__»:=
 entryFor_alias (id':="dict_keyiterator.__iter__") (by kernel_rfl) rfl (by decide +kernel) (by kernel_rfl)
theorem wpAny_pyIter_itemiter{prog:Program}{w:World}{A:Around}{E:Value->Shared->Prop}{s:Shared}{it d:Addr}{i n ep:Nat}{ok ov:Value}{Q:Value->Shared->Prop}(hit:IsItemIter s.heap it d i n ep ok ov)(h:Q (.ref it) s):wpAny (model prog w) A (pyIter (.ref it)) Q E s:=by
 have hT:s.TypeIs (.ref it) "dict_itemiterator":=⟨_,hit,rfl⟩
 refine wpAny_pyIter_slot hT PySem.F.slot_dict_itemiterator_iter (wpAny_call_entry PySem.F.slot_dict_itemiterator_iter hT entry_itemiter ?_ (PySem.F.args_dict_itemiterator_iter_1 _))
 show wpAny _ _ (ret (.ref it)) _ _ s
 exact wpAny_pure ⟨_,rfl,"dict_itemiterator",_,hT,PySem.F.slot_dict_itemiterator_next.lookup,h⟩
theorem turn_items{P:Program}{w:World}{K:PySem.W.Frag}{elts:List Expr}{x1:Nat}{pos:Pos}(d it:Addr)(kvs:List (Key×V))(o:Obj):Turn P w K (.Tuple elts x1 pos) (Iti d kvs o) [it] it (fun i h=>∃ok ov,IsItemIter h it d i kvs.length (epOf o) ok ov) where
 mem:=by simp
 obj:=fun i h st b hb=>by
  have e:b=it:=by simpa using hb
  subst e
  obtain⟨ok,ov,st⟩:=st
  exact⟨_,st,fun v z=>by
   have z':Data.fields _=Data.cell v:=z
   cases z'⟩
 keep:=fun i h h' zq341 k=>zq341.elim fun ok zq342=>zq342.elim fun ov st=>⟨ok,ov,k it (by simp) _ st⟩
 item:=by
  intro X hP hw hK hc i pins s σ H E I hf st hg
  subst hP hw hK
  obtain⟨ok,ov,st⟩:=st
  obtain⟨hd,hlt⟩:=hg
  obtain⟨f0,f1,f2,f3,f4,f5⟩:=hf it (by simp)
  obtain⟨vs,rel,hat,hS⟩:=frz_dict I.hok hd
  have hlen:=rel.length
  obtain⟨kv,hkv⟩:∃kv,kvs[i]? = some kv:=⟨_,List.getElem?_eq_getElem hlt⟩
  obtain⟨k,v⟩:=kv
  obtain⟨u,hu,ru⟩:=kv_get rel hkv
  rw[hlen]at st
  refine wpAny_pyNext_items_item st hat hu fun key h1 hkey hout htup hsz hk1=>⟨.ref s.heap.objs.size,rfl,?_⟩
  refine wpAny_letOwnedTupleGo_items hout fun h2 st2 sb=>?_
  have hil:it<s.heap.objs.size:=Heap.lt_size st
  have sb:Heap.SameBut it h1 h2:=sb
  have I1:Inv X pins σ H { s with heap:=h2 }:=I.turned (t':=s.toks) (fun b ob hb e=>(sb.2 b hb).trans (hk1 b ob hb e)) f0 f1 f3 f4 f5
  have hn:H s.heap.objs.size=none:=I.hok.fresh (Nat.le_refl _)
  have fp:=I.fpOk (H':=H) (Nat.le_refl _) hn
  have hobj:h2.get? s.heap.objs.size=some { cls:=.type "tuple",data:=.seq #[key,u] }:=(sb.2 _ (Nat.ne_of_gt hil)).trans htup
  have I2:Inv X pins σ (upd H s.heap.objs.size (.tup [kV k,v])) { s with heap:=h2 }:=by
   refine I1.track hn I.sz fp.2.1 fp.2.2.2.2.1 fp.2.2.2.2.2 ?_
   exact⟨by show 2<=sizeLine;decide,[key,u],.cons (rel_key hkey) (.cons ru .nil),_,hobj,rfl,0,rfl⟩
  refine⟨.ref s.heap.objs.size,_,I2,rfl,⟨k,v,_,hkv,hn,rfl,rfl⟩,⟨key,u,by rw[hlen];exact st2⟩,fun b hb=>?_⟩
  have e:b=it:=by simpa using hb
  subst e
  rw[upd_ne (Nat.ne_of_lt hil)]
  exact f0
 done:=by
  intro X hP hw hK hc i pins s σ H E I hf st hg
  subst hP hw hK
  obtain⟨ok,ov,st⟩:=st
  obtain⟨hd,hle⟩:=hg
  obtain⟨f0,f1,f2,f3,f4,f5⟩:=hf it (by simp)
  obtain⟨vs,rel,hat,hS⟩:=frz_dict I.hok hd
  have hlen:=rel.length
  rw[hlen]at st
  exact wpAny_pyNext_items_end (I.ok.hd hc) st hat (by rw[List.getElem?_eq_none_iff];omega) fun h' eb=>⟨rfl,I.turned (t':=s.toks) (fun b o hb e=>eb b o hb e) f0 f1 f3 f4 f5⟩
 self:=fun _ _ _ _ _ zq343 h=>zq343.elim fun ok zq344=>zq344.elim fun ov st=>wpAny_pyIter_itemiter st h
section
variable {X:Cx}
theorem PE.weak{e:Expr}{t:TE}(h:PE X e t):PE X e (fun σ H Q=>∃Q':VK,t σ H Q'/\∀v H,Q' v H->Q v H):=by
 intro pins s σ H Q I ⟨Q',q,w⟩
 exact L2.thn (h pins s σ H _ I q) fun u s1 zq345=>zq345.elim fun v zq346=>zq346.elim fun H1 zq347=>zq347.elim fun I1 zq348=>zq348.elim fun r1 q1=>⟨v,H1,I1,r1,w _ _ q1⟩
theorem PG.weak{e:Expr}{g:TG}(h:PG X e g):PG X e (fun x σ H Q=>∃Q':St->Hp->Prop,g x σ H Q'/\∀σ H,Q' σ H->Q σ H):=by
 intro pins s σ H v u Q I r ⟨Q',q,w⟩
 exact L2.thn (h pins s σ H v u _ I r q) fun _ s1 zq349=>zq349.elim fun σ1 zq350=>zq350.elim fun H1 zq351=>zq351.elim fun I1 q1=>⟨σ1,H1,I1,w _ _ q1⟩
theorem PSs.weak{b:List Stmt}{t:TS}(h:PSs X b t):PSs X b (fun D σ H=>∃D':Ends,t D' σ H/\(∀σ H,D'.nx σ H->D.nx σ H)/\(∀v H,D'.rt v H->D.rt v H)/\(∀σ H,D'.bk σ H->D.bk σ H)/\∀σ H,D'.ct σ H->D.ct σ H):=by
 intro pins s σ H D I ⟨D',q,w1,w2,w3,w4⟩
 refine L2.thn (h pins s σ H D' I q) fun f s1 q1=>?_
 cases f with
 | next=>obtain⟨σ1,H1,I1,q1⟩:=q1;exact⟨σ1,H1,I1,w1 _ _ q1⟩
 | ret v=>obtain⟨x,σ1,H1,I1,r,q1⟩:=q1;exact⟨x,σ1,H1,I1,r,w2 _ _ q1⟩
 | brk=>obtain⟨σ1,H1,I1,q1⟩:=q1;exact⟨σ1,H1,I1,w3 _ _ q1⟩
 | cont=>obtain⟨σ1,H1,I1,q1⟩:=q1;exact⟨σ1,H1,I1,w4 _ _ q1⟩
end
theorem pi_items{o:Expr}{elts:List Expr}{x1:Nat}{tpos apos cpos:Pos}{X:Cx}{td:TE}(ho:PE X o td)(hbase:attributeBase o "items" X.env (eval o X.env)=eval o X.env:=by rfl)(hline:(apos.endLine == cpos.line)=true:=by rfl) :
 PI X (.Tuple elts x1 tpos) (.Call (.Attribute o "items" apos) [] [] cpos) (fun σ H R=>td σ H fun x H1=>∃d kvs,x = .ref d/\H1 d=some (.dK kvs)/\∀ob,(∀o' u,X.H₀ d≠some (.frz o' u))->R (Iti d kvs ob) (upd H1 d (.frz ob (.dK kvs)))):=by
 intro pins s σ H R I h
 refine wpAny_Call_method0_late hbase hline (thn (ho pins s σ H _ I h) fun v s1 zq352=>zq352.elim fun x zq353=>zq353.elim fun H1 zq354=>zq354.elim fun I1 zq355=>zq355.elim fun r1 zq356=>zq356.elim fun d zq357=>zq357.elim fun kvs zq358=>zq358.elim fun e zq359=>zq359.elim fun ed q=>?_)
 subst e
 cases r1
 obtain⟨z,hd,vs,rel,dd⟩:=dk_of I1.hok ed
 obtain⟨h1,h2⟩:=tyV_is I1 (x:=.ref d) rfl (T:="dict") (.inr (.inr (.inl ⟨rfl,.inl ⟨kvs,ed⟩⟩)))
 refine⟨"dict","dict.items",PySem.F.plainAttrs_dict,PySem.F.slot_dict_items,PySem.F.type_dict_items,h1,h2,Calls.callWith_builtin rfl (PySem.evalArgs_none ?_)⟩
 refine call_meetsIn PySem.F.slot_dict_items dd.typeIs PySem.F.entry_dict_items (PySem.F.args_dict_items_1 _) (meets_dict_items (mixKind X.prog X.w) d hd) ⟨⟨vs,dd⟩,?_⟩
 have dd2:=dd.push { cls:=.type "dict_items",data:=.fields #[.ref d] }
 obtain⟨ob,es,ep,hob,hc,hdat,rest⟩:=id dd2
 have hat:(s1.heap.push { cls:=.type "dict_items",data:=.fields #[.ref d] }).DictAt (mixKind X.prog X.w) d vs ep:=⟨ob,es,hob,hc,hdat,rest⟩
 have I2:Inv X pins σ H1 { s1 with heap:=s1.heap.push { cls:=.type "dict_items",data:=.fields #[.ref d] } }:=I1.kept (t':=s1.toks) fun b o e=>Heap.get?_push_of_some _ e
 refine wpAny_pyIter_items (s:={ s1 with heap:=s1.heap.push { cls:=.type "dict_items",data:=.fields #[.ref d] } }) ⟨_,Heap.get?_push_size _ rfl,rfl,rfl⟩ hat ?_
 have hep:epOf ob=ep:=by unfold epOf;rw[hdat]
 have hlen:=rel.length
 have I3:Inv X pins σ H1 { s1 with heap:=(s1.heap.push { cls:=.type "dict_items",data:=.fields #[.ref d] }).push { cls:=.type "dict_itemiterator",data:=.fields #[.none,.bool false,.ref d,.int 0 0,.int vs.length 0,.int ep 0,.none,.none] } }:=
  I2.kept (t':=s1.toks) fun b o e=>Heap.get?_push_of_some _ e
 have hn:=I2.hok.fresh (Nat.le_refl (s1.heap.push { cls:=.type "dict_items",data:=.fields #[.ref d] }).objs.size)
 have hz:∀o' u,X.H₀ d≠some (.frz o' u):=fun o' u hq=>by
  have:=I1.base.frzs d o' u hq
  rw[ed]at this
  cases this
 refine⟨_,[_],_,_,_,rfl,I3.freeze ed (Heap.get?_push_of_some _ hob),turn_items d _ kvs ob,⟨.none,.none,?_⟩,fun b hb=>?_,q ob hz⟩
 · show Heap.get? _ _=_
   rw[hep,hlen]
   exact Heap.get?_push_size _ rfl
 · have e:b=(s1.heap.push { cls:=.type "dict_items",data:=.fields #[.ref d] }).objs.size:=by simpa using hb
   subst e
   refine I2.fpOk (Nat.le_refl _) ?_
   rw[upd_ne (Ne.symm (ne_of_none ed hn))]
   exact hn
noncomputable def tForI(td:TE)(g:TG)(tb:TS):TS:=fun D σ H=>td σ H fun x H1=>∃d kvs,x = .ref d/\H1 d=some (.dK kvs)/\∀ob,∃W:Nat->Nat->St->Hp->Prop,(∃m,W 0 m σ (upd H1 d (.frz ob (.dK kvs))))/\∀i m σ H,W i m σ H ->
 H d=some (.frz ob (.dK kvs))/\((kvs.length<=i/\D.nx σ (upd H d (.dK kvs)))\/(i<kvs.length/\∃N:St->Hp->Prop,(∀σ' H',N σ' H'->∃m',m'<m/\W (i+1) m' σ' H') /\
  ∀k v p,kvs[i]? = some (k,v)->H p=none->g (.ref p) σ (upd H p (.tup [kV k,v])) fun σ2 H2=>
   tb { nx:=N,ct:=N,bk:=fun σ' H'=>H' d=some (.frz ob (.dK kvs))/\D.nx σ' (upd H' d (.dK kvs)),rt:=fun v' H'=>H' d=some (.frz ob (.dK kvs))/\D.rt v' (upd H' d (.dK kvs)) } σ2 H2))
theorem ps_forItems{o:Expr}{elts:List Expr}{x1:Nat}{tpos apos cpos pos:Pos}{X:Cx}{td:TE}{g:TG}{tb:TS}{body:List Stmt}(hp:PassesOwn (model X.prog X.w) X.A X.env X.xe)(hc:X.calm=true)(ho:PE X o td)(hg:PG X (.Tuple elts x1 tpos) g)(hb:PSs X body tb)
 (hbase:attributeBase o "items" X.env (eval o X.env)=eval o X.env:=by rfl) (hline:(apos.endLine == cpos.line)=true:=by rfl) (hs:∀x,foldedSetIterable (.Call (.Attribute o "items" apos) [] [] cpos) X.env x=pure x:=by intro _;rfl) :
 PS X (.For (.Tuple elts x1 tpos) (.Call (.Attribute o "items" apos) [] [] cpos) body [] pos) (tForI td g tb):=by
 intro pins s σ H D I h
 refine thn (ps_for (X:=X) hp hc (pi_items ho.weak hbase hline) hg.weak hb.weak hs pins s σ H
  { nx:=fun σ' H'=>∃d kvs ob,H' d=some (.frz ob (.dK kvs))/\(∀o' u,X.H₀ d≠some (.frz o' u))/\D.nx σ' (upd H' d (.dK kvs)),rt:=fun v' H'=>∃d kvs ob,H' d=some (.frz ob (.dK kvs))/\(∀o' u,X.H₀ d≠some (.frz o' u))/\D.rt v' (upd H' d (.dK kvs)) } I ?_) fun f s' q=>?_
 · refine⟨_,h,fun x H1 zq360=>zq360.elim fun d zq361=>zq361.elim fun kvs zq362=>zq362.elim fun e zq363=>zq363.elim fun ed q=>⟨d,kvs,e,ed,fun ob hz=>?_⟩⟩
   obtain⟨W,w0,turn⟩:=q ob
   refine⟨W,w0,fun i m σ H hw=>?_⟩
   obtain⟨hd,c | ⟨hlt,N,hN,step⟩⟩:=turn i m σ H hw
   · exact .inl ⟨⟨hd,c.1⟩,d,kvs,ob,hd,hz,c.2⟩
   · refine .inr ⟨⟨hd,hlt⟩,N,hN,fun x H' zq364=>zq364.elim fun k zq365=>zq365.elim fun v zq366=>zq366.elim fun p zq367=>zq367.elim fun hk zq368=>zq368.elim fun hp zq369=>zq369.elim fun e eH=>?_⟩
     subst e eH
     exact⟨_,step k v p hk hp,fun σ2 H2 q2=>⟨_,q2,fun _ _ z=>z,fun v' H' zq370=>zq370.elim fun a b=>⟨d,kvs,ob,a,hz,b⟩,fun σ' H' zq371=>zq371.elim fun a b=>⟨d,kvs,ob,a,hz,b⟩,fun _ _ z=>z⟩⟩
 · cases f with
   | next=>
    obtain⟨σ',H',I',d,kvs,ob,hd,hz,q⟩:=q
    exact⟨σ',_,I'.thaw hd hz,q⟩
   | ret v=>
    obtain⟨x,σ',H',I',r,d,kvs,ob,hd,hz,q⟩:=q
    exact⟨x,σ',_,I'.thaw hd hz,r,q⟩
   | brk=>obtain⟨_,_,_,q⟩:=q;exact q.elim
   | cont=>obtain⟨_,_,_,q⟩:=q;exact q.elim
end L2
namespace L2
open PySem PySem.Spec PyProof.Rows
theorem slot_si_next:Slot "set_iterator" "__next__" "set_iterator.__next__":=
 .of (owner:="set_iterator") (n:="__next__") (by rw[typeLookup_type,builtinLookup_eq_fast];kernel_rfl) (by decide +kernel) (by decide +kernel) (by decide +kernel)
  (by first | exact .inl (by decide +kernel) | exact .inr (by decide +kernel)) (by rw[isSubtype_type];kernel_rfl)
theorem slot_si_iter:Slot "set_iterator" "__iter__" "set_iterator.__iter__":=
 .of (owner:="set_iterator") (n:="__iter__") (by rw[typeLookup_type,builtinLookup_eq_fast];kernel_rfl) (by decide +kernel) (by decide +kernel) (by decide +kernel)
  (by first | exact .inl (by decide +kernel) | exact .inr (by decide +kernel)) (by rw[isSubtype_type];kernel_rfl)
theorem entry_si_next:entryFor table "set_iterator.__next__" = some Builtin.«set_iterator.__next__»:=entryFor_of_tree (by kernel_rfl)
theorem entry_si_iter:entryFor table "set_iterator.__iter__" = some Builtin.«dict_keyiterator.__iter__»:=entryFor_alias (id':="dict_keyiterator.__iter__") (by kernel_rfl) rfl (by decide +kernel) (by kernel_rfl)
theorem entry_set_iter':entryFor table "set.__iter__" = some Builtin.«frozenset.__iter__»:=entryFor_alias (id':="frozenset.__iter__") (by kernel_rfl) rfl (by decide +kernel) (by kernel_rfl)
theorem owner_si:Manifest.owners.lookup (String.ofList ['r','o','t','a','r','e','t','i','_','t','e','s'].reverse)=some Manifest.sig_set_iterator:=by kernel_rfl
theorem args_si_next(a:Value):argsOk "set_iterator.__next__" ⟨[a],[]⟩:=by
 unfold argsOk;rw[signature?_of (id:="set_iterator.__next__") (n:=['_','_','t','x','e','n','_','_']) (o:=['r','o','t','a','r','e','t','i','_','t','e','s']) (by kernel_rfl) owner_si];kernel_rfl
theorem args_si_iter(a:Value):argsOk "set_iterator.__iter__" ⟨[a],[]⟩:=by
 unfold argsOk;rw[signature?_of (id:="set_iterator.__iter__") (n:=['_','_','r','e','t','i','_','_']) (o:=['r','o','t','a','r','e','t','i','_','t','e','s']) (by kernel_rfl) owner_si];kernel_rfl
section
variable {prog:Program} {w:World} {A:Around} {E:Value->Shared->Prop} {s:Shared} {a it:Addr} {ep:Nat} {t:SetTable}
theorem set_len_lookup:typeLookup (.type "set") "__len__" = pure (some (.builtin "set.__len__")):=by rw[typeLookup_type,builtinLookup_eq_fast];kernel_rfl
theorem hint_set{Q:Bool->Shared->Prop}(hT:s.TypeIs (.ref a) "set")(h:Q false s):wpAny (model prog w) A (Builtin.List.listLengthHint (.ref a)) Q E s:=by
 unfold Builtin.List.listLengthHint
 refine wpAny_bind (wpAny_specialOf hT set_len_lookup ?_)
 generalize hid:("set.__len__":String)=id0
 wp_delta
 rw[show splitId id0=some ("set","__len__") from by subst hid;decide +kernel]
 subst hid
 refine wpAny_bind (wpAny_isInstance (T:="set") (b:=true) hT (by rw[isSubtype_type];kernel_rfl) ?_)
 refine wpAny_ite_split (fun hab=>absurd hab (by decide)) (fun _=>?_)
 refine wpAny_ite_split (fun _=>?_) (fun hab=>absurd (by decide +kernel) hab)
 refine wpAny_bind (wpAny_typeOf hT ?_)
 exact wpAny_pure h
end
section
variable {X:Cx}
theorem pe_dnewN{pos:Pos}:PE X (.Dict [] [] pos) (fun _ H Q=>New H (.dK []) Q):=fun pins s σ H Q I h=>pe_dnewK pins s σ H Q I h.at
theorem pe_dnewTN{pos:Pos}:PE X (.Dict [] [] pos) (fun _ H Q=>New H (.dT []) Q):=fun pins s σ H Q I h=>pe_dnewT pins s σ H Q I h.at
theorem pe_fldK(K:PySem.W.Frag){e:Expr}{f:Str}{pos:Pos}{ta:TE}(he:PE X e ta)(hb:attributeBase e f X.env (eval e X.env)=eval e X.env)(h:X.K=K:=by rfl):PE X (.Attribute e f pos) (tFld K ta f):=h▸pe_fld he hb
end
end L2
namespace L2
open PySem PySem.Spec PyProof.Rows
section
variable {X:Cx}
theorem str_empty_app(x:Str):Str.empty++x=x:=by
 obtain⟨c⟩:=x
 show(⟨#[]++c⟩:Str)=⟨c⟩
 rw[Array.empty_append]
variable {e e1 e2:Expr} {te t1 t2:TE} {pos:Pos}
noncomputable def tJoin2(t1 t2:TE):TE:=fun σ H Q=>t1 σ H fun a H1=>∃x,a = .str x/\x.length<=sizeLine/\t2 σ H1 fun b H2=>∃y,b = .str y/\x.length+y.length<=sizeLine/\Q (.str (x++y)) H2
theorem pe_join2(h1:PE X e1 t1)(h2:PE X e2 t2):PE X (.JoinedStr [e1,e2] pos) (tJoin2 t1 t2):=by
 intro pins s σ H Q I h
 refine JoinedStr_many (joinParts_cons (thn (h1 pins s σ H _ I h) fun v s1 zq372=>zq372.elim fun a zq373=>zq373.elim fun H1 zq374=>zq374.elim fun I1 zq375=>zq375.elim fun r1 zq376=>zq376.elim fun x zq377=>zq377.elim fun ex zq378=>zq378.elim fun hx q1=>?_))
 subst ex
 obtain⟨t,rfl⟩:=r1
 show(Str.empty++x).length<=sizeLine/\wpAny _ _ (joinParts (Str.empty++x) (eval e2 X.env::evalEach [] X.env)) _ _ s1
 rw[str_empty_app]
 refine⟨hx,joinParts_cons (thn (h2 pins s1 σ H1 _ I1 q1) fun v s2 zq379=>zq379.elim fun b zq380=>zq380.elim fun H2 zq381=>zq381.elim fun I2 zq382=>zq382.elim fun r2 zq383=>zq383.elim fun y zq384=>zq384.elim fun ey zq385=>zq385.elim fun hl q2=>?_)⟩
 subst ey
 obtain⟨t',rfl⟩:=r2
 have hz:(x++y).length<=sizeLine:=by rw[len_app];exact hl
 exact⟨hz,joinParts_nil ⟨.str (x++y),H2,I2.tok _,⟨_,rfl⟩,q2⟩ hz⟩
end
end L2
namespace L2
open PySem
theorem pss_cutE{X:Cx}{st:Stmt}{sts:List Stmt}{t u:TS}(h1:PS X st t)(h2:PSs X sts u):PSs X (st::sts) (fun D σ H=>∃P:St->Hp->Prop,t { D with nx:=P } σ H/\∀σ' H',P σ' H'->u D σ' H'):=by
 intro pins s σ H D I ⟨P,a,b⟩
 exact pss_cut P h1 h2 pins s σ H D I ⟨a,b⟩
end L2
namespace L2
open PySem PySem.Spec PyProof.Rows PySem.W PySem.Builtin PySem.Builtin.ObjectAttr PySem.Builtin.Getset_descriptor
noncomputable abbrev excO (a:Addr) (c:Value):HO:=.ext fun h=>∃o,h.get? a=some o/\o.cls=c
theorem excO_ok{P:Program}{w:World}{H:Hp}{h:Heap}{a:Addr}{c:Value}(e:∃o,h.get? a=some o/\o.cls=c):ObjOk P w H h a (excO a c):=by
 obtain⟨o,e1,e2⟩:=e
 exact⟨⟨o,e1,e2⟩,⟨o,e1⟩,fun h1 h2 z k=>by
  obtain⟨o',x,y⟩:=z
  exact⟨o',k _ x,y⟩⟩
noncomputable abbrev bmV:List Value:=[.type "ValueError",.type "Exception",.type "BaseException",.type "object"]
structure XCls(K:PySem.W.Frag)(C:Addr):Prop where
 exc:PySem.W.excIn K C bmV "ValueError.__new__" = true
 ga:PySem.W.findIn K (.ref C) "__getattribute__" = some (some (.builtin "BaseException.__getattribute__"))
 gh:PySem.W.findIn K (.ref C) "__getattr__" = some none
 cls:PySem.W.findIn K (.ref C) "__class__" = some (some (.builtin "object.__class__"))
 spc:PySem.W.specialIn K (.builtin "object.__class__") "__get__" = some (some (.builtin "getset_descriptor.__get__"))
 tak:PySem.W.takesIn K (.builtin "object.__class__")=some true
 mro:PySem.W.mroIn K C (.type "object")=some true
 mrb:PySem.W.mroIn K C (.type "BaseException")=some true
structure XC0(K:PySem.W.Frag)(C:Addr):Prop where
 ga:PySem.W.findIn K (.ref C) "__getattribute__" = some (some (.builtin "BaseException.__getattribute__"))
 gh:PySem.W.findIn K (.ref C) "__getattr__" = some none
 cls:PySem.W.findIn K (.ref C) "__class__" = some (some (.builtin "object.__class__"))
 spc:PySem.W.specialIn K (.builtin "object.__class__") "__get__" = some (some (.builtin "getset_descriptor.__get__"))
 tak:PySem.W.takesIn K (.builtin "object.__class__")=some true
 mro:PySem.W.mroIn K C (.type "object")=some true
 mrb:PySem.W.mroIn K C (.type "BaseException")=some true
theorem XCls.c0{K:PySem.W.Frag}{C:Addr}(x:XCls K C):XC0 K C:=⟨x.ga,x.gh,x.cls,x.spc,x.tak,x.mro,x.mrb⟩
section
variable {K:PySem.W.Frag} {D a:Addr} {M:Model} {h:Heap}
theorem XC0.there(x:XC0 K D):∃cd,PySem.W.clsIn K D=some cd:=by
 have e:=x.mro
 unfold PySem.W.mroIn at e
 obtain⟨cd,q,_⟩:=Option.bind_eq_some_iff.mp e
 exact⟨cd,q⟩
theorem XC0.obj(x:XC0 K D):∃c d cd sl,K.lookup D=some ⟨c,d,.cls cd,sl⟩:=by
 obtain⟨cd,e⟩:=x.there
 unfold PySem.W.clsIn at e
 split at e
 · exact⟨_,_,_,_,‹_›⟩
 · cases e
theorem looks_ex(e:∃o,h.get? a=some o/\o.cls = .ref D):Looks M h (typeOf (.ref a)) (.ref D):=by
 obtain⟨o,e1,e2⟩:=e
 exact e2▸(Looks.ld e1).andThen .now
end
section
variable {prog:Program} {w:World} {A:Around} {E:Value->Shared->Prop} {s:Shared} {K:PySem.W.Frag} {D a:Addr}
theorem exc_class_get{R:Result->Shared->Prop}{tp:Value}(x:XC0 K D)(X:K.In s.heap)(p:∃o,s.heap.get? a=some o/\o.cls = .ref D)(q:R (.ok (.ret (.ref D))) s) :
 codeAny (model prog w) A (.call (.builtin "getset_descriptor.__get__") ⟨[.builtin "object.__class__",.ref a,tp],[]⟩) R s:=by
 obtain⟨hh,gg,dr,tk,os⟩:=s
 have LT:=looks_ex (M:=model prog w) p
 have LM:=looks_mroIn (M:=model prog w) X x.mro
 refine codeAny_call_builtin KF.slot_gs.plain KF.entry_gs
  (KF.slot_gs.check _ _ _ _ _ _ _ _ KF.type_class (KF.args_gs _ _ _) ?_)
 unfold Builtin.«getset_descriptor.__get__»
 unfold descrGet
 rw[dga_obj]
 refine wpAny_bind (wpAny_pure ?_)
 unfold descrGetter descrCheckInstance
 unfold descrNameAndClass isInstance
 simp only[KF.owner_class]
 repeat lk
 refine⟨Code.quiet_builtin _ (by decide +kernel),
  codeAny_builtin KF.entry_class ?_⟩
 unfold Builtin.«object.__class__»
 unfold shownTypeOf
 repeat lk
 exact q
theorem exc_class_entry(x:XC0 K D){tk:Tok}{Q:PySem.Fin->Shared->Prop}(X:K.In s.heap)(p:∃o,s.heap.get? a=some o/\o.cls = .ref D)(q:Q (.done (.ret (.ref D))) s) :
 wpAny (model prog w) A (Builtin.«object.__getattribute__» ⟨[.ref a,.str "__class__" tk],[]⟩) Q E s:=by
 obtain⟨hh,gg,dr,tt,os⟩:=s
 have LT:=looks_ex (M:=model prog w) p
 have LF:Looks (model prog w) hh (find (.ref a) (.ref D) "__class__") (.bind (.builtin "getset_descriptor.__get__") (.builtin "object.__class__")):=
  (looks_findIn X x.cls).andThen ((looks_specialIn X x.spc).andThen ((show Looks (model prog w) hh (dataDescriptor? (some (.builtin "object.__class__")) (some (.builtin "getset_descriptor.__get__"))) (some (.builtin "getset_descriptor.__get__",.builtin "object.__class__")) from (looks_takesIn X x.tak).andThen .now).andThen (Looks.tag .now)))
 unfold Builtin.«object.__getattribute__»
 repeat (any_goals (first | assumption | with_reducible refine LT.at ?_ | with_reducible refine LF.at ?_ | wp_step))
 refine exc_class_get x X p ?_
 repeat (any_goals (first | assumption | wp_step))
theorem exc_check(x:XC0 K D){nameV:Value}{Q:Unit->Shared->Prop}(X:K.In s.heap)(p:∃o,s.heap.get? a=some o/\o.cls = .ref D)(q:Q () s) :
 wpAny (model prog w) A (checkBuiltinCall "BaseException.__getattribute__" ⟨[.ref a,nameV],[]⟩) Q E s:=by
 obtain⟨hh,gg,dr,tt,os⟩:=s
 have hk:builtinKind "BaseException.__getattribute__" = some .slot:=by decide +kernel
 have hsp:splitId "BaseException.__getattribute__" = some ("BaseException","__getattribute__"):=by decide +kernel
 have LM:=looks_mroIn (M:=model prog w) X x.mrb
 obtain⟨o,hx,hc⟩:=id p
 have ha:=F.args_bexc_ga (.ref a) nameV
 simp only[checkBuiltinCall,hk,hsp]
 refine wpAny_bind ?_
 unfold isInstance
 repeat (first | (with_reducible refine wpAny_loadPart_at hx ?_;rw[hc]) | with_reducible refine LM.at ?_ | wp_step)
 exact q
theorem exc_class_call(x:XC0 K D){tk:Tok}{R:Result->Shared->Prop}(X:K.In s.heap)(p:∃o,s.heap.get? a=some o/\o.cls = .ref D)(q:R (.ok (.ret (.ref D))) s) :
 codeAny (model prog w) A (.call (.builtin "BaseException.__getattribute__") ⟨[.ref a,.str "__class__" tk],[]⟩) R s:=
 codeAny_call_builtin F.excAttr_ValueError.ga.plain F.entry_bexc_ga (exc_check x X p (exc_class_entry x X p q))
theorem exc_class_by(x:XC0 K D){tk:Tok}{Q:Value->Shared->Prop}(X:K.In s.heap)(p:∃o,s.heap.get? a=some o/\o.cls = .ref D)(q:Q (.ref D) s) :
 wpAny (model prog w) A (getAttrBy (.ref a) (.str "__class__" tk) false) Q E s:=by
 obtain⟨hh,gg,dr,tt,os⟩:=s
 have LT:=looks_ex (M:=model prog w) p
 have LG:=looks_findIn (M:=model prog w) X x.ga
 have LH:=looks_findIn (M:=model prog w) X x.gh
 have f3:=F.excAttr_ValueError.ga.bind (.ref a)
 have hx0:(false && onTheHeap (Value.builtin "BaseException.__getattribute__"))=false:=rfl
 have hx2:(Value.builtin "BaseException.__getattribute__" == Value.builtin "object.__getattribute__")=false:=by decide +kernel
 have hx1:(onTheHeap (Value.ref D) && Value.builtin "BaseException.__getattribute__" == Value.builtin "object.__getattribute__")=false:=by rw[hx2];rfl
 repeat (any_goals (first | assumption | with_reducible refine LT.at ?_ | with_reducible refine LG.at ?_ | with_reducible refine LH.at ?_ | wp_step))
 refine exc_class_call x X p ?_
 repeat (any_goals (first | assumption | wp_step))
theorem exc_class(x:XC0 K D){Q:Option Value->Shared->Prop}(X:K.In s.heap)(p:∃o,s.heap.get? a=some o/\o.cls = .ref D)(q:Q (some (.ref D)) { s with toks:=s.toks+1 }) :
 wpAny (model prog w) A (getAttr? (.ref a) "__class__") Q E s:=by
 obtain⟨hh,gg,dr,tt,os⟩:=s
 unfold getAttr?
 refine wpAny_bind (wpAny_mkText ?_)
 unfold getAttrBy?
 refine wpAny_bind (wpAny_attempt (exc_class_by x X p ?_))
 exact wpAny_pure q
theorem kitx_exc(x:XC0 K D):PySem.W.KitX K (.ref a) (.ref D) (fun h=>∃o,h.get? a=some o/\o.cls = .ref D) where
 ty:=fun _ _ _ p=>looks_ex p
 it:=fun M h X _=>by
  obtain⟨c,d,cd,sl,e⟩:=x.obj
  intro A' Q' E' s' k q
  unfold isType loadHead
  exact wpAny_bind (wpAny_loadPart (k _ _ (X _ _ e)) (wpAny_pure q))
 ne:=fun h tp dd its n sl X e=>by
  obtain⟨c,d,cd,sl',e'⟩:=x.obj
  refine Bool.eq_false_iff.mpr fun q=>?_
  obtain rfl:D=tp:=Value.ref.inj (beq_iff_eq.mp q)
  cases (X _ _ e').symm.trans e
 ca:=fun X p q=>exc_class x X p q
end
end L2
namespace L2
open PySem PySem.Spec PyProof.Rows PySem.W
theorem ObjOk.obj{P:Program}{w:World}{H:Hp}{h:Heap}{a:Addr}{o:HO}(x:ObjOk P w H h a o):∃u,h.get? a=some u:=by
 cases o with
 | lst xs=>obtain⟨_,_,_,_,e⟩:=x;exact⟨_,e⟩
 | tup xs=>obtain⟨_,_,_,ob,e,_⟩:=x;exact⟨_,e⟩
 | dK kvs=>obtain⟨_,_,_,_,o,_,_,e,_⟩:=x;exact⟨_,e⟩
 | dT kvs=>obtain⟨_,_,_,_,o,_,_,e,_⟩:=x;exact⟨_,e⟩
 | set S n=>obtain⟨o,_,_,_,e,_⟩:=x;exact⟨_,e⟩
 | ins C dx fs=>obtain⟨_,_,_,e,_⟩:=x;exact⟨_,e⟩
 | own y=>obtain⟨_,e⟩:=x;exact⟨_,e⟩
 | xd fs=>obtain⟨_,⟨_,_,_,e,_⟩,_⟩:=x;exact⟨_,e⟩
 | rng lo hi=>obtain⟨_,_,_,e⟩:=x;exact⟨_,e⟩
 | frz ob u=>obtain⟨e,_⟩:=x;exact⟨_,e⟩
 | tbl ps=>exact⟨_,(show h.get? a=some _ from x)⟩
 | met f y=>exact⟨_,(show h.get? a=some _ from x)⟩
 | ext φ=>obtain⟨_,⟨_,e⟩,_⟩:=x;exact⟨_,e⟩
structure Flew(l:List Env)(B:Heap)(H:Hp)(h0 h h':Heap):Prop where
 big:∀b o,h.get? b=some o->((H b).isSome=true\/∃o',h0.get? b=some o')->b∉frs l->B.get? b=some o
 stay:B.StaysIn h'
 slots:∀b o,h.get? b=some o->b∈frs l->∃sl,h'.get? b=some { o with slots:=sl }
section
variable {l:List Env} {B:Heap} {H H0:Hp} {h0 h h' h'':Heap} {P:Program} {w:World}
theorem Flew.at(f:Flew l B H h0 h h'){b:Addr}{o:Obj}(e:h.get? b=some o)(t:(H b).isSome=true\/∃o',h0.get? b=some o')(n:b∉frs l):h'.get? b=some o:=f.stay _ _ (f.big b o e t n)
theorem Flew.hok(f:Flew l B H h0 h h')(ok:HOk P w H h)(fr:∀b∈frs l,H b=none):HOk P w H h':=fun b o e=>by
 have nf:∀c u,H c=some u->c∉frs l:=fun c u q z=>by rw[fr c z]at q;cases q
 refine(ok b o e).stay (fun c u hc q=>?_) (fun _ q=>q) fun _ _ q=>q
 rcases hc with rfl | hc
 · exact f.at q (.inl (by rw[e];rfl)) (nf _ _ e)
 · exact f.at q (.inl (by rw[hc];rfl)) (nf _ _ hc)
theorem Flew.un{fs:List Addr}(f:Flew l B H h0 h h')(u:Un fs [] H0 H h0 h)(hs:∀b∈frs l,b∈fs\/h0.get? b=none)(hf:∀b∈fs,b∈frs l):Un fs [] H0 H h0 h' where
 keep:=fun b o q n hb hx=>f.at (u.keep b o q n hb hx) (.inr ⟨o,q⟩) fun z=>by
  rcases hs b z with y | y
  · exact hb y
  · rw[y]at q;cases q
 slot:=fun b o q n hb hx=>by
  obtain⟨sl,e⟩:=u.slot b o q n hb hx
  obtain⟨sl',e'⟩:=f.slots b _ e (hf b hb)
  exact⟨sl',e'⟩
 free:=u.free
 there:=fun b o q hx=>by
  obtain⟨o',e⟩:=u.there b o q hx
  by_cases hb:b∈frs l
  · obtain⟨sl,e'⟩:=f.slots b _ e hb
    exact⟨_,e'⟩
  · exact⟨o',f.at e (.inr ⟨o,q⟩) hb⟩
 tups:=u.tups
 frzs:=u.frzs
 tbls:=u.tbls
theorem Flew.on(f:Flew l B H h0 h h')(st:B.StaysIn h'')(sm:h'.UpToSlots h'')(nf:∀b o,h.get? b=some o->b∈frs l->∀vs,o.data≠.fields vs):Flew l B H h0 h h'':=⟨f.big,st,fun b o e hb=>by
 obtain⟨sl,q⟩:=f.slots b o e hb
 obtain⟨sl',q'⟩:=sm b _ q (nf b o e hb)
 exact⟨sl',q'⟩⟩
end
noncomputable def CXR(P:Program)(w:World):CXT:=fun outer H s E e s'=>∃(a:Addr) (c:Value) (H':Hp) (B:Heap) (a0:Value),e = .ref a/\s'.os=s.os/\AllBare s'.gens/\Un (frs outer) [] H H' s.heap s'.heap/\HOk P w H' s'.heap/\s.heap.get? a=none /\
 Heap.FlyingW B outer a c a0 s'.heap/\(∀b o,s'.heap.get? b=some o->((H' b).isSome=true\/∃o',s.heap.get? b=some o')->b∉frs outer->B.get? b=some o)/\E c none H'
section
variable {X:Cx} {pins:List (Addr×Obj)} {σ:St} {H:Hp} {s:Shared} {E:XK}
theorem Inv.nofld(I:Inv X pins σ H s){b:Addr}(hb:b∈frs X.stack):∃o,s.heap.get? b=some o/\∀vs,o.data≠.fields vs:=(I.stack.mem hb).2
theorem cxr_of{B h':Heap}{a:Addr}{c a0:Value}{g':Array GenState}{d':Drawn}{t':Nat}(I:Inv X pins σ H s)(hex:X.ex = [])(hst:X.stack=X.env::X.outer)(hfr:X.env.frame=some X.env.locals)(f:Flew X.stack B H X.s₀.heap s.heap h')(na:X.s₀.heap.get? a=none)
 (fl:Heap.FlyingW B X.outer a c a0 h') (hg:AllBare g') (e:E c none H):CXR X.prog X.w X.outer X.H₀ X.s₀ E (.ref a) { s with heap:=h',gens:=g',drawn:=d',toks:=t' }:=by
 have sub:∀b∈frs X.outer,b∈frs X.stack:=fun b hb=>by
  rw[hst]
  unfold frs at hb ⊢
  rw[List.filterMap_cons,hfr]
  exact List.mem_cons_of_mem _ hb
 have sup:∀b∈frs X.stack,b∈frs X.outer\/X.s₀.heap.get? b=none:=fun b hb=>by
  rcases List.mem_cons.mp (I.stkSub b hb) with z | z
  · rw[z];exact .inr (Heap.get?_none_of_le I.ok.above)
  · exact .inl z
 have u0:=I.base
 rw[hex]at u0
 refine⟨a,c,H,B,a0,rfl,I.os,hg,f.un u0 sup sub,f.hok I.hok I.stkFree,na,fl,fun b o q t nb=>?_,e⟩
 have q:h'.get? b=some o:=q
 have nst:b∉frs X.stack\/X.s₀.heap.get? b=none:=by
  by_cases z:b∈frs X.stack
  · rcases sup b z with y | y
    · exact absurd y nb
    · exact .inr y
  · exact .inl z
 have tr:∀o2,s.heap.get? b=some o2->b∉frs X.stack->B.get? b=some o:=fun o2 e2 z=>by
  have:=f.big b o2 e2 t z
  have q2:=f.stay _ _ this
  rw[q]at q2
  cases q2
  exact this
 rcases t with t | ⟨o',t⟩
 · obtain⟨u,hu⟩:=Option.isSome_iff_exists.mp t
   obtain⟨o2,e2⟩:=(I.hok b u hu).obj
   exact tr o2 e2 fun z=>by rw[I.stkFree b z]at hu;cases hu
 · obtain⟨o2,e2⟩:=u0.there b o' t (by simp)
   refine tr o2 e2 fun z=>?_
   rcases nst with y | y
   · exact y z
   · rw[y]at t;cases t
noncomputable abbrev cxR (P:Program) (w:World) (K:PySem.W.Frag) (mg:Str->Option Value) (base:Heap) (N:List Str) (qual:Str) (scope:Scope) (f:Addr) (cd:Value) (A:Around) (outer:List Env) (s:Shared) (H:Hp) (E:XK):Cx:=cxOf (CXR P w) P w K mg base N qual scope f cd A outer s H E
end
section
variable {P:Program} {w:World} {K:PySem.W.Frag} {mg:Str->Option Value} {base:Heap} {N:List Str} {qual:Str} {scope:Scope} {f:Addr} {cd:Value} {A:Around} {outer:List Env} {s0:Shared} {H0:Hp} {E:XK}
theorem exc_obj{C:Addr}{h:Heap}(X:K.In h)(x:XCls K C):∃bm Nn nm q bs hdct sn sub ab col dd k0 k1 k2 k3 k5 mN,h.get? C=some (excClassObj nm q C Nn bs bm hdct sn sub ab col dd k0 k1 k2 k3 k5 "ValueError.__new__")/\h.Ns Nn mN/\mN "__init__" = none/\OwnTail h bmV bm:=by
 have q:=x.exc
 unfold excIn at q
 split at q
 case h_2=>cases q
 rename_i dd cdd sl ho
 split at q
 case h_2=>cases q
 rename_i C' bm k0 k1 k2 k3 n k5 hm hs
 rw[Bool.and_eq_true,Bool.and_eq_true,Bool.and_eq_true,Bool.and_eq_true,Bool.and_eq_true]at q
 obtain⟨⟨⟨⟨⟨z1,z2⟩,z3⟩,z4⟩,z5⟩,z6⟩:=q
 have z1:=beq_iff_eq.mp z1
 have z2:=beq_iff_eq.mp z2
 have z3:cdd.hasDel=false:=by simpa using z3
 subst z1 z2
 obtain⟨nm,bs,mro,ns,qn,hd,sn,sub,ab,col,del⟩:=cdd
 have hm:mro = .ref C'::bm:=hm
 have z3:del=false:=z3
 subst hm z3
 obtain⟨sll⟩:=sl
 have hs:sll = [k0,k1,k2,k3,some (.builtin "ValueError.__new__"),k5]:=hs
 subst hs
 exact⟨bm,ns,nm,qn,bs,hd,sn,sub,ab,col,dd,k0,k1,k2,k3,k5,_,X _ _ ho,.of_isNs (isNs_of_in X z5),nsMap_none_of_in X z5 (beq_iff_eq.mp z6),tail_of_in X z4⟩
theorem ps_raise{C:Addr}{x:Str}{np cpos pos:Pos}{e:Expr}{te:TE}(xc:XCls K C)(hm:mg x=some (.ref C))(he:PE (cxR P w K mg base N qual scope f cd A outer s0 H0 E) e te)(hg:Gl (cxR P w K mg base N qual scope f cd A outer s0 H0 E) x:=by rfl)
 (hs:starEach [e] (envOfC qual scope s0.heap.objs.size f cd) = [(false,eval e (envOfC qual scope s0.heap.objs.size f cd))]:=by rfl) (hd:(x == ("__debug__":Str))=false:=by decide) :
 PS (cxR P w K mg base N qual scope f cd A outer s0 H0 E) (.Raise (some (.Call (.Name x np) [e] [] cpos)) none pos) (fun _ σ H=>te σ H fun v H1=>[v].length<=1/\E (.ref C) none H1):=by
 intro pins s σ H D I h
 obtain⟨bm,Nn,nm,q,bs,hdct,sn,sub,ab,col,dd,k0,k1,k2,k3,k5,mN,hC,hN,hni,T⟩:=exc_obj I.mod.kin xc
 have hh:(A.deeper (envOfC qual scope s0.heap.objs.size f cd)).handled=none:=I.ok.hd rfl
 refine wpAny_Raise_call_subT (C:=C) (nm:=nm) (q:=q) (N:=Nn) (bs:=bs) (bm:=bm) (hdct:=hdct) (sn:=sn) (sub:=sub) (ab:=ab) (col:=col) (dd:=dd) (k0:=k0) (k1:=k1) (k2:=k2) (k3:=k3) (k5:=k5)
  PySem.F.excBase_ValueError (mN:=mN) (T.hasType PySem.F.excBase_ValueError.hasBase) hh (by show(backTo cpos (starEach [e] (envOfC qual scope s0.heap.objs.size f cd))).any (·.1)=false;rw[hs];rfl) hni (ld_glob I hg hm ⟨rfl,?_⟩ hd)
 have ha:PA (cxR P w K mg base N qual scope f cd A outer s0 H0 E) [e] (tCons te tNil):=pa_cons he pa_nil hs
 have go:=ha cpos pins s σ H (fun vs H1=>vs.length<=1/\E (.ref C) none H1) I h
 have go:wpAny (model P w) (A.deeper (envOfC qual scope s0.heap.objs.size f cd)) (spliced (backTo cpos (starEach [e] (envOfC qual scope s0.heap.objs.size f cd)))) (AP (cxR P w K mg base N qual scope f cd A outer s0 H0 E) pins σ (fun vs H1=>vs.length<=1/\E (.ref C) none H1)) (cxR P w K mg base N qual scope f cd A outer s0 H0 E).xe s:=go
 show wpAny (model P w) (A.deeper (envOfC qual scope s0.heap.objs.size f cd)) (evalArgs (.ref C) true (backTo cpos (starEach [e] (envOfC qual scope s0.heap.objs.size f cd))) []) _ _ s
 rw[hs]at go ⊢
 refine Calls.evalArgs_plain (wpAny_mono go (fun us s2 z=>?_) fun _ _ y=>y)
 obtain⟨vs,H1,I1,rv,l1,q1⟩:=z
 have hl:us.length<=sizeLine:=by
  rw[←rv.length]
  exact Nat.le_trans l1 (by decide)
 refine⟨rfl,hl,I1.bk _ _ hC,hN.keeps I1.bk,T.keeps I1.bk,fun h' a hx=>?_⟩
 have na0:s0.heap.get? a=none:=by
  cases z:s0.heap.get? a with
  | none=>rfl
  | some o=>
   obtain⟨o',y⟩:=I1.base.there a o z (fun z=>nomatch z)
   rw[hx.new]at y;cases y
 refine wpAny_leaves_madeW (base:=hideAll s2.heap (frs (envOfC qual scope s0.heap.objs.size f cd::outer))) (L:=(envOfC qual scope s0.heap.objs.size f cd).locals) (h:=s2.heap) I1.ok.frames rfl (fun b o z=>of_hideAll _ z)
  (funFrames_hide I1.stack fun env hev b hb=>List.mem_filterMap.mpr ⟨env,hev,hb⟩) hx fun h2 t x1 x2 x3 x4=>?_
 refine cxr_of (g':=s2.gens) (d':=s2.drawn) (t':=s2.toks) I1 rfl rfl rfl ⟨fun b o z _ nb=>hideAll_get _ z nb,x1.1,fun b o z hb=>?_⟩ na0 x1 I1.bare q1
 obtain⟨o1,e1,n1⟩:=I1.nofld hb
 rw[z]at e1;cases e1
 exact x4 b o (hx.keeps _ _ z) n1
end
end L2
namespace L2
open PySem PySem.Spec PyProof.Rows PySem.W
section
variable {X:Cx} {pins:List (Addr×Obj)} {σ:St} {H:Hp} {s:Shared}
theorem name_gone{M:Model}{A:Around}{E:Value->Shared->Prop}{i:Nat}{x:Str}{pos:Pos}{Q:Unit->Shared->Prop}(I:Inv X pins σ H s)(hN:X.N.Nodup)(hi:X.N[i]? = some x)(hk:X.env.kindOf x=some .local)
 (h:∀s',Inv X pins (σ.set i none) H s'->Q () s'):wpAny M A (do bindName X.env x .none;unbindBehindTheSuite X.env x pos) Q E s:=by
 obtain⟨m,hn,hl⟩:=id I.loc
 have hcls:(X.env.scope.kind == .class || (X.env.scope.kind == .module && X.env.locals != X.env.globals))=false:=by rw[I.ok.kind];rfl
 have cne:=I.cne
 refine wpAny_nameGoes_keeps hk hn hcls fun h' v hn' hs=>?_
 obtain⟨oL,_,_,hoL,_⟩:=id hn
 have old:∀{b:Addr} {o:Obj},X.s₀.heap.get? b=some o->b≠X.env.locals:=fun e=>Nat.ne_of_lt (Nat.lt_of_lt_of_le (Heap.lt_size e) I.ok.above)
 refine h _ ⟨I.ok,I.os,I.bare,⟨fun b o e n hb hx=>(hs.2 b (old e)).trans (I.base.keep b o e n hb hx),fun b o e n hb hx=>?_,I.base.free,fun b o e hx=>?_,I.base.tups,I.base.frzs,I.base.tbls⟩,⟨_,hn',fun j y v' e1 e2 e3=>?_⟩,fun y c e=>?_,I.free,I.freeC,fun p hp=>?_,fun b ob e=>?_,by simpa using I.len⟩
 · obtain⟨sl,e1⟩:=I.base.slot b o e n hb hx
   exact⟨sl,(hs.2 b (old e)).trans e1⟩
 · obtain⟨o',e1⟩:=I.base.there b o e hx
   exact⟨o',(hs.2 b (old e)).trans e1⟩
 · by_cases hj:j=i
   · subst hj
     have hiσ:j<σ.length:=by rw[I.len];exact(List.getElem?_eq_some_iff.mp hi).1
     rw[List.getElem?_set_self hiσ]at e2
     cases e2
   · rw[List.getElem?_set_ne (Ne.symm hj)]at e2
     obtain⟨u',r',q⟩:=hl j y v' e1 e2 e3
     refine⟨u',r',?_⟩
     rcases q with⟨k,e⟩ | ⟨k,c,e,z⟩
     · have ne:y≠x:=fun e=>hj (nodup_ix hN e1 (e▸hi))
       exact .inl ⟨k,by simp[ne,e]⟩
     · exact .inr ⟨k,c,e,z.sameBut hs (cne y c e)⟩
 · obtain⟨w',z⟩:=I.cell y c e
   exact⟨w',z.sameBut hs (cne y c e)⟩
 · obtain⟨e,n,ne,nf,d⟩:=I.pin p hp
   exact⟨(hs.2 p.1 ne).trans e,n,ne,nf,d⟩
 · refine(I.hok b ob e).stay (fun c w' hc q=>(hs.2 c ?_).trans q) (fun _ q=>q) fun _ _ q=>q
   rintro rfl
   rcases hc with rfl | hc
   · rw[I.free]at e;cases e
   · rw[I.free]at hc;cases hc
noncomputable abbrev Cx.tr (X:Cx) (XE:Value->Shared->Prop) (pn:List (Addr×Obj)):Cx:={ X with xe:=XE,pn:=X.pn++pn }
noncomputable abbrev Cx.exs (X:Cx) (a:Addr):Cx:={ X with A:=X.A.mark (some (.ref a)),calm:=false,xe:=fun _ _=>False }
theorem Inv.tr(I:Inv X pins σ H s)(XE:Value->Shared->Prop):Inv (X.tr XE pins) [] σ H s:=
 ⟨⟨I.ok.mod,I.ok.kind,I.ok.glob,I.ok.blt,I.ok.above,I.ok.inj,I.ok.has,I.ok.cab,I.ok.hd,I.ok.frames,I.ok.stk,I.ok.exf,I.ok.bs,I.ok.bsz,I.ok.noex,I.ok.exfs,I.ok.funs,I.ok.frf⟩,I.os,I.bare,I.base,I.loc,I.cell,I.free,I.freeC,fun p hp=>I.pin p (by simpa using hp),I.hok,I.len⟩
theorem Inv.untr{XE:Value->Shared->Prop}{ps:List (Addr×Obj)}(I:Inv (X.tr XE pins) ps σ H s):Inv X pins σ H s:=
 ⟨⟨I.ok.mod,I.ok.kind,I.ok.glob,I.ok.blt,I.ok.above,I.ok.inj,I.ok.has,I.ok.cab,I.ok.hd,I.ok.frames,I.ok.stk,I.ok.exf,I.ok.bs,I.ok.bsz,I.ok.noex,I.ok.exfs,I.ok.funs,I.ok.frf⟩,I.os,I.bare,I.base,I.loc,I.cell,I.free,I.freeC,fun p hp=>I.pin p (List.mem_append_left _ hp),I.hok,I.len⟩
theorem Inv.exs(I:Inv X pins σ H s)(a:Addr):Inv (X.exs a) pins σ H s:=
 ⟨⟨I.ok.mod,I.ok.kind,I.ok.glob,I.ok.blt,I.ok.above,I.ok.inj,I.ok.has,I.ok.cab,fun z=>(nomatch z),I.ok.frames,I.ok.stk,I.ok.exf,I.ok.bs,I.ok.bsz,I.ok.noex,I.ok.exfs,I.ok.funs,I.ok.frf⟩,I.os,I.bare,I.base,I.loc,I.cell,I.free,I.freeC,I.pin,I.hok,I.len⟩
theorem Inv.unexs{a:Addr}(ok:X.Ok)(I:Inv (X.exs a) pins σ H s):Inv X pins σ H s:=⟨ok,I.os,I.bare,I.base,I.loc,I.cell,I.free,I.freeC,I.pin,I.hok,I.len⟩
theorem SP.untr{XE:Value->Shared->Prop}{ps:List (Addr×Obj)}{D:Ends}{f:Flow}{s':Shared}(h:SP (X.tr XE pins) ps D f s'):SP X pins D f s':=by
 cases f with
 | next=>obtain⟨σ',H',I,q⟩:=h;exact⟨σ',H',I.untr,q⟩
 | brk=>obtain⟨σ',H',I,q⟩:=h;exact⟨σ',H',I.untr,q⟩
 | cont=>obtain⟨σ',H',I,q⟩:=h;exact⟨σ',H',I.untr,q⟩
 | ret u=>obtain⟨v,σ',H',I,r,q⟩:=h;exact⟨v,σ',H',I.untr,r,q⟩
end
noncomputable def PassesS(CX:CXT)(X:Cx)(E:St->XK):Prop:=∀(pins:List (Addr×Obj)) (σ:St) (H:Hp) (s:Shared) (e:Value) (s':Shared),Inv X pins σ H s->CX X.stack H s (E σ) e s'->X.xe e s'
section
variable {X:Cx} {CX:CXT} {k:Nat} {f C:Addr} {fd:FuncData} {ps:List Str} {sp:Sp} {dvs:List V} {ds:List Value} {E:St->XK} {x m:Str} {p pos apos:Pos} {e o:Expr} {es:List Expr} {ta:TE} {t:TA}
theorem run_fnS{pins:List (Addr×Obj)}{σ:St}{H:Hp}{s:Shared}{Q:VK}{us:List Value}{vs:List V}(F:FnOk X.prog X.w X.K X.mg X.base CX k f fd ps sp)(hr:Room k X.A)(hb:Binds X.K fd ps ds)(hd:Vals dvs ds)(hx:PassesS CX X E)
 (I:Inv X pins σ H s) (r:Vals vs us) (h:sp (vs++dvs) H Q (E σ)):wpAny (model X.prog X.w) X.A (call (.ref f) us) (EP X pins σ Q) X.xe s:=by
 have r2:Vals (vs++dvs) (us++ds):=r.append hd
 have hl:(us++ds).length=ps.length:=by rw[←r2.length];exact F.len _ _ _ _ h
 refine wpAny_call (codeAny_mono (F.run X.A X.stack s H ⟨us,[]⟩ (us++ds) (vs++dvs) Q (E σ) hr I.env0 (hb s us I.kIn hl) r2 h) fun r s' hq=>?_)
 cases r with
 | error e=>exact hx pins σ H s e s' I hq
 | ok fl=>
  cases fl with
  | ret u=>exact I.after hq
  | next=>exact False.elim hq
  | brk=>exact False.elim hq
  | cont=>exact False.elim hq
noncomputable def tCallS(sp:Sp)(dvs:List V)(E:St->XK)(t:TA):TE:=fun σ H Q=>tCall sp dvs (E σ) t σ H Q
theorem pe_callS(F:FnOk X.prog X.w X.K X.mg X.base CX k f fd ps sp)(hr:Room k X.A)(hg:Gl X x)(hm:X.mg x=some (.ref f))(hk:PySem.W.keepIn X.K (.ref f)=true)(hb:Binds X.K fd ps ds)(hd:Vals dvs ds)(hx:PassesS CX X E)
 (ha:PA X (e::es) t) (hdb:(x == ("__debug__":Str))=false:=by decide) (he:starEach (e::es) X.env=(false,eval e X.env)::starEach es X.env:=by rfl) (hpl:(backTo pos (starEach es X.env)).any (·.1)=false:=by rfl) :
 PE X (.Call (.Name x p) (e::es) [] pos) (tCallS sp dvs E t):=by
 intro pins s σ H Q I h
 refine wpAny_Call_Name_kw (ld_glob I hg hm ?_ hdb)
 refine PySem.W.callWith_K (h₀:=X.base) I.ok.mod.kin hk (thn (ha pos pins s σ H _ I h) fun us s1 zq386=>zq386.elim fun vs zq387=>zq387.elim fun H1 zq388=>zq388.elim fun I1 zq389=>zq389.elim fun r q=>⟨I1.kIn,?_⟩) he hpl
 exact run_fnS F hr hb hd hx I1 r q
end
section
variable {X:Cx}
noncomputable def trE(K:PySem.W.Frag)(M:Addr)(i:Nat)(ts:TS)(D:Ends):St->XK:=fun σ c _ H=>exmOne K c (.ref M)=some true/\∀a,H a=none ->
 ts { nx:=fun σ2 H2=>D.nx (σ2.set i none) H2,rt:=D.rt,bk:=fun σ2 H2=>D.bk (σ2.set i none) H2,ct:=fun σ2 H2=>D.ct (σ2.set i none) H2 } (σ.set i (some (.ref a))) (upd H a (excO a c))
theorem ps_tryAs{i:Nat}{M:Addr}{x n:Str}{body:List Stmt}{b0:Stmt}{suite:List Stmt}{np hpos pos:Pos}{tb:(St->XK)->TS}{ts:TS}(nd:X.N.Nodup)(hi:X.N[i]? = some n)(hl:X.env.kindOf n=some .local)
 (hst:X.stack=X.env::X.outer) (hfr:X.env.frame=some X.env.locals) (hm:X.mg x=some (.ref M)) (hg:Gl X x)
 (hb:∀XE pn E,PassesS (CXR X.prog X.w) (X.tr XE pn) E->PSs (X.tr XE pn) body (tb E)) (hs:∀a,PSs (X.exs a) (b0::suite) ts) (hdb:(x == ("__debug__":Str))=false:=by decide) :
 PS X (.Try body [.ExceptHandler (some (.Name x np)) (some n) (b0::suite) hpos] [] [] pos) (fun D σ H=>tb (trE X.K M i ts D) D σ H):=by
 intro pins s σ H D I h
 refine wpAny_Try_except ?_
 refine wpAny_mono (hb (fun e s₁=>wpAny (model X.prog X.w) X.A (noteFrame e X.env) (fun _ s₂=>wpAny (model X.prog X.w) X.A (setFlight e none) (fun _ s₃=>wpAny (model X.prog X.w) X.A (handleBy e X.env [.ExceptHandler (some (.Name x np)) (some n) (b0::suite) hpos]) (SP X pins D) X.xe s₃) X.xe s₂) X.xe s₁)
  pins (trE X.K M i ts D) ?_ [] s σ H D (I.tr _) h) (fun f s1 z=>?_) fun _ _ z=>z
 · intro ps σ1 H1 s1 e s' I1 hx
   have I1:=I1.untr
   obtain⟨a,c,H',B,a0,rfl,os,bare,un,hok,na,fl,big,hx1,hx2⟩:=hx
   have fl:Heap.FlyingW B (X.env::X.outer) a c a0 s'.heap:=hst▸fl
   have hfm:X.A.frames=some (X.env::X.outer):=hst▸I1.ok.frames
   have un:Un (frs X.stack) [] H1 H' s1.heap s'.heap:=un
   have big:∀b o,s'.heap.get? b=some o->((H' b).isSome=true\/∃o',s1.heap.get? b=some o')->b∉frs X.stack->B.get? b=some o:=big
   have J0:=I1.call' (ch:=[]) os un hok bare (fun b z=>nomatch z)
   have nf:∀b o,s'.heap.get? b=some o->b∈frs X.stack->∀vs,o.data≠.fields vs:=fun b o e hb=>by
    obtain⟨o1,e1,n1⟩:=J0.nofld hb
    rw[e]at e1;cases e1
    exact n1
   refine wpAny_looks_onW hfm hfr fl fun h4 held sm4=>?_
   refine wpAny_landsW held fun h5 fl5 sm5=>?_
   have f5:Flew X.stack B H' s1.heap s'.heap h5:=⟨big,fl5.1,fun b o e hb=>(sm4.trans sm5) b o e (nf b o e hb)⟩
   have J5:Inv X pins σ1 H' { s' with heap:=h5 }:=I1.call' (ch:=[]) os (f5.un un (fun _ z=>.inl z) fun _ z=>z) (f5.hok hok J0.stkFree) bare (fun b z=>nomatch z)
   refine wpAny_handleBy_cons (codeAny_handlers_test ?_) (by intro q;cases q)
   refine ld_glob (J5.exs a) hg hm ?_ hdb
   have LT:Looks (model X.prog X.w) h5 (typeOf (.ref a)) c:=by
    obtain⟨ob,o1,o2⟩:=fl5.there
    exact o2▸(Looks.ld o1).andThen .now
   refine(exm_one J5.kIn LT hx1).here ?_
   refine codeAny_handlers_suite_as ?_
   refine lands_againW fl5 fun h6 fl6 sm6=>?_
   have f6:=f5.on fl6.1 sm6 nf
   have un6:=f6.un un (fun _ z=>.inl z) fun _ z=>z
   have hok6:=f6.hok hok J0.stkFree
   obtain⟨oe,oe1,oe2⟩:=fl6.there
   have nst:a∉frs X.stack:=fun z=>by
    obtain⟨o1,e1,n1⟩:=I1.nofld z
    rw[na]at e1;cases e1
   have na':H' a=none:=by
    cases z:H' a with
    | none=>rfl
    | some u=>
     obtain⟨o1,e1⟩:=(hok a u z).obj
     have:=big a o1 e1 (.inl (by rw[z];rfl)) nst
     rw[fl.2.1]at this;cases this
   have un7:Un (frs X.stack) [] H1 (upd H' a (excO a c)) s1.heap h6:=⟨un6.keep,un6.slot,fun b o q n hx=>by rw[upd_ne (fun z=>by rw[z,na]at q;cases q)];exact un6.free b o q n hx,un6.there,
    fun b xs q=>by rw[upd_ne (ne_of_none (un6.tups b xs q) na')];exact un6.tups b xs q,fun b o u q=>by rw[upd_ne (ne_of_none (un6.frzs b o u q) na')];exact un6.frzs b o u q,fun b ps q=>by
     obtain⟨more,z⟩:=un6.tbls b ps q
     exact⟨more,by rw[upd_ne (ne_of_none z na')];exact z⟩⟩
   have hok7:HOk X.prog X.w (upd H' a (excO a c)) h6:=fun b u q=>by
    by_cases hb:b=a
    · subst hb
      rw[upd_same]at q;cases q
      exact excO_ok ⟨oe,oe1,oe2⟩
    · rw[upd_ne hb]at q
      exact(hok6 b u q).stay (fun _ _ _ z=>z) (fun d z=>by rw[upd_ne (ne_of_none z na')];exact z) fun d xs z=>by rw[upd_ne (ne_of_none z na')];exact z
   have J6:Inv X pins σ1 (upd H' a (excO a c)) { s' with heap:=h6 }:=I1.call' (ch:=[]) os un7 hok7 bare (fun b z=>nomatch z)
   refine store_ok J6 nd hi (Or.inl hl) (v:=.ref a) rfl (fun s7 J7=>?_) (.inr hl)
   refine wpAny_mono (hs a pins s7 _ _ _ (J7.exs a) (hx2 a na')) (fun f s8 z=>?_) fun _ _ z=>z.elim
   cases f with
   | next=>
    obtain⟨σ8,H8,J8,q8⟩:=z
    exact name_gone (J8.unexs J7.ok) nd hi hl fun s9 J9=>⟨_,H8,J9,q8⟩
   | brk=>
    obtain⟨σ8,H8,J8,q8⟩:=z
    exact name_gone (J8.unexs J7.ok) nd hi hl fun s9 J9=>⟨_,H8,J9,q8⟩
   | cont=>
    obtain⟨σ8,H8,J8,q8⟩:=z
    exact name_gone (J8.unexs J7.ok) nd hi hl fun s9 J9=>⟨_,H8,J9,q8⟩
   | ret u=>
    obtain⟨v,σ8,H8,J8,r8,q8⟩:=z
    exact name_gone (J8.unexs J7.ok) nd hi hl fun s9 J9=>⟨v,_,H8,J9,r8,q8⟩
 · have z:=z.untr
   cases f with
   | next=>exact wpAny_execs_nil z
   | brk=>exact z
   | cont=>exact z
   | ret u=>exact z
end
end L2
namespace L2
open PySem PySem.Spec PyProof.Rows PySem.W
section
variable {X:Cx}
theorem exc_at{H:Hp}{h:Heap}{P:Program}{w:World}{a:Addr}{c:Value}(ok:HOk P w H h)(e:H a=some (excO a c)):∃o,h.get? a=some o/\o.cls=c:=(ok a _ e).1
theorem call_isiO:CallR X (.builtin "isinstance") (fun xs H Q=>∃a C D b,xs = [.ref a,.ref D]/\H a=some (excO a (.ref C))/\XCls X.K C/\kitOne X.K (.ref C) (.ref D)=some b/\Q (.bl b) H):=by
 intro pins s σ H xs us Q I r h
 obtain⟨a,C,D,b,rfl,e,xc,k,q⟩:=h
 obtain⟨u,u2,rfl,r1,r2⟩:=vals2 r
 cases (show u=Value.ref a from r1)
 cases (show u2=Value.ref D from r2)
 exact kia_one (kitx_exc xc.c0) I.kIn (exc_at I.hok e) k (by intro z;cases z) fun tk=>⟨.bl b,H,I.tok tk,rfl,q⟩
theorem vals_refs:∀{Ds:List Addr} {us:List Value},Vals (Ds.map V.ref) us->us=Ds.map Value.ref
 | [],_,.nil=>rfl
 | D::Ds,_,.cons r t=>by
  rw[List.map_cons,vals_refs t]
  congr 1
end
section
variable {X:Cx}
noncomputable def EntEq(K:PySem.W.Frag)(H:Hp)(p q:Key×V):Prop:=p.1=q.1/\∃d,DV K H p.2 d/\DV K H q.2 d/\PySem.W.kqdOk 9 d=true
theorem valV_mem{kvs:List (Key×V)}(nd:(kvs.map (·.1)).Nodup){k:Key}{v:V}(h:(k,v)∈kvs):valV kvs k=some v:=by
 induction kvs with
 | nil=>cases h
 | cons p r ih=>
  rw[List.map_cons,List.nodup_cons]at nd
  rcases List.mem_cons.mp h with e | h
  · subst e;exact valV_pos rfl
  · rw[valV_neg fun e=>nd.1 (by rw[e];exact List.mem_map_of_mem (f:=(·.1)) h)]
    exact ih nd.2 h
theorem hits_of{pins:List (Addr×Obj)}{σ:St}{H:Hp}{s:Shared}(I:Inv X pins σ H s)(hu:X.A.units+65<cLine){kws:List (Key×V)}{ws:List (Key×Value)}(nd:(kws.map (·.1)).Nodup)(rw':KV kws ws):∀{ka kb:List (Key×V)} {va:List (Key×Value)},Paired (EntEq X.K H) ka kb->KV ka va->(∀p∈kb,p∈kws)->KeqHits X.A.in1 s ws va true
 | _,_,_,.nil,.nil,_=>.nil
 | _,_,_,.cons (a:=p) (b:=q) r t,.cons (b:=pv) rv tv,hm=>by
  obtain⟨e,d,d1,d2,ok⟩:=r
  obtain⟨as,ra⟩:=d1.reads I rv.2
  have hq:=valV_mem nd (k:=q.1) (v:=q.2) (hm q List.mem_cons_self)
  have rel:=rw'.val q.1
  rw[hq]at rel
  cases hy:valueAt ws q.1 with
  | none=>rw[hy]at rel;exact rel.elim
  | some y=>
   rw[hy]at rel
   have rel:RelV q.2 y:=rel
   obtain⟨bs,rb⟩:=d2.reads I rel
   have eqa:=keq_at (A:=X.A) ra rb (dat_shaped ok) (dat_shaped ok) hu
   have et:=(PySem.W.kqd_eqv 9 d d 9 ok ok).mpr rfl
   rw[et]at eqa
   have hk:pv.1=q.1:=rv.1.symm.trans e
   obtain⟨pk,pvv⟩:=pv
   have hk:pk=q.1:=hk
   subst hk
   exact .hit (e:=true) (b:=true) hy eqa (hits_of I hu nd rw' t tv fun p hp=>hm p (List.mem_cons_of_mem _ hp))
theorem op_eqM(hu:X.A.units+65<cLine):OpR X (compareOp .Eq) (fun x y H Q=>∃a b kvs kws,x = .ref a/\y = .ref b/\H a=some (.dK kvs)/\H b=some (.dK kws)/\Paired (EntEq X.K H) kvs kws/\(kws.map (·.1)).Nodup/\Q (.bl true) H):=by
 intro pins s σ H x y v u Q I rx ry h
 obtain⟨a,b,kvs,kws,rfl,rfl,ea,eb,pr,nd,q⟩:=h
 cases rx
 cases ry
 obtain⟨_,hd,vs,rel,dd⟩:=dk_of I.hok ea
 obtain⟨_,hd',ws,rel',dd'⟩:=dk_of I.hok eb
 refine PySem.W.keq_eq (knd:=mixKind X.prog X.w) (r:=true) hd hd' dd dd' (by omega) (fun _=>hits_of I hu nd rel' pr rel fun _ h=>h) ⟨.bl true,H,I,?_,q⟩
 have e:vs.length=ws.length:=by rw[←rel.length,←rel'.length,Paired.length pr]
 rw[e]
 simp[RelV]
end
end L2
namespace L2
open PySem PySem.Spec PyProof.Rows
noncomputable def kRun{α:Type}(n:Nat)(f:Nat->Nat->Bool):PySem.W.KasT α->Option α
 | .ret a=>some a
 | .ask i j k=>if (decide (i<n) && decide (j<n) && decide (i≠j))=true then kRun n f (k (f i j)) else none
theorem kRun_wp{α:Type}{n:Nat}{f:Nat->Nat->Bool}{cmp:Nat->Nat->(Bool->Shared->Prop)->Shared->Prop}{s:Shared}(hc:∀i j C,i<n->j<n->i≠j->C (f i j) s->cmp i j C s) :
 ∀(t:PySem.W.KasT α) {a:α},kRun n f t=some a->∀{Q:α->Shared->Prop},Q a s->t.kasWp cmp Q s
 | .ret b,a,e,Q,q=>by
  cases e
  exact q
 | .ask i j k,a,e,Q,q=>by
  unfold kRun at e
  split at e
  · rename_i h
    simp only[Bool.and_eq_true,decide_eq_true_eq]at h
    exact hc i j _ h.1.1 h.1.2 h.2 (kRun_wp hc (k (f i j)) e q)
  · cases e
theorem kRun_congr{α:Type}{n:Nat}{f g:Nat->Nat->Bool}(h:∀i j,i<n->j<n->i≠j->f i j=g i j):∀t:PySem.W.KasT α,kRun n f t=kRun n g t
 | .ret b=>rfl
 | .ask i j k=>by
  unfold kRun
  split
  · rename_i q
    simp only[Bool.and_eq_true,decide_eq_true_eq]at q
    rw[h i j q.1.1 q.1.2 q.2]
    exact kRun_congr h _
  · rfl
noncomputable def fb(a b c d e g:Bool)(i j:Nat):Bool:=
 match i,j with
 | 0,1=>a
 | 1,0=>!a
 | 0,2=>b
 | 2,0=>!b
 | 0,3=>c
 | 3,0=>!c
 | 1,2=>d
 | 2,1=>!d
 | 1,3=>e
 | 3,1=>!e
 | 2,3=>g
 | 3,2=>!g
 | _,_=>false
noncomputable def adj(f:Nat->Nat->Bool):List Nat->Bool
 | []=>true
 | [_]=>true
 | x::y::r=>f x y && adj f (y::r)
noncomputable def okS(n:Nat)(f:Nat->Nat->Bool):Bool:=
 match kRun n f (PySem.W.kas_sort n) with
 | none=>false
 | some p=>p.toList.isPerm (List.range n) && adj f p.toList
noncomputable def trB(n:Nat)(f:Nat->Nat->Bool):Bool:=
 (List.range n).all fun i=>(List.range n).all fun j=>(List.range n).all fun k=>!(f i j && f j k && decide (i≠k)) || f i k
theorem sort2:∀a b c d e g:Bool,okS 2 (fb a b c d e g)=true:=by decide +kernel
theorem sort3:∀a b c d e g:Bool,trB 3 (fb a b c d e g)=true->okS 3 (fb a b c d e g)=true:=by decide +kernel
theorem sort4:∀a b c d e g:Bool,trB 4 (fb a b c d e g)=true->okS 4 (fb a b c d e g)=true:=by decide +kernel
theorem fb_self{a b c d e g:Bool}(i:Nat):fb a b c d e g i i=false:=by
 match i with
 | 0=>rfl
 | 1=>rfl
 | 2=>rfl
 | 3=>rfl
 | n+4=>rfl
theorem lt4{i n:Nat}(h:i<n)(hn:n<=4):i=0\/i=1\/i=2\/i=3:=by omega
theorem adj_congr{n:Nat}{f g:Nat->Nat->Bool}(h:∀i j,i<n->j<n->i≠j->f i j=g i j):∀l:List Nat,(∀x∈l,x<n)->l.Nodup->adj g l=true->adj f l=true
 | [],_,_,_=>rfl
 | [_],_,_,_=>rfl
 | x::y::r,hm,hd,e=>by
  unfold adj at e ⊢
  rw[Bool.and_eq_true]at e ⊢
  have hd':=List.nodup_cons.mp hd
  refine⟨?_,adj_congr h (y::r) (fun z hz=>hm z (List.mem_cons_of_mem _ hz)) hd'.2 e.2⟩
  rw[h x y (hm x List.mem_cons_self) (hm y (List.mem_cons_of_mem _ List.mem_cons_self)) fun q=>hd'.1 (q▸List.mem_cons_self)]
  exact e.1
theorem sortP{n:Nat}(h2:2<=n)(h4:n<=4){f:Nat->Nat->Bool}(anti:∀i j,i<n->j<n->i≠j->f i j = !f j i)(tr:∀i j k,i<n->j<n->k<n->f i j=true->f j k=true->f i k=true) :
 ∃p:Array Nat,kRun n f (PySem.W.kas_sort n)=some p/\p.toList.Perm (List.range n)/\adj f p.toList=true:=by
 have fg:∀i j,i<n->j<n->i≠j->f i j=fb (f 0 1) (f 0 2) (f 0 3) (f 1 2) (f 1 3) (f 2 3) i j:=by
  intro i j hi hj hne
  rcases lt4 hi h4 with rfl | rfl | rfl | rfl<;>rcases lt4 hj h4 with rfl | rfl | rfl | rfl<;>first | exact absurd rfl hne | rfl | exact anti _ _ hi hj hne
 have tg:trB n (fb (f 0 1) (f 0 2) (f 0 3) (f 1 2) (f 1 3) (f 2 3))=true:=by
  unfold trB
  rw[List.all_eq_true]
  intro i hi
  rw[List.all_eq_true]
  intro j hj
  rw[List.all_eq_true]
  intro k hk
  have hi:=List.mem_range.mp hi
  have hj:=List.mem_range.mp hj
  have hk:=List.mem_range.mp hk
  by_cases hij:i=j
  · subst hij
    rw[fb_self]
    rfl
  by_cases hjk:j=k
  · subst hjk
    rw[fb_self,Bool.and_false,Bool.false_and]
    rfl
  by_cases hik:i=k
  · subst hik
    rw[decide_eq_false (fun z=>z rfl),Bool.and_false]
    rfl
  rw[←fg i j hi hj hij,←fg j k hj hk hjk,←fg i k hi hk hik]
  cases e1:f i j with
  | false=>rfl
  | true=>
   cases e2:f j k with
   | false=>rfl
   | true=>
    rw[tr i j k hi hj hk e1 e2,Bool.or_true]
 have ok:okS n (fb (f 0 1) (f 0 2) (f 0 3) (f 1 2) (f 1 3) (f 2 3))=true:=by
  have h3:n=2\/n=3\/n=4:=by omega
  rcases h3 with rfl | rfl | rfl
  · exact sort2 _ _ _ _ _ _
  · exact sort3 _ _ _ _ _ _ tg
  · exact sort4 _ _ _ _ _ _ tg
 unfold okS at ok
 rw[←kRun_congr fg]at ok
 cases e:kRun n f (PySem.W.kas_sort n) with
 | none=>rw[e]at ok;cases ok
 | some p=>
  rw[e]at ok
  have ok:(p.toList.isPerm (List.range n) && adj (fb (f 0 1) (f 0 2) (f 0 3) (f 1 2) (f 1 3) (f 2 3)) p.toList)=true:=ok
  rw[Bool.and_eq_true]at ok
  have hp:=List.isPerm_iff.mp ok.1
  exact⟨p,rfl,hp,adj_congr fg _ (fun x hx=>List.mem_range.mp (hp.mem_iff.mp hx)) (hp.nodup_iff.mpr List.nodup_range) ok.2⟩
theorem lexLt_anti:∀x y:List Int,x≠y->HT.lexLt x y = !HT.lexLt y x
 | [],[],h=>absurd rfl h
 | [],_::_,_=>rfl
 | _::_,[],_=>rfl
 | a::x,b::y,h=>by
  rw[HT.lexLt_cons,HT.lexLt_cons]
  by_cases e:a=b
  · subst e
    rw[if_pos rfl,if_pos rfl]
    exact lexLt_anti x y fun q=>h (by rw[q])
  · rw[if_neg e,if_neg (fun q=>e q.symm)]
    by_cases l:a<b
    · rw[decide_eq_true l,decide_eq_false (by omega)]
      rfl
    · rw[decide_eq_false l,decide_eq_true (by omega)]
      rfl
theorem lexLt_trans:∀x y z:List Int,HT.lexLt x y=true->HT.lexLt y z=true->HT.lexLt x z=true
 | [],[],_,h,_=>by cases h
 | [],_::_,[],_,h=>by cases h
 | [],_::_,_::_,_,_=>rfl
 | _::_,[],_,h,_=>by cases h
 | _::_,_::_,[],_,h=>by cases h
 | a::x,b::y,c::z,h1,h2=>by
  rw[HT.lexLt_cons]at h1 h2 ⊢
  by_cases e1:a=b
  · subst e1
    rw[if_pos rfl]at h1
    by_cases e2:a=c
    · subst e2
      rw[if_pos rfl]at h2 ⊢
      exact lexLt_trans x y z h1 h2
    · rw[if_neg e2]at h2 ⊢
      exact h2
  · rw[if_neg e1]at h1
    have l1:=of_decide_eq_true h1
    by_cases e2:b=c
    · subst e2
      rw[if_neg e1]
      exact h1
    · rw[if_neg e2]at h2
      have l2:=of_decide_eq_true h2
      rw[if_neg (by omega)]
      exact decide_eq_true (by omega)
end L2
namespace L2
open PySem PySem.Spec PyProof.Rows
section
variable {prog:Program} {w:World} {A:Around} {E:Value->Shared->Prop} {s:Shared}
theorem katLex_ints{b:Bool}{Q:Bool->Shared->Prop}{xs:List Value}{is:List Int}(hx:IntsAre xs is):∀{ys:List Value} {js:List Int} (i:Nat),IntsAre ys js->Q (HT.lexLt is js) s ->
 PySem.W.KatLex prog w A b (decide (is.length<js.length)) Q (xs.zip ys) i s:=by
 induction hx with
 | nil=>
  intro ys js i hy q
  cases hy with
  | nil=>exact PySem.W.kat_nil q
  | cons c u hy=>
   refine PySem.W.kat_nil (show Q (decide _) s from ?_)
   rw[decide_eq_true (by rw[List.length_nil,List.length_cons];exact Nat.succ_pos _)]
   exact q
 | cons a t hx ih=>
  intro ys js i hy q
  cases hy with
  | nil=>
   refine PySem.W.kat_nil (show Q (decide _) s from ?_)
   rw[decide_eq_false (by rw[List.length_nil];exact Nat.not_lt_zero _)]
   exact q
  | cons c u hy=>
   rename_i xs is ys js
   rw[HT.lexLt_cons]at q
   refine PySem.W.kat_cons (wpAny_eqBool_int (PySem.W.kat_go (fun e=>PySem.W.kat_yes ?_) fun e=>PySem.W.kat_no ?_))
   · have e:=eq_of_beq e
     rw[if_pos e]at q
     have z:decide ((a::is).length<(c::js).length)=decide (is.length<js.length):=by
      rw[List.length_cons,List.length_cons]
      exact decide_eq_decide.mpr Nat.succ_lt_succ_iff
     rw[z]
     exact ih (i+1) hy q
   · have e:a≠c:=fun z=>by
      rw[z,beq_self_eq_true]at e
      cases e
     rw[if_neg e]at q
     cases hb:(b && i == 0) with
     | true=>exact oneLt_int q
     | false=>exact PySem.W.kat_one _ _ (HT.rcLt_int _ _ _ _ _ _ _ _ _ _ q)
noncomputable def TupI(h:Heap)(v:Value)(is:List Int):Prop:=∃a o xs n,v = .ref a/\h.get? a=some o/\o.cls = .type "tuple"/\o.data = .seq xs n/\IntsAre xs.toList is/\is≠[]
theorem keyLt_tups{b:Bool}{Q:Bool->Shared->Prop}{x y:Value}{is js:List Int}(hx:TupI s.heap x is)(hy:TupI s.heap y js)(q:Q (HT.lexLt is js) s):wpAny (model prog w) A (keyLt' (tuples' b) x y) Q E s:=by
 obtain⟨ax,ox,xs,n,rfl,x1,x2,x3,x4,_⟩:=hx
 obtain⟨ay,oy,ys,k,rfl,y1,y2,y3,y4,_⟩:=hy
 refine PySem.W.kat_lt x1 x3 y1 y3 ?_
 have e1:=x4.length
 have e2:=y4.length
 have z:decide (xs.size<ys.size)=decide (is.length<js.length):=by
  rw[←e1,←e2,Array.length_toList,Array.length_toList]
 rw[z]
 exact katLex_ints x4 0 y4 q
end
end L2
namespace L2
open PySem PySem.Spec PyProof.Rows
section
variable {prog:Program} {w:World} {A:Around} {E:Value->Shared->Prop} {s:Shared}
theorem TupI.keep{h h':Heap}{v:Value}{is:List Int}(t:TupI h v is)(k:∀b o,h.get? b=some o->o.cls = .type "tuple"->h'.get? b=some o):TupI h' v is:=by
 obtain⟨a,o,xs,n,e,h1,h2,h3,h4⟩:=t
 exact⟨a,o,xs,n,e,k a o h1 h2,h2,h3,h4⟩
theorem tups_first{h:Heap}:∀{vs:List Value} {ks:List (List Int)},Paired (TupI h) vs ks->∃fs:List Value,PySem.W.KatTups h vs fs/\fs.length=vs.length/\∀v∈fs,∃(i:Int) (t:Tok),v = .int i t:=by
 intro vs ks p
 induction p with
 | nil=>exact⟨[],trivial,rfl,fun _ h=>nomatch h⟩
 | cons x p ih=>
  obtain⟨fs,h1,h2,h3⟩:=ih
  obtain⟨a,o,xs,n,rfl,x1,x2,x3,x4,x5⟩:=x
  cases hl:xs.toList with
  | nil=>
   rw[hl]at x4
   cases x4
   exact absurd rfl x5
  | cons f r=>
   rw[hl]at x4
   cases x4 with
   | cons i t z=>
    refine⟨.int i t::fs,PySem.W.KatTups.cons x1 x2 x3 (by rw[←Array.getElem?_toList,hl];rfl) h1,by rw[List.length_cons,List.length_cons,h2],fun v hv=>?_⟩
    rcases List.mem_cons.mp hv with rfl | hv
    · exact⟨i,t,rfl⟩
    · exact h3 v hv
theorem paired_at{α β:Type}{R:α->β->Prop}:∀{xs:List α} {ys:List β},Paired R xs ys->∀i,i<xs.length->∀(d:α) (e:β),R (xs.getD i d) (ys.getD i e):=by
 intro xs ys p
 induction p with
 | nil=>exact fun i h=>absurd h (Nat.not_lt_zero _)
 | cons x p ih=>
  intro i hi d e
  cases i with
  | zero=>exact x
  | succ i=>exact ih i (Nat.lt_of_succ_lt_succ hi) d e
end
end L2
namespace L2
open PySem PySem.Spec PyProof.Rows
section
variable {prog:Program} {w:World} {A:Around} {E:Value->Shared->Prop} {s:Shared}
theorem getD_range{vs:List Value}:(List.range vs.length).map (fun i=>vs.getD i Value.none)=vs:=by
 apply List.ext_getElem
 · rw[List.length_map,List.length_range]
 · intro i h1 h2
   rw[List.getElem_map,List.getElem_range,List.getD_eq_getElem?_getD,List.getElem?_eq_getElem h2]
   rfl
theorem paired_lenT{α β:Type}{R:α->β->Prop}{xs:List α}{ys:List β}(p:Paired R xs ys):xs.length=ys.length:=by
 induction p with
 | nil=>rfl
 | cons _ _ ih=>rw[List.length_cons,List.length_cons,ih]
noncomputable def fK(ks:List (List Int))(i j:Nat):Bool:=HT.lexLt (ks.getD i []) (ks.getD j [])
theorem nodup_ne{ks:List (List Int)}(nd:ks.Nodup){i j:Nat}(hi:i<ks.length)(hj:j<ks.length)(h:i≠j):ks.getD i []≠ks.getD j []:=by
 rw[List.getD_eq_getElem?_getD,List.getD_eq_getElem?_getD,List.getElem?_eq_getElem hi,List.getElem?_eq_getElem hj]
 exact fun z=>h ((List.getElem_inj nd).mp z)
theorem list_sortT{a:Addr}{vs:List Value}{ks:List (List Int)}{n:Nat}{P:PySem.Fin->Shared->Prop}(ho:s.heap.get? a=some (seqObj "list" vs.toArray n))(hk:Paired (TupI s.heap) vs ks)(h4:vs.length<=4)(nd:ks.Nodup)
 (h:∀p:List Nat,p.Perm (List.range vs.length)->adj (fK ks) p=true->P (.done (.ret .none)) { s with heap:=sortedHeap s.heap a vs (p.map fun i=>vs.getD i Value.none).toArray }) :
 wpAny (model prog w) A (Builtin.«list.sort» ⟨[.ref a],[]⟩) P E s:=by
 have hla:a<s.heap.objs.size:=Heap.lt_size ho
 have hkl:vs.length=ks.length:=paired_lenT hk
 rw[list_sort_plain]
 obtain⟨ep,hz1⟩:∃ep,(s.heap.update a (Obj.mapSeq fun _=>(#[]:Array Value))).get? a=some (seqObj "list" #[] ep):=⟨_,get?_update_seq ho (fun _=>#[])⟩
 refine wpAny_bind (listItems_at ho rfl ?_);refine wpAny_bind (listUpdate_at ho rfl ?_)
 refine wpAny_bind (seqEpoch_at hz1 rfl ?_);refine wpAny_bind (wpAny_newTuple ?_);refine wpAny_bind (wpAny_newList ?_)
 refine wpAny_holding ?_
 have hz6:(((s.heap.update a (Obj.mapSeq fun _=>(#[]:Array Value))).push (seqObj "tuple" vs.toArray 0)).push (seqObj "list" #[] 0)).get? a=some (seqObj "list" #[] ep):=
  Heap.get?_push_of_some _ (Heap.get?_push_of_some _ hz1)
 have kp:∀b o,s.heap.get? b=some o->o.cls = .type "tuple"->(((s.heap.update a (Obj.mapSeq fun _=>(#[]:Array Value))).push (seqObj "tuple" vs.toArray 0)).push (seqObj "list" #[] 0)).get? b=some o:=fun b o e c=>by
  have hb:b≠a:=fun z=>by
   rw[z,ho]at e
   cases e
   exact absurd (show Value.type "list" = Value.type "tuple" from c) (by decide)
  refine Heap.get?_push_of_some _ (Heap.get?_push_of_some _ ?_)
  rw[Heap.get?_update_ne _ _ _ _ hb]
  exact e
 have hk6:Paired (TupI (((s.heap.update a (Obj.mapSeq fun _=>(#[]:Array Value))).push (seqObj "tuple" vs.toArray 0)).push (seqObj "list" #[] 0))) vs ks:=paired_mapP hk fun _ _ t=>t.keep kp
 have e7:∀out:Array Value,sortedHeap s.heap a vs out=(((s.heap.update a (Obj.mapSeq fun _=>(#[]:Array Value))).push (seqObj "tuple" vs.toArray 0)).push (seqObj "list" #[] 0)).update a (Obj.mapSeq fun _=>out):=fun _=>rfl
 show wpAny (model prog w) A _ P E { s with heap:=(((s.heap.update a (Obj.mapSeq fun _=>(#[]:Array Value))).push (seqObj "tuple" vs.toArray 0)).push (seqObj "list" #[] 0)) }
 simp only[e7]at h
 generalize ((s.heap.update a (Obj.mapSeq fun _=>(#[]:Array Value))).push (seqObj "tuple" vs.toArray 0)).push (seqObj "list" #[] 0)=h6 at hz6 hk6 h ⊢
 dsimp only
 by_cases h2:vs.toArray.size<2
 · have h2':vs.length<2:=h2
   rw[if_pos h2,if_pos h2]
   refine wpAny_bind (wpAny_pure ?_);rw[StateT.run_pure]
   refine wpAny_bind (wpAny_pure ?_);dsimp only
   have eo:(arrOf (SortSt.mk' general' (vs.toArray.zip vs.toArray) #[] 7 none)).map (·.2)=vs.toArray:=by
    show(vs.toArray.zip vs.toArray).map (·.2)=vs.toArray
    apply Array.toList_inj.mp
    rw[Array.toList_map,Array.toList_zip]
    exact List.map_snd_zip (Nat.le_refl _)
   rw[eo]
   refine wpAny_bind (seqEpoch_at hz6 rfl ?_);refine wpAny_bind (listUpdate_at hz6 rfl ?_ (hsz2:=by show vs.length<=_;rw[sizeLine_eq];omega))
   simp only[bne_self_eq_false,if_false,Bool.false_eq_true]
   have q:=h (List.range vs.length) (List.Perm.refl _) (by
    have:vs.length=0\/vs.length=1:=by omega
    rcases this with z | z<;>rw[z]<;>rfl)
   rw[getD_range]at q
   exact wpAny_pure q
 · have h2':2<=vs.length:=Nat.le_of_not_lt h2
   rw[if_neg h2,if_neg h2]
   obtain⟨fs,t1,t2,t3⟩:=tups_first hk6
   refine wpAny_bind (PySem.W.kat_kind (T:=.type "int") t1 (by omega) (fun v hv=>?_) rfl ?_)
   · obtain⟨i,t,rfl⟩:=t3 v hv
     exact .of_pure rfl
   obtain⟨p,hr,hp,ha'⟩:=sortP h2' h4 (f:=fK ks) (fun i j hi hj hne=>lexLt_anti _ _ (nodup_ne nd (hkl▸hi) (hkl▸hj) hne)) (fun i j k _ _ _=>lexLt_trans _ _ _)
   have psz:p.size=vs.length:=by
    have:=hp.length_eq
    rw[List.length_range,Array.length_toList]at this
    exact this
   have run:(PySem.W.kas_sort vs.length).kasWp (PySem.W.kas_ask prog w A (tuples' (Value.type "int" != Value.type "tuple")) vs) (fun p' s'=>p'=p/\s' = { s with heap:=h6 }) { s with heap:=h6 }:=
    kRun_wp (n:=vs.length) (f:=fK ks) (fun i j C hi hj _ c=>keyLt_tups (paired_at hk6 i hi _ _) (paired_at hk6 j hj _ _) c) _ hr ⟨rfl,rfl⟩
   refine wpAny_bind (wpAny_mono (PySem.W.kat_run (Q:=fun st' s'=>arrOf st'=p.map (PySem.W.kas_item (vs.toArray.zip vs.toArray))/\failedOf st'=none/\s' = { s with heap:=h6 }) (G:=fun p' s'=>p'=p/\s' = { s with heap:=h6 }) rfl h2' (by omega)
    (fun p' st' s' a1 a2 a3 a4=>⟨a4.1▸a2,a3,a4.2⟩) run) ?_ fun _ _ e=>e)
   rintro⟨⟨⟩,st'⟩ s' ⟨har,hf,rfl⟩
   dsimp only
   rw[PySem.W.kat_snds rfl har]
   refine wpAny_bind (seqEpoch_at hz6 rfl ?_);refine wpAny_bind (listUpdate_at hz6 rfl ?_ (hsz2:=by show(p.toList.map _).length<=_;rw[List.length_map,Array.length_toList,psz,sizeLine_eq];omega))
   rw[hf];simp only[bne_self_eq_false,if_false,Bool.false_eq_true]
   exact wpAny_pure (h p.toList hp ha')
end
end L2
namespace L2
open PySem PySem.Spec PyProof.Rows
section
variable {prog:Program} {w:World} {A:Around} {E:Value->Shared->Prop} {s:Shared}
theorem sorted_collectsT{r:Addr}{Q:Value->Shared->Prop}(hcol:wpAny (model prog w) A.in1 (collect (.ref r)) (fun us s'=>∃(ks:List (List Int)) (h':Heap) (tk:Nat),s' = { s with heap:=h',toks:=tk }/\Paired (TupI h') us ks/\us.length<=4/\ks.Nodup /\
 ∀(h2:Heap) (p:List Nat) (e:Nat),(∀b o,h'.get? b=some o->h2.get? b=some o)->h2.get? h'.objs.size=some (seqObj "list" (p.map fun i=>us.getD i Value.none).toArray e)->p.Perm (List.range us.length)->adj (fK ks) p=true->Q (.ref h'.objs.size) { s with heap:=h2,toks:=tk }) E s) :
 wpAny (model prog w) A (call (.builtin "sorted") [.ref r]) Q E s:=by
 refine Calls.call_function_entry kind_sorted plain_sorted entry_sorted (args_sorted1 (.ref r)) ?_
 unfold Builtin.«sorted»
 refine wpAny_bind (m:=checkCount "sorted" 1 1 _) (wpAny_pure (wpAny_bind (wpAny_mono hcol (fun us s' z=>?_) fun _ _ e=>e)))
 obtain⟨ks,h',tk,rfl,hT,h4,nd,fin⟩:=z
 refine wpAny_bind (wpAny_newList ?_ (by rw[sizeLine_eq];omega))
 have hoL:(h'.push (seqObj "list" us.toArray 0)).get? h'.objs.size=some (seqObj "list" us.toArray 0):=Heap.get?_push_size _ rfl
 show wpAny _ _ _ _ _ { s with heap:=h'.push (seqObj "list" us.toArray 0),toks:=tk }
 have hT':Paired (TupI (h'.push (seqObj "list" us.toArray 0))) us ks:=paired_mapP hT fun _ _ t=>t.keep fun b o e _=>Heap.get?_push_of_some _ e
 refine wpAny_bind (wpAny_holding (wpAny_call_entry slot_list_sort ⟨_,hoL,rfl⟩ entry_list_sort (list_sortT hoL hT' h4 nd fun p a1 a2=>⟨_,rfl,?_⟩) (args_list_sort _)))
 obtain⟨e,he⟩:=sortedHeap_at (vs:=us) (out:=(p.map fun i=>us.getD i Value.none).toArray) hoL
 refine wpAny_pure ⟨_,rfl,fin _ p e (fun b o q=>?_) he a1 a2⟩
 have hb:=Heap.lt_size q
 rw[sortedHeap_old (Nat.ne_of_lt hb) (by rw[Heap.size_push];exact Nat.lt_succ_of_lt hb)]
 exact Heap.get?_push_of_some _ q
end
noncomputable def adjT:List (List Int)->Bool
 | []=>true
 | [_]=>true
 | x::y::r=>HT.lexLt x y && adjT (y::r)
theorem adj_map{ks:List (List Int)}:∀p:List Nat,adjT (p.map fun i=>ks.getD i [])=adj (fK ks) p
 | []=>rfl
 | [_]=>rfl
 | x::y::r=>by
  show(HT.lexLt _ _ && adjT ((y::r).map fun i=>ks.getD i []))=(fK ks x y && adj (fK ks) (y::r))
  rw[adj_map (y::r)]
  rfl
theorem getD_rangeK{α:Type}{d:α}{ks:List α}:(List.range ks.length).map (fun i=>ks.getD i d)=ks:=by
 apply List.ext_getElem
 · rw[List.length_map,List.length_range]
 · intro i h1 h2
   rw[List.getElem_map,List.getElem_range,List.getD_eq_getElem?_getD,List.getElem?_eq_getElem h2]
   rfl
theorem perm_getD{α:Type}{d:α}{ks:List α}{p:List Nat}(hp:p.Perm (List.range ks.length)):(p.map fun i=>ks.getD i d).Perm ks:=by
 have h:=hp.map fun i=>ks.getD i d
 rw[getD_rangeK]at h
 exact h
theorem paired_pick{α β:Type}{R:α->β->Prop}{xs:List α}{ys:List β}(h:Paired R xs ys)(d:α)(e:β):∀p:List Nat,(∀i∈p,i<xs.length)->Paired R (p.map fun i=>xs.getD i d) (p.map fun i=>ys.getD i e)
 | [],_=>.nil
 | i::p,hi=>.cons (paired_at h i (hi i List.mem_cons_self) d e) (paired_pick h d e p fun j hj=>hi j (List.mem_cons_of_mem _ hj))
theorem paired_join{α β γ:Type}{R:α->β->Prop}{S:α->γ->Prop}{T:β->γ->Prop}(h:∀x y z,R x y->S x z->T y z):∀{xs:List α} {ys:List β} {zs:List γ},Paired R xs ys->Paired S xs zs->Paired T ys zs:=by
 intro xs ys zs p
 induction p generalizing zs with
 | nil=>
  intro q
  cases q
  exact .nil
 | cons x p ih=>
  intro q
  cases q with
  | cons y q=>exact .cons (h _ _ _ x y) (ih q)
noncomputable def TupsAt(K:PySem.W.Frag)(H:Hp)(ys:List V)(ks:List (List Int)):Prop:=Paired (fun(y:V) (k:List Int)=>∃t,y = .ref t/\SqT K H t (k.map V.int)/\k≠[]) ys ks
section
variable {X:Cx}
theorem Inv.tups{pins:List (Addr×Obj)}{σ:St}{H:Hp}{s:Shared}(I:Inv X pins σ H s){ys:List V}{ks:List (List Int)}{its:List Value}(h:TupsAt X.K H ys ks)(r:Vals ys its):Paired (TupI s.heap) its ks:=
 paired_join (R:=RelV) (fun y v k rv z=>by
  obtain⟨t,rfl,hs,hk⟩:=z
  cases rv
  obtain⟨is,r1,p1,_⟩:=I.tuple hs
  obtain⟨o,e1,c1,n,d1⟩:=p1
  exact⟨t,o,is.toArray,n,rfl,e1,c1,d1,intsAre_of r1,hk⟩) r h
end
end L2
namespace L2
open PySem PyProof.Rows
theorem kRun_bind{α β:Type}{n:Nat}{f:Nat->Nat->Bool}{g:α->PySem.W.KasT β}{a:α}:∀{t:PySem.W.KasT α},kRun n f t=some a->kRun n f (t.bind g)=kRun n f (g a)
 | .ret b,e=>by cases e;rfl
 | .ask i j k,e=>by
  show(if _ then kRun n f ((k (f i j)).bind g) else none)=_
  unfold kRun at e
  split at e
  · rename_i h
    rw[if_pos h]
    exact kRun_bind e
  · cases e
theorem kRun_ask{α:Type}{n i j:Nat}{f:Nat->Nat->Bool}{k:Bool->PySem.W.KasT α}(hi:i<n)(hj:j<n)(hne:i≠j):kRun n f (.ask i j k)=kRun n f (k (f i j)):=by
 show(if _ then _ else _)=_
 rw[if_pos]
 rw[decide_eq_true hi,decide_eq_true hj,decide_eq_true hne]
 rfl
structure Pl(n:Nat)(p:Array Nat):Prop where
 sz:p.size=n
 lt:∀i,i<n->p.getD i 0<n
 ne:∀i j,i<n->j<n->i≠j->p.getD i 0≠p.getD j 0
theorem getD_of{p:Array Nat}{i:Nat}(h:i<p.size):p.getD i 0=p.toList[i]'(by simpa using h):=by
 simp[Array.getD,h]
theorem Pl.of{n:Nat}{p:Array Nat}(h:p.toList.Perm (List.range n)):Pl n p:=by
 have hs:p.size=n:=by
  have:=h.length_eq
  simpa using this
 have hd:p.toList.Nodup:=h.nodup_iff.mpr List.nodup_range
 refine⟨hs,fun i hi=>?_,fun i j hi hj hne e=>?_⟩
 · rw[getD_of (by omega)]
   exact List.mem_range.mp (h.mem_iff.mp (List.getElem_mem _))
 · rw[getD_of (by omega),getD_of (by omega)]at e
   exact hne ((List.getElem_inj hd).mp e)
noncomputable def Sto(f:Nat->Nat->Bool)(p:Array Nat)(k:Nat):Prop:=∀i j,i<j->j<k->f (p.getD i 0) (p.getD j 0)=true
noncomputable def Dto(f:Nat->Nat->Bool)(p:Array Nat)(k:Nat):Prop:=∀i j,i<j->j<k->f (p.getD j 0) (p.getD i 0)=true
section
variable {n:Nat} {f:Nat->Nat->Bool} (anti:∀i j,i<n->j<n->i≠j->f i j = !f j i) (tr:∀i j k,i<n->j<n->k<n->f i j=true->f j k=true->f i k=true)
include anti tr
theorem asc_run{p:Array Nat}(hp:Pl n p):∀(u m:Nat),m+u=n->1<=m->Sto f p m->∃r,kRun n f (PySem.W.kas_asc p u m)=some r/\m<=r/\r<=n/\Sto f p r/\(r=n\/f (p.getD r 0) (p.getD (r - 1) 0)=true)
 | 0,m,e,h1,hs=>⟨m,rfl,Nat.le_refl _,by omega,hs,.inl (by omega)⟩
 | u+1,m,e,h1,hs=>by
  unfold PySem.W.kas_asc
  have a1:=hp.lt m (by omega)
  have a2:=hp.lt (m - 1) (by omega)
  have a3:=hp.ne m (m - 1) (by omega) (by omega) (by omega)
  rw[kRun_ask a1 a2 a3]
  cases c:f (p.getD m 0) (p.getD (m - 1) 0) with
  | true=>exact⟨m,by rw[if_pos rfl];rfl,Nat.le_refl _,by omega,hs,.inr c⟩
  | false=>
   rw[if_neg (by simp)]
   have c':f (p.getD (m - 1) 0) (p.getD m 0)=true:=by rw[anti _ _ a2 a1 (Ne.symm a3),c];rfl
   obtain⟨r,e1,e2,e3,e4,e5⟩:=asc_run hp u (m+1) (by omega) (by omega) (fun i j hij hj=>by
    by_cases hjm:j<m
    · exact hs i j hij hjm
    · obtain rfl:j=m:=by omega
      by_cases hi:i=j - 1
      · subst hi;exact c'
      · exact tr _ _ _ (hp.lt _ (by omega)) a2 a1 (hs i (j - 1) (by omega) (by omega)) c')
   exact⟨r,e1,by omega,e3,e4,e5⟩
theorem desc_run{p:Array Nat}(hp:Pl n p):∀(u m:Nat),m+u=n->1<=m->Dto f p m->∃r,kRun n f (PySem.W.kas_desc u p m 0)=some (p,r,0)/\m<=r/\r<=n/\Dto f p r
 | 0,m,e,h1,hs=>⟨m,rfl,Nat.le_refl _,by omega,hs⟩
 | u+1,m,e,h1,hs=>by
  unfold PySem.W.kas_desc
  have a1:=hp.lt m (by omega)
  have a2:=hp.lt (m - 1) (by omega)
  have a3:=hp.ne m (m - 1) (by omega) (by omega) (by omega)
  rw[kRun_ask a1 a2 a3]
  cases c:f (p.getD m 0) (p.getD (m - 1) 0) with
  | true=>
   rw[if_pos rfl,if_neg (by omega)]
   obtain⟨r,e1,e2,e3,e4⟩:=desc_run hp u (m+1) (by omega) (by omega) (fun i j hij hj=>by
    by_cases hjm:j<m
    · exact hs i j hij hjm
    · obtain rfl:j=m:=by omega
      by_cases hi:i=j - 1
      · subst hi;exact c
      · exact tr _ _ _ a1 a2 (hp.lt _ (by omega)) c (hs i (j - 1) (by omega) (by omega)))
   exact⟨r,e1,by omega,e3,e4⟩
  | false=>
   have c':f (p.getD (m - 1) 0) (p.getD m 0)=true:=by rw[anti _ _ a2 a1 (Ne.symm a3),c];rfl
   rw[if_neg (by simp),kRun_ask a2 a1 (Ne.symm a3),c',if_pos rfl]
   exact⟨m,rfl,Nat.le_refl _,by omega,hs⟩
omit anti tr in
theorem rev_at{p:Array Nat}{r:Nat}(hr:r<=p.size)(k:Nat):(PySem.W.kas_rev p 0 r).getD k 0=if k<r then p.getD (r - 1 - k) 0 else p.getD k 0:=by
 unfold PySem.W.kas_rev
 rw[Array.getD_eq_getD_getElem?,Array.getD_eq_getD_getElem?,Array.getD_eq_getD_getElem?,getElem?_mirror_all hr]
 by_cases h:k<r
 · rw[if_pos ⟨Nat.zero_le _,h⟩,if_pos h,Nat.zero_add]
 · rw[if_neg (by omega),if_neg h]
omit anti tr in
theorem rev_perm{p:Array Nat}{r:Nat}(hp:p.toList.Perm (List.range n)):(PySem.W.kas_rev p 0 r).toList.Perm (List.range n):=
 (Array.perm_iff_toList_perm.mp (mirror_perm p 0 r _)).trans hp
theorem count_run{p:Array Nat}(hp:p.toList.Perm (List.range n))(h2:2<=n):∃r q,kRun n f (PySem.W.kas_count n p)=some (r,q)/\1<=r/\r<=n/\q.toList.Perm (List.range n)/\Sto f q r:=by
 have P:=Pl.of hp
 obtain⟨r,e1,e2,e3,e4,e5⟩:=asc_run anti tr P (n - 1) 1 (by omega) (Nat.le_refl _) (fun i j hij hj=>by omega)
 unfold PySem.W.kas_count
 rw[kRun_bind e1]
 by_cases hr:r=n
 · rw[if_pos (by simpa using hr)]
   exact⟨r,p,rfl,e2,e3,hp,e4⟩
 rw[if_neg (by simpa using hr)]
 by_cases h1:r > 1
 · rw[if_pos h1,kRun_ask (P.lt _ (by omega)) (P.lt _ (by omega)) (P.ne _ _ (by omega) (by omega) (by omega)),e4 0 (r - 1) (by omega) (by omega),if_pos rfl]
   exact⟨r,p,rfl,e2,e3,hp,e4⟩
 obtain rfl:r=1:=by omega
 rw[if_neg h1]
 have hD:Dto f p 2:=fun i j hij hj=>by
  obtain rfl:j=1:=by omega
  obtain rfl:i=0:=by omega
  exact e5.resolve_left hr
 obtain⟨m,d1,d2,d3,d4⟩:=desc_run anti tr P (n - 2) 2 (by omega) (by omega) hD
 unfold PySem.W.kas_descPart
 rw[show n - (1+1)=n - 2 by omega,kRun_bind d1]
 show∃r q,kRun n f (if (0:Nat) > 0 then _ else PySem.W.kas_tail3 m n p)=_/\_
 rw[if_neg (Nat.lt_irrefl 0)]
 unfold PySem.W.kas_tail3
 have hq:=rev_perm (r:=m) hp
 obtain⟨k,k1,k2,k3,k4,k5⟩:=asc_run anti tr (Pl.of hq) (n - m) m (by omega) (by omega) (fun i j hij hj=>by
  rw[rev_at (by rw[P.sz];omega),rev_at (by rw[P.sz];omega),if_pos (by omega),if_pos hj]
  exact d4 _ _ (by omega) (by omega))
 rw[kRun_bind k1]
 exact⟨k,_,rfl,by omega,k3,hq,k4⟩
theorem place_run{p:Array Nat}(P:Pl n p){k:Nat}(hk:k<n)(hs:Sto f p k):∀(u l r:Nat),l<=r->r<=k->r - l<=u->(∀i,i<l->f (p.getD i 0) (p.getD k 0)=true)->(∀i,r<=i->i<k->f (p.getD k 0) (p.getD i 0)=true) ->
 ∃q,kRun n f (PySem.W.kas_place p k u l r)=some q/\q<=k/\(∀i,i<q->f (p.getD i 0) (p.getD k 0)=true)/\(∀i,q<=i->i<k->f (p.getD k 0) (p.getD i 0)=true)
 | 0,l,r,hl,hr,hu,ha,hb=>⟨l,rfl,by omega,ha,fun i h1 h2=>hb i (by omega) h2⟩
 | u+1,l,r,hl,hr,hu,ha,hb=>by
  unfold PySem.W.kas_place
  by_cases h:l >= r
  · rw[if_pos h]
    exact⟨l,rfl,by omega,ha,fun i h1 h2=>hb i (by omega) h2⟩
  rw[if_neg h]
  have b1:l<=(l+r) / 2:=by omega
  have b2:(l+r) / 2<r:=by omega
  have a1:=P.lt k hk
  have a2:=P.lt ((l+r) / 2) (by omega)
  have a3:=P.ne k ((l+r) / 2) hk (by omega) (by omega)
  rw[kRun_ask a1 a2 a3]
  cases c:f (p.getD k 0) (p.getD ((l+r) / 2) 0) with
  | true=>
   rw[if_pos rfl]
   refine place_run P hk hs u l _ b1 (by omega) (by omega) ha fun i h1 h2=>?_
   by_cases hi:i=(l+r) / 2
   · subst hi;exact c
   · exact tr _ _ _ a1 a2 (P.lt i (by omega)) c (hs _ i (by omega) h2)
  | false=>
   rw[if_neg (by simp)]
   have c':f (p.getD ((l+r) / 2) 0) (p.getD k 0)=true:=by rw[anti _ _ a2 a1 (Ne.symm a3),c];rfl
   refine place_run P hk hs u _ r b2 hr (by omega) (fun i h1=>?_) hb
   by_cases hi:i=(l+r) / 2
   · subst hi;exact c'
   · exact tr _ _ _ (P.lt i (by omega)) a2 a1 (hs i _ (by omega) (by omega)) c'
theorem bin_run:∀(u k:Nat) {p:Array Nat},k+u=n->p.toList.Perm (List.range n)->Sto f p k->∃q,kRun n f (PySem.W.kas_bin u p k)=some q/\q.toList.Perm (List.range n)/\Sto f q n
 | 0,k,p,e,hp,hs=>⟨p,rfl,hp,by rw[←e];exact hs⟩
 | u+1,k,p,e,hp,hs=>by
  have P:=Pl.of hp
  unfold PySem.W.kas_bin
  obtain⟨l,e1,e2,e3,e4⟩:=place_run anti tr P (k:=k) (by omega) hs k 0 k (Nat.zero_le _) (Nat.le_refl _) (by omega) (fun i h=>absurd h (Nat.not_lt_zero _)) (fun i h1 h2=>by omega)
  rw[kRun_bind e1]
  have hq:(bubble p k (k - l)).toList.Perm (List.range n):=(Array.perm_iff_toList_perm.mp (bubble_perm p k _)).trans hp
  have at':∀i,(bubble p k (k - l)).getD i 0=if i=l then p.getD k 0 else if l<i/\i<=k then p.getD (i - 1) 0 else p.getD i 0:=by
   intro i
   have z:=getElem?_bubble (xs:=p) (src:=k) (by rw[P.sz];omega) (k - l) (by omega) i
   rw[show k - (k - l)=l by omega]at z
   rw[Array.getD_eq_getD_getElem?,z]
   split
   · rw[Array.getD_eq_getD_getElem?]
   · split
     · rw[Array.getD_eq_getD_getElem?]
     · rw[Array.getD_eq_getD_getElem?]
  refine bin_run u (k+1) (by omega) hq fun i j hij hj=>?_
  rw[at',at']
  by_cases h1:i=l
  · rw[if_pos h1,if_neg (by omega),if_pos ⟨by omega,by omega⟩]
    exact e4 _ (by omega) (by omega)
  rw[if_neg h1]
  by_cases h2:j=l
  · rw[if_pos h2,if_neg (by omega)]
    exact e3 i (by omega)
  rw[if_neg h2]
  by_cases h3:l<i
  · rw[if_pos ⟨h3,by omega⟩,if_pos ⟨by omega,by omega⟩]
    exact hs _ _ (by omega) (by omega)
  rw[if_neg (by omega)]
  by_cases h4:l<j
  · rw[if_pos ⟨h4,by omega⟩]
    exact hs _ _ (by omega) (by omega)
  rw[if_neg (by omega)]
  exact hs _ _ hij (by omega)
theorem sortPn(h2:2<=n):∃p:Array Nat,kRun n f (PySem.W.kas_sort n)=some p/\p.toList.Perm (List.range n)/\Sto f p n:=by
 obtain⟨r,q,e1,e2,e3,e4,e5⟩:=count_run anti tr (p:=(List.range n).toArray) (by simp) h2
 unfold PySem.W.kas_sort
 rw[kRun_bind e1]
 by_cases h:r<n
 · show∃p,kRun n f (if r<n then _ else _)=_/\_
   rw[if_pos h]
   show∃p,kRun n f (PySem.W.kas_bin (n - max r 1) q (max r 1))=_/\_
   rw[show max r 1=r by omega]
   exact bin_run anti tr (n - r) r (by omega) e4 e5
 · show∃p,kRun n f (if r<n then _ else _)=_/\_
   rw[if_neg h]
   obtain rfl:r=n:=by omega
   exact⟨q,rfl,e4,e5⟩
end
end L2
namespace HT
open PySem PyProof.Rows
section
open PySem.SeqAt
open PySem.AutoSeq1 (wpAny_loadPart')
open PySem.MeetsSeq PySem.MeetsSeq2 PySem.MeetsSeq3
end
section
variable {prog:Program} {w:World} {A:Around} {E:Value->Shared->Prop} {s:Shared}
end
end HT
namespace L2
open PySem PySem.Spec PyProof.Rows
section
variable {X:Cx}
end
end L2
namespace L2
open PySem
noncomputable def Msk(m:Nat):Prop:=m=7\/m=15\/m=31\/m=63
noncomputable def itI(mask:Nat):Nat->Nat->Nat
 | 0,i=>i
 | m+1,i=>itI mask m ((i * 5+1) % (mask+1))
noncomputable def visits(mask:Nat):Bool:=(List.range (mask+1)).all fun i=>(List.range (mask+1)).all fun j=>(List.range (mask+1)).any fun m=>itI mask m i == j
theorem visits_ok{mask:Nat}(h:Msk mask):visits mask=true:=by
 rcases h with rfl | rfl | rfl | rfl
 · decide +kernel
 · decide +kernel
 · decide +kernel
 · decide +kernel
theorem visits_at{mask i j:Nat}(h:Msk mask)(hi:i<=mask)(hj:j<=mask):∃m,m<=mask/\itI mask m i=j:=by
 have:=visits_ok h
 unfold visits at this
 rw[List.all_eq_true]at this
 have:=this i (List.mem_range.mpr (by omega))
 rw[List.all_eq_true]at this
 have:=this j (List.mem_range.mpr (by omega))
 obtain⟨m,hm,e⟩:=List.any_eq_true.mp this
 exact⟨m,by have:=List.mem_range.mp hm;omega,eq_of_beq e⟩
noncomputable def itP(mask:Nat):Nat->Nat->Nat->Nat×Nat
 | 0,i,p=>(i,p)
 | m+1,i,p=>itP mask m ((i * 5+1+p / 32) % (mask+1)) (p / 32)
theorem itP_zero(mask:Nat):∀(m i:Nat),itP mask m i 0=(itI mask m i,0)
 | 0,i=>rfl
 | m+1,i=>by
  show itP mask m ((i * 5+1+0 / 32) % (mask+1)) (0 / 32)=_
  rw[Nat.zero_div,Nat.add_zero,itP_zero mask m]
  rfl
theorem itP_add(mask:Nat):∀(m k i p:Nat),itP mask (m+k) i p=itP mask k (itP mask m i p).1 (itP mask m i p).2
 | 0,k,i,p=>by rw[Nat.zero_add];rfl
 | m+1,k,i,p=>by
  rw[Nat.succ_add]
  exact itP_add mask m k _ _
theorem itP_snd(mask:Nat):∀(m i p:Nat),(itP mask m i p).2=p / 32 ^ m
 | 0,i,p=>by simp[itP]
 | m+1,i,p=>by
  show(itP mask m _ (p / 32)).2=_
  rw[itP_snd mask m,Nat.div_div_eq_div_mul,Nat.pow_succ,Nat.mul_comm]
theorem itP_le(mask:Nat):∀(m i p:Nat),i<=mask->(itP mask m i p).1<=mask
 | 0,i,p,h=>h
 | m+1,i,p,h=>itP_le mask m _ _ (Nat.le_of_lt_succ (Nat.mod_lt (i * 5+1+p / 32) (Nat.succ_pos mask)))
theorem all_met{mask i p j:Nat}(h:Msk mask)(hi:i<=mask)(hp:p<2 ^ 64)(hj:j<=mask):∃m,m<SetTable.turns mask/\(itP mask m i p).1=j:=by
 have h2:(itP mask 13 i p).2=0:=by
  rw[itP_snd]
  exact Nat.div_eq_of_lt (Nat.lt_trans hp (by decide))
 obtain⟨m,hm,e⟩:=visits_at h (itP_le mask 13 i p hi) hj
 refine⟨13+m,by unfold SetTable.turns;omega,?_⟩
 rw[itP_add,h2,itP_zero]
 exact e
theorem free_none(mask:Nat)(ow:Array (Option Nat)):∀(f i p:Nat),SetTable.layClean.free mask ow f i p=none->∀m,m<f->(ow.getD (itP mask m i p).1 (some 0)).isNone=false
 | 0,i,p,_,m,h=>absurd h (Nat.not_lt_zero _)
 | f+1,i,p,e,m,h=>by
  unfold SetTable.layClean.free at e
  cases hq:(List.range (SetTable.runEnd mask i+1 - i)).find? fun k=>(ow.getD (i+k) (some 0)).isNone with
  | some k=>rw[hq]at e;cases e
  | none=>
   rw[hq]at e
   cases m with
   | zero=>
    have:=List.find?_eq_none.mp hq 0 (List.mem_range.mpr (by unfold SetTable.runEnd;split<;>omega))
    rw[Nat.add_zero]at this
    cases hz:(ow.getD i (some 0)).isNone with
    | true=>exact absurd hz this
    | false=>exact hz
   | succ m=>exact free_none mask ow f _ _ e m (by omega)
theorem free_some(mask:Nat)(ow:Array (Option Nat)):∀(f i p j:Nat),SetTable.layClean.free mask ow f i p=some j->(ow.getD j (some 0)).isNone=true
 | 0,i,p,j,e=>by cases e
 | f+1,i,p,j,e=>by
  unfold SetTable.layClean.free at e
  cases hq:(List.range (SetTable.runEnd mask i+1 - i)).find? fun k=>(ow.getD (i+k) (some 0)).isNone with
  | some k=>
   rw[hq]at e
   cases e
   exact List.find?_some (p:=fun k=>(ow.getD (i+k) (some 0)).isNone) hq
  | none=>
   rw[hq]at e
   exact free_some mask ow f _ _ j e
theorem set_perm{α:Type}:∀{l:List (Option α)} {j:Nat} {x:α},l[j]? = some none->((l.set j (some x)).filterMap id).Perm (x::l.filterMap id)
 | [],j,x,h=>by cases h
 | o::l,0,x,h=>by
  cases h
  simp
 | o::l,j+1,x,h=>by
  have ih:=set_perm (l:=l) (j:=j) (x:=x) h
  rw[List.set_cons_succ]
  cases o with
  | none=>simpa using ih
  | some y=>
   simp only[List.filterMap_cons,id]
   exact(ih.cons y).trans (.swap ..)
structure Lay(mask:Nat)(r:Array (Option Nat)×Nat):Prop where
 size:r.1.size=mask+1
 perm:(r.1.toList.filterMap id).Perm (List.range r.2)
theorem Lay.step{mask:Nat}(hm:Msk mask){r:Array (Option Nat)×Nat}(x:Lay mask r)(hk:r.2<=mask)(h:Int):∃j,SetTable.layClean.free mask r.1 (SetTable.turns mask) (SetTable.bits h % (mask+1)) (SetTable.bits h)=some j/\Lay mask (r.1.setIfInBounds j (some r.2),r.2+1):=by
 obtain⟨ow,k⟩:=r
 dsimp only at *
 have hz:ow.size=mask+1:=x.size
 have hlen:=x.perm.length_eq
 dsimp only at hlen
 rw[List.length_range]at hlen
 cases hf:SetTable.layClean.free mask ow (SetTable.turns mask) (SetTable.bits h % (mask+1)) (SetTable.bits h) with
 | none=>
  exfalso
  have hall:∀j,j<=mask->(ow.getD j (some 0)).isNone=false:=fun j hj=>by
   obtain⟨m,h1,h2⟩:=all_met hm (i:=SetTable.bits h % (mask+1)) (p:=SetTable.bits h) (Nat.le_of_lt_succ (Nat.mod_lt (SetTable.bits h) (Nat.succ_pos mask))) (by
    unfold SetTable.bits
    have h1:=Int.emod_lt_of_pos h (show(0:Int)<2 ^ 64 by decide)
    have h0:=Int.emod_nonneg h (show(2 ^ 64:Int)≠0 by decide)
    omega) hj
   have:=free_none mask ow _ _ _ hf m h1
   rwa [h2]at this
  have:(ow.toList.filterMap id).length=ow.toList.length:=by
   rw[List.length_filterMap_eq_countP,List.countP_eq_length]
   intro o ho
   obtain⟨j,hj,e⟩:=List.mem_iff_getElem.mp ho
   rw[Array.length_toList]at hj
   have:=hall j (by omega)
   rw[Array.getD_eq_getD_getElem?,Array.getElem?_eq_getElem hj]at this
   rw[←e,Array.getElem_toList]
   cases hq:ow[j]with
   | none=>rw[hq]at this;cases this
   | some y=>rfl
  have e9:ow.toList.length=ow.size:=Array.length_toList
  omega
 | some j=>
  have hs:=free_some mask ow _ _ _ _ hf
  have hj:j<ow.size:=by
   refine Nat.lt_of_not_le fun z=>?_
   rw[Array.getD_eq_getD_getElem?,Array.getElem?_eq_none z]at hs
   cases hs
  have hn:ow.toList[j]? = some none:=by
   rw[Array.getD_eq_getD_getElem?,Array.getElem?_eq_getElem hj]at hs
   rw[Array.getElem?_toList,Array.getElem?_eq_getElem hj]
   cases hq:ow[j]with
   | none=>rfl
   | some y=>rw[hq]at hs;cases hs
  refine⟨j,rfl,⟨by simp[hz],?_⟩⟩
  dsimp only
  rw[Array.toList_setIfInBounds,List.range_succ]
  exact(set_perm hn).trans ((x.perm.cons k).trans (List.perm_append_singleton k _).symm)
theorem fold_lay{mask:Nat}(hm:Msk mask):∀(hs:List Int) (r:Array (Option Nat)×Nat),Lay mask r->r.2+hs.length<=mask+1->∃r',hs.foldl (fun(acc:Option (Array (Option Nat)×Nat)) h=>do
 let (owner,k) ←acc
 let j ←SetTable.layClean.free mask owner (SetTable.turns mask) (SetTable.bits h % (mask+1)) (SetTable.bits h)
 pure (owner.setIfInBounds j (some k),k+1)) (some r)=some r'/\Lay mask r'/\r'.2=r.2+hs.length
 | [],r,x,_=>⟨r,rfl,x,rfl⟩
 | h::hs,r,x,hl=>by
  rw[List.length_cons]at hl
  obtain⟨j,e,x'⟩:=x.step hm (by omega) h
  obtain⟨r',e1,x1,e2⟩:=fold_lay hm hs _ x' (by dsimp only;omega)
  refine⟨r',?_,x1,by rw[e2,List.length_cons];dsimp only;omega⟩
  rw[List.foldl_cons,←e1]
  congr 1
  show(SetTable.layClean.free mask r.1 (SetTable.turns mask) (SetTable.bits h % (mask+1)) (SetTable.bits h)).bind _=_
  rw[e]
  rfl
theorem laid_ok{mask f m:Nat}{led plain:Bool}{hs:Array Int}(hm:Msk mask)(hl:hs.size<=mask):∃t order,SetTable.laid mask f m led plain hs=some (t,order)/\order.toList.Perm (List.range hs.size)/\t.fits hs.size=true/\t.led=led/\t.plain=plain/\t.mask=mask:=by
 have x0:Lay mask (Array.replicate (mask+1) none,0):=⟨by simp,by simp⟩
 obtain⟨r,e,x,e2⟩:=fold_lay hm hs.toList _ x0 (by dsimp only;rw[Array.length_toList];omega)
 have hc:SetTable.layClean mask hs=some r.1:=by
  unfold SetTable.layClean
  rw[←Array.foldl_toList,e]
  rfl
 dsimp only at e2
 rw[Nat.zero_add,Array.length_toList]at e2
 have ho:((List.range (mask+1)).filterMap fun j=>(r.1.getD j none).map (j,·)).map (·.2)=r.1.toList.filterMap id:=by
  have e3:r.1.toList=(List.range (mask+1)).map fun j=>r.1.getD j none:=by
   refine List.ext_getElem? fun j=>?_
   rw[List.getElem?_map,Array.getElem?_toList]
   by_cases hj:j<mask+1
   · rw[List.getElem?_range hj,Array.getElem?_eq_getElem (by rw[x.size];exact hj),Option.map_some,Array.getD_eq_getD_getElem?,Array.getElem?_eq_getElem (by rw[x.size];exact hj)]
     rfl
   · rw[Array.getElem?_eq_none (by rw[x.size];omega),List.getElem?_eq_none (by rw[List.length_range];omega)]
     rfl
  rw[e3,List.filterMap_map,List.map_filterMap]
  congr 1
  funext j
  show Option.map _ (Option.map _ (r.1.getD j none))=r.1.getD j none
  cases r.1.getD j none<;>rfl
 have hlen:((List.range (mask+1)).filterMap fun j=>(r.1.getD j none).map (j,·)).length=hs.size:=by
  have:=congrArg List.length ho
  rw[List.length_map,x.perm.length_eq,List.length_range,e2]at this
  exact this
 unfold SetTable.laid
 rw[hc]
 refine⟨_,_,rfl,?_,?_,rfl,rfl,rfl⟩
 · show(((List.range (mask+1)).filterMap fun j=>(r.1.getD j none).map (j,·)).map (·.2)).Perm _
   rw[ho,←e2]
   exact x.perm
 · unfold SetTable.fits SetTable.fill
   have hp:((((List.range (mask+1)).filterMap fun j=>(r.1.getD j none).map (j,·)).map (·.1)).toArray).size=hs.size:=by
    rw[List.size_toArray,List.length_map]
    exact hlen
   have e9:(#[]:Array Nat).size=0:=rfl
   rw[Bool.and_eq_true]
   refine⟨beq_iff_eq.mpr hp,decide_eq_true ?_⟩
   show _+(#[]:Array Nat).size<=mask
   rw[e9,Nat.add_zero]
   exact Nat.le_trans (Nat.le_of_eq hp) hl
end L2
namespace L2
open PySem PySem.Spec PyProof.Rows
noncomputable def setBy(w:World):Bool:=w.params.followText "set-order"
noncomputable def keyE(e:Int×Value):Str:=match e.2 with
 | .str y _=>y
 | _=>Str.ofString ""
noncomputable def GoodE(w:World)(e:Int×Value):Prop:=∃y tk,e=(keyH w (.inr y),Value.str y tk)
structure TObj(w:World)(o:Obj)(es:Array (Int×Value))(ep:Nat)(t:SetTable)(xs:List Str):Prop where
 ex:o.ExactSet
 dat:o.data = .set es ep t
 good:∀e∈es.toList,GoodE w e
 perm:(es.toList.map keyE).Perm xs
 nd:xs.Nodup
 len:xs.length<=1000
 fit:t.fits es.size=true
 led:t.led = !setBy w
 pl:es.size≠0->t.plain=false
 msk:es.size=0->Msk t.mask
noncomputable def TxS(w:World)(h:Heap)(a:Addr)(xs:List Str):Prop:=∃o es ep t,h.get? a=some o/\TObj w o es ep t xs
theorem TxS.at'{w:World}{h h':Heap}{a:Addr}{xs:List Str}(x:TxS w h a xs)(k:∀o,h.get? a=some o->h'.get? a=some o):TxS w h' a xs:=
 x.elim fun o zq491=>zq491.elim fun es zq492=>zq492.elim fun ep zq493=>zq493.elim fun t zq494=>zq494.elim fun e r=>⟨o,es,ep,t,k o e,r⟩
theorem TxS.typeIs{w:World}{s:Shared}{a:Addr}{xs:List Str}(x:TxS w s.heap a xs):s.TypeIs (.ref a) "set":=x.elim fun o zq495=>zq495.elim fun _ zq496=>zq496.elim fun _ zq497=>zq497.elim fun _ zq498=>zq498.elim fun e r=>⟨o,e,r.ex.1⟩
section
variable {w:World} {P:Program} {o:Obj} {es:Array (Int×Value)} {ep:Nat} {t:SetTable} {xs:List Str}
theorem TObj.elems(x:TObj w o es ep t xs):ElemsOf (mixKind P w) es.toList:=fun e he=>by
 obtain⟨y,tk,rfl⟩:=x.good e he
 exact⟨⟨.inr y,mixKind_str P w y tk,rfl⟩,rfl⟩
theorem TObj.size(x:TObj w o es ep t xs):es.size=xs.length:=by
 have:=x.perm.length_eq
 rw[List.length_map,Array.length_toList]at this
 exact this
theorem TObj.bnd(x:TObj w o es ep t xs):es.size<scanBound:=by
 rw[x.size]
 have:=x.len
 show _<4096
 omega
theorem key_is{y:Str}{e:Int×Value}(g:GoodE w e):(mixKind P w).is (.inr y) e.2=true↔keyE e=y:=by
 obtain⟨z,tk,rfl⟩:=g
 constructor
 · intro h
   have:=(mixKind P w).inj _ _ _ h (mixKind_str P w z tk)
   injection this with this
   exact this.symm
 · intro h
   rw[←h]
   exact mixKind_str P w z tk
theorem TObj.find_some(x:TObj w o es ep t xs){y:Str}{j:Nat}(h:List.findIdx? (fun e=>(mixKind P w).is (.inr y) e.2) es.toList=some j):y∈xs:=by
 obtain⟨hj,hp,_⟩:=List.findIdx?_eq_some_iff_getElem.mp h
 have hm:=List.getElem_mem hj
 exact x.perm.mem_iff.mp (List.mem_map.mpr ⟨_,hm,(key_is (x.good _ hm)).mp hp⟩)
theorem TObj.find_none(x:TObj w o es ep t xs){y:Str}(h:List.findIdx? (fun e=>(mixKind P w).is (.inr y) e.2) es.toList=none):y∉xs:=fun hy=>by
 obtain⟨e,he,hk⟩:=List.mem_map.mp (x.perm.mem_iff.mpr hy)
 have:=List.findIdx?_eq_none_iff.mp h e he
 rw[(key_is (x.good _ he)).mpr hk]at this
 cases this
end
theorem layNew_led(t:SetTable)(es:Array (Int×Value))(h:Int)(x:Value):(layNew t es h x).2.1.led=t.led:=by
 unfold layNew
 split
 · dsimp only
   unfold SetTable.orStandIn
   split<;>rfl
 · rfl
theorem laid_led{mask f m:Nat}{led plain:Bool}{hs:Array Int}{r:SetTable×Array Nat}(e:SetTable.laid mask f m led plain hs=some r):r.1.led=led/\r.1.plain=plain/\r.1.mask=mask/\r.1.dummies = #[]:=by
 unfold SetTable.laid at e
 cases hq:SetTable.layClean mask hs with
 | none=>rw[hq]at e;cases e
 | some ow=>
  rw[hq]at e
  cases e
  exact⟨rfl,rfl,rfl,rfl⟩
theorem relayAll_led(t:SetTable)(es:Array (Int×Value))(n:Nat):(relayAll t es n).2.1.led=t.led/\(t.plain=false->(relayAll t es n).2.1.plain=false):=by
 unfold relayAll
 split
 · rename_i t' order e
   dsimp only
   split
   · obtain⟨h1,h2,_⟩:=laid_led e
     exact⟨h1,fun z=>h2.trans z⟩
   · exact⟨rfl,fun _=>rfl⟩
 · exact⟨rfl,fun _=>rfl⟩
noncomputable def addS(xs:List Str)(y:Str):List Str:=if y∈xs then xs else xs++[y]
theorem addS_nd{xs:List Str}{y:Str}(h:xs.Nodup):(addS xs y).Nodup:=by
 unfold addS
 split
 · exact h
 · rename_i z
   rw[List.nodup_append]
   exact⟨h,by simp,fun a ha b hb=>by rw[List.mem_singleton.mp hb];exact fun q=>z (q▸ha)⟩
theorem addS_mem{xs:List Str}{y z:Str}:z∈addS xs y↔z∈xs\/z=y:=by
 unfold addS
 split
 · rename_i h
   exact⟨.inl,fun q=>q.elim id fun q=>q▸h⟩
 · simp
theorem addS_len(xs:List Str)(y:Str):(addS xs y).length<=xs.length+1:=by
 unfold addS
 split
 · omega
 · simp
section
variable {prog:Program} {w:World} {A:Around} {E:Value->Shared->Prop} {s:Shared} {a:Addr}
theorem TObj.store{h:Heap}{o:Obj}{es es':Array (Int×Value)}{ep:Nat}{t t':SetTable}(ho:h.get? a=some o)(x:o.ExactSet)(d:o.data = .set es ep t):(h.update a (Obj.putSet es' t')).get? a=some { o with data:=.set es' (ep+1) t' }:=by
 have q:=Heap.get?_update_self (Obj.putSet es' t') ho (by rw[putSet_of es' t' d];rfl)
 rwa [putSet_of es' t' d]at q
theorem tset_tail{g:Bool->Sem Unit}(hg:∀(b:Bool) (s₁:Shared) (Q':Unit->Shared->Prop),Q' () s₁->wpAny (model prog w) A (g b) Q' E s₁){o:Obj}{es es1:Array (Int×Value)}{ep:Nat}{t t2:SetTable}{ys:List Str}{wd:Bool}{R:Option Bool->Shared->Prop}
 (ho:s.heap.get? a=some o) (hx:o.ExactSet) (hd:o.data = .set es ep t) (gd:∀e∈es1.toList,GoodE w e) (pm:(es1.toList.map keyE).Perm ys) (nd:ys.Nodup) (ln:ys.length<=1000) (hf:t2.fits es1.size=true) (ld:t2.led = !setBy w) (pl:t2.plain=false) (ne:es1.size≠0)
 (h:∀h',Heap.SameBut a s.heap h'->TxS w h' a ys->R (some true) { s with heap:=h' }) :
 wpAny (model prog w) A (do { storeSet a es1 t2;if (!wd && t2.tooFull)=true then do { g (relayAll t2 es1 (SetTable.grown es1.size)).2.2;storeSet a (relayAll t2 es1 (SetTable.grown es1.size)).1 (relayAll t2 es1 (SetTable.grown es1.size)).2.1;pure (some true) } else pure (some true) }) R E s:=by
 have sz:es1.size=ys.length:=by have:=pm.length_eq;rw[List.length_map,Array.length_toList]at this;exact this
 have b1:es1.size<scanBound:=by rw[sz];show _<4096;omega
 refine wpAny_bind (wpAny_storeSet_of ho hd ?_ (fits_of_scanBound b1))
 have o1:=TObj.store (es':=es1) (t':=t2) ho hx hd
 have sb:=Heap.SameBut.update s.heap a (Obj.putSet es1 t2)
 split
 · have hp:=relayAll_perm t2 es1 (SetTable.grown es1.size)
   have hfr:=relayAll_fits t2 es1 (SetTable.grown es1.size)
   have hld:=relayAll_led t2 es1 (SetTable.grown es1.size)
   generalize hR:relayAll t2 es1 (SetTable.grown es1.size)=Rl at hp hfr hld ⊢
   obtain⟨es2,t3,g2⟩:=Rl
   dsimp only at hp hfr hld ⊢
   have sz2:es2.size=es1.size:=by rw[←Array.length_toList,hp.length_eq,Array.length_toList]
   refine wpAny_bind (hg _ _ _ (wpAny_bind (wpAny_storeSet_of o1 rfl ?_ (fits_of_scanBound (by rw[sz2];exact b1)))))
   have o2:=TObj.store (es':=es2) (t':=t3) o1 hx rfl
   exact wpAny_pure (h _ (sb.trans (Heap.SameBut.update _ a _)) ⟨_,es2,_,t3,o2,hx,rfl,fun e he=>gd e (hp.mem_iff.mp he),(hp.map keyE).trans pm,nd,ln,hfr,hld.1.trans ld,fun _=>hld.2 pl,fun z=>absurd (sz2.symm.trans z) ne⟩)
 · exact wpAny_pure (h _ sb ⟨_,es1,_,t2,o1,hx,rfl,gd,pm,nd,ln,hf,ld,fun _=>pl,fun z=>absurd z ne⟩)
theorem tset_add{xs:List Str}{y:Str}{tk:Tok}{Q:Bool->Shared->Prop}(hS:TxS w s.heap a xs)(hl:xs.length<1000)(h:∀b h',Heap.SameBut a s.heap h'->TxS w h' a (addS xs y)->Q b { s with heap:=h' }) :
 wpAny (model prog w) A (setAddHashed a (.str y tk) (keyH w (.inr y))) Q E s:=by
 obtain⟨o,es,ep,t,ho,x⟩:=hS
 have el:ElemsOf (mixKind prog w) es.toList:=x.elems
 unfold setAddHashed setAddHashedIn
 refine wpAny_holding (wpAny_bind (wpAny_setState_of ho x.dat x.fit ?_))
 dsimp only
 rw[byScan_of (x:=.str y tk) rfl x.bnd el]
 simp only[↓reduceIte]
 unfold setAddByScan
 refine wpAny_bind (wpAny_bind (wpAny_rule (wpAny_bind (wpAny_setScan_of (knd:=mixKind prog w) (k:=.inr y) (mixKind_str prog w y tk) ho x.dat x.fit el ?_))))
 cases hr:List.findIdx? (fun e=>(mixKind prog w).is (.inr y) e.2) es.toList with
 | some j=>
  dsimp only
  refine wpAny_pure (wpAny_pure ?_)
  have hy:=x.find_some hr
  exact h false s.heap (Heap.SameBut.refl a s.heap) (by unfold addS;rw[if_pos hy];exact⟨o,es,ep,t,ho,x⟩)
 | none=>
  dsimp only
  have hy:=x.find_none hr
  have hperm:=layNew_perm t es (keyH w (.inr y)) (.str y tk)
  have hfits:=layNew_fits t es (keyH w (.inr y)) (.str y tk)
  have hled:=layNew_led t es (keyH w (.inr y)) (.str y tk)
  have e0:(mixKind prog w).hash (.inr y)=keyH w (.inr y):=rfl
  try rw[e0]
  generalize hL:layNew t es (keyH w (.inr y)) (.str y tk)=L at hperm hfits hled ⊢
  obtain⟨es1,t1,wd,gave⟩:=L
  dsimp only at hperm hfits hled ⊢
  rw[Array.toList_push]at hperm
  have gd:∀e∈es1.toList,GoodE w e:=fun e he=>by
   rcases List.mem_append.mp (hperm.mem_iff.mp he) with z | z
   · exact x.good e z
   · exact⟨y,tk,List.mem_singleton.mp z⟩
  have ea:addS xs y=xs++[y]:=by unfold addS;rw[if_neg hy]
  have pm:(es1.toList.map keyE).Perm (addS xs y):=by
   rw[ea]
   refine(hperm.map keyE).trans ?_
   rw[List.map_append]
   exact x.perm.append_right _
  have ne:es1.size≠0:=fun z=>by
   have:=pm.length_eq
   rw[ea,List.length_map,Array.length_toList,z,List.length_append]at this
   simp at this
  have ln:(addS xs y).length<=1000:=by have:=addS_len xs y;omega
  have hgw:∀(b:Bool) {s₁:Shared} {Q':Unit->Shared->Prop},Q' () s₁->wpAny (model prog w) A (match b with | true=>rule "set.scan.the-table-gave-way" | false=>pure ()) Q' E s₁:=fun b s₁ Q' hq=>by
   cases b
   · exact wpAny_pure hq
   · exact wpAny_rule hq
  refine wpAny_bind (hgw _ ?_)
  have fin:∀h',Heap.SameBut a s.heap h'->TxS w h' a (addS xs y)->wpAny (model prog w) A (pure true:Sem Bool) Q E { s with heap:=h' }:=fun h' k z=>wpAny_pure (h true h' k z)
  split
  · refine wpAny_bind ?_
    rw[hashByValue_scannable (x:=.str y tk) 8 rfl]
    refine wpAny_pure ?_
    refine tset_tail ?_ ho x.ex x.dat gd pm (addS_nd x.nd) ln ?_ ?_ ?_ ne (fun h' k z=>fin h' k z)
    · intro b s₁ Q' hq
      cases b
      · exact wpAny_pure hq
      · exact wpAny_rule hq
    · exact SetTable.fits_plain_off hfits
    · exact hled.trans x.led
    · rfl
  · rename_i hp1
    refine wpAny_bind (wpAny_pure ?_)
    simp only[↓reduceIte]
    refine tset_tail ?_ ho x.ex x.dat gd pm (addS_nd x.nd) ln hfits (hled.trans x.led) (by simpa using hp1) ne (fun h' k z=>fin h' k z)
    intro b s₁ Q' hq
    cases b
    · exact wpAny_pure hq
    · exact wpAny_rule hq
end
theorem idx_perm{α:Type}:∀{l:List α} {i:Nat} (h:i<l.length),(l[i]::l.eraseIdx i).Perm l
 | [],i,h=>absurd h (Nat.not_lt_zero _)
 | x::r,0,h=>.refl _
 | x::r,i+1,h=>by
  have h':i<r.length:=by simpa using h
  show(r[i]::x::r.eraseIdx i).Perm _
  exact(List.Perm.swap ..).trans ((idx_perm (l:=r) (i:=i) h').cons x)
theorem pick_perm{α:Type}(next:Nat->Nat):∀(f k:Nat) (left:List α) (out:Array α),f=left.length->(pickOrder.go next f k left out).toList.Perm (out.toList++left)
 | 0,k,left,out,h=>by
  rw[List.length_eq_zero_iff.mp h.symm]
  simp[pickOrder.go]
 | f+1,k,left,out,h=>by
  have hp:next k % left.length<left.length:=Nat.mod_lt _ (by omega)
  unfold pickOrder.go
  rw[List.getElem?_eq_getElem hp]
  dsimp only
  refine(pick_perm next f (k+1) _ _ (by rw[List.length_eraseIdx_of_lt hp];omega)).trans ?_
  rw[Array.toList_push,List.append_assoc]
  exact List.Perm.append_left _ (idx_perm hp)
theorem pickOrder_perm{α:Type}(next:Nat->Nat)(xs:Array α):(pickOrder next xs).toList.Perm xs.toList:=by
 have:=pick_perm next xs.size 0 xs.toList #[] (by simp)
 simpa [pickOrder]using this
section
variable {prog:Program} {w:World} {A:Around} {E:Value->Shared->Prop} {s:Shared} {a:Addr}
theorem wp_chooseO{n:Nat}(hn:n≠0){Q:Nat->Shared->Prop}(h:∀i d,i<n->Q i { s with drawn:=d }):wpAny (model prog w) A (choose .order n) Q E s:=fun Γ p hΓ=>by
 unfold choose
 rw[Sem.wp_choose]
 refine⟨hn,?_⟩
 simp only[Sem.wp_pure]
 exact h _ _ (Nat.mod_lt _ (Nat.pos_of_ne_zero hn))
theorem wp_drawOrder{α:Type}:∀(n:Nat) (l:List α) (s:Shared) (Q:List α->Shared->Prop),n=l.length->(∀out d,out.Perm l->Q out { s with drawn:=d })->wpAny (model prog w) A (drawOrder n l) Q E s
 | 0,l,s,Q,hn,h=>by
  have hl:=List.length_eq_zero_iff.mp hn.symm
  subst hl
  exact wpAny_pure (h [] s.drawn .nil)
 | n+1,l,s,Q,hn,h=>by
  cases l with
  | nil=>cases hn
  | cons x r=>
   show wpAny _ _ (choose .order (x::r).length >>= _) _ _ _
   refine wpAny_bind (wp_chooseO (by simp) fun i d hi=>?_)
   rw[List.getElem?_eq_getElem hi]
   dsimp only
   refine wpAny_bind (wp_drawOrder n ((x::r).eraseIdx i) _ _ (by rw[List.length_eraseIdx_of_lt hi];simp at hn ⊢;omega) fun out d2 hp=>wpAny_pure ?_)
   exact h _ d2 ((hp.cons _).trans (idx_perm hi))
end
end L2
namespace L2
open PySem PySem.Spec PyProof.Rows
noncomputable def TIt(h:Heap)(it a:Addr)(ep n:Nat)(f:Value)(i:Nat):Prop:=∃o,h.get? it=some o/\o.cls = .type "set_iterator"/\o.data = .fields #[f,rawInt i,.ref a,rawInt n,rawInt ep]
theorem TIt.at'{h h':Heap}{it a:Addr}{ep n i:Nat}{f:Value}(x:TIt h it a ep n f i)(k:∀o,h.get? it=some o->h'.get? it=some o):TIt h' it a ep n f i:=x.elim fun o zq499=>zq499.elim fun e r=>⟨o,k _ e,r⟩
theorem TIt.typeIs{s:Shared}{it a:Addr}{ep n i:Nat}{f:Value}(x:TIt s.heap it a ep n f i):s.TypeIs (.ref it) "set_iterator":=x.elim fun o zq500=>zq500.elim fun e zq501=>zq501.elim fun r _=>⟨o,e,r⟩
inductive Md (w:World) (h:Heap) (I a T:Addr) (es:Array (Int×Value)) (ep:Nat) (t:SetTable) (os:List (Int×Value)) (i:Nat):Prop
 | text (b:setBy w=true) (e:os=(pickOrder (w.params.setOrder a ep) es).toList) (x:TIt h I a ep es.size (rawInt 0) i)
 | draw (pl:List Nat) (b:setBy w=false) (e:os.length=pl.length/\∀(k j:Nat),pl[k]? = some j->os[k]? = es[j]?) (x:TIt h I a ep es.size (.ref T) i) (y:∃o n,h.get? T=some o/\o.data = .seq (pl.map fun j=>rawInt (j:Nat)).toArray n) (z:I≠T)
 | tab (sl:Nat) (b:setBy w=false) (l:es.size<=1) (e:os=es.toList) (x:TIt h I a ep es.size (rawInt sl) i) (y:SetTable.below t.place sl=i)
noncomputable def TWk(w:World)(I a T:Addr)(os:List (Int×Value))(i:Nat)(h:Heap):Prop:=∃o es ep t xs,h.get? a=some o/\TObj w o es ep t xs/\os.Perm es.toList/\I≠a/\Md w h I a T es ep t os i
section
variable {prog:Program} {w:World} {A:Around} {E:Value->Shared->Prop} {s:Shared} {a it:Addr}
theorem tit_set0{ep n i:Nat}{f v:Value}{Q:Unit->Shared->Prop}(x:TIt s.heap it a ep n f i)(q:∀h',Heap.SameBut it s.heap h'->TIt h' it a ep n v i->Q () { s with heap:=h' }):wpAny (model prog w) A (setField (.ref it) 0 v) Q E s:=by
 obtain⟨o,ho,hc,hd⟩:=x
 exact wpAny_setField ho hd (by simp) (q _ (Heap.SameBut.update ..) ⟨_,Heap.get?_update_self _ ho (Obj.isFreed_of_fields (Obj.data_mapFields hd _)),(Obj.cls_mapFields ..).trans hc,by rw[Obj.data_mapFields hd];simp⟩)
theorem tit_set1{ep n i:Nat}{f:Value}{Q:Unit->Shared->Prop}(x:TIt s.heap it a ep n f i)(q:∀h',Heap.SameBut it s.heap h'->TIt h' it a ep n f (i+1)->Q () { s with heap:=h' }):wpAny (model prog w) A (setField (.ref it) 1 (rawInt ((i:Int)+1))) Q E s:=by
 obtain⟨o,ho,hc,hd⟩:=x
 exact wpAny_setField ho hd (by simp) (q _ (Heap.SameBut.update ..) ⟨_,Heap.get?_update_self _ ho (Obj.isFreed_of_fields (Obj.data_mapFields hd _)),(Obj.cls_mapFields ..).trans hc,by rw[Obj.data_mapFields hd];simp[rawInt]⟩)
theorem si_stop{ep n i:Nat}{f:Value}{R:PySem.Fin->Shared->Prop}{E':Value->Shared->Prop}(hh:A.handled=none)(x:TIt s.heap it a ep n f i)
 (q:∀h' e,Heap.ExtBut it s.heap h'->Shared.TypeIs { s with heap:=h' } e "StopIteration"->E' e { s with heap:=h' }):wpAny (model prog w) A.in1 (do { setField (.ref it) 2 .none;raiseNew (←newExc (.type "StopIteration") []) }) R E' s:=by
 obtain⟨o,ho,hc,hd⟩:=x
 refine wpAny_bind (wpAny_setField ho hd (by simp) ?_)
 show wpAny _ _ (newExc (.type "StopIteration") [] >>= _) _ _ _
 refine wpAny_bind ?_
 simp only[newExc,newTuple]
 refine wpAny_bind (wpAny_newObj_type ?_ (by size_fits))
 refine wpAny_bind (m:=firstArgMember _ _) (wpAny_of_eq (a:=Value.none) (by first | rfl | (simp only[firstArgMember];rfl)) ?_)
 refine wpAny_newObj_type ?_ (by size_fits)
 simp only[raiseNew]
 refine wpAny_bind (wpAny_handled ?_)
 rw[show A.in1.handled=none from hh]
 refine wpAny_bind (wpAny_pure (wpAny_throw ?_))
 refine q _ _ (((Heap.SameBut.update ..).extBut.push _).push _) ?_
 exact⟨_,Heap.get?_push_size _ rfl,rfl⟩
theorem below_one(j:Nat):SetTable.below #[j] 0=0/\SetTable.below #[j] (j+1)=1:=by
 constructor
 · simp[SetTable.below,SetTable.below.go]
 · simp[SetTable.below,SetTable.below.go]
theorem setNext_text{o:Obj}{es:Array (Int×Value)}{ep:Nat}{t:SetTable}{i:Nat}{Q:Option (Value×Nat)->Shared->Prop}(b:setBy w=true)(ho:s.heap.get? a=some o)(hd:o.data = .set es ep t)(hf:t.fits es.size=true)
 (q:Q (((pickOrder (w.params.setOrder a ep) es)[i]?).map fun e=>(e.2,0)) s):wpAny (model prog w) A (setNext a 0 i ep) Q E s:=by
 have hb:w.params.followText "set-order" = true:=b
 unfold setNext
 refine wpAny_bind (wpAny_setState_of ho hd hf ?_)
 refine wpAny_bind (m:=setsByText) (wpAny_bind (wpAny_askSetting (wpAny_pure ?_)))
 show wpAny _ _ (if w.params.followText "set-order" = true then _ else _) _ _ s
 rw[if_pos hb,if_neg (show ¬((ep != ep)=true) by simp)]
 refine wpAny_bind ?_
 unfold setWalk
 refine wpAny_bind (wpAny_setState_of ho hd hf ?_)
 refine wpAny_bind (m:=setsByText) (wpAny_bind (wpAny_askSetting (wpAny_pure ?_)))
 show wpAny _ _ (if w.params.followText "set-order" = true then _ else _) _ _ s
 rw[if_pos hb]
 exact wpAny_bind (wpAny_askSetting (wpAny_pure (wpAny_pure q)))
theorem setNext_tab{o:Obj}{es:Array (Int×Value)}{ep:Nat}{t:SetTable}{sl i:Nat}{Q:Option (Value×Nat)->Shared->Prop}(b:setBy w=false)(ho:s.heap.get? a=some o)(hd:o.data = .set es ep t)(hf:t.fits es.size=true)(hl:t.led = !setBy w)(l:es.size<=1)
 (q:Q (match es[SetTable.below t.place sl]?,t.place[SetTable.below t.place sl]? with | some (_,x),some j=>some (x,j+1) | _,_=>none) s):wpAny (model prog w) A (setNext a sl i ep) Q E s:=by
 have hb:w.params.followText "set-order" = false:=b
 unfold setNext
 refine wpAny_bind (wpAny_setState_of ho hd hf ?_)
 refine wpAny_bind (m:=setsByText) (wpAny_bind (wpAny_askSetting (wpAny_pure ?_)))
 show wpAny _ _ (if w.params.followText "set-order" = true then _ else _) _ _ s
 rw[if_neg (by rw[hb];exact Bool.false_ne_true)]
 show wpAny _ _ (if (!t.plain && decide (es.size > 1))=true then _ else _) _ _ s
 rw[if_neg (by rw[decide_eq_false (by omega),Bool.and_false];exact Bool.false_ne_true)]
 show wpAny _ _ ((if (!t.led && !es.isEmpty)=true then _ else _) >>= _) _ _ s
 rw[if_neg (by rw[hl,b];exact Bool.false_ne_true)]
 exact wpAny_bind (wpAny_pure (wpAny_pure q))
theorem si_next{ep n i:Nat}{f:Value}{o:Obj}{es:Array (Int×Value)}{t:SetTable}{Q:Option Value->Shared->Prop}(x:TIt s.heap it a ep es.size f i)(ho:s.heap.get? a=some o)(hd:o.data = .set es ep t)(hf:t.fits es.size=true)
 {E1:Value->Shared->Prop}
 (q:wpAny (model prog w) A.in1 (if let .int slot _:=f then
  (do
   match ←setNext a slot.toNat i ep with
   | some (x,next)=>setField (.ref it) 0 (rawInt next);setField (.ref it) 1 (rawInt ((i:Int)+1));ret x
   | none=>setField (.ref it) 2 .none;raiseNew (←newExc (.type "StopIteration") []))
  else(do
   let some places ←seqItems? f | unsupported "internal:set_iterator"
   match places[i]? with
   | some (.int place _)=>let x ←setNextDrawn a place.toNat ep;setField (.ref it) 1 (rawInt ((i:Int)+1));ret x
   | some _=>unsupported "internal:set_iterator"
   | none=>setField (.ref it) 0 (rawInt 0);setField (.ref it) 2 .none;raiseNew (←newExc (.type "StopIteration") [])))
  (fun fin s'=>∃v,fin = .done (.ret v)/\Q (some v) s') (fun e s'=>Shared.TypeIs s' e "StopIteration"/\Q none s') s) :
 wpAny (model prog w) A (pyNext (.ref it)) Q E s:=by
 obtain⟨oi,hoi,hc,hdi⟩:=id x
 unfold pyNext
 refine wpAny_bind (wpAny_attempt (wpAny_callSpecial?_slot (name:=Str.ofString "__next__") x.typeIs slot_si_next (wpAny_call_entry slot_si_next x.typeIs entry_si_next ?_ (args_si_next _))))
 unfold Builtin.«set_iterator.__next__»
 refine wpAny_bind (wpAny_pure ?_)
 refine wpAny_bind (wpAny_fieldsOf hoi hdi ?_)
 show wpAny _ _ (setEntries a >>= _) _ _ s
 unfold setEntries
 refine wpAny_bind (wpAny_bind (wpAny_setState_of ho hd hf (wpAny_pure ?_)))
 dsimp only
 rw[if_neg (by simp)]
 refine wpAny_mono q (fun fin s' z=>?_) (fun e s' z=>?_)
 · obtain⟨v,rfl,z⟩:=z
   exact⟨v,rfl,wpAny_pure z⟩
 · exact wpAny_bind (wpAny_isInstance (T:="StopIteration") (b:=true) z.1 isSubtype_stop (wpAny_pure z.2))
end
end L2
namespace L2
open PySem PySem.Spec PyProof.Rows
section
variable {prog:Program} {w:World} {A:Around} {E:Value->Shared->Prop} {s:Shared} {a I T:Addr}
theorem Md.keep{h h':Heap}{es:Array (Int×Value)}{ep:Nat}{t:SetTable}{os:List (Int×Value)}{i:Nat}(x:Md w h I a T es ep t os i)(k:∀b,b=I\/b=T->∀o,h.get? b=some o->h'.get? b=some o):Md w h' I a T es ep t os i:=by
 cases x with
 | text b e x=>exact .text b e (x.at' (k I (.inl rfl)))
 | draw pl b e x y z=>
  obtain⟨o,n,e1,e2⟩:=y
  exact .draw pl b e (x.at' (k I (.inl rfl))) ⟨o,n,k T (.inr rfl) o e1,e2⟩ z
 | tab sl b l e x y=>exact .tab sl b l e (x.at' (k I (.inl rfl))) y
theorem twk_item{os:List (Int×Value)}{i:Nat}{e:Int×Value}{Q:Option Value->Shared->Prop}(x:TWk w I a T os i s.heap)(hi:os[i]? = some e)(q:∀h',Heap.SameBut I s.heap h'->TWk w I a T os (i+1) h'->Q (some e.2) { s with heap:=h' }) :
 wpAny (model prog w) A (pyNext (.ref I)) Q E s:=by
 obtain⟨o,es,ep,t,xs,ho,X,pm,hIa,m⟩:=x
 have done:∀h',Heap.SameBut I s.heap h'->Md w h' I a T es ep t os (i+1)->Q (some e.2) { s with heap:=h' }:=fun h' k m'=>q h' k ⟨o,es,ep,t,xs,by rw[k.2 a (fun z=>hIa z.symm)];exact ho,X,pm,hIa,m'⟩
 cases m with
 | text b eo x=>
  have hi':(pickOrder (w.params.setOrder a ep) es)[i]? = some e:=by rw[eo,Array.getElem?_toList]at hi;exact hi
  refine si_next (E1:=E) (n:=0) x ho X.dat X.fit ?_
  show wpAny _ _ (setNext a 0 i ep >>= _) _ _ _
  refine wpAny_bind (setNext_text b ho X.dat X.fit ?_)
  rw[hi']
  refine wpAny_bind (tit_set0 x fun h1 k1 x1=>wpAny_bind (tit_set1 (s:={ s with heap:=h1 }) x1 fun h2 k2 x2=>wpAny_pure ⟨_,rfl,done h2 (k1.trans k2) (.text b eo x2)⟩))
 | draw pl b eo x y z=>
  obtain⟨oT,nT,hT,hTd⟩:=y
  have hlt:i<pl.length:=by
   rw[←eo.1]
   exact(List.getElem?_eq_some_iff.mp hi).1
  have hpl:pl[i]? = some pl[i]:=List.getElem?_eq_getElem hlt
  have he:es[pl[i]]? = some e:=(eo.2 i _ hpl).symm.trans hi
  refine si_next (E1:=E) (n:=0) x ho X.dat X.fit ?_
  show wpAny _ _ (seqItems? (.ref T) >>= _) _ _ _
  refine wpAny_bind (wpAny_seqItems hT hTd ?_)
  have hpi:(pl.map fun j=>rawInt (j:Nat)).toArray[i]? = some (rawInt (pl[i]:Nat)):=by simp[hlt]
  dsimp only
  rw[hpi]
  show wpAny _ _ (setNextDrawn a pl[i] ep >>= _) _ _ _
  refine wpAny_bind ?_
  unfold setNextDrawn
  refine wpAny_bind (wpAny_setState_of ho X.dat X.fit ?_)
  dsimp only
  rw[if_neg (show ¬((ep != ep)=true) by simp),he]
  refine wpAny_pure ?_
  refine wpAny_bind (tit_set1 x fun h2 k2 x2=>wpAny_pure ⟨_,rfl,done h2 k2 (.draw pl b eo x2 ⟨oT,nT,by rw[k2.2 T (fun q=>z q.symm)];exact hT,hTd⟩ z)⟩)
 | tab sl b l eo x y=>
  have hz:es.size=1/\i=0:=by
   rw[eo]at hi
   have:=(List.getElem?_eq_some_iff.mp hi).1
   rw[Array.length_toList]at this
   omega
  have hei:es[i]? = some e:=by rw[eo,Array.getElem?_toList]at hi;exact hi
  have hps:t.place.size=1:=by
   have:=X.fit
   unfold SetTable.fits at this
   simp only[Bool.and_eq_true,beq_iff_eq]at this
   omega
  obtain⟨j,hj⟩:∃j,t.place = #[j]:=by
   rcases hp:t.place with⟨l⟩
   rw[hp]at hps
   match l,hps with
   | [j],_=>exact⟨j,rfl⟩
  refine si_next (E1:=E) (n:=0) x ho X.dat X.fit ?_
  show wpAny _ _ (setNext a sl i ep >>= _) _ _ _
  refine wpAny_bind (setNext_tab b ho X.dat X.fit X.led l ?_)
  have hpj:t.place[i]? = some j:=by rw[hj,hz.2];rfl
  rw[y,hei,hpj]
  refine wpAny_bind (tit_set0 x fun h1 k1 x1=>wpAny_bind (tit_set1 (s:={ s with heap:=h1 }) x1 fun h2 k2 x2=>wpAny_pure ⟨_,rfl,done h2 (k1.trans k2) (.tab (j+1) b l eo x2 (by rw[hj,(below_one j).2,hz.2]))⟩))
theorem twk_done{os:List (Int×Value)}{Q:Option Value->Shared->Prop}(hh:A.handled=none)(x:TWk w I a T os os.length s.heap)(q:∀h',Heap.ExtBut I s.heap h'->Q none { s with heap:=h' }):wpAny (model prog w) A (pyNext (.ref I)) Q E s:=by
 obtain⟨o,es,ep,t,xs,ho,X,pm,hIa,m⟩:=x
 have hn:os.length=es.size:=by rw[pm.length_eq,Array.length_toList]
 have hq:∀h' e,Heap.ExtBut I s.heap h'->Shared.TypeIs { s with heap:=h' } e "StopIteration"->Shared.TypeIs { s with heap:=h' } e "StopIteration"/\Q none { s with heap:=h' }:=fun h' e k z=>⟨z,q h' k⟩
 cases m with
 | text b eo x=>
  refine si_next (E1:=E) (n:=0) x ho X.dat X.fit ?_
  show wpAny _ _ (setNext a 0 os.length ep >>= _) _ _ _
  refine wpAny_bind (setNext_text b ho X.dat X.fit ?_)
  have hi':(pickOrder (w.params.setOrder a ep) es)[os.length]? = none:=by
   have:(pickOrder (w.params.setOrder a ep) es).toList[os.length]? = none:=by rw[←eo];simp
   rwa [Array.getElem?_toList]at this
  rw[hi']
  exact si_stop hh x hq
 | draw pl b eo x y z=>
  obtain⟨oT,nT,hT,hTd⟩:=y
  refine si_next (E1:=E) (n:=0) x ho X.dat X.fit ?_
  show wpAny _ _ (seqItems? (.ref T) >>= _) _ _ _
  refine wpAny_bind (wpAny_seqItems hT hTd ?_)
  have hpi:(pl.map fun j=>rawInt (j:Nat)).toArray[os.length]? = none:=by simp[eo.1]
  dsimp only
  rw[hpi]
  refine wpAny_bind (tit_set0 x fun h1 k1 x1=>?_)
  refine si_stop (s:={ s with heap:=h1 }) hh x1 fun h' e k z=>hq h' e (k1.extBut.trans k) z
 | tab sl b l eo x y=>
  refine si_next (E1:=E) (n:=0) x ho X.dat X.fit ?_
  show wpAny _ _ (setNext a sl os.length ep >>= _) _ _ _
  refine wpAny_bind (setNext_tab b ho X.dat X.fit X.led l ?_)
  have hei:es[os.length]? = none:=by rw[hn];simp
  rw[y,hei]
  exact si_stop hh x hq
theorem walks_tset(hh:A.handled=none)(I a T:Addr)(os:List (Int×Value)):Walks prog w A I [I,a,T] [I] os.length (fun i v=>∃e,os[i]? = some e/\v=e.2) (fun i h=>TWk w I a T os i h) where
 sub:=fun b hb=>by simp at hb;simp[hb]
 frame:=fun i h h' st hk=>by
  obtain⟨o,es,ep,t,xs,ho,X,pm,hIa,m⟩:=st
  exact⟨o,es,ep,t,xs,hk a (by simp) o ho,X,pm,hIa,m.keep fun b hb o e=>hk b (by rcases hb with rfl | rfl<;>simp) o e⟩
 item:=fun i s Q E hi st hQ=>by
  refine twk_item st (List.getElem?_eq_getElem hi) fun h' k st'=>?_
  exact hQ _ h' s.toks ⟨_,List.getElem?_eq_getElem hi,rfl⟩ st' fun b o hb e=>k.extBut b o (fun h=>hb (by simp[h])) e
 done:=fun s Q E st hQ=>twk_done hh st fun h' he'=>hQ h' s.toks fun b o hb e=>he' b o (fun h=>hb (by simp[h])) e
 self:=fun i s Q E st hQ=>by
  obtain⟨o,es,ep,t,xs,ho,X,pm,hIa,m⟩:=st
  have hT:s.TypeIs (.ref I) "set_iterator":=by
   cases m with
   | text b e x=>exact x.typeIs
   | draw pl b e x y z=>exact x.typeIs
   | tab sl b l e x y=>exact x.typeIs
  refine wpAny_pyIter_slot hT slot_si_iter (wpAny_call_entry slot_si_iter hT entry_si_iter ?_ (args_si_iter _))
  show wpAny _ _ (ret (.ref I)) _ _ s
  exact wpAny_pure ⟨_,rfl,"set_iterator",_,hT,slot_si_next.lookup,hQ⟩
theorem pl_get{es:Array (Int×Value)}:∀{pl:List Nat},(∀j∈pl,j<es.size)->(pl.filterMap (es[·]?)).length=pl.length/\∀(k j:Nat),pl[k]? = some j->(pl.filterMap (es[·]?))[k]? = es[j]?
 | [],_=>⟨rfl,fun k j h=>by cases h⟩
 | p::r,h=>by
  have hps:p<es.size:=h p (by simp)
  have hp:es[p]? = some es[p]:=Array.getElem?_eq_getElem hps
  obtain⟨h1,h2⟩:=pl_get (pl:=r) fun j hj=>h j (List.mem_cons_of_mem _ hj)
  rw[List.filterMap_cons_some hp]
  refine⟨by simp[h1],fun k j hk=>?_⟩
  cases k with
  | zero=>cases hk;exact hp.symm
  | succ k=>exact h2 k j hk
theorem pyIter_tset{xs:List Str}{Q:Value->Shared->Prop}(x:TxS w s.heap a xs)(hQ:∀I T d h' os,s.heap.objs.size<=I->(∀b o,s.heap.get? b=some o->h'.get? b=some o)->(T=a\/s.heap.objs.size<=T)->TWk w I a T os 0 h'->(os.map keyE).Perm xs->(∀e∈os,GoodE w e)->Q (.ref I) { s with heap:=h',drawn:=d }) :
 wpAny (model prog w) A (pyIter (.ref a)) Q E s:=by
 obtain⟨o,es,ep,t,ho,X⟩:=id x
 have hlt:=Heap.lt_size ho
 refine wpAny_pyIter_slot x.typeIs PySem.F.slot_set_iter (wpAny_call_entry PySem.F.slot_set_iter x.typeIs entry_set_iter' ?_ (PySem.F.args_set_iter_1 _))
 unfold Builtin.«frozenset.__iter__»
 refine wpAny_bind (m:=Builtin.Frozenset.slot0 _ _) (wpAny_pure ?_)
 refine wpAny_bind ?_
 unfold Builtin.Frozenset.sizeOf setEntries
 refine wpAny_bind (wpAny_bind (wpAny_setState_of ho X.dat X.fit (wpAny_pure (wpAny_pure ?_))))
 refine wpAny_bind ?_
 unfold setDrawn
 refine wpAny_bind (wpAny_setState_of ho X.dat X.fit ?_)
 refine wpAny_bind (m:=setsByText) (wpAny_bind (wpAny_askSetting (wpAny_pure ?_)))
 show wpAny _ _ (pure (!setBy w && (!t.plain && decide (es.size > 1)))) _ _ _
 refine wpAny_pure ?_
 have fin:∀(f:Value) (d:_) (h1:Heap),(∀b o,s.heap.get? b=some o->h1.get? b=some o)->s.heap.objs.size<=h1.objs.size ->
  (∀h',(∀b o,h1.get? b=some o->h'.get? b=some o)->TIt h' h1.objs.size a ep es.size f 0->h1.objs.size<h'.objs.size->∃T os,(T=a\/s.heap.objs.size<=T)/\os.Perm es.toList/\Md w h' h1.objs.size a T es ep t os 0) ->
  wpAny (model prog w) A.in1 (setEpoch a >>= fun e=>newFields "set_iterator" [f,rawInt 0,.ref a,rawInt es.size,rawInt e] >>= fun v=>ret v) (fun fin s'=>∃v,fin = .done (.ret v)/\∃T r,s'.TypeIs v T/\typeLookup (.type T) "__next__" = pure (some r)/\Q v s') E { s with heap:=h1,drawn:=d }:=by
  intro f d h1 k1 hz hm
  refine wpAny_bind ?_
  unfold setEpoch
  refine wpAny_bind (wpAny_setState_of (s:={ s with heap:=h1,drawn:=d }) (k1 a o ho) X.dat X.fit (wpAny_pure ?_))
  refine wpAny_bind (wpAny_newObj_type ?_)
  have ht:TIt (h1.push { cls:=.type "set_iterator",data:=.fields #[f,rawInt 0,.ref a,rawInt es.size,rawInt ep] }) h1.objs.size a ep es.size f 0:=⟨_,Heap.get?_push_size _ rfl,rfl,rfl⟩
  obtain⟨T,os,hT,pm,m⟩:=hm _ (fun b o e=>Heap.get?_push_of_some _ e) ht (by rw[Heap.size_push];exact Nat.lt_succ_self _)
  refine wpAny_pure ⟨_,rfl,"set_iterator",_,ht.typeIs (s:={ s with heap:=_,drawn:=d }),slot_si_next.lookup,?_⟩
  refine hQ h1.objs.size T d _ os hz (fun b o e=>Heap.get?_push_of_some _ (k1 b o e)) hT ⟨o,es,ep,t,xs,Heap.get?_push_of_some _ (k1 a o ho),X,pm,Nat.ne_of_gt (Nat.lt_of_lt_of_le hlt hz),m⟩ ((pm.map keyE).trans X.perm) fun e he=>X.good e (pm.mem_iff.mp he)
 cases hb:(!setBy w && (!t.plain && decide (es.size > 1))) with
 | false=>
  rw[if_neg Bool.false_ne_true]
  refine wpAny_bind (m:=pure (rawInt 0)) (wpAny_pure ?_)
  refine fin (rawInt 0) s.drawn s.heap (fun b o e=>e) (Nat.le_refl _) fun h' k ht hl=>?_
  cases hw:setBy w with
  | true=>exact⟨a,_,.inl rfl,pickOrder_perm _ _,.text hw rfl ht⟩
  | false=>
   have hs:es.size<=1:=by
    refine Nat.le_of_not_lt fun z=>?_
    rw[hw,X.pl (by omega),decide_eq_true (by omega:es.size > 1)]at hb
    cases hb
   refine⟨a,_,.inl rfl,.refl _,.tab 0 hw hs rfl ht ?_⟩
   have hps:t.place.size=es.size:=by
    have:=X.fit
    unfold SetTable.fits at this
    simp only[Bool.and_eq_true,beq_iff_eq]at this
    exact this.1
   rcases hp:t.place with⟨l⟩
   rw[hp]at hps
   match l,hps with
   | [],_=>rfl
   | [j],_=>exact(below_one j).1
   | _::_::_,z=>simp at z;omega
 | true=>
  have hw:setBy w=false:=by cases hw:setBy w with | false=>rfl | true=>rw[hw]at hb;cases hb
  rw[if_pos rfl]
  refine wpAny_bind (wp_drawOrder es.size (List.range es.size) s _ (by simp) fun pl d hp=>?_)
  have hsz:es.size<=sizeLine:=fits_of_scanBound X.bnd
  refine wpAny_bind (wpAny_newTuple ?_ (by rw[List.length_map,hp.length_eq,List.length_range];exact hsz))
  have hpl:∀j∈pl,j<es.size:=fun j hj=>List.mem_range.mp (hp.mem_iff.mp hj)
  obtain⟨g1,g2⟩:=pl_get hpl
  refine fin (.ref s.heap.objs.size) d (s.heap.push { cls:=.type "tuple",data:=.seq (pl.map fun(i:Nat)=>rawInt i).toArray }) (fun b o e=>Heap.get?_push_of_some _ e) (by rw[Heap.size_push];exact Nat.le_succ _) fun h' k ht hl=>?_
  refine⟨s.heap.objs.size,pl.filterMap (es[·]?),.inr (Nat.le_refl _),?_,.draw pl hw ⟨g1,g2⟩ ht ⟨_,0,k _ _ (Heap.get?_push_size _ rfl),rfl⟩ (Nat.ne_of_gt (by rw[Heap.size_push];exact Nat.lt_succ_self _))⟩
  exact(hp.filterMap _).trans (by rw[filterMap_getElem?_range])
end
end L2
namespace L2
open PySem PySem.Spec PyProof.Rows
theorem strs_of{w:World}:∀{os:List (Int×Value)},(∀e∈os,GoodE w e)->StrsAre (os.map (·.2)) (os.map keyE)
 | [],_=>.nil
 | e::r,h=>by
  obtain⟨y,tk,rfl⟩:=h e (by simp)
  exact .cons y tk (strs_of fun e he=>h e (List.mem_cons_of_mem _ he))
section
variable {prog:Program} {w:World} {A:Around} {E:Value->Shared->Prop} {s:Shared} {a:Addr}
theorem tset_extend{xs:List Str}{R:Result->Shared->Prop}(hh:A.handled=none)(x:TxS w s.heap a xs)(S:Addr)(hSa:S≠a)(res:Value)(c₀:Nat)(hS:s.heap.get? S=some { cls:=.type "list",data:=.seq #[] c₀ })
 (hR:∀(h':Heap) (tk:Nat) (d:Drawn) (os:List (Int×Value)) (acc:Array Value) (c':Nat),(∀b o,b≠S->s.heap.get? b=some o->h'.get? b=some o)->h'.get? S=some { cls:=.type "list",dict:=none,data:=.seq acc c',slots:=#[] }->acc.toList=os.map (·.2)->(os.map keyE).Perm xs->(∀e∈os,GoodE w e)->R (.ok (.ret res)) { s with heap:=h',toks:=tk,drawn:=d }) (hn:xs.length<=sizeLine) :
 wpAny (model prog w) A.in1 (Builtin.List.listExtendWith (.ref S) (.ref a) res) (fun fin s'=>match fin with | .done f=>R (.ok f) s' | .again c'=>c'.quiet=true/\codeAny (model prog w) A c' R s') (fun e s'=>R (.error e) s') s:=by
 unfold Builtin.List.listExtendWith
 refine wpAny_bind (wpAny_typeOf (T:="set") x.typeIs ?_)
 have h1:Builtin.List.listSameRef (.ref S) (.ref a)=false:=by simp[Builtin.List.listSameRef,hSa]
 have h2:(Value.type "set" == Value.type "list")=false:=by decide
 have h3:(Value.type "set" == Value.type "tuple")=false:=by decide
 simp only[h1,h2,h3,Bool.or_false,Bool.false_eq_true,if_false]
 refine wpAny_bind (pyIter_tset x fun I T d hp os hI kp hT st pm gd=>?_)
 have hlS:=Heap.lt_size hS
 have ln:os.length=xs.length:=by have:=pm.length_eq;rwa [List.length_map]at this
 have hST:S≠T:=fun z=>hT.elim (fun q=>hSa (z.trans q)) fun q=>absurd (Nat.lt_of_lt_of_le (z▸hlS) q) (Nat.lt_irrefl _)
 have hSf:S∉[I,a,T]:=by
  simp only[List.mem_cons,List.not_mem_nil,or_false,not_or]
  exact⟨Nat.ne_of_lt (Nat.lt_of_lt_of_le hlS hI),hSa,hST⟩
 have W:=walks_tset (prog:=prog) (w:=w) (A:=A.in1) hh I a T os
 have key:∀(h:Heap) (c₁ tk:Nat),TWk w I a T os 0 h->(∀b o,b≠S->s.heap.get? b=some o->h.get? b=some o)->h.get? S=some { cls:=.type "list",data:=.seq #[] c₁ } ->
  codeAny (model prog w) A (.builtin "list.extend.loop" ⟨[.ref S,.ref I,res],[]⟩) R { s with heap:=h,toks:=tk,drawn:=d }:=by
  intro h c₁ tk hst hk hS₁
  refine codeAny_extend_loopS W.toS (by omega) S hSf res os.length 0 _ #[] c₁ rfl (Nat.zero_le _) hst hS₁ (ItemsOf.nil _) fun s' acc' c' hm hS' hacc=>?_
  rw[Moved.eq_with hm]
  refine hR s'.heap s'.toks d os acc' c' (fun b o hb e=>hm.heap b o (fun hmem=>?_) (hk b o hb e)) hS' ?_ pm gd
  · rcases List.mem_cons.mp hmem with e' | hmem
    · exact hb e'
    · have hlt:=Heap.lt_size e
      rw[List.mem_singleton.mp hmem]at hlt
      exact absurd (Nat.lt_of_lt_of_le hlt hI) (Nat.lt_irrefl _)
  · refine List.ext_getElem? fun j=>?_
    rw[Array.getElem?_toList,List.getElem?_map]
    by_cases hj:j<os.length
    · have hja:j<acc'.size:=by rw[hacc.1];exact hj
      obtain⟨e,he,hv⟩:=hacc.2 j _ (Array.getElem?_eq_getElem hja)
      rw[he,Array.getElem?_eq_getElem hja,hv]
      rfl
    · rw[Array.getElem?_eq_none (by rw[hacc.1];omega),List.getElem?_eq_none (by omega)]
      rfl
 have hS₁:=kp _ _ hS
 refine wpAny_bind (wpAny_holding (hint_set (TxS.typeIs (s:={ s with heap:=hp,drawn:=d }) (x.at' fun o e=>kp a o e)) ?_))
 refine wpAny_ite_split (fun _=>?_) (fun _=>wpAny_pure ⟨plainId_quiet PySem.F.plain_extend_loop _,key _ c₀ _ st (fun b o _ e=>kp b o e) hS₁⟩)
 refine wpAny_bind (wpAny_rule (wpAny_bind ?_))
 show wpAny _ _ (updateSeq S (·.push .none) >>= fun _=>updateSeq S (·.pop)) _ _ _
 refine wpAny_bind (wpAny_updateSeq (s:={ s with heap:=hp,drawn:=d }) hS₁ rfl ?_)
 have hS₂:=Heap.get?_update_self (Obj.mapSeq (·.push Value.none)) hS₁ rfl
 refine wpAny_updateSeq (hz:=by seq_fits) hS₂ rfl ?_
 have hS₃:=Heap.get?_update_self (Obj.mapSeq (·.pop)) hS₂ rfl
 refine wpAny_pure ⟨plainId_quiet PySem.F.plain_extend_loop _,key _ _ _ (W.frame 0 _ _ st fun b hb o e=>?_) (fun b o hb e=>?_) hS₃⟩
 · have hbS:b≠S:=fun h=>hSf (h▸hb)
   exact(Heap.get?_update_other _ _ (Ne.symm hbS)).trans ((Heap.get?_update_other _ _ (Ne.symm hbS)).trans e)
 · exact(Heap.get?_update_other _ _ (Ne.symm hb)).trans ((Heap.get?_update_other _ _ (Ne.symm hb)).trans (kp b o e))
theorem tset_collect{xs:List Str}{R:List Value->Shared->Prop}(hh:A.handled=none)(x:TxS w s.heap a xs)
 (h:∀(h':Heap) (tk:Nat) (d:Drawn) (us:List Value) (ys:List Str),(∀b o,s.heap.get? b=some o->h'.get? b=some o)->StrsAre us ys->ys.Perm xs->R us { s with heap:=h',toks:=tk,drawn:=d }) (hn:xs.length<=sizeLine):wpAny (model prog w) A (collect (.ref a)) R E s:=by
 obtain⟨o,_,_,_,ho,_⟩:=id x
 have hlt:=Heap.lt_size ho
 unfold collect
 refine wpAny_bind (wpAny_runValue (codeAny_builtin PyProof.Rows.entry_proto_collect' ?_))
 rw[Around.under_plainId PySem.F.plain_proto_collect _]
 show wpAny _ A.in1 (newList [] >>= fun l=>again (.builtin "list.__iadd__" ⟨[l,.ref a],[]⟩)) _ _ s
 refine wpAny_bind (wpAny_newObj_type (wpAny_pure ⟨plainId_quiet PySem.F.plain_list_iadd _,codeAny_builtin PyProof.Rows.entry_list_iadd' ?_⟩))
 rw[Around.under_plainId PySem.F.plain_list_iadd _]
 show wpAny _ A.in1 (Builtin.List.listExtendWith (.ref s.heap.objs.size) (.ref a) (.ref s.heap.objs.size)) _ _ _
 have key:=tset_extend (prog:=prog) (A:=A) (s:={ s with heap:=s.heap.push { cls:=.type "list",data:=.seq ([]:List Value).toArray } })
  (R:=fun(q:Result) (s':Shared)=>∃(h':Heap) (tk:Nat) (d:Drawn) (os:List (Int×Value)) (acc:Array Value) (c':Nat),q = .ok (.ret (.ref s.heap.objs.size))/\s' = { s with heap:=h',toks:=tk,drawn:=d }/\(∀b o,s.heap.get? b=some o->h'.get? b=some o) /\
   h'.get? s.heap.objs.size=some { cls:=.type "list",dict:=none,data:=.seq acc c',slots:=#[] }/\acc.toList=os.map (·.2)/\(os.map keyE).Perm xs/\∀e∈os,GoodE w e)
  hh (x.at' fun o e=>Heap.get?_push_of_some _ e) s.heap.objs.size (Nat.ne_of_gt hlt) (.ref s.heap.objs.size) 0 (Heap.get?_push_size _ rfl)
  (fun h' tk d os acc c' hk hS' e1 e2 e3=>⟨h',tk,d,os,acc,c',rfl,rfl,fun b o e=>hk b o (Nat.ne_of_lt (Heap.lt_size e)) (Heap.get?_push_of_some _ e),hS',e1,e2,e3⟩) hn
 refine wpAny_mono key (fun fin s' z=>?_) fun e s' z=>?_
 · cases fin with
   | done f=>
    obtain⟨h',tk,d,os,acc,c',e,rfl,hk,hS',e1,e2,e3⟩:=z
    cases e
    show wpAny _ A (load s.heap.objs.size >>= _) _ _ _
    refine wpAny_bind (wpAny_load (s:={ s with heap:=h',toks:=tk,drawn:=d }) hS' (wpAny_pure ?_))
    exact h h' tk d _ _ hk (by rw[e1];exact strs_of e3) e2
   | again c₁=>
    refine⟨z.1,codeAny_mono z.2 fun q s₂ y=>?_⟩
    obtain⟨h',tk,d,os,acc,c',rfl,rfl,hk,hS',e1,e2,e3⟩:=y
    show wpAny _ A (load s.heap.objs.size >>= _) _ _ _
    refine wpAny_bind (wpAny_load (s:={ s with heap:=h',toks:=tk,drawn:=d }) hS' (wpAny_pure ?_))
    exact h h' tk d _ _ hk (by rw[e1];exact strs_of e3) e2
 · obtain⟨_,_,_,_,_,_,e',_⟩:=z
   cases e'
theorem sorted_collectsD{r:Addr}{Q:Value->Shared->Prop}(hcol:wpAny (model prog w) A.in1 (collect (.ref r)) (fun us s'=>∃(ys:List Str) (h':Heap) (tk:Nat) (d:Drawn),s' = { s with heap:=h',toks:=tk,drawn:=d }/\StrsAre us ys/\us.length<64 /\
 ∀(h2:Heap) (out:List Value) (ys':List Str) (e:Nat),(∀b o,h'.get? b=some o->h2.get? b=some o)->h2.get? h'.objs.size=some (seqObj "list" out.toArray e)->StrsAre out ys'->ys'.Perm ys->sortedS ys'=true->Q (.ref h'.objs.size) { s with heap:=h2,toks:=tk,drawn:=d }) E s) :
 wpAny (model prog w) A (call (.builtin "sorted") [.ref r]) Q E s:=by
 refine Calls.call_function_entry kind_sorted plain_sorted entry_sorted (args_sorted1 _) ?_
 unfold Builtin.«sorted»
 refine wpAny_bind (m:=checkCount "sorted" 1 1 _) (wpAny_pure ?_)
 refine wpAny_bind (wpAny_mono hcol (fun us s' zq390=>zq390.elim fun ys zq391=>zq391.elim fun h' zq392=>zq392.elim fun tk zq393=>zq393.elim fun d zq394=>zq394.elim fun es zq395=>zq395.elim fun hS zq396=>zq396.elim fun h64 fin=>?_) fun _ _ e=>e)
 subst es
 refine wpAny_bind (wpAny_newList ?_ (by rw[sizeLine_eq];omega))
 have hoL:(h'.push (seqObj "list" us.toArray 0)).get? h'.objs.size=some (seqObj "list" us.toArray 0):=Heap.get?_push_size _ rfl
 show wpAny _ _ _ _ _ { s with heap:=h'.push (seqObj "list" us.toArray 0),toks:=tk,drawn:=d }
 refine wpAny_bind (wpAny_holding (wpAny_call_entry slot_list_sort ⟨_,hoL,rfl⟩ entry_list_sort (list_sort_treeK strKind_oneLt hoL hS.keysOf (fun v₁ v₂ rest e=>keyKind_strs (by rw[←e];exact hS)) h64 fun st' a1 a2=>⟨_,rfl,?_⟩) (args_list_sort _)))
 obtain⟨ys',h1,h2,h3⟩:=sorted_out_str hS a1 a2
 obtain⟨e,he⟩:=sortedHeap_at (vs:=us) (out:=(arrOf st').map (·.2)) hoL
 refine wpAny_pure ⟨_,rfl,fin _ ((arrOf st').map (·.2)).toList ys' e (fun b o q=>?_) (by rw[Array.toArray_toList];exact he) h1 h2 h3⟩
 have hb:=Heap.lt_size q
 rw[sortedHeap_old (Nat.ne_of_lt hb) (by rw[Heap.size_push];exact Nat.lt_succ_of_lt hb)]
 exact Heap.get?_push_of_some _ q
end
noncomputable def tset(w:World)(a:Addr)(xs:List Str):HO:=.ext fun h=>TxS w h a xs
theorem tset_ok{P:Program}{w:World}{H:Hp}{h:Heap}{a:Addr}{xs:List Str}(x:TxS w h a xs):ObjOk P w H h a (tset w a xs):=
 ⟨x,x.elim fun o zq502=>zq502.elim fun _ zq503=>zq503.elim fun _ zq504=>zq504.elim fun _ zq505=>zq505.elim fun e _=>⟨o,e⟩,fun _ _ z k=>z.at' k⟩
theorem tset_rd{P:Program}{w:World}{H:Hp}{h:Heap}{a:Addr}{xs:List Str}(ok:HOk P w H h)(e:H a=some (tset w a xs)):TxS w h a xs:=(show ObjOk P w H h a (tset w a xs) from ok a _ e).1
section
variable {X:Cx} {pins:List (Addr×Obj)} {σ:List (Option V)} {H:Hp} {s:Shared}
theorem Inv.drew{d:Drawn}(I:Inv X pins σ H s):Inv X pins σ H { s with drawn:=d }:=⟨I.ok,I.os,I.bare,I.base,I.loc,I.cell,I.free,I.freeC,I.pin,I.hok,I.len⟩
theorem call_sortedY(hc:X.calm=true):CallR X (.builtin "sorted") (fun vs H Q=>∃p xs,vs = [.ref p]/\H p=some (tset X.w p xs)/\xs.length<64/\∀ys,ys.Perm xs->sortedS ys=true->New H (.lst (ys.map V.str)) Q):=by
 intro pins s σ H xs us Q I r h
 obtain⟨p,zs,rfl,e,h64,q⟩:=h
 obtain⟨u,rfl,ru⟩:=vals1 r
 cases ru
 refine sorted_collectsD (tset_collect (I.ok.hd hc) (tset_rd I.hok e) (fun h' tk d us ys k hs hp=>?_) (smallL (by omega)))
 have hl:=hp.length_eq
 have hl2:=StrsAre.length hs
 have I':Inv X pins σ H { s with heap:=h',toks:=tk,drawn:=d }:=(I.kept (t':=tk) k).drew
 refine⟨ys,h',tk,d,rfl,hs,by omega,fun h2 out ys' e' k2 he hS' hp' hs'=>?_⟩
 have hl3:=hp'.length_eq
 exact⟨.ref h'.objs.size,_,inv_sorted (s:={ s with drawn:=d }) I' k2 he hS' (smallL (by omega)),rfl,(q ys' (hp'.trans hp) hs').at _ (I'.hok.fresh (Nat.le_refl _))⟩
end
end L2
namespace L2
open PySem PySem.Spec PyProof.Rows
theorem fill_perm{es:Array (Int×Value)}{order:Array Nat}(hp:order.toList.Perm (List.range es.size)):(order.filterMap (es[·]?)).toList.Perm es.toList:=by
 rw[Array.toList_filterMap]
 exact(hp.filterMap _).trans (by rw[filterMap_getElem?_range])
theorem sizeAbove_msk{n:Nat}(h:n<=40):Msk (SetTable.sizeAbove n - 1)/\n<=SetTable.sizeAbove n - 1/\SetTable.sizeAbove n<=64:=by
 have hd:(List.range 41).all (fun n=>decide ((SetTable.sizeAbove n - 1=7\/SetTable.sizeAbove n - 1=15\/SetTable.sizeAbove n - 1=31\/SetTable.sizeAbove n - 1=63)/\n<=SetTable.sizeAbove n - 1/\SetTable.sizeAbove n<=64))=true:=by decide +kernel
 unfold Msk
 exact of_decide_eq_true (List.all_eq_true.mp hd n (List.mem_range.mpr (by omega)))
section
variable {prog:Program} {w:World} {A:Around} {E:Value->Shared->Prop} {s:Shared} {a:Addr}
theorem tset_fresh:TObj w { cls:=.type "set",dict:=none,data:=.set #[] 0 (.fresh 0 0 (!setBy w)) } #[] 0 (.fresh 0 0 (!setBy w)) []:=
 ⟨⟨rfl,rfl,rfl⟩,rfl,(fun e he=>by cases he),.nil,.nil,by decide,rfl,rfl,fun h=>absurd rfl h,fun _=>.inl rfl⟩
theorem tset_relay{o:Obj}{es:Array (Int×Value)}{ep:Nat}{t:SetTable}{xs:List Str}{n:Nat}{Q:Unit->Shared->Prop}(ho:s.heap.get? a=some o)(X:TObj w o es ep t xs)(hn:n<=40)(hx:xs.length<=n)
 (q:∀h' o' es' t',Heap.SameBut a s.heap h'->h'.get? a=some o'->TObj w o' es' (ep+1) t' xs->n<=t'.mask->Q () { s with heap:=h' }):wpAny (model prog w) A (setRelay a n) Q E s:=by
 obtain⟨m1,m2,m3⟩:=sizeAbove_msk hn
 unfold setRelay
 refine wpAny_bind (wpAny_setState_of ho X.dat X.fit ?_)
 dsimp only
 have sl:¬(SetTable.sizeAbove n > sizeLine):=by rw[sizeLine_eq];omega
 rw[if_neg sl]
 have hz:=X.size
 have hsz:(es.map (·.1)).size=es.size:=Array.size_map
 obtain⟨t',order,e,hp,hf,hl,hpl,hm⟩:=laid_ok (mask:=SetTable.sizeAbove n - 1) (f:=t.finger) (m:=t.movedTo (SetTable.sizeAbove n - 1)) (led:=t.led) (plain:=t.plain) (hs:=es.map (·.1)) m1 (by rw[hsz];omega)
 rw[hsz]at hp hf
 have e':t.relaid (es.map (·.1)) n=some (t',order):=e
 rw[e']
 have pm:=fill_perm hp
 have z1:(order.filterMap (es[·]?)).size=es.size:=by rw[←Array.length_toList,pm.length_eq,Array.length_toList]
 refine wpAny_bind ?_
 show wpAny _ _ (if ((order.filterMap (es[·]?)).size != es.size)=true then _ else _) _ _ _
 rw[if_neg (by rw[z1];simp)]
 refine wpAny_pure ?_
 dsimp only
 refine wpAny_storeSet_of ho X.dat ?_ (by rw[z1];exact fits_of_scanBound X.bnd)
 refine q _ _ _ t' (Heap.SameBut.update ..) (TObj.store ho X.ex X.dat) ⟨X.ex,rfl,fun e he=>X.good e (pm.mem_iff.mp he),(pm.map keyE).trans X.perm,X.nd,X.len,by rw[z1];exact hf,hl.trans X.led,fun z=>hpl.trans (X.pl (by rw[←z1];exact z)),fun _=>by rw[hm];exact m1⟩ (by rw[hm];exact m2)
theorem tset_room{xs:List Str}{n:Nat}{Q:Unit->Shared->Prop}(x:TxS w s.heap a xs)(hn:xs.length+n<=20)
 (q:∀h' o' es' ep' t',Heap.SameBut a s.heap h'->h'.get? a=some o'->TObj w o' es' ep' t' xs->(t'.fill=0->n<=t'.mask)->Q () { s with heap:=h' }):wpAny (model prog w) A (setRoomFor a n) Q E s:=by
 obtain⟨o,es,ep,t,ho,X⟩:=x
 have hps:t.place.size=xs.length:=by
  have:=X.fit
  unfold SetTable.fits at this
  simp only[Bool.and_eq_true,beq_iff_eq]at this
  rw[this.1,X.size]
 unfold setRoomFor
 refine wpAny_bind (wpAny_setState_of ho X.dat X.fit ?_)
 show wpAny _ _ (match t.roomFor n with | some wanted=>setRelay a wanted | x=>pure PUnit.unit) _ _ _
 unfold SetTable.roomFor
 by_cases hq:(t.fill+n) * 5 >= t.mask * 3
 · rw[if_pos hq]
   refine tset_relay ho X (by rw[hps];omega) (by rw[hps];omega) fun h' o' es' t' k h1 h2 h3=>q h' o' es' _ t' k h1 h2 fun _=>by rw[hps]at h3;omega
 · rw[if_neg hq]
   exact wpAny_pure (q s.heap o es ep t (Heap.SameBut.refl _ _) ho X fun z=>by rw[z]at hq;omega)
end
end L2
namespace L2
open PySem PySem.Spec PyProof.Rows
section
variable {prog:Program} {w:World} {A:Around} {E:Value->Shared->Prop} {s:Shared} {a f:Addr}
theorem tset_walk{o:Obj}{es:Array (Int×Value)}{ep:Nat}{t:SetTable}{xs:List Str}{Q:Array (Int×Value)->Shared->Prop}(ho:s.heap.get? a=some o)(X:TObj w o es ep t xs)(c:setBy w=true\/es.size<=1)(q:∀arr:Array (Int×Value),arr.toList.Perm es.toList->Q arr s) :
 wpAny (model prog w) A (setWalk a) Q E s:=by
 unfold setWalk
 refine wpAny_bind (wpAny_setState_of ho X.dat X.fit ?_)
 refine wpAny_bind (m:=setsByText) (wpAny_bind (wpAny_askSetting (wpAny_pure ?_)))
 cases hb:setBy w with
 | true=>
  have hb:w.params.followText "set-order" = true:=hb
  show wpAny _ _ (if w.params.followText "set-order" = true then _ else _) _ _ s
  rw[if_pos hb]
  exact wpAny_bind (wpAny_askSetting (wpAny_pure (q _ (pickOrder_perm _ _))))
 | false=>
  have hs:es.size<=1:=by
   rcases c with c | c
   · rw[c]at hb;cases hb
   · exact c
  have hb:w.params.followText "set-order" = false:=hb
  show wpAny _ _ (if w.params.followText "set-order" = true then _ else _) _ _ s
  rw[if_neg (by rw[hb];exact Bool.false_ne_true)]
  show wpAny _ _ (if (!t.plain && decide (es.size > 1))=true then _ else _) _ _ s
  rw[if_neg (by rw[decide_eq_false (by omega),Bool.and_false];exact Bool.false_ne_true)]
  show wpAny _ _ ((if (!t.led && decide (es.size > 1))=true then _ else _) >>= _) _ _ s
  rw[if_neg (by rw[decide_eq_false (by omega),Bool.and_false];exact Bool.false_ne_true)]
  exact wpAny_bind (wpAny_pure (wpAny_pure (q _ (.refl _))))
theorem tset_quiet{sets:List Addr}{Q:Bool->Shared->Prop}(h:∀b∈sets,∃xs,TxS w s.heap b xs)(q:Q true s):wpAny (model prog w) A (setsQuiet sets) Q E s:=by
 unfold setsQuiet
 refine wpAny_bind (wpAny_forIn_list _ (fun rest r s'=>r.1=none/\s'=s/\∀b∈rest,∃xs,TxS w s.heap b xs) _ ?_ ?_ _ _ ⟨rfl,rfl,h⟩)
 · rintro b rest r s' ⟨e1,rfl,hr⟩
   obtain⟨xs,o,es,ep,t,ho,X⟩:=hr b (by simp)
   unfold setEntries
   refine wpAny_bind (wpAny_bind (wpAny_setState_of ho X.dat X.fit (wpAny_pure ?_)))
   refine wpAny_bind (wpAny_forIn_array' _ (fun rest2 r2 s2=>r2.1=none/\s2=s'/\∀e∈rest2,GoodE w e) _ ?_ ?_ _ _ ⟨rfl,rfl,X.good⟩)
   · rintro e rest2 r2 s2 ⟨e3,rfl,hg⟩
     obtain⟨y,tk,rfl⟩:=hg e (by simp)
     exact wpAny_pure ⟨rfl,rfl,fun e he=>hg e (List.mem_cons_of_mem _ he)⟩
   · rintro⟨r2,u2⟩ s2 ⟨e3,rfl,_⟩
     dsimp only at e3
     subst e3
     exact wpAny_pure ⟨rfl,rfl,fun b hb=>hr b (List.mem_cons_of_mem _ hb)⟩
 · rintro⟨r,u⟩ s' ⟨e1,rfl,_⟩
   dsimp only at e1
   subst e1
   exact wpAny_pure q
theorem tset_unseen{o:Obj}{es:Array (Int×Value)}{ep:Nat}{t:SetTable}{xo xs:List Str}{Q:Array (Int×Value)->Shared->Prop}(ho:s.heap.get? a=some o)(X:TObj w o es ep t xo)(y:TxS w s.heap f xs)(hne:f≠a)
 (q:∀h' (arr:Array (Int×Value)),Heap.SameBut f s.heap h'->TxS w h' f xs->arr.toList.Perm es.toList->Q arr { s with heap:=h' }):wpAny (model prog w) A (setWalkUnseen a [f] (some f)) Q E s:=by
 unfold setWalkUnseen
 refine wpAny_bind (wpAny_setState_of ho X.dat X.fit ?_)
 refine wpAny_bind (m:=setsByText) (wpAny_bind (wpAny_askSetting (wpAny_pure ?_)))
 show wpAny _ _ (if (setBy w || (t.led && t.plain) || decide (es.size<=1))=true then _ else _) _ _ _
 by_cases c:(setBy w || (t.led && t.plain) || decide (es.size<=1))=true
 · rw[if_pos c]
   refine tset_walk ho X ?_ fun arr pm=>q s.heap arr (Heap.SameBut.refl _ _) y pm
   by_cases hz:es.size<=1
   · exact .inr hz
   · rw[X.pl (by omega),decide_eq_false hz,Bool.and_false,Bool.or_false,Bool.or_false]at c
     exact .inl c
 · rw[if_neg c]
   refine wpAny_bind (tset_quiet (fun b hb=>?_) ?_)
   · rcases List.mem_cons.mp hb with rfl | hb
     · exact⟨xo,o,es,ep,t,ho,X⟩
     · rw[List.mem_singleton.mp hb]
       exact⟨xs,y⟩
   · show wpAny _ _ (if (!true)=true then _ else _) _ _ _
     rw[if_neg (by decide)]
     refine wpAny_bind (wpAny_rule ?_)
     obtain⟨of,ef,epf,tf,hof,F⟩:=id y
     show wpAny _ _ (setState f >>= _) _ _ _
     refine wpAny_bind (wpAny_setState_of hof F.dat F.fit ?_)
     dsimp only
     split
     · refine wpAny_bind (wpAny_storeSet_of hof F.dat ?_ (fits_of_scanBound F.bnd))
       refine wpAny_pure (q _ es (Heap.SameBut.update ..) ⟨_,ef,_,_,TObj.store hof F.ex F.dat,F.ex,rfl,F.good,F.perm,F.nd,F.len,?_,?_,?_,?_⟩ (.refl _))
       · have:=F.fit
         cases tf
         exact this
       · show(tf.led && t.led)=_
         rw[F.led,X.led,Bool.and_self]
       · intro z
         show(tf.plain && t.plain)=false
         rw[F.pl z,Bool.false_and]
       · exact F.msk
     · exact wpAny_pure (q s.heap es (Heap.SameBut.refl _ _) y (.refl _))
theorem tset_merge{each:Sem Unit}{o:Obj}{eo:Array (Int×Value)}{ep:Nat}{t:SetTable}{xo xs:List Str}{Q:Unit->Shared->Prop}(ho:s.heap.get? a=some o)(X:TObj w o eo ep t xo)(y:TxS w s.heap f xs)(hne:f≠a)(hz:xs.length+xo.length<=20)
 (hE:∀(s':Shared) (Q:Unit->Shared->Prop),s'.heap.get? a=some o->Q () s'->wpAny (model prog w) A each Q E s')
 (q:∀h' ys,Heap.SameBut f s.heap h'->TxS w h' f ys->(∀z,z∈ys↔z∈xs\/z∈xo)->Q () { s with heap:=h' }):wpAny (model prog w) A (setMerge f a each) Q E s:=by
 have ze:=X.size
 unfold setMerge
 rw[if_neg (by simpa using hne)]
 refine wpAny_bind (wpAny_setState_of ho X.dat X.fit ?_)
 dsimp only
 by_cases he:eo.isEmpty=true
 · rw[if_pos he]
   have h0:xo = []:=List.length_eq_zero_iff.mp (by rw[←ze];simpa using he)
   exact wpAny_pure (q s.heap xs (Heap.SameBut.refl _ _) y fun z=>by rw[h0];simp)
 · rw[if_neg he]
   refine wpAny_bind (tset_room (n:=eo.size) y (by rw[ze];exact hz) fun h1 of es1 ep1 t1 k1 e1 F hm=>?_)
   have ho1:h1.get? a=some o:=by rw[k1.2 a (Ne.symm hne)];exact ho
   refine wpAny_bind (wpAny_setState_of (s:={ s with heap:=h1 }) e1 F.dat F.fit ?_)
   dsimp only
   have hps:t1.place.size=xs.length:=by
    have:=F.fit
    unfold SetTable.fits at this
    simp only[Bool.and_eq_true,beq_iff_eq]at this
    rw[this.1,F.size]
   have ne0:eo.size≠0:=fun z=>he (by simpa using z)
   have hx0:t1.fill=0->xs = []/\es1.size=0:=fun z=>by
    unfold SetTable.fill at z
    have:xs.length=0:=by omega
    exact⟨List.length_eq_zero_iff.mp this,by rw[F.size,this]⟩
   by_cases hf0:t1.fill=0
   · obtain⟨hx,hes⟩:=hx0 hf0
     unfold SetTable.road
     rw[if_neg (by rw[hf0];simp)]
     by_cases hr:(t1.mask == t.mask && t.dummies.isEmpty)=true
     · rw[if_pos hr]
       dsimp only
       refine wpAny_storeSet_of e1 F.dat ?_ (fits_of_scanBound X.bnd)
       refine q _ xo (k1.trans (Heap.SameBut.update ..)) ⟨_,eo,_,_,TObj.store e1 F.ex F.dat,F.ex,rfl,X.good,X.perm,X.nd,X.len,?_,?_,?_,fun z=>absurd z ne0⟩ fun z=>by rw[hx];simp
       · have:=X.fit
         cases t
         exact this
       · show(t1.led && t.led)=_
         rw[F.led,X.led,Bool.and_self]
       · intro z
         show(t1.plain && t.plain)=false
         rw[X.pl z,Bool.and_false]
     · rw[if_neg hr]
       dsimp only
       have hsz:(eo.map (·.1)).size=eo.size:=Array.size_map
       obtain⟨t',order,e,hp,hf,hl,hpl,hmk⟩:=laid_ok (mask:=t1.mask) (f:=t1.finger) (m:=t1.moves) (led:=t1.led && t.led) (plain:=t1.plain && t.plain) (hs:=eo.map (·.1)) (F.msk hes) (by rw[hsz];exact hm hf0)
       rw[hsz]at hp hf
       rw[e]
       have pm:=fill_perm hp
       have z1:(order.filterMap (eo[·]?)).size=eo.size:=by rw[←Array.length_toList,pm.length_eq,Array.length_toList]
       refine wpAny_bind ?_
       show wpAny _ _ (if ((order.filterMap (eo[·]?)).size != eo.size)=true then _ else _) _ _ _
       rw[if_neg (by rw[z1];simp)]
       refine wpAny_pure ?_
       dsimp only
       refine wpAny_storeSet_of e1 F.dat ?_ (by rw[z1];exact fits_of_scanBound X.bnd)
       refine q _ xo (k1.trans (Heap.SameBut.update ..)) ⟨_,_,_,t',TObj.store e1 F.ex F.dat,F.ex,rfl,fun e he=>X.good e (pm.mem_iff.mp he),(pm.map keyE).trans X.perm,X.nd,X.len,by rw[z1];exact hf,?_,?_,fun z=>absurd (z1.symm.trans z) ne0⟩ fun z=>by rw[hx];simp
       · rw[hl,F.led,X.led,Bool.and_self]
       · intro z
         rw[hpl,X.pl (by rw[←z1];exact z),Bool.and_false]
   · unfold SetTable.road
     rw[if_pos (by simpa using hf0)]
     dsimp only
     refine wpAny_bind (tset_unseen (s:={ s with heap:=h1 }) ho1 X ⟨of,es1,ep1,t1,e1,F⟩ hne fun h2 arr k2 y2 pm=>?_)
     have ho2:h2.get? a=some o:=by rw[k2.2 a (Ne.symm hne)];exact ho1
     refine wpAny_bind (wpAny_forIn_array' _ (fun rest _ s'=>∃h3 ys,s' = { s with heap:=h3 }/\Heap.SameBut f s.heap h3/\TxS w h3 f ys/\(∀e∈rest,GoodE w e)/\ys.length+rest.length<=40/\∀z,(z∈ys\/z∈rest.map keyE)↔(z∈xs\/z∈xo)) _ ?_ ?_ _ _ ⟨h2,xs,rfl,k1.trans k2,y2,fun e he=>X.good e (pm.mem_iff.mp he),?_,fun z=>?_⟩)
     · rintro e rest r s' ⟨h3,ys,rfl,k3,y3,hg,hl,hmem⟩
       obtain⟨z,tk,rfl⟩:=hg e (by simp)
       have ho3:h3.get? a=some o:=by rw[k3.2 a (Ne.symm hne)];exact ho
       rw[List.length_cons]at hl
       refine wpAny_bind (wpAny_holding (tset_add (s:={ s with heap:=h3 }) y3 (by omega) fun b h4 k4 y4=>?_))
       have ho4:h4.get? a=some o:=by rw[k4.2 a (Ne.symm hne)];exact ho3
       refine wpAny_bind (hE _ _ ho4 ?_)
       refine wpAny_bind (wpAny_setState_of (s:={ s with heap:=h4 }) ho4 X.dat X.fit ?_)
       dsimp only
       rw[if_neg (by simp)]
       refine wpAny_pure ⟨h4,addS ys z,rfl,k3.trans k4,y4,fun e he=>hg e (List.mem_cons_of_mem _ he),by have:=addS_len ys z;omega,fun u=>?_⟩
       rw[←hmem u,addS_mem,List.map_cons,List.mem_cons]
       have ek:keyE (keyH w (.inr z),Value.str z tk)=z:=rfl
       rw[ek]
       constructor
       · rintro((p | p) | p)
         · exact .inl p
         · exact .inr (.inl p)
         · exact .inr (.inr p)
       · rintro(p | p | p)
         · exact .inl (.inl p)
         · exact .inl (.inr p)
         · exact .inr p
     · rintro r s' ⟨h3,ys,rfl,k3,y3,_,_,hmem⟩
       exact wpAny_pure (q h3 ys k3 y3 fun z=>by rw[←hmem z];simp)
     · have e9:eo.toList.length=eo.size:=Array.length_toList
       have e8:=pm.length_eq
       omega
     · have:z∈arr.toList.map keyE↔z∈xo:=((pm.map keyE).trans X.perm).mem_iff
       rw[this]
end
end L2
namespace L2
open PySem PySem.Spec PyProof.Rows
theorem nodup_len{α:Type}[DecidableEq α]:∀{xs ys:List α},xs.Nodup->(∀z∈xs,z∈ys)->xs.length<=ys.length
 | [],ys,_,_=>Nat.zero_le _
 | x::xs,ys,hn,h=>by
  have hx:=h x (by simp)
  have hn':=List.nodup_cons.mp hn
  have:=nodup_len (xs:=xs) (ys:=ys.erase x) hn'.2 fun z hz=>(List.mem_erase_of_ne (fun e=>hn'.1 (by rw[←e];exact hz))).mpr (h z (List.mem_cons_of_mem _ hz))
  rw[List.length_erase_of_mem hx]at this
  have hp:0<ys.length:=List.length_pos_of_mem hx
  rw[List.length_cons]
  omega
section
variable {prog:Program} {w:World} {A:Around} {E:Value->Shared->Prop} {s:Shared} {a f:Addr}
theorem any_set{v:Value}{Q:Bool->Shared->Prop}(hT:s.TypeIs v "set")(q:Q true s):wpAny (model prog w) A (Builtin.Frozenset.isAnySet v) Q E s:=by
 unfold Builtin.Frozenset.isAnySet
 show wpAny _ _ (isInstance v (.type "set") >>= _) _ _ _
 exact wpAny_bind (wpAny_isInstance (T:="set") (b:=true) hT sub_set_self (wpAny_pure q))
theorem any_dict{v:Value}{Q:Bool->Shared->Prop}(hT:s.TypeIs v "dict")(q:Q false s):wpAny (model prog w) A (Builtin.Frozenset.isAnySet v) Q E s:=by
 unfold Builtin.Frozenset.isAnySet
 show wpAny _ _ (isInstance v (.type "set") >>= _) _ _ _
 refine wpAny_bind (wpAny_isInstance (T:="dict") (b:=false) hT PySem.F.sub_dict_set ?_)
 exact wpAny_isInstance (T:="dict") (b:=false) hT PySem.F.sub_dict_frozenset q
theorem new_set{Q:Value->Shared->Prop}(h:Q (.ref s.heap.objs.size) { s with heap:=s.heap.push { cls:=.type "set",dict:=none,data:=.set #[] 0 (.fresh 0 0 (!setBy w)) } }):wpAny (model prog w) A (newSet (.type "set")) Q E s:=by
 unfold newSet
 refine wpAny_bind (m:=setsByText) (wpAny_bind (wpAny_askSetting (wpAny_pure ?_)))
 exact wpAny_newObj_type h
theorem tset_copy{xs:List Str}{Q:Value->Shared->Prop}(x:TxS w s.heap a xs)(hz:xs.length<=20)(q:∀h' ys,(∀b o,s.heap.get? b=some o->h'.get? b=some o)->s.heap.objs.size<h'.objs.size->TxS w h' s.heap.objs.size ys->(∀z,z∈ys↔z∈xs)->Q (.ref s.heap.objs.size) { s with heap:=h' }) :
 wpAny (model prog w) A (Builtin.Frozenset.copyOf a) Q E s:=by
 obtain⟨o,es,ep,t,ho,X⟩:=id x
 have hlt:=Heap.lt_size ho
 unfold Builtin.Frozenset.copyOf
 refine wpAny_bind ?_
 unfold Builtin.Frozenset.baseOf
 refine wpAny_bind (wpAny_isInstance (T:="set") (b:=true) x.typeIs sub_set_self (wpAny_pure ?_))
 rw[if_pos rfl]
 refine wpAny_bind (new_set ?_)
 refine wpAny_bind (m:=Builtin.Frozenset.addrOf _) (wpAny_pure ?_)
 have ho1:=Heap.get?_push_of_some { cls:=.type "set",dict:=none,data:=.set #[] 0 (.fresh 0 0 (!setBy w)) } ho
 refine wpAny_bind (tset_merge (s:={ s with heap:=_ }) ho1 X ⟨_,_,_,_,Heap.get?_push_size _ rfl,tset_fresh⟩ (Nat.ne_of_gt hlt) (by simpa using hz) (fun s' Q _ h=>wpAny_pure h) fun h' ys k y hm=>wpAny_pure ?_)
 refine q h' ys (fun b o e=>?_) ?_ y fun z=>by rw[hm z];simp
 · rw[k.2 b (Nat.ne_of_lt (Heap.lt_size e))]
   exact Heap.get?_push_of_some _ e
 · obtain⟨o',_,_,_,e',_⟩:=y
   exact Heap.lt_size e'
theorem entry_set_or:entryFor table "set.__or__" = some Builtin.«frozenset.__or__»:=entryFor_alias (id':="frozenset.__or__") (by kernel_rfl) rfl (by decide +kernel) (by kernel_rfl)
theorem tset_union{l r:Addr}{xs ys:List Str}{Q:Value->Shared->Prop}(x:TxS w s.heap l xs)(y:TxS w s.heap r ys)(hne:l≠r)(hz:xs.length+ys.length<=20)
 (q:∀h' zs,(∀b o,s.heap.get? b=some o->h'.get? b=some o)->TxS w h' s.heap.objs.size zs->(∀z,z∈zs↔z∈xs\/z∈ys)->Q (.ref s.heap.objs.size) { s with heap:=h' }) :
 wpAny (model prog w) A (call (.builtin "set.__or__") [.ref l,.ref r]) (fun v s'=>v≠.notImplemented/\Q v s') E s:=by
 refine wpAny_call_entry PySem.F.slot_set_or x.typeIs entry_set_or ?_ (PySem.F.args_set_or_2 _ _)
 unfold Builtin.«frozenset.__or__»
 show wpAny _ _ (Builtin.Frozenset.slot1 "__or__" ⟨[.ref l,.ref r],[]⟩ >>= _) _ _ _
 refine wpAny_bind (m:=Builtin.Frozenset.slot1 _ _) (wpAny_pure ?_)
 dsimp only
 rw[if_neg Bool.false_ne_true]
 dsimp only
 refine wpAny_bind ?_
 show wpAny _ _ (Builtin.Frozenset.isAnySet (.ref l) >>= _) _ _ _
 refine wpAny_bind (any_set x.typeIs ?_)
 refine any_set y.typeIs ?_
 show wpAny _ _ (if (!true)=true then _ else _) _ _ _
 rw[if_neg (by decide)]
 refine wpAny_bind (m:=Builtin.Frozenset.addrOf _) (wpAny_pure ?_)
 refine wpAny_bind ?_
 show wpAny _ _ (Builtin.Frozenset.copyOf l >>= _) _ _ _
 obtain⟨ox,_,_,_,hox,_⟩:=id x
 have hlx:=Heap.lt_size hox
 refine wpAny_bind (tset_copy x (by omega) fun h1 zs k1 hl1 z1 m1=>?_)
 show wpAny _ _ (if (Value.ref r != Value.ref l)=true then _ else _) _ _ _
 rw[if_pos (by simp[bne];exact fun z=>hne z.symm)]
 have y1:=y.at' (h':=h1) fun o e=>k1 _ o e
 obtain⟨o,es,ep,t,ho,X⟩:=id y1
 obtain⟨oy,_,_,_,hoy,_⟩:=id y
 have hly:=Heap.lt_size hoy
 have lz:zs.length<=xs.length:=by
  obtain⟨_,_,_,_,_,Z⟩:=z1
  obtain⟨_,_,_,_,_,X0⟩:=x
  exact nodup_len Z.nd fun z hz=>(m1 z).mp hz
 refine wpAny_bind (m:=Builtin.Frozenset.addrOf _) (wpAny_pure (wpAny_bind (wpAny_holding ?_)))
 unfold Builtin.Frozenset.updateFrom
 refine wpAny_bind (any_set (s:={ s with heap:=h1 }) y1.typeIs ?_)
 rw[if_pos rfl]
 refine wpAny_bind (m:=Builtin.Frozenset.addrOf _) (wpAny_pure ?_)
 refine wpAny_bind (m:=setEpoch r) (wpAny_setEpoch_of (s:={ s with heap:=h1 }) ho X.dat X.fit ?_)
 refine tset_merge (s:={ s with heap:=h1 }) ho X z1 (Nat.ne_of_gt hly) (by omega) (fun s' Q' e q'=>?_) fun h2 us k2 u2 m2=>?_
 · unfold Builtin.Frozenset.unchanged
   refine wpAny_bind (wpAny_setEpoch_of e X.dat X.fit ?_)
   rw[if_neg (by simp)]
   exact wpAny_pure q'
 · refine wpAny_pure (wpAny_pure ⟨_,rfl,(by intro z;cases z),q h2 us (fun b o e=>?_) u2 fun z=>by rw[m2 z,m1 z]⟩)
   rw[k2.2 b (Nat.ne_of_lt (Heap.lt_size e))]
   exact k1 b o e
end
end L2
namespace L2
open PySem PySem.Spec PyProof.Rows
section
variable {prog:Program} {w:World} {A:Around} {E:Value->Shared->Prop} {s:Shared} {a f:Addr}
noncomputable def newS(w:World):Obj:={ cls:=.type "set",dict:=none,data:=.set #[] 0 (.fresh 0 0 (!setBy w)) }
theorem code_set_newT(v:Value){Q₁:Value->Shared->Prop}(h:Q₁ (.ref s.heap.objs.size) { s with heap:=s.heap.push (newS w) }):codeAny (model prog w) A (.call (.builtin "set.__new__") ⟨[.type "set",v],[]⟩) (wants Q₁ E) s:=by
 refine codeAny_of_tree ?_
 show wpAny _ A.in1 (do { checkBuiltinCall "set.__new__" ⟨[.type "set",v],[]⟩;again (.builtin "set.__new__" ⟨[.type "set",v],[]⟩) }) _ _ s
 refine wpAny_bind (wpAny_of_eq (PySem.F.newCall_set_1 v) (wpAny_pure ⟨plainId_quiet PySem.F.plain_set_new _,codeAny_builtin PySem.F.entry_set_new ?_⟩))
 rw[Around.under_plainId PySem.F.plain_set_new _];unfold Builtin.«set.__new__» Builtin.Frozenset.newClass
 have hsub:=sub_set_self;obtain⟨hp,g,d,tk,os⟩:=s;dsimp only
 wp_walk
 refine wpAny_askSetting (wpAny_pure ?_);dsimp only;simp only[newObj]
 exact wpAny_bind (wpAny_alloc (wpAny_pure (wpAny_pure h)))
theorem call_set_by{v:Value}{Q:Value->Shared->Prop}(hq:∀A':Around,A'.handled=A.handled->wpAny (model prog w) A' (Builtin.Frozenset.updateFrom "set.__init__" s.heap.objs.size v) (fun _ s'=>Q (.ref s.heap.objs.size) s') E { s with heap:=s.heap.push (newS w) }) :
 wpAny (model prog w) A (call (.type "set") [v]) Q E s:=by
 obtain⟨c,tl,hmro⟩:=PySem.F.called_set.mro;have hmade:=PySem.F.called_set.made;have hsub:=PySem.F.called_set.sub
 refine wpAny_call (codeAny_of_tree ?_)
 show wpAny _ _ (callAny (.type "set") _) _ _ _
 refine wpAny_pure ⟨Code.quiet_builtin _ (by decide +kernel),codeAny_builtin PySem.F.entry_type_call ?_⟩
 rw[Around.under_plain (weight_type_call_type "set" [v] []) rfl]
 have h1:=PySem.F.called_set.notType;have h2:=PySem.F.called_set.canCreate;have hct:=PySem.F.typeCall_set_1 v
 repeat (any_goals (first | assumption | wp_step))
 refine codeAny_mono (code_set_newT v (E:=E) (Q₁:=fun obj s₁=>obj = .ref s.heap.objs.size/\s₁ = { s with heap:=s.heap.push (newS w) }) ⟨rfl,rfl⟩) fun r s₁ hr=>?_
 cases r with
 | error e=>exact hr
 | ok fl=>
  cases fl with
  | ret obj=>
   obtain⟨rfl,rfl⟩:=hr
   have hS:(s.heap.push (newS w)).get? s.heap.objs.size=some (newS w):=Heap.get?_push_size _ rfl
   have hT:Shared.TypeIs { s with heap:=s.heap.push (newS w) } (.ref s.heap.objs.size) "set":=⟨_,hS,rfl⟩
   have hli:=PySem.F.called_set.init.lookup;have hbi:=PySem.F.called_set.init.bind (.ref s.heap.objs.size)
   repeat (any_goals (first | assumption | wp_step))
   refine codeAny_mono (codeAny_call_builtin (R:=wants (fun r s₂=>r = .none/\Q (.ref s.heap.objs.size) s₂) E) PySem.F.called_set.init.plain PySem.F.entry_set_init (check_set_init_1 hT ?_)) fun r₂ s₂ hr₂=>?_
   · unfold Builtin.«set.__init__» noKeywords
     have hq':=hq
     generalize hUF:Builtin.Frozenset.updateFrom=UF at hq' ⊢
     have hS':(s.heap.push (newS w)).get? s.heap.objs.size=some { cls:=.type "set",dict:=none,data:=.set #[] 0 (.fresh 0 0 (!setBy w)) }:=hS
     wp_walk
     exact wpAny_mono (hq' _ rfl) (fun _ s' z=>wpAny_pure ⟨rfl,z⟩) fun _ _ e=>e
   · cases r₂ with
     | error e=>exact hr₂
     | ok fl₂=>
      cases fl₂ with
      | ret r=>
       obtain⟨rfl,z⟩:=hr₂
       repeat (any_goals (first | assumption | wp_step))
      | _=>exact hr₂.elim
  | _=>exact hr.elim
theorem any_list{v:Value}{Q:Bool->Shared->Prop}(hT:s.TypeIs v "list")(q:Q false s):wpAny (model prog w) A (Builtin.Frozenset.isAnySet v) Q E s:=by
 unfold Builtin.Frozenset.isAnySet
 show wpAny _ _ (isInstance v (.type "set") >>= _) _ _ _
 refine wpAny_bind (wpAny_isInstance (T:="list") (b:=false) hT PySem.F.sub_list_set ?_)
 exact wpAny_isInstance (T:="list") (b:=false) hT PySem.F.sub_list_frozenset q
theorem tset_loop{R:Result->Shared->Prop}{I S:Addr}{fp wr:List Addr}{n:Nat}{P:Nat->Value->Prop}{St:Nat->Heap->Prop}(W:Walks prog w A.in1 I fp wr n P St)(hSf:S∉fp){ys:List Str}(hv:∀i v,P i v->∃y tk,ys[i]? = some y/\v = .str y tk)(hb:n<=500)(hn:ys.length=n) :
 ∀(k i:Nat) (s:Shared) (xs:List Str),n - i=k->i<=n->St i s.heap->TxS w s.heap S xs->xs.length<=i->(∀h' tk zs,(∀b o,b≠S->b∉wr->s.heap.get? b=some o->h'.get? b=some o)->TxS w h' S zs->(∀z,z∈zs↔z∈xs\/z∈ys.drop i)->R (.ok (.ret .none)) { s with heap:=h',toks:=tk }) ->
  codeAny (model prog w) A (.builtin "set.update.loop" ⟨[.ref S,.ref I],[]⟩) R s:=by
 have hSw:S∉wr:=fun h=>hSf (W.sub _ h)
 intro k
 induction k with
 | zero=>
  intro i s xs hk hi hst hS hl hR
  have hin:i=n:=by omega
  subst hin
  refine codeAny_builtin PyProof.Rows.F.entry_set_update_loop ?_
  rw[Around.under_plainId PyProof.Rows.F.plain_set_update_loop _];show wpAny _ A.in1 (pyNext (.ref I) >>= _) _ _ s
  refine wpAny_bind (W.done s _ _ hst fun h' tk hm=>?_)
  show wpAny _ A.in1 (ret Value.none) _ _ _
  exact wpAny_pure (hR h' tk xs (fun b o _ hb e=>hm b o hb e) (hS.at' fun o e=>hm S o hSw e) fun z=>by rw[List.drop_eq_nil_of_le (by omega)];simp)
 | succ k ih=>
  intro i s xs hk hi hst hS hl hR
  have hlt:i<n:=by omega
  refine codeAny_builtin PyProof.Rows.F.entry_set_update_loop ?_
  rw[Around.under_plainId PyProof.Rows.F.plain_set_update_loop _];show wpAny _ A.in1 (pyNext (.ref I) >>= _) _ _ s
  refine wpAny_bind (W.item i s _ _ hlt hst fun v h1 tk1 hP hst' hm=>?_)
  obtain⟨y,tk,hy,rfl⟩:=hv i v hP
  have hS':TxS w h1 S xs:=hS.at' fun o e=>hm S o hSw e
  show wpAny _ A.in1 (holding [Value.str y tk] (setAdd S (.str y tk)) >>= _) _ _ _
  refine wpAny_bind (wpAny_holding ?_)
  unfold setAdd
  refine wpAny_holding (wpAny_bind ((mixKind prog w).pyHash (k:=.inr y) (mixKind_str prog w y tk) ?_))
  refine tset_add (s:={ s with heap:=h1,toks:=tk1+1 }) hS' (by omega) fun b h2 k2 S2=>?_
  have ld:=addS_len xs y
  have hd:ys.drop i=y::ys.drop (i+1):=by
   obtain⟨hi',e⟩:=List.getElem?_eq_some_iff.mp hy
   rw[←e]
   exact List.drop_eq_getElem_cons hi'
  refine wpAny_pure ⟨plainId_quiet PyProof.Rows.F.plain_set_update_loop _,ih (i+1) { s with heap:=h2,toks:=tk1+1 } (addS xs y) (by omega) hlt (W.frame _ h1 _ hst' fun b hb o e=>?_) S2 (by omega) fun h' tk' zs kk Z mem=>?_⟩
  · rw[k2.2 b (fun h:b=S=>hSf (by rw[←h];exact hb))];exact e
  · refine hR h' tk' zs (fun b o hb hw e=>kk b o hb hw ?_) Z fun z=>?_
    · rw[k2.2 b hb];exact hm b o hw e
    · rw[mem z,addS_mem,hd,List.mem_cons]
      constructor
      · rintro((p | p) | p)
        · exact .inl p
        · exact .inr (.inl p)
        · exact .inr (.inr p)
      · rintro(p | p | p)
        · exact .inl (.inl p)
        · exact .inl (.inr p)
        · exact .inr p
theorem call_set_listT{l:Addr}{items:Array Value}{ys:List Str}{Q:Value->Shared->Prop}(hh:A.handled=none)(hl:s.heap.IsList l items)(hv:∀(i:Nat) (v:Value),items[i]? = some v->∃y tk,ys[i]? = some y/\v=Value.str y tk)(hb:items.size<=500)(hn:ys.length=items.size)
 (q:∀h' tk zs,(∀b o,s.heap.get? b=some o->h'.get? b=some o)->TxS w h' s.heap.objs.size zs->(∀z,z∈zs↔z∈ys)->Q (.ref s.heap.objs.size) { s with heap:=h',toks:=tk }):wpAny (model prog w) A (call (.type "set") [.ref l]) Q E s:=by
 refine call_set_by fun A' hA=>?_
 have hl1:(s.heap.push (newS w)).IsList l items:=hl.push _
 obtain⟨ol,hol,hcl,nl,hdl⟩:=id hl
 have hlS:l<s.heap.objs.size:=Heap.lt_size hol
 unfold Builtin.Frozenset.updateFrom
 refine wpAny_bind (any_list (s:={ s with heap:=_ }) hl1.typeIs ?_)
 rw[if_neg Bool.false_ne_true]
 refine wpAny_bind (wpAny_typeOf (s:={ s with heap:=_ }) hl1.typeIs ?_)
 rw[if_neg (by decide)]
 refine wpAny_bind (wpAny_pyIter_list (s:={ s with heap:=_ }) hl1 ?_)
 refine wpAny_bind (wpAny_runValue ?_)
 have hz:(s.heap.push (newS w)).objs.size=s.heap.objs.size+1:=Heap.size_push _ _
 have hneI:l≠(s.heap.push (newS w)).objs.size:=by rw[hz];exact Nat.ne_of_lt (Nat.lt_succ_of_lt hlS)
 refine tset_loop (Walks.list (A:=A'.in1) (by rw[show A'.in1.handled=A'.handled from rfl,hA,hh]) _ l hneI items) (S:=s.heap.objs.size) ?_ hv hb hn (items.size - 0) 0 _ [] (by omega) (Nat.zero_le _) ⟨⟨_,Heap.get?_push_size _ rfl,rfl,rfl⟩,hl1.push _⟩
  ⟨_,_,_,_,Heap.get?_push_of_some _ (Heap.get?_push_size _ rfl),tset_fresh⟩ (Nat.zero_le _) fun h' tk zs k Z m=>?_
 · simp only[List.mem_cons,List.not_mem_nil,or_false,not_or]
   exact⟨by rw[hz];exact Nat.ne_of_lt (Nat.lt_succ_self _),Nat.ne_of_gt hlS⟩
 · show wpAny _ _ _ _ _ _
   refine wpAny_pure (q h' tk zs (fun b o e=>k b o (Nat.ne_of_lt (Heap.lt_size e)) (fun hb=>?_) (Heap.get?_push_of_some _ (Heap.get?_push_of_some _ e))) Z fun z=>by rw[m z];simp)
   have:=Heap.lt_size e
   rw[List.mem_singleton.mp hb,hz]at this
   exact absurd (Nat.lt_of_succ_lt this) (Nat.lt_irrefl _)
end
end L2
namespace L2
open PySem PySem.Spec PyProof.Rows
section
variable {prog:Program} {w:World} {A:Around} {E:Value->Shared->Prop} {s:Shared}
theorem call_set_dictT{d:Addr}{o:Obj}{es:Array DictEntry}{ep:Nat}{ks:List Str}{Q:Value->Shared->Prop}(ho:s.heap.get? d=some o)(hc:o.cls = .type "dict")(hd:o.data = .dict es ep)(hm:(d == sysModules)=false)(hn:ks.length=es.size)(hb:ks.length<=20)
 (hk:∀(i:Nat) (e:DictEntry),es[i]? = some e->∃y tk,ks[i]? = some y/\e.key=Value.str y tk/\e.hash=keyH w (.inr y))
 (q:∀h' zs,(∀b o,s.heap.get? b=some o->h'.get? b=some o)->TxS w h' s.heap.objs.size zs->(∀z,z∈zs↔z∈ks)->Q (.ref s.heap.objs.size) { s with heap:=h' }):wpAny (model prog w) A (call (.type "set") [.ref d]) Q E s:=by
 refine call_set_by fun A' hA=>?_
 have hlt:=Heap.lt_size ho
 have ho1:=Heap.get?_push_of_some (newS w) ho
 have hT:Shared.TypeIs { s with heap:=s.heap.push (newS w) } (.ref d) "dict":=⟨_,ho1,hc⟩
 unfold Builtin.Frozenset.updateFrom
 refine wpAny_bind (any_dict hT ?_)
 rw[if_neg Bool.false_ne_true]
 refine wpAny_bind (wpAny_typeOf hT ?_)
 rw[if_pos (by decide)]
 refine wpAny_bind (wpAny_rule ?_)
 refine wpAny_bind (m:=Builtin.Frozenset.addrOf _) (wpAny_pure ?_)
 rw[hm,if_neg Bool.false_ne_true]
 refine wpAny_bind (wpAny_dictEpoch (s:={ s with heap:=s.heap.push (newS w) }) ho1 hd ?_)
 refine wpAny_bind (wpAny_dictEntries (s:={ s with heap:=s.heap.push (newS w) }) ho1 hd ?_)
 have hS0:TxS w (s.heap.push (newS w)) s.heap.objs.size []:=⟨_,_,_,_,Heap.get?_push_size _ rfl,tset_fresh⟩
 refine wpAny_bind (tset_room (s:={ s with heap:=s.heap.push (newS w) }) (n:=es.size) hS0 (by rw[←hn];simpa using hb) fun h1 o1 es1 ep1 t1 k1 e1 X1 _=>?_)
 have hne:d≠s.heap.objs.size:=Nat.ne_of_lt hlt
 have ho2:h1.get? d=some o:=by rw[k1.2 d hne];exact ho1
 refine wpAny_bind (wpAny_dictEntries (s:={ s with heap:=h1 }) ho2 hd ?_)
 refine wpAny_bind ?_
 rw[Std.Legacy.Range.forIn_eq_forIn_range']
 simp only[Std.Legacy.Range.size,Nat.sub_zero,Nat.add_sub_cancel,Nat.div_one]
 refine wpAny_forIn_list _ (fun rest _ s'=>∃h' i zs,s' = { s with heap:=h' }/\rest=List.range' i (es.size - i)/\i<=es.size/\Heap.SameBut s.heap.objs.size (s.heap.push (newS w)) h'/\TxS w h' s.heap.objs.size zs/\zs.length<=i/\∀z,z∈zs↔z∈ks.take i) _ ?_ ?_ _ _ ⟨h1,0,[],rfl,by simp,Nat.zero_le _,k1,⟨_,_,_,_,e1,X1⟩,Nat.le_refl _,fun z=>by simp⟩
 · rintro x rest b s' ⟨h',i,zs,rfl,hr,hi,kk,Z,hl,mem⟩
   have hlt':i<es.size:=by
    rcases Nat.lt_or_ge i es.size with h | h
    · exact h
    · rw[Nat.sub_eq_zero_of_le h]at hr;simp at hr
   obtain⟨rfl,hrest⟩:x=i/\rest=List.range' (i+1) (es.size - (i+1)):=by
    have e:es.size - i=(es.size - (i+1))+1:=by omega
    rw[e,List.range'_succ]at hr
    injection hr with h1 h2;exact⟨h1,h2⟩
   have ho3:h'.get? d=some o:=by rw[kk.2 d hne];exact ho1
   refine wpAny_bind (wpAny_dictEntries (s:={ s with heap:=h' }) ho3 hd ?_)
   have hg:es[x]? = some es[x]:=Array.getElem?_eq_getElem hlt'
   obtain⟨y,tk,hy,hkey,hhash⟩:=hk x _ hg
   rw[hg]
   dsimp only
   rw[hkey,hhash]
   refine wpAny_bind (wpAny_holding (tset_add (s:={ s with heap:=h' }) Z (by omega) fun b h2 k2 Z2=>?_))
   have ho4:h2.get? d=some o:=by rw[k2.2 d hne];exact ho3
   refine wpAny_bind (wpAny_dictEpoch (s:={ s with heap:=h2 }) ho4 hd ?_)
   rw[if_neg (by simp)]
   refine wpAny_pure ⟨h2,x+1,addS zs y,rfl,hrest,hlt',kk.trans k2,Z2,by have:=addS_len zs y;omega,fun z=>?_⟩
   rw[addS_mem,mem z,List.take_add_one,hy]
   simp
 · rintro b s' ⟨h',i,zs,rfl,hr,hi,kk,Z,hl,mem⟩
   have hin:i=es.size:=by
    rcases Nat.lt_or_ge i es.size with h | h
    · have e:es.size - i=(es.size - (i+1))+1:=by omega
      rw[e,List.range'_succ]at hr;exact nomatch hr
    · exact Nat.le_antisymm hi h
   refine wpAny_pure (q h' zs (fun b o e=>?_) Z fun z=>by rw[mem z,hin,←hn,List.take_length])
   rw[kk.2 b (Nat.ne_of_lt (Heap.lt_size e))]
   exact Heap.get?_push_of_some _ e
end
end L2
namespace L2
open PySem PySem.Spec PyProof.Rows
noncomputable def NewS(w:World)(H:Hp)(ys:List Str)(Q:VK):Prop:=∀r xs H',H r=none->Same H H'->H' r=some (tset w r xs)->xs.Nodup->(∀z,z∈xs↔z∈ys)->Q (.ref r) H'
theorem TxS.nd{w:World}{h:Heap}{a:Addr}{xs:List Str}(x:TxS w h a xs):xs.Nodup:=x.elim fun _ zq506=>zq506.elim fun _ zq507=>zq507.elim fun _ zq508=>zq508.elim fun _ zq509=>zq509.elim fun _ X=>X.nd
theorem strs_at{us:List Value}{ys:List Str}(h:StrsAre us ys):us.length=ys.length/\∀(i:Nat) (v:Value),us[i]? = some v->∃y tk,ys[i]? = some y/\v=Value.str y tk:=by
 induction h with
 | nil=>exact⟨rfl,fun i v e=>by cases e⟩
 | cons y t _ ih=>
  refine⟨by simp[ih.1],fun i v e=>?_⟩
  cases i with
  | zero=>cases e;exact⟨y,t,rfl,rfl⟩
  | succ i=>exact ih.2 i v e
theorem vals_strs':∀{ys:List Str} {us:List Value},Vals (ys.map V.str) us->StrsAre us ys
 | [],us,r=>by cases r;exact .nil
 | y::ys,us,r=>by
  cases r with
  | cons a b=>
   obtain⟨t,rfl⟩:=a
   exact .cons y t (vals_strs' b)
section
variable {X:Cx}
theorem call_setL(hc:X.calm=true):CallR X (.type "set") (fun vs H Q=>∃p ys,vs = [.ref p]/\SqL X.K H p (ys.map V.str)/\ys.length<=500/\NewS X.w H ys Q):=by
 intro pins s σ H xs us Q I r h
 obtain⟨p,ys,rfl,hp,hz,q⟩:=h
 obtain⟨u,rfl,ru⟩:=vals1 r
 cases ru
 obtain⟨its,rv,ht,hz'⟩:=I.list hp
 have hs:=strs_at (vals_strs' rv)
 refine call_set_listT (I.ok.hd hc) ht.isList (ys:=ys) (fun i v e=>hs.2 i v (by simpa using e)) (by simp;omega) (by simp[hs.1]) fun h' tk zs k Z m=>?_
 have hn:=I.hok.fresh (Nat.le_refl s.heap.objs.size)
 exact⟨.ref s.heap.objs.size,_,I.laid (t':=tk) (a:=s.heap.objs.size) (o:=tset X.w s.heap.objs.size zs) k (Nat.le_refl _) (tset_ok Z),rfl,q _ zs _ hn (same_upd hn) upd_same Z.nd m⟩
theorem call_setD:CallR X (.type "set") (fun vs H Q=>∃p kvs ks,vs = [.ref p]/\H p=some (.dK kvs)/\KeysS kvs ks/\ks.length<=20/\NewS X.w H ks Q):=by
 intro pins s σ H xs us Q I r h
 obtain⟨p,kvs,ks,rfl,e,hks,hz,q⟩:=h
 obtain⟨u,rfl,ru⟩:=vals1 r
 cases ru
 obtain⟨z,hd,vs,rel,dd⟩:=dk_of I.hok e
 obtain⟨o,es,ep,ho,hx,hdt,hko,hpo,hno⟩:=id dd
 have hlen:=rel.length
 have l1:kvs.length=ks.length:=by have:=congrArg List.length hks;simpa using this
 have l2:es.size=vs.length:=by have:=hpo.length;simpa using this
 have hS:StrsAre (es.toList.map (·.key)) ks:=keysS_items (X:=X) hks rel (by rw[List.length_map,Array.length_toList];exact l2) fun j v hj=>by
  rw[List.getElem?_map]at hj
  cases he:es.toList[j]? with
  | none=>rw[he]at hj;cases hj
  | some en=>
   rw[he]at hj
   cases hj
   have hjl:=(List.getElem?_eq_some_iff.mp he).1
   rw[Array.length_toList]at hjl
   obtain⟨kv,hkv⟩:∃kv,vs[j]? = some kv:=⟨vs[j]'(by omega),List.getElem?_eq_getElem _⟩
   exact⟨kv.1,kv.2,hkv,(hpo.get? he hkv).1⟩
 refine call_set_dictT (ks:=ks) ho hx.1 hdt hd (by omega) hz (fun i en hi=>?_) fun h' zs k Z m=>?_
 · obtain⟨y,tk,hy,hk⟩:=(strs_at hS).2 i en.key (by rw[List.getElem?_map,Array.getElem?_toList,hi];rfl)
   obtain⟨k',hkey',hhash⟩:=hko en (Array.mem_of_getElem? hi)
   refine⟨y,tk,hy,hk,?_⟩
   rw[hk]at hkey'
   rw[hhash,(mixKind X.prog X.w).inj _ _ _ hkey' (mixKind_str X.prog X.w y tk)]
   rfl
 · have hn:=I.hok.fresh (Nat.le_refl s.heap.objs.size)
   exact⟨.ref s.heap.objs.size,_,I.laid (t':=s.toks) (a:=s.heap.objs.size) (o:=tset X.w s.heap.objs.size zs) k (Nat.le_refl _) (tset_ok Z),rfl,q _ zs _ hn (same_upd hn) upd_same Z.nd m⟩
theorem op_orS:OpR X (binaryOp .BitOr) (fun x y H Q=>∃p q xs ys,x = .ref p/\y = .ref q/\p≠q/\H p=some (tset X.w p xs)/\H q=some (tset X.w q ys)/\xs.length+ys.length<=20/\NewS X.w H (xs++ys) Q):=by
 intro pins s σ H x y v u Q I rx ry h
 obtain⟨p,q,xs,ys,rfl,rfl,hne,e1,e2,hz,qq⟩:=h
 cases rx
 cases ry
 have x1:=tset_rd I.hok e1
 have x2:=tset_rd I.hok e2
 refine wpAny_binaryOp_same (op:=.BitOr) (T:="set") x1.typeIs x2.typeIs PySem.F.fills_set_or PySem.F.slot_set_or (tset_union x1 x2 hne hz fun h' zs k Z m=>?_)
 have hn:=I.hok.fresh (Nat.le_refl s.heap.objs.size)
 exact⟨.ref s.heap.objs.size,_,I.laid (t':=s.toks) (a:=s.heap.objs.size) (o:=tset X.w s.heap.objs.size zs) k (Nat.le_refl _) (tset_ok Z),rfl,qq _ zs _ hn (same_upd hn) upd_same Z.nd fun z=>by rw[m z];simp⟩
end
end L2
namespace L2
open PySem PySem.Spec PyProof.Rows
section
variable {X:Cx}
end
end L2
namespace L2
open PySem PySem.Spec PyProof.Rows
section
variable {X:Cx} {tg:Expr}
noncomputable def rAll(K:PySem.W.Frag):List V->Hp->VK->Prop:=fun xs H Q=>∃(p:Addr) (bs:List Bool),xs = [.ref p]/\SqL K H p (bs.map V.bl)/\Q (.bl (bs.all id)) H
theorem range_all(bs:List Bool):(List.range bs.length).all (fun i=>bs.getD i false)=bs.all id:=by
 rw[Bool.eq_iff_iff,List.all_eq_true,List.all_eq_true]
 constructor
 · intro h b hb
   obtain⟨i,hi,e⟩:=List.mem_iff_getElem.mp hb
   have:=h i (List.mem_range.mpr hi)
   rw[List.getD_eq_getElem?_getD,List.getElem?_eq_getElem hi,Option.getD_some,e]at this
   exact this
 · intro h i hi
   have hi:=List.mem_range.mp hi
   rw[List.getD_eq_getElem?_getD,List.getElem?_eq_getElem hi,Option.getD_some]
   exact h _ (List.getElem_mem hi)
theorem call_all(K:PySem.W.Frag)(h:X.K=K:=by rfl)(hc:X.calm=true:=by rfl):CallR X (.builtin "all") (rAll K):=by
 subst h
 intro pins s σ H xs us Q I r h
 obtain⟨p,bs,rfl,hq,q⟩:=h
 obtain⟨u,rfl,rx⟩:=vals1 r
 cases rx
 obtain⟨its,rv,pl,hz⟩:=I.list hq
 have hlen:=rv.length
 rw[List.length_map]at hlen
 refine call_all_walk (wpAny_pyIter_list pl.isList ?_)
 have hne:p≠s.heap.objs.size:=by
  obtain⟨o,ho,_⟩:=pl.isList
  exact Nat.ne_of_lt (Heap.lt_size ho)
 refine⟨_,_,_,_,_,_,fun i=>bs.getD i false,rfl,Walks.list (A:=X.A.in1) (I.ok.hd hc) _ p hne its.toArray,⟨⟨_,Heap.get?_push_size _ rfl,rfl,rfl⟩,pl.isList.push _⟩,?_,fun h' tk kk=>?_⟩
 · intro i v s' Q' E hv hq'
   have hv:its[i]? = some v:=by simpa using hv
   have hi:i<bs.length:=by
    have:=(List.getElem?_eq_some_iff.mp hv).1
    omega
   obtain⟨u,hu,ru⟩:=rv.get (i:=i) (x:=V.bl bs[i]) (by rw[List.getElem?_map,List.getElem?_eq_getElem hi];rfl)
   rw[hv]at hu
   cases hu
   have ru:v = .bool bs[i]:=by cases ru;rfl
   subst ru
   have hq':Q' (bs.getD i false) s':=hq'
   rw[List.getD_eq_getElem?_getD,List.getElem?_eq_getElem hi,Option.getD_some]at hq'
   exact wpAny_truthy_bool hq'
 · have e:its.toArray.size=bs.length:=by simp;omega
   rw[e,range_all]
   exact⟨.bl _,H,I.kept fun b o e=>kk b o (by
    have:=Heap.lt_size e
    rw[List.mem_singleton]
    exact Nat.ne_of_lt this) (Heap.get?_push_of_some _ e),rfl,q⟩
end
end L2
namespace L2
open PySem PySem.Spec PyProof.Rows
theorem Inv.turnedL{X:Cx}{pins:List (Addr×Obj)}{σ:St}{H:Hp}{s:Shared}{h':Heap}{t':Nat}{fp:List Addr}(I:Inv X pins σ H s)(k:∀b o,b∉fp->s.heap.get? b=some o->h'.get? b=some o)(hf:∀b∈fp,FpOk X pins H b):Inv X pins σ H { s with heap:=h',toks:=t' }:=by
 have nit:∀b u,H b=some u->b∉fp:=fun b u e z=>by rw[(hf b z).1]at e;cases e
 have hL:X.env.locals∉fp:=fun z=>(hf _ z).2.1 rfl
 refine I.step (g':=s.gens) (d':=s.drawn) (ch:=fp) (fun b hb=>?_) (fun b o _ _ hc e _=>k b o hc e) (fun b o _ _ hc e _=>⟨o.slots,k b o hc e⟩) (fun _ _ _ _ n=>n)
  (fun b o hc e=>⟨o,k b o hc e⟩) (fun _ _ e=>e) (fun _ _ _ e=>e) (fun b ps e=>⟨#[],by rw[e];simp⟩) (fun m hm=>?_) (fun b u e=>?_) I.bare
 · obtain⟨f0,f1,f2,f3,f4,f5⟩:=hf b hb
   exact⟨f3,f1,f4,f5⟩
 · obtain⟨o,es,ep,ho,r⟩:=hm
   exact⟨o,es,ep,k _ o hL ho,r⟩
 · refine(I.hok b u e).stay (fun c v hc q=>k c v ?_ q) (fun _ q=>q) fun _ _ q=>q
   rcases hc with z | z
   · rw[z];exact nit b u e
   · exact nit c _ z
noncomputable def Ite(K:PySem.W.Frag)(a:Addr):It:=
 ⟨fun i H=>∃xs x,SqL K H a xs/\xs[i]? = some x,fun i H v H'=>∃p x,H p=none/\(∀xs,SqL K H a xs->xs[i]? = some x)/\v = .ref p/\H'=upd H p (.tup [.int i,x]),fun i H=>∃xs,SqL K H a xs/\xs.length<=i⟩
theorem turn_enum{P:Program}{w:World}{K:PySem.W.Frag}{elts:List Expr}{x1:Nat}{pos:Pos}(a e it:Addr)(hne:e≠it):Turn P w K (.Tuple elts x1 pos) (Ite K a) [e,it] e (fun i h=>(∃old,IsEnum h e it i old)/\h.IsListIter it a i) where
 mem:=by simp
 obj:=fun i h st b hb=>by
  obtain⟨⟨old,st⟩,o,e',c,d⟩:=st
  rcases List.mem_cons.mp hb with rfl | hb
  · exact⟨_,st,fun v z=>by
     have z':Data.fields _=Data.cell v:=z
     cases z'⟩
  · have hb:=List.mem_singleton.mp hb
    subst hb
    exact⟨o,e',fun v z=>by rw[d]at z;cases z⟩
 keep:=fun i h h' zq397 k=>zq397.elim fun zq398 st2=>zq398.elim fun old st=>⟨⟨old,k e (by simp) _ st⟩,st2.at fun o e'=>k it (by simp) o e'⟩
 item:=by
  intro X hP hw hK hc i pins s σ H E I hf st hg
  subst hP hw hK
  obtain⟨⟨old,st⟩,st2⟩:=st
  obtain⟨xs,x,hq,hx⟩:=hg
  obtain⟨its,rv,p,hz⟩:=I.list hq
  obtain⟨u,hu,ru⟩:=rv.get hx
  refine wpAny_pyNext_enum_item st st2 p.isList (x:=u) (by simpa using hu) hne fun h1 ho it1 htup hsz hk1=>⟨.ref s.heap.objs.size,rfl,?_⟩
  refine wpAny_letOwnedTupleGo_enum ho fun h2 en2 sb=>?_
  have sb:Heap.SameBut e h1 h2:=sb
  have hel:e<s.heap.objs.size:=Heap.lt_size st
  have hil:it<s.heap.objs.size:=by
   obtain⟨o,e',_⟩:=st2
   exact Heap.lt_size e'
  have I1:Inv X pins σ H { s with heap:=h2,toks:=s.toks+1 }:=I.turnedL (fp:=[e,it]) (fun b ob hb e'=>by
   simp only[List.mem_cons,List.not_mem_nil,or_false,not_or]at hb
   exact(sb.2 b hb.1).trans (hk1 b ob hb.1 hb.2 e')) hf
  have hn:H s.heap.objs.size=none:=I.hok.fresh (Nat.le_refl _)
  have fp:=I.fpOk (H':=H) (Nat.le_refl _) hn
  have hobj:h2.get? s.heap.objs.size=some { cls:=.type "tuple",data:=.seq #[.int i s.toks,u] }:=(sb.2 _ (Nat.ne_of_gt hel)).trans htup
  have I2:Inv X pins σ (upd H s.heap.objs.size (.tup [.int i,x])) { s with heap:=h2,toks:=s.toks+1 }:=by
   refine I1.track hn I.sz fp.2.1 fp.2.2.2.2.1 fp.2.2.2.2.2 ?_
   exact⟨by show 2<=sizeLine;decide,[.int i s.toks,u],.cons ⟨_,rfl⟩ (.cons ru .nil),_,hobj,rfl,0,rfl⟩
  refine⟨.ref s.heap.objs.size,_,I2,rfl,⟨_,x,hn,fun ys hy=>by rw[I.list_inj hy hq];exact hx,rfl,rfl⟩,⟨⟨u,by simpa using en2⟩,it1.at fun o e'=>(sb.2 it (Ne.symm hne)).trans e'⟩,fun b hb=>?_⟩
  have hb0:=(hf b hb).1
  rw[upd_ne,hb0]
  simp only[List.mem_cons,List.not_mem_nil,or_false]at hb
  rcases hb with rfl | rfl
  · exact Nat.ne_of_lt hel
  · exact Nat.ne_of_lt hil
 done:=by
  intro X hP hw hK hc i pins s σ H E I hf st hg
  subst hP hw hK
  obtain⟨⟨old,st⟩,st2⟩:=st
  obtain⟨xs,hq,hx⟩:=hg
  obtain⟨its,rv,p,hz⟩:=I.list hq
  have hl:=rv.length
  exact wpAny_pyNext_enum_end (I.ok.hd hc) st st2 p.isList (by simp;omega) fun h' eb=>⟨rfl,I.turnedL (t':=s.toks) (fp:=[e,it]) (fun b o hb e'=>eb b o (fun z=>hb (by simp[z])) e') hf⟩
 self:=fun _ _ _ _ _ st h=>st.elim fun zq510 _=>zq510.elim fun _ st=>wpAny_pyIter_enum st h
section
variable {X:Cx}
noncomputable def iEnum(K:PySem.W.Frag)(ta:TA):TI:=fun σ H R=>ta σ H fun vs H1=>∃a,vs = [.ref a]/\(∃xs,SqL K H1 a xs)/\R (Ite K a) H1
theorem pi_enum{l:Expr}{ta:TA}{p pos p2:Pos}{elts:List Expr}{x1:Nat}(hg:Gl X "enumerate")(hm:X.mg "enumerate" = none)(ha:PA X [l] ta)(hs:starEach [l] X.env = [(false,eval l X.env)]:=by rfl) :
 PI X (.Tuple elts x1 p2) (.Call (.Name "enumerate" p) [l] [] pos) (iEnum X.K ta):=by
 intro pins s σ H R I h
 refine Call_ (ld_blt I hg hm boot_enumerate (PyProof.Rows.callWith_type1 (thn (ha pos pins s σ H _ I h) fun us s1 zq399=>zq399.elim fun vs zq400=>zq400.elim fun H1 zq401=>zq401.elim fun I1 zq402=>zq402.elim fun r1 q1=>?_) hs rfl))
 obtain⟨a,e,⟨xs,hq⟩,q⟩:=q1
 subst e
 obtain⟨u,rfl,rx⟩:=vals1 r1
 cases rx
 obtain⟨its,rv,pl,hz⟩:=I1.list hq
 refine call_enumerate_list pl.isList fun h' en it hsz kp=>?_
 refine wpAny_pyIter_enum en ?_
 refine⟨s1.heap.objs.size+1,[s1.heap.objs.size+1,s1.heap.objs.size],_,_,H1,rfl,I1.kept (t':=s1.toks) kp,turn_enum a _ _ (Nat.succ_ne_self _),⟨⟨_,en⟩,it⟩,fun b hb=>?_,q⟩
 have e:s1.heap.objs.size<=b:=by
  simp only[List.mem_cons,List.not_mem_nil,or_false]at hb
  rcases hb with rfl | rfl
  · exact Nat.le_succ _
  · exact Nat.le_refl _
 exact I1.fpOk e (I1.hok.fresh e)
end
end L2
namespace L2
open PySem PySem.Spec PyProof.Rows
section
variable {X:Cx}
end
end L2
namespace L2
open PySem PySem.Spec PyProof.Rows
section
variable {prog:Program} {w:World} {A:Around} {E:Value->Shared->Prop} {s:Shared}
theorem ltX_anti{x y:Str}(h:x≠y):decide (x.cps.toList<y.cps.toList) = !decide (y.cps.toList<x.cps.toList):=by
 have ne:x.cps.toList≠y.cps.toList:=fun z=>h (by
  obtain⟨⟨x⟩⟩:=x
  obtain⟨⟨y⟩⟩:=y
  have z:x=y:=z
  rw[z])
 by_cases l:x.cps.toList<y.cps.toList
 · rw[decide_eq_true l,decide_eq_false (List.lt_asymm l)];rfl
 · rw[decide_eq_false l]
   have l':y.cps.toList<x.cps.toList:=by
    rcases Classical.em (y.cps.toList<x.cps.toList) with z | z
    · exact z
    · exact absurd (List.le_antisymm (List.not_lt.mp z) (List.not_lt.mp l)) ne
   rw[decide_eq_true l'];rfl
end
section
variable {X:Cx}
end
end L2
namespace L2
open PySem PySem.Spec PyProof.Rows
end L2
namespace L2
open PySem PySem.Spec PyProof.Rows
open PySem.W (tabObj)
noncomputable def tabO(P:Addr)(ps:Array Value):HO:=.ext fun h=>h.get? P=some (tabObj ps)
noncomputable def codO(c':Addr)(qual:Str):HO:=.ext fun h=>h.CodeRec (.ref c') qual
noncomputable def TabSt(H:Hp)(P:Addr)(pos:Pos)(qual:Str):Prop:=H P=some (tabO P #[])\/∃c',H P=some (tabO P #[rawInt pos.line,rawInt pos.col,.ref c'])/\H c'=some (codO c' qual)
theorem ext_new{Pr:Program}{w:World}{H:Hp}{h:Heap}{a:Addr}{p:Heap->Prop}{o:Obj}(e:h.get? a=some o)(hp:p h)(hk:∀h1 h2:Heap,p h1->(∀o,h1.get? a=some o->h2.get? a=some o)->p h2):ObjOk Pr w H h a (.ext p):=⟨hp,⟨_,e⟩,hk⟩
theorem codeRec_keep{c':Addr}{qual:Str}{h1 h2:Heap}(h:h1.CodeRec (.ref c') qual)(k:∀o,h1.get? c'=some o->h2.get? c'=some o):h2.CodeRec (.ref c') qual:=by
 obtain⟨c,oc,vs,t,e,h2',h3,h4⟩:=h
 cases e
 exact⟨c',oc,vs,t,rfl,k _ h2',h3,h4⟩
section
variable {X:Cx} {c P:Addr} {params:Arguments} {body:Expr} {scope:Scope} {pos:Pos} {qual:Str}
end
end L2
namespace HT
open PySem PyProof.Rows
noncomputable abbrev At:=Int ⊕ Str
noncomputable def aLt:At->At->Bool
 | .inl a,.inl b=>decide (a<b)
 | .inr x,.inr y=>decide (x.cps.toList<y.cps.toList)
 | _,_=>false
noncomputable def kin:At->At->Prop
 | .inl _,.inl _=>True
 | .inr _,.inr _=>True
 | _,_=>False
noncomputable def lexK:List At->List At->Bool
 | [],[]=>false
 | [],_::_=>true
 | _::_,[]=>false
 | x::xs,y::ys=>if x=y then lexK xs ys else aLt x y
noncomputable def okK:List At->List At->Prop
 | x::xs,y::ys=>if x=y then okK xs ys else kin x y
 | _,_=>True
theorem lexK_cons(x y:At)(xs ys:List At):lexK (x::xs) (y::ys)=if x=y then lexK xs ys else aLt x y:=rfl
theorem okK_cons(x y:At)(xs ys:List At):okK (x::xs) (y::ys)=if x=y then okK xs ys else kin x y:=rfl
inductive AtsAre:List Value->List At->Prop
 | nil:AtsAre [] []
 | int (n:Int) (t:Tok) {vs:List Value} {as:List At}:AtsAre vs as->AtsAre (.int n t::vs) (.inl n::as)
 | str (x:Str) (t:Tok) {vs:List Value} {as:List At}:AtsAre vs as->AtsAre (.str x t::vs) (.inr x::as)
theorem AtsAre.length{vs:List Value}{as:List At}(h:AtsAre vs as):vs.length=as.length:=by
 induction h with
 | nil=>rfl
 | int _ _ _ ih=>exact congrArg (· + 1) ih
 | str _ _ _ ih=>exact congrArg (· + 1) ih
theorem rcLt_str(A:Around)(s:Shared)(a:Str)(t:Tok)(c:Str)(u:Tok)(prog:Program)(w:World)(E:Value->Shared->Prop)(Q:Value->Shared->Prop)(h:Q (.bool (decide (a.cps.toList<c.cps.toList))) s) :
 wpAny (model prog w) A (richCompare .Lt (.str a t) (.str c u)) Q E s:=
 (PyProof.Rows.lt_str h:wpAny (model prog w) A (compareOp .Lt (.str a t) (.str c u)) Q E s)
section
open PySem.SeqAt
open PySem.AutoSeq1 (wpAny_loadPart')
open PySem.MeetsSeq PySem.MeetsSeq2 PySem.MeetsSeq3
end
section
variable {prog:Program} {w:World} {A:Around} {E:Value->Shared->Prop} {s:Shared}
end
end HT
namespace L2
open PySem PySem.Spec PyProof.Rows
open HT (At lexK okK aLt kin AtsAre)
noncomputable def aV:At->V
 | .inl n=>.int n
 | .inr x=>.str x
theorem ats_ofA:∀{as:List At} {us:List Value},Vals (as.map aV) us->AtsAre us as
 | [],us,h=>by cases h;exact .nil
 | .inl n::as,us,h=>by
  cases h with
  | cons r t=>
   obtain⟨tk,rfl⟩:=(show∃tk,_=Value.int n tk from r)
   exact .int n tk (ats_ofA t)
 | .inr x::as,us,h=>by
  cases h with
  | cons r t=>
   obtain⟨tk,rfl⟩:=(show∃tk,_=Value.str x tk from r)
   exact .str x tk (ats_ofA t)
theorem aLt_irr(x:At):aLt x x=false:=by
 cases x with
 | inl a=>exact decide_eq_false (by omega)
 | inr a=>exact decide_eq_false (List.lt_irrefl _)
theorem aLt_trans{x y z:At}(h1:aLt x y=true)(h2:aLt y z=true):aLt x z=true:=by
 cases x<;>cases y<;>cases z<;>first | exact decide_eq_true (by have a:=of_decide_eq_true h1;have b:=of_decide_eq_true h2;omega) | exact decide_eq_true (List.lt_trans (of_decide_eq_true h1) (of_decide_eq_true h2)) | cases h1 | cases h2
theorem aLt_anti{x y:At}(h:x≠y)(k:kin x y):aLt x y = !aLt y x:=by
 cases x with
 | inl a=>
  cases y with
  | inl b=>
   show decide _ = !decide _
   have hne:a≠b:=fun z=>h (by rw[z])
   by_cases l:a<b
   · rw[decide_eq_true l,decide_eq_false (by omega)];rfl
   · rw[decide_eq_false l,decide_eq_true (by omega)];rfl
  | inr b=>exact k.elim
 | inr a=>
  cases y with
  | inl b=>exact k.elim
  | inr b=>exact ltX_anti fun z=>h (by rw[z])
theorem lexK_anti:∀x y:List At,x≠y->okK x y->lexK x y = !lexK y x
 | [],[],h,_=>absurd rfl h
 | [],_::_,_,_=>rfl
 | _::_,[],_,_=>rfl
 | a::x,b::y,h,k=>by
  rw[HT.lexK_cons,HT.lexK_cons]
  rw[HT.okK_cons]at k
  by_cases e:a=b
  · subst e
    rw[if_pos rfl,if_pos rfl]
    rw[if_pos rfl]at k
    exact lexK_anti x y (fun q=>h (by rw[q])) k
  · rw[if_neg e,if_neg (fun q=>e q.symm)]
    rw[if_neg e]at k
    exact aLt_anti e k
theorem lexK_trans:∀x y z:List At,lexK x y=true->lexK y z=true->lexK x z=true
 | [],[],_,h,_=>by cases h
 | [],_::_,[],_,h=>by cases h
 | [],_::_,_::_,_,_=>rfl
 | _::_,[],_,h,_=>by cases h
 | _::_,_::_,[],_,h=>by cases h
 | a::x,b::y,c::z,h1,h2=>by
  rw[HT.lexK_cons]at h1 h2 ⊢
  by_cases e1:a=b
  · subst e1
    rw[if_pos rfl]at h1
    by_cases e2:a=c
    · subst e2
      rw[if_pos rfl]at h2 ⊢
      exact lexK_trans x y z h1 h2
    · rw[if_neg e2]at h2 ⊢
      exact h2
  · rw[if_neg e1]at h1
    by_cases e2:b=c
    · subst e2
      rw[if_neg e1]
      exact h1
    · rw[if_neg e2]at h2
      have l:=aLt_trans h1 h2
      rw[if_neg (fun q=>by rw[q,aLt_irr]at l;cases l)]
      exact l
section
variable {prog:Program} {w:World} {A:Around} {E:Value->Shared->Prop} {s:Shared}
theorem katLex_ats{b:Bool}{Q:Bool->Shared->Prop}{xs:List Value}{is:List At}(hx:AtsAre xs is):∀{ys:List Value} {js:List At} (i:Nat),AtsAre ys js->okK is js->Q (lexK is js) s ->
 PySem.W.KatLex prog w A b (decide (is.length<js.length)) Q (xs.zip ys) i s:=by
 induction hx with
 | nil=>
  intro ys js i hy ok q
  have z:∀(c:At) (js:List At),decide (([]:List At).length<(c::js).length)=true:=fun c js=>decide_eq_true (Nat.succ_pos _)
  cases hy with
  | nil=>exact PySem.W.kat_nil q
  | int c u hy=>exact PySem.W.kat_nil (show Q (decide _) s from by rw[z];exact q)
  | str c u hy=>exact PySem.W.kat_nil (show Q (decide _) s from by rw[z];exact q)
 | int a t hx ih=>
  intro ys js i hy ok q
  cases hy with
  | nil=>
   refine PySem.W.kat_nil (show Q (decide _) s from ?_)
   rw[decide_eq_false (by rw[List.length_nil];exact Nat.not_lt_zero _)]
   exact q
  | str c u hy=>
   rw[HT.okK_cons,if_neg (by intro z;cases z)]at ok
   exact ok.elim
  | int c u hy=>
   rename_i xs is ys js
   rw[HT.lexK_cons]at q
   rw[HT.okK_cons]at ok
   refine PySem.W.kat_cons (wpAny_eqBool_int (PySem.W.kat_go (fun e=>PySem.W.kat_yes ?_) fun e=>PySem.W.kat_no ?_))
   · have e:=eq_of_beq e
     rw[if_pos (by rw[e])]at q ok
     have z:decide ((Sum.inl a::is).length<(Sum.inl c::js).length)=decide (is.length<js.length):=by
      rw[List.length_cons,List.length_cons]
      exact decide_eq_decide.mpr Nat.succ_lt_succ_iff
     rw[z]
     exact ih (i+1) hy ok q
   · have e:(Sum.inl a:At)≠Sum.inl c:=fun z=>by
      cases z
      rw[beq_self_eq_true]at e
      cases e
     rw[if_neg e]at q
     cases hb:(b && i == 0) with
     | true=>exact oneLt_int q
     | false=>exact PySem.W.kat_one _ _ (HT.rcLt_int _ _ _ _ _ _ _ _ _ _ q)
 | str a t hx ih=>
  intro ys js i hy ok q
  cases hy with
  | nil=>
   refine PySem.W.kat_nil (show Q (decide _) s from ?_)
   rw[decide_eq_false (by rw[List.length_nil];exact Nat.not_lt_zero _)]
   exact q
  | int c u hy=>
   rw[HT.okK_cons,if_neg (by intro z;cases z)]at ok
   exact ok.elim
  | str c u hy=>
   rename_i xs is ys js
   rw[HT.lexK_cons]at q
   rw[HT.okK_cons]at ok
   refine PySem.W.kat_cons (wpAny_eqBool_str (PySem.W.kat_go (fun e=>PySem.W.kat_yes ?_) fun e=>PySem.W.kat_no ?_))
   · have e:=of_decide_eq_true e
     rw[if_pos (by rw[e])]at q ok
     have z:decide ((Sum.inr a::is).length<(Sum.inr c::js).length)=decide (is.length<js.length):=by
      rw[List.length_cons,List.length_cons]
      exact decide_eq_decide.mpr Nat.succ_lt_succ_iff
     rw[z]
     exact ih (i+1) hy ok q
   · have e:(Sum.inr a:At)≠Sum.inr c:=fun z=>by
      cases z
      rw[decide_eq_true rfl]at e
      cases e
     rw[if_neg e]at q
     cases hb:(b && i == 0) with
     | true=>exact oneLt_str q
     | false=>exact PySem.W.kat_one _ _ (HT.rcLt_str _ _ _ _ _ _ _ _ _ _ q)
noncomputable def TupA(h:Heap)(v:Value)(as:List At):Prop:=∃a o xs n,v = .ref a/\h.get? a=some o/\o.cls = .type "tuple"/\o.data = .seq xs n/\AtsAre xs.toList as/\∃x r,as = .inr x::r
theorem keyLt_tupA{b:Bool}{Q:Bool->Shared->Prop}{x y:Value}{is js:List At}(hx:TupA s.heap x is)(hy:TupA s.heap y js)(ok:okK is js)(q:Q (lexK is js) s):wpAny (model prog w) A (keyLt' (tuples' b) x y) Q E s:=by
 obtain⟨ax,ox,xs,n,rfl,x1,x2,x3,x4,_⟩:=hx
 obtain⟨ay,oy,ys,k,rfl,y1,y2,y3,y4,_⟩:=hy
 refine PySem.W.kat_lt x1 x3 y1 y3 ?_
 have e1:=x4.length
 have e2:=y4.length
 have z:decide (xs.size<ys.size)=decide (is.length<js.length):=by
  rw[←e1,←e2,Array.length_toList,Array.length_toList]
 rw[z]
 exact katLex_ats x4 0 y4 ok q
theorem TupA.keep{h h':Heap}{v:Value}{is:List At}(t:TupA h v is)(k:∀b o,h.get? b=some o->o.cls = .type "tuple"->h'.get? b=some o):TupA h' v is:=by
 obtain⟨a,o,xs,n,e,h1,h2,h3,h4⟩:=t
 exact⟨a,o,xs,n,e,k a o h1 h2,h2,h3,h4⟩
theorem tups_firstA{h:Heap}:∀{vs:List Value} {ks:List (List At)},Paired (TupA h) vs ks->∃fs:List Value,PySem.W.KatTups h vs fs/\fs.length=vs.length/\∀v∈fs,∃(i:Str) (t:Tok),v = .str i t:=by
 intro vs ks p
 induction p with
 | nil=>exact⟨[],trivial,rfl,fun _ h=>nomatch h⟩
 | cons x p ih=>
  obtain⟨fs,h1,h2,h3⟩:=ih
  obtain⟨a,o,xs,n,rfl,x1,x2,x3,x4,y,r,rfl⟩:=x
  cases hl:xs.toList with
  | nil=>
   rw[hl]at x4
   cases x4
  | cons f r=>
   rw[hl]at x4
   cases x4 with
   | str i t z=>
    refine⟨.str y t::fs,PySem.W.KatTups.cons x1 x2 x3 (by rw[←Array.getElem?_toList,hl];rfl) h1,by rw[List.length_cons,List.length_cons,h2],fun v hv=>?_⟩
    rcases List.mem_cons.mp hv with rfl | hv
    · exact⟨y,t,rfl⟩
    · exact h3 v hv
noncomputable def fA(ks:List (List At))(i j:Nat):Bool:=lexK (ks.getD i []) (ks.getD j [])
theorem nodup_neA{ks:List (List At)}(nd:ks.Nodup){i j:Nat}(hi:i<ks.length)(hj:j<ks.length)(h:i≠j):ks.getD i []≠ks.getD j []:=by
 rw[List.getD_eq_getElem?_getD,List.getD_eq_getElem?_getD,List.getElem?_eq_getElem hi,List.getElem?_eq_getElem hj]
 exact fun z=>h ((List.getElem_inj nd).mp z)
theorem getD_memA{ks:List (List At)}{i:Nat}(hi:i<ks.length):ks.getD i []∈ks:=by
 rw[List.getD_eq_getElem?_getD,List.getElem?_eq_getElem hi]
 exact List.getElem_mem hi
theorem sto_pair{f:Nat->Nat->Bool}{p:Array Nat}(h:Sto f p p.size):p.toList.Pairwise fun i j=>f i j=true:=by
 rw[List.pairwise_iff_getElem]
 intro i j hi hj hij
 have hi':i<p.size:=by simpa using hi
 have hj':j<p.size:=by simpa using hj
 have:=h i j hij hj'
 rw[getD_of hi',getD_of hj']at this
 exact this
theorem list_sortA{a:Addr}{vs:List Value}{ks:List (List At)}{n:Nat}{P:PySem.Fin->Shared->Prop}(ho:s.heap.get? a=some (seqObj "list" vs.toArray n))(hk:Paired (TupA s.heap) vs ks)(h4:vs.length<64)(nd:ks.Nodup)(ok:∀x∈ks,∀y∈ks,okK x y)
 (h:∀p:List Nat,p.Perm (List.range vs.length)->p.Pairwise (fun i j=>fA ks i j=true)->P (.done (.ret .none)) { s with heap:=sortedHeap s.heap a vs (p.map fun i=>vs.getD i Value.none).toArray }) :
 wpAny (model prog w) A (Builtin.«list.sort» ⟨[.ref a],[]⟩) P E s:=by
 have hla:a<s.heap.objs.size:=Heap.lt_size ho
 have hkl:vs.length=ks.length:=paired_lenT hk
 rw[list_sort_plain]
 obtain⟨ep,hz1⟩:∃ep,(s.heap.update a (Obj.mapSeq fun _=>(#[]:Array Value))).get? a=some (seqObj "list" #[] ep):=⟨_,get?_update_seq ho (fun _=>#[])⟩
 refine wpAny_bind (listItems_at ho rfl ?_);refine wpAny_bind (listUpdate_at ho rfl ?_)
 refine wpAny_bind (seqEpoch_at hz1 rfl ?_);refine wpAny_bind (wpAny_newTuple ?_);refine wpAny_bind (wpAny_newList ?_)
 refine wpAny_holding ?_
 have hz6:(((s.heap.update a (Obj.mapSeq fun _=>(#[]:Array Value))).push (seqObj "tuple" vs.toArray 0)).push (seqObj "list" #[] 0)).get? a=some (seqObj "list" #[] ep):=
  Heap.get?_push_of_some _ (Heap.get?_push_of_some _ hz1)
 have kp:∀b o,s.heap.get? b=some o->o.cls = .type "tuple"->(((s.heap.update a (Obj.mapSeq fun _=>(#[]:Array Value))).push (seqObj "tuple" vs.toArray 0)).push (seqObj "list" #[] 0)).get? b=some o:=fun b o e c=>by
  have hb:b≠a:=fun z=>by
   rw[z,ho]at e
   cases e
   exact absurd (show Value.type "list" = Value.type "tuple" from c) (by decide)
  refine Heap.get?_push_of_some _ (Heap.get?_push_of_some _ ?_)
  rw[Heap.get?_update_ne _ _ _ _ hb]
  exact e
 have hk6:Paired (TupA (((s.heap.update a (Obj.mapSeq fun _=>(#[]:Array Value))).push (seqObj "tuple" vs.toArray 0)).push (seqObj "list" #[] 0))) vs ks:=paired_mapP hk fun _ _ t=>t.keep kp
 have e7:∀out:Array Value,sortedHeap s.heap a vs out=(((s.heap.update a (Obj.mapSeq fun _=>(#[]:Array Value))).push (seqObj "tuple" vs.toArray 0)).push (seqObj "list" #[] 0)).update a (Obj.mapSeq fun _=>out):=fun _=>rfl
 show wpAny (model prog w) A _ P E { s with heap:=(((s.heap.update a (Obj.mapSeq fun _=>(#[]:Array Value))).push (seqObj "tuple" vs.toArray 0)).push (seqObj "list" #[] 0)) }
 simp only[e7]at h
 generalize ((s.heap.update a (Obj.mapSeq fun _=>(#[]:Array Value))).push (seqObj "tuple" vs.toArray 0)).push (seqObj "list" #[] 0)=h6 at hz6 hk6 h ⊢
 dsimp only
 by_cases h2:vs.toArray.size<2
 · have h2':vs.length<2:=h2
   rw[if_pos h2,if_pos h2]
   refine wpAny_bind (wpAny_pure ?_);rw[StateT.run_pure]
   refine wpAny_bind (wpAny_pure ?_);dsimp only
   have eo:(arrOf (SortSt.mk' general' (vs.toArray.zip vs.toArray) #[] 7 none)).map (·.2)=vs.toArray:=by
    show(vs.toArray.zip vs.toArray).map (·.2)=vs.toArray
    apply Array.toList_inj.mp
    rw[Array.toList_map,Array.toList_zip]
    exact List.map_snd_zip (Nat.le_refl _)
   rw[eo]
   refine wpAny_bind (seqEpoch_at hz6 rfl ?_);refine wpAny_bind (listUpdate_at hz6 rfl ?_ (hsz2:=by show vs.length<=_;rw[sizeLine_eq];omega))
   simp only[bne_self_eq_false,if_false,Bool.false_eq_true]
   have q:=h (List.range vs.length) (List.Perm.refl _) (by
    have:vs.length=0\/vs.length=1:=by omega
    rcases this with z | z<;>rw[z]<;>simp[List.range_succ])
   rw[getD_range]at q
   exact wpAny_pure q
 · have h2':2<=vs.length:=Nat.le_of_not_lt h2
   rw[if_neg h2,if_neg h2]
   obtain⟨fs,t1,t2,t3⟩:=tups_firstA hk6
   refine wpAny_bind (PySem.W.kat_kind (T:=.type "str") t1 (by omega) (fun v hv=>?_) rfl ?_)
   · obtain⟨i,t,rfl⟩:=t3 v hv
     exact .of_pure rfl
   have okf:∀i j,i<vs.length->j<vs.length->okK (ks.getD i []) (ks.getD j []):=fun i j hi hj=>ok _ (getD_memA (hkl▸hi)) _ (getD_memA (hkl▸hj))
   obtain⟨p,hr,hp,ha'⟩:=sortPn (n:=vs.length) (f:=fA ks) (fun i j hi hj hne=>lexK_anti _ _ (nodup_neA nd (hkl▸hi) (hkl▸hj) hne) (okf i j hi hj)) (fun i j k _ _ _=>lexK_trans _ _ _) h2'
   have psz:p.size=vs.length:=by
    have:=hp.length_eq
    rw[List.length_range,Array.length_toList]at this
    exact this
   have run:(PySem.W.kas_sort vs.length).kasWp (PySem.W.kas_ask prog w A (tuples' (Value.type "str" != Value.type "tuple")) vs) (fun p' s'=>p'=p/\s' = { s with heap:=h6 }) { s with heap:=h6 }:=
    kRun_wp (n:=vs.length) (f:=fA ks) (fun i j C hi hj _ c=>keyLt_tupA (paired_at hk6 i hi _ _) (paired_at hk6 j hj _ _) (okf i j hi hj) c) _ hr ⟨rfl,rfl⟩
   refine wpAny_bind (wpAny_mono (PySem.W.kat_run (Q:=fun st' s'=>arrOf st'=p.map (PySem.W.kas_item (vs.toArray.zip vs.toArray))/\failedOf st'=none/\s' = { s with heap:=h6 }) (G:=fun p' s'=>p'=p/\s' = { s with heap:=h6 }) rfl h2' (by omega)
    (fun p' st' s' a1 a2 a3 a4=>⟨a4.1▸a2,a3,a4.2⟩) run) ?_ fun _ _ e=>e)
   rintro⟨⟨⟩,st'⟩ s' ⟨har,hf,rfl⟩
   dsimp only
   rw[PySem.W.kat_snds rfl har]
   refine wpAny_bind (seqEpoch_at hz6 rfl ?_);refine wpAny_bind (listUpdate_at hz6 rfl ?_ (hsz2:=by show(p.toList.map _).length<=_;rw[List.length_map,Array.length_toList,psz,sizeLine_eq];omega))
   rw[hf];simp only[bne_self_eq_false,if_false,Bool.false_eq_true]
   exact wpAny_pure (h p.toList hp (sto_pair (by rw[psz];exact ha')))
theorem sorted_collectsA{r:Addr}{Q:Value->Shared->Prop}(hcol:wpAny (model prog w) A.in1 (collect (.ref r)) (fun us s'=>∃(ks:List (List At)) (h':Heap) (tk:Nat),s' = { s with heap:=h',toks:=tk }/\Paired (TupA h') us ks/\us.length<64/\ks.Nodup/\(∀x∈ks,∀y∈ks,okK x y) /\
 ∀(h2:Heap) (p:List Nat) (e:Nat),(∀b o,h'.get? b=some o->h2.get? b=some o)->h2.get? h'.objs.size=some (seqObj "list" (p.map fun i=>us.getD i Value.none).toArray e)->p.Perm (List.range us.length)->p.Pairwise (fun i j=>fA ks i j=true)->Q (.ref h'.objs.size) { s with heap:=h2,toks:=tk }) E s) :
 wpAny (model prog w) A (call (.builtin "sorted") [.ref r]) Q E s:=by
 refine Calls.call_function_entry kind_sorted plain_sorted entry_sorted (args_sorted1 (.ref r)) ?_
 unfold Builtin.«sorted»
 refine wpAny_bind (m:=checkCount "sorted" 1 1 _) (wpAny_pure (wpAny_bind (wpAny_mono hcol (fun us s' z=>?_) fun _ _ e=>e)))
 obtain⟨ks,h',tk,rfl,hT,h4,nd,ok,fin⟩:=z
 refine wpAny_bind (wpAny_newList ?_ (by rw[sizeLine_eq];omega))
 have hoL:(h'.push (seqObj "list" us.toArray 0)).get? h'.objs.size=some (seqObj "list" us.toArray 0):=Heap.get?_push_size _ rfl
 show wpAny _ _ _ _ _ { s with heap:=h'.push (seqObj "list" us.toArray 0),toks:=tk }
 have hT':Paired (TupA (h'.push (seqObj "list" us.toArray 0))) us ks:=paired_mapP hT fun _ _ t=>t.keep fun b o e _=>Heap.get?_push_of_some _ e
 refine wpAny_bind (wpAny_holding (wpAny_call_entry slot_list_sort ⟨_,hoL,rfl⟩ entry_list_sort (list_sortA hoL hT' h4 nd ok fun p a1 a2=>⟨_,rfl,?_⟩) (args_list_sort _)))
 obtain⟨e,he⟩:=sortedHeap_at (vs:=us) (out:=(p.map fun i=>us.getD i Value.none).toArray) hoL
 refine wpAny_pure ⟨_,rfl,fin _ p e (fun b o q=>?_) he a1 a2⟩
 have hb:=Heap.lt_size q
 rw[sortedHeap_old (Nat.ne_of_lt hb) (by rw[Heap.size_push];exact Nat.lt_succ_of_lt hb)]
 exact Heap.get?_push_of_some _ q
end
noncomputable def AtsAt(H:Hp)(ys:List V)(ks:List (List At)):Prop:=Paired (fun(y:V) (k:List At)=>∃t,y = .ref t/\H t=some (.tup (k.map aV))/\∃x r,k = .inr x::r) ys ks
section
variable {X:Cx}
theorem Inv.tupA{pins:List (Addr×Obj)}{σ:St}{H:Hp}{s:Shared}(I:Inv X pins σ H s){ys:List V}{ks:List (List At)}{its:List Value}(h:AtsAt H ys ks)(r:Vals ys its):Paired (TupA s.heap) its ks:=
 paired_join (R:=RelV) (fun y v k rv z=>by
  obtain⟨t,rfl,hs,hk⟩:=z
  cases rv
  obtain⟨is,r1,p1,_⟩:=I.tuple (SqT.of (K:=X.K) hs)
  obtain⟨o,e1,c1,n,d1⟩:=p1
  exact⟨t,o,is.toArray,n,rfl,e1,c1,d1,ats_ofA r1,hk⟩) r h
theorem call_sortedA:CallR X (.builtin "sorted") (fun xs H Q=>∃q ys ks,xs = [.ref q]/\SqL X.K H q ys/\AtsAt H ys ks/\ys.length<64/\ks.Nodup/\(∀x∈ks,∀y∈ks,okK x y)/\∀ys' ks',AtsAt H ys' ks'->ks'.Perm ks->ks'.Pairwise (fun x y=>lexK x y=true)->New H (.lst ys') Q):=by
 intro pins s σ H xs us Q I r h
 obtain⟨q,ys,ks,rfl,hq,ht,h4,nd,ok,fin⟩:=h
 obtain⟨u,rfl,ru⟩:=vals1 r
 cases ru
 obtain⟨its,rv,hl,hz⟩:=I.list hq
 have hlen:=paired_lenT rv
 have hlk:=paired_lenT ht
 have tp:=I.tupA ht rv
 have kp:∀b o,s.heap.get? b=some o->((s.heap.push (seqObj "list" #[] 0)).update s.heap.objs.size (Obj.mapSeq (·++its.toArray))).get? b=some o:=fun b o e=>by
  rw[Heap.get?_update_ne _ _ _ _ (Nat.ne_of_lt (Heap.lt_size e))]
  exact Heap.get?_push_of_some _ e
 refine sorted_collectsA (collect_list hl.isList ?_ (smallL (by omega)))
 generalize (s.heap.push (seqObj "list" #[] 0)).update s.heap.objs.size (Obj.mapSeq (·++its.toArray))=h' at kp ⊢
 have I':Inv X pins σ H { s with heap:=h',toks:=s.toks }:=I.kept kp
 refine⟨ks,h',s.toks,rfl,paired_mapP tp fun _ _ t=>t.keep fun b o e _=>kp b o e,by omega,nd,ok,fun h2 p e k2 he hp ha=>?_⟩
 have hm:∀i∈p,i<ys.length:=fun i hi=>by
  have:=List.mem_range.mp (hp.mem_iff.mp hi)
  omega
 have hpl:=hp.length_eq
 rw[List.length_range]at hpl
 refine⟨.ref h'.objs.size,_,I'.laid (s:={ s with heap:=h',toks:=s.toks }) (t':=s.toks) (o:=.lst (p.map fun i=>ys.getD i .non)) k2 (Nat.le_refl _) ⟨by rw[List.length_map];exact smallL (by omega),_,e,paired_pick rv _ _ p hm,he⟩,rfl,?_⟩
 exact(fin _ (p.map fun i=>ks.getD i []) (paired_pick ht _ _ p hm) (perm_getD (by rw[←hlk,hlen];exact hp)) (List.pairwise_map.mpr ha)).at _ (I'.hok.fresh (Nat.le_refl _))
end
end L2
namespace L2
open PySem PySem.Spec PyProof.Rows
theorem take_snoc{α:Type}{ys:List α}{i:Nat}{y:α}(h:ys[i]? = some y):ys.take (i+1)=ys.take i++[y]:=by
 rw[List.take_succ,h];rfl
section
variable {g:TG} {te:TE} {H1:Hp} {Q:Addr->Hp->Prop}
theorem comp_mapL{K:PySem.W.Frag}{a:Addr}{xs:List V}{σ0:St}(hx:SqL K H1 a xs)(S:St->Prop)(ys:List V)(hl:ys.length=xs.length)(big:xs.length<=sizeLine)(s0:S σ0)
 (turn:∀(i:Nat) x y σ H (k:St->V->Hp->Prop),xs[i]? = some x->ys[i]? = some y->S σ->Same H1 H->(∀σ3 H5,S σ3->Same H H5->k σ3 y H5)->g x σ H fun σ3 H3=>te σ3 H3 (k σ3))
 (done:∀D H,H1 D=none->H D=some (.lst ys)->Same H1 H->Q D H) :
 ∀D,H1 D=none->∃W:Nat->Nat->St->Hp->Prop,(∃m,W 0 m σ0 (upd H1 D (.lst [])))/\CompAsk (Itl K a) g tTrue te D (fun H'=>Q D H') W:=by
 refine comp_list0 hx S (fun i zs _=>zs=ys.take i) s0 (fun _ _=>rfl) (fun D i x zs σ H k a1 a2 a3 a4 a5 a6 a7=>?_) fun D zs H a1 a2 a3 a4=>?_
 · have hi:i<ys.length:=by rw[hl];exact(List.getElem?_eq_some_iff.mp a2).1
   have hy:=List.getElem?_eq_getElem hi
   refine turn i x ys[i] σ H k a2 hy a3 a5 fun σ3 H5 b1 b2=>a7 σ3 _ H5 b1 b2 ?_ ?_
   · rw[a6,List.length_take];omega
   · rw[a6,take_snoc hy]
 · rw[a4,←hl,List.take_length]at a2
   exact done D H a1 a2 a3
end
end L2
namespace L2
theorem lets2{t1 t2:TS}{D:Ends}{σ:St}{H:Hp}(h:let d:=D;let s:=σ;let u2:=t2;tSeq t1 u2 d s H):tSeq t1 (t2) D σ H:=h
theorem lets3{t1 t2 t3:TS}{D:Ends}{σ:St}{H:Hp}(h:let d:=D;let s:=σ;let u3:=t3;let u2:=tSeq t2 u3;tSeq t1 u2 d s H):tSeq t1 (tSeq t2 (t3)) D σ H:=h
theorem lets4{t1 t2 t3 t4:TS}{D:Ends}{σ:St}{H:Hp}(h:let d:=D;let s:=σ;let u4:=t4;let u3:=tSeq t3 u4;let u2:=tSeq t2 u3;tSeq t1 u2 d s H):tSeq t1 (tSeq t2 (tSeq t3 (t4))) D σ H:=h
theorem lets5{t1 t2 t3 t4 t5:TS}{D:Ends}{σ:St}{H:Hp}(h:let d:=D;let s:=σ;let u5:=t5;let u4:=tSeq t4 u5;let u3:=tSeq t3 u4;let u2:=tSeq t2 u3;tSeq t1 u2 d s H):tSeq t1 (tSeq t2 (tSeq t3 (tSeq t4 (t5)))) D σ H:=h
theorem lets6{t1 t2 t3 t4 t5 t6:TS}{D:Ends}{σ:St}{H:Hp}(h:let d:=D;let s:=σ;let u6:=t6;let u5:=tSeq t5 u6;let u4:=tSeq t4 u5;let u3:=tSeq t3 u4;let u2:=tSeq t2 u3;tSeq t1 u2 d s H):tSeq t1 (tSeq t2 (tSeq t3 (tSeq t4 (tSeq t5 (t6))))) D σ H:=h
theorem lets7{t1 t2 t3 t4 t5 t6 t7:TS}{D:Ends}{σ:St}{H:Hp}(h:let d:=D;let s:=σ;let u7:=t7;let u6:=tSeq t6 u7;let u5:=tSeq t5 u6;let u4:=tSeq t4 u5;let u3:=tSeq t3 u4;let u2:=tSeq t2 u3;tSeq t1 u2 d s H):tSeq t1 (tSeq t2 (tSeq t3 (tSeq t4 (tSeq t5 (tSeq t6 (t7)))))) D σ H:=h
theorem lets8{t1 t2 t3 t4 t5 t6 t7 t8:TS}{D:Ends}{σ:St}{H:Hp}(h:let d:=D;let s:=σ;let u8:=t8;let u7:=tSeq t7 u8;let u6:=tSeq t6 u7;let u5:=tSeq t5 u6;let u4:=tSeq t4 u5;let u3:=tSeq t3 u4;let u2:=tSeq t2 u3;tSeq t1 u2 d s H):tSeq t1 (tSeq t2 (tSeq t3 (tSeq t4 (tSeq t5 (tSeq t6 (tSeq t7 (t8))))))) D σ H:=h
theorem lets9{t1 t2 t3 t4 t5 t6 t7 t8 t9:TS}{D:Ends}{σ:St}{H:Hp}(h:let d:=D;let s:=σ;let u9:=t9;let u8:=tSeq t8 u9;let u7:=tSeq t7 u8;let u6:=tSeq t6 u7;let u5:=tSeq t5 u6;let u4:=tSeq t4 u5;let u3:=tSeq t3 u4;let u2:=tSeq t2 u3;tSeq t1 u2 d s H):tSeq t1 (tSeq t2 (tSeq t3 (tSeq t4 (tSeq t5 (tSeq t6 (tSeq t7 (tSeq t8 (t9)))))))) D σ H:=h
theorem lets10{t1 t2 t3 t4 t5 t6 t7 t8 t9 t10:TS}{D:Ends}{σ:St}{H:Hp}(h:let d:=D;let s:=σ;let u10:=t10;let u9:=tSeq t9 u10;let u8:=tSeq t8 u9;let u7:=tSeq t7 u8;let u6:=tSeq t6 u7;let u5:=tSeq t5 u6;let u4:=tSeq t4 u5;let u3:=tSeq t3 u4;let u2:=tSeq t2 u3;tSeq t1 u2 d s H):tSeq t1 (tSeq t2 (tSeq t3 (tSeq t4 (tSeq t5 (tSeq t6 (tSeq t7 (tSeq t8 (tSeq t9 (t10))))))))) D σ H:=h
theorem lets11{t1 t2 t3 t4 t5 t6 t7 t8 t9 t10 t11:TS}{D:Ends}{σ:St}{H:Hp}(h:let d:=D;let s:=σ;let u11:=t11;let u10:=tSeq t10 u11;let u9:=tSeq t9 u10;let u8:=tSeq t8 u9;let u7:=tSeq t7 u8;let u6:=tSeq t6 u7;let u5:=tSeq t5 u6;let u4:=tSeq t4 u5;let u3:=tSeq t3 u4;let u2:=tSeq t2 u3;tSeq t1 u2 d s H):tSeq t1 (tSeq t2 (tSeq t3 (tSeq t4 (tSeq t5 (tSeq t6 (tSeq t7 (tSeq t8 (tSeq t9 (tSeq t10 (t11)))))))))) D σ H:=h
theorem lets12{t1 t2 t3 t4 t5 t6 t7 t8 t9 t10 t11 t12:TS}{D:Ends}{σ:St}{H:Hp}(h:let d:=D;let s:=σ;let u12:=t12;let u11:=tSeq t11 u12;let u10:=tSeq t10 u11;let u9:=tSeq t9 u10;let u8:=tSeq t8 u9;let u7:=tSeq t7 u8;let u6:=tSeq t6 u7;let u5:=tSeq t5 u6;let u4:=tSeq t4 u5;let u3:=tSeq t3 u4;let u2:=tSeq t2 u3;tSeq t1 u2 d s H):tSeq t1 (tSeq t2 (tSeq t3 (tSeq t4 (tSeq t5 (tSeq t6 (tSeq t7 (tSeq t8 (tSeq t9 (tSeq t10 (tSeq t11 (t12))))))))))) D σ H:=h
theorem letX{X:Cx}{b:List PySem.Stmt}{D:Ends}{σ:St}{H:Hp}(h:let x:=X;let d:=D;∃t,PSs x b t/\t d σ H):∃t,PSs X b t/\t D σ H:=h
theorem letG{p:Prop}(h:let T:=p;T):p:=h
theorem letB{g:TG}{tb:TS}{E:Ends}{x:V}{σ:St}{H:Hp}(h:let e:=E;let s:=σ;g x s H fun σ2 H2=>tb e σ2 H2):g x σ H fun σ2 H2=>tb E σ2 H2:=h
end L2
namespace HT
open PySem PyProof.Rows
theorem rcLe_int(A:Around)(s:Shared)(a:Int)(t:Tok)(c:Int)(u:Tok)(prog:Program)(w:World)(E:Value->Shared->Prop)(Q:Value->Shared->Prop)(h:Q (.bool (decide (a<=c))) s) :
 wpAny (model prog w) A (richCompare .LtE (.int a t) (.int c u)) Q E s:=
 (PyProof.Rows.le_int h:wpAny (model prog w) A (compareOp .LtE (.int a t) (.int c u)) Q E s)
section
open PySem.SeqAt
open PySem.AutoSeq1 (wpAny_loadPart')
open PySem.MeetsSeq PySem.MeetsSeq2 PySem.MeetsSeq3
theorem tuple_le_ints(l b:Addr)(items items2:Array Value)(n n2:Nat)(dd dd2:Option Addr)(sl sl2:Array (Option Value))(ns ms:List Int)(hi:IntsAre items.toList ns)(hj:IntsAre items2.toList ms) :
 Meets (Builtin.«tuple.__le__» ⟨[.ref l,.ref b],[]⟩)
  (fun _ R s=>s.heap.get? l=some { cls:=.type "tuple",dict:=dd,data:=.seq items n,slots:=sl }/\s.heap.get? b=some { cls:=.type "tuple",dict:=dd2,data:=.seq items2 n2,slots:=sl2 } /\
   R (.ok (.ret (.bool (!lexLt ms ns)))) s):=
 .of_wp fun prog w A R s h=>by
  obtain⟨hp,g,d,tk,os⟩:=s;obtain⟨hl,hb,h⟩:=h
  have f2:=AutoSeq1.sub_tuple_tuple
  have z1:items.size=ns.length:=by rw[←hi.length];simp
  have z2:items2.size=ms.length:=by rw[←hj.length];simp
  wp_walk using wpAny_loadPart' hl,wpAny_loadPart' hb,wpAny_forIn_list _ (fun rest b s'=>b.1=none/\s'=⟨hp,g,d,tk,os⟩/\∃(vs ws:List Value) (ns' ms':List Int),rest=vs.zip ws /\
   IntsAre vs ns'/\IntsAre ws ms'/\ns'.length+items2.size=ms'.length+items.size/\R (.ok (.ret (.bool (!lexLt ms' ns')))) ⟨hp,g,d,tk,os⟩) _
  case turn=>
   rintro⟨y,x⟩ rest b s' ⟨hb',rfl,vs,ws,ns',ms',hz,hvi,hwi,hlen,hR⟩
   cases hvi with
   | nil=>rw[List.zip_nil_left]at hz;cases hz
   | cons a t hvi'=>
    cases hwi with
    | nil=>rw[List.zip_nil_right]at hz;cases hz
    | cons c u hwi'=>
     rw[List.zip_cons_cons]at hz
     injection hz with hyx hrest
     injection hyx with hy hx
     subst hy hx
     rw[lexLt_cons]at hR
     simp only[List.length_cons]at hlen
     obtain⟨e,he,hiff⟩:=eqAt_int A.in1 ⟨hp,g,d,tk,os⟩ a t c u
     refine wpAny_bind (he prog w _ _ ?_)
     cases e with
     | true=>
      rw[if_pos (hiff.mp rfl).symm]at hR
      wp_walk
      exact⟨rfl,rfl,_,_,_,_,hrest,hvi',hwi',by omega,hR⟩
     | false=>
      have hne:a≠c:=fun q=>absurd (hiff.mpr q) Bool.false_ne_true
      rw[if_neg (Ne.symm hne)]at hR
      have hri:=rcLe_int A.in1 ⟨hp,g,d,tk,os⟩ a t c u prog w
      have eb:(!decide (c<a))=decide (a<=c):=by
       by_cases q:c<a
       · rw[decide_eq_true q,decide_eq_false (by omega)];rfl
       · rw[decide_eq_false q,decide_eq_true (by omega)];rfl
      rw[eb]at hR
      wp_walk using hri
      exact⟨_,rfl,by simpa using hR⟩
  case fin=>
   rintro⟨b1,b2⟩ s' ⟨hb',rfl,vs,ws,ns',ms',hz,hvi,hwi,hlen,hR⟩
   simp only at hb'
   subst hb'
   have hv:(!lexLt ms' ns')=decide (items.size<=items2.size):=by
    cases hvi with
    | nil=>
     cases hwi with
     | nil=>
      simp only[List.length_nil]at hlen
      rw[lexLt_nil_nil]
      exact(decide_eq_true (by omega)).symm
     | cons c u hw=>
      simp only[List.length_nil,List.length_cons]at hlen
      rw[lexLt_cons_nil]
      exact(decide_eq_true (by omega)).symm
    | cons a t hv=>
     cases hwi with
     | nil=>
      simp only[List.length_nil,List.length_cons]at hlen
      rw[lexLt_nil_cons]
      exact(decide_eq_false (by omega)).symm
     | cons c u hw=>
      rw[List.zip_cons_cons]at hz
      cases hz
   rw[hv]at hR
   wp_walk
   exact⟨_,rfl,by simpa [Builtin.Tuple.tupleCompareSizes]using hR⟩
  case h=>
   exact⟨rfl,rfl,items.toList,items2.toList,ns,ms,rfl,hi,hj,by omega,h⟩
end
section
variable {prog:Program} {w:World} {A:Around} {E:Value->Shared->Prop} {s:Shared}
theorem le_tupInts{l b:Addr}{items items2:Array Value}{ns ms:List Int}{Q:Value->Shared->Prop}(hl:IsTup s.heap l items)(hb:IsTup s.heap b items2)(hi:IntsAre items.toList ns)(hj:IntsAre items2.toList ms)
 (hu:A.units<cLine) (h:Q (.bool (!lexLt ms ns)) s):wpAny (model prog w) A (compareOp .LtE (.ref l) (.ref b)) Q E s:=by
 obtain⟨⟨cls,dd,data,sl⟩,ho,hc,n,hd⟩:=id hl
 obtain⟨⟨cls2,dd2,data2,sl2⟩,ho2,hc2,n2,hd2⟩:=id hb
 simp only at hc hd hc2 hd2
 subst hc hd hc2 hd2
 exact richCompare_meets_room (op:=.LtE) ⟨_,ho,rfl⟩ ⟨_,ho2,rfl⟩ PySem.F.slot_tuple_le PySem.F.entry_tuple_le (PySem.F.args_tuple_le_2 _ _) (tuple_le_ints l b items items2 n n2 dd dd2 sl sl2 ns ms hi hj)
  ⟨ho,ho2,show Value.bool (!lexLt ms ns)≠Value.notImplemented/\Q (.bool (!lexLt ms ns)) s from ⟨(fun x=>nomatch x),h⟩⟩ hu
end
end HT
namespace L2
open PySem PySem.Spec PyProof.Rows
section
variable {X:Cx}
noncomputable def rLeT(K:PySem.W.Frag):R2:=fun x y H Q=>∃a b ns ms,x = .ref a/\y = .ref b/\SqT K H a (ns.map V.int)/\SqT K H b (ms.map V.int)/\Q (.bl (!HT.lexLt ms ns)) H
theorem op_leT(hu:X.A.units<cLine):OpR X (compareOp .LtE) (rLeT X.K):=by
 intro pins s σ H x y v u Q I rx ry h
 obtain⟨a,b,ns,ms,rfl,rfl,ha,hb,q⟩:=h
 cases rx
 cases ry
 obtain⟨its,r,p,_⟩:=I.tuple ha
 obtain⟨its2,r2,p2,_⟩:=I.tuple hb
 exact HT.le_tupInts p p2 (by simpa using intsAre_of r) (by simpa using intsAre_of r2) hu ⟨.bl _,H,I,rfl,q⟩
end
end L2
namespace L2
open PySem PySem.Spec PyProof.Rows
section
variable {X:Cx}
theorem op_gt_str:OpR X (compareOp .Gt) (fun x y H Q=>∃i j,x = .str i/\y = .str j/\Q (.bl (decide (j.cps.toList<i.cps.toList))) H):=by
 intro pins s σ H x y v u Q I rx ry h
 obtain⟨i,j,rfl,rfl,q⟩:=h
 obtain⟨t,rfl⟩:=rx
 obtain⟨t',rfl⟩:=ry
 exact PySem.P.gt_str (fin_bl I q rfl)
theorem rep_ok{a:Str}(h:TxtOk a):∀(k:Nat) (b:Array Nat),(∀c∈b.toList,c<0x110000)->TxtOk ⟨(List.replicate k a.cps).foldl (· ++ ·) b⟩/\Str.length ⟨(List.replicate k a.cps).foldl (· ++ ·) b⟩=b.size+k * a.length
 | 0,b,hb=>⟨txtOk_iff.mpr hb,by show b.size=_;omega⟩
 | k+1,b,hb=>by
  rw[List.replicate_succ,List.foldl_cons]
  obtain⟨e1,e2⟩:=rep_ok h k (b++a.cps) (fun c hc=>by
   rw[Array.toList_append]at hc
   rcases List.mem_append.mp hc with z | z
   · exact hb c z
   · exact txtOk_iff.mp h c z)
  refine⟨e1,e2.trans ?_⟩
  have:a.length=a.cps.size:=rfl
  rw[Array.size_append,Nat.succ_mul]
  omega
theorem op_mulS:OpR X (binaryOp .Mult) (fun x y H Q=>∃(a:Str) (n:Int),x = .str a/\y = .int n/\0<=n/\n<=9/\a.length<=9/\TxtOk a/\∀z:Str,TxtOk z->z.length<=n.toNat * a.length->Q (.str z) H):=by
 intro pins s σ H x y v u Q I rx ry h
 obtain⟨a,n,rfl,rfl,h0,h9,hl,ok,q⟩:=h
 obtain⟨t,rfl⟩:=rx
 obtain⟨t',rfl⟩:=ry
 have b1:n.toNat * a.length<=81:=Nat.mul_le_mul (show n.toNat<=9 by omega) hl
 refine PySem.P.mul_str (by rw[decide_eq_false (by omega),decide_eq_false (by omega)];rfl) (fun h1 h2 h3=>?_) (fun h1 h2=>?_) ?_
 · have:(9:Int)<=(2 ^ 63 - 1) / n:=(Int.le_ediv_iff_mul_le (by omega)).mpr (by omega)
   omega
 · exact decide_eq_false (by rw[Nat.mul_comm];exact Nat.not_lt.mpr (Nat.le_trans b1 (by decide)))
 · by_cases h1:n<1
   · rw[if_pos h1]
     exact⟨by decide,.str Str.empty,H,I.tok _,⟨_,rfl⟩,q _ (by decide +kernel) (Nat.zero_le _)⟩
   rw[if_neg h1]
   by_cases h2:(n == 1 || a.length == 0)=true
   · rw[if_pos h2]
     refine⟨.str a,H,I,⟨_,rfl⟩,q _ ok ?_⟩
     rw[Bool.or_eq_true]at h2
     rcases h2 with h2 | h2
     · have:=eq_of_beq h2
       subst this
       exact Nat.le_of_eq (Nat.one_mul _).symm
     · have:=eq_of_beq h2
       omega
   · rw[if_neg h2]
     obtain⟨e1,e2⟩:=rep_ok ok n.toNat #[] (fun c hc=>by simp at hc)
     refine⟨?_,.str _,H,I.tok _,⟨_,rfl⟩,q _ e1 (by rw[e2];simp)⟩
     have sz:(#[]:Array Nat).size=0:=rfl
     exact smallL (by rw[sz]at e2;omega)
end
end L2
namespace K41
open PySem L2
open HT (At lexK okK)
structure Clm where
 nm:Str
 ls:List Int
 bl:Option (List Int)
structure Pcl where
 nm:Str
 ms:List Int
 rk:Int
 fs:List (Str×List Str)
 ns:List Clm
 ss:List Clm
 os:List Str
noncomputable def underB(ms:List Int):Option (List Int)->Bool
 | none=>true
 | some b=>HT.lexLt ms b
noncomputable def meetB(c:Clm)(p:Pcl):Bool:=(decide (c.nm=p.nm) && (!HT.lexLt p.ms c.ls && underB p.ms c.bl)) || (inV (.str c.nm) (p.os.map V.str) && (decide (c.ls = []) && c.bl.isNone))
noncomputable def gath{α β:Type}(f:Nat->α->List β):List α->Nat->List β
 | [],_=>[]
 | x::r,k=>f k x++gath f r (k+1)
theorem gath_append{α β:Type}{f:Nat->α->List β}:∀{l m:List α} {k:Nat},gath f (l++m) k=gath f l k++gath f m (k+l.length)
 | [],m,k=>rfl
 | x::r,m,k=>by
  show f k x++gath f (r++m) (k+1)=(f k x++gath f r (k+1))++gath f m (k+(r.length+1))
  rw[gath_append,List.append_assoc,show k+1+r.length=k+(r.length+1) by omega]
theorem take_snocP{α:Type}{l:List α}{i:Nat}{x:α}(h:l[i]? = some x):l.take (i+1)=l.take i++[x]:=by
 rw[List.take_succ,h];rfl
theorem take_lenP{α:Type}{l:List α}{i:Nat}{x:α}(h:l[i]? = some x):(l.take i).length=i:=by
 rw[List.length_take];have:=(List.getElem?_eq_some_iff.mp h).1;omega
theorem gath_snoc{α β:Type}{f:Nat->α->List β}{l:List α}{i:Nat}{x:α}(h:l[i]? = some x):gath f (l.take (i+1)) 0=gath f (l.take i) 0++f i x:=by
 rw[take_snocP h,gath_append,take_lenP h,Nat.zero_add]
 show _++(f i x++[])=_
 rw[List.append_nil]
theorem flat_snoc{α β:Type}{f:α->List β}{l:List α}{i:Nat}{x:α}(h:l[i]? = some x):(l.take (i+1)).flatMap f=(l.take i).flatMap f++f x:=by
 rw[take_snocP h,List.flatMap_append]
 simp
theorem filt_snoc{α:Type}{f:α->Bool}{l:List α}{i:Nat}{x:α}(h:l[i]? = some x):(l.take (i+1)).filter f=(l.take i).filter f++(if f x=true then [x] else []):=by
 rw[take_snocP h,List.filter_append]
 by_cases q:f x=true
 · rw[if_pos q];simp[q]
 · rw[if_neg q];simp[q]
theorem gath_mem{α β:Type}{f:Nat->α->List β}{y:β}:∀{l:List α} {k:Nat},y∈gath f l k->∃i x,x∈l/\k<=i/\y∈f i x
 | [],k,h=>by cases h
 | x::r,k,h=>by
  rcases List.mem_append.mp h with h | h
  · exact⟨k,x,.head _,Nat.le_refl _,h⟩
  · obtain⟨i,z,a,b,c⟩:=gath_mem h
    exact⟨i,z,.tail _ a,by omega,c⟩
theorem gath_len{α β:Type}{f:Nat->α->List β}{m:Nat}(h:∀i x,(f i x).length<=m):∀{l:List α} {k:Nat},(gath f l k).length<=l.length * m
 | [],_=>by simp[gath]
 | x::r,k=>by
  show(f k x++gath f r (k+1)).length<=(r.length+1) * m
  rw[List.length_append,Nat.succ_mul]
  have:=h k x
  have:=gath_len h (l:=r) (k:=k+1)
  omega
theorem gath_nodup{α β:Type}{f:Nat->α->List β}(h1:∀i x,(f i x).Nodup)(h2:∀i j x z y,i<j->y∈f i x->y∉f j z):∀{l:List α} {k:Nat},(gath f l k).Nodup
 | [],_=>List.nodup_nil
 | x::r,k=>by
  show(f k x++gath f r (k+1)).Nodup
  refine List.nodup_append.mpr ⟨h1 k x,gath_nodup h1 h2,fun a ha b hb e=>?_⟩
  subst e
  obtain⟨i,z,_,c,d⟩:=gath_mem hb
  exact h2 k i x z a (by omega) ha d
noncomputable def needS:Str:="need"
noncomputable def shutS:Str:="shut"
noncomputable def clashS:Str:="clash"
noncomputable def isLt(x y:Str):Bool:=decide (x.cps.toList<y.cps.toList)
noncomputable def needI(p:Pcl)(ps:List Pcl)(i:Nat)(c:Clm):List (List At):=if ps.filter (meetB c) = [] then [[.inr needS,.inr p.nm,.inl i]] else []
noncomputable def others(p:Pcl)(ps:List Pcl):List Pcl:=ps.filter fun o=>decide (o.nm≠p.nm)
noncomputable def shutI(p:Pcl)(ps:List Pcl)(i:Nat)(c:Clm):List (List At):=((others p ps).filter (meetB c)).map fun o=>[.inr shutS,.inr p.nm,.inl i,.inr o.nm]
noncomputable def paths(p:Pcl):List Str:=p.fs.map (·.1)
noncomputable def both(p o:Pcl):List Str:=(paths p).filter fun x=>decide (x∈paths o)
noncomputable def clashI(p o:Pcl):List (List At):=(both p o).map fun x=>[.inr clashS,.inr p.nm,.inr o.nm,.inr x]
noncomputable def needF(p:Pcl)(ps:List Pcl):List (List At):=gath (needI p ps) p.ns 0
noncomputable def shutF(p:Pcl)(ps:List Pcl):List (List At):=gath (shutI p ps) p.ss 0
noncomputable def clashF(p:Pcl)(ps:List Pcl):List (List At):=(ps.filter fun o=>isLt p.nm o.nm).flatMap (clashI p)
noncomputable def oneF(ps:List Pcl)(p:Pcl):List (List At):=needF p ps++shutF p ps++clashF p ps
noncomputable def allF(ps:List Pcl):List (List At):=ps.flatMap (oneF ps)
inductive Kd:List At->Prop
 | need (n:Str) (i:Nat):Kd [.inr needS,.inr n,.inl i]
 | shut (n:Str) (i:Nat) (o:Str):Kd [.inr shutS,.inr n,.inl i,.inr o]
 | clash (n o x:Str):Kd [.inr clashS,.inr n,.inr o,.inr x]
theorem need_in{p:Pcl}{ps:List Pcl}{a:List At}(h:a∈needF p ps):∃i:Nat,a = [.inr needS,.inr p.nm,.inl i]:=by
 obtain⟨i,c,_,_,h⟩:=gath_mem h
 unfold needI at h
 split at h
 · exact⟨i,List.mem_singleton.mp h⟩
 · cases h
theorem shut_in{p:Pcl}{ps:List Pcl}{a:List At}(h:a∈shutF p ps):∃(i:Nat) (o:Str),a = [.inr shutS,.inr p.nm,.inl i,.inr o]:=by
 obtain⟨i,c,_,_,h⟩:=gath_mem h
 obtain⟨o,_,rfl⟩:=List.mem_map.mp h
 exact⟨i,o.nm,rfl⟩
theorem clash_in{p:Pcl}{ps:List Pcl}{a:List At}(h:a∈clashF p ps):∃o x:Str,a = [.inr clashS,.inr p.nm,.inr o,.inr x]:=by
 obtain⟨o,_,h⟩:=List.mem_flatMap.mp h
 obtain⟨x,_,rfl⟩:=List.mem_map.mp h
 exact⟨_,_,rfl⟩
theorem one_in{p:Pcl}{ps:List Pcl}{a:List At}(h:a∈oneF ps p):Kd a/\a[1]? = some (.inr p.nm):=by
 rcases List.mem_append.mp h with h | h
 · rcases List.mem_append.mp h with h | h
   · obtain⟨i,rfl⟩:=need_in h
     exact⟨.need _ _,rfl⟩
   · obtain⟨i,o,rfl⟩:=shut_in h
     exact⟨.shut _ _ _,rfl⟩
 · obtain⟨o,x,rfl⟩:=clash_in h
   exact⟨.clash _ _ _,rfl⟩
theorem all_kd{ps:List Pcl}{a:List At}(h:a∈allF ps):Kd a:=by
 obtain⟨p,_,h⟩:=List.mem_flatMap.mp h
 exact(one_in h).1
theorem kd_first{a:List At}(h:Kd a):∃x r,a = .inr x::r:=by
 cases h<;>exact⟨_,_,rfl⟩
theorem ns_ne:needS≠shutS:=by decide +kernel
theorem nc_ne:needS≠clashS:=by decide +kernel
theorem sc_ne:shutS≠clashS:=by decide +kernel
theorem okK_two{x y:At}{r t:List At}(h:x≠y->HT.kin x y)(h2:x=y->okK r t):okK (x::r) (y::t):=by
 show if x=y then okK r t else HT.kin x y
 by_cases e:x=y
 · rw[if_pos e];exact h2 e
 · rw[if_neg e];exact h e
theorem okK_nil{r:List At}:okK [] r:=by
 cases r<;>trivial
theorem kd_ok{a b:List At}(ha:Kd a)(hb:Kd b):okK a b:=by
 cases ha with
 | need n i=>
  cases hb with
  | need m j=>exact okK_two (fun _=>trivial) fun _=>okK_two (fun _=>trivial) fun _=>okK_two (fun _=>trivial) fun _=>okK_nil
  | shut m j q=>exact okK_two (fun _=>trivial) fun e=>absurd (Sum.inr.inj e) ns_ne
  | clash m q y=>exact okK_two (fun _=>trivial) fun e=>absurd (Sum.inr.inj e) nc_ne
 | shut n i o=>
  cases hb with
  | need m j=>exact okK_two (fun _=>trivial) fun e=>absurd (Sum.inr.inj e).symm ns_ne
  | shut m j q=>exact okK_two (fun _=>trivial) fun _=>okK_two (fun _=>trivial) fun _=>okK_two (fun _=>trivial) fun _=>okK_two (fun _=>trivial) fun _=>okK_nil
  | clash m q y=>exact okK_two (fun _=>trivial) fun e=>absurd (Sum.inr.inj e) sc_ne
 | clash n o x=>
  cases hb with
  | need m j=>exact okK_two (fun _=>trivial) fun e=>absurd (Sum.inr.inj e).symm nc_ne
  | shut m j q=>exact okK_two (fun _=>trivial) fun e=>absurd (Sum.inr.inj e).symm sc_ne
  | clash m q y=>exact okK_two (fun _=>trivial) fun _=>okK_two (fun _=>trivial) fun _=>okK_two (fun _=>trivial) fun _=>okK_two (fun _=>trivial) fun _=>okK_nil
theorem map_nodup{α β:Type}{f:α->β}{l:List α}(inj:∀a b,f a=f b->a=b)(h:l.Nodup):(l.map f).Nodup:=List.Pairwise.map f (fun a b ne e=>ne (inj a b e)) h
theorem map_nodup_on{α β:Type}{f:α->β}:∀{l:List α},(l.map f).Nodup->∀{q:α->Bool},((l.filter q).map f).Nodup
 | l,h,q=>List.Nodup.sublist ((List.filter_sublist).map f) h
theorem one_nodup{p:Pcl}{ps:List Pcl}(hn:(ps.map (·.nm)).Nodup)(hp:(paths p).Nodup):(oneF ps p).Nodup:=by
 refine List.nodup_append.mpr ⟨List.nodup_append.mpr ⟨?_,?_,?_⟩,?_,?_⟩
 · refine gath_nodup (fun i c=>?_) fun i j c d y hij h1 h2=>?_
   · unfold needI
     split
     · simp
     · exact List.nodup_nil
   · unfold needI at h1 h2
     split at h1
     · split at h2
       · have e:=(List.mem_singleton.mp h1).symm.trans (List.mem_singleton.mp h2)
         simp only[List.cons.injEq,Sum.inl.injEq]at e
         omega
       · cases h2
     · cases h1
 · refine gath_nodup (fun i c=>?_) fun i j c d y hij h1 h2=>?_
   · have z:=map_nodup_on (map_nodup_on hn (q:=fun o=>decide (o.nm≠p.nm))) (q:=meetB c)
     have w:=map_nodup (f:=fun n:Str=>([.inr shutS,.inr p.nm,.inl (i:Int),.inr n]:List At)) (fun a b e=>by simpa using e) z
     rw[List.map_map]at w
     exact w
   · obtain⟨o,_,e1⟩:=List.mem_map.mp h1
     obtain⟨o',_,e2⟩:=List.mem_map.mp h2
     have e:=e1.trans e2.symm
     simp only[List.cons.injEq,Sum.inl.injEq]at e
     omega
 · intro a ha b hb e
   obtain⟨i,rfl⟩:=need_in ha
   obtain⟨j,o,e2⟩:=shut_in hb
   rw[e2]at e
   exact ns_ne (by injection e with e _;exact Sum.inr.inj e)
 · refine List.pairwise_flatMap.mpr ⟨fun o _=>map_nodup (fun a b e=>by simpa using e) (List.Nodup.sublist List.filter_sublist hp),?_⟩
   have z:(ps.filter fun o=>isLt p.nm o.nm).Pairwise fun a b=>a.nm≠b.nm:=List.pairwise_map.mp (map_nodup_on hn (q:=fun o=>isLt p.nm o.nm))
   refine z.imp fun {a b} ne x hx y hy e=>?_
   obtain⟨u,_,e1⟩:=List.mem_map.mp hx
   obtain⟨v,_,e2⟩:=List.mem_map.mp hy
   have e:=(e1.trans e).trans e2.symm
   simp only[List.cons.injEq,Sum.inr.injEq]at e
   exact ne e.2.2.1
 · intro a ha b hb e
   obtain⟨o,x,e2⟩:=clash_in hb
   rw[e2]at e
   rcases List.mem_append.mp ha with ha | ha
   · obtain⟨i,rfl⟩:=need_in ha
     exact nc_ne (by injection e with e _;exact Sum.inr.inj e)
   · obtain⟨i,o,rfl⟩:=shut_in ha
     exact sc_ne (by injection e with e _;exact Sum.inr.inj e)
theorem all_nodup{ps:List Pcl}(hn:(ps.map (·.nm)).Nodup)(hp:∀p∈ps,(paths p).Nodup):(allF ps).Nodup:=by
 refine List.pairwise_flatMap.mpr ⟨fun p h=>one_nodup hn (hp p h),(List.pairwise_map.mp hn).imp fun {a b} ne x hx y hy e=>?_⟩
 have e1:=(one_in hx).2
 have e2:=(one_in hy).2
 rw[e,e2]at e1
 exact ne (Sum.inr.inj (Option.some.inj e1)).symm
structure Few(p:Pcl):Prop where
 ns:p.ns.length<=0
 ss:p.ss.length<=0
 fs:p.fs.length<=0
 nd:(paths p).Nodup
theorem flat_len{α β:Type}{f:α->List β}{m:Nat}(h:∀x,(f x).length<=m):∀l:List α,(l.flatMap f).length<=l.length * m
 | []=>by simp
 | x::r=>by
  rw[List.flatMap_cons,List.length_append,List.length_cons,Nat.succ_mul]
  have:=h x
  have:=flat_len h r
  omega
theorem bare_one{ps:List Pcl}{p:Pcl}(hf:Few p):oneF ps p = []:=by
 have a:p.ns = []:=List.length_eq_zero_iff.mp (Nat.le_zero.mp hf.ns)
 have b:p.ss = []:=List.length_eq_zero_iff.mp (Nat.le_zero.mp hf.ss)
 have c:p.fs = []:=List.length_eq_zero_iff.mp (Nat.le_zero.mp hf.fs)
 have d:clashF p ps = []:=by
  unfold clashF
  rw[List.flatMap_eq_nil_iff]
  intro o _
  unfold clashI both paths
  rw[c]
  rfl
 unfold oneF needF shutF
 rw[a,b,d]
 rfl
theorem bare_all{ps:List Pcl}(hf:∀p∈ps,Few p):allF ps = []:=by
 unfold allF
 rw[List.flatMap_eq_nil_iff]
 exact fun p hp=>bare_one (hf p hp)
theorem all_len{ps:List Pcl}(hf:∀p∈ps,Few p)(so:ps.Pairwise fun a b=>isLt a.nm b.nm=true)(h4:ps.length<=8):(allF ps).length<64:=by
 rw[bare_all hf]
 decide
end K41
namespace K41
open PySem L2
noncomputable def top(i:Nat):Stmt:=PySem.Challenge.pw_parcelmend_k41_wishes_and_width.main.body.getD i (.Pass ⟨0,0,0,0⟩)
noncomputable abbrev sPIn:Stmt:=inClass (top 11) 0
noncomputable abbrev sSIn:Stmt:=inClass (top 12) 0
noncomputable abbrev sSNa:Stmt:=inClass (top 12) 1
noncomputable abbrev sSMo:Stmt:=inClass (top 12) 2
noncomputable abbrev sSPa:Stmt:=inClass (top 12) 3
noncomputable abbrev sBIn:Stmt:=inClass (top 40) 0
noncomputable abbrev sWit:Stmt:=top 6
noncomputable abbrev sKUn:Stmt:=top 8
noncomputable abbrev sMee:Stmt:=top 10
noncomputable abbrev sPOf:Stmt:=top 14
noncomputable abbrev sFOf:Stmt:=top 15
noncomputable abbrev sSou:Stmt:=top 16
noncomputable abbrev sMtg:Stmt:=top 17
noncomputable abbrev sNFa:Stmt:=top 18
noncomputable abbrev sSFa:Stmt:=top 19
noncomputable abbrev sCFa:Stmt:=top 20
noncomputable abbrev sPat:Stmt:=top 21
noncomputable abbrev sCas:Stmt:=top 26
noncomputable abbrev sWca:Stmt:=top 27
noncomputable abbrev sDon:Stmt:=top 29
noncomputable abbrev sMet:Stmt:=top 42
noncomputable abbrev sWid:Stmt:=top 43
noncomputable abbrev sBes:Stmt:=top 44
noncomputable abbrev sSts:Stmt:=top 45
noncomputable abbrev sSde:Stmt:=top 46
noncomputable abbrev sMkL:Stmt:=top 47
noncomputable abbrev sCel:Stmt:=top 51
noncomputable abbrev sDra:Stmt:=top 52
noncomputable abbrev sNam:Stmt:=top 53
noncomputable abbrev sWis:Stmt:=top 54
noncomputable abbrev sPcs:Stmt:=top 55
noncomputable abbrev sLWi:Stmt:=top 56
noncomputable abbrev sShf:Stmt:=top 57
noncomputable abbrev sLMe:Stmt:=top 58
noncomputable abbrev sLWd:Stmt:=top 59
noncomputable abbrev sToo:Stmt:=top 60
noncomputable abbrev sLaw:Stmt:=top 61
structure Blt(mg:Str->Option Value):Prop where
 range:mg "range" = none
 len:mg "len" = none
 list:mg "list" = none
 dict:mg "dict" = none
 tuple:mg "tuple" = none
 sorted:mg "sorted" = none
 enumerate:mg "enumerate" = none
 isinstance:mg "isinstance" = none
 bool:mg "bool" = none
 int:mg "int" = none
 set:mg "set" = none
 all:mg "all" = none
 max:mg "max" = none
theorem str_at{x:Str}(ok:TxtOk x){r:Int}(h0:0<=r)(h1:r<x.length):∃c,atI x.cps.toList r=some c/\c<0x110000:=by
 obtain⟨n,rfl⟩:∃n:Nat,r=n:=⟨r.toNat,by omega⟩
 have hn:n<x.cps.toList.length:=by
  have:x.cps.toList.length=x.length:=by simp[Str.length]
  omega
 exact⟨_,atI_nat (List.getElem?_eq_getElem hn),txtOk_iff.mp ok _ (List.getElem_mem hn)⟩
noncomputable def abcS:Str:="abcdefghijklmnopqrstuvwxyz"
theorem abc_ok:TxtOk abcS:=by decide +kernel
theorem abc_len:abcS.length=26:=by decide +kernel
theorem abc_at(n:Int):∃c,atI abcS.cps.toList (n % 26)=some c/\c<0x110000:=str_at abc_ok (by omega) (by rw[abc_len];omega)
theorem at4{a b c d:V}(n:Int){R:V->Prop}(ha:R a)(hb:R b)(hc:R c)(hd:R d):∃v,atI [a,b,c,d] (n % 4)=some v/\R v:=by
 have h:n % 4=0\/n % 4=1\/n % 4=2\/n % 4=3:=by omega
 rcases h with h | h | h | h<;>rw[h]
 · exact⟨_,rfl,ha⟩
 · exact⟨_,rfl,hb⟩
 · exact⟨_,rfl,hc⟩
 · exact⟨_,rfl,hd⟩
theorem at3{a b c:V}(n:Int){R:V->Prop}(ha:R a)(hb:R b)(hc:R c):∃v,atI [a,b,c] (n % 3)=some v/\R v:=by
 have h:n % 3=0\/n % 3=1\/n % 3=2:=by omega
 rcases h with h | h | h<;>rw[h]
 · exact⟨_,rfl,ha⟩
 · exact⟨_,rfl,hb⟩
 · exact⟨_,rfl,hc⟩
noncomputable def BelH(H:Hp)(b:V):Option (List Int)->Prop
 | none=>b = .non
 | some bs=>∃a,b = .ref a/\H a=some (.tup (bs.map V.int))
noncomputable def ClmH(H:Hp)(v:V)(c:Clm):Prop:=∃t l b,v = .ref t/\H t=some (.tup [.str c.nm,.ref l,b])/\H l=some (.tup (c.ls.map V.int))/\BelH H b c.bl
theorem BelH.same{H H':Hp}{b:V}{o:Option (List Int)}(s:Same H H')(h:BelH H b o):BelH H' b o:=by
 cases o with
 | none=>exact h
 | some bs=>
  obtain⟨a,e1,e2⟩:=h
  exact⟨a,e1,s _ _ e2⟩
theorem ClmH.same{H H':Hp}{v:V}{c:Clm}(s:Same H H')(h:ClmH H v c):ClmH H' v c:=by
 obtain⟨t,l,b,e,h1,h2,h3⟩:=h
 exact⟨t,l,b,e,s _ _ h1,s _ _ h2,h3.same s⟩
section
variable {P:Program} {w:World} {K:PySem.W.Frag} {mg:Str->Option Value} {base:Heap}
noncomputable def spCel(K:PySem.W.Frag):Sp:=fun vs H Q _=>∃(a:Addr) (k:Int) (ns:List Int),vs = [.ref a,.int k]/\0<=k/\SqL K H a (ns.map V.int)/\∀n:Int,Q (.int n) H
theorem scCel:FnScope ["_law_script","_law_k"] ["_law_script","_law_k"] (defScope sCel):=⟨rfl,rfl,rfl,by decide +kernel,rfl,by decide +kernel,by decide +kernel⟩
theorem okCel{f:Addr}{fd:FuncData}(F:Fun K "_law_cell_at" "_law_cell_at" sCel f fd)(B:Blt mg):FnOk P w K mg base CX0 1 f fd ["_law_script","_law_k"] (spCel K):=by
 refine F.ok scCel (fun vs H Q E h=>?_) (fun cdv A outer s H vs Q E hr h=>?_)
 · obtain⟨a,k,ns,rfl,_⟩:=h
   rfl
 · refine letX ?_
   intro xX dX
   obtain⟨a,k,ns,rfl,k0,hA,q⟩:=h
   refine⟨_,(pss_cons (ps_if (pt_cmpR op_lt (pv 1) (pe_callB call_len_seq (by rfl) B.len PySem.boot_len (pa_cons (pv 0) pa_nil)) (nomark _))
    (pss_one (ps_ret (pe_ix ix_list (pv 0) (pv 1) (fun _ _=>rfl)))) pss_nil)
    (pss_one (ps_ret pe_int))),?_⟩
   refine lets2 ?_
   intro dD sS uU2
   refine⟨_,rfl,_,rfl,a,_,rfl,.inl hA,_,_,rfl,rfl,_,rfl,?_⟩
   refine ite2 (fun h=>?_) (fun h=>?_)
   · have h':=of_decide_eq_true h
     rw[List.length_map]at h'
     obtain⟨z,hz,_⟩:=atI_ints (ns:=ns) (r:=k) k0 h'
     exact⟨_,rfl,_,rfl,a,_,_,_,rfl,rfl,hA,hz,q z⟩
   · exact q 0
noncomputable def drawF(c k:Int):Int:=(c+7919 * k+1) * 48271 % 2147483647 * ((c+7919 * k+1) * 48271 % 2147483647 / 1009+69621) % 2147483647
noncomputable def spDra:Sp:=fun vs H Q _=>∃c k:Int,vs = [.int c,.int k]/\-1000<=k/\k<=1000/\∀n:Int,n=drawF c k->Q (.int n) H
theorem scDra:FnScope ["_law_cell","_law_k","_law_number"] ["_law_cell","_law_k"] (defScope sDra):=⟨rfl,rfl,rfl,by decide +kernel,rfl,by decide +kernel,by decide +kernel⟩
theorem okDra{f:Addr}{fd:FuncData}(F:Fun K "_law_draw" "_law_draw" sDra f fd):FnOk P w K mg base CX0 1 f fd ["_law_cell","_law_k"] spDra:=by
 refine F.ok scDra (fun vs H Q E h=>?_) (fun cdv A outer s H vs Q E hr h=>?_)
 · obtain⟨c,k,rfl,_⟩:=h
   rfl
 · refine letX ?_
   intro xX dX
   obtain⟨c,k,rfl,k0,k1,q⟩:=h
   refine⟨_,(pss_cons (ps_set (i:=2) scDra.nd rfl (Or.inl rfl) (pe_op op_mod (pe_op op_mul (pe_op op_add (pe_op op_add (pv 0) (pe_op op_mul pe_int (pv 1))) pe_int) pe_int) pe_int))
    (pss_one (ps_ret (pe_op op_mod (pe_op op_mul (pv 2) (pe_op op_add (pe_op op_fdiv (pv 2) pe_int) pe_int)) pe_int)))),?_⟩
   refine lets2 ?_
   intro dD sS uU2
   refine⟨_,rfl,_,rfl,_,_,rfl,rfl,.inl ⟨by omega,by omega⟩,_,_,rfl,rfl,_,_,rfl,rfl,_,_,rfl,rfl,.inr ⟨by omega,by omega⟩,_,_,rfl,rfl,(by show(0:Int)<2147483647;decide),?_⟩
   refine⟨_,rfl,_,rfl,_,_,rfl,rfl,⟨by omega,by omega⟩,_,_,rfl,rfl,_,_,rfl,rfl,.inl ⟨by omega,by omega⟩,_,_,rfl,rfl,(by show(0:Int)<2147483647;decide),?_⟩
   exact q _ rfl
structure Nms(xs:List Str):Prop where
 len:xs.length=5
 all:∀x∈xs,TxtOk x
noncomputable def spNam:Sp:=fun vs H Q _=>∃c:Int,vs = [.int c]/\∀l H' xs,H l=none->Same H H'->H' l=some (.lst (xs.map V.str))->Nms xs->Q (.ref l) H'
theorem scNam:FnScope ["_law_cell","_law_small","_law_head","_law_tail"] ["_law_cell"] (defScope sNam):=⟨rfl,rfl,rfl,by decide +kernel,rfl,by decide +kernel,by decide +kernel⟩
theorem okNam{f fDra:Addr}{fd fdDra:FuncData}(F:Fun K "_law_names" "_law_names" sNam f fd)(B:Blt mg)(FDra:Fun K "_law_draw" "_law_draw" sDra fDra fdDra)(mDra:mg "_law_draw" = some (.ref fDra)):FnOk P w K mg base CX0 2 f fd ["_law_cell"] spNam:=by
 have GDra:FnOk P w K mg base CX0 1 fDra fdDra ["_law_cell","_law_k"] spDra:=okDra FDra
 have bDra:=FDra.binds2 (l:=["_law_cell","_law_k"]) (fun _ _ _ _ _ _ _ _=>rfl)
 refine F.ok scNam (fun vs H Q E h=>?_) (fun cdv A outer s H vs Q E hr h=>?_)
 · obtain⟨c,rfl,_⟩:=h
   rfl
 · refine letX ?_
   intro xX dX
   obtain⟨c,rfl,q⟩:=h
   refine⟨_,(pss_cons (ps_set (i:=1) scNam.nd rfl (Or.inr rfl) pe_str)
    (pss_cons (ps_set (i:=2) scNam.nd rfl (Or.inr rfl) (pe_op op_mulS (pe_ix ix_str (pv 1) (pe_op op_mod (pe_call GDra hr rfl mDra FDra.kp bDra .nil pass0 (pa_cons (pv 0) (pa_cons pe_int pa_nil))) pe_int) (fun _ _=>rfl)) (pe_op op_mod (pe_call GDra hr rfl mDra FDra.kp bDra .nil pass0 (pa_cons (pv 0) (pa_cons pe_int pa_nil))) pe_int)))
    (pss_cons (ps_set (i:=3) scNam.nd rfl (Or.inr rfl) (pe_op op_mulS (pe_ix ix_str (pv 1) (pe_op op_mod (pe_call GDra hr rfl mDra FDra.kp bDra .nil pass0 (pa_cons (pv 0) (pa_cons pe_int pa_nil))) pe_int) (fun _ _=>rfl)) (pe_op op_mod (pe_call GDra hr rfl mDra FDra.kp bDra .nil pass0 (pa_cons (pv 0) (pa_cons pe_int pa_nil))) pe_int)))
    (pss_one (ps_ret (pe_compF ["_law_k"] ["_law_head","_law_small","_law_cell","_law_tail"] [2,1,0,3] ⟨rfl,by decide +kernel,by decide +kernel,by decide +kernel,by decide +kernel,rfl,rfl,rfl⟩ rfl (pi_range1 rfl B.range (pa_cons pe_int pa_nil)) (fun _ _ _ _=>(pg_name (i:=0) (show List.Nodup (["_law_k","_law_head","_law_small","_law_cell","_law_tail"]:List Str) by decide +kernel) rfl (Or.inl rfl))) (fun _ _ _ _=>pts_nil) (fun _ _ _ _=>(pe_op op_add_str (pe_op op_add_str (pv 1) (pe_ix ix_str (pv 2) (pe_op op_mod (pe_op op_add (pe_call GDra hr rfl mDra FDra.kp bDra .nil pass0 (pa_cons (pv 3) (pa_cons pe_int pa_nil))) (pe_op op_mul pe_int (pv 0))) pe_int) (fun _ _=>rfl))) (pv 4))))))))),?_⟩
   refine lets4 ?_
   intro dD sS uU4 uU3 uU2
   have l1:∀z,(⟨#[z]⟩:Str).length=1:=fun z=>len_one z
   refine⟨_,rfl,_,rfl,_,_,rfl,by decide,by decide,fun d0 _=>?_⟩
   obtain⟨z0,hz0,zb0⟩:=abc_at d0
   refine⟨_,_,rfl,rfl,(by show(0:Int)<26;decide),_,_,z0,rfl,rfl,fit1 (by show abcS.length<=100;rw[abc_len];decide),hz0,_,rfl,_,_,rfl,by decide,by decide,fun d1 _=>?_⟩
   refine⟨_,_,rfl,rfl,(by show(0:Int)<4;decide),_,_,rfl,rfl,by omega,by omega,by rw[l1];decide,txtOk_one zb0,fun hd hdo hdl=>?_⟩
   rw[l1]at hdl
   refine⟨_,rfl,_,rfl,_,_,rfl,by decide,by decide,fun d2 _=>?_⟩
   obtain⟨z2,hz2,zb2⟩:=abc_at d2
   refine⟨_,_,rfl,rfl,(by show(0:Int)<26;decide),_,_,z2,rfl,rfl,fit1 (by show abcS.length<=100;rw[abc_len];decide),hz2,_,rfl,_,_,rfl,by decide,by decide,fun d3 _=>?_⟩
   refine⟨_,_,rfl,rfl,(by show(0:Int)<4;decide),_,_,rfl,rfl,by omega,by omega,by rw[l1];decide,txtOk_one zb2,fun tl tlo tll=>?_⟩
   rw[l1]at tll
   have hdl':hd.length<=3:=by omega
   have tll':tl.length<=3:=by omega
   refine⟨5,rfl,by omega,by omega,?_⟩
   refine comp_range0 (σ0:=[none,some (.str hd),some (.str abcS),some (.int c),some (.str tl)]) (fun σ=>∃v,σ = [v,some (.str hd),some (.str abcS),some (.int c),some (.str tl)]) (fun i ys _=>∃xs:List Str,ys=xs.map V.str/\xs.length=i/\∀x∈xs,TxtOk x) ⟨_,rfl⟩ (fun _ _=>⟨[],rfl,rfl,fun _ h=>nomatch h⟩) ?_ ?_
   · intro D i ys σ H2 k hD hi hQ1 hd' hs hQ2 hk
     refine letG ?_
     intro tT
     obtain⟨v,rfl⟩:=hQ1
     obtain⟨xs,rfl,hx,hl⟩:=hQ2
     have hi5:i<5:=by simpa using hi
     refine⟨_,rfl,_,rfl,_,rfl,_,_,rfl,by decide,by decide,fun d4 _=>?_⟩
     obtain⟨z,hz,zb⟩:=abc_at (d4+5 * (0+(i:Int)))
     refine⟨_,rfl,_,_,rfl,rfl,.inl ⟨by omega,by omega⟩,_,_,rfl,rfl,_,_,rfl,rfl,(by show(0:Int)<26;decide),_,_,z,rfl,rfl,fit1 (by show abcS.length<=100;rw[abc_len];decide),hz,_,_,rfl,rfl,fit (by omega) (by rw[l1];decide),_,rfl,_,_,rfl,rfl,fit (by rw[len_app,l1];omega) (by omega),?_⟩
     refine hk _ _ _ ⟨_,rfl⟩ (Same.refl _) (small1000 (by rw[List.length_map];omega)) ⟨xs++[_],strs_snoc xs _,by rw[List.length_append,hx];rfl,fun y hy=>?_⟩
     rcases List.mem_append.mp hy with hy | hy
     · exact hl y hy
     · rw[List.mem_singleton.mp hy]
       exact txtOk_app (txtOk_app hdo (txtOk_one zb)) tlo
   · intro D ys H2 hD hd' hs hQ3
     obtain⟨xs,rfl,hx,hl⟩:=hQ3
     exact q D H2 xs hD hs hd' ⟨hx,hl⟩
end
end K41
namespace K41
open PySem L2
theorem valV_out{κ:Type}[DecidableEq κ]{kvs:List (κ×V)}{k:κ}(h:k∉kvs.map (·.1)):valV kvs k=none:=by
 cases e:valV kvs k with
 | none=>rfl
 | some v=>exact absurd (valV_in e) h
section
variable {κ β:Type} [DecidableEq κ] {F:κ×V->β->Prop} {key:β->κ}
theorem paired_keys(hk:∀kv p,F kv p->kv.1=key p):∀{kvs:List (κ×V)} {ps:List β},Paired F kvs ps->kvs.map (·.1)=ps.map key
 | _,_,.nil=>rfl
 | _,_,.cons r t=>by rw[List.map_cons,List.map_cons,hk _ _ r,paired_keys hk t]
end
structure Txt(K:PySem.W.Frag)(mg:Str->Option Value)(C:Addr):Prop where
 cl:Cls K C
 nN:NoAttr K C "name"
 nM:NoAttr K C "make"
 nR:NoAttr K C "rank"
 nF:NoAttr K C "files"
 nE:NoAttr K C "needs"
 nS:NoAttr K C "shuts"
 nO:NoAttr K C "offers"
 mgC:mg "Parcel" = some (.ref C)
structure Flds(fl:List (Str×V))(nm mk rk:V)(pf pn ps po:Addr):Prop where
 name:fl.lookup ("name":Str)=some nm
 make:fl.lookup ("make":Str)=some mk
 rank:fl.lookup ("rank":Str)=some rk
 files:fl.lookup ("files":Str)=some (.ref pf)
 needs:fl.lookup ("needs":Str)=some (.ref pn)
 shuts:fl.lookup ("shuts":Str)=some (.ref ps)
 offers:fl.lookup ("offers":Str)=some (.ref po)
noncomputable def fl7(nm mk rk:V)(pf pn ps po:Addr):List (Str×V):=putF "offers" (.ref po) (putF "shuts" (.ref ps) (putF "needs" (.ref pn) (putF "files" (.ref pf) (putF "rank" rk (putF "make" mk (putF "name" nm []))))))
theorem flds7(nm mk rk:V)(pf pn ps po:Addr):Flds (fl7 nm mk rk pf pn ps po) nm mk rk pf pn ps po:=by
 unfold fl7
 constructor
 · rw[lookup_putF,if_neg (by decide +kernel),lookup_putF,if_neg (by decide +kernel),lookup_putF,if_neg (by decide +kernel),lookup_putF,if_neg (by decide +kernel),lookup_putF,if_neg (by decide +kernel),lookup_putF,if_neg (by decide +kernel),lookup_putF,if_pos rfl]
 · rw[lookup_putF,if_neg (by decide +kernel),lookup_putF,if_neg (by decide +kernel),lookup_putF,if_neg (by decide +kernel),lookup_putF,if_neg (by decide +kernel),lookup_putF,if_neg (by decide +kernel),lookup_putF,if_pos rfl]
 · rw[lookup_putF,if_neg (by decide +kernel),lookup_putF,if_neg (by decide +kernel),lookup_putF,if_neg (by decide +kernel),lookup_putF,if_neg (by decide +kernel),lookup_putF,if_pos rfl]
 · rw[lookup_putF,if_neg (by decide +kernel),lookup_putF,if_neg (by decide +kernel),lookup_putF,if_neg (by decide +kernel),lookup_putF,if_pos rfl]
 · rw[lookup_putF,if_neg (by decide +kernel),lookup_putF,if_neg (by decide +kernel),lookup_putF,if_pos rfl]
 · rw[lookup_putF,if_neg (by decide +kernel),lookup_putF,if_pos rfl]
 · rw[lookup_putF,if_pos rfl]
section
variable {P:Program} {w:World} {K:PySem.W.Frag} {mg:Str->Option Value} {base:Heap}
structure FilesAt(K:PySem.W.Frag)(H:Hp)(xs:List V)(fs:List (V×List V)):Prop where
 len:xs.length=fs.length
 item:∀(i:Nat) (p:V) (ls:List V),fs[i]? = some (p,ls)->∃t l,xs[i]? = some (.ref t)/\SqT K H t [p,.ref l]/\SqL K H l ls
structure FilesNew(H H':Hp)(D:Addr)(xs:List V)(fs:List (V×List V))(k:Nat):Prop where
 len:xs.length=k
 item:∀(i:Nat) (p:V) (ls:List V),i<k->fs[i]? = some (p,ls)->∃t l,xs[i]? = some (.ref t)/\H t=none/\H l=none/\t≠D/\l≠D/\H' t=some (.tup [p,.ref l])/\H' l=some (.lst ls)
noncomputable def filesComp:Expr:=match (defBody sPIn).getD 3 (.Pass ⟨0,0,0,0⟩) with
 | .Assign _ e _=>e
 | _=>.Constant .none 0 ⟨0,0,0,0⟩
noncomputable def filesScope:Scope:=match filesComp with
 | .ListComp _ _ sc _=>sc
 | _=>{ kind:=.function,names:=[],isGenerator:=false,isCoroutine:=false }
noncomputable def filesElt:Expr:=match filesComp with
 | .ListComp e _ _ _=>e
 | _=>.Constant .none 0 ⟨0,0,0,0⟩
noncomputable def filesTg:Expr:=match filesComp with
 | .ListComp _ [⟨t,_,_,_⟩] _ _=>t
 | _=>.Constant .none 0 ⟨0,0,0,0⟩
noncomputable def filesIter:Expr:=match filesComp with
 | .ListComp _ [⟨_,t,_,_⟩] _ _=>t
 | _=>.Constant .none 0 ⟨0,0,0,0⟩
theorem scFiles(X:Cx):CompScopeF X ["path","lines"] [] [] filesScope:=⟨rfl,by decide +kernel,by decide +kernel,by decide +kernel,by decide +kernel,rfl,rfl,rfl⟩
noncomputable def rListOf(K:PySem.W.Frag):List V->Hp->VK->Prop:=fun xs H Q=>∃p ys,xs = [.ref p]/\(SqL K H p ys\/SqT K H p ys)/\∀l,H l=none->Q (.ref l) (upd H l (.lst ys))
theorem filesG{X:Cx}(hc:X.calm=true)(s₀:Shared)(H₀:Hp)(C₀:Addr)(ex:List Addr):PG (cxCompF X ((["path","lines"]:List Str)++([]:List Str)) filesScope s₀ H₀ C₀ ex) filesTg (gTup X.K 2 (gCons (gName 0) (gCons (gName 1) gNil))):=
 pg_tup (X:=cxCompF X ((["path","lines"]:List Str)++([]:List Str)) filesScope s₀ H₀ C₀ ex) hc (pgs_cons (pg_name (i:=0) (scFiles X).nd rfl (Or.inl rfl)) (pgs_cons (pg_name (i:=1) (scFiles X).nd rfl (Or.inl rfl)) pgs_nil))
theorem filesE{X:Cx}(ti:X.mg "list" = none)(s₀:Shared)(H₀:Hp)(C₀:Addr)(ex:List Addr):PE (cxCompF X ((["path","lines"]:List Str)++([]:List Str)) filesScope s₀ H₀ C₀ ex) filesElt (tTup (tCons (tVar 0) (tCons (tCB (rListOf X.K) (tCons (tVar 1) tNil)) tNil))):=
 pe_tup (X:=cxCompF X ((["path","lines"]:List Str)++([]:List Str)) filesScope s₀ H₀ C₀ ex) (pa_cons (pv 0) (pa_cons (pe_callTy (call_list_of (X:=cxCompF X ((["path","lines"]:List Str)++([]:List Str)) filesScope s₀ H₀ C₀ ex)) (by rfl) ti PyProof.Rows.boot_list (pa_cons (pv 1) pa_nil)) pa_nil))
theorem filesPE{X:Cx}{wi:TI}(hc:X.calm=true)(ti:X.mg "list" = none)(hi:PI X filesTg filesIter wi):PE X filesComp (tCompF wi 2 [] (gTup X.K 2 (gCons (gName 0) (gCons (gName 1) gNil))) tTrue (tTup (tCons (tVar 0) (tCons (tCB (rListOf X.K) (tCons (tVar 1) tNil)) tNil)))):=
 pe_compF ["path","lines"] [] [] (elt:=filesElt) (tg:=filesTg) (iter:=filesIter) (ifs:=[]) (sc:=filesScope) (scFiles X) hc hi (filesG hc) (fun _ _ _ _=>pts_nil) (filesE ti)
theorem scPIn:FnScope ["self","name","make","rank","files","needs","shuts","offers"] ["self","name","make","rank","files","needs","shuts","offers"] (defScope sPIn):=⟨rfl,rfl,rfl,by decide +kernel,rfl,by decide +kernel,by decide +kernel⟩
noncomputable def spPIn(K:PySem.W.Frag)(C:Addr):Sp:=fun vs H Q _=>∃(x dx fa na sa oa:Addr) (nm mk rk:V) (xs ns ss os:List V) (fs:List (V×List V)),vs = [.ref x,nm,mk,rk,.ref fa,.ref na,.ref sa,.ref oa]/\H x=some (.ins C dx []) /\
 SqL K H fa xs/\FilesAt K H xs fs/\SqL K H na ns/\SqL K H sa ss/\SqL K H oa os/\fs.length<=1000 /\
 ∀(fl:List (Str×V)) (pf pn ps po:Addr) (xs':List V) (H':Hp),Flds fl nm mk rk pf pn ps po->H' x=some (.ins C dx fl)->H pf=none->H pn=none->H ps=none->H po=none ->
  H' pf=some (.lst xs')->FilesNew H H' pf xs' fs fs.length->H' pn=some (.lst ns)->H' ps=some (.lst ss)->H' po=some (.lst os)->(∀b o,H b=some o->b≠x->H' b=some o)->Q .non H'
structure Stage(C dx x:Addr)(H Hk:Hp)(fl:List (Str×V)):Prop where
 same:∀b o,H b=some o->b≠x->Hk b=some o
 free:∀b,Hk b=none->H b=none
 ob:Hk x=some (.ins C dx fl)
section
variable {C dx x p a:Addr} {H Hk:Hp} {fl fl':List (Str×V)} {o o':HO} {xs:List V}
theorem Stage.put(S:Stage C dx x H Hk fl):Stage C dx x H (upd Hk x (.ins C dx fl')) fl':=
 ⟨fun b o e hb=>by rw[upd_ne hb];exact S.same b o e hb,fun b e=>S.free b (free_upd e).2,upd_same⟩
theorem Stage.lay(S:Stage C dx x H Hk fl)(hp:Hk p=none):Stage C dx x H (upd Hk p o) fl:=
 ⟨fun b u e hb=>by rw[upd_ne (ne_of_none (S.same b u e hb) hp)];exact S.same b u e hb,fun b e=>S.free b (free_upd e).2,by rw[upd_ne (ne_of_none S.ob hp)];exact S.ob⟩
theorem Stage.sqL(S:Stage C dx x H Hk fl)(hx:H x=some (.ins C dx fl'))(h:SqL K H a xs):SqL K Hk a xs:=by
 rcases h with(h | ⟨o,h⟩) | h
 · exact .inl (.inl (S.same _ _ h (ne_of h hx (by intro z;cases z))))
 · exact .inl (.inr ⟨o,S.same _ _ h (ne_of h hx (by intro z;cases z))⟩)
 · exact .inr h
theorem Stage.sqT(S:Stage C dx x H Hk fl)(hx:H x=some (.ins C dx fl'))(h:SqT K H a xs):SqT K Hk a xs:=by
 rcases h with(h | ⟨o,h⟩) | h
 · exact .inl (.inl (S.same _ _ h (ne_of h hx (by intro z;cases z))))
 · exact .inl (.inr ⟨o,S.same _ _ h (ne_of h hx (by intro z;cases z))⟩)
 · exact .inr h
theorem keep_upd(h:Hk a=some o)(n:a≠p):upd Hk p o' a=some o:=by rw[upd_ne n];exact h
theorem lp{f:Str}{v:V}{n:Nat}(h:fl.length<=n):(putF f v fl).length<=n+1:=Nat.le_trans (length_putF _ _ _) (by omega)
theorem few{n:Nat}(h:fl.length<=n)(h2:n<1000):fl.length<1000:=by omega
theorem len0:([]:List (Str×V)).length<=0:=Nat.le_refl _
end
theorem filesNew_keep{H Hk Hj:Hp}{D:Addr}{xs:List V}{fs:List (V×List V)}{k:Nat}(fn:FilesNew H Hk D xs fs k)(h:∀b o,Hk b=some o->b≠D->H b=none->Hj b=some o):FilesNew H Hj D xs fs k:=by
 refine⟨fn.len,fun i p ls hi hp=>?_⟩
 obtain⟨t,l,e1,e2,e3,e4,e5,e6,e7⟩:=fn.item i p ls hi hp
 exact⟨t,l,e1,e2,e3,e4,e5,h t _ e6 e4 e2,h l _ e7 e5 e3⟩
theorem okPIn{f C:Addr}{fd:FuncData}(F:Fun K "__init__" "Parcel.__init__" sPIn f fd)(T:Txt K mg C)(ti:mg "list" = none) :
 FnOk P w K mg base CX0 1 f fd ["self","name","make","rank","files","needs","shuts","offers"] (spPIn K C):=by
 refine F.ok scPIn (fun vs H Q E h=>?_) (fun cdv A outer s H vs Q E hr h=>?_)
 · obtain⟨x,dx,fa,na,sa,oa,nm,mk,rk,xs,ns,ss,os,fs,rfl,_⟩:=h
   rfl
 · refine letX ?_
   intro xX dX
   obtain⟨x,dx,fa,na,sa,oa,nm,mk,rk,xs,ns,ss,os,fs,rfl,hx,hfa,hfs,hna,hsa,hoa,h1000,k⟩:=h
   refine⟨_,pss_cons (ps_fld (pv 0) (pv 1) rfl) (pss_cons (ps_fld (pv 0) (pv 2) rfl) (pss_cons (ps_fld (pv 0) (pv 3) rfl)
    (pss_cons (ps_fld (pv 0) (filesPE rfl ti (pi_list (pv 4))) rfl)
    (pss_cons (ps_fld (pv 0) (pe_callTy call_list_of (by rfl) ti PyProof.Rows.boot_list (pa_cons (pv 5) pa_nil)) rfl)
    (pss_cons (ps_fld (pv 0) (pe_callTy call_list_of (by rfl) ti PyProof.Rows.boot_list (pa_cons (pv 6) pa_nil)) rfl)
    (pss_one (ps_fld (pv 0) (pe_callTy call_list_of (by rfl) ti PyProof.Rows.boot_list (pa_cons (pv 7) pa_nil)) rfl))))))),?_⟩
   refine lets7 ?_
   intro dD sS uU7 uU6 uU5 uU4 uU3 uU2
   have S0:Stage C dx x H H []:=⟨fun _ _ e _=>e,fun _ e=>e,hx⟩
   refine⟨_,rfl,_,rfl,x,C,dx,_,rfl,S0.ob,T.cl,T.nN,few len0 (by decide),?_⟩
   have S1:Stage C dx x H _ (putF "name" nm []):=S0.put
   refine⟨_,rfl,_,rfl,x,C,dx,_,rfl,S1.ob,T.cl,T.nM,few (lp len0) (by decide),?_⟩
   have S2:Stage C dx x H _ (putF "make" mk (putF "name" nm [])):=S1.put
   refine⟨_,rfl,_,rfl,x,C,dx,_,rfl,S2.ob,T.cl,T.nR,few (lp (lp len0)) (by decide),?_⟩
   have S3:Stage C dx x H _ (putF "rank" rk (putF "make" mk (putF "name" nm []))):=S2.put
   generalize upd (upd (upd H x (.ins C dx (putF "name" nm []))) x (.ins C dx (putF "make" mk (putF "name" nm [])))) x (.ins C dx (putF "rank" rk (putF "make" mk (putF "name" nm []))))=H1 at S3 ⊢
   refine⟨_,rfl,fa,rfl,⟨xs,S3.sqL hx hfa⟩,fun D hD=>?_⟩
   refine⟨fun i m σ H2=>m=xs.length - i/\i<=xs.length/\∃(u v:Option V) (ys:List V),σ = [u,v]/\H2 D=some (.lst ys)/\Same H1 H2/\FilesNew H H2 D ys fs i,⟨xs.length,by simp,Nat.zero_le _,none,none,[],rfl,upd_same,same_upd hD,rfl,fun i p ls hi=>absurd hi (Nat.not_lt_zero _)⟩,?_⟩
   intro i m σ H2 hQ1
   refine letG ?_
   intro tT
   obtain⟨rfl,hi,u,v,ys,rfl,hys,s2,fn⟩:=hQ1
   first | (refine lets12 ?_;intros) | (refine lets11 ?_;intros) | (refine lets10 ?_;intros) | (refine lets9 ?_;intros) | (refine lets8 ?_;intros) | (refine lets7 ?_;intros) | (refine lets6 ?_;intros) | (refine lets5 ?_;intros) | (refine lets4 ?_;intros) | (refine lets3 ?_;intros) | (refine lets2 ?_;intros) | (refine letB (g:=gName _) ?_;intros) | (refine letB (g:=gTup _ _ _) ?_;intros) | skip
   have fa2:SqL K H2 fa xs:=s2.seq (S3.sqL hx hfa)
   by_cases hlt:i<xs.length
   · refine .inr ⟨⟨xs,xs[i],fa2,by simp[hlt]⟩,fun z H3 y=>?_⟩
     obtain⟨e,y⟩:=y
     subst e
     have ez:=y xs fa2
     have hif:i<fs.length:=by rw[←hfs.len];exact hlt
     obtain⟨⟨p,ls⟩,hpl⟩:∃q,fs[i]? = some q:=⟨fs[i],by simp[hif]⟩
     obtain⟨t,l,e1,e2,e3⟩:=hfs.item i p ls hpl
     rw[ez]at e1
     cases e1
     have t2:=same_sqT s2 (S3.sqT hx e2)
     have l2:=s2.seq (S3.sqL hx e3)
     refine⟨t,_,rfl,t2,rfl,_,_,rfl,_,_,rfl,rfl,?_⟩
     refine⟨_,rfl,_,rfl,l,_,rfl,.inl l2,fun l' hl'=>⟨(by show 2<=sizeLine;decide),fun t' ht'=>?_⟩⟩
     obtain⟨n1,n2⟩:=free_upd ht'
     have dl:D≠l':=ne_of_none hys hl'
     have dt:D≠t':=ne_of_none hys n2
     refine⟨ys,keep_upd (keep_upd hys dl) dt,small1000 (by rw[fn.len];omega),xs.length - (i+1),by omega,rfl,hlt,_,_,ys++[.ref t'],rfl,upd_same,?_,⟨by rw[List.length_append,fn.len];rfl,fun j p' ls' hj hp'=>?_⟩⟩
     · exact same_upd' (same_upd' (same_upd' s2 (s2.free hl')) (s2.free n2)) hD
     · by_cases hji:j=i
       · subst hji
         rw[hpl]at hp'
         cases hp'
         refine⟨t',l',by rw[List.getElem?_append_right (by rw[fn.len];omega),fn.len];simp,S3.free _ (s2.free n2),S3.free _ (s2.free hl'),dt.symm,dl.symm,keep_upd upd_same dt.symm,keep_upd (keep_upd upd_same n1.symm) dl.symm⟩
       · have hj':j<i:=by omega
         obtain⟨t0,l0,g1,g2,g3,g4,g5,g6,g7⟩:=fn.item j p' ls' hj' hp'
         exact⟨t0,l0,by rw[List.getElem?_append_left (by rw[fn.len];exact hj')];exact g1,g2,g3,g4,g5,keep_upd (keep_upd (keep_upd g6 (ne_of_none g6 hl')) (ne_of_none g6 n2)) g4,keep_upd (keep_upd (keep_upd g7 (ne_of_none g7 hl')) (ne_of_none g7 n2)) g5⟩
   · have ei:i=xs.length:=by omega
     subst ei
     refine .inl ⟨⟨xs,fa2,Nat.le_refl _⟩,?_⟩
     have S4:Stage C dx x H H2 (putF "rank" rk (putF "make" mk (putF "name" nm []))):=⟨fun b o e hb=>s2 b o (S3.same b o e hb),fun b e=>S3.free b (s2.free e),s2 _ _ S3.ob⟩
     have dx1:D≠x:=ne_of hys S4.ob (by intro z;cases z)
     have hD0:H D=none:=S3.free _ hD
     refine⟨_,rfl,x,C,dx,_,rfl,S4.ob,T.cl,T.nF,few (lp (lp (lp len0))) (by decide),?_⟩
     have S5:Stage C dx x H _ (putF "files" (.ref D) (putF "rank" rk (putF "make" mk (putF "name" nm [])))):=S4.put
     refine⟨_,rfl,na,_,rfl,.inl (S5.sqL hx hna),fun pn hpn=>?_⟩
     have S6:=S5.lay (o:=.lst ns) hpn
     have xpn:pn≠x:=(ne_of_none S5.ob hpn).symm
     refine⟨_,rfl,x,C,dx,_,rfl,S6.ob,T.cl,T.nE,few (lp (lp (lp (lp len0)))) (by decide),?_⟩
     have S7:Stage C dx x H _ (putF "needs" (.ref pn) (putF "files" (.ref D) (putF "rank" rk (putF "make" mk (putF "name" nm []))))):=S6.put
     refine⟨_,rfl,sa,_,rfl,.inl (S7.sqL hx hsa),fun ps hps=>?_⟩
     have S8:=S7.lay (o:=.lst ss) hps
     have xps:ps≠x:=(ne_of_none S7.ob hps).symm
     refine⟨_,rfl,x,C,dx,_,rfl,S8.ob,T.cl,T.nS,few (lp (lp (lp (lp (lp len0))))) (by decide),?_⟩
     have S9:Stage C dx x H _ (putF "shuts" (.ref ps) (putF "needs" (.ref pn) (putF "files" (.ref D) (putF "rank" rk (putF "make" mk (putF "name" nm [])))))):=S8.put
     refine⟨_,rfl,oa,_,rfl,.inl (S9.sqL hx hoa),fun po hpo=>?_⟩
     have S10:=S9.lay (o:=.lst os) hpo
     have xpo:po≠x:=(ne_of_none S9.ob hpo).symm
     refine⟨_,rfl,x,C,dx,_,rfl,S10.ob,T.cl,T.nO,few (lp (lp (lp (lp (lp (lp len0)))))) (by decide),?_⟩
     have S11:Stage C dx x H _ (fl7 nm mk rk D pn ps po):=S10.put
     have k5:∀b o,H2 b=some o->b≠x->(upd H2 x (.ins C dx (putF "files" (.ref D) (putF "rank" rk (putF "make" mk (putF "name" nm [])))))) b=some o:=fun b o e hb=>keep_upd e hb
     have kp:=fun b o (e:H2 b=some o) (hb:b≠x)=>keep_upd (p:=x) (o':=.ins C dx (putF "needs" (.ref pn) (putF "files" (.ref D) (putF "rank" rk (putF "make" mk (putF "name" nm [])))))) (keep_upd (p:=pn) (o':=.lst ns) (k5 b o e hb) (ne_of_none (k5 b o e hb) hpn)) hb
     have kq:=fun b o (e:H2 b=some o) (hb:b≠x)=>keep_upd (p:=x) (o':=.ins C dx (putF "shuts" (.ref ps) (putF "needs" (.ref pn) (putF "files" (.ref D) (putF "rank" rk (putF "make" mk (putF "name" nm []))))))) (keep_upd (p:=ps) (o':=.lst ss) (kp b o e hb) (ne_of_none (kp b o e hb) hps)) hb
     have kr:=fun b o (e:H2 b=some o) (hb:b≠x)=>keep_upd (p:=x) (o':=.ins C dx (fl7 nm mk rk D pn ps po)) (keep_upd (p:=po) (o':=.lst os) (kq b o e hb) (ne_of_none (kq b o e hb) hpo)) hb
     have pn1:(upd (upd (upd H2 x (.ins C dx (putF "files" (.ref D) (putF "rank" rk (putF "make" mk (putF "name" nm [])))))) pn (.lst ns)) x (.ins C dx (putF "needs" (.ref pn) (putF "files" (.ref D) (putF "rank" rk (putF "make" mk (putF "name" nm []))))))) pn=some (.lst ns):=keep_upd upd_same xpn
     have pn2:=keep_upd (p:=x) (o':=.ins C dx (putF "shuts" (.ref ps) (putF "needs" (.ref pn) (putF "files" (.ref D) (putF "rank" rk (putF "make" mk (putF "name" nm []))))))) (keep_upd (p:=ps) (o':=.lst ss) pn1 (ne_of_none pn1 hps)) xpn
     have pn3:=keep_upd (p:=x) (o':=.ins C dx (fl7 nm mk rk D pn ps po)) (keep_upd (p:=po) (o':=.lst os) pn2 (ne_of_none pn2 hpo)) xpn
     have ps1:=keep_upd (p:=x) (o':=.ins C dx (putF "shuts" (.ref ps) (putF "needs" (.ref pn) (putF "files" (.ref D) (putF "rank" rk (putF "make" mk (putF "name" nm []))))))) (upd_same (H:=upd (upd (upd H2 x (.ins C dx (putF "files" (.ref D) (putF "rank" rk (putF "make" mk (putF "name" nm [])))))) pn (.lst ns)) x (.ins C dx (putF "needs" (.ref pn) (putF "files" (.ref D) (putF "rank" rk (putF "make" mk (putF "name" nm []))))))) (a:=ps) (o:=.lst ss)) xps
     have ps2:=keep_upd (p:=x) (o':=.ins C dx (fl7 nm mk rk D pn ps po)) (keep_upd (p:=po) (o':=.lst os) ps1 (ne_of_none ps1 hpo)) xps
     refine k (fl7 nm mk rk D pn ps po) D pn ps po ys _ (flds7 nm mk rk D pn ps po) S11.ob hD0 (S5.free _ hpn) (S7.free _ hps) (S9.free _ hpo) (kr D _ hys dx1) ?_ pn3 ps2 (keep_upd upd_same xpo) S11.same
     rw[hfs.len]at fn
     exact filesNew_keep fn fun b o e hb hn=>kr b o e fun z=>by rw[z,hx]at hn;cases hn
end
noncomputable def FileH(H:Hp)(v:V)(f:Str×List Str):Prop:=∃t l,v = .ref t/\H t=some (.tup [.str f.1,.ref l])/\H l=some (.lst (f.2.map V.str))
noncomputable def ClmsH(H:Hp)(a:Addr)(cs:List Clm):Prop:=∃ys,H a=some (.lst ys)/\Paired (ClmH H) ys cs
noncomputable def PclAt(C:Addr)(H:Hp)(v:V)(p:Pcl):Prop:=∃a dx fl rk m pf pn ps po xs,v = .ref a/\H a=some (.ins C dx fl)/\Flds fl (.str p.nm) (.ref m) rk pf pn ps po/\H m=some (.tup (p.ms.map V.int)) /\
 H pf=some (.lst xs)/\Paired (FileH H) xs p.fs/\H po=some (.lst (p.os.map V.str))/\rk = .int p.rk/\ClmsH H pn p.ns/\ClmsH H ps p.ss
theorem ClmsH.same{H H':Hp}{a:Addr}{cs:List Clm}(s:Same H H')(h:ClmsH H a cs):ClmsH H' a cs:=by
 obtain⟨ys,h1,h2⟩:=h
 exact⟨ys,s _ _ h1,paired_mapP h2 fun _ _=>ClmH.same s⟩
theorem FileH.same{H H':Hp}{v:V}{f:Str×List Str}(s:Same H H')(h:FileH H v f):FileH H' v f:=by
 obtain⟨t,l,e,a,b⟩:=h
 exact⟨t,l,e,s _ _ a,s _ _ b⟩
theorem PclAt.same{C:Addr}{H H':Hp}{v:V}{p:Pcl}(s:Same H H')(h:PclAt C H v p):PclAt C H' v p:=by
 obtain⟨a,dx,fl,rk,m,pf,pn,ps,po,xs,e,h1,h2,h3,h4,h5,h6⟩:=h
 exact⟨a,dx,fl,rk,m,pf,pn,ps,po,xs,e,s _ _ h1,h2,s _ _ h3,s _ _ h4,paired_mapP h5 (fun _ _=>FileH.same s),s _ _ h6.1,h6.2.1,h6.2.2.1.same s,h6.2.2.2.same s⟩
noncomputable abbrev PclsAt (C:Addr) (H:Hp):List V->List Pcl->Prop:=Paired (PclAt C H)
theorem PclsAt.same{C:Addr}{H H':Hp}{vs:List V}{ps:List Pcl}(s:Same H H')(h:PclsAt C H vs ps):PclsAt C H' vs ps:=paired_mapP h fun _ _=>PclAt.same s
noncomputable def msk(L:List Addr)(H:Hp):Hp:=fun b=>if b∈L then none else H b
theorem msk_same{L:List Addr}{H:Hp}:Same (msk L H) H:=fun b o e=>by
 unfold msk at e
 split at e
 · cases e
 · exact e
theorem msk_mono{L:List Addr}{H H':Hp}(s:Same H H'):Same (msk L H) (msk L H'):=fun b o e=>by
 unfold msk at e ⊢
 split at e
 · cases e
 · rw[if_neg ‹_›];exact s _ _ e
theorem msk_upd{L:List Addr}{H:Hp}{p:Addr}{o:HO}(h:p∈L):msk L (upd H p o)=msk L H:=by
 funext b
 unfold msk
 split
 · rfl
 · have hb:¬b∈L:=‹_›
   rw[upd_ne (fun z=>hb (by rw[z];exact h))]
theorem msk_at{L:List Addr}{H:Hp}{b:Addr}{o:HO}(n:b∉L)(h:H b=some o):msk L H b=some o:=by
 unfold msk
 rw[if_neg n]
 exact h
noncomputable def Busy(H:Hp)(L:List Addr):Prop:=∀b∈L,∃o,H b=some o/\∀vs,o≠.tup vs
theorem Busy.free{H:Hp}{L:List Addr}(h:Busy H L){b:Addr}(n:H b=none):b∉L:=fun z=>by
 obtain⟨o,e,_⟩:=h b z
 rw[n]at e
 cases e
theorem Busy.tup{H:Hp}{L:List Addr}(h:Busy H L){b:Addr}{vs:List V}(n:H b=some (.tup vs)):b∉L:=fun z=>by
 obtain⟨o,e,q⟩:=h b z
 rw[n]at e
 cases e
 exact q _ rfl
theorem paired_get{α β:Type}{F:α->β->Prop}:∀{xs:List α} {ys:List β},Paired F xs ys->∀{i:Nat} {y:β},ys[i]? = some y->∃x,xs[i]? = some x/\F x y
 | _,_,.nil,i,y,h=>by cases h
 | _,_,.cons r t,0,y,h=>by cases h;exact⟨_,rfl,r⟩
 | _,_,.cons r t,i+1,y,h=>paired_get t (i:=i) h
theorem paired_get'{α β:Type}{F:α->β->Prop}:∀{xs:List α} {ys:List β},Paired F xs ys->∀{i:Nat} {x:α},xs[i]? = some x->∃y,ys[i]? = some y/\F x y
 | _,_,.nil,i,y,h=>by cases h
 | _,_,.cons r t,0,y,h=>by cases h;exact⟨_,rfl,r⟩
 | _,_,.cons r t,i+1,y,h=>paired_get' t (i:=i) h
theorem paired_len{α β:Type}{F:α->β->Prop}:∀{xs:List α} {ys:List β},Paired F xs ys->xs.length=ys.length
 | _,_,.nil=>rfl
 | _,_,.cons _ t=>congrArg (· + 1) (paired_len t)
theorem paired_snoc{α β:Type}{F:α->β->Prop}{x:α}{y:β}(h:F x y):∀{xs:List α} {ys:List β},Paired F xs ys->Paired F (xs++[x]) (ys++[y])
 | _,_,.nil=>.cons h .nil
 | _,_,.cons r t=>.cons r (paired_snoc h t)
theorem paired_of{α β:Type}{F:α->β->Prop}:∀{xs:List α} {ys:List β},xs.length=ys.length->(∀(i:Nat) (y:β),ys[i]? = some y->∃x,xs[i]? = some x/\F x y)->Paired F xs ys
 | [],[],_,_=>.nil
 | [],_::_,h,_=>nomatch h
 | _::_,[],h,_=>nomatch h
 | x::xs,y::ys,h,k=>by
  obtain⟨x',e,r⟩:=k 0 y rfl
  cases e
  exact .cons r (paired_of (Nat.succ.inj h) fun i z hz=>k (i+1) z hz)
noncomputable def fsV(fs:List (Str×List Str)):List (V×List V):=fs.map fun f=>(.str f.1,f.2.map V.str)
section
variable {P:Program} {w:World} {K:PySem.W.Frag} {mg:Str->Option Value} {base:Heap}
theorem filesAt_of{H:Hp}{xs:List V}{fs:List (Str×List Str)}(h:Paired (FileH H) xs fs):FilesAt K H xs (fsV fs):=by
 refine⟨by rw[fsV,List.length_map];exact paired_len h,fun i p ls e=>?_⟩
 rw[fsV,List.getElem?_map]at e
 cases hf:fs[i]? with
 | none=>rw[hf]at e;cases e
 | some f=>
  rw[hf]at e
  cases e
  obtain⟨x,hx,t,l,rfl,a,b⟩:=paired_get h hf
  exact⟨t,l,hx,SqT.of a,SqL.of b⟩
theorem BelH.msk{H H':Hp}{L:List Addr}(hL:Busy H L)(s:Same H H'){b:V}{o:Option (List Int)}(h:BelH H b o):BelH (msk L H') b o:=by
 cases o with
 | none=>exact h
 | some bs=>
  obtain⟨a,e1,e2⟩:=h
  exact⟨a,e1,msk_at (hL.tup e2) (s _ _ e2)⟩
theorem ClmH.msk{H H':Hp}{L:List Addr}(hL:Busy H L)(s:Same H H'){v:V}{c:Clm}(h:ClmH H v c):ClmH (msk L H') v c:=by
 obtain⟨t,l,b,e,h1,h2,h3⟩:=h
 exact⟨t,l,b,e,msk_at (hL.tup h1) (s _ _ h1),msk_at (hL.tup h2) (s _ _ h2),h3.msk hL s⟩
theorem make_pcl{C:Addr}{H:Hp}{Q:VK}{E:XK}{m fa na sa oa:Addr}{p:Pcl}{xs ns ss:List V}(hm:H m=some (.tup (p.ms.map V.int)))(hf:H fa=some (.lst xs))(hfs:Paired (FileH H) xs p.fs)
 (hn:H na=some (.lst ns)) (hns:Paired (ClmH H) ns p.ns) (hs:H sa=some (.lst ss)) (hss:Paired (ClmH H) ss p.ss) (ho:H oa=some (.lst (p.os.map V.str))) (h1000:p.fs.length<=1000) (q:∀x H',H x=none->Same H H'->(∀L,Busy H L->PclAt C (msk L H') (.ref x) p)->Q (.ref x) H') :
 ∀x dx,H x=none->H dx=none->dx≠x->spPIn K C (.ref x::([.str p.nm,.ref m,.int p.rk,.ref fa,.ref na,.ref sa,.ref oa]++[])) (upd (upd H dx (.own x)) x (.ins C dx [])) (fun v H2=>v = .non/\Q (.ref x) H2) E:=by
 intro x dx hx hdx nx
 have s1:Same H (upd (upd H dx (.own x)) x (.ins C dx [])):=same_upd' (same_upd hdx) hx
 have lfs:(fsV p.fs).length=p.fs.length:=by rw[fsV,List.length_map]
 refine⟨x,dx,fa,na,sa,oa,.str p.nm,.ref m,.int p.rk,xs,ns,ss,p.os.map V.str,fsV p.fs,rfl,upd_same,SqL.of (s1 _ _ hf),?_,SqL.of (s1 _ _ hn),SqL.of (s1 _ _ hs),SqL.of (s1 _ _ ho),by rw[lfs];exact h1000,?_⟩
 · exact filesAt_of (paired_mapP hfs fun _ _=>FileH.same s1)
 intro fl pf pn ps po xs' H' hF hob n1 n2 n3 n4 hpf hfn hpn hps hpo keep
 have s2:Same H H':=fun b o e=>keep b o (s1 _ _ e) (ne_of_none e hx)
 have fr:∀b,(upd (upd H dx (.own x)) x (.ins C dx [])) b=none->H b=none:=fun b z=>s1.free z
 refine⟨rfl,q x H' hx s2 fun L hL=>⟨x,dx,fl,.int p.rk,m,pf,pn,ps,po,xs',rfl,msk_at (hL.free hx) hob,hF,msk_at (hL.tup hm) (s2 _ _ hm),msk_at (hL.free (fr _ n1)) hpf,?_,msk_at (hL.free (fr _ n4)) hpo,rfl,
  ⟨ns,msk_at (hL.free (fr _ n2)) hpn,paired_mapP hns fun _ _=>ClmH.msk hL s2⟩,⟨ss,msk_at (hL.free (fr _ n3)) hps,paired_mapP hss fun _ _=>ClmH.msk hL s2⟩⟩⟩
 refine paired_of (by rw[hfn.len,lfs]) fun i f hi=>?_
 obtain⟨t,l,e1,e2,e3,e4,e5,e6,e7⟩:=hfn.item i (.str f.1) (f.2.map V.str) (by rw[lfs];exact(List.getElem?_eq_some_iff.mp hi).1) (by rw[fsV,List.getElem?_map,hi];rfl)
 exact⟨_,e1,t,l,rfl,msk_at (hL.free (fr _ e2)) e6,msk_at (hL.free (fr _ e3)) e7⟩
structure TxtS(K:PySem.W.Frag)(mg:Str->Option Value)(S fN fM fP:Addr):Prop where
 cl:Cls K S
 nS:NoAttr K S "shelved"
 mN:Meth K S "names" fN
 mM:Meth K S "makes_of" fM
 mP:Meth K S "parcel" fP
 mgC:mg "Shelf" = some (.ref S)
noncomputable def keyOf(p:Pcl):List NI:=[.inl (.inr p.nm),.inr (p.ms.map Sum.inl)]
theorem nat_key{H:Hp}{b m:Addr}{nm:Str}{mk:List Int}(hb:H b=some (.tup [.str nm,.ref m]))(hm:H m=some (.tup (mk.map V.int))):NAt H [.inl (.inr nm),.inr (mk.map Sum.inl)] b:=
 ⟨_,hb,.cons rfl (.cons ⟨m,rfl,by rw[hm,List.map_map];rfl⟩ .nil)⟩
noncomputable def Shelved(kvs:List (List NI×V))(vs:List V)(ps:List Pcl)(i:Nat):Prop:=kvs.length<=i/\(∀(j:Nat) (p:Pcl) (v:V),j<i->ps[j]? = some p->vs[j]? = some v->valV kvs (keyOf p)=some v)/\Paired (fun(kv:List NI×V) (p:Pcl)=>kv.1=keyOf p) kvs (ps.take i)
noncomputable def ShelfAt(S:Addr)(H:Hp)(v:V)(vs:List V)(ps:List Pcl):Prop:=∃a dx fl d kvs,v = .ref a/\H a=some (.ins S dx fl)/\fl.lookup ("shelved":Str)=some (.ref d)/\fl.lookup ("parcel":Str)=none/\fl.lookup ("names":Str)=none/\fl.lookup ("makes_of":Str)=none/\H d=some (.dT kvs)/\Shelved kvs vs ps ps.length
theorem ShelfAt.same{S:Addr}{H H':Hp}{v:V}{vs:List V}{ps:List Pcl}(s:Same H H')(h:ShelfAt S H v vs ps):ShelfAt S H' v vs ps:=by
 obtain⟨a,dx,fl,d,kvs,e,h1,h2,h3,h3a,h3b,h4,h5⟩:=h
 exact⟨a,dx,fl,d,kvs,e,s _ _ h1,h2,h3,h3a,h3b,s _ _ h4,h5⟩
noncomputable def spSIn(K:PySem.W.Frag)(C S:Addr):Sp:=fun vs H Q _=>∃(x dx a:Addr) (xs:List V) (ps:List Pcl),vs = [.ref x,.ref a]/\H x=some (.ins S dx [])/\H a=some (.lst xs)/\PclsAt C H xs ps/\ps.length<=100/\(ps.map keyOf).Nodup /\
 ∀H',(∀b o,H b=some o->b≠x->H' b=some o)->ShelfAt S H' (.ref x) xs ps->Q .non H'
theorem scSIn:FnScope ["self","parcels","parcel"] ["self","parcels"] (defScope sSIn):=⟨rfl,rfl,rfl,by decide +kernel,rfl,by decide +kernel,by decide +kernel⟩
theorem okSIn{f C S fN fM fP:Addr}{fd:FuncData}(F:Fun K "__init__" "Shelf.__init__" sSIn f fd)(T:Txt K mg C)(U:TxtS K mg S fN fM fP):FnOk P w K mg base CX0 1 f fd ["self","parcels"] (spSIn K C S):=by
 refine F.ok scSIn (fun vs H Q E h=>?_) (fun cdv A outer s H vs Q E hr h=>?_)
 · obtain⟨x,dx,a,xs,ps,rfl,_⟩:=h
   rfl
 · refine letX ?_
   intro xX dX
   obtain⟨x,dx,a,xs,ps,rfl,hx,ha,hps,h100,hnd,q⟩:=h
   have hu:=hr.units
   refine⟨_,(pss_cons (ps_fld (pv 0) pe_dnewTN rfl)
    (pss_one (ps_for PassesOwn.never rfl (pi_list (pv 1)) (pg_name (i:=2) scSIn.nd rfl (Or.inl rfl))
    (pss_one (ps_dput hu (pe_fld (pv 0) rfl) (pe_tupN (pa_cons (pe_fld (pv 2) rfl) (pa_cons (pe_fld (pv 2) rfl) pa_nil))) (pv 2) rfl))))),?_⟩
   refine lets2 ?_
   intro dD sS uU2
   refine fun d H1 n1 s1 e1=>?_
   refine⟨_,rfl,x,S,dx,_,rfl,s1 _ _ hx,U.cl,U.nS,(by decide),?_⟩
   have dx1:d≠x:=(ne_of_none hx n1).symm
   have ax:a≠x:=ne_of ha hx (by intro z;cases z)
   have nl:=paired_len hps
   refine⟨_,rfl,a,rfl,⟨_,SqL.of (by rw[upd_ne ax];exact s1 _ _ ha)⟩,?_⟩
   refine for_list (xs:=xs) (fun i σ H2=>∃u kvs,σ = [some (.ref x),some (.ref a),u]/\(∀b o,H b=some o->b≠x->H2 b=some o)/\H2 x=some (.ins S dx (putF "shelved" (.ref d) []))/\H2 d=some (.dT kvs)/\Shelved kvs xs ps i)
    ⟨none,[],rfl,fun b o e hb=>by rw[upd_ne hb];exact s1 _ _ e,upd_same,by rw[upd_ne dx1];exact e1,Nat.le_refl _,fun j p v hj=>absurd hj (Nat.not_lt_zero _),.nil⟩ ?_ ?_ ?_
   · intro i σ H2 hi hQ2
     refine letG ?_
     intro tT
     obtain⟨u,kvs,rfl,k2,_⟩:=hQ2
     exact SqL.of (k2 _ _ ha ax)
   · intro i v σ H2 hv hQ3
     refine letG ?_
     intro tT
     obtain⟨u,kvs,rfl,k2,hx2,hd2,hk⟩:=hQ3
     first | (refine lets12 ?_;intros) | (refine lets11 ?_;intros) | (refine lets10 ?_;intros) | (refine lets9 ?_;intros) | (refine lets8 ?_;intros) | (refine lets7 ?_;intros) | (refine lets6 ?_;intros) | (refine lets5 ?_;intros) | (refine lets4 ?_;intros) | (refine lets3 ?_;intros) | (refine lets2 ?_;intros) | (refine letB (g:=gName _) ?_;intros) | (refine letB (g:=gTup _ _ _) ?_;intros) | skip
     obtain⟨p,hp,b,dy,fl,rk,m,pf,pn,pss,po,ys,rfl,h1,h2,h3,h4,h5,h6⟩:=paired_get' hps hv
     have bx:b≠x:=ne_of h1 hx (by intro z;injection z with _ _ z;subst z;have:=h2.name;cases this)
     have b2:=k2 _ _ h1 bx
     have m2:=k2 _ _ h3 (ne_of h3 hx (by intro z;cases z))
     have hlk:(putF ("shelved":Str) (V.ref d) []).lookup ("shelved":Str)=some (.ref d):=by rw[lookup_putF,if_pos rfl]
     refine⟨_,rfl,_,rfl,x,S,dx,_,_,rfl,hx2,U.cl,U.nS,hlk,_,rfl,b,C,dy,_,_,rfl,b2,T.cl,T.nN,h2.name,_,rfl,b,C,dy,_,_,rfl,b2,T.cl,T.nM,h2.make,(by show 2<=sizeLine;decide),fun t H3 n3 s3 e3=>?_⟩
     have hlt:=(List.getElem?_eq_some_iff.mp hv).1
     refine⟨d,_,rfl,DPut.t (s3 _ _ hd2) (nat_key e3 (s3 _ _ m2)) (small1000 (by have:=hk.1;omega)),?_⟩
     refine⟨_,_,rfl,fun c o e hc=>?_,?_,upd_same,?_,fun j p' v' hj hp' hv'=>?_,?_⟩
     · rw[upd_ne (fun z=>by rw[z,n1]at e;cases e)]
       exact s3 _ _ (k2 _ _ e hc)
     · rw[upd_ne dx1.symm]
       exact s3 _ _ hx2
     · exact Nat.le_trans (length_putK _ _ _) (Nat.succ_le_succ hk.1)
     · rw[valV_put]
       by_cases hji:j=i
       · subst hji
         rw[hp]at hp'
         rw[hv]at hv'
         cases hp'
         cases hv'
         exact if_pos rfl
       · have hj':j<i:=by omega
         rw[if_neg]
         · exact hk.2.1 j p' v' hj' hp' hv'
         · intro z
           have z:keyOf p'=keyOf p:=z
           refine hji ((List.getElem?_inj (l:=ps.map keyOf) (i:=j) (j:=i) ?_ hnd).mp ?_)
           · rw[List.length_map];have:=(List.getElem?_eq_some_iff.mp hp').1;omega
           · rw[List.getElem?_map,List.getElem?_map,hp,hp',Option.map_some,Option.map_some,z]
     · have hnew:valV kvs (keyOf p)=none:=by
        refine valV_out ?_
        rw[paired_keys (key:=keyOf) (fun _ _ z=>z) hk.2.2]
        intro hm
        obtain⟨p',hp',e'⟩:=List.mem_map.mp hm
        obtain⟨j,hj⟩:=List.getElem?_of_mem hp'
        rw[List.getElem?_take]at hj
        split at hj
        · have hij:j=i:=(List.getElem?_inj (l:=ps.map keyOf) (by rw[List.length_map];exact(List.getElem?_eq_some_iff.mp hj).1) hnd).mp (by rw[List.getElem?_map,List.getElem?_map,hj,hp,Option.map_some,Option.map_some,e'])
          omega
        · cases hj
       show Paired _ (putK kvs (keyOf p) (.ref b)) (ps.take (i+1))
       rw[putK_new _ hnew,List.take_add_one,hp]
       refine paired_snoc ?_ hk.2.2
       rfl
   · intro σ H2 hQ4
     refine letG ?_
     intro tT
     obtain⟨u,kvs,rfl,k2,hx2,hd2,hk⟩:=hQ4
     first | (refine lets12 ?_;intros) | (refine lets11 ?_;intros) | (refine lets10 ?_;intros) | (refine lets9 ?_;intros) | (refine lets8 ?_;intros) | (refine lets7 ?_;intros) | (refine lets6 ?_;intros) | (refine lets5 ?_;intros) | (refine lets4 ?_;intros) | (refine lets3 ?_;intros) | (refine lets2 ?_;intros) | (refine letB (g:=gName _) ?_;intros) | (refine letB (g:=gTup _ _ _) ?_;intros) | skip
     rw[nl]at hk
     exact q H2 k2 ⟨x,dx,_,d,kvs,rfl,hx2,by rw[lookup_putF,if_pos rfl],by rw[lookup_putF,if_neg (by decide +kernel)];rfl,by rw[lookup_putF,if_neg (by decide +kernel)];rfl,by rw[lookup_putF,if_neg (by decide +kernel)];rfl,hd2,hk⟩
noncomputable def spSPa(K:PySem.W.Frag)(S:Addr):Sp:=fun vs H Q _=>∃(sv v:V) (m:Addr) (xs:List V) (ps:List Pcl) (j:Nat) (p:Pcl),vs = [sv,.str p.nm,.ref m]/\ShelfAt S H sv xs ps/\ps[j]? = some p/\xs[j]? = some v/\H m=some (.tup (p.ms.map V.int))/\∀H',Same H H'->Q v H'
theorem scSPa:FnScope ["self","name","make"] ["self","name","make"] (defScope sSPa):=⟨rfl,rfl,rfl,by decide +kernel,rfl,by decide +kernel,by decide +kernel⟩
theorem okSPa{f S fN fM fP:Addr}{fd:FuncData}(F:Fun K "parcel" "Shelf.parcel" sSPa f fd)(U:TxtS K mg S fN fM fP):FnOk P w K mg base CX0 1 f fd ["self","name","make"] (spSPa K S):=by
 refine F.ok scSPa (fun vs H Q E h=>?_) (fun cdv A outer s H vs Q E hr h=>?_)
 · obtain⟨sv,v,m,xs,ps,j,p,rfl,_⟩:=h
   rfl
 · refine letX ?_
   intro xX dX
   obtain⟨sv,v,m,xs,ps,j,p,rfl,⟨a,dx,fl,d,kvs,rfl,h1,h2,h3,_,_,h4,h5⟩,hp,hv,hm,q⟩:=h
   have hu:=hr.units
   have hval:=h5.2.1 j p v (List.getElem?_eq_some_iff.mp hp).1 hp hv
   refine⟨_,(pss_cons (ps_if (pt_cmp (pc_dnotin hu (pe_tupN (pa_cons (pv 1) (pa_cons (pv 2) pa_nil))) (pe_fld (pv 0) rfl)) (by rfl))
    (pss_one ps_never) pss_nil)
    (pss_one (ps_ret (pe_dget hu (pe_fld (pv 0) rfl) (pe_tupN (pa_cons (pv 1) (pa_cons (pv 2) pa_nil))) (fun _ _=>rfl))))),?_⟩
   refine lets2 ?_
   intro dD sS uU2
   refine⟨_,rfl,_,rfl,(by show 2<=sizeLine;decide),fun t H1 n1 s1 e1=>?_⟩
   have g1:DGet H1 d (.ref t) (valV kvs (keyOf p)):=DGet.t (s1 _ _ h4) (nat_key e1 (s1 _ _ hm))
   refine⟨_,rfl,a,S,dx,_,_,rfl,s1 _ _ h1,U.cl,U.nS,h2,d,_,rfl,g1,_,rfl,?_⟩
   rw[hval]
   refine ite2 (fun h=>absurd h (by show ¬((!true)=true);decide)) (fun h=>?_)
   refine⟨_,rfl,a,S,dx,_,_,rfl,s1 _ _ h1,U.cl,U.nS,h2,_,rfl,_,rfl,(by show 2<=sizeLine;decide),fun t2 H2 n2 s2 e2=>?_⟩
   have s12:=s1.trans s2
   have g2:DGet H2 d (.ref t2) (valV kvs (keyOf p)):=DGet.t (s12 _ _ h4) (nat_key e2 (s12 _ _ hm))
   rw[hval]at g2
   exact⟨d,v,rfl,g2,q H2 s12⟩
end
end K41
namespace K41
open PySem L2 PySem.Spec PyProof.Rows
theorem rising_pw:∀(p:Str) (l:List Str),risingS p l=true->(p::l).Pairwise (fun a b=>a.cps.toList<=b.cps.toList)
 | p,[],_=>List.pairwise_singleton _ _
 | p,x::r,h=>by
  have h:(!ltCps x.cps.toList p.cps.toList && risingS x r)=true:=h
  obtain⟨h1,h2⟩:=Bool.and_eq_true_iff.mp h
  have ih:=rising_pw x r h2
  have le:p.cps.toList<=x.cps.toList:=by
   rw[PyProof.Rows.ltCps_eq]at h1
   intro z
   rw[decide_eq_true z]at h1
   cases h1
  refine List.pairwise_cons.mpr ⟨fun y hy=>?_,ih⟩
  rcases List.mem_cons.mp hy with e | hy
  · rw[e];exact le
  · exact List.le_trans le (List.rel_of_pairwise_cons ih hy)
theorem sorted_pw:∀{l:List Str},sortedS l=true->l.Pairwise (fun a b=>a.cps.toList<=b.cps.toList)
 | [],_=>.nil
 | x::r,h=>rising_pw x r h
theorem sorted_eq{a b:List Str}(p:a.Perm b)(h1:sortedS a=true)(h2:sortedS b=true):a=b:=by
 refine List.Perm.eq_of_pairwise (fun x y _ _ h h'=>?_) (sorted_pw h1) (sorted_pw h2) p
 have e:=List.le_antisymm h h'
 obtain⟨⟨x⟩⟩:=x
 obtain⟨⟨y⟩⟩:=y
 have e:x=y:=e
 rw[e]
section
variable {β:Type}
noncomputable def putP(tr:List (Str×β))(x:Str)(ls:β):List (Str×β):=if (tr.any fun f=>decide (f.1=x))=true then tr.map (fun f=>if f.1=x then(f.1,ls) else f) else tr++[(x,ls)]
theorem putP_keys(tr:List (Str×β))(x:Str)(ls:β):(putP tr x ls).map (·.1)=if (tr.any fun f=>decide (f.1=x))=true then tr.map (·.1) else tr.map (·.1)++[x]:=by
 unfold putP
 split
 · rw[List.map_map]
   refine List.map_congr_left fun f _=>?_
   show(if f.1=x then(f.1,ls) else f).1=f.1
   split<;>rfl
 · rw[List.map_append];rfl
theorem any_key{tr:List (Str×β)}{x:Str}:(tr.any fun f=>decide (f.1=x))=true↔x∈tr.map (·.1):=by
 rw[List.any_eq_true,List.mem_map]
 constructor
 · rintro⟨f,hf,e⟩
   exact⟨f,hf,of_decide_eq_true e⟩
 · rintro⟨f,hf,e⟩
   exact⟨f,hf,decide_eq_true e⟩
theorem putP_nodup{tr:List (Str×β)}{x:Str}{ls:β}(h:(tr.map (·.1)).Nodup):((putP tr x ls).map (·.1)).Nodup:=by
 rw[putP_keys]
 split
 · exact h
 · rename_i hx
   rw[List.nodup_append]
   refine⟨h,by simp,fun a ha b hb=>?_⟩
   rw[List.mem_singleton.mp hb]
   intro e
   exact hx (any_key.mpr (e▸ha))
theorem putP_len(tr:List (Str×β))(x:Str)(ls:β):(putP tr x ls).length<=tr.length+1:=by
 unfold putP
 split
 · rw[List.length_map];omega
 · rw[List.length_append,List.length_singleton];omega
theorem paired_put{F:Key×V->Str×β->Prop}(hk:∀kv f,F kv f->kv.1=Sum.inr f.1){x:Str}{ls:β}{v:V}(hv:F (.inr x,v) (x,ls)){kvs:List (Key×V)}{tr:List (Str×β)}(h:Paired F kvs tr):Paired F (putK kvs (.inr x) v) (putP tr x ls):=by
 have e:(kvs.any fun kv=>decide (kv.1=Sum.inr x))=(tr.any fun f=>decide (f.1=x)):=by
  induction h with
  | nil=>rfl
  | cons r t ih=>
   rw[List.any_cons,List.any_cons,ih,hk _ _ r]
   congr 1
   exact decide_eq_decide.mpr ⟨fun z=>Sum.inr.inj z,fun z=>by rw[z]⟩
 unfold putK putP
 rw[e]
 split
 · clear e
   rename_i hh
   clear hh
   induction h with
   | nil=>exact .nil
   | @cons kv f kvs tr r t ih=>
    refine .cons ?_ ih
    have hr:=hk _ _ r
    dsimp only
    by_cases hx:f.1=x
    · have hkx:kv.1=Sum.inr x:=by rw[hr,hx]
      rw[if_pos hkx,if_pos hx,hkx,hx]
      exact hv
    · rw[if_neg (fun z=>hx (Sum.inr.inj (hr.symm.trans z))),if_neg hx]
      exact r
 · exact paired_snoc hv h
end
theorem keysS_of{β:Type}{F:Key×V->Str×β->Prop}(hk:∀kv f,F kv f->kv.1=Sum.inr f.1){kvs:List (Key×V)}{tr:List (Str×β)}(h:Paired F kvs tr):KeysS kvs (tr.map (·.1)):=by
 unfold KeysS
 induction h with
 | nil=>rfl
 | cons r t ih=>rw[List.map_cons,List.map_cons,List.map_cons,ih,hk _ _ r]
theorem paired_val{β:Type}{F:Key×V->Str×β->Prop}(hk:∀kv f,F kv f->kv.1=Sum.inr f.1){kvs:List (Key×V)}{tr:List (Str×β)}(h:Paired F kvs tr){x:Str}(hx:x∈tr.map (·.1)):∃v ls,valV kvs (.inr x)=some v/\(x,ls)∈tr/\F (.inr x,v) (x,ls):=by
 induction h with
 | nil=>cases hx
 | @cons kv f kvs tr r t ih=>
  have hr:=hk _ _ r
  by_cases e:f.1=x
  · refine⟨kv.2,f.2,by rw[valV_pos (hr.trans (by rw[e]))],?_,?_⟩
    · rw[←e];exact List.mem_cons_self
    · rw[←e,←hr];exact r
  · rcases List.mem_cons.mp hx with z | z
    · exact absurd z.symm e
    · obtain⟨v,ls,a,b,c⟩:=ih z
      exact⟨v,ls,by rw[valV_neg (fun q=>e (Sum.inr.inj (hr.symm.trans q)))];exact a,List.mem_cons_of_mem _ b,c⟩
theorem paired_none{β:Type}{F:Key×V->Str×β->Prop}(hk:∀kv f,F kv f->kv.1=Sum.inr f.1){kvs:List (Key×V)}{tr:List (Str×β)}(h:Paired F kvs tr){x:Str}(hx:x∉tr.map (·.1)):valV kvs (.inr x)=none:=by
 induction h with
 | nil=>rfl
 | @cons kv f kvs tr r t ih=>
  have hr:=hk _ _ r
  rw[List.map_cons,List.mem_cons,not_or]at hx
  rw[valV_neg (fun q=>hx.1 (Sum.inr.inj (hr.symm.trans q)).symm)]
  exact ih hx.2
end K41
namespace K41
open PySem L2 PySem.Spec PyProof.Rows
noncomputable abbrev Ch:=List (Str×List Int)
noncomputable def ChV(H:Hp)(kv:Key×V)(e:Str×List Int):Prop:=kv.1 = .inr e.1/\∃m,kv.2 = .ref m/\H m=some (.tup (e.2.map V.int))
theorem ChV.same{H H':Hp}(s:Same H H'){kv:Key×V}{e:Str×List Int}(h:ChV H kv e):ChV H' kv e:=h.elim fun a zq511=>zq511.elim fun m zq512=>zq512.elim fun b c=>⟨a,m,b,s _ _ c⟩
noncomputable def ChoAt(H:Hp)(c:Addr)(ch:Ch):Prop:=∃kvs,H c=some (.dK kvs)/\Paired (ChV H) kvs ch
theorem ChoAt.same{H H':Hp}(s:Same H H'){c:Addr}{ch:Ch}(h:ChoAt H c ch):ChoAt H' c ch:=h.elim fun kvs zq513=>zq513.elim fun a b=>⟨kvs,s _ _ a,paired_mapP b fun _ _=>ChV.same s⟩
section
variable {P:Program} {w:World} {K:PySem.W.Frag} {mg:Str->Option Value} {base:Heap}
noncomputable def Inn(xs:List V)(ps:List Pcl)(v:V)(p:Pcl):Prop:=∃j:Nat,ps[j]? = some p/\xs[j]? = some v
noncomputable def Valid(xs:List V)(ps:List Pcl)(ch:Ch):Prop:=∀e∈ch,∃v p,Inn xs ps v p/\p.nm=e.1/\p.ms=e.2
noncomputable def spPOf(S:Addr):Sp:=fun vs H Q _=>∃(sv:V) (c:Addr) (xs:List V) (ps:List Pcl) (ch:Ch),vs = [sv,.ref c]/\ShelfAt S H sv xs ps/\ChoAt H c ch/\Valid xs ps ch/\ch.length<64 /\
 ∀D H' vs' ps',H D=none->Same H H'->H' D=some (.lst vs')->Paired (Inn xs ps) vs' ps'->(ps'.map (·.nm)).Perm (ch.map (·.1))->(∀p∈ps',(p.nm,p.ms)∈ch)->sortedS (ps'.map (·.nm))=true->Q (.ref D) H'
theorem scPOf:FnScope ["shelf","chosen"] ["shelf","chosen"] (defScope sPOf):=⟨rfl,rfl,rfl,by decide +kernel,rfl,by decide +kernel,by decide +kernel⟩
theorem okPOf{f S fN fM fSPa:Addr}{fd fdSPa:FuncData}(F:Fun K "parcels_of" "parcels_of" sPOf f fd)(B:Blt mg)(U:TxtS K mg S fN fM fSPa)(FSPa:Fun K "parcel" "Shelf.parcel" sSPa fSPa fdSPa):FnOk P w K mg base CX0 2 f fd ["shelf","chosen"] (spPOf S):=by
 have GSPa:FnOk P w K mg base CX0 1 fSPa fdSPa ["self","name","make"] (spSPa K S):=okSPa FSPa U
 have bSPa:=FSPa.binds3 (l:=["self","name","make"]) (fun _ _ _ _ _ _ _ _ _=>rfl)
 refine F.ok scPOf (fun vs H Q E h=>?_) (fun cdv A outer s H vs Q E hr h=>?_)
 · obtain⟨sv,c,xs,ps,ch,rfl,_⟩:=h
   rfl
 · refine letX ?_
   intro xX dX
   obtain⟨sv,c,xs,ps,ch,rfl,hS,hC,hV,h64,q⟩:=h
   have hu:=hr.units
   obtain⟨kvs,e1,e2⟩:=id hC
   have hk:∀kv f,ChV H kv f->kv.1=Sum.inr f.1:=fun kv f z=>z.1
   have kl:=paired_len e2
   refine⟨_,(pss_one (ps_ret (pe_compF ["name"] ["shelf","chosen"] [0,1] ⟨rfl,by decide +kernel,by decide +kernel,by decide +kernel,by decide +kernel,rfl,rfl,rfl⟩ rfl (pi_list (pe_callB (call_sortedD rfl) (by rfl) B.sorted PyProof.Rows.boot_sorted (pa_cons (pv 1) pa_nil))) (fun _ _ _ _=>(pg_name (i:=0) (show List.Nodup (["name","shelf","chosen"]:List Str) by decide +kernel) rfl (Or.inl rfl))) (fun _ _ _ _=>pts_nil) (fun _ _ _ _=>(pe_meth (pv 1) U.cl U.mP GSPa hr bSPa .nil pass0 (pa_cons (pv 0) (pa_cons (pe_dget hu (pv 2) (pv 0) (fun _ _=>rfl)) pa_nil))))))),?_⟩
   refine⟨_,rfl,c,kvs,_,rfl,e1,keysS_of hk e2,by omega,fun ys hp hs a H1 n1 s1 a1=>?_⟩
   refine⟨a,rfl,⟨_,SqL.of a1⟩,?_⟩
   refine comp_list0 (σ0:=[none,some sv,some (.ref c)]) (SqL.of a1) (fun σ=>∃v,σ = [v,some sv,some (.ref c)]) (fun i zs _=>∃ps',Paired (Inn xs ps) zs ps'/\ps'.map (·.nm)=ys.take i/\∀p∈ps',(p.nm,p.ms)∈ch) ⟨_,rfl⟩ (fun _ _=>⟨[],.nil,rfl,fun _ h=>nomatch h⟩) ?_ ?_
   · intro D i x zs σ H2 k hD hi hQ1 hd h2 hQ2 hk'
     refine letG ?_
     intro tT
     obtain⟨v,rfl⟩:=hQ1
     obtain⟨ps',pr,pn,pc⟩:=hQ2
     first | (refine lets12 ?_;intros) | (refine lets11 ?_;intros) | (refine lets10 ?_;intros) | (refine lets9 ?_;intros) | (refine lets8 ?_;intros) | (refine lets7 ?_;intros) | (refine lets6 ?_;intros) | (refine lets5 ?_;intros) | (refine lets4 ?_;intros) | (refine lets3 ?_;intros) | (refine lets2 ?_;intros) | (refine letB (g:=gName _) ?_;intros) | (refine letB (g:=gTup _ _ _) ?_;intros) | skip
     rw[List.getElem?_map]at hi
     cases hy:ys[i]? with
     | none=>rw[hy]at hi;cases hi
     | some y=>
      rw[hy]at hi
      cases hi
      have hym:y∈ch.map (·.1):=hp.mem_iff.mp (List.mem_of_getElem? hy)
      obtain⟨u,ms,g1,g2,_,m,rfl,g3⟩:=paired_val hk e2 hym
      obtain⟨v2,p,hin,en,em⟩:=hV _ g2
      obtain⟨j,j1,j2⟩:=id hin
      have en:p.nm=y:=en
      have em:p.ms=ms:=em
      subst en em
      obtain⟨sa,dx,fl,d,kk,rfl,b1,b2,b3,b4,b5⟩:=hS.same (s1.trans h2)
      have s12:=s1.trans h2
      refine⟨_,rfl,sa,dx,fl,rfl,b1,b3,_,rfl,_,rfl,_,rfl,c,_,rfl,(by rw[←g1];exact DGet.k (k:=.inr p.nm) (s12 _ _ e1)),?_⟩
      refine⟨_,v2,m,xs,ps,j,p,rfl,⟨sa,dx,fl,d,kk,rfl,b1,b2,b3,b4,b5⟩,j1,j2,s12 _ _ g3,fun H3 s3=>?_⟩
      have hl:zs.length<=64:=by
       have e:=congrArg List.length pn
       rw[List.length_map,List.length_take]at e
       have:=paired_len pr
       have:=hp.length_eq
       rw[List.length_map]at this
       omega
      refine hk' _ _ _ ⟨_,rfl⟩ s3 (small1000 (by omega)) ⟨ps'++[p],paired_snoc hin pr,?_,fun p' hp'=>?_⟩
      · rw[List.map_append,pn,List.take_add_one,hy]
        rfl
      · rcases List.mem_append.mp hp' with z | z
        · exact pc p' z
        · rw[List.mem_singleton.mp z];exact g2
   · intro D zs H2 hD hd h2 hQ3
     refine letG ?_
     intro tT
     obtain⟨ps',pr,pn,pc⟩:=hQ3
     first | (refine lets12 ?_;intros) | (refine lets11 ?_;intros) | (refine lets10 ?_;intros) | (refine lets9 ?_;intros) | (refine lets8 ?_;intros) | (refine lets7 ?_;intros) | (refine lets6 ?_;intros) | (refine lets5 ?_;intros) | (refine lets4 ?_;intros) | (refine lets3 ?_;intros) | (refine lets2 ?_;intros) | (refine letB (g:=gName _) ?_;intros) | (refine letB (g:=gTup _ _ _) ?_;intros) | skip
     rw[List.length_map,List.take_length]at pn
     refine q D H2 zs ps' (s1.free hD) (s1.trans h2) hd pr ?_ pc ?_
     · rw[pn]
       exact hp
     · rw[pn]
       exact hs
end
end K41
namespace K41
open PySem L2 PySem.Spec
section
variable {g:TG} {tt:TT} {te:TE} {H1:Hp} {Q:Hp->Prop}
theorem comp_listD{K:PySem.W.Frag}{a D:Addr}{xs:List V}{σ0:St}(hD:H1 D=none)(hx:SqL K H1 a xs)(S:St->Prop)(P:Nat->List V->Hp->Prop)(s0:S σ0)(st:P 0 [] (upd H1 D (.lst [])))
 (turn:∀i x ys σ H (k:St->V->Hp->Prop) (k':St->Hp->Prop),xs[i]? = some x->S σ->H D=some (.lst ys)->Same H1 H->P i ys H ->
  (∀σ3 y H5,S σ3->Same H H5->ys.length<sizeLine->P (i+1) (ys++[y]) (upd H5 D (.lst (ys++[y])))->k σ3 y H5)->(∀σ3 H4,S σ3->Same H H4->P (i+1) ys H4->k' σ3 H4) ->
  g x σ H fun σ3 H3=>tt σ3 H3 fun ok H4=>if ok=true then te σ3 H4 (k σ3) else k' σ3 H4)
 (done:∀ys H,H D=some (.lst ys)->Same H1 H->P xs.length ys H->Q H) :
 ∃W:Nat->Nat->St->Hp->Prop,(∃m,W 0 m σ0 (upd H1 D (.lst [])))/\CompAsk (Itl K a) g tt te D (fun H'=>Q H') W:=by
 refine⟨fun i m σ H=>m=xs.length - i/\i<=xs.length/\S σ/\∃ys,H D=some (.lst ys)/\Same H1 H/\P i ys H,⟨xs.length,by simp,Nat.zero_le _,s0,[],upd_same,same_upd hD,st⟩,?_⟩
 intro i m σ H hQ1
 refine letG ?_
 intro tT
 obtain⟨rfl,hi,hS,ys,hd,hs,hp⟩:=hQ1
 first | (refine lets12 ?_;intros) | (refine lets11 ?_;intros) | (refine lets10 ?_;intros) | (refine lets9 ?_;intros) | (refine lets8 ?_;intros) | (refine lets7 ?_;intros) | (refine lets6 ?_;intros) | (refine lets5 ?_;intros) | (refine lets4 ?_;intros) | (refine lets3 ?_;intros) | (refine lets2 ?_;intros) | (refine letB (g:=gName _) ?_;intros) | (refine letB (g:=gTup _ _ _) ?_;intros) | skip
 have q:SqL K H a xs:=Same.seq hs hx
 by_cases hlt:i<xs.length
 · refine .inr ⟨⟨xs,xs[i],q,by simp[hlt]⟩,fun x H2 hy=>?_⟩
   obtain⟨e1,e2⟩:=hy
   subst e1
   exact turn i x ys σ _ (fun σ3 y H5=>∃ys,H5 D=some (.lst ys)/\ys.length<sizeLine/\∃m',m'<xs.length - i/\(m'=xs.length - (i+1)/\i+1<=xs.length/\S σ3/\∃zs,upd H5 D (.lst (ys++[y])) D=some (.lst zs)/\Same H1 (upd H5 D (.lst (ys++[y])))/\P (i+1) zs (upd H5 D (.lst (ys++[y])))))
    (fun σ3 H4=>∃m',m'<xs.length - i/\(m'=xs.length - (i+1)/\i+1<=xs.length/\S σ3/\∃zs,H4 D=some (.lst zs)/\Same H1 H4/\P (i+1) zs H4)) (e2 xs q) hS hd hs hp
    (fun σ3 y H5 a1 a2 a3 a4=>⟨ys,a2 _ _ hd,a3,xs.length - (i+1),by omega,rfl,hlt,a1,ys++[y],upd_same,same_upd' (hs.trans a2) hD,a4⟩)
    (fun σ3 H4 a1 a2 a3=>⟨xs.length - (i+1),by omega,rfl,hlt,a1,ys,a2 _ _ hd,hs.trans a2,a3⟩)
 · have e:i=xs.length:=by omega
   subst e
   exact .inl ⟨⟨xs,q,Nat.le_refl _⟩,done ys H hd hs hp⟩
theorem comp_listD0{K:PySem.W.Frag}{a D:Addr}{xs:List V}{σ0:St}(hD:H1 D=none)(hx:SqL K H1 a xs)(S:St->Prop)(P:Nat->List V->Hp->Prop)(s0:S σ0)(st:P 0 [] (upd H1 D (.lst [])))
 (turn:∀i x ys σ H (k:St->V->Hp->Prop),xs[i]? = some x->S σ->H D=some (.lst ys)->Same H1 H->P i ys H ->
  (∀σ3 y H5,S σ3->Same H H5->ys.length<sizeLine->P (i+1) (ys++[y]) (upd H5 D (.lst (ys++[y])))->k σ3 y H5)->g x σ H fun σ3 H3=>te σ3 H3 (k σ3))
 (done:∀ys H,H D=some (.lst ys)->Same H1 H->P xs.length ys H->Q H) :
 ∃W:Nat->Nat->St->Hp->Prop,(∃m,W 0 m σ0 (upd H1 D (.lst [])))/\CompAsk (Itl K a) g tTrue te D (fun H'=>Q H') W:=
 comp_listD hD hx S P s0 st (fun i x ys σ H k k' a1 a2 a3 a4 a5 a6 _=>turn i x ys σ H k a1 a2 a3 a4 a5 a6) done
end
noncomputable abbrev dI (ms:List Int):PySem.W.Dat:=.tuple (ms.map PySem.W.Dat.int)
theorem dI_inj{a b:List Int}:dI a=dI b↔a=b:=⟨fun h=>(List.map_inj_right fun x y z=>PySem.W.Dat.int.inj z).mp (PySem.W.Dat.tuple.inj h),fun h=>by rw[h]⟩
theorem dI_ok(n:Nat)(ms:List Int):PySem.W.kqdOk (n+1) (dI ms)=true:=by
 simp only[dI,PySem.W.kqdOk,List.all_eq_true,List.mem_map]
 rintro d ⟨i,_,rfl⟩
 simp[PySem.W.kqdOk]
theorem dI_dv{K:PySem.W.Frag}{H:Hp}{m:Addr}{ms:List Int}(h:H m=some (.tup (ms.map V.int))):DV K H (.ref m) (dI ms):=.tup (SqT.of h) (dvs_ints ms)
theorem pg_tupK{X:Cx}(K:PySem.W.Frag){es:List Expr}{k:Nat}{pos:Pos}{t:TGs}{n:Nat}(hc:X.calm=true)(h:PGs X es t)(hK:X.K=K:=by rfl)
 (hn:(assignEach es X.env).length=n:=by rfl) (hst:(assignEach es X.env).findIdx? (·.1)=none:=by rfl):PG X (.Tuple es k pos) (gTup K n t):=hK▸pg_tup hc h hn hst
theorem flat_strs:∀xs:List Str,(xs.map V.str).all flatV=true
 | []=>rfl
 | x::xs=>by rw[List.map_cons,List.all_cons,flat_strs xs];rfl
theorem filter_take{α:Type}{f:α->Bool}{l:List α}{i:Nat}{x:α}(h:l[i]? = some x):(l.take (i+1)).filter f=(l.take i).filter f++(if f x=true then [x] else []):=filt_snoc h
theorem isNil{b:Bool}{ls:List Int}(h:b=true↔dI ls=PySem.W.Dat.tuple []):b=decide (ls = []):=by
 rw[show PySem.W.Dat.tuple []=dI [] from rfl,dI_inj]at h
 by_cases q:ls = []
 · rw[decide_eq_true q];exact h.mpr q
 · rw[decide_eq_false q];exact Bool.eq_false_iff.mpr fun z=>q (h.mp z)
section
variable {P:Program} {w:World} {K:PySem.W.Frag} {mg:Str->Option Value} {base:Heap}
noncomputable def spWit:Sp:=fun vs H Q _=>∃(a l:Addr) (b:V) (mk ls:List Int) (bl:Option (List Int)),vs = [.ref a,.ref l,b]/\H a=some (.tup (mk.map V.int))/\H l=some (.tup (ls.map V.int))/\BelH H b bl/\Q (.bl (!HT.lexLt mk ls && underB mk bl)) H
theorem scWit:FnScope ["make","least","below"] ["make","least","below"] (defScope sWit):=⟨rfl,rfl,rfl,by decide +kernel,rfl,by decide +kernel,by decide +kernel⟩
theorem okWit{f:Addr}{fd:FuncData}(F:Fun K "is_within" "is_within" sWit f fd):FnOk P w K mg base CX0 1 f fd ["make","least","below"] spWit:=by
 refine F.ok scWit (fun vs H Q E h=>?_) (fun cdv A outer s H vs Q E hr h=>?_)
 · obtain⟨a,l,b,mk,ls,bl,rfl,_⟩:=h
   rfl
 · refine letX ?_
   intro xX dX
   obtain⟨a,l,b,mk,ls,bl,rfl,hA,hL,hB,q⟩:=h
   have hu:=hr.units0
   refine⟨_,pss_one (ps_ret (pe_and (pe_cmpR (op_geT hu) (pv 0) (pv 1) (nomark _)) (pe_one (pe_or (pe_cmpR op_isN (pv 2) pe_non (nomark _)) (pe_one (pe_cmpR (op_ltT hu) (pv 0) (pv 2) (nomark _))))))),?_⟩
   refine⟨_,rfl,_,rfl,a,l,mk,ls,rfl,rfl,SqT.of hA,SqT.of hL,_,rfl,ite2 (fun h1=>?_) (fun h1=>?_)⟩
   · rw[h1,Bool.true_and]at q
     cases bl with
     | none=>
      have hB:b = .non:=hB
      subst hB
      exact⟨_,rfl,rfl,_,rfl,iteT q⟩
     | some bs=>
      obtain⟨c,rfl,hC⟩:=hB
      refine⟨_,rfl,rfl,_,rfl,iteF ?_⟩
      exact⟨_,rfl,_,rfl,a,c,mk,bs,rfl,rfl,SqT.of hA,SqT.of hC,q⟩
   · rw[Bool.eq_false_iff.mpr h1,Bool.false_and]at q
     exact q
noncomputable def spMee(C:Addr):Sp:=fun vs H Q _=>∃(cv pv:V) (c:Clm) (p:Pcl),vs = [cv,pv]/\ClmH H cv c/\PclAt C H pv p/\∀H',Same H H'->Q (.bl (meetB c p)) H'
theorem scMee:FnScope ["claim","parcel","name","least","below"] ["claim","parcel"] (defScope sMee):=⟨rfl,rfl,rfl,by decide +kernel,rfl,by decide +kernel,by decide +kernel⟩
theorem okMee{f fWit C:Addr}{fd fdWit:FuncData}(F:Fun K "does_meet" "does_meet" sMee f fd)(FWit:Fun K "is_within" "is_within" sWit fWit fdWit)(mWit:mg "is_within" = some (.ref fWit))(T:Txt K mg C) :
 FnOk P w K mg base CX0 2 f fd ["claim","parcel"] (spMee C):=by
 have GWit:FnOk P w K mg base CX0 1 fWit fdWit ["make","least","below"] spWit:=okWit FWit
 have bWit:=FWit.binds3 (l:=["make","least","below"]) (fun _ _ _ _ _ _ _ _ _=>rfl)
 refine F.ok scMee (fun vs H Q E h=>?_) (fun cdv A outer s H vs Q E hr h=>?_)
 · obtain⟨cv,v,c,p,rfl,_⟩:=h
   rfl
 · refine letX ?_
   intro xX dX
   obtain⟨cv,v,cl,p,rfl,⟨c,l,b,rfl,c1,c2,c3⟩,⟨a,dx,fl,rk,m,pf,pn,ps,po,xs,rfl,hA,hF,hM,_,_,hO,_⟩,q⟩:=h
   have hu:=hr.units
   refine⟨_,pss_cons (ps_set (i:=2) scMee.nd rfl (Or.inl rfl) (pe_ix ix_tup (pv 0) pe_int (fun _ _=>rfl)))
    (pss_cons (ps_set (i:=3) scMee.nd rfl (Or.inl rfl) (pe_ix ix_tup (pv 0) pe_int (fun _ _=>rfl)))
    (pss_cons (ps_set (i:=4) scMee.nd rfl (Or.inl rfl) (pe_ix ix_tup (pv 0) pe_int (fun _ _=>rfl)))
    (pss_cut (fun σ H2=>σ = [some (.ref c),some (.ref a),some (.str cl.nm),some (.ref l),some b]/\H2=H/\(decide (cl.nm=p.nm) && (!HT.lexLt p.ms cl.ls && underB p.ms cl.bl))=false)
     (ps_if (PW.pt (pw_and (pt_cmpR op_eq (pe_fld (pv 1) rfl) (pv 2) (nomark _)) (pw_and1 (pt_val (pe_call GWit hr rfl mWit FWit.kp bWit .nil pass0 (pa_cons (pe_fld (pv 1) rfl) (pa_cons (pv 3) (pa_cons (pv 4) pa_nil))))))))
      (pss_one (ps_ret pe_bl)) pss_nil)
    (pss_one (ps_ret (pe_and (pe_cmpR op_in_seq (pv 2) (pe_fld (pv 1) rfl) (by rfl)) (pe_and (pe_cmpR (op_eqD hu) (pv 3) (pe_tupN pa_nil) (nomark _)) (pe_one (pe_cmpR op_isN (pv 4) pe_non (nomark _)))))))))),?_⟩
   refine lets4 ?_
   intro dD sS uU4 uU3 uU2
   have a0:atI [V.str cl.nm,.ref l,b] 0=some (V.str cl.nm):=rfl
   have a1:atI [V.str cl.nm,.ref l,b] 1=some (V.ref l):=rfl
   have a2:atI [V.str cl.nm,.ref l,b] 2=some b:=rfl
   refine⟨_,rfl,c,_,_,_,rfl,rfl,SqT.of c1,a0,?_⟩
   refine⟨_,rfl,c,_,_,_,rfl,rfl,SqT.of c1,a1,?_⟩
   refine⟨_,rfl,c,_,_,_,rfl,rfl,SqT.of c1,a2,?_⟩
   refine⟨?_,?_⟩
   · refine⟨_,rfl,a,C,dx,_,_,rfl,hA,T.cl,T.nN,hF.name,_,rfl,rfl,_,rfl,?_⟩
     refine ite2 (fun h1=>?_) (fun h1=>?_)
     · have e1:p.nm=cl.nm:=by
        have:=of_decide_eq_true h1
        injection this
       refine⟨_,rfl,a,C,dx,_,_,rfl,hA,T.cl,T.nM,hF.make,_,rfl,_,rfl,m,l,b,p.ms,cl.ls,cl.bl,rfl,hM,c2,c3,_,rfl,?_⟩
       refine ite2 (fun h2=>?_) (fun h2=>?_)
       · have e:meetB cl p=true:=by unfold meetB;rw[h2,decide_eq_true e1.symm];rfl
         rw[e]at q
         exact q _ (Same.refl H)
       · exact⟨rfl,rfl,by rw[Bool.eq_false_iff.mpr h2,Bool.and_false]⟩
     · refine⟨rfl,rfl,?_⟩
       have:cl.nm≠p.nm:=fun e=>h1 (by rw[e];exact decide_eq_true rfl)
       rw[decide_eq_false this,Bool.false_and]
   · rintro σ' H' ⟨rfl,rfl,hN⟩
     unfold meetB at q
     rw[hN,Bool.false_or]at q
     refine⟨_,rfl,_,rfl,a,C,dx,_,_,rfl,hA,T.cl,T.nO,hF.offers,po,_,rfl,.inl (SqL.of hO),rfl,flat_strs _,_,rfl,ite2 (fun h1=>?_) (fun h1=>?_)⟩
     · have h1':inV (.str cl.nm) (p.os.map V.str)=true:=h1
       rw[h1',Bool.true_and]at q
       refine⟨_,rfl,(by show 0<=sizeLine;decide),fun t H1 n1 s1 e1=>?_⟩
       refine⟨dI cl.ls,dI [],dI_dv (s1 _ _ c2),dI_dv e1,dI_ok 8 _,dI_ok 8 _,fun b1 hb1=>⟨b1,rfl,ite2 (fun h2=>?_) (fun h2=>?_)⟩⟩
       · rw[isNil hb1]at h2
         rw[h2,Bool.true_and]at q
         refine⟨_,rfl,rfl,?_⟩
         cases hbl:cl.bl with
         | none=>
          rw[hbl]at c3 q
          have c3:b = .non:=c3
          subst c3
          exact q _ s1
         | some bs=>
          rw[hbl]at c3 q
          obtain⟨d,rfl,_⟩:=c3
          exact q _ s1
       · have e:=isNil hb1
         rw[Bool.eq_false_iff.mpr h2]at e
         rw[←e,Bool.false_and]at q
         exact q _ s1
     · have h1':inV (.str cl.nm) (p.os.map V.str)=false:=Bool.eq_false_iff.mpr h1
       rw[h1',Bool.false_and]at q
       exact q _ (Same.refl _)
noncomputable abbrev PclsNew (C:Addr) (H:Hp) (ps:List Pcl) (Q:VK):Prop:=∀D H' ys,H D=none->Same H H'->H' D=some (.lst ys)->PclsAt C H' ys ps->Q (.ref D) H'
noncomputable def spMtg(C:Addr):Sp:=fun vs H Q _=>∃(cv:V) (a:Addr) (c:Clm) (xs:List V) (ps:List Pcl),vs = [cv,.ref a]/\ClmH H cv c/\H a=some (.lst xs)/\PclsAt C H xs ps/\ps.length<=100/\PclsNew C H (ps.filter (meetB c)) Q
theorem scMtg:FnScope ["claim","parcels"] ["claim","parcels"] (defScope sMtg):=⟨rfl,rfl,rfl,by decide +kernel,rfl,by decide +kernel,by decide +kernel⟩
theorem okMtg{f fMee fWit C:Addr}{fd fdMee fdWit:FuncData}(F:Fun K "meeting" "meeting" sMtg f fd)(FMee:Fun K "does_meet" "does_meet" sMee fMee fdMee)(mMee:mg "does_meet" = some (.ref fMee))(FWit:Fun K "is_within" "is_within" sWit fWit fdWit)(mWit:mg "is_within" = some (.ref fWit))(T:Txt K mg C) :
 FnOk P w K mg base CX0 3 f fd ["claim","parcels"] (spMtg C):=by
 have GMee:FnOk P w K mg base CX0 2 fMee fdMee ["claim","parcel"] (spMee C):=okMee FMee FWit mWit T
 have bMee:=FMee.binds2 (l:=["claim","parcel"]) (fun _ _ _ _ _ _ _ _=>rfl)
 refine F.ok scMtg (fun vs H Q E h=>?_) (fun cdv A outer s H vs Q E hr h=>?_)
 · obtain⟨cv,a,c,xs,ps,rfl,_⟩:=h
   rfl
 · refine letX ?_
   intro xX dX
   obtain⟨cv,a,c,xs,ps,rfl,hc,ha,hps,h100,q⟩:=h
   have hl:=paired_len hps
   refine⟨_,(pss_one (ps_ret (pe_compF ["parcel"] ["claim"] [0] ⟨rfl,by decide +kernel,by decide +kernel,by decide +kernel,by decide +kernel,rfl,rfl,rfl⟩ rfl (pi_list (pv 1)) (fun _ _ _ _=>(pg_name (i:=0) (show List.Nodup (["parcel","claim"]:List Str) by decide +kernel) rfl (Or.inl rfl))) (fun _ _ _ _=>pts_one (pt_val (pe_call GMee hr rfl mMee FMee.kp bMee .nil pass0 (pa_cons (pv 1) (pa_cons (pv 0) pa_nil))))) (fun _ _ _ _=>(pv 0))))),?_⟩
   refine⟨_,rfl,a,rfl,⟨_,SqL.of ha⟩,?_⟩
   intro D hD
   refine comp_listD (σ0:=[none,some cv]) hD (SqL.of ha) (fun σ=>∃v,σ = [v,some cv]) (fun j zs _=>zs.length<=j/\PclsAt C H zs ((ps.take j).filter (meetB c))) ⟨_,rfl⟩ ⟨Nat.le_refl _,.nil⟩ ?_ ?_
   · rintro j y zs σ H3 k k' hy ⟨v,rfl⟩ hd3 h3 ⟨zl,zp⟩ hk1 hk2
     obtain⟨p,hp,hE⟩:=paired_get' hps hy
     have hlt:=(List.getElem?_eq_some_iff.mp hp).1
     refine⟨_,rfl,_,rfl,cv,y,c,p,rfl,hc.same h3,hE.same h3,fun H4 h4=>⟨_,rfl,?_⟩⟩
     refine ite2 (fun h=>?_) (fun h=>?_)
     · refine⟨_,rfl,hk1 _ _ _ ⟨_,rfl⟩ h4 (small1000 (by omega)) ⟨by rw[List.length_append,List.length_singleton];omega,?_⟩⟩
       rw[filter_take hp,if_pos h]
       exact paired_snoc hE zp
     · refine hk2 _ _ ⟨_,rfl⟩ h4 ⟨by omega,?_⟩
       rw[filter_take hp,if_neg h,List.append_nil]
       exact zp
   · rintro zs H3 hd3 h3 ⟨zl,zp⟩
     rw[hl,List.take_length]at zp
     exact q D H3 zs hD h3 hd3 (zp.same h3)
noncomputable def spPat(C:Addr):Sp:=fun vs H Q _=>∃(v:V) (p:Pcl),vs = [v]/\PclAt C H v p/\p.fs.length<=100/\New H (.lst ((paths p).map V.str)) Q
theorem scPat:FnScope ["parcel"] ["parcel"] (defScope sPat):=⟨rfl,rfl,rfl,by decide +kernel,rfl,by decide +kernel,by decide +kernel⟩
theorem okPat{f C:Addr}{fd:FuncData}(F:Fun K "paths_of" "paths_of" sPat f fd)(T:Txt K mg C):FnOk P w K mg base CX0 1 f fd ["parcel"] (spPat C):=by
 refine F.ok scPat (fun vs H Q E h=>?_) (fun cdv A outer s H vs Q E hr h=>?_)
 · obtain⟨v,p,rfl,_⟩:=h
   rfl
 · refine letX ?_
   intro xX dX
   obtain⟨v,p,rfl,⟨a,dx,fl,rk,m,pf,pn,ps,po,xs,rfl,hA,hF,hM,hfa,hfs,_⟩,h100,q⟩:=h
   have hl:=paired_len hfs
   refine⟨_,(pss_one (ps_ret (pe_compF ["path","lines"] [] [] ⟨rfl,by decide +kernel,by decide +kernel,by decide +kernel,by decide +kernel,rfl,rfl,rfl⟩ rfl (pi_list (pe_fld (pv 0) rfl)) (fun _ _ _ _=>(pg_tupK (n:=2) K rfl (pgs_cons (pg_name (i:=0) (show List.Nodup (["path","lines"]:List Str) by decide +kernel) rfl (Or.inl rfl)) (pgs_cons (pg_name (i:=1) (show List.Nodup (["path","lines"]:List Str) by decide +kernel) rfl (Or.inl rfl)) pgs_nil)))) (fun _ _ _ _=>pts_nil) (fun _ _ _ _=>(pv 0))))),?_⟩
   refine⟨_,rfl,a,C,dx,_,_,rfl,hA,T.cl,T.nF,hF.files,pf,rfl,⟨_,SqL.of hfa⟩,?_⟩
   intro D hD
   refine comp_listD0 (σ0:=[none,none]) hD (SqL.of hfa) (fun σ=>∃u v,σ = [u,v]) (fun j zs _=>zs=((paths p).take j).map V.str) ⟨_,_,rfl⟩ rfl ?_ ?_
   · rintro j y zs σ H3 k hy ⟨u,v,rfl⟩ hd3 h3 rfl hk1
     obtain⟨f,hf,t,l,rfl,f1,f2⟩:=paired_get' hfs hy
     have hlt:=(List.getElem?_eq_some_iff.mp hf).1
     have hpj:(paths p)[j]? = some f.1:=by unfold paths;rw[List.getElem?_map,hf];rfl
     refine⟨t,_,rfl,SqT.of (h3 _ _ f1),rfl,_,_,rfl,_,_,rfl,rfl,?_⟩
     refine⟨_,rfl,hk1 _ _ _ ⟨_,_,rfl⟩ (Same.refl _) (small1000 (by rw[List.length_map,List.length_take];omega)) ?_⟩
     rw[take_snocP hpj,List.map_append]
     rfl
   · rintro zs H3 hd3 h3 rfl
     have e:(paths p).take xs.length=paths p:=List.take_of_length_le (by unfold paths;rw[List.length_map];omega)
     rw[e]at hd3
     exact q D H3 hD h3 hd3
end
end K41
namespace L2
open PySem PySem.Spec
theorem for_enum{K:PySem.W.Frag}{a:Addr}{xs:List V}{g:TG}{tb:TS}{D:Ends}{σ:St}{H:Hp}(Pv:Nat->St->Hp->Prop)(h0:Pv 0 σ H)(hl:∀i σ H,i<=xs.length->Pv i σ H->SqL K H a xs)
 (hs:∀i x p σ H,xs[i]? = some x->Pv i σ H->H p=none->g (.ref p) σ (upd H p (.tup [.int i,x])) fun σ2 H2=>tb { D with nx:=Pv (i+1),ct:=Pv (i+1),bk:=D.nx } σ2 H2) (hd:∀σ H,Pv xs.length σ H->D.nx σ H) :
 ∃W:Nat->Nat->St->Hp->Prop,(∃m,W 0 m σ H)/\∀i m σ H,W i m σ H ->
  ((Ite K a).stop i H/\D.nx σ H)\/((Ite K a).go i H/\∃N:St->Hp->Prop,(∀σ' H',N σ' H'->∃m',m'<m/\W (i+1) m' σ' H')/\∀x H',(Ite K a).yld i H x H'->g x σ H' fun σ2 H2=>tb { D with nx:=N,ct:=N,bk:=D.nx } σ2 H2):=by
 refine⟨fun i m σ H=>m=xs.length - i/\i<=xs.length/\Pv i σ H,⟨xs.length,by simp,Nat.zero_le _,h0⟩,?_⟩
 rintro i m σ H ⟨rfl,hi,p⟩
 have q:=hl i σ H hi p
 by_cases hlt:i<xs.length
 · refine .inr ⟨⟨xs,xs[i],q,by simp[hlt]⟩,Pv (i+1),fun σ' H' p'=>⟨xs.length - (i+1),by omega,rfl,hlt,p'⟩,fun x H' y=>?_⟩
   obtain⟨b,x',hb,e,rfl,rfl⟩:=y
   exact hs i x' b σ _ (e xs q) p hb
 · have e:i=xs.length:=by omega
   subst e
   exact .inl ⟨⟨xs,q,Nat.le_refl _⟩,hd σ H p⟩
end L2
namespace K41
open PySem L2 PySem.Spec
open HT (At lexK okK)
noncomputable def FltH(H:Hp)(v:V)(k:List At):Prop:=∃t,v = .ref t/\H t=some (.tup (k.map aV))
noncomputable abbrev FlsAt (H:Hp):List V->List (List At)->Prop:=Paired (FltH H)
theorem FltH.same{H H':Hp}(s:Same H H'){v:V}{k:List At}(h:FltH H v k):FltH H' v k:=h.elim fun t zq514=>zq514.elim fun a b=>⟨t,a,s _ _ b⟩
theorem FlsAt.same{H H':Hp}(s:Same H H'){vs:List V}{ks:List (List At)}(h:FlsAt H vs ks):FlsAt H' vs ks:=paired_mapP h fun _ _=>FltH.same s
theorem FltH.mut{H:Hp}{p:Addr}{ys:List V}{o:HO}(hp:H p=some (.lst ys)){v:V}{k:List At}(h:FltH H v k):FltH (upd H p o) v k:=h.elim fun t zq515=>zq515.elim fun a b=>⟨t,a,keep_upd b (ne_of b hp (by intro z;cases z))⟩
theorem FlsAt.mut{H:Hp}{p:Addr}{ys:List V}{o:HO}(hp:H p=some (.lst ys)){vs:List V}{ks:List (List At)}(h:FlsAt H vs ks):FlsAt (upd H p o) vs ks:=paired_mapP h fun _ _=>FltH.mut hp
theorem paired_app{α β:Type}{F:α->β->Prop}:∀{xs xs':List α} {ys ys':List β},Paired F xs ys->Paired F xs' ys'->Paired F (xs++xs') (ys++ys')
 | _,_,_,_,.nil,h=>h
 | _,_,_,_,.cons r t,h=>.cons r (paired_app t h)
theorem same_mut{H H2:Hp}{p:Addr}{o:HO}(n:H p=none)(s:Same H H2):Same H (upd H2 p o):=fun b u e=>keep_upd (s _ _ e) (ne_of_none e n)
noncomputable abbrev FlsNew (H:Hp) (ks:List (List At)) (Q:VK):Prop:=∀D H' ys,H D=none->Same H H'->H' D=some (.lst ys)->FlsAt H' ys ks->Q (.ref D) H'
theorem gath_leN{f:Nat->Clm->List (List At)}{m:Nat}(h:∀i x,(f i x).length<=m){l:List Clm}{i:Nat}:(gath f (l.take i) 0).length<=l.length * m:=
 Nat.le_trans (gath_len h) (Nat.mul_le_mul_right _ (by rw[List.length_take];omega))
theorem needI_le(p:Pcl)(ps:List Pcl)(i:Nat)(c:Clm):(needI p ps i c).length<=1:=by unfold needI;split<;>simp
theorem shutI_le(p:Pcl)(ps:List Pcl)(i:Nat)(c:Clm):(shutI p ps i c).length<=ps.length:=by
 unfold shutI others
 rw[List.length_map]
 exact Nat.le_trans (List.length_filter_le _ _) (List.length_filter_le _ _)
section
variable {P:Program} {w:World} {K:PySem.W.Frag} {mg:Str->Option Value} {base:Heap}
noncomputable def spFal(C:Addr)(f:Pcl->List Pcl->List (List At)):Sp:=fun vs H Q _=>∃(v:V) (a:Addr) (xs:List V) (p:Pcl) (ps:List Pcl),vs = [v,.ref a]/\PclAt C H v p/\H a=some (.lst xs)/\PclsAt C H xs ps/\ps.length<=9/\p.ns.length<=9/\p.ss.length<=9/\(∀o∈p::ps,o.fs.length<=9)/\FlsNew H (f p ps) Q
theorem scNFa:FnScope ["parcel","parcels","faults","number","claim"] ["parcel","parcels"] (defScope sNFa):=⟨rfl,rfl,rfl,by decide +kernel,rfl,by decide +kernel,by decide +kernel⟩
theorem okNFa{f fMtg fMee fWit C:Addr}{fd fdMtg fdMee fdWit:FuncData}(F:Fun K "need_faults" "need_faults" sNFa f fd)(B:Blt mg)(T:Txt K mg C)(FMtg:Fun K "meeting" "meeting" sMtg fMtg fdMtg)(mMtg:mg "meeting" = some (.ref fMtg))
 (FMee:Fun K "does_meet" "does_meet" sMee fMee fdMee) (mMee:mg "does_meet" = some (.ref fMee)) (FWit:Fun K "is_within" "is_within" sWit fWit fdWit) (mWit:mg "is_within" = some (.ref fWit)):FnOk P w K mg base CX0 4 f fd ["parcel","parcels"] (spFal C needF):=by
 have GMtg:FnOk P w K mg base CX0 3 fMtg fdMtg ["claim","parcels"] (spMtg C):=okMtg FMtg FMee mMee FWit mWit T
 have bMtg:=FMtg.binds2 (l:=["claim","parcels"]) (fun _ _ _ _ _ _ _ _=>rfl)
 refine F.ok scNFa (fun vs H Q E h=>?_) (fun cdv A outer s H vs Q E hr h=>?_)
 · obtain⟨v,a,xs,p,ps,rfl,_⟩:=h
   rfl
 · refine letX ?_
   intro xX dX
   obtain⟨v,a,xs,p,ps,rfl,⟨b,dx,fl,rk,m,pf,pn,pss,po,fx,rfl,hA,hF,hM,hfa,hfs,hO,hR,⟨cx,hcx,hcs⟩,_⟩,ha,hps,l1,l2,l3,l4,q⟩:=h
   refine⟨_,(pss_cons (ps_set (i:=2) scNFa.nd rfl (Or.inl rfl) (pe_lstN pa_nil))
    (pss_cons (ps_for PassesOwn.never rfl (pi_enum (by rfl) B.enumerate (pa_cons (pe_fld (pv 0) rfl) pa_nil)) (pg_tup rfl (pgs_cons (pg_name (i:=3) scNFa.nd rfl (Or.inl rfl)) (pgs_cons (pg_name (i:=4) scNFa.nd rfl (Or.inl rfl)) pgs_nil)))
    (pss_one (ps_if (pt_cmpR op_eq (pe_callB call_len_seq (by rfl) B.len PySem.boot_len (pa_cons (pe_call GMtg hr rfl mMtg FMtg.kp bMtg .nil pass0 (pa_cons (pv 4) (pa_cons (pv 1) pa_nil))) pa_nil)) pe_int (nomark _))
     (pss_one (ps_expr (pe_bm PySem.F.plainAttrs_list PySem.F.slot_list_append PySem.F.type_list_append mt_append (pv 2) (pa_cons (pe_tupN (pa_cons pe_str (pa_cons (pe_fld (pv 0) rfl) (pa_cons (pv 3) pa_nil)))) pa_nil)))) pss_nil)))
    (pss_one (ps_ret (pv 2))))),?_⟩
   refine lets3 ?_
   intro dD sS uU3 uU2
   refine⟨(by show 0<=sizeLine;decide),fun p1 H1 n1 s1 e1=>?_⟩
   refine⟨_,rfl,b,C,dx,_,_,rfl,s1 _ _ hA,T.cl,T.nE,hF.needs,pn,rfl,⟨_,SqL.of (s1 _ _ hcx)⟩,?_⟩
   have cl:=paired_len hcs
   refine for_enum (xs:=cx) (fun i σ H2=>∃u v zs,σ = [some (.ref b),some (.ref a),some (.ref p1),u,v]/\Same H H2/\H2 p1=some (.lst zs)/\FlsAt H2 zs (gath (needI p ps) (p.ns.take i) 0)) ⟨none,none,[],rfl,s1,e1,.nil⟩ ?_ ?_ ?_
   · intro i σ H2 hi hQ
     obtain⟨u,v,zs,rfl,s2,e2,z2⟩:=hQ
     exact SqL.of (s2 _ _ hcx)
   · intro i z t σ H2 hz hQ ht
     refine letG ?_
     intro tT
     obtain⟨u,v,zs,rfl,s2,e2,z2⟩:=hQ
     obtain⟨c,hc,hcH⟩:=paired_get' hcs hz
     have st:Same H2 (upd H2 t (.tup [.int i,z])):=same_upd ht
     refine⟨t,_,rfl,SqT.of upd_same,rfl,_,_,rfl,_,_,rfl,rfl,?_⟩
     have s3:=s2.trans st
     refine⟨_,rfl,_,rfl,z,a,c,xs,ps,rfl,hcH.same s3,s3 _ _ ha,hps.same s3,by omega,fun D H4 ys n4 s4 e4 z4=>⟨D,_,rfl,.inl (SqL.of e4),rfl,_,rfl,?_⟩⟩
     have lz:=paired_len z4
     have s24:=st.trans s4
     have gs:=gath_snoc (f:=needI p ps) hc
     have zl:=paired_len z2
     have gl:=gath_leN (m:=1) (needI_le p ps) (l:=p.ns) (i:=i)
     refine ite2 (fun h=>?_) (fun h=>?_)
     · have h0:ps.filter (meetB c) = []:=by
        have:=of_decide_eq_true h
        injection this with this
        exact List.eq_nil_of_length_eq_zero (by omega)
       refine⟨_,rfl,.inl ⟨rfl,_,SqL.of (s24 _ _ e2)⟩,_,rfl,b,C,dx,_,_,rfl,(s3.trans s4) _ _ hA,T.cl,T.nN,hF.name,_,rfl,(by show 3<=sizeLine;decide),fun p5 H5 n5 s5 e5=>?_⟩
       have e25:=(s24.trans s5) _ _ e2
       refine⟨p1,_,_,rfl,rfl,e25,small1000 (by omega),?_⟩
       refine⟨_,_,_,rfl,same_mut n1 ((s3.trans s4).trans s5),upd_same,?_⟩
       rw[gs,needI,if_pos h0]
       exact paired_snoc (FltH.mut (k:=[.inr needS,.inr p.nm,.inl i]) e25 ⟨p5,rfl,e5⟩) ((z2.same (s24.trans s5)).mut e25)
     · have h0:ps.filter (meetB c)≠[]:=fun z=>h (by rw[lz,z];exact decide_eq_true rfl)
       refine⟨_,_,zs,rfl,s3.trans s4,s24 _ _ e2,?_⟩
       rw[gs,needI,if_neg h0,List.append_nil]
       exact z2.same s24
   · intro σ H2 hQ
     obtain⟨u,v,zs,rfl,s2,e2,z2⟩:=hQ
     rw[cl,List.take_length]at z2
     exact⟨_,rfl,q p1 H2 zs n1 s2 e2 z2⟩
theorem scSFa:FnScope ["parcel","parcels","others","faults","number","claim"] ["parcel","parcels"] (defScope sSFa):=⟨rfl,rfl,rfl,by decide +kernel,rfl,by decide +kernel,by decide +kernel⟩
theorem okSFa{f fMtg fMee fWit C:Addr}{fd fdMtg fdMee fdWit:FuncData}(F:Fun K "shut_faults" "shut_faults" sSFa f fd)(B:Blt mg)(T:Txt K mg C)(FMtg:Fun K "meeting" "meeting" sMtg fMtg fdMtg)(mMtg:mg "meeting" = some (.ref fMtg))
 (FMee:Fun K "does_meet" "does_meet" sMee fMee fdMee) (mMee:mg "does_meet" = some (.ref fMee)) (FWit:Fun K "is_within" "is_within" sWit fWit fdWit) (mWit:mg "is_within" = some (.ref fWit)):FnOk P w K mg base CX0 4 f fd ["parcel","parcels"] (spFal C shutF):=by
 have GMtg:FnOk P w K mg base CX0 3 fMtg fdMtg ["claim","parcels"] (spMtg C):=okMtg FMtg FMee mMee FWit mWit T
 have bMtg:=FMtg.binds2 (l:=["claim","parcels"]) (fun _ _ _ _ _ _ _ _=>rfl)
 refine F.ok scSFa (fun vs H Q E h=>?_) (fun cdv A outer s H vs Q E hr h=>?_)
 · obtain⟨v,a,xs,p,ps,rfl,_⟩:=h
   rfl
 · refine letX ?_
   intro xX dX
   obtain⟨v,a,xs,p,ps,rfl,⟨b,dx,fl,rk,m,pf,pn,pss,po,fx,rfl,hA,hF,hM,hfa,hfs,hO,hR,_,⟨cx,hcx,hcs⟩⟩,ha,hps,l1,l2,l3,l4,q⟩:=h
   have hlen:=paired_len hps
   refine⟨_,(pss_cut (fun σ H2=>∃D zs,σ = [some (.ref b),some (.ref a),some (.ref D),none,none,none]/\Same H H2/\H2 D=some (.lst zs)/\PclsAt C H2 zs (others p ps)) (ps_setComp (i:=2) ["other"] ["parcel"] [0] scSFa.nd rfl rfl ⟨rfl,by decide +kernel,by decide +kernel,by decide +kernel,by decide +kernel,rfl,rfl,rfl⟩ rfl (pi_list (pv 1)) (fun _ _ _ _=>(pg_name (i:=0) (show List.Nodup (["other","parcel"]:List Str) by decide +kernel) rfl (Or.inl rfl))) (fun _ _ _ _=>pts_one (pt_cmpR op_ne (pe_fldK K (pv 0) rfl) (pe_fldK K (pv 1) rfl) (nomark _))) (fun _ _ _ _=>(pv 0)))
    (pss_cons (ps_set (i:=3) scSFa.nd rfl (Or.inl rfl) (pe_lstN pa_nil))
    (pss_cons (ps_for PassesOwn.never rfl (pi_enum (by rfl) B.enumerate (pa_cons (pe_fld (pv 0) rfl) pa_nil)) (pg_tup rfl (pgs_cons (pg_name (i:=4) scSFa.nd rfl (Or.inr rfl)) (pgs_cons (pg_name (i:=5) scSFa.nd rfl (Or.inl rfl)) pgs_nil)))
    (pss_one (ps_expr (pe_bm PySem.F.plainAttrs_list PySem.F.slot_list_extend PySem.F.type_list_extend mt_extend (pv 3) (pa_cons (pe_compF ["other"] ["parcel","number"] [0,4] ⟨rfl,by decide +kernel,by decide +kernel,by decide +kernel,by decide +kernel,rfl,rfl,rfl⟩ rfl (pi_list (pe_call GMtg hr rfl mMtg FMtg.kp bMtg .nil pass0 (pa_cons (pv 5) (pa_cons (pv 2) pa_nil)))) (fun _ _ _ _=>(pg_name (i:=0) (show List.Nodup (["other","parcel","number"]:List Str) by decide +kernel) rfl (Or.inl rfl))) (fun _ _ _ _=>pts_nil) (fun _ _ _ _=>(pe_tupN (pa_cons pe_str (pa_cons (pe_fldK K (pv 1) rfl) (pa_cons (pv 2) (pa_cons (pe_fldK K (pv 0) rfl) pa_nil))))))) pa_nil)))))
    (pss_one (ps_ret (pv 3)))))),?_⟩
   refine⟨?_,?_⟩
   · refine⟨_,rfl,a,rfl,⟨_,SqL.of ha⟩,?_⟩
     intro D hD
     refine comp_listD (σ0:=[none,some (.ref b)]) hD (SqL.of ha) (fun σ=>∃v,σ = [v,some (.ref b)]) (fun j zs _=>zs.length<=j/\PclsAt C H zs (others p (ps.take j))) ⟨_,rfl⟩ ⟨Nat.le_refl _,.nil⟩ ?_ ?_
     · rintro j y zs σ H3 k k' hy ⟨v,rfl⟩ hd3 h3 ⟨zl,zp⟩ hk1 hk2
       obtain⟨o,ho,hE⟩:=paired_get' hps hy
       have hlt:=(List.getElem?_eq_some_iff.mp ho).1
       obtain⟨b',dx',fl',rk',m',pf',pn',pss',po',fx',rfl,hA',hF',_⟩:=id hE
       refine⟨_,rfl,b',C,dx',_,_,rfl,h3 _ _ hA',T.cl,T.nN,hF'.name,_,rfl,b,C,dx,_,_,rfl,h3 _ _ hA,T.cl,T.nN,hF.name,rfl,_,rfl,?_⟩
       refine ite2 (fun h=>?_) (fun h=>?_)
       · refine⟨_,rfl,hk1 _ _ _ ⟨_,rfl⟩ (Same.refl _) (small1000 (by omega)) ⟨by rw[List.length_append,List.length_singleton];omega,?_⟩⟩
         have h0:o.nm≠p.nm:=fun z=>by
          rw[z]at h
          simp at h
         unfold others
         rw[filter_take ho,if_pos (decide_eq_true h0)]
         exact paired_snoc hE zp
       · refine hk2 _ _ ⟨_,rfl⟩ (Same.refl _) ⟨by omega,?_⟩
         have h0:¬o.nm≠p.nm:=fun z=>h (by simpa using z)
         unfold others
         rw[filter_take ho,if_neg (by rw[decide_eq_false h0];decide),List.append_nil]
         exact zp
     · rintro zs H3 hd3 h3 ⟨zl,zp⟩
       rw[hlen,List.take_length]at zp
       exact⟨D,zs,rfl,h3,hd3,zp.same h3⟩
   · intro σ' H0 hQ0
     obtain⟨D0,oz,rfl,s0,d0,oz0⟩:=hQ0
     refine⟨(by show 0<=sizeLine;decide),fun p1 H1 n1 s1 e1=>?_⟩
     have s01:=s0.trans s1
     have nh1:H p1=none:=s0.free n1
     refine⟨_,rfl,b,C,dx,_,_,rfl,s01 _ _ hA,T.cl,T.nS,hF.shuts,pss,rfl,⟨_,SqL.of (s01 _ _ hcx)⟩,?_⟩
     have cl:=paired_len hcs
     refine for_enum (xs:=cx) (fun i σ H2=>∃u v zs,σ = [some (.ref b),some (.ref a),some (.ref D0),some (.ref p1),u,v]/\Same H0 H2/\H2 p1=some (.lst zs)/\FlsAt H2 zs (gath (shutI p ps) (p.ss.take i) 0)) ⟨none,none,[],rfl,s1,e1,.nil⟩ ?_ ?_ ?_
     · intro i σ H2 hi hQ
       obtain⟨u,v,zs,rfl,s2,e2,z2⟩:=hQ
       exact SqL.of (s2 _ _ (s0 _ _ hcx))
     · intro i z t σ H2 hz hQ ht
       refine letG ?_
       intro tT
       obtain⟨u,v,zs,rfl,s2,e2,z2⟩:=hQ
       obtain⟨c,hc,hcH⟩:=paired_get' hcs hz
       have st:Same H2 (upd H2 t (.tup [.int i,z])):=same_upd ht
       refine⟨t,_,rfl,SqT.of upd_same,rfl,_,_,rfl,_,_,rfl,rfl,?_⟩
       have s3:=s2.trans st
       have ol:(others p ps).length<=ps.length:=List.length_filter_le _ _
       refine⟨_,rfl,.inl ⟨rfl,_,SqL.of (st _ _ e2)⟩,_,rfl,_,rfl,z,D0,c,oz,others p ps,rfl,hcH.same (s0.trans s3),s3 _ _ d0,oz0.same s3,by omega,fun D H4 ys n4 s4 e4 z4=>⟨D,rfl,⟨_,SqL.of e4⟩,?_⟩⟩
       have lz:=paired_len z4
       have s34:=s3.trans s4
       have gs:=gath_snoc (f:=shutI p ps) hc
       have zl:=paired_len z2
       have gl:=Nat.le_trans (gath_leN (m:=ps.length) (shutI_le p ps) (l:=p.ss) (i:=i)) (Nat.mul_le_mul l3 l1)
       have fl':((others p ps).filter (meetB c)).length<=ps.length:=Nat.le_trans (List.length_filter_le _ _) ol
       intro D5 hD5
       refine comp_listD0 (σ0:=[none,some (.ref b),some (.int i)]) hD5 (SqL.of e4) (fun σ=>∃v,σ = [v,some (.ref b),some (.int i)]) (fun j zs' H5=>FlsAt H5 zs' ((((others p ps).filter (meetB c)).take j).map fun o=>[.inr shutS,.inr p.nm,.inl i,.inr o.nm])) ⟨_,rfl⟩ .nil ?_ ?_
       · rintro j y zs' σ H5 k hy ⟨v,rfl⟩ hd5 h5 zp hk1
         obtain⟨o,ho,b',dx',fl'',rk',m',pf',pn',pss',po',fx',rfl,hA',hF',_⟩:=paired_get' z4 hy
         have hlt:=(List.getElem?_eq_some_iff.mp ho).1
         have zl':=paired_len zp
         rw[List.length_map,List.length_take]at zl'
         refine⟨_,rfl,b,C,dx,_,_,rfl,((s0.trans s34).trans h5) _ _ hA,T.cl,T.nN,hF.name,_,rfl,_,rfl,b',C,dx',_,_,rfl,h5 _ _ hA',T.cl,T.nN,hF'.name,(by show 4<=sizeLine;decide),fun p6 H6 n6 s6 e6=>?_⟩
         have d6:=s6 _ _ hd5
         refine hk1 _ _ _ ⟨_,rfl⟩ s6 (small1000 (by omega)) ?_
         rw[take_snocP ho,List.map_append]
         exact paired_snoc (FltH.mut (k:=[.inr shutS,.inr p.nm,.inl i,.inr o.nm]) d6 ⟨p6,rfl,e6⟩) ((zp.same s6).mut d6)
       · rintro zs' H5 hd5 h5 zp
         rw[List.take_of_length_le (by omega)]at zp
         have zl':=paired_len zp
         rw[List.length_map]at zl'
         have e25:=(st.trans (s4.trans h5)) _ _ e2
         refine⟨p1,D5,_,_,rfl,rfl,e25,hd5,Nat.le_of_lt (small1000 (by omega)),?_⟩
         refine⟨_,_,_,rfl,same_mut n1 (s34.trans h5),upd_same,?_⟩
         rw[gs]
         exact paired_app ((z2.same (st.trans (s4.trans h5))).mut e25) (zp.mut e25)
     · intro σ H2 hQ
       obtain⟨u,v,zs,rfl,s2,e2,z2⟩:=hQ
       rw[cl,List.take_length]at z2
       exact⟨_,rfl,q p1 H2 zs nh1 (s0.trans s2) e2 z2⟩
end
end K41
namespace K41
open PySem L2 PySem.Spec PyProof.Rows
open HT (At lexK okK)
theorem inV_strs{z:Str}{xs:List Str}:inV (.str z) (xs.map V.str)=true↔z∈xs:=by
 unfold inV
 rw[List.any_eq_true]
 constructor
 · rintro⟨v,hv,e⟩
   obtain⟨y,hy,rfl⟩:=List.mem_map.mp hv
   have:y=z:=by simpa [eqV]using e
   rw[←this];exact hy
 · intro h
   exact⟨.str z,List.mem_map_of_mem h,by simp[eqV]⟩
theorem flat_le{α β:Type}{f:α->List β}{l:List α}{i:Nat}:((l.take i).flatMap f).length<=(l.flatMap f).length:=by
 have e:l.flatMap f=(l.take i).flatMap f++(l.drop i).flatMap f:=by rw[←List.flatMap_append,List.take_append_drop]
 rw[e,List.length_append]
 omega
theorem clashI_le{p o:Pcl}:(clashI p o).length<=p.fs.length:=by
 unfold clashI both paths
 rw[List.length_map]
 exact Nat.le_trans (List.length_filter_le _ _) (by rw[List.length_map];exact Nat.le_refl _)
section
variable {P:Program} {w:World} {K:PySem.W.Frag} {mg:Str->Option Value} {base:Heap}
theorem scCFa:FnScope ["parcel","parcels","others","faults","other","paths"] ["parcel","parcels"] (defScope sCFa):=⟨rfl,rfl,rfl,by decide +kernel,rfl,by decide +kernel,by decide +kernel⟩
theorem okCFa{f fPat C:Addr}{fd fdPat:FuncData}(F:Fun K "clash_faults" "clash_faults" sCFa f fd)(B:Blt mg)(T:Txt K mg C)(FPat:Fun K "paths_of" "paths_of" sPat fPat fdPat)(mPat:mg "paths_of" = some (.ref fPat)):FnOk P w K mg base CX0 2 f fd ["parcel","parcels"] (spFal C clashF):=by
 have GPat:FnOk P w K mg base CX0 1 fPat fdPat ["parcel"] (spPat C):=okPat FPat T
 have bPat:=FPat.binds1 (l:=["parcel"]) (fun _ _ _ _ _ _ _=>rfl)
 refine F.ok scCFa (fun vs H Q E h=>?_) (fun cdv A outer s H vs Q E hr h=>?_)
 · obtain⟨v,a,xs,p,ps,rfl,_⟩:=h
   rfl
 · refine letX ?_
   intro xX dX
   obtain⟨v,a,xs,p,ps,rfl,hP,ha,hps,l1,l2,l3,l4,q⟩:=h
   obtain⟨b,dx,fl,rk,m,pf,pn,pss,po,fx,rfl,hA,hF,_⟩:=id hP
   have hlen:=paired_len hps
   have lp:p.fs.length<=9:=l4 p (.head _)
   refine⟨_,(pss_cut (fun σ H2=>∃D zs,σ = [some (.ref b),some (.ref a),some (.ref D),none,none,none]/\Same H H2/\H2 D=some (.lst zs)/\PclsAt C H2 zs (ps.filter fun o=>isLt p.nm o.nm)) (ps_setComp (i:=2) ["other"] ["parcel"] [0] scCFa.nd rfl rfl ⟨rfl,by decide +kernel,by decide +kernel,by decide +kernel,by decide +kernel,rfl,rfl,rfl⟩ rfl (pi_list (pv 1)) (fun _ _ _ _=>(pg_name (i:=0) (show List.Nodup (["other","parcel"]:List Str) by decide +kernel) rfl (Or.inl rfl))) (fun _ _ _ _=>pts_one (pt_cmpR op_gt_str (pe_fldK K (pv 0) rfl) (pe_fldK K (pv 1) rfl) (nomark _))) (fun _ _ _ _=>(pv 0)))
    (pss_cons (ps_set (i:=3) scCFa.nd rfl (Or.inl rfl) (pe_lstN pa_nil))
    (pss_cons (ps_for PassesOwn.never rfl (pi_list (pv 2)) (pg_name (i:=4) scCFa.nd rfl (Or.inr rfl))
    (pss_cons (ps_set (i:=5) scCFa.nd rfl (Or.inr rfl) (pe_call GPat hr rfl mPat FPat.kp bPat .nil pass0 (pa_cons (pv 4) pa_nil)))
     (pss_one (ps_expr (pe_bm PySem.F.plainAttrs_list PySem.F.slot_list_extend PySem.F.type_list_extend mt_extend (pv 3) (pa_cons (pe_compF ["path"] ["parcel","other","paths"] [0,4,5] ⟨rfl,by decide +kernel,by decide +kernel,by decide +kernel,by decide +kernel,rfl,rfl,rfl⟩ rfl (pi_list (pe_call GPat hr rfl mPat FPat.kp bPat .nil pass0 (pa_cons (pv 0) pa_nil))) (fun _ _ _ _=>(pg_name (i:=0) (show List.Nodup (["path","parcel","other","paths"]:List Str) by decide +kernel) rfl (Or.inl rfl))) (fun _ _ _ _=>pts_one (pt_cmpR (op_inK K) (pv 0) (pv 3) (by rfl))) (fun _ _ _ _=>(pe_tupN (pa_cons pe_str (pa_cons (pe_fldK K (pv 1) rfl) (pa_cons (pe_fldK K (pv 2) rfl) (pa_cons (pv 0) pa_nil))))))) pa_nil))))))
    (pss_one (ps_ret (pv 3)))))),?_⟩
   refine⟨?_,?_⟩
   · refine⟨_,rfl,a,rfl,⟨_,SqL.of ha⟩,?_⟩
     intro D hD
     refine comp_listD (σ0:=[none,some (.ref b)]) hD (SqL.of ha) (fun σ=>∃v,σ = [v,some (.ref b)]) (fun j zs _=>zs.length<=j/\PclsAt C H zs ((ps.take j).filter fun o=>isLt p.nm o.nm)) ⟨_,rfl⟩ ⟨Nat.le_refl _,.nil⟩ ?_ ?_
     · rintro j y zs σ H3 k k' hy ⟨v,rfl⟩ hd3 h3 ⟨zl,zp⟩ hk1 hk2
       obtain⟨o,ho,hE⟩:=paired_get' hps hy
       have hlt:=(List.getElem?_eq_some_iff.mp ho).1
       obtain⟨b',dx',fl',rk',m',pf',pn',pss',po',fx',rfl,hA',hF',_⟩:=id hE
       refine⟨_,rfl,b',C,dx',_,_,rfl,h3 _ _ hA',T.cl,T.nN,hF'.name,_,rfl,b,C,dx,_,_,rfl,h3 _ _ hA,T.cl,T.nN,hF.name,_,_,rfl,rfl,_,rfl,?_⟩
       refine ite2 (fun h=>?_) (fun h=>?_)
       · refine⟨_,rfl,hk1 _ _ _ ⟨_,rfl⟩ (Same.refl _) (small1000 (by omega)) ⟨by rw[List.length_append,List.length_singleton];omega,?_⟩⟩
         rw[filter_take ho,if_pos (show isLt p.nm o.nm=true from h)]
         exact paired_snoc hE zp
       · refine hk2 _ _ ⟨_,rfl⟩ (Same.refl _) ⟨by omega,?_⟩
         rw[filter_take ho,if_neg (show ¬isLt p.nm o.nm=true from h),List.append_nil]
         exact zp
     · rintro zs H3 hd3 h3 ⟨zl,zp⟩
       rw[hlen,List.take_length]at zp
       exact⟨D,zs,rfl,h3,hd3,zp.same h3⟩
   · intro σ' H0 hQ0
     obtain⟨D0,oz,rfl,s0,d0,oz0⟩:=hQ0
     refine⟨(by show 0<=sizeLine;decide),fun p1 H1 n1 s1 e1=>?_⟩
     have nh1:H p1=none:=s0.free n1
     refine⟨_,rfl,D0,rfl,⟨_,SqL.of (s1 _ _ d0)⟩,?_⟩
     have ol:(ps.filter fun o=>isLt p.nm o.nm).length<=ps.length:=List.length_filter_le _ _
     have ozl:=paired_len oz0
     have tot:((ps.filter fun o=>isLt p.nm o.nm).flatMap (clashI p)).length<=81:=by
      refine Nat.le_trans (flat_len (m:=9) (fun o=>Nat.le_trans clashI_le lp) _) ?_
      omega
     refine for_list (xs:=oz) (fun i σ H2=>∃u v zs,σ = [some (.ref b),some (.ref a),some (.ref D0),some (.ref p1),u,v]/\Same H0 H2/\H2 p1=some (.lst zs)/\FlsAt H2 zs (((ps.filter fun o=>isLt p.nm o.nm).take i).flatMap (clashI p))) ⟨none,none,[],rfl,s1,e1,.nil⟩ ?_ ?_ ?_
     · intro i σ H2 hi hQ
       obtain⟨u,v,zs,rfl,s2,e2,z2⟩:=hQ
       exact SqL.of (s2 _ _ d0)
     · intro i z σ H2 hz hQ
       refine letG ?_
       intro tT
       obtain⟨u,v,zs,rfl,s2,e2,z2⟩:=hQ
       obtain⟨o,ho,hE⟩:=paired_get' oz0 hz
       have om:o∈ps:=(List.mem_filter.mp (List.mem_of_getElem? ho)).1
       have lo:o.fs.length<=9:=l4 o (.tail _ om)
       obtain⟨b',dx',fl',rk',m',pf',pn',pss',po',fx',rfl,hA',hF',_⟩:=id hE
       refine⟨_,rfl,_,o,rfl,hE.same s2,by omega,fun l5 H5 n5 s5 e5=>?_⟩
       have s25:=s2.trans s5
       refine⟨_,rfl,.inl ⟨rfl,_,SqL.of (s5 _ _ e2)⟩,_,rfl,_,p,rfl,hP.same (s0.trans s25),by omega,fun l6 H6 n6 s6 e6=>⟨l6,rfl,⟨_,SqL.of e6⟩,?_⟩⟩
       have zl:=paired_len z2
       have gs:=flat_snoc (f:=clashI p) ho
       have gl:=flat_le (f:=clashI p) (l:=ps.filter fun o=>isLt p.nm o.nm) (i:=i)
       intro D7 hD7
       refine comp_listD (σ0:=[none,some (.ref b),some (.ref b'),some (.ref l5)]) hD7 (SqL.of e6) (fun σ=>∃v,σ = [v,some (.ref b),some (.ref b'),some (.ref l5)]) (fun j zs' H7=>zs'.length<=j/\FlsAt H7 zs' ((((paths p).take j).filter fun x=>decide (x∈paths o)).map fun x=>[.inr clashS,.inr p.nm,.inr o.nm,.inr x])) ⟨_,rfl⟩ ⟨Nat.le_refl _,.nil⟩ ?_ ?_
       · rintro j y zs' σ H7 k k' hy ⟨v,rfl⟩ hd7 h7 ⟨zl',zp⟩ hk1 hk2
         rw[List.getElem?_map]at hy
         cases hx:(paths p)[j]? with
         | none=>rw[hx]at hy;cases hy
         | some x=>
          rw[hx]at hy
          cases hy
          have hlt:=(List.getElem?_eq_some_iff.mp hx).1
          have pl:(paths p).length=p.fs.length:=by unfold paths;rw[List.length_map]
          refine⟨_,rfl,_,rfl,l5,_,rfl,.inl (SqL.of (h7 _ _ (s6 _ _ e5))),rfl,flat_strs _,_,rfl,?_⟩
          refine ite2 (fun h=>?_) (fun h=>?_)
          · have h0:x∈paths o:=inV_strs.mp h
            refine⟨_,rfl,b,C,dx,_,_,rfl,((s0.trans s25).trans (s6.trans h7)) _ _ hA,T.cl,T.nN,hF.name,_,rfl,b',C,dx',_,_,rfl,(s25.trans (s6.trans h7)) _ _ hA',T.cl,T.nN,hF'.name,_,rfl,(by show 4<=sizeLine;decide),fun p8 H8 n8 s8 e8=>?_⟩
            have d8:=s8 _ _ hd7
            refine hk1 _ _ _ ⟨_,rfl⟩ s8 (small1000 (by omega)) ⟨by rw[List.length_append,List.length_singleton];omega,?_⟩
            rw[filter_take hx,if_pos (decide_eq_true h0),List.map_append]
            exact paired_snoc (FltH.mut (k:=[.inr clashS,.inr p.nm,.inr o.nm,.inr x]) d8 ⟨p8,rfl,e8⟩) ((zp.same s8).mut d8)
          · have h0:x∉paths o:=fun z=>h (inV_strs.mpr z)
            refine hk2 _ _ ⟨_,rfl⟩ (Same.refl _) ⟨by omega,?_⟩
            rw[filter_take hx,if_neg (by rw[decide_eq_false h0];decide),List.append_nil]
            exact zp
       · rintro zs' H7 hd7 h7 ⟨zl',zp⟩
         rw[List.length_map,List.take_length]at zp
         have zl2:=paired_len zp
         have cl:(clashI p o).length<=9:=Nat.le_trans clashI_le lp
         have zl3:zs'.length=(clashI p o).length:=zl2
         have e27:=(s5.trans (s6.trans h7)) _ _ e2
         refine⟨p1,D7,_,_,rfl,rfl,e27,hd7,Nat.le_of_lt (small1000 (by omega)),?_⟩
         refine⟨_,_,_,rfl,same_mut n1 (s25.trans (s6.trans h7)),upd_same,?_⟩
         rw[gs]
         exact paired_app ((z2.same (s5.trans (s6.trans h7))).mut e27) (zp.mut e27)
     · intro σ H2 hQ
       obtain⟨u,v,zs,rfl,s2,e2,z2⟩:=hQ
       rw[ozl,List.take_length]at z2
       exact⟨_,rfl,q p1 H2 zs nh1 (s0.trans s2) e2 z2⟩
end
theorem isLt_of{l:List Str}(h:sortedS l=true)(nd:l.Nodup):l.Pairwise fun a b=>isLt a b=true:=by
 have h1:=sorted_pw h
 refine(List.Pairwise.and h1 nd).imp fun {a b} z=>?_
 obtain⟨z1,z2⟩:=z
 have e:=ltX_anti z2
 unfold isLt
 rw[e,decide_eq_false (List.not_lt.mpr z1)]
 rfl
theorem ats_of_fls{H:Hp}:∀{ys:List V} {ks:List (List At)},FlsAt H ys ks->(∀k∈ks,Kd k)->AtsAt H ys ks:=by
 intro ys ks h
 induction h with
 | nil=>exact fun _=>.nil
 | cons r t ih=>
  intro hk
  obtain⟨t',rfl,e⟩:=r
  exact .cons ⟨t',rfl,e,kd_first (hk _ (.head _))⟩ (ih fun k hk'=>hk k (.tail _ hk'))
end K41
namespace K41
open PySem L2 PySem.Spec PyProof.Rows
open HT (At lexK okK)
theorem AtsAt.same{H H':Hp}(s:Same H H'){ys:List V}{ks:List (List At)}(h:AtsAt H ys ks):AtsAt H' ys ks:=paired_mapP h fun _ _ zq403=>zq403.elim fun t zq404=>zq404.elim fun a zq405=>zq405.elim fun b c=>⟨t,a,s _ _ b,c⟩
theorem inn_pcls{C:Addr}{H:Hp}{xs:List V}{ps:List Pcl}(h:PclsAt C H xs ps):∀{vs:List V} {qs:List Pcl},Paired (Inn xs ps) vs qs->PclsAt C H vs qs:=by
 intro vs qs p
 induction p with
 | nil=>exact .nil
 | cons r t ih=>
  obtain⟨j,j1,j2⟩:=r
  obtain⟨x,hx,hp⟩:=paired_get h j1
  rw[j2]at hx
  cases hx
  exact .cons hp ih
theorem inn_mem{xs:List V}{ps:List Pcl}:∀{vs:List V} {qs:List Pcl},Paired (Inn xs ps) vs qs->∀q∈qs,q∈ps:=by
 intro vs qs p
 induction p with
 | nil=>exact fun _ h=>nomatch h
 | cons r t ih=>
  intro q hq
  obtain⟨j,j1,j2⟩:=r
  rcases List.mem_cons.mp hq with rfl | hq
  · exact List.mem_of_getElem? j1
  · exact ih q hq
structure Told(ps:List Pcl)(ch:Ch)(ks:List (List At)):Prop where
 ex:∃qs:List Pcl,(∀q∈qs,q∈ps/\(q.nm,q.ms)∈ch)/\(qs.map (·.nm)).Perm (ch.map (·.1))/\ks.Perm (allF qs)
 so:ks.Pairwise fun x y=>lexK x y=true
noncomputable abbrev TldNew (H:Hp) (ps:List Pcl) (ch:Ch) (Q:VK):Prop:=∀D H' ys ks,H D=none->Same H H'->H' D=some (.lst ys)->AtsAt H' ys ks->Told ps ch ks->Q (.ref D) H'
structure SetAt(C S:Addr)(H:Hp)(sv:V)(c:Addr)(ps:List Pcl)(ch:Ch):Prop where
 sh:∃xs,ShelfAt S H sv xs ps/\PclsAt C H xs ps/\Valid xs ps ch
 cho:ChoAt H c ch
 nd:(ch.map (·.1)).Nodup
 four:ch.length<=8
 few:∀p∈ps,Few p
section
variable {P:Program} {w:World} {K:PySem.W.Frag} {mg:Str->Option Value} {base:Heap}
noncomputable def spFOf(C S:Addr):Sp:=fun vs H Q _=>∃(sv:V) (c:Addr) (ps:List Pcl) (ch:Ch),vs = [sv,.ref c]/\SetAt C S H sv c ps ch/\TldNew H ps ch Q
structure Defs(K:PySem.W.Frag)(mg:Str->Option Value)(C S:Addr):Prop where
 B:Blt mg
 T:Txt K mg C
 wit:∃f fd,Fun K "is_within" "is_within" sWit f fd/\mg "is_within" = some (.ref f)
 mee:∃f fd,Fun K "does_meet" "does_meet" sMee f fd/\mg "does_meet" = some (.ref f)
 mtg:∃f fd,Fun K "meeting" "meeting" sMtg f fd/\mg "meeting" = some (.ref f)
 nfa:∃f fd,Fun K "need_faults" "need_faults" sNFa f fd/\mg "need_faults" = some (.ref f)
 sfa:∃f fd,Fun K "shut_faults" "shut_faults" sSFa f fd/\mg "shut_faults" = some (.ref f)
 cfa:∃f fd,Fun K "clash_faults" "clash_faults" sCFa f fd/\mg "clash_faults" = some (.ref f)
 pat:∃f fd,Fun K "paths_of" "paths_of" sPat f fd/\mg "paths_of" = some (.ref f)
 pof:∃f fd,Fun K "parcels_of" "parcels_of" sPOf f fd/\mg "parcels_of" = some (.ref f)
 shf:∃fN fM f fd,TxtS K mg S fN fM f/\Fun K "parcel" "Shelf.parcel" sSPa f fd
theorem scFOf:FnScope ["shelf","chosen","parcels","faults","parcel"] ["shelf","chosen"] (defScope sFOf):=⟨rfl,rfl,rfl,by decide +kernel,rfl,by decide +kernel,by decide +kernel⟩
theorem okFOf{f C S:Addr}{fd:FuncData}(F:Fun K "faults_of" "faults_of" sFOf f fd)(D:Defs K mg C S):FnOk P w K mg base CX0 5 f fd ["shelf","chosen"] (spFOf C S):=by
 have B:=D.B
 have T:=D.T
 obtain⟨fWit,fdWit,FWit,mWit⟩:=D.wit
 obtain⟨fMee,fdMee,FMee,mMee⟩:=D.mee
 obtain⟨fMtg,fdMtg,FMtg,mMtg⟩:=D.mtg
 obtain⟨fNFa,fdNFa,FNFa,mNFa⟩:=D.nfa
 obtain⟨fSFa,fdSFa,FSFa,mSFa⟩:=D.sfa
 obtain⟨fCFa,fdCFa,FCFa,mCFa⟩:=D.cfa
 obtain⟨fPat,fdPat,FPat,mPat⟩:=D.pat
 obtain⟨fPOf,fdPOf,FPOf,mPOf⟩:=D.pof
 obtain⟨fN,fM,fSPa,fdSPa,U,FSPa⟩:=D.shf
 have GPOf:FnOk P w K mg base CX0 2 fPOf fdPOf ["shelf","chosen"] (spPOf S):=okPOf FPOf B U FSPa
 have GNFa:FnOk P w K mg base CX0 4 fNFa fdNFa ["parcel","parcels"] (spFal C needF):=okNFa FNFa B T FMtg mMtg FMee mMee FWit mWit
 have GSFa:FnOk P w K mg base CX0 4 fSFa fdSFa ["parcel","parcels"] (spFal C shutF):=okSFa FSFa B T FMtg mMtg FMee mMee FWit mWit
 have GCFa:FnOk P w K mg base CX0 2 fCFa fdCFa ["parcel","parcels"] (spFal C clashF):=okCFa FCFa B T FPat mPat
 have bPOf:=FPOf.binds2 (l:=["shelf","chosen"]) (fun _ _ _ _ _ _ _ _=>rfl)
 have bNFa:=FNFa.binds2 (l:=["parcel","parcels"]) (fun _ _ _ _ _ _ _ _=>rfl)
 have bSFa:=FSFa.binds2 (l:=["parcel","parcels"]) (fun _ _ _ _ _ _ _ _=>rfl)
 have bCFa:=FCFa.binds2 (l:=["parcel","parcels"]) (fun _ _ _ _ _ _ _ _=>rfl)
 refine F.ok scFOf (fun vs H Q E h=>?_) (fun cdv A outer s H vs Q E hr h=>?_)
 · obtain⟨sv,c,ps,ch,rfl,_⟩:=h
   rfl
 · refine letX ?_
   intro xX dX
   obtain⟨sv,c,ps,ch,rfl,⟨⟨xs,hS,hps,hV⟩,hC,hnd,h4,hfw⟩,q⟩:=h
   have hr2:=hr.mono (j:=2) (by decide)
   refine⟨_,(pss_cons (ps_set (i:=2) scFOf.nd rfl (Or.inl rfl) (pe_call GPOf hr2 rfl mPOf FPOf.kp bPOf .nil pass0 (pa_cons (pv 0) (pa_cons (pv 1) pa_nil))))
    (pss_cons (ps_set (i:=3) scFOf.nd rfl (Or.inl rfl) (pe_lstN pa_nil))
    (pss_cons (ps_for PassesOwn.never rfl (pi_list (pv 2)) (pg_name (i:=4) scFOf.nd rfl (Or.inl rfl))
    (pss_cons (ps_expr (pe_bm PySem.F.plainAttrs_list PySem.F.slot_list_extend PySem.F.type_list_extend mt_extend (pv 3) (pa_cons (pe_call GNFa hr rfl mNFa FNFa.kp bNFa .nil pass0 (pa_cons (pv 4) (pa_cons (pv 2) pa_nil))) pa_nil)))
     (pss_cons (ps_expr (pe_bm PySem.F.plainAttrs_list PySem.F.slot_list_extend PySem.F.type_list_extend mt_extend (pv 3) (pa_cons (pe_call GSFa hr rfl mSFa FSFa.kp bSFa .nil pass0 (pa_cons (pv 4) (pa_cons (pv 2) pa_nil))) pa_nil)))
     (pss_one (ps_expr (pe_bm PySem.F.plainAttrs_list PySem.F.slot_list_extend PySem.F.type_list_extend mt_extend (pv 3) (pa_cons (pe_call GCFa hr2 rfl mCFa FCFa.kp bCFa .nil pass0 (pa_cons (pv 4) (pa_cons (pv 2) pa_nil))) pa_nil)))))))
    (pss_one (ps_ret (pe_callB call_sortedA (by rfl) B.sorted PyProof.Rows.boot_sorted (pa_cons (pv 3) pa_nil))))))),?_⟩
   refine lets4 ?_
   intro dD sS uU4 uU3 uU2
   refine⟨_,rfl,_,rfl,sv,c,xs,ps,ch,rfl,hS,hC,hV,by omega,fun D0 H0 vs qs n0 s0 d0 hin hnm hcm hso=>?_⟩
   have hqs:PclsAt C H0 vs qs:=inn_pcls (hps.same s0) hin
   have qm:=inn_mem hin
   have qf:∀q∈qs,Few q:=fun q hq=>hfw q (qm q hq)
   have qn:(qs.map (·.nm)).Nodup:=hnm.nodup_iff.mpr hnd
   have q4:qs.length<=8:=by
    have:=hnm.length_eq
    rw[List.length_map,List.length_map]at this
    omega
   have qso:qs.Pairwise fun a b=>isLt a.nm b.nm=true:=List.pairwise_map.mp (isLt_of hso qn)
   have tot:=all_len qf qso q4
   have vl:=paired_len hqs
   have qle:∀q∈qs,∀o∈q::qs,o.fs.length<=9:=fun q hq o ho=>by
    have hm:o∈qs:=by
     rcases List.mem_cons.mp ho with rfl | ho
     · exact hq
     · exact ho
    have:=(qf o hm).fs
    omega
   refine⟨(by show 0<=sizeLine;decide),fun p1 H1 n1 s1 e1=>?_⟩
   have nh1:H p1=none:=s0.free n1
   refine⟨_,rfl,D0,rfl,⟨_,SqL.of (s1 _ _ d0)⟩,?_⟩
   refine for_list (xs:=vs) (fun i σ H2=>∃u zs,σ = [some sv,some (.ref c),some (.ref D0),some (.ref p1),u]/\Same H0 H2/\H2 p1=some (.lst zs)/\FlsAt H2 zs ((qs.take i).flatMap (oneF qs))) ⟨none,[],rfl,s1,e1,.nil⟩ ?_ ?_ ?_
   · intro i σ H2 hi hQ
     obtain⟨u,zs,rfl,s2,e2,z2⟩:=hQ
     exact SqL.of (s2 _ _ d0)
   · intro i z σ H2 hz hQ
     refine letG ?_
     intro tT
     obtain⟨u,zs,rfl,s2,e2,z2⟩:=hQ
     obtain⟨p,hp,hE⟩:=paired_get' hqs hz
     have pm:=List.mem_of_getElem? hp
     have pf:=qf p pm
     have zl:=paired_len z2
     have gs:=flat_snoc (f:=oneF qs) hp
     have gl:=flat_le (f:=oneF qs) (l:=qs) (i:=i+1)
     have gl':((qs.take (i+1)).flatMap (oneF qs)).length<64:=Nat.lt_of_le_of_lt gl tot
     rw[gs,List.length_append,oneF,List.length_append,List.length_append]at gl'
     have l2:=pf.ns
     have l3:=pf.ss
     refine⟨_,rfl,.inl ⟨rfl,_,SqL.of e2⟩,_,rfl,_,rfl,z,D0,vs,p,qs,rfl,hE.same s2,s2 _ _ d0,hqs.same s2,by omega,by omega,by omega,qle p pm,fun D3 H3 ys3 n3 s3 d3 z3=>?_⟩
     have e23:=s3 _ _ e2
     have zl3:=paired_len z3
     refine⟨p1,D3,_,_,rfl,rfl,e23,d3,Nat.le_of_lt (small1000 (by omega)),?_⟩
     have m3:Same H0 (upd H3 p1 (.lst (zs++ys3))):=same_mut n1 (s2.trans s3)
     refine⟨_,rfl,.inl ⟨rfl,_,SqL.of upd_same⟩,_,rfl,_,rfl,z,D0,vs,p,qs,rfl,hE.same m3,m3 _ _ d0,hqs.same m3,by omega,by omega,by omega,qle p pm,fun D4 H4 ys4 n4 s4 d4 z4=>?_⟩
     have e4:=s4 _ _ (upd_same (H:=H3) (a:=p1) (o:=.lst (zs++ys3)))
     have zl4:=paired_len z4
     refine⟨p1,D4,_,_,rfl,rfl,e4,d4,Nat.le_of_lt (small1000 (by rw[List.length_append];omega)),?_⟩
     have m4:Same H0 (upd H4 p1 (.lst (zs++ys3++ys4))):=same_mut n1 (m3.trans s4)
     refine⟨_,rfl,.inl ⟨rfl,_,SqL.of upd_same⟩,_,rfl,_,rfl,z,D0,vs,p,qs,rfl,hE.same m4,m4 _ _ d0,hqs.same m4,by omega,by omega,by omega,qle p pm,fun D5 H5 ys5 n5 s5 d5 z5=>?_⟩
     have e5:=s5 _ _ (upd_same (H:=H4) (a:=p1) (o:=.lst (zs++ys3++ys4)))
     have zl5:=paired_len z5
     refine⟨p1,D5,_,_,rfl,rfl,e5,d5,Nat.le_of_lt (small1000 (by rw[List.length_append,List.length_append];omega)),?_⟩
     refine⟨_,_,rfl,same_mut n1 (m4.trans s5),upd_same,?_⟩
     rw[gs]
     have y3:FlsAt (upd H3 p1 (.lst (zs++ys3))) (zs++ys3) ((qs.take i).flatMap (oneF qs)++needF p qs):=paired_app ((z2.same s3).mut e23) (z3.mut e23)
     have y4:FlsAt (upd H4 p1 (.lst (zs++ys3++ys4))) (zs++ys3++ys4) ((qs.take i).flatMap (oneF qs)++needF p qs++shutF p qs):=paired_app ((y3.same s4).mut e4) (z4.mut e4)
     have y5:=paired_app ((y4.same s5).mut (o:=.lst (zs++ys3++ys4++ys5)) e5) (z5.mut (o:=.lst (zs++ys3++ys4++ys5)) e5)
     unfold oneF
     rw[←List.append_assoc,←List.append_assoc]
     exact y5
   · intro σ H2 hQ
     obtain⟨u,zs,rfl,s2,e2,z2⟩:=hQ
     rw[vl,List.take_length]at z2
     have z2:FlsAt H2 zs (allF qs):=z2
     have zl:=paired_len z2
     refine⟨_,rfl,p1,zs,allF qs,rfl,SqL.of e2,ats_of_fls z2 fun k hk=>all_kd hk,by omega,all_nodup qn fun p hp=>(qf p hp).nd,fun x hx y hy=>kd_ok (all_kd hx) (all_kd hy),fun ys' ks' ht hp hw p3 H3 n3 s3 e3=>?_⟩
     exact q p3 H3 ys' ks' ((s0.trans s2).free n3) ((s0.trans s2).trans s3) e3 (AtsAt.same s3 ht) ⟨⟨qs,fun p hp=>⟨qm p hp,hcm p hp⟩,hnm,hp⟩,hw⟩
noncomputable def spSou(C S:Addr):Sp:=fun vs H Q _=>∃(sv:V) (c:Addr) (ps:List Pcl) (ch:Ch),vs = [sv,.ref c]/\SetAt C S H sv c ps ch/\∀H' ks,Same H H'->Told ps ch ks->Q (.bl (decide (ks = []))) H'
theorem scSou:FnScope ["shelf","chosen"] ["shelf","chosen"] (defScope sSou):=⟨rfl,rfl,rfl,by decide +kernel,rfl,by decide +kernel,by decide +kernel⟩
theorem okSou{f fFOf C S:Addr}{fd fdFOf:FuncData}(F:Fun K "is_sound" "is_sound" sSou f fd)(D:Defs K mg C S)(FFOf:Fun K "faults_of" "faults_of" sFOf fFOf fdFOf)(mFOf:mg "faults_of" = some (.ref fFOf)):FnOk P w K mg base CX0 6 f fd ["shelf","chosen"] (spSou C S):=by
 have B:=D.B
 have GFOf:FnOk P w K mg base CX0 5 fFOf fdFOf ["shelf","chosen"] (spFOf C S):=okFOf FFOf D
 have bFOf:=FFOf.binds2 (l:=["shelf","chosen"]) (fun _ _ _ _ _ _ _ _=>rfl)
 refine F.ok scSou (fun vs H Q E h=>?_) (fun cdv A outer s H vs Q E hr h=>?_)
 · obtain⟨sv,c,ps,ch,rfl,_⟩:=h
   rfl
 · refine letX ?_
   intro xX dX
   obtain⟨sv,c,ps,ch,rfl,hA,q⟩:=h
   refine⟨_,(pss_one (ps_ret (pe_cmpR op_eq (pe_callB call_len_seq (by rfl) B.len PySem.boot_len (pa_cons (pe_call GFOf hr rfl mFOf FFOf.kp bFOf .nil pass0 (pa_cons (pv 0) (pa_cons (pv 1) pa_nil))) pa_nil)) pe_int (nomark _)))),?_⟩
   refine⟨_,rfl,_,rfl,sv,c,ps,ch,rfl,hA,fun D0 H0 ys ks n0 s0 d0 ht hT=>⟨D0,_,rfl,.inl (SqL.of d0),rfl,?_⟩⟩
   have yl:=paired_len ht
   have e:=q H0 ks s0 hT
   have z:decide (ks = [])=decide (V.int (ys.length:Int)=V.int 0):=by
    refine decide_eq_decide.mpr ⟨fun z=>?_,fun z=>?_⟩
    · rw[z]at yl
      have yl:ys.length=0:=yl
      rw[yl]
      rfl
    · injection z with z
      exact List.eq_nil_of_length_eq_zero (by omega)
   rw[z]at e
   exact e
end
end K41
namespace L2
open PySem PySem.Spec PyProof.Rows PySem.W
section
variable {X:Cx}
theorem passN{P:Program}{w:World}:Passes (CXR P w) X (fun _ _ _=>False):=fun _ _ _ _ _ _ _ h=>by
 obtain⟨_,_,_,_,_,_,_,_,_,_,_,_,_,q⟩:=h
 exact q.elim
noncomputable def rNeD(K:PySem.W.Frag):V->V->Hp->VK->Prop:=fun x y H Q=>∃d e,DV K H x d/\DV K H y e/\PySem.W.kqdOk 9 d=true/\PySem.W.kqdOk 9 e=true/\∀b:Bool,(b=true↔d=e)->Q (.bl (!b)) H
theorem op_neDK(K:PySem.W.Frag)(hu:X.A.units+64<cLine)(h:X.K=K:=by rfl):OpR X (compareOp .NotEq) (rNeD K):=h▸op_neD hu
end
end L2
namespace L2
open PySem PySem.Spec PyProof.Rows
noncomputable def RawD(h:Heap)(d:Addr)(es:Array DictEntry)(ep:Nat):Prop:=∃o,h.get? d=some o/\o.cls = .type "dict"/\o.data = .dict es ep
theorem RawD.typeIs{s:Shared}{d:Addr}{es:Array DictEntry}{ep:Nat}(x:RawD s.heap d es ep):s.TypeIs (.ref d) "dict":=x.elim fun o zq516=>zq516.elim fun e zq517=>zq517.elim fun c _=>⟨o,e,c⟩
section
variable {prog:Program} {w:World} {A:Around} {E:Value->Shared->Prop} {s:Shared} {d it:Addr} {es:Array DictEntry} {ep i:Nat}
theorem raw_iter{Q:Value->Shared->Prop}(hd:(d == sysModules)=false)(hm:RawD s.heap d es ep)(hQ:Q (.ref s.heap.objs.size) { s with heap:=s.heap.push { cls:=.type "dict_keyiterator",data:=.fields #[.ref d,.int 0 0,.int es.size 0,.int ep 0] } }) :
 wpAny (model prog w) A (pyIter (.ref d)) Q E s:=by
 obtain⟨o,ho,hc,hdat⟩:=id hm
 refine wpAny_pyIter_slot hm.typeIs PySem.F.slot_dict_iter (wpAny_call_entry PySem.F.slot_dict_iter hm.typeIs PySem.F.entry_dict_iter ?_ (PySem.F.args_dict_iter_1 _))
 unfold Builtin.«dict.__iter__»;refine wpAny_bind ?_;unfold Builtin.Dict.dictSlotNone
 refine wpAny_bind (wpAny_notOrdered_dict hm.typeIs ?_);show wpAny _ _ (pure (Value.ref d)) _ _ s
 refine wpAny_pure ?_;show wpAny _ _ (Builtin.Dict.showsAll d >>= _) _ _ s
 unfold Builtin.Dict.showsAll;rw[if_neg (by rw[hd];exact Bool.false_ne_true)]
 refine wpAny_bind (wpAny_pure (wpAny_bind (wpAny_dictEntries ho hdat (wpAny_bind (wpAny_dictEpoch ho hdat ?_)))))
 exact wpAny_bind (wpAny_newObj_type (wpAny_pure ⟨_,rfl,"dict_keyiterator",_,⟨_,Heap.get?_push_size _ rfl,rfl⟩,PySem.F.slot_dict_keyiterator_next.lookup,hQ⟩))
theorem raw_item{Q:Option Value->Shared->Prop}(hit:s.heap.IsKeyIter it d i es.size ep)(hm:RawD s.heap d es ep)(hx:i<es.size)(hQ:∀h',h'.IsKeyIter it d (i+1) es.size ep->Heap.SameBut it s.heap h'->Q (some es[i].key) { s with heap:=h' }) :
 wpAny (model prog w) A (pyNext (.ref it)) Q E s:=by
 obtain⟨o,ho,hc,hd⟩:=id hit
 obtain⟨od,hod,hcd,hdd⟩:=id hm
 unfold pyNext
 refine wpAny_bind (wpAny_attempt (wpAny_callSpecial?_slot (name:=Str.ofString "__next__") hit.typeIs PySem.F.slot_dict_keyiterator_next (wpAny_call_entry PySem.F.slot_dict_keyiterator_next hit.typeIs PySem.F.entry_dict_keyiterator_next ?_ (PySem.F.args_dict_keyiterator_next_1 _))))
 refine wpAny_bind (wpAny_pure (wpAny_bind (wpAny_bind ?_)))
 first | refine wpAny_bind (wpAny_typeNameOfWhole_keyiter hit.typeIs (wpAny_pure ?_)) | refine wpAny_bind (wpAny_typeNameOf_keyiter hit.typeIs (wpAny_pure ?_));skip
 refine wpAny_bind (wpAny_fieldsOf ho hd ?_);have hown:Builtin.Dict_items.ownsTuple "dict_keyiterator" = false:=by decide
 simp only[hown,Bool.false_eq_true,if_false];show wpAny _ _ (if (Value.ref d == Value.none)=true then _ else _) _ _ s
 rw[if_neg (show ¬((Value.ref d == Value.none)=true) from Bool.false_ne_true)];refine wpAny_bind (wpAny_pure (wpAny_bind (wpAny_dictEntries hod hdd ?_)))
 rw[if_neg (by simp)];refine wpAny_bind (wpAny_pure (wpAny_bind (wpAny_dictEpoch hod hdd ?_)))
 rw[if_neg (by simp)];refine wpAny_pure ?_
 simp only[show ¬((i:Int)<0) from by omega,if_false,Int.toNat_natCast,Array.getElem?_eq_getElem hx];refine wpAny_bind ?_
 first | refine wpAny_bind (wpAny_typeNameOfWhole_keyiter hit.typeIs (wpAny_pure ?_)) | refine wpAny_bind (wpAny_typeNameOf_keyiter hit.typeIs (wpAny_pure ?_));skip
 refine wpAny_bind (wpAny_isOneOf_keyiter hit.typeIs ?_);show wpAny _ _ (setField (.ref it) 1 (rawInt ((i:Int)+1)) >>= _) _ _ s
 refine wpAny_bind (wpAny_setField ho hd (by simp) ?_)
 have hit':(s.heap.update it (Obj.mapFields (·.setIfInBounds 1 (rawInt ((i:Int)+1))))).IsKeyIter it d (i+1) es.size ep:=
  ⟨_,Heap.get?_update_self _ ho (Obj.isFreed_of_fields (Obj.data_mapFields hd _)),(Obj.cls_mapFields ..).trans hc,by rw[Obj.data_mapFields hd];simp[rawInt]⟩
 refine wpAny_bind (wpAny_holding (wpAny_bind (wpAny_isOneOf_keyiter (s:={ s with heap:=s.heap.update it (Obj.mapFields (·.setIfInBounds 1 (rawInt ((i:Int)+1)))) }) hit'.typeIs ?_)))
 show wpAny _ _ (pure es[i].key) _ _ _
 exact wpAny_pure (wpAny_pure ⟨_,rfl,wpAny_pure (hQ _ hit' (Heap.SameBut.update ..))⟩)
theorem raw_end{Q:Option Value->Shared->Prop}(hh:A.handled=none)(hit:s.heap.IsKeyIter it d i es.size ep)(hm:RawD s.heap d es ep)(hge:es.size<=i)(hQ:∀h',Heap.ExtBut it s.heap h'->Q none { s with heap:=h' }):wpAny (model prog w) A (pyNext (.ref it)) Q E s:=by
 obtain⟨o,ho,hc,hd⟩:=id hit
 obtain⟨od,hod,hcd,hdd⟩:=id hm
 unfold pyNext
 refine wpAny_bind (wpAny_attempt (wpAny_callSpecial?_slot (name:=Str.ofString "__next__") hit.typeIs PySem.F.slot_dict_keyiterator_next (wpAny_call_entry PySem.F.slot_dict_keyiterator_next hit.typeIs PySem.F.entry_dict_keyiterator_next ?_ (PySem.F.args_dict_keyiterator_next_1 _))))
 refine wpAny_bind (wpAny_pure (wpAny_bind (wpAny_bind ?_)))
 first | refine wpAny_bind (wpAny_typeNameOfWhole_keyiter hit.typeIs (wpAny_pure ?_)) | refine wpAny_bind (wpAny_typeNameOf_keyiter hit.typeIs (wpAny_pure ?_));skip
 refine wpAny_bind (wpAny_fieldsOf ho hd ?_);have hown:Builtin.Dict_items.ownsTuple "dict_keyiterator" = false:=by decide
 simp only[hown,Bool.false_eq_true,if_false];show wpAny _ _ (if (Value.ref d == Value.none)=true then _ else _) _ _ s
 rw[if_neg (show ¬((Value.ref d == Value.none)=true) from Bool.false_ne_true)];refine wpAny_bind (wpAny_pure (wpAny_bind (wpAny_dictEntries hod hdd ?_)))
 rw[if_neg (by simp)];refine wpAny_bind (wpAny_pure (wpAny_bind (wpAny_dictEpoch hod hdd ?_)))
 rw[if_neg (by simp)];refine wpAny_pure ?_
 simp only[show ¬((i:Int)<0) from by omega,if_false,Int.toNat_natCast,Array.getElem?_eq_none hge];refine wpAny_bind ?_
 first | refine wpAny_bind (wpAny_typeNameOfWhole_keyiter hit.typeIs (wpAny_pure ?_)) | refine wpAny_bind (wpAny_typeNameOf_keyiter hit.typeIs (wpAny_pure ?_));skip
 show wpAny _ _ (setField (.ref it) 0 .none >>= _) _ _ s;refine wpAny_bind (wpAny_setField ho hd (by simp) ?_)
 show wpAny _ _ (newExc (.type "StopIteration") [] >>= _) _ _ _;refine wpAny_bind ?_
 simp only[newExc,newTuple];refine wpAny_bind (wpAny_newObj_type ?_ (by size_fits))
 refine wpAny_bind (m:=firstArgMember _ _) (wpAny_of_eq (a:=Value.none) (by first | rfl | (simp only[firstArgMember];rfl)) ?_);refine wpAny_newObj_type ?_ (by size_fits)
 simp only[raiseNew];refine wpAny_bind (wpAny_handled ?_)
 rw[show A.in1.handled=none from hh];refine wpAny_bind (wpAny_pure (wpAny_throw ?_))
 refine wpAny_bind (wpAny_isInstance (T:="StopIteration") (b:=true) ⟨_,Heap.get?_push_size _ rfl,rfl⟩ isSubtype_stop (wpAny_pure (hQ _ (((Heap.SameBut.update ..).extBut.push _).push _))))
end
section
variable {X:Cx} {pins:List (Addr×Obj)} {σ:St} {H:Hp} {s:Shared}
theorem Inv.freezeT{d:Addr}{kvs:List (List NI×V)}{o:Obj}(I:Inv X pins σ H s)(e:H d=some (.dT kvs))(ho:s.heap.get? d=some o):Inv X pins σ (upd H d (.frz o (.dT kvs))) s:=by
 have ne:∀b u,H b=some u->(∀ks,u≠.dT ks)->b≠d:=fun b u q hu z=>by rw[z,e]at q;cases q;exact hu _ rfl
 refine I.rehp (fun b q=>?_) (fun b xs q=>?_) (fun b o' u q=>?_) (fun b ps q=>?_) fun b u q=>?_
 · rw[upd_ne (fun z=>by rw[z,e]at q;cases q)];exact q
 · rw[upd_ne (ne b _ q (by intro ks z;cases z))];exact q
 · have q:=I.base.frzs b o' u q
   rw[upd_ne (ne b _ q (by intro ks z;cases z))];exact q
 · rw[upd_ne (ne b _ q (by intro ks z;cases z))];exact q
 · have up:∀{c:Addr} {w:HO},H c=some w->(∀ks,w≠.dT ks)->upd H d (.frz o (.dT kvs)) c=some w:=fun {c w} hc hw=>by rw[upd_ne (ne c _ hc hw)];exact hc
   by_cases z:b=d
   · subst z
     rw[upd_same]at q
     cases q
     exact⟨ho,(I.hok b _ e).stay (fun _ _ _ q=>q) (fun c hc=>up hc (by intro ks z;cases z)) fun c xs hc=>up hc (by intro ks z;cases z)⟩
   · rw[upd_ne z]at q
     exact(I.hok b _ q).stay (fun _ _ _ q=>q) (fun c hc=>up hc (by intro ks z;cases z)) fun c xs hc=>up hc (by intro ks z;cases z)
theorem Inv.thawT{d:Addr}{kvs:List (List NI×V)}{o:Obj}(I:Inv X pins σ H s)(e:H d=some (.frz o (.dT kvs)))(hz:∀o' u,X.H₀ d≠some (.frz o' u)):Inv X pins σ (upd H d (.dT kvs)) s:=by
 have ne:∀b u,H b=some u->(∀o' u',u≠.frz o' u')->b≠d:=fun b u q hu z=>by rw[z,e]at q;cases q;exact hu _ _ rfl
 have up:∀{c:Addr} {w:HO},H c=some w->(∀o' u',w≠.frz o' u')->upd H d (.dT kvs) c=some w:=fun {c w} hc hw=>by rw[upd_ne (ne c _ hc hw)];exact hc
 refine I.rehp (fun b q=>?_) (fun b xs q=>up q (by intro _ _ z;cases z)) (fun b o' u q=>?_) (fun b ps q=>up q (by intro _ _ z;cases z)) fun b u q=>?_
 · rw[upd_ne (fun z=>by rw[z,e]at q;cases q)];exact q
 · have nb:b≠d:=fun z=>hz o' u (z▸q)
   rw[upd_ne nb];exact I.base.frzs b o' u q
 · by_cases z:b=d
   · subst z
     rw[upd_same]at q
     cases q
     exact(show ObjOk X.prog X.w H s.heap b (.dT kvs) from (show ObjOk X.prog X.w H s.heap b (.frz o (.dT kvs)) from I.hok b _ e).2).stay (fun _ _ _ q=>q) (fun c hc=>up hc (by intro _ _ z;cases z)) fun c xs hc=>up hc (by intro _ _ z;cases z)
   · rw[upd_ne z]at q
     exact(I.hok b _ q).stay (fun _ _ _ q=>q) (fun c hc=>up hc (by intro _ _ z;cases z)) fun c xs hc=>up hc (by intro _ _ z;cases z)
end
noncomputable def Itk(d:Addr)(kvs:List (List NI×V))(o:Obj):It:=
 ⟨fun i H=>H d=some (.frz o (.dT kvs))/\i<kvs.length,fun i H x H'=>∃k v b,kvs[i]? = some (k,v)/\x = .ref b/\NAt H k b/\H'=H,fun i H=>H d=some (.frz o (.dT kvs))/\kvs.length<=i⟩
theorem raw_of{P:Program}{w:World}{H:Hp}{h:Heap}{d:Addr}{kvs:List (List NI×V)}(ok:ObjOk P w H h d (.dT kvs)):(d == sysModules)=false/\∃es ep,RawD h d es ep/\es.size=kvs.length/\(∃o,h.get? d=some o/\epOf o=ep)/\∀(i:Nat) (k:List NI) (v:V),kvs[i]? = some (k,v)->∃(e:DictEntry) (b:Addr),es[i]? = some e/\e.key=Value.ref b/\NAt H k b:=by
 obtain⟨_,y,xs,r,o,es,ep,h1,h2,h3,h4,_⟩:=ok
 have hl:=Paired.length r
 have hs:es.size=xs.length:=by have:=congrArg List.length h4;simpa using this
 refine⟨y,es,ep,⟨o,h1,h2.1,h3⟩,by omega,⟨o,h1,by unfold epOf;rw[h3]⟩,fun i k v hi=>?_⟩
 have get:∀{l:List (List NI×V)} {m:List (List NI×Addr×Value)},Paired (fun(p:List NI×V) (q:List NI×Addr×Value)=>p.1=q.1/\NAt H p.1 q.2.1/\RelV p.2 q.2.2) l m->∀{i:Nat},l[i]? = some (k,v)->∃q,m[i]? = some q/\NAt H k q.2.1:=by
  intro l m q
  induction q with
  | nil=>intro i h;cases h
  | @cons p q ps qs hq t ih=>
   intro i h
   cases i with
   | zero=>cases h;exact⟨q,rfl,hq.2.1⟩
   | succ i=>exact ih h
 obtain⟨q,hq,hn⟩:=get r hi
 refine⟨entryOfKey (nestKind P w) q,q.2.1,?_,rfl,hn⟩
 rw[←Array.getElem?_toList,h4,List.getElem?_map,hq]
 rfl
theorem turn_keysT{P:Program}{w:World}{K:PySem.W.Frag}{tg:Expr}(d it:Addr)(kvs:List (List NI×V))(o:Obj):Turn P w K tg (Itk d kvs o) [it] it (fun i h=>h.IsKeyIter it d i kvs.length (epOf o)) where
 mem:=by simp
 obj:=fun i h st b hb=>by
  have e:b=it:=by simpa using hb
  subst e
  obtain⟨o,e,c,d⟩:=st
  exact⟨o,e,fun v z=>by rw[d]at z;cases z⟩
 keep:=fun i h h' st k=>st.elim fun o zq518=>zq518.elim fun e r=>⟨o,k it (by simp) o e,r⟩
 item:=by
  intro X hP hw hK hc i pins s σ H E I hf st hg
  subst hP hw hK
  obtain⟨hd,hlt⟩:=hg
  obtain⟨f0,f1,f2,f3,f4,f5⟩:=hf it (by simp)
  obtain⟨ho,hob⟩:=(show ObjOk X.prog X.w H s.heap d (.frz o (.dT kvs)) from I.hok d _ hd)
  obtain⟨_,es,ep,hr,hsz,⟨o',ho',hep⟩,hk⟩:=raw_of hob
  rw[ho]at ho';cases ho'
  obtain⟨kv,hkv⟩:∃kv,kvs[i]? = some kv:=⟨_,List.getElem?_eq_getElem hlt⟩
  obtain⟨k,v⟩:=kv
  obtain⟨e,b,he,hb,hn⟩:=hk i k v hkv
  rw[←hsz,hep]at st
  have hi:i<es.size:=by omega
  refine raw_item st hr hi fun h' st' sb=>?_
  have I1:Inv X pins σ H { s with heap:=h' }:=I.turned (t':=s.toks) (fun b o hb e=>(sb.2 b hb).trans e) f0 f1 f3 f4 f5
  obtain⟨oi,ei,ci,di⟩:=id st'
  have hkey:es[i].key = .ref b:=by rw[Array.getElem?_eq_getElem hi]at he;cases he;exact hb
  rw[hsz,←hep]at st'
  exact⟨_,rfl,go_of (s:={ s with heap:=h' }) ei ci di (by decide) ⟨.ref b,H,I1,hkey,⟨k,v,b,hkv,rfl,hn,rfl⟩,st',fun b hb=>(hf b hb).1⟩⟩
 done:=by
  intro X hP hw hK hc i pins s σ H E I hf st hg
  subst hP hw hK
  obtain⟨hd,hle⟩:=hg
  obtain⟨f0,f1,f2,f3,f4,f5⟩:=hf it (by simp)
  obtain⟨ho,hob⟩:=(show ObjOk X.prog X.w H s.heap d (.frz o (.dT kvs)) from I.hok d _ hd)
  obtain⟨_,es,ep,hr,hsz,⟨o',ho',hep⟩,hk⟩:=raw_of hob
  rw[ho]at ho';cases ho'
  rw[←hsz,hep]at st
  exact raw_end (I.ok.hd hc) st hr (by omega) fun h' eb=>⟨rfl,I.turned (t':=s.toks) (fun b o hb e=>eb b o hb e) f0 f1 f3 f4 f5⟩
 self:=fun _ _ _ _ _ st h=>wpAny_pyIter_keyiter st h
theorem pi_keysT{tg e:Expr}{X:Cx}{td:TE}(ho:PE X e td):PI X tg e (fun σ H R=>td σ H fun x H1=>∃d kvs,x = .ref d/\H1 d=some (.dT kvs)/\∀ob,(∀o' u,X.H₀ d≠some (.frz o' u))->R (Itk d kvs ob) (upd H1 d (.frz ob (.dT kvs)))):=by
 intro pins s σ H R I h
 refine thn (ho pins s σ H _ I h) fun v s1 zq406=>zq406.elim fun x zq407=>zq407.elim fun H1 zq408=>zq408.elim fun I1 zq409=>zq409.elim fun r1 zq410=>zq410.elim fun d zq411=>zq411.elim fun kvs zq412=>zq412.elim fun e zq413=>zq413.elim fun ed q=>?_
 subst e
 cases r1
 obtain⟨lo,es,ep,hr,hsz,⟨o',ho',hep⟩,hk⟩:=raw_of (show ObjOk X.prog X.w H1 s1.heap d (.dT kvs) from I1.hok d _ ed)
 refine raw_iter lo hr ?_
 have hz:∀o' u,X.H₀ d≠some (.frz o' u):=fun o' u hq=>by
  have:=I1.base.frzs d o' u hq
  rw[ed]at this
  cases this
 have I2:Inv X pins σ H1 { s1 with heap:=s1.heap.push { cls:=.type "dict_keyiterator",data:=.fields #[.ref d,.int 0 0,.int es.size 0,.int ep 0] } }:=I1.kept (t':=s1.toks) fun b o e=>Heap.get?_push_of_some _ e
 have hn:=I1.hok.fresh (Nat.le_refl s1.heap.objs.size)
 refine⟨_,[_],_,_,_,rfl,I2.freezeT ed (Heap.get?_push_of_some _ ho'),turn_keysT d _ kvs o',?_,fun b hb=>?_,q o' hz⟩
 · rw[←hsz,hep]
   exact⟨_,Heap.get?_push_size _ rfl,rfl,rfl⟩
 · have e:b=s1.heap.objs.size:=by simpa using hb
   subst e
   refine I1.fpOk (Nat.le_refl _) ?_
   rw[upd_ne (Ne.symm (ne_of_none ed hn))]
   exact hn
end L2
namespace L2
open PySem PySem.Spec PyProof.Rows
section
variable {X:Cx} {e e1 e2 e3 e4:Expr} {te t1 t2 t3 t4:TE} {pos:Pos}
end
noncomputable def TAsk(H1:Hp)(d:Addr)(kvs:List (List NI×V))(σ0:St)(g:TG)(tt:TT)(te:TE)(Q:VK):Prop:=∀ob D,upd H1 d (.frz ob (.dT kvs)) D=none ->
 ∃W:Nat->Nat->St->Hp->Prop,(∃m,W 0 m σ0 (upd (upd H1 d (.frz ob (.dT kvs))) D (.lst [])))/\CompAsk (Itk d kvs ob) g tt te D (fun H'=>H' d=some (.frz ob (.dT kvs))/\Q (.ref D) (upd H' d (.dT kvs))) W
noncomputable def tCompT(td:TE)(n:Nat)(js:List Nat)(g:TG)(tt:TT)(te:TE):TE:=fun σ H Q=>td σ H fun x H1=>∃d kvs,x = .ref d/\H1 d=some (.dT kvs)/\TAsk H1 d kvs (compStart n js σ) g tt te Q
section
variable {X:Cx}
theorem pe_compT{elt tg iter:Expr}{ifs:List Expr}{sc:Scope}{pos:Pos}(own cap:List Str)(js:List Nat){td:TE}{g:TG}{tt:TT}{te:TE}(S:CompScopeF X own cap js sc)(hc:X.calm=true)(hi:PE X iter td)
 (hg:∀s₀ H₀ C ex,PG (cxCompF X (own++cap) sc s₀ H₀ C ex) tg g) (ht:∀s₀ H₀ C ex,PTs (cxCompF X (own++cap) sc s₀ H₀ C ex) ifs tt) (he:∀s₀ H₀ C ex,PE (cxCompF X (own++cap) sc s₀ H₀ C ex) elt te)
 (hs:∀x,foldedSetIterable iter X.env x=pure x:=by intro _;rfl):PE X (.ListComp elt [⟨tg,iter,ifs,0⟩] sc pos) (tCompT td own.length js g tt te):=by
 intro pins s σ H Q I h
 refine thn (pe_compF own cap js S hc (pi_keysT hi.weak) hg ht he hs pins s σ H (fun v H'=>∃d kvs ob,H' d=some (.frz ob (.dT kvs))/\(∀o' u,X.H₀ d≠some (.frz o' u))/\Q v (upd H' d (.dT kvs))) I ⟨_,h,fun x H1 zq414=>zq414.elim fun d zq415=>zq415.elim fun kvs zq416=>zq416.elim fun e zq417=>zq417.elim fun ed q=>⟨d,kvs,e,ed,fun ob hz D hD=>?_⟩⟩) fun u s' zq418=>zq418.elim fun v zq419=>zq419.elim fun H' zq420=>zq420.elim fun I' zq421=>zq421.elim fun r zq422=>zq422.elim fun d zq423=>zq423.elim fun kvs zq424=>zq424.elim fun ob zq425=>zq425.elim fun hd zq426=>zq426.elim fun hz q=>⟨v,_,I'.thawT hd hz,r,q⟩
 obtain⟨W,w0,ask⟩:=q ob D hD
 refine⟨W,w0,fun i m σ H hw=>?_⟩
 rcases ask i m σ H hw with⟨a,b⟩ | z
 · exact .inl ⟨a,d,kvs,ob,b.1,hz,b.2⟩
 · exact .inr z
end
end L2
namespace L2
open PySem PySem.Spec PyProof.Rows
noncomputable def TupsV(H:Hp)(ys:List V)(ks:List (List Int)):Prop:=Paired (fun(y:V) (k:List Int)=>∃t,y = .ref t/\H t=some (.tup (k.map V.int))/\k≠[]) ys ks
theorem TupsV.at{K:PySem.W.Frag}{H:Hp}{ys:List V}{ks:List (List Int)}(h:TupsV H ys ks):TupsAt K H ys ks:=paired_mapP h fun _ _ zq427=>zq427.elim fun t zq428=>zq428.elim fun e zq429=>zq429.elim fun a b=>⟨t,e,SqT.of a,b⟩
theorem TupsV.same{H H':Hp}{ys:List V}{ks:List (List Int)}(s:Same H H')(h:TupsV H ys ks):TupsV H' ys ks:=paired_mapP h fun _ _ zq430=>zq430.elim fun t zq431=>zq431.elim fun e zq432=>zq432.elim fun a b=>⟨t,e,s _ _ a,b⟩
section
variable {X:Cx}
theorem call_sortedTV:CallR X (.builtin "sorted") (fun xs H Q=>∃q ys ks,xs = [.ref q]/\SqL X.K H q ys/\TupsV H ys ks/\ys.length<=4/\ks.Nodup/\∀ys' ks',TupsV H ys' ks'->ks'.Perm ks->adjT ks'=true->New H (.lst ys') Q):=by
 intro pins s σ H xs us Q I r h
 obtain⟨q,ys,ks,rfl,hq,htv,h4,nd,fin⟩:=h
 obtain⟨u,rfl,ru⟩:=vals1 r
 cases ru
 have ht:TupsAt X.K H ys ks:=htv.at
 obtain⟨its,rv,hl,hz⟩:=I.list hq
 have hlen:=paired_lenT rv
 have hlk:=paired_lenT ht
 have tp:=I.tups ht rv
 have kp:∀b o,s.heap.get? b=some o->((s.heap.push (seqObj "list" #[] 0)).update s.heap.objs.size (Obj.mapSeq (·++its.toArray))).get? b=some o:=fun b o e=>by
  rw[Heap.get?_update_ne _ _ _ _ (Nat.ne_of_lt (Heap.lt_size e))]
  exact Heap.get?_push_of_some _ e
 refine sorted_collectsT (collect_list hl.isList ?_ (smallL (by omega)))
 generalize (s.heap.push (seqObj "list" #[] 0)).update s.heap.objs.size (Obj.mapSeq (·++its.toArray))=h' at kp ⊢
 have I':Inv X pins σ H { s with heap:=h',toks:=s.toks }:=I.kept kp
 refine⟨ks,h',s.toks,rfl,paired_mapP tp fun _ _ t=>t.keep fun b o e _=>kp b o e,by omega,nd,fun h2 p e k2 he hp ha=>?_⟩
 have hm:∀i∈p,i<ys.length:=fun i hi=>by
  have:=List.mem_range.mp (hp.mem_iff.mp hi)
  omega
 have hpl:=hp.length_eq
 rw[List.length_range]at hpl
 refine⟨.ref h'.objs.size,_,I'.laid (s:={ s with heap:=h',toks:=s.toks }) (t':=s.toks) (o:=.lst (p.map fun i=>ys.getD i .non)) k2 (Nat.le_refl _) ⟨by rw[List.length_map];exact smallL (by omega),_,e,paired_pick rv _ _ p hm,he⟩,rfl,?_⟩
 exact(fin _ (p.map fun i=>ks.getD i []) (paired_pick htv _ _ p hm) (perm_getD (by rw[←hlk,hlen];exact hp)) (by rw[adj_map];exact ha)).at _ (I'.hok.fresh (Nat.le_refl _))
end
theorem comp_T{H1:Hp}{d:Addr}{kvs:List (List NI×V)}{σ0:St}{g:TG}{tt:TT}{te:TE}{Q:VK}(hd:H1 d=some (.dT kvs))(S:St->Prop)(P:Nat->List V->Prop)(s0:S σ0)(st:P 0 [])
 (turn:∀i k v b ys σ H (kk:St->V->Hp->Prop) (k':St->Hp->Prop),kvs[i]? = some (k,v)->NAt H k b->(∀c vs,H c=some (.tup vs)->H1 c=some (.tup vs))->S σ->P i ys ->
  (∀σ3 y,S σ3->P (i+1) (ys++[y])->kk σ3 y H)->(∀σ3,S σ3->P (i+1) ys->k' σ3 H) ->
  g (.ref b) σ H fun σ3 H3=>tt σ3 H3 fun ok H4=>if ok=true then te σ3 H4 (kk σ3) else k' σ3 H4)
 (small:kvs.length<sizeLine) (long:∀i ys,P i ys->ys.length<=i)
 (done:∀D H' ys,H1 D=none->Same H1 H'->H' D=some (.lst ys)->P kvs.length ys->Q (.ref D) H') :
 TAsk H1 d kvs σ0 g tt te Q:=by
 intro ob D hD
 obtain⟨nDd,hD1⟩:=free_upd hD
 refine⟨fun i m σ H=>m=kvs.length - i/\i<=kvs.length/\S σ/\∃ys,H=upd (upd H1 d (.frz ob (.dT kvs))) D (.lst ys)/\P i ys,⟨kvs.length,by simp,Nat.zero_le _,s0,[],rfl,st⟩,?_⟩
 rintro i m σ H ⟨rfl,hi,hS,ys,rfl,hp⟩
 have hfr:upd (upd H1 d (.frz ob (.dT kvs))) D (.lst ys) d=some (.frz ob (.dT kvs)):=by rw[upd_ne nDd.symm,upd_same]
 by_cases hlt:i<kvs.length
 · refine .inr ⟨⟨hfr,hlt⟩,fun x H2 hy=>?_⟩
   obtain⟨k,v,b,e1,rfl,nb,rfl⟩:=hy
   refine turn i k v b ys σ _ _ _ e1 nb (fun c vs hc=>?_) hS hp (fun σ3 y a1 a2=>?_) (fun σ3 a1 a2=>?_)
   · have nc:c≠D:=fun z=>by rw[z,upd_same]at hc;cases hc
     rw[upd_ne nc]at hc
     have nd:c≠d:=fun z=>by rw[z,upd_same]at hc;cases hc
     rw[upd_ne nd]at hc
     exact hc
   · refine⟨ys,upd_same,Nat.lt_of_le_of_lt (Nat.le_trans (long i ys hp) hi) small,kvs.length - (i+1),by omega,rfl,hlt,a1,ys++[y],upd_upd,a2⟩
   · exact⟨kvs.length - (i+1),by omega,rfl,hlt,a1,ys,rfl,a2⟩
 · have e:i=kvs.length:=by omega
   subst e
   refine .inl ⟨⟨hfr,Nat.le_refl _⟩,hfr,done D _ ys hD1 (fun b o e=>?_) ?_ hp⟩
   · by_cases hb:b=d
     · subst hb
       rw[upd_same,←e,hd]
     · rw[upd_ne hb,upd_ne (ne_of_none e hD1),upd_ne hb]
       exact e
   · rw[upd_ne nDd,upd_same]
end L2
namespace K41
open PySem L2 PySem.Spec PyProof.Rows
seal PE PS PSs PA PT PW PG PGs PI PTs
theorem ints_inl_inj:∀{a b:List Int},(a.map (Sum.inl:Int->Int ⊕ Str))=b.map Sum.inl->a=b
 | [],[],_=>rfl
 | [],_::_,h=>nomatch h
 | _::_,[],h=>nomatch h
 | x::a,y::b,h=>by
  rw[List.map_cons,List.map_cons]at h
  injection h with h1 h2
  injection h1 with h1
  rw[h1,ints_inl_inj h2]
theorem nat_un{H:Hp}{b:Addr}{nm:Str}{mk:List Int}(h:NAt H [.inl (.inr nm),.inr (mk.map Sum.inl)] b):∃m,H b=some (.tup [.str nm,.ref m])/\H m=some (.tup (mk.map V.int)):=by
 obtain⟨vs,e,r⟩:=h
 cases r with
 | cons r1 t=>
  cases t with
  | cons r2 t=>
   cases t
   have r1:_=V.str nm:=r1
   obtain⟨m,e2,h2⟩:=(show∃m,_=V.ref m/\H m=_ from r2)
   subst r1 e2
   refine⟨m,e,?_⟩
   rw[h2,List.map_map]
   rfl
section
variable {P:Program} {w:World} {K:PySem.W.Frag} {mg:Str->Option Value} {base:Heap}
noncomputable def spSNa(S:Addr):Sp:=fun vs H Q _=>∃(sv:V) (xs:List V) (ps:List Pcl),vs = [sv]/\ShelfAt S H sv xs ps/\ps.length<64/\∀l (ys:List Str) H',H l=none->Same H H'->H' l=some (.lst (ys.map V.str))->sortedS ys=true->ys.Nodup->(∀z,z∈ys↔z∈ps.map Pcl.nm)->Q (.ref l) H'
theorem scSNa:FnScope ["self"] ["self"] (defScope sSNa):=⟨rfl,rfl,rfl,by decide +kernel,rfl,by decide +kernel,by decide +kernel⟩
theorem nd_len:∀{a b:List Str},a.Nodup->(∀z∈a,z∈b)->a.length<=b.length:=fun h k=>nodup_len h k
theorem okSNa{f S f2 f3:Addr}{fd:FuncData}(F:Fun K "names" "Shelf.names" sSNa f fd)(B:Blt mg)(U:TxtS K mg S f f2 f3):FnOk P w K mg base CX0 1 f fd ["self"] (spSNa S):=by
 refine F.ok scSNa (fun vs H Q E h=>?_) (fun cdv A outer s H vs Q E hr h=>?_)
 · obtain⟨sv,xs,ps,rfl,_⟩:=h
   rfl
 · refine letX ?_
   intro xX dX
   obtain⟨sv,xs,ps,rfl,⟨a,dx,fl,d,kvs,rfl,h1,hf,_,_,_,h2,h30⟩,h64,q⟩:=h
   have h3:=h30.2.2
   rw[List.take_length]at h3
   refine⟨_,(pss_one (ps_ret (pe_callB (call_sortedY rfl) (by rfl) B.sorted PyProof.Rows.boot_sorted (pa_cons (pe_callTy (call_setL rfl) (by rfl) B.set PyProof.Rows.boot_set (pa_cons (pe_compT ["name","make"] [] [] ⟨rfl,by decide +kernel,by decide +kernel,by decide +kernel,by decide +kernel,rfl,rfl,rfl⟩ rfl (pe_fld (pv 0) rfl)
    (fun _ _ _ _=>(pg_tupK (n:=2) K rfl (pgs_cons (pg_name (i:=0) (show List.Nodup (["name","make"]:List Str) by decide +kernel) rfl (Or.inl rfl)) (pgs_cons (pg_name (i:=1) (show List.Nodup (["name","make"]:List Str) by decide +kernel) rfl (Or.inl rfl)) pgs_nil)))) (fun _ _ _ _=>pts_nil) (fun _ _ _ _=>(pv 0))) pa_nil)) pa_nil)))),?_⟩
   have lk:=paired_len h3
   refine⟨_,rfl,a,S,dx,_,_,rfl,h1,U.cl,U.nS,hf,d,kvs,rfl,h2,?_⟩
   refine comp_T h2 (fun σ=>∃u v,σ = [u,v]) (fun i ys=>ys=((ps.take i).map Pcl.nm).map V.str) ⟨_,_,rfl⟩ rfl ?_ (small1000 (by omega)) (fun i ys e=>by rw[e,List.length_map,List.length_map,List.length_take];omega) ?_
   · rintro i k v b ys σ H2 kk k' hk nb up ⟨u,u',rfl⟩ rfl c1 c2
     obtain⟨p,hp,hE⟩:=paired_get' h3 hk
     rw[show k=keyOf p from hE]at nb
     obtain⟨m,hb,hm⟩:=nat_un nb
     refine⟨b,_,rfl,SqT.of hb,rfl,_,_,rfl,_,_,rfl,rfl,?_⟩
     dsimp only[tTrue]
     rw[if_pos rfl]
     refine⟨_,rfl,c1 _ _ ⟨_,_,rfl⟩ ?_⟩
     rw[List.take_add_one,hp,List.map_append,List.map_append]
     rfl
   · rintro D H2 ys hD s2 eD rfl
     rw[lk,List.take_length]at eD
     refine⟨D,ps.map Pcl.nm,rfl,SqL.of eD,by rw[List.length_map];omega,fun r xs H3 n3 s3 e3 nd mem=>?_⟩
     have hl:=nd_len nd fun z hz=>(mem z).mp hz
     rw[List.length_map]at hl
     refine⟨r,xs,rfl,e3,by omega,fun ys' hp hs=>fun l H4 n4 s4 e4=>?_⟩
     exact q l ys' H4 ((s2.trans s3).free n4) (s2.trans (s3.trans s4)) e4 hs (hp.nodup_iff.mpr nd) fun z=>(hp.mem_iff).trans (mem z)
noncomputable def mksOf(ps:List Pcl)(nm:Str):List (List Int):=(ps.filter fun p=>decide (p.nm=nm)).map Pcl.ms
theorem mks_nodup{ps:List Pcl}(nd:(ps.map keyOf).Nodup)(nm:Str):(mksOf ps nm).Nodup:=by
 unfold mksOf
 have h1:((ps.filter fun p=>decide (p.nm=nm)).map keyOf).Nodup:=(List.filter_sublist.map keyOf).nodup nd
 have h2:∀p∈ps.filter fun p=>decide (p.nm=nm),p.nm=nm:=fun p hp=>of_decide_eq_true (List.mem_filter.mp hp).2
 generalize ps.filter (fun p=>decide (p.nm=nm))=qs at h1 h2
 clear nd
 induction qs with
 | nil=>exact List.nodup_nil
 | cons p qs ih=>
  rw[List.map_cons,List.nodup_cons]at h1 ⊢
  refine⟨fun hm=>h1.1 ?_,ih h1.2 fun r hr=>h2 r (List.mem_cons_of_mem _ hr)⟩
  obtain⟨r,hr,e⟩:=List.mem_map.mp hm
  refine List.mem_map.mpr ⟨r,hr,?_⟩
  unfold keyOf
  rw[e,h2 p List.mem_cons_self,h2 r (List.mem_cons_of_mem _ hr)]
structure PsOk(ps:List Pcl):Prop where
 nd:(ps.map keyOf).Nodup
 mm:∀p∈ps,p.ms≠[]
 four:∀nm,(mksOf ps nm).length<=4
 len:ps.length<64
noncomputable def spSMo(S:Addr):Sp:=fun vs H Q _=>∃(sv:V) (nm:Str) (xs:List V) (ps:List Pcl),vs = [sv,.str nm]/\ShelfAt S H sv xs ps/\PsOk ps/\∀l ys ks H',H l=none->Same H H'->H' l=some (.lst ys)->TupsV H' ys ks->ks.Perm (mksOf ps nm)->adjT ks=true->Q (.ref l) H'
theorem scSMo:FnScope ["self","name"] ["self","name"] (defScope sSMo):=⟨rfl,rfl,rfl,by decide +kernel,rfl,by decide +kernel,by decide +kernel⟩
theorem okSMo{f S f1 f3:Addr}{fd:FuncData}(F:Fun K "makes_of" "Shelf.makes_of" sSMo f fd)(B:Blt mg)(U:TxtS K mg S f1 f f3):FnOk P w K mg base CX0 1 f fd ["self","name"] (spSMo S):=by
 refine F.ok scSMo (fun vs H Q E h=>?_) (fun cdv A outer s H vs Q E hr h=>?_)
 · obtain⟨sv,nm,xs,ps,rfl,_⟩:=h
   rfl
 · refine letX ?_
   intro xX dX
   obtain⟨sv,nm,xs,ps,rfl,⟨a,dx,fl,d,kvs,rfl,h1,hf,_,_,_,h2,h30⟩,ok,q⟩:=h
   have h3:=h30.2.2
   rw[List.take_length]at h3
   refine⟨_,(pss_one (ps_ret (pe_callB call_sortedTV (by rfl) B.sorted PyProof.Rows.boot_sorted (pa_cons (pe_compT ["key"] ["name"] [1] ⟨rfl,by decide +kernel,by decide +kernel,by decide +kernel,by decide +kernel,rfl,rfl,rfl⟩ rfl (pe_fld (pv 0) rfl)
    (fun _ _ _ _=>(pg_name (i:=0) (show List.Nodup (["key","name"]:List Str) by decide +kernel) rfl (Or.inl rfl))) (fun _ _ _ _=>pts_one (pt_cmpR op_eq (pe_ix (ix_tupK K) (pv 0) pe_int (fun _ _=>rfl)) (pv 1) (nomark _))) (fun _ _ _ _=>(pe_ix (ix_tupK K) (pv 0) pe_int (fun _ _=>rfl)))) pa_nil)))),?_⟩
   have lk:=paired_len h3
   have l64:=ok.len
   refine⟨_,rfl,a,S,dx,_,_,rfl,h1,U.cl,U.nS,hf,d,kvs,rfl,h2,?_⟩
   refine comp_T h2 (fun σ=>∃u,σ = [u,some (.str nm)]) (fun i ys=>ys.length<=i/\TupsV H ys (mksOf (ps.take i) nm)) ⟨_,rfl⟩ ⟨Nat.le_refl _,.nil⟩ ?_ (small1000 (by omega)) (fun i ys e=>e.1) ?_
   · rintro i k v b ys σ H2 kk k' hk nb up ⟨u,rfl⟩ ⟨zl,zt⟩ c1 c2
     obtain⟨p,hp,hE⟩:=paired_get' h3 hk
     rw[show k=keyOf p from hE]at nb
     obtain⟨m,hb,hm⟩:=nat_un nb
     have hmem:p∈ps:=List.mem_of_getElem? hp
     have e1:mksOf (ps.take (i+1)) nm=mksOf (ps.take i) nm++(if p.nm=nm then [p.ms] else []):=by
      unfold mksOf
      rw[List.take_add_one,hp,List.filter_append,List.map_append]
      by_cases z:p.nm=nm
      · rw[if_pos z];simp[z]
      · rw[if_neg z];simp[z]
     refine⟨_,rfl,b,_,_,_,rfl,rfl,SqT.of hb,rfl,_,rfl,rfl,_,rfl,?_⟩
     refine ite2 (fun h=>?_) (fun h=>?_)
     · have hz:p.nm=nm:=by
        have:=of_decide_eq_true h
        injection this
       refine⟨_,rfl,b,_,_,_,rfl,rfl,SqT.of hb,rfl,c1 _ _ ⟨_,rfl⟩ ⟨by rw[List.length_append];simp;omega,?_⟩⟩
       rw[e1,if_pos hz]
       refine paired_snoc ⟨m,rfl,up _ _ hm,?_⟩ zt
       exact ok.mm p hmem
     · have hz:p.nm≠nm:=fun z=>h (decide_eq_true (by rw[z]))
       refine c2 _ ⟨_,rfl⟩ ⟨by omega,?_⟩
       rw[e1,if_neg hz,List.append_nil]
       exact zt
   · rintro D H2 ys hD s2 eD ⟨zl,zt⟩
     rw[lk,List.take_length]at zt
     have hl:=paired_len zt
     have h4:=ok.four nm
     refine⟨D,ys,_,rfl,SqL.of eD,zt.same s2,by omega,mks_nodup ok.nd nm,fun ys' ks' t' p' a'=>fun l H3 n3 s3 e3=>?_⟩
     exact q l ys' ks' H3 (s2.free n3) (s2.trans s3) e3 (t'.same s3) p' a'
end
end K41
namespace K41
open PySem L2 PySem.Spec PyProof.Rows
seal PE PS PSs PA PT PW PG PGs PI PTs
structure Wsh where
 nm:Str
 io:Option (List Int×Option (List Int))
noncomputable def doneB(w:Wsh)(mk:Option (List Int)):Bool:=match w.io,mk with
 | none,mk=>mk.isNone
 | some _,none=>false
 | some c,some m=>!HT.lexLt m c.1 && underB m c.2
noncomputable def WshIn(H:Hp)(t:Addr)(nm:Str):Option (List Int×Option (List Int))->Prop
 | none=>H t=some (.tup [.str "out",.str nm])
 | some c=>∃l b,H t=some (.tup [.str "in",.str nm,.ref l,b])/\H l=some (.tup (c.1.map V.int))/\BelH H b c.2
noncomputable def WshH(H:Hp)(v:V)(w:Wsh):Prop:=∃t,v = .ref t/\WshIn H t w.nm w.io
theorem WshIn.same{H H':Hp}(s:Same H H'){t:Addr}{nm:Str}{io:Option (List Int×Option (List Int))}(h:WshIn H t nm io):WshIn H' t nm io:=by
 cases io with
 | none=>exact s _ _ h
 | some c=>
  obtain⟨l,b,h1,h2,h3⟩:=h
  exact⟨l,b,s _ _ h1,s _ _ h2,h3.same s⟩
theorem WshH.same{H H':Hp}(s:Same H H'){v:V}{w:Wsh}(h:WshH H v w):WshH H' v w:=h.elim fun t zq519=>zq519.elim fun a b=>⟨t,a,b.same s⟩
theorem WshH.nm{H:Hp}{v:V}{w:Wsh}(h:WshH H v w):∃t ws,v = .ref t/\H t=some (.tup ws)/\ws[1]? = some (.str w.nm):=by
 obtain⟨t,rfl,h⟩:=h
 obtain⟨nm,io⟩:=w
 cases io with
 | none=>exact⟨t,_,rfl,h,rfl⟩
 | some c=>
  obtain⟨l,b,h1,_⟩:=h
  exact⟨t,_,rfl,h1,rfl⟩
theorem in_out:¬(V.str "in" = V.str "out"):=by
 intro z
 injection z with z
 exact absurd z (by decide +kernel)
section
variable {P:Program} {w:World} {K:PySem.W.Frag} {mg:Str->Option Value} {base:Heap}
noncomputable def spDon:Sp:=fun vs H Q _=>∃(wv mv:V) (w:Wsh) (mk:Option (List Int)),vs = [wv,mv]/\WshH H wv w/\BelH H mv mk/\Q (.bl (doneB w mk)) H
theorem scDon:FnScope ["wish","make"] ["wish","make"] (defScope sDon):=⟨rfl,rfl,rfl,by decide +kernel,rfl,by decide +kernel,by decide +kernel⟩
theorem okDon{f fWit:Addr}{fd fdWit:FuncData}(F:Fun K "is_done_by" "is_done_by" sDon f fd)(FWit:Fun K "is_within" "is_within" sWit fWit fdWit)(mWit:mg "is_within" = some (.ref fWit)):FnOk P w K mg base CX0 2 f fd ["wish","make"] spDon:=by
 have GWit:FnOk P w K mg base CX0 1 fWit fdWit ["make","least","below"] spWit:=okWit FWit
 have bWit:=FWit.binds3 (l:=["make","least","below"]) (fun _ _ _ _ _ _ _ _ _=>rfl)
 refine F.ok scDon (fun vs H Q E h=>?_) (fun cdv A outer s H vs Q E hr h=>?_)
 · obtain⟨wv,mv,w,mk,rfl,_⟩:=h
   rfl
 · refine letX ?_
   intro xX dX
   obtain⟨wv,mv,w,mk,rfl,⟨t,rfl,hw⟩,hm,q⟩:=h
   refine⟨_,(pss_cons (ps_if (pt_cmpR op_eq (pe_ix ix_tup (pv 0) pe_int (fun _ _=>rfl)) pe_str (nomark _))
    (pss_one (ps_ret (pe_cmpR op_isN (pv 1) pe_non (nomark _)))) pss_nil)
    (pss_one (ps_ret (pe_and (pe_cmpR op_notN (pv 1) pe_non (nomark _)) (pe_one (pe_call GWit hr rfl mWit FWit.kp bWit .nil pass0 (pa_cons (pv 1) (pa_cons (pe_ix ix_tup (pv 0) pe_int (fun _ _=>rfl)) (pa_cons (pe_ix ix_tup (pv 0) pe_int (fun _ _=>rfl)) pa_nil))))))))),?_⟩
   refine lets2 ?_
   intro dD sS uU2
   obtain⟨nm,io⟩:=w
   cases io with
   | none=>
    refine⟨_,rfl,t,_,_,_,rfl,rfl,SqT.of hw,rfl,rfl,_,rfl,?_⟩
    refine ite2 (fun h=>?_) (fun h=>absurd (decide_eq_true rfl) h)
    refine⟨_,rfl,rfl,?_⟩
    cases mk with
    | none=>
     have hm:mv = .non:=hm
     subst hm
     exact q
    | some m=>
     obtain⟨a,rfl,_⟩:=hm
     exact q
   | some c=>
    obtain⟨l,b,h1,h2,h3⟩:=hw
    refine⟨_,rfl,t,_,_,_,rfl,rfl,SqT.of h1,rfl,rfl,_,rfl,?_⟩
    refine ite2 (fun h=>absurd (of_decide_eq_true h) in_out) (fun h=>?_)
    cases mk with
    | none=>
     have hm:mv = .non:=hm
     subst hm
     refine⟨_,rfl,rfl,_,rfl,iteF ?_⟩
     exact q
    | some m=>
     obtain⟨a,rfl,hA⟩:=hm
     refine⟨_,rfl,rfl,_,rfl,iteT ?_⟩
     refine⟨_,rfl,_,rfl,t,_,_,_,rfl,rfl,SqT.of h1,rfl,_,rfl,t,_,_,_,rfl,rfl,SqT.of h1,rfl,?_⟩
     exact⟨a,l,b,m,c.1,c.2,rfl,hA,h2,h3,q⟩
noncomputable def spCas(S:Addr):Sp:=fun vs H Q _=>∃(sv:V) (nm:Str) (xs:List V) (ps:List Pcl),vs = [sv,.str nm]/\ShelfAt S H sv xs ps/\PsOk ps /\
 ∀l ys ks H',H l=none->Same H H'->H' l=some (.lst (.non::ys))->TupsV H' ys ks->ks.Perm (mksOf ps nm)->adjT ks=true->Q (.ref l) H'
theorem scCas:FnScope ["shelf","name"] ["shelf","name"] (defScope sCas):=⟨rfl,rfl,rfl,by decide +kernel,rfl,by decide +kernel,by decide +kernel⟩
theorem okCas{f S f1 fSMo f3:Addr}{fd fdSMo:FuncData}(F:Fun K "cases_of" "cases_of" sCas f fd)(B:Blt mg)(U:TxtS K mg S f1 fSMo f3)(FSMo:Fun K "makes_of" "Shelf.makes_of" sSMo fSMo fdSMo):FnOk P w K mg base CX0 2 f fd ["shelf","name"] (spCas S):=by
 have GSMo:FnOk P w K mg base CX0 1 fSMo fdSMo ["self","name"] (spSMo S):=okSMo FSMo B U
 have bSMo:=FSMo.binds2 (l:=["self","name"]) (fun _ _ _ _ _ _ _ _=>rfl)
 refine F.ok scCas (fun vs H Q E h=>?_) (fun cdv A outer s H vs Q E hr h=>?_)
 · obtain⟨sv,nm,xs,ps,rfl,_⟩:=h
   rfl
 · refine letX ?_
   intro xX dX
   obtain⟨sv,nm,xs,ps,rfl,hS,ok,q⟩:=h
   refine⟨_,(pss_one (ps_ret (pe_op op_catN (pe_lstN (pa_cons pe_non pa_nil)) (pe_meth (pv 0) U.cl U.mM GSMo hr bSMo .nil pass0 (pa_cons (pv 1) pa_nil))))),?_⟩
   refine⟨(by show 1<=sizeLine;decide),fun p1 H1 n1 s1 e1=>?_⟩
   obtain⟨a,dx,fl,d,kvs,rfl,b1,b2,b3,b4,b5,b6⟩:=hS.same s1
   refine⟨_,rfl,a,dx,fl,rfl,b1,b5,_,rfl,?_⟩
   refine⟨_,nm,xs,ps,rfl,⟨a,dx,fl,d,kvs,rfl,b1,b2,b3,b4,b5,b6⟩,ok,fun l ys ks H2 n2 s2 e2 tv pm ad=>?_⟩
   have hl:=paired_len tv
   have h4:=ok.four nm
   rw[←pm.length_eq,←hl]at h4
   refine⟨p1,l,_,_,rfl,rfl,s2 _ _ e1,e2,smallL (by simp;omega),fun p3 H3 n3 s3 e3=>?_⟩
   exact q p3 ys ks H3 ((s1.trans s2).free n3) ((s1.trans s2).trans s3) e3 (tv.same s3) pm ad
structure NamesOf(ps:List Pcl)(ys:List Str):Prop where
 srt:sortedS ys=true
 nd:ys.Nodup
 mem:∀z,z∈ys↔z∈ps.map Pcl.nm
theorem NamesOf.uniq{ps:List Pcl}{a b:List Str}(h:NamesOf ps a)(k:NamesOf ps b):a=b:=
 sorted_eq ((List.perm_ext_iff_of_nodup h.nd k.nd).mpr fun z=>by rw[h.mem,k.mem]) h.srt k.srt
noncomputable def widP(ps:List Pcl)(n:Int)(nm:Str):Int:=n * ((mksOf ps nm).length+1:Nat)
noncomputable def spWid(S:Addr):Sp:=fun vs H Q _=>∃(sv:V) (xs:List V) (ps:List Pcl),vs = [sv]/\ShelfAt S H sv xs ps/\PsOk ps/\∀H' ys,Same H H'->NamesOf ps ys->Q (.int (ys.foldl (widP ps) 1)) H'
theorem scWid:FnScope ["shelf","width","name"] ["shelf"] (defScope sWid):=⟨rfl,rfl,rfl,by decide +kernel,rfl,by decide +kernel,by decide +kernel⟩
theorem okWid{f fCas S fSNa fSMo f3:Addr}{fd fdCas fdSNa fdSMo:FuncData}(F:Fun K "width_of" "width_of" sWid f fd)(B:Blt mg)(U:TxtS K mg S fSNa fSMo f3)(FSNa:Fun K "names" "Shelf.names" sSNa fSNa fdSNa)(FSMo:Fun K "makes_of" "Shelf.makes_of" sSMo fSMo fdSMo)
 (FCas:Fun K "cases_of" "cases_of" sCas fCas fdCas) (mCas:mg "cases_of" = some (.ref fCas)):FnOk P w K mg base CX0 3 f fd ["shelf"] (spWid S):=by
 have GSNa:FnOk P w K mg base CX0 1 fSNa fdSNa ["self"] (spSNa S):=okSNa FSNa B U
 have bSNa:=FSNa.binds1 (l:=["self"]) (fun _ _ _ _ _ _ _=>rfl)
 have GCas:FnOk P w K mg base CX0 2 fCas fdCas ["shelf","name"] (spCas S):=okCas FCas B U FSMo
 have bCas:=FCas.binds2 (l:=["shelf","name"]) (fun _ _ _ _ _ _ _ _=>rfl)
 refine F.ok scWid (fun vs H Q E h=>?_) (fun cdv A outer s H vs Q E hr h=>?_)
 · obtain⟨sv,xs,ps,rfl,_⟩:=h
   rfl
 · refine letX ?_
   intro xX dX
   obtain⟨sv,xs,ps,rfl,hS,ok,q⟩:=h
   have hr1:=hr.mono (j:=1) (by decide)
   have l64:=ok.len
   refine⟨_,(pss_cons (ps_set (i:=1) scWid.nd rfl (Or.inl rfl) pe_int)
    (pss_cons (ps_for PassesOwn.never rfl (pi_list (pe_meth0 (pv 0) U.cl U.mN GSNa hr1 bSNa .nil pass0)) (pg_name (i:=2) scWid.nd rfl (Or.inl rfl))
    (pss_one (ps_set (i:=1) scWid.nd rfl (Or.inl rfl) (pe_op op_mul (pv 1) (pe_callB call_len_seq (by rfl) B.len PySem.boot_len (pa_cons (pe_call GCas hr rfl mCas FCas.kp bCas .nil pass0 (pa_cons (pv 0) (pa_cons (pv 2) pa_nil))) pa_nil))))))
    (pss_one (ps_ret (pv 1))))),?_⟩
   refine lets3 ?_
   intro dD sS uU3 uU2
   obtain⟨a,dx,fl,d,kvs,rfl,b1,b2,b3,b4,b5,b6⟩:=id hS
   refine⟨_,rfl,a,dx,fl,rfl,b1,b4,?_⟩
   dsimp only[tNil,List.cons_append,List.nil_append]
   refine⟨_,xs,ps,rfl,hS,l64,fun l ys H1 n1 s1 e1 srt nd mem=>?_⟩
   refine⟨l,rfl,⟨_,SqL.of e1⟩,?_⟩
   refine for_list (D:={ dD with nx:=uU3 dD }) (xs:=ys.map V.str) (fun i σ H2=>∃u n,σ = [some (.ref a),some (.int n),u]/\n=(ys.take i).foldl (widP ps) 1/\Same H1 H2) ⟨none,1,rfl,rfl,Same.refl _⟩ ?_ ?_ ?_
   · rintro i σ H2 hi ⟨u,n,rfl,_,s2⟩
     exact SqL.of (s2 _ _ e1)
   · intro i x σ H2 hx hQ
     refine letG ?_
     intro tT
     obtain⟨u,n,rfl,en,s2⟩:=hQ
     rw[List.getElem?_map]at hx
     cases hy:ys[i]? with
     | none=>rw[hy]at hx;cases hx
     | some y=>
      rw[hy]at hx
      cases hx
      refine⟨_,rfl,_,rfl,_,rfl,?_⟩
      refine⟨_,y,xs,ps,rfl,hS.same (s1.trans s2),ok,fun c zs ks H3 n3 s3 e3 tv pm ad=>?_⟩
      have hl:=paired_len tv
      have h4:=ok.four y
      have hle:=pm.length_eq
      refine⟨c,_,rfl,.inl (SqL.of e3),_,_,rfl,rfl,.inr ⟨by simp;omega,by simp;omega⟩,?_⟩
      refine⟨_,_,rfl,?_,s2.trans s3⟩
      rw[List.take_add_one,hy,List.foldl_append,←en]
      show _=widP ps n y
      unfold widP
      rw[←hle,←hl]
      rfl
   · rintro σ H2 ⟨u,n,rfl,en,s2⟩
     rw[List.length_map,List.take_length]at en
     subst en
     exact⟨_,rfl,q H2 ys (s1.trans s2) ⟨srt,nd,mem⟩⟩
end
end K41
namespace K41
open PySem L2 PySem.Spec PyProof.Rows
seal PE PS PSs PA PT PW PG PGs PI PTs
theorem for_itemsG{g:TG}{tb:TS}{D:Ends}{σ:L2.St}{H1:Hp}{d:Addr}{kvs:List (Key×V)}{ob:Obj}(Pv:Nat->L2.St->Hp->Prop)(h0:Pv 0 σ (upd H1 d (.frz ob (.dK kvs))))(hf:∀i σ H,Pv i σ H->H d=some (.frz ob (.dK kvs)))
 (hs:∀i k v p σ H,kvs[i]? = some (k,v)->Pv i σ H->H p=none->g (.ref p) σ (upd H p (.tup [kV k,v])) fun σ2 H2=>
  tb { nx:=Pv (i+1),ct:=Pv (i+1),bk:=fun σ' H'=>H' d=some (.frz ob (.dK kvs))/\D.nx σ' (upd H' d (.dK kvs)),rt:=fun v' H'=>H' d=some (.frz ob (.dK kvs))/\D.rt v' (upd H' d (.dK kvs)) } σ2 H2)
 (hd:∀σ H,Pv kvs.length σ H->D.nx σ (upd H d (.dK kvs))):∃W:Nat->Nat->L2.St->Hp->Prop,(∃m,W 0 m σ (upd H1 d (.frz ob (.dK kvs))))/\∀i m σ H,W i m σ H ->
 H d=some (.frz ob (.dK kvs))/\((kvs.length<=i/\D.nx σ (upd H d (.dK kvs)))\/(i<kvs.length/\∃N:L2.St->Hp->Prop,(∀σ' H',N σ' H'->∃m',m'<m/\W (i+1) m' σ' H') /\
  ∀k v p,kvs[i]? = some (k,v)->H p=none->g (.ref p) σ (upd H p (.tup [kV k,v])) fun σ2 H2=>
   tb { nx:=N,ct:=N,bk:=fun σ' H'=>H' d=some (.frz ob (.dK kvs))/\D.nx σ' (upd H' d (.dK kvs)),rt:=fun v' H'=>H' d=some (.frz ob (.dK kvs))/\D.rt v' (upd H' d (.dK kvs)) } σ2 H2)):=by
 refine⟨fun i m σ H=>m=kvs.length - i/\i<=kvs.length/\Pv i σ H,⟨kvs.length,by simp,Nat.zero_le _,h0⟩,?_⟩
 rintro i m σ H ⟨rfl,hi,p⟩
 refine⟨hf i σ H p,?_⟩
 by_cases hlt:i<kvs.length
 · exact .inr ⟨hlt,Pv (i+1),fun σ' H' p'=>⟨kvs.length - (i+1),by omega,rfl,hlt,p'⟩,fun k v q hk hq=>hs i k v q σ H hk p hq⟩
 · have e:i=kvs.length:=by omega
   subst e
   exact .inl ⟨Nat.le_refl _,hd σ H p⟩
noncomputable abbrev Dec:=List (Str×Option (List Int))
noncomputable def DecV(H:Hp)(kv:Key×V)(e:Str×Option (List Int)):Prop:=kv.1 = .inr e.1/\BelH H kv.2 e.2
theorem DecV.same{H H':Hp}(s:Same H H'){kv:Key×V}{e:Str×Option (List Int)}(h:DecV H kv e):DecV H' kv e:=⟨h.1,h.2.same s⟩
noncomputable def DecAt(H:Hp)(c:Addr)(de:Dec):Prop:=∃kvs,H c=some (.dK kvs)/\Paired (DecV H) kvs de
theorem DecAt.same{H H':Hp}(s:Same H H'){c:Addr}{de:Dec}(h:DecAt H c de):DecAt H' c de:=h.elim fun kvs zq520=>zq520.elim fun a b=>⟨kvs,s _ _ a,paired_mapP b fun _ _=>DecV.same s⟩
noncomputable def chOf(de:Dec):Ch:=de.filterMap fun e=>e.2.map fun m=>(e.1,m)
theorem chOf_app(a b:Dec):chOf (a++b)=chOf a++chOf b:=List.filterMap_append
theorem chOf_key{de:Dec}{x:Str}(h:x∈(chOf de).map (·.1)):x∈de.map (·.1):=by
 obtain⟨e,he,rfl⟩:=List.mem_map.mp h
 obtain⟨d,hd,hm⟩:=List.mem_filterMap.mp he
 cases hz:d.2 with
 | none=>rw[hz]at hm;cases hm
 | some m=>
  rw[hz]at hm
  have hm:(d.1,m)=e:=Option.some.inj hm
  rw[←hm]
  exact List.mem_map.mpr ⟨d,hd,rfl⟩
theorem nd_take{de:Dec}(nd:(de.map (·.1)).Nodup){i:Nat}{e:Str×Option (List Int)}(h:de[i]? = some e):e.1∉(de.take i).map (·.1):=by
 rw[List.map_take]
 intro hm
 obtain⟨j,hj,ej⟩:=List.mem_iff_getElem.mp hm
 rw[List.length_take,List.length_map]at hj
 rw[List.getElem_take]at ej
 have e1:(de.map (·.1))[j]? = some e.1:=by rw[List.getElem?_eq_getElem (by rw[List.length_map];omega),ej]
 have e2:(de.map (·.1))[i]? = some e.1:=by rw[List.getElem?_map,h];rfl
 have:=(List.getElem?_inj (l:=de.map (·.1)) (i:=j) (j:=i) (by rw[List.length_map];omega) nd).mp (by rw[e1,e2])
 omega
theorem chOf_len(de:Dec):(chOf de).length<=de.length:=List.length_filterMap_le _ _
section
variable {P:Program} {w:World} {K:PySem.W.Frag} {mg:Str->Option Value} {base:Heap}
noncomputable def spWca:Sp:=fun vs H Q _=>∃(d:Addr) (nm:Str) (cv:V) (de:Dec) (o:Option (List Int)),vs = [.ref d,.str nm,cv]/\DecAt H d de/\BelH H cv o/\nm∉de.map (·.1)/\de.length<=100/\∀r H',H r=none->Same H H'->DecAt H' r (de++[(nm,o)])->Q (.ref r) H'
theorem scWca:FnScope ["decided","name","case","further"] ["decided","name","case"] (defScope sWca):=⟨rfl,rfl,rfl,by decide +kernel,rfl,by decide +kernel,by decide +kernel⟩
theorem okWca{f:Addr}{fd:FuncData}(F:Fun K "with_case" "with_case" sWca f fd)(B:Blt mg):FnOk P w K mg base CX0 1 f fd ["decided","name","case"] spWca:=by
 refine F.ok scWca (fun vs H Q E h=>?_) (fun cdv A outer s H vs Q E hr h=>?_)
 · obtain⟨d,nm,cv,de,o,rfl,_⟩:=h
   rfl
 · refine letX ?_
   intro xX dX
   obtain⟨d,nm,cv,de,o,rfl,⟨kvs,hd,pr⟩,hc,hn,hl,q⟩:=h
   have hu:=hr.units
   have hk:∀kv f,DecV H kv f->kv.1=Sum.inr f.1:=fun kv f z=>z.1
   refine⟨_,(pss_cons (ps_set (i:=3) scWca.nd rfl (Or.inl rfl) (pe_callTy call_dictN (by rfl) B.dict PyProof.Rows.boot_dict (pa_cons (pv 0) pa_nil)))
    (pss_cons (ps_dput hu (pv 3) (pv 1) (pv 2) rfl)
    (pss_one (ps_ret (pv 3))))),?_⟩
   refine lets3 ?_
   intro dD sS uU3 uU2
   have pl:=paired_len pr
   refine⟨_,rfl,d,_,rfl,hd,fun p1 H1 n1 s1 e1=>?_⟩
   refine⟨_,rfl,_,rfl,_,rfl,p1,_,rfl,DPut.k (k:=.inr nm) e1 (small1000 (by omega)),?_⟩
   refine⟨_,rfl,?_⟩
   have s2:=same_mut (o:=.dK (putK kvs (.inr nm) cv)) n1 s1
   refine q p1 _ n1 s2 ⟨_,upd_same,?_⟩
   have ek:putK kvs (.inr nm) cv=kvs++[(.inr nm,cv)]:=putK_new _ (paired_none hk pr hn)
   show Paired _ (putK kvs (.inr nm) cv) _
   refine ek▸?_
   rw[ek]at s2
   exact paired_snoc ⟨rfl,hc.same s2⟩ (paired_mapP pr fun _ _=>DecV.same s2)
noncomputable def spSde:Sp:=fun vs H Q _=>∃(d:Addr) (de:Dec),vs = [.ref d]/\DecAt H d de/\(de.map (·.1)).Nodup/\de.length<=100/\∀r H',H r=none->Same H H'->ChoAt H' r (chOf de)->Q (.ref r) H'
theorem scSde:FnScope ["decided","chosen","name","make"] ["decided"] (defScope sSde):=⟨rfl,rfl,rfl,by decide +kernel,rfl,by decide +kernel,by decide +kernel⟩
theorem okSde{f:Addr}{fd:FuncData}(F:Fun K "set_decided" "set_decided" sSde f fd):FnOk P w K mg base CX0 1 f fd ["decided"] spSde:=by
 refine F.ok scSde (fun vs H Q E h=>?_) (fun cdv A outer s H vs Q E hr h=>?_)
 · obtain⟨d,de,rfl,_⟩:=h
   rfl
 · refine letX ?_
   intro xX dX
   obtain⟨d,de,rfl,⟨kvs,hd,pr⟩,nd,hl,q⟩:=h
   have hu:=hr.units
   have hk:∀kv f,ChV H kv f->kv.1=Sum.inr f.1:=fun kv f z=>z.1
   refine⟨_,(pss_cons (ps_set (i:=1) scSde.nd rfl (Or.inl rfl) pe_dnewN)
    (pss_cons (ps_forItems PassesOwn.never rfl (pv 0) (pg_tup rfl (pgs_cons (pg_name (i:=2) scSde.nd rfl (Or.inl rfl)) (pgs_cons (pg_name (i:=3) scSde.nd rfl (Or.inl rfl)) pgs_nil)))
    (pss_one (ps_if (pt_cmpR op_notN (pv 3) pe_non (nomark _))
     (pss_one (ps_dput hu (pv 1) (pv 2) (pv 3) rfl)) pss_nil)))
    (pss_one (ps_ret (pv 1))))),?_⟩
   refine lets3 ?_
   intro dD sS uU3 uU2
   have pl:=paired_len pr
   refine fun r H1 n1 s1 e1=>?_
   have od:r≠d:=(ne_of_none hd n1).symm
   refine⟨_,rfl,d,kvs,rfl,s1 _ _ hd,fun ob=>?_⟩
   refine for_itemsG (fun i σ H5=>∃u v kvs2,σ = [some (.ref d),some (.ref r),u,v]/\(∀b x,H b=some x->b≠d->H5 b=some x)/\H5 d=some (.frz ob (.dK kvs))/\H5 r=some (.dK kvs2)/\Paired (ChV H) kvs2 (chOf (de.take i)))
    ⟨none,none,[],rfl,fun b x e hb=>keep_upd (s1 _ _ e) hb,upd_same,keep_upd e1 od,.nil⟩ ?_ ?_ ?_
   · rintro i σ H5 ⟨u,v,kvs2,rfl,_,h,_⟩
     exact h
   · intro i k v p σ H5 hi hQ hp
     refine letG ?_
     intro tT
     obtain⟨u,v',kvs2,rfl,k5,h5,hr5,pr5⟩:=hQ
     obtain⟨⟨x,o⟩,hf,a1,a2⟩:=paired_get' pr hi
     have a1:k = .inr x:=a1
     subst a1
     have hlt:=(List.getElem?_eq_some_iff.mp hf).1
     have sp:Same H5 (upd H5 p (.tup [kV (.inr x),v])):=same_upd hp
     have et:chOf (de.take (i+1))=chOf (de.take i)++chOf [(x,o)]:=by rw[take_snocP hf,chOf_app]
     refine⟨p,_,rfl,SqT.of upd_same,rfl,_,_,rfl,_,_,rfl,rfl,?_⟩
     refine⟨_,rfl,rfl,_,rfl,?_⟩
     cases o with
     | none=>
      have a2:v = .non:=a2
      subst a2
      refine iteF ?_
      refine⟨_,_,kvs2,rfl,fun b z e hb=>sp _ _ (k5 _ _ e hb),sp _ _ h5,sp _ _ hr5,?_⟩
      rw[et,show chOf [(x,none)] = [] from rfl,List.append_nil]
      exact pr5
     | some m=>
      obtain⟨c,rfl,hc⟩:=a2
      refine iteT ?_
      have hxn:x∉(chOf (de.take i)).map (·.1):=fun z=>nd_take nd hf (chOf_key z)
      have p5:=paired_len pr5
      have cl:=chOf_len (de.take i)
      rw[List.length_take]at cl
      refine⟨_,rfl,_,rfl,_,rfl,r,_,rfl,DPut.k (k:=.inr x) (sp _ _ hr5) (small1000 (by omega)),?_⟩
      refine⟨_,_,_,rfl,fun b z e hb=>keep_upd (sp _ _ (k5 _ _ e hb)) (ne_of_none e n1),keep_upd (sp _ _ h5) od.symm,upd_same,?_⟩
      rw[et,show chOf [(x,some m)] = [(x,m)] from rfl,putK_new _ (paired_none hk pr5 hxn)]
      exact paired_snoc ⟨rfl,c,rfl,hc⟩ pr5
   · rintro σ H5 ⟨u,v,kvs2,rfl,k5,h5,hr5,pr5⟩
     rw[pl,List.take_length]at pr5
     have sE:Same H (upd H5 d (.dK kvs)):=fun b o e=>by
      by_cases hb:b=d
      · subst hb
        rw[upd_same,←e,hd]
      · exact keep_upd (k5 _ _ e hb) hb
     exact⟨_,rfl,q r _ n1 sE ⟨kvs2,keep_upd hr5 od,paired_mapP pr5 fun _ _=>ChV.same sE⟩⟩
end
end K41
namespace K41
open PySem L2 PySem.Spec PyProof.Rows
seal PE PS PSs PA PT PW PG PGs PI PTs
theorem adj_pw:∀{l:List (List Int)},adjT l=true->l.Pairwise (fun a b=>HT.lexLt a b=true)
 | [],_=>.nil
 | [_],_=>List.pairwise_singleton _ _
 | x::y::r,h=>by
  obtain⟨h1,h2⟩:=Bool.and_eq_true_iff.mp h
  have ih:=adj_pw (l:=y::r) h2
  refine List.pairwise_cons.mpr ⟨fun z hz=>?_,ih⟩
  rcases List.mem_cons.mp hz with e | hz
  · rw[e];exact h1
  · exact lexLt_trans _ _ _ h1 (List.rel_of_pairwise_cons ih hz)
theorem adj_eq{a b:List (List Int)}(p:a.Perm b)(h1:adjT a=true)(h2:adjT b=true):a=b:=by
 refine List.Perm.eq_of_pairwise (fun x y _ _ h h'=>?_) (adj_pw h1) (adj_pw h2) p
 exact Classical.byContradiction fun ne=>by
  have:=lexLt_anti x y ne
  rw[h,h']at this
  cases this
structure Mks(ps:List Pcl)(M:Str->List (List Int)):Prop where
 pm:∀nm,(M nm).Perm (mksOf ps nm)
 ad:∀nm,adjT (M nm)=true
theorem Mks.is{ps:List Pcl}{M:Str->List (List Int)}(h:Mks ps M){nm:Str}{ks:List (List Int)}(p:ks.Perm (mksOf ps nm))(a:adjT ks=true):ks=M nm:=adj_eq (p.trans (h.pm nm).symm) a (h.ad nm)
noncomputable def caseP(M:Str->List (List Int))(nm:Str):List (Option (List Int)):=none::(M nm).map some
noncomputable def oneP(M:Str->List (List Int))(nm:Str)(de:Dec):List Dec:=(caseP M nm).map fun c=>de++[(nm,c)]
noncomputable def stepP(M:Str->List (List Int))(ds:List Dec)(nm:Str):List Dec:=ds.flatMap (oneP M nm)
noncomputable def waysP(M:Str->List (List Int))(ys:List Str):List Dec:=ys.foldl (stepP M) [[]]
theorem one_ne(M:Str->List (List Int))(nm:Str)(de:Dec):1<=(oneP M nm de).length:=by
 unfold oneP caseP
 simp
theorem step_ge(M:Str->List (List Int))(nm:Str):∀ds:List Dec,ds.length<=(stepP M ds nm).length
 | []=>Nat.zero_le _
 | d::ds=>by
  have h:=step_ge M nm ds
  have k:=one_ne M nm d
  unfold stepP at h ⊢
  rw[List.flatMap_cons,List.length_append,List.length_cons]
  omega
theorem fold_ge(M:Str->List (List Int)):∀(ys:List Str) (ds:List Dec),ds.length<=(ys.foldl (stepP M) ds).length
 | [],_=>Nat.le_refl _
 | y::ys,ds=>Nat.le_trans (step_ge M y ds) (fold_ge M ys (stepP M ds y))
theorem ways_take(M:Str->List (List Int))(ys:List Str)(i:Nat):(waysP M (ys.take i)).length<=(waysP M ys).length:=by
 have e:waysP M ys=(ys.drop i).foldl (stepP M) (waysP M (ys.take i)):=by
  unfold waysP
  rw[←List.foldl_append,List.take_append_drop]
 rw[e]
 exact fold_ge M _ _
theorem ways_snoc{M:Str->List (List Int)}{ys:List Str}{i:Nat}{y:Str}(h:ys[i]? = some y):waysP M (ys.take (i+1))=(waysP M (ys.take i)).flatMap (oneP M y):=by
 unfold waysP
 rw[take_snocP h,List.foldl_append]
 rfl
theorem fold_keys(M:Str->List (List Int)):∀(ys pre:List Str) (ds:List Dec),(∀de∈ds,de.map (·.1)=pre)->∀de∈ys.foldl (stepP M) ds,de.map (·.1)=pre++ys
 | [],pre,ds,h,de,hd=>by rw[List.append_nil];exact h de hd
 | y::ys,pre,ds,h,de,hd=>by
  have:=fold_keys M ys (pre++[y]) (stepP M ds y) (fun e he=>by
   obtain⟨d,hd,he⟩:=List.mem_flatMap.mp he
   obtain⟨c,_,rfl⟩:=List.mem_map.mp he
   rw[List.map_append,h d hd]
   rfl) de hd
  rw[this,List.append_assoc]
  rfl
theorem ways_keys{M:Str->List (List Int)}{ys:List Str}{de:Dec}(h:de∈waysP M ys):de.map (·.1)=ys:=fold_keys M ys [] [[]] (fun e he=>by rw[List.mem_singleton.mp he];rfl) de h
theorem BelH.mut{H:Hp}{D:Addr}{zs zs':List V}(hD:H D=some (.lst zs)){b:V}{o:Option (List Int)}(h:BelH H b o):BelH (upd H D (.lst zs')) b o:=by
 cases o with
 | none=>exact h
 | some bs=>
  obtain⟨a,e1,e2⟩:=h
  exact⟨a,e1,keep_upd e2 (ne_of e2 hD (by intro z;cases z))⟩
noncomputable def DecR(H:Hp)(v:V)(de:Dec):Prop:=∃c,v = .ref c/\DecAt H c de
theorem DecR.same{H H':Hp}(s:Same H H'){v:V}{de:Dec}(h:DecR H v de):DecR H' v de:=h.elim fun c zq521=>zq521.elim fun a b=>⟨c,a,b.same s⟩
theorem DecR.mut{H:Hp}{D:Addr}{zs zs':List V}(hD:H D=some (.lst zs)){v:V}{de:Dec}(h:DecR H v de):DecR (upd H D (.lst zs')) v de:=by
 obtain⟨c,rfl,kvs,h1,h2⟩:=h
 exact⟨c,rfl,kvs,keep_upd h1 (ne_of h1 hD (by intro z;cases z)),paired_mapP h2 fun _ _ z=>⟨z.1,z.2.mut hD⟩⟩
noncomputable def ChoR(H:Hp)(v:V)(ch:Ch):Prop:=∃c,v = .ref c/\ChoAt H c ch
theorem ChoR.same{H H':Hp}(s:Same H H'){v:V}{ch:Ch}(h:ChoR H v ch):ChoR H' v ch:=h.elim fun c zq522=>zq522.elim fun a b=>⟨c,a,b.same s⟩
theorem ChoR.mut{H:Hp}{D:Addr}{zs zs':List V}(hD:H D=some (.lst zs)){v:V}{ch:Ch}(h:ChoR H v ch):ChoR (upd H D (.lst zs')) v ch:=by
 obtain⟨c,rfl,kvs,h1,h2⟩:=h
 refine⟨c,rfl,kvs,keep_upd h1 (ne_of h1 hD (by intro z;cases z)),paired_mapP h2 fun _ _ z=>?_⟩
 obtain⟨z1,m,z2,z3⟩:=z
 exact⟨z1,m,z2,keep_upd z3 (ne_of z3 hD (by intro z;cases z))⟩
theorem bel_tups{H:Hp}:∀{ys:List V} {ks:List (List Int)},TupsV H ys ks->Paired (BelH H) ys (ks.map some)
 | _,_,.nil=>.nil
 | _,_,.cons ⟨t,e,h,_⟩ r=>.cons ⟨t,e,h⟩ (bel_tups r)
section
variable {P:Program} {w:World} {K:PySem.W.Frag} {mg:Str->Option Value} {base:Heap}
noncomputable def spSts(S:Addr):Sp:=fun vs H Q _=>∃(sv:V) (xs:List V) (ps:List Pcl) (M:Str->List (List Int)),vs = [sv]/\ShelfAt S H sv xs ps/\PsOk ps/\Mks ps M/\(∀ys,NamesOf ps ys->(waysP M ys).length<=500) /\
 ∀l zs ys H',H l=none->Same H H'->NamesOf ps ys->H' l=some (.lst zs)->Paired (ChoR H') zs ((waysP M ys).map chOf)->Q (.ref l) H'
theorem scSts:FnScope ["shelf","ways","name","further","decided"] ["shelf"] (defScope sSts):=⟨rfl,rfl,rfl,by decide +kernel,rfl,by decide +kernel,by decide +kernel⟩
theorem okSts{f fCas fWca fSde S fSNa fSMo f3:Addr}{fd fdCas fdWca fdSde fdSNa fdSMo:FuncData}(F:Fun K "sets_of" "sets_of" sSts f fd)(B:Blt mg)(U:TxtS K mg S fSNa fSMo f3)(FSNa:Fun K "names" "Shelf.names" sSNa fSNa fdSNa)(FSMo:Fun K "makes_of" "Shelf.makes_of" sSMo fSMo fdSMo)
 (FCas:Fun K "cases_of" "cases_of" sCas fCas fdCas) (mCas:mg "cases_of" = some (.ref fCas)) (FWca:Fun K "with_case" "with_case" sWca fWca fdWca) (mWca:mg "with_case" = some (.ref fWca)) (FSde:Fun K "set_decided" "set_decided" sSde fSde fdSde) (mSde:mg "set_decided" = some (.ref fSde)) :
 FnOk P w K mg base CX0 3 f fd ["shelf"] (spSts S):=by
 have GSNa:FnOk P w K mg base CX0 1 fSNa fdSNa ["self"] (spSNa S):=okSNa FSNa B U
 have bSNa:=FSNa.binds1 (l:=["self"]) (fun _ _ _ _ _ _ _=>rfl)
 have GCas:FnOk P w K mg base CX0 2 fCas fdCas ["shelf","name"] (spCas S):=okCas FCas B U FSMo
 have bCas:=FCas.binds2 (l:=["shelf","name"]) (fun _ _ _ _ _ _ _ _=>rfl)
 have GWca:FnOk P w K mg base CX0 1 fWca fdWca ["decided","name","case"] spWca:=okWca FWca B
 have bWca:=FWca.binds3 (l:=["decided","name","case"]) (fun _ _ _ _ _ _ _ _ _=>rfl)
 have GSde:FnOk P w K mg base CX0 1 fSde fdSde ["decided"] spSde:=okSde FSde
 have bSde:=FSde.binds1 (l:=["decided"]) (fun _ _ _ _ _ _ _=>rfl)
 refine F.ok scSts (fun vs H Q E h=>?_) (fun cdv A outer s H vs Q E hr h=>?_)
 · obtain⟨sv,xs,ps,M,rfl,_⟩:=h
   rfl
 · refine letX ?_
   intro xX dX
   obtain⟨sv,xs,ps,M,rfl,hS,ok,hM,h500,q⟩:=h
   have hr1:=hr.mono (j:=1) (by decide)
   have l64:=ok.len
   refine⟨_,(pss_cons (ps_set (i:=1) scSts.nd rfl (Or.inl rfl) (pe_lstN (pa_cons pe_dnewN pa_nil)))
    (pss_cons (ps_for PassesOwn.never rfl (pi_list (pe_meth0 (pv 0) U.cl U.mN GSNa hr1 bSNa .nil pass0)) (pg_name (i:=2) scSts.nd rfl (Or.inr rfl))
    (pss_cons (ps_set (i:=3) scSts.nd rfl (Or.inl rfl) (pe_lstN pa_nil))
     (pss_cons (ps_for PassesOwn.never rfl (pi_list (pv 1)) (pg_name (i:=4) scSts.nd rfl (Or.inr rfl))
     (pss_one (ps_expr (pe_bm PySem.F.plainAttrs_list PySem.F.slot_list_extend PySem.F.type_list_extend mt_extend (pv 3) (pa_cons (pe_compF ["case"] ["decided","name"] [4,2] ⟨rfl,by decide +kernel,by decide +kernel,by decide +kernel,by decide +kernel,rfl,rfl,rfl⟩ rfl (pi_list (pe_call GCas hr rfl mCas FCas.kp bCas .nil pass0 (pa_cons (pv 0) (pa_cons (pv 2) pa_nil)))) (fun _ _ _ _=>(pg_name (i:=0) (show List.Nodup (["case","decided","name"]:List Str) by decide +kernel) rfl (Or.inl rfl))) (fun _ _ _ _=>pts_nil) (fun _ _ _ _=>(pe_call GWca hr1 rfl mWca FWca.kp bWca .nil pass0 (pa_cons (pv 1) (pa_cons (pv 2) (pa_cons (pv 0) pa_nil)))))) pa_nil)))))
     (pss_one (ps_set (i:=1) scSts.nd rfl (Or.inl rfl) (pv 3))))))
    (pss_one (ps_ret (pe_compF ["decided"] [] [] ⟨rfl,by decide +kernel,by decide +kernel,by decide +kernel,by decide +kernel,rfl,rfl,rfl⟩ rfl (pi_list (pv 1)) (fun _ _ _ _=>(pg_name (i:=0) (show List.Nodup (["decided"]:List Str) by decide +kernel) rfl (Or.inl rfl))) (fun _ _ _ _=>pts_nil) (fun _ _ _ _=>(pe_call GSde hr1 rfl mSde FSde.kp bSde .nil pass0 (pa_cons (pv 0) pa_nil)))))))),?_⟩
   refine lets3 ?_
   intro dD sS uU3 uU2
   refine fun p1 H1 n1 s1 e1=>?_
   refine⟨(by show 1<=sizeLine;decide),fun p2 H2 n2 s2 e2=>?_⟩
   have s12:=s1.trans s2
   obtain⟨a,dx,fl,d,kvs,rfl,b1,b2,b3,b4,b5,b6⟩:=hS.same s12
   refine⟨_,rfl,a,dx,fl,rfl,b1,b4,?_⟩
   dsimp only[tNil,List.cons_append,List.nil_append]
   refine⟨_,xs,ps,rfl,hS.same s12,l64,fun l ys H3 n3 s3 e3 srt nd mem=>?_⟩
   have hN:NamesOf ps ys:=⟨srt,nd,mem⟩
   have w500:=h500 ys hN
   have yl:ys.length<=ps.length:=by
    have:=nodup_len nd fun z hz=>(mem z).mp hz
    rwa [List.length_map]at this
   refine⟨l,rfl,⟨_,SqL.of e3⟩,?_⟩
   have s13:=s12.trans s3
   refine for_list (D:={ dD with nx:=uU3 dD }) (xs:=ys.map V.str) (fun i σ H4=>∃wl u2 u3 u4 zs,σ = [some (.ref a),some (.ref wl),u2,u3,u4]/\Same H3 H4/\H4 wl=some (.lst zs)/\Paired (DecR H4) zs (waysP M (ys.take i)))
    ⟨p2,none,none,none,[.ref p1],rfl,Same.refl _,s3 _ _ e2,.cons ⟨p1,rfl,[],(s2.trans s3) _ _ e1,.nil⟩ .nil⟩ ?_ ?_ ?_
   · rintro i σ H4 hi ⟨wl,u2,u3,u4,zs,rfl,s4,_⟩
     exact SqL.of (s4 _ _ e3)
   · intro i x σ H4 hx hQ
     refine letG ?_
     intro tT
     obtain⟨wl,u2,u3,u4,zs,rfl,s4,hwl,hzs⟩:=hQ
     rw[List.getElem?_map]at hx
     cases hy:ys[i]? with
     | none=>rw[hy]at hx;cases hx
     | some y=>
      rw[hy]at hx
      cases hx
      have hlt:=(List.getElem?_eq_some_iff.mp hy).1
      have wi:=ways_take M ys (i+1)
      rw[ways_snoc hy]at wi
      have zl:=paired_len hzs
      refine⟨(by show 0<=sizeLine;decide),fun p5 H5 n5 s5 e5=>?_⟩
      refine⟨_,rfl,wl,rfl,⟨_,SqL.of (s5 _ _ hwl)⟩,?_⟩
      refine for_list (xs:=zs) (fun j σ H6=>∃u4 fs,σ = [some (.ref a),some (.ref wl),some (.str y),some (.ref p5),u4]/\Same H4 H6/\H6 p5=some (.lst fs)/\Paired (DecR H6) fs (((waysP M (ys.take i)).take j).flatMap (oneP M y))) ⟨u4,[],rfl,s5,e5,.nil⟩ ?_ ?_ ?_
      · rintro j σ H6 hj ⟨u4,fs,rfl,s6,_⟩
        exact SqL.of (s6 _ _ hwl)
      · intro j z σ H6 hz hQ6
        refine letG ?_
        intro tT6
        obtain⟨u4',fs,rfl,s6,e6,f6⟩:=hQ6
        obtain⟨de,hde,c,rfl,hc⟩:=paired_get' hzs hz
        have hkey:=ways_keys (List.mem_of_getElem? hde)
        have gl:=flat_le (f:=oneP M y) (l:=waysP M (ys.take i)) (i:=j+1)
        rw[flat_snoc hde,List.length_append]at gl
        have fl6:=paired_len f6
        refine⟨_,rfl,.inl ⟨rfl,_,SqL.of e6⟩,_,rfl,_,rfl,?_⟩
        refine⟨_,y,xs,ps,rfl,hS.same (s13.trans (s4.trans s6)),ok,fun c7 ys7 ks7 H7 n7 s7 e7 tv pm ad=>?_⟩
        have ek:=hM.is pm ad
        subst ek
        have hb:Paired (BelH H7) (.non::ys7) (caseP M y):=.cons rfl (bel_tups tv)
        have cl:=paired_len hb
        have ol:(oneP M y de).length=(caseP M y).length:=by unfold oneP;rw[List.length_map]
        refine⟨c7,rfl,⟨_,SqL.of e7⟩,?_⟩
        intro D8 hD8
        refine comp_listD0 (σ0:=[none,some (.ref c),some (.str y)]) hD8 (SqL.of e7) (fun σ=>∃v,σ = [v,some (.ref c),some (.str y)]) (fun k zs' H8=>Paired (DecR H8) zs' (((caseP M y).take k).map fun o=>de++[(y,o)])) ⟨_,rfl⟩ .nil ?_ ?_
        · rintro k x8 zs8 σ8 H8 kk hx8 ⟨v8,rfl⟩ hd8 h8 hP hk
          obtain⟨o,ho,hB⟩:=paired_get' hb hx8
          have pl8:=paired_len hP
          rw[List.length_map,List.length_take]at pl8
          refine⟨_,rfl,_,rfl,_,rfl,?_⟩
          refine⟨c,y,x8,de,o,rfl,hc.same (s6.trans (s7.trans h8)),hB.same h8,?_,?_,fun r9 H9 n9 s9 hr9=>?_⟩
          · rw[hkey]
            intro hm
            obtain⟨j',hj',ej'⟩:=List.mem_iff_getElem.mp hm
            rw[List.length_take]at hj'
            rw[List.getElem_take]at ej'
            have:=(List.getElem?_inj (l:=ys) (i:=j') (j:=i) (by omega) nd).mp (by rw[hy,List.getElem?_eq_getElem (by omega),ej'])
            omega
          · have:=congrArg List.length hkey
            rw[List.length_map,List.length_take]at this
            omega
          have d9:=s9 _ _ hd8
          refine hk _ _ _ ⟨_,rfl⟩ s9 (small1000 (by omega)) ?_
          rw[take_snocP ho,List.map_append]
          exact paired_snoc (DecR.mut d9 ⟨r9,rfl,hr9⟩) (paired_mapP hP fun _ _ z=>(z.same s9).mut d9)
        · intro zs8 H8 hd8 h8 hP
          rw[cl,List.take_length]at hP
          have pl8:=paired_len hP
          rw[List.length_map]at pl8
          have e68:=(s7.trans h8) _ _ e6
          refine⟨p5,D8,_,_,rfl,rfl,e68,hd8,Nat.le_of_lt (small1000 (by omega)),?_⟩
          refine⟨_,_,rfl,same_mut n5 (s6.trans (s7.trans h8)),upd_same,?_⟩
          rw[flat_snoc hde]
          exact paired_app (paired_mapP f6 fun _ _ z=>(z.same (s7.trans h8)).mut e68) (paired_mapP hP fun _ _ z=>z.mut e68)
      · rintro σ H6 ⟨u4',fs,rfl,s6,e6,f6⟩
        rw[zl,List.take_length]at f6
        refine⟨_,rfl,p5,_,_,_,fs,rfl,s4.trans s6,e6,?_⟩
        rw[ways_snoc hy]
        exact f6
   · rintro σ H4 ⟨wl,u2,u3,u4,zs,rfl,s4,hwl,hzs⟩
     rw[List.length_map,List.take_length]at hzs
     have zl:=paired_len hzs
     refine⟨_,rfl,wl,rfl,⟨_,SqL.of hwl⟩,?_⟩
     refine comp_list0 (σ0:=[none]) (SqL.of hwl) (fun σ=>∃v,σ = [v]) (fun k zs' H8=>Paired (ChoR H8) zs' (((waysP M ys).take k).map chOf)) ⟨_,rfl⟩ (fun _ _=>.nil) ?_ ?_
     · rintro D k x8 zs8 σ8 H8 kk hD hx8 ⟨v8,rfl⟩ hd8 h8 hP hk
       obtain⟨de,hde,c,rfl,hc⟩:=paired_get' hzs hx8
       have hlt:=(List.getElem?_eq_some_iff.mp hde).1
       have hkey:=ways_keys (List.mem_of_getElem? hde)
       have pl8:=paired_len hP
       rw[List.length_map,List.length_take]at pl8
       refine⟨_,rfl,c,de,rfl,hc.same h8,by rw[hkey];exact nd,?_,fun r9 H9 n9 s9 hr9=>?_⟩
       · have:=congrArg List.length hkey
         rw[List.length_map]at this
         omega
       have d9:=s9 _ _ hd8
       refine hk _ _ _ ⟨_,rfl⟩ s9 (small1000 (by omega)) ?_
       rw[take_snocP hde,List.map_append]
       exact paired_snoc (ChoR.mut d9 ⟨r9,rfl,hr9⟩) (paired_mapP hP fun _ _ z=>(z.same s9).mut d9)
     · intro D zs8 H8 hD hd8 h8 hP
       rw[zl,List.take_length]at hP
       exact q D zs8 ys H8 ((s13.trans s4).free hD) ((s13.trans s4).trans h8) hN hd8 hP
end
end K41
namespace K41
open PySem L2 PySem.Spec PyProof.Rows
seal PE PS PSs PA PT PW PG PGs PI PTs
theorem cho_get{H:Hp}{x:Str}:∀{kvs:List (Key×V)} {ch:Ch},Paired (ChV H) kvs ch->BelH H ((valV kvs (.inr x)).getD .non) (ch.lookup x)
 | _,_,.nil=>rfl
 | kv::kvs,e::ch,.cons r t=>by
  obtain⟨r1,m,r2,r3⟩:=r
  by_cases z:e.1=x
  · subst z
    rw[valV_pos r1,r2,show(e::ch).lookup e.1=some e.2 by rw[List.lookup_cons,beq_self_eq_true]]
    exact⟨m,rfl,r3⟩
  · have n1:kv.1≠.inr x:=fun y=>z (by rw[r1]at y;injection y)
    have n2:(x == e.1)=false:=beq_eq_false_iff_ne.mpr fun y=>z y.symm
    rw[valV_neg n1,show(e::ch).lookup x=ch.lookup x by rw[List.lookup_cons,n2]]
    exact cho_get t
noncomputable def datT:Option (List Int)->PySem.W.Dat
 | none=>.none
 | some m=>dI m
theorem datT_inj{a b:Option (List Int)}(h:datT a=datT b):a=b:=by
 cases a with
 | none=>
  cases b with
  | none=>rfl
  | some y=>cases h
 | some x=>
  cases b with
  | none=>cases h
  | some y=>rw[dI_inj.mp h]
theorem bel_dv{K:PySem.W.Frag}{H:Hp}{v:V}{o:Option (List Int)}(h:BelH H v o):DV K H v (datT o)/\PySem.W.kqdOk 9 (datT o)=true:=by
 cases o with
 | none=>
  have h:v = .non:=h
  subst h
  exact⟨.non,rfl⟩
 | some m=>
  obtain⟨a,rfl,h⟩:=h
  exact⟨.tup (SqT.of h) (dvs_ints _),dI_ok 8 m⟩
theorem alls_map{α:Type}(l:List α)(f:α->Bool):(l.map f).all id=l.all f:=by rw[List.all_map];rfl
noncomputable def metB(ch:Ch)(ws:List Wsh):Bool:=ws.all fun w=>doneB w (ch.lookup w.nm)
section
variable {P:Program} {w:World} {K:PySem.W.Frag} {mg:Str->Option Value} {base:Heap}
noncomputable def spMet:Sp:=fun vs H Q _=>∃(c a:Addr) (ch:Ch) (xs:List V) (ws:List Wsh),vs = [.ref c,.ref a]/\ChoAt H c ch/\H a=some (.lst xs)/\Paired (WshH H) xs ws/\ws.length<=100/\∀H',Same H H'->Q (.bl (metB ch ws)) H'
theorem scMet:FnScope ["chosen","wishes"] ["chosen","wishes"] (defScope sMet):=⟨rfl,rfl,rfl,by decide +kernel,rfl,by decide +kernel,by decide +kernel⟩
theorem okMet{f fDon fWit:Addr}{fd fdDon fdWit:FuncData}(F:Fun K "are_met" "are_met" sMet f fd)(B:Blt mg)(FDon:Fun K "is_done_by" "is_done_by" sDon fDon fdDon)(mDon:mg "is_done_by" = some (.ref fDon))(FWit:Fun K "is_within" "is_within" sWit fWit fdWit)(mWit:mg "is_within" = some (.ref fWit)) :
 FnOk P w K mg base CX0 3 f fd ["chosen","wishes"] spMet:=by
 have GDon:FnOk P w K mg base CX0 2 fDon fdDon ["wish","make"] spDon:=okDon FDon FWit mWit
 have bDon:=FDon.binds2 (l:=["wish","make"]) (fun _ _ _ _ _ _ _ _=>rfl)
 refine F.ok scMet (fun vs H Q E h=>?_) (fun cdv A outer s H vs Q E hr h=>?_)
 · obtain⟨c,a,ch,xs,ws,rfl,_⟩:=h
   rfl
 · refine letX ?_
   intro xX dX
   obtain⟨c,a,ch,xs,ws,rfl,⟨kvs,hc,pr⟩,ha,hw,l100,q⟩:=h
   have hu:=hr.units
   have wl:=paired_len hw
   refine⟨_,(pss_one (ps_ret (pe_callB (call_all K) (by rfl) B.all PyProof.Rows.boot_all (pa_cons (pe_compF ["wish"] ["chosen"] [0] ⟨rfl,by decide +kernel,by decide +kernel,by decide +kernel,by decide +kernel,rfl,rfl,rfl⟩ rfl (pi_list (pv 1)) (fun _ _ _ _=>(pg_name (i:=0) (show List.Nodup (["wish","chosen"]:List Str) by decide +kernel) rfl (Or.inl rfl))) (fun _ _ _ _=>pts_nil)
    (fun _ _ _ _=>(pe_call GDon hr rfl mDon FDon.kp bDon .nil pass0 (pa_cons (pv 0) (pa_cons (pe_dget1 hu (pv 1) (pe_ix (ix_tupK K) (pv 0) pe_int (fun _ _=>rfl)) ⟨rfl,rfl,rfl,rfl⟩) pa_nil))))) pa_nil)))),?_⟩
   refine⟨_,rfl,a,rfl,⟨_,SqL.of ha⟩,?_⟩
   refine comp_mapL (σ0:=[none,some (.ref c)]) (SqL.of ha) (fun σ=>∃v,σ = [v,some (.ref c)]) ((ws.map fun w=>doneB w (ch.lookup w.nm)).map V.bl) (by rw[List.length_map,List.length_map,wl]) (Nat.le_of_lt (small1000 (by omega))) ⟨_,rfl⟩ ?_ ?_
   · intro i z y σ H2 k hz hy hQ hs hk
     obtain⟨v,rfl⟩:=hQ
     obtain⟨wi,hwi,hW⟩:=paired_get' hw hz
     rw[List.map_map,List.getElem?_map,hwi]at hy
     cases hy
     obtain⟨t,us,rfl,ht,h1⟩:=hW.nm
     refine⟨_,rfl,_,rfl,c,rfl,.inl ⟨_,.inl (hs _ _ hc)⟩,_,rfl,t,_,_,_,rfl,rfl,SqT.of (hs _ _ ht),atI_nat (j:=1) h1,_,DGet.k (k:=.inr wi.nm) (hs _ _ hc),?_⟩
     exact⟨_,_,wi,ch.lookup wi.nm,rfl,hW.same hs,(cho_get pr).same hs,hk _ _ ⟨_,rfl⟩ (Same.refl _)⟩
   · intro D H2 hD hd hs
     refine⟨D,_,rfl,SqL.of hd,?_⟩
     rw[alls_map]
     exact q H2 hs
noncomputable def othF(fs tr:Ch)(k:Str):Bool:=decide (fs.lookup k≠tr.lookup k)
noncomputable def spKUn:Sp:=fun vs H Q _=>∃(a b:Addr) (fs tr:Ch),vs = [.ref a,.ref b]/\ChoAt H a fs/\ChoAt H b tr/\fs.length+tr.length<=20 /\
 ∀l H' ys,H l=none->Same H H'->H' l=some (.lst ((ys.filter (othF fs tr)).map V.str))->sortedS ys=true->ys.Nodup->(∀z,z∈ys↔z∈fs.map (·.1)\/z∈tr.map (·.1))->Q (.ref l) H'
theorem scKUn:FnScope ["first","second"] ["first","second"] (defScope sKUn):=⟨rfl,rfl,rfl,by decide +kernel,rfl,by decide +kernel,by decide +kernel⟩
theorem okKUn{f:Addr}{fd:FuncData}(F:Fun K "keys_unlike" "keys_unlike" sKUn f fd)(B:Blt mg):FnOk P w K mg base CX0 1 f fd ["first","second"] spKUn:=by
 refine F.ok scKUn (fun vs H Q E h=>?_) (fun cdv A outer s H vs Q E hr h=>?_)
 · obtain⟨a,b,fs,tr,rfl,_⟩:=h
   rfl
 · refine letX ?_
   intro xX dX
   obtain⟨a,b,fs,tr,rfl,⟨ka,ha,pa⟩,⟨kb,hb,pb⟩,l20,q⟩:=h
   have hu:=hr.units
   refine⟨_,(pss_one (ps_ret (pe_compF ["key"] ["first","second"] [0,1] ⟨rfl,by decide +kernel,by decide +kernel,by decide +kernel,by decide +kernel,rfl,rfl,rfl⟩ rfl (pi_list (pe_callB (call_sortedY rfl) (by rfl) B.sorted PyProof.Rows.boot_sorted (pa_cons (pe_op op_orS (pe_callTy call_setD (by rfl) B.set PyProof.Rows.boot_set (pa_cons (pv 0) pa_nil)) (pe_callTy call_setD (by rfl) B.set PyProof.Rows.boot_set (pa_cons (pv 1) pa_nil))) pa_nil)))
    (fun _ _ _ _=>(pg_name (i:=0) (show List.Nodup (["key","first","second"]:List Str) by decide +kernel) rfl (Or.inl rfl))) (fun _ _ _ _=>pts_one (pt_cmpR (op_neDK K hu) (pe_dget1 hu (pv 1) (pv 0) ⟨rfl,rfl,rfl,rfl⟩) (pe_dget1 hu (pv 2) (pv 0) ⟨rfl,rfl,rfl,rfl⟩) (nomark _))) (fun _ _ _ _=>(pv 0))))),?_⟩
   refine⟨_,rfl,a,ka,fs.map (·.1),rfl,ha,keysS_of (fun _ _ (z:ChV H _ _)=>z.1) pa,by rw[List.length_map];omega,fun r1 xs1 H1 n1 s1 e1 nd1 m1=>?_⟩
   refine⟨_,rfl,b,kb,tr.map (·.1),rfl,s1 _ _ hb,keysS_of (fun _ _ (z:ChV H _ _)=>z.1) pb,by rw[List.length_map];omega,fun r2 xs2 H2 n2 s2 e2 nd2 m2=>?_⟩
   have l1:xs1.length<=fs.length:=by have:=nodup_len nd1 fun z hz=>(m1 z).mp hz;rwa [List.length_map]at this
   have l2:xs2.length<=tr.length:=by have:=nodup_len nd2 fun z hz=>(m2 z).mp hz;rwa [List.length_map]at this
   refine⟨r1,r2,xs1,xs2,rfl,rfl,ne_of_none e1 n2,s2 _ _ e1,e2,by omega,fun r3 zs H3 n3 s3 e3 nd3 m3=>?_⟩
   have l3:zs.length<=20:=by have:=nodup_len nd3 fun z hz=>(m3 z).mp hz;rw[List.length_append]at this;omega
   refine⟨r3,zs,rfl,e3,by omega,fun ys pm srt p H4 n4 s4 e4=>?_⟩
   have s14:Same H H4:=(s1.trans s2).trans (s3.trans s4)
   have lys:ys.length<=20:=by rw[pm.length_eq];exact l3
   refine⟨p,rfl,⟨_,SqL.of e4⟩,?_⟩
   refine comp_listG (K:=K) (xs:=ys.map V.str) (σ0:=[none,some (.ref a),some (.ref b)]) (SqL.of e4) (fun σ=>∃v,σ = [v,some (.ref a),some (.ref b)]) (fun i ws _=>ws=((ys.take i).filter (othF fs tr)).map V.str) ⟨_,rfl⟩ (fun _ _=>rfl) ?_ ?_
   · rintro D i x ws σ H5 k k' hD hx ⟨v,rfl⟩ hd5 s5 rfl hk hk'
     rw[List.getElem?_map]at hx
     cases hy:ys[i]? with
     | none=>rw[hy]at hx;cases hx
     | some y=>
      rw[hy]at hx
      cases hx
      have s05:=s14.trans s5
      obtain⟨d1,o1⟩:=bel_dv (K:=K) ((cho_get (x:=y) pa).same s05)
      obtain⟨d2,o2⟩:=bel_dv (K:=K) ((cho_get (x:=y) pb).same s05)
      refine⟨_,rfl,a,rfl,.inl ⟨_,.inl (s05 _ _ ha)⟩,_,rfl,_,DGet.k (k:=.inr y) (s05 _ _ ha),?_⟩
      refine⟨_,rfl,b,rfl,.inl ⟨_,.inl (s05 _ _ hb)⟩,_,rfl,_,DGet.k (k:=.inr y) (s05 _ _ hb),?_⟩
      refine⟨_,_,d1,d2,o1,o2,fun bb hbb=>⟨_,rfl,?_⟩⟩
      have e0:=filt_snoc (f:=othF fs tr) hy
      refine ite2 (fun h=>?_) (fun h=>?_)
      · have hne:othF fs tr y=true:=decide_eq_true fun e=>by
         have:bb=true:=hbb.mpr (by rw[e])
         rw[this]at h;cases h
        refine⟨_,rfl,hk _ _ _ ⟨_,rfl⟩ (Same.refl _) (small1000 ?_) ?_⟩
        · rw[List.length_map]
          have:=List.length_filter_le (othF fs tr) (ys.take i)
          rw[List.length_take]at this
          omega
        · rw[e0,if_pos hne,List.map_append];rfl
      · have heq:fs.lookup y=tr.lookup y:=by
         cases bb with
         | true=>exact datT_inj (hbb.mp rfl)
         | false=>exact absurd rfl h
        refine hk' _ _ ⟨_,rfl⟩ (Same.refl _) ?_
        rw[e0,if_neg (by unfold othF;rw[decide_eq_false (fun z=>z heq)];exact Bool.false_ne_true),List.append_nil]
   · rintro D ws H5 hD hd5 s5 rfl
     rw[List.length_map,List.take_length]at hd5
     refine q D H5 ys (s14.free hD) (s14.trans s5) hd5 srt (pm.nodup_iff.mpr nd3) fun z=>?_
     rw[pm.mem_iff,m3,List.mem_append,m1,m2]
end
end K41
namespace K41
open PySem L2 PySem.Spec PyProof.Rows
seal PE PS PSs PA PT PW PG PGs PI PTs
section
variable {P:Program} {w:World} {K:PySem.W.Frag} {mg:Str->Option Value} {base:Heap}
noncomputable def strangeS:Str:="strange"
noncomputable def spWis:Sp:=fun vs H Q _=>∃(na:Addr) (c k:Int) (xs:List Str),vs = [.ref na,.int c,.int k]/\0<=k/\k<=100/\H na=some (.lst (xs.map V.str))/\Nms xs/\∀v H' w,Same H H'->WshH H' v w->Q v H'
theorem scWis:FnScope ["_law_names_here","_law_cell","_law_k","_law_name","_law_least","_law_below"] ["_law_names_here","_law_cell","_law_k"] (defScope sWis):=⟨rfl,rfl,rfl,by decide +kernel,rfl,by decide +kernel,by decide +kernel⟩
theorem okWis{f fDra:Addr}{fd fdDra:FuncData}(F:Fun K "_law_wish" "_law_wish" sWis f fd)(FDra:Fun K "_law_draw" "_law_draw" sDra fDra fdDra)(mDra:mg "_law_draw" = some (.ref fDra)):FnOk P w K mg base CX0 2 f fd ["_law_names_here","_law_cell","_law_k"] spWis:=by
 have GDra:FnOk P w K mg base CX0 1 fDra fdDra ["_law_cell","_law_k"] spDra:=okDra FDra
 have bDra:=FDra.binds2 (l:=["_law_cell","_law_k"]) (fun _ _ _ _ _ _ _ _=>rfl)
 refine F.ok scWis (fun vs H Q E h=>?_) (fun cdv A outer s H vs Q E hr h=>?_)
 · obtain⟨na,c,k,xs,rfl,_⟩:=h
   rfl
 · refine letX ?_
   intro xX dX
   obtain⟨na,c,k,xs,rfl,k0,k1,hna,hN,q⟩:=h
   refine⟨_,(pss_cons (ps_set (i:=3) scWis.nd rfl (Or.inl rfl) (pe_ix ix_list (pe_op op_catN (pe_op op_catN (pv 0) (pv 0)) (pe_lstN (pa_cons pe_str pa_nil))) (pe_op op_mod (pe_call GDra hr rfl mDra FDra.kp bDra .nil pass0 (pa_cons (pv 1) (pa_cons (pv 2) pa_nil))) pe_int) (fun _ _=>rfl)))
    (pss_cons (ps_if (pt_cmpR op_eq (pe_op op_mod (pe_call GDra hr rfl mDra FDra.kp bDra .nil pass0 (pa_cons (pv 1) (pa_cons (pe_op op_add (pv 2) pe_int) pa_nil))) pe_int) pe_int (nomark _))
    (pss_one (ps_ret (pe_tupN (pa_cons pe_str (pa_cons (pv 3) pa_nil))))) pss_nil)
    (pss_cons (ps_set (i:=4) scWis.nd rfl (Or.inl rfl) (pe_ix ix_list (pe_lstN (pa_cons (pe_tupN pa_nil) (pa_cons (pe_tupN (pa_cons (pe_op op_mod (pe_call GDra hr rfl mDra FDra.kp bDra .nil pass0 (pa_cons (pv 1) (pa_cons (pe_op op_add (pv 2) pe_int) pa_nil))) pe_int) pa_nil)) (pa_cons (pe_tupN (pa_cons pe_int (pa_cons (pe_op op_mod (pe_call GDra hr rfl mDra FDra.kp bDra .nil pass0 (pa_cons (pv 1) (pa_cons (pe_op op_add (pv 2) pe_int) pa_nil))) pe_int) pa_nil))) pa_nil)))) (pe_op op_mod (pe_call GDra hr rfl mDra FDra.kp bDra .nil pass0 (pa_cons (pv 1) (pa_cons (pe_op op_add (pv 2) pe_int) pa_nil))) pe_int) (fun _ _=>rfl)))
    (pss_cons (ps_set (i:=5) scWis.nd rfl (Or.inl rfl) (pe_ix ix_list (pe_lstN (pa_cons pe_non (pa_cons (pe_tupN (pa_cons (pe_op op_add pe_int (pe_op op_mod (pe_call GDra hr rfl mDra FDra.kp bDra .nil pass0 (pa_cons (pv 1) (pa_cons (pe_op op_add (pv 2) pe_int) pa_nil))) pe_int)) pa_nil)) (pa_cons (pe_tupN (pa_cons pe_int (pa_cons (pe_op op_pow pe_int pe_int) pa_nil))) pa_nil)))) (pe_op op_mod (pe_call GDra hr rfl mDra FDra.kp bDra .nil pass0 (pa_cons (pv 1) (pa_cons (pe_op op_add (pv 2) pe_int) pa_nil))) pe_int) (fun _ _=>rfl)))
    (pss_one (ps_ret (pe_tupN (pa_cons pe_str (pa_cons (pv 3) (pa_cons (pv 4) (pa_cons (pv 5) pa_nil))))))))))),?_⟩
   refine lets5 ?_
   intro dD sS uU5 uU4 uU3 uU2
   refine⟨_,rfl,_,rfl,na,na,_,_,rfl,rfl,hna,hna,smallL (by rw[List.length_map,hN.len];decide),fun p1 H1 n1 s1 e1=>?_⟩
   refine⟨(by show 1<=sizeLine;decide),fun p2 H2 n2 s2 e2=>?_⟩
   refine⟨p1,p2,_,_,rfl,rfl,s2 _ _ e1,e2,smallL (by rw[List.length_append,List.length_map,hN.len];decide),fun p3 H3 n3 s3 e3=>?_⟩
   have e3':H3 p3=some (.lst ((xs++xs++[strangeS]).map V.str)):=by rw[e3,List.map_append,List.map_append];rfl
   refine⟨_,rfl,_,rfl,c,k,rfl,by omega,by omega,fun d0 _=>?_⟩
   obtain⟨z,hz,_⟩:=atI_strs (xs:=xs++xs++[strangeS]) (r:=d0 % 11) (by omega) (by rw[List.length_append,List.length_append,hN.len];show _<((11:Nat):Int);omega)
   refine⟨_,_,rfl,rfl,(by show(0:Int)<11;decide),p3,_,_,_,rfl,rfl,SqL.of e3',hz,?_⟩
   refine⟨_,rfl,_,rfl,_,_,rfl,rfl,_,_,rfl,by omega,by omega,fun d1 _=>?_⟩
   refine⟨_,_,rfl,rfl,(by show(0:Int)<3;decide),rfl,_,rfl,?_⟩
   have s13:=(s1.trans s2).trans s3
   refine ite2 (fun h=>?_) (fun h=>?_)
   · refine⟨_,rfl,(by show 2<=sizeLine;decide),fun p4 H4 n4 s4 e4=>?_⟩
     exact q _ _ ⟨z,none⟩ (s13.trans s4) ⟨p4,rfl,e4⟩
   · refine⟨(by show 0<=sizeLine;decide),fun p5 H5 n5 s5 e5=>?_⟩
     refine⟨_,rfl,_,rfl,_,_,rfl,rfl,_,_,rfl,by omega,by omega,fun d2 _=>?_⟩
     refine⟨_,_,rfl,rfl,(by show(0:Int)<4;decide),(by show 1<=sizeLine;decide),fun p6 H6 n6 s6 e6=>?_⟩
     refine⟨_,rfl,_,rfl,_,_,rfl,rfl,_,_,rfl,by omega,by omega,fun d3 _=>?_⟩
     refine⟨_,_,rfl,rfl,(by show(0:Int)<9;decide),(by show 2<=sizeLine;decide),fun p7 H7 n7 s7 e7=>?_⟩
     refine⟨(by show 3<=sizeLine;decide),fun p8 H8 n8 s8 e8=>?_⟩
     refine⟨_,rfl,_,rfl,_,_,rfl,rfl,_,_,rfl,by omega,by omega,fun d4 _=>?_⟩
     obtain⟨lv,hlv,l,ls,rfl,hl⟩:=at3 (a:=.ref p5) (b:=.ref p6) (c:=.ref p7) d4 (R:=fun v=>∃l ls,v = .ref l/\H8 l=some (.tup (ls.map V.int))) ⟨_,[],rfl,((s6.trans s7).trans s8) _ _ e5⟩ ⟨_,[_],rfl,(s7.trans s8) _ _ e6⟩ ⟨_,[_,_],rfl,s8 _ _ e7⟩
     refine⟨_,_,rfl,rfl,(by show(0:Int)<3;decide),p8,_,_,_,rfl,rfl,SqL.of e8,hlv,?_⟩
     refine⟨_,rfl,_,rfl,_,_,rfl,rfl,_,_,rfl,by omega,by omega,fun d5 _=>?_⟩
     refine⟨_,_,rfl,rfl,(by show(0:Int)<9;decide),_,_,rfl,rfl,(by show 1<=sizeLine;decide),fun p9 H9 n9 s9 e9=>?_⟩
     refine⟨_,_,rfl,rfl,⟨by decide,by decide,by decide⟩,(by show 2<=sizeLine;decide),fun p10 H10 n10 s10 e10=>?_⟩
     refine⟨(by show 3<=sizeLine;decide),fun p11 H11 n11 s11 e11=>?_⟩
     refine⟨_,rfl,_,rfl,_,_,rfl,rfl,_,_,rfl,by omega,by omega,fun d6 _=>?_⟩
     obtain⟨bv,hbv,bl,hb⟩:=at3 (a:=.non) (b:=.ref p9) (c:=.ref p10) d6 (R:=fun v=>∃bl,BelH H11 v bl) ⟨none,rfl⟩ ⟨some [_],_,rfl,(s10.trans s11) _ _ e9⟩ ⟨some [_,_],_,rfl,s11 _ _ e10⟩
     refine⟨_,_,rfl,rfl,(by show(0:Int)<3;decide),p11,_,_,_,rfl,rfl,SqL.of e11,hbv,?_⟩
     refine⟨_,rfl,_,rfl,_,rfl,(by show 4<=sizeLine;decide),fun p12 H12 n12 s12 e12=>?_⟩
     have s911:=((s9.trans s10).trans s11).trans s12
     exact q _ _ ⟨z,some (ls,bl)⟩ ((((((s13.trans s5).trans s6).trans s7).trans s8).trans s911)) ⟨p12,rfl,l,bv,e12,s911 _ _ hl,hb.same s12⟩
noncomputable def spLMe:Sp:=fun vs H Q _=>∃(c:Addr) (wv:V) (ch:Ch) (w:Wsh),vs = [.ref c,wv]/\ChoAt H c ch/\WshH H wv w/\Q (.bl (doneB w (ch.lookup w.nm))) H
theorem scLMe:FnScope ["_law_chosen","_law_wish_here","_law_make"] ["_law_chosen","_law_wish_here"] (defScope sLMe):=⟨rfl,rfl,rfl,by decide +kernel,rfl,by decide +kernel,by decide +kernel⟩
theorem okLMe{f:Addr}{fd:FuncData}(F:Fun K "_law_met" "_law_met" sLMe f fd):FnOk P w K mg base CX0 1 f fd ["_law_chosen","_law_wish_here"] spLMe:=by
 refine F.ok scLMe (fun vs H Q E h=>?_) (fun cdv A outer s H vs Q E hr h=>?_)
 · obtain⟨c,wv,ch,w,rfl,_⟩:=h
   rfl
 · refine letX ?_
   intro xX dX
   obtain⟨c,wv,ch,w,rfl,⟨kvs,hc,pr⟩,hW,q⟩:=h
   have hu:=hr.units
   have hu0:=hr.units0
   refine⟨_,(pss_cons (ps_set (i:=2) scLMe.nd rfl (Or.inl rfl) (pe_dget1 hu (pv 0) (pe_ix ix_tup (pv 1) pe_int (fun _ _=>rfl)) ⟨rfl,rfl,rfl,rfl⟩))
    (pss_cons (ps_if (pt_cmpR op_eq (pe_ix ix_tup (pv 1) pe_int (fun _ _=>rfl)) pe_str (nomark _))
    (pss_one (ps_ret (pe_cmpR op_isN (pv 2) pe_non (nomark _)))) pss_nil)
    (pss_one (ps_ret (pe_and (pe_cmpR op_notN (pv 2) pe_non (nomark _)) (pe_and (pe_cmpR (op_leT hu0) (pe_ix ix_tup (pv 1) pe_int (fun _ _=>rfl)) (pv 2) (nomark _)) (pe_one (pe_or (pe_cmpR op_isN (pe_ix ix_tup (pv 1) pe_int (fun _ _=>rfl)) pe_non (nomark _)) (pe_one (pe_cmpR (op_ltT hu0) (pv 2) (pe_ix ix_tup (pv 1) pe_int (fun _ _=>rfl)) (nomark _))))))))))),?_⟩
   refine lets3 ?_
   intro dD sS uU3 uU2
   obtain⟨t,us,rfl,ht,h1⟩:=hW.nm
   have hB:=cho_get (x:=w.nm) pr
   refine⟨_,rfl,c,rfl,.inl ⟨_,.inl hc⟩,_,rfl,t,_,_,_,rfl,rfl,SqT.of ht,atI_nat (j:=1) h1,_,DGet.k (k:=.inr w.nm) hc,?_⟩
   generalize (valV kvs (.inr w.nm)).getD .non=mv at hB ⊢
   obtain⟨t',e',hw⟩:=hW
   cases e'
   obtain⟨nm,io⟩:=w
   dsimp only at hB q hw h1
   generalize ch.lookup nm=mk at hB q
   cases io with
   | none=>
    have hw:H t=some (.tup [.str "out",.str nm]):=hw
    refine⟨_,rfl,t,_,_,_,rfl,rfl,SqT.of hw,rfl,rfl,_,rfl,?_⟩
    refine ite2 (fun h=>?_) (fun h=>absurd (decide_eq_true rfl) h)
    refine⟨_,rfl,rfl,?_⟩
    cases mk with
    | none=>
     have hB:mv = .non:=hB
     subst hB
     exact q
    | some m=>
     obtain⟨a,rfl,_⟩:=hB
     exact q
   | some c'=>
    obtain⟨l,b,g1,g2,g3⟩:=hw
    have z2:atI [V.str "in",.str nm,.ref l,b] 2=some (.ref l):=rfl
    have z3:atI [V.str "in",.str nm,.ref l,b] 3=some b:=rfl
    refine⟨_,rfl,t,_,_,_,rfl,rfl,SqT.of g1,rfl,rfl,_,rfl,?_⟩
    refine ite2 (fun h=>absurd (of_decide_eq_true h) in_out) (fun h=>?_)
    cases mk with
    | none=>
     have hB:mv = .non:=hB
     subst hB
     refine⟨_,rfl,rfl,_,rfl,iteF ?_⟩
     exact q
    | some m=>
     obtain⟨a,rfl,hA⟩:=hB
     refine⟨_,rfl,rfl,_,rfl,iteT ?_⟩
     refine⟨_,rfl,t,_,_,_,rfl,rfl,SqT.of g1,z2,_,rfl,l,a,c'.1,m,rfl,rfl,SqT.of g2,SqT.of hA,_,rfl,?_⟩
     have q:Q (.bl (!HT.lexLt m c'.1 && underB m c'.2)) H:=q
     refine ite2 (fun h1=>?_) (fun h1=>?_)
     · have h1:(!HT.lexLt m c'.1)=true:=h1
       rw[h1,Bool.true_and]at q
       refine⟨_,rfl,t,_,_,_,rfl,rfl,SqT.of g1,z3,rfl,_,rfl,?_⟩
       generalize c'.2=bl at g3 q
       cases bl with
       | none=>
        have g3:b = .non:=g3
        subst g3
        exact iteT q
       | some bs=>
        obtain⟨d,rfl,hd⟩:=g3
        refine iteF ?_
        exact⟨_,rfl,_,rfl,t,_,_,_,rfl,rfl,SqT.of g1,z3,a,d,m,bs,rfl,rfl,SqT.of hA,SqT.of hd,q⟩
     · have h1:(!HT.lexLt m c'.1)=false:=Bool.eq_false_iff.mpr h1
       rw[h1,Bool.false_and]at q
       exact q
end
end K41
namespace K41
open PySem L2 PySem.Spec PyProof.Rows
seal PE PS PSs PA PT PW PG PGs PI PTs
noncomputable abbrev Ent:=Str×List Int
noncomputable def EntH(H:Hp)(v:V)(e:Ent):Prop:=∃t m,v = .ref t/\H t=some (.tup [.str e.1,.ref m])/\H m=some (.tup (e.2.map V.int))
theorem EntH.same{H H':Hp}(s:Same H H'){v:V}{e:Ent}(h:EntH H v e):EntH H' v e:=h.elim fun t zq523=>zq523.elim fun m zq524=>zq524.elim fun a zq525=>zq525.elim fun b c=>⟨t,m,a,s _ _ b,s _ _ c⟩
theorem EntH.mut{H:Hp}{D:Addr}{zs zs':List V}(hD:H D=some (.lst zs)){v:V}{e:Ent}(h:EntH H v e):EntH (upd H D (.lst zs')) v e:=by
 obtain⟨t,m,a,b,c⟩:=h
 exact⟨t,m,a,keep_upd b (ne_of b hD (by intro z;cases z)),keep_upd c (ne_of c hD (by intro z;cases z))⟩
noncomputable def cntE(es:List Ent)(nm:Str):Nat:=(es.filter fun e=>decide (e.1=nm)).length
structure EsOk(es:List Ent):Prop where
 len:es.length<=20
 ne:∀e∈es,e.2≠[]
 nd:es.Nodup
 four:∀nm,cntE es nm<=4
noncomputable def mkI:List Int->Int
 | []=>0
 | [x]=>x
 | _::y::_=>y
noncomputable def cutI(xs:List Int)(lo hi:Option Int):List Int:=(xs.drop (HT.sIx xs.length 0 lo)).take (HT.sIx xs.length xs.length hi - HT.sIx xs.length 0 lo)
theorem cutV_ints(xs:List Int)(lo hi:Option Int):cutV (xs.map V.int) lo hi=(cutI xs lo hi).map V.int:=by
 unfold cutV cutI
 rw[List.length_map,List.map_take,List.map_drop]
theorem cells12(xs:List Int):(cutI xs (some 3) (some 15)).length<=12:=by
 unfold cutI
 rw[show(3:Int)=((3:Nat):Int) from rfl,show(15:Int)=((15:Nat):Int) from rfl,HT.sIx_nat,HT.sIx_nat,List.length_take]
 omega
theorem cnt_snoc(es:List Ent)(e:Ent)(nm:Str):cntE (es++[e]) nm=cntE es nm+(if e.1=nm then 1 else 0):=by
 unfold cntE
 rw[List.filter_append,List.length_append]
 by_cases h:e.1=nm
 · rw[if_pos h];simp[h]
 · rw[if_neg h];simp[h]
section
variable {P:Program} {w:World} {K:PySem.W.Frag} {mg:Str->Option Value} {base:Heap}
noncomputable def spPcs(K:PySem.W.Frag):Sp:=fun vs H Q _=>∃(a:Addr) (ns:List Int),vs = [.ref a]/\SqL K H a (ns.map V.int)/\∀l H' zs es,H l=none->Same H H'->H' l=some (.lst zs)->Paired (EntH H') zs es->EsOk es->Q (.ref l) H'
theorem scPcs:FnScope ["_law_script","_law_names_here","_law_found","_law_cells","_law_k","_law_name","_law_make"] ["_law_script"] (defScope sPcs):=⟨rfl,rfl,rfl,by decide +kernel,rfl,by decide +kernel,by decide +kernel⟩
theorem okPcs{f fCel fDra fNam:Addr}{fd fdCel fdDra fdNam:FuncData}(F:Fun K "_law_parcels" "_law_parcels" sPcs f fd)(B:Blt mg)(FCel:Fun K "_law_cell_at" "_law_cell_at" sCel fCel fdCel)(mCel:mg "_law_cell_at" = some (.ref fCel))(FDra:Fun K "_law_draw" "_law_draw" sDra fDra fdDra)(mDra:mg "_law_draw" = some (.ref fDra))
 (FNam:Fun K "_law_names" "_law_names" sNam fNam fdNam) (mNam:mg "_law_names" = some (.ref fNam)):FnOk P w K mg base CX0 3 f fd ["_law_script"] (spPcs K):=by
 have GCel:FnOk P w K mg base CX0 1 fCel fdCel ["_law_script","_law_k"] (spCel K):=okCel FCel B
 have bCel:=FCel.binds2 (l:=["_law_script","_law_k"]) (fun _ _ _ _ _ _ _ _=>rfl)
 have GNam:FnOk P w K mg base CX0 2 fNam fdNam ["_law_cell"] spNam:=okNam FNam B FDra mDra
 have bNam:=FNam.binds1 (l:=["_law_cell"]) (fun _ _ _ _ _ _ _=>rfl)
 have GDra:FnOk P w K mg base CX0 1 fDra fdDra ["_law_cell","_law_k"] spDra:=okDra FDra
 have bDra:=FDra.binds2 (l:=["_law_cell","_law_k"]) (fun _ _ _ _ _ _ _ _=>rfl)
 refine F.ok scPcs (fun vs H Q E h=>?_) (fun cdv A outer s H vs Q E hr h=>?_)
 · obtain⟨a,ns,rfl,_⟩:=h
   rfl
 · refine letX ?_
   intro xX dX
   obtain⟨a,ns,rfl,hA,q⟩:=h
   have hr1:=hr.mono (j:=1) (by decide)
   have hr2:=hr.mono (j:=2) (by decide)
   refine⟨_,(pss_cons (ps_set (i:=1) scPcs.nd rfl (Or.inl rfl) (pe_call GNam hr2 rfl mNam FNam.kp bNam .nil pass0 (pa_cons (pe_call GCel hr1 rfl mCel FCel.kp bCel .nil pass0 (pa_cons (pv 0) (pa_cons pe_int pa_nil))) pa_nil)))
    (pss_cons (ps_set (i:=2) scPcs.nd rfl (Or.inl rfl) (pe_lstN pa_nil))
    (pss_cons (ps_set (i:=3) scPcs.nd rfl (Or.inl rfl) (pe_slice sl_listN (pv 0) (po_some pe_int) (po_some pe_int)))
    (pss_cons (ps_for PassesOwn.never rfl (pi_range1 rfl B.range (pa_cons (pe_callB call_len_seq (by rfl) B.len PySem.boot_len (pa_cons (pv 3) pa_nil)) pa_nil)) (pg_name (i:=4) scPcs.nd rfl (Or.inl rfl))
    (pss_cons (ps_set (i:=5) scPcs.nd rfl (Or.inr rfl) (pe_ix ix_list (pv 1) (pe_op op_mod (pe_call GDra hr1 rfl mDra FDra.kp bDra .nil pass0 (pa_cons (pe_ix ix_list (pv 3) (pv 4) (fun _ _=>rfl)) (pa_cons pe_int pa_nil))) pe_int) (fun _ _=>rfl)))
     (pss_cons (ps_set (i:=6) scPcs.nd rfl (Or.inl rfl) (pe_lstN (pa_cons (pe_tupN (pa_cons (pv 4) pa_nil)) (pa_cons (pe_tupN (pa_cons (pe_op op_mod (pe_call GDra hr1 rfl mDra FDra.kp bDra .nil pass0 (pa_cons (pe_ix ix_list (pv 3) (pv 4) (fun _ _=>rfl)) (pa_cons pe_int pa_nil))) pe_int) (pa_cons (pv 4) pa_nil))) (pa_cons (pe_tupN (pa_cons pe_int (pa_cons (pv 4) (pa_cons (pe_op op_mod (pe_call GDra hr1 rfl mDra FDra.kp bDra .nil pass0 (pa_cons (pe_ix ix_list (pv 3) (pv 4) (fun _ _=>rfl)) (pa_cons pe_int pa_nil))) (pe_op op_pow pe_int pe_int)) pa_nil)))) pa_nil)))))
     (pss_one (ps_if (pt_cmpR op_lt (pe_callB call_len_seq (by rfl) B.len PySem.boot_len (pa_cons (pe_compF ["_law_one"] ["_law_name"] [5] ⟨rfl,by decide +kernel,by decide +kernel,by decide +kernel,by decide +kernel,rfl,rfl,rfl⟩ rfl (pi_list (pv 2)) (fun _ _ _ _=>(pg_name (i:=0) (show List.Nodup (["_law_one","_law_name"]:List Str) by decide +kernel) rfl (Or.inl rfl))) (fun _ _ _ _=>pts_one (pt_cmpR op_eq (pe_ix (ix_tupK K) (pv 0) pe_int (fun _ _=>rfl)) (pv 1) (nomark _))) (fun _ _ _ _=>(pv 0))) pa_nil)) pe_int (nomark _))
     (pss_one (ps_expr (pe_bm PySem.F.plainAttrs_list PySem.F.slot_list_append PySem.F.type_list_append mt_append (pv 2) (pa_cons (pe_tupN (pa_cons (pv 5) (pa_cons (pe_ix ix_list (pv 6) (pe_op op_mod (pe_call GDra hr1 rfl mDra FDra.kp bDra .nil pass0 (pa_cons (pe_ix ix_list (pv 3) (pv 4) (fun _ _=>rfl)) (pa_cons pe_int pa_nil))) pe_int) (fun _ _=>rfl)) pa_nil))) pa_nil)))) pss_nil)))))
    (pss_one (ps_ret (pv 2))))))),?_⟩
   refine lets5 ?_
   intro dD sS uU5 uU4 uU3 uU2
   refine⟨_,rfl,a,_,ns,rfl,by decide,hA,fun c0=>⟨_,rfl,fun l1 H1 xs n1 s1 e1 hN=>?_⟩⟩
   refine⟨(by show 0<=sizeLine;decide),fun p2 H2 n2 s2 e2=>?_⟩
   refine⟨_,rfl,_,rfl,_,rfl,a,_,rfl,(s1.trans s2).seq hA,fun p3 H3 n3 s3 e3=>?_⟩
   rw[cutV_ints]at e3
   have c12:=cells12 ns
   generalize cutI ns (some 3) (some 15)=cs at e3 c12
   have n13:p3≠p2:=(ne_of_none e2 n3).symm
   refine⟨_,rfl,p3,_,rfl,.inl (SqL.of e3),((cs.map V.int).length:Int),rfl,by omega,by rw[List.length_map];omega,?_⟩
   refine for_range (fun i σ H4=>∃(u v x:Option V) (vs:List V) (es:List Ent),σ = [some (.ref a),some (.ref l1),some (.ref p2),some (.ref p3),u,v,x]/\Same H1 H4/\H4 p3=some (.lst (cs.map V.int))/\H4 p2=some (.lst vs)/\Paired (EntH H4) vs es/\es.length<=i/\(∀e∈es,e.2≠[]/\mkI e.2<i)/\(es.Pairwise fun p q=>mkI p.2<mkI q.2)/\∀nm,cntE es nm<=4)
    ⟨none,none,none,[],[],rfl,s2.trans s3,e3,s3 _ _ e2,.nil,Nat.le_refl _,(fun _ h=>nomatch h),.nil,fun _=>Nat.zero_le _⟩ ?_ ?_
   · intro i σ H4 hi hQ
     refine letG ?_
     intro tT
     obtain⟨u,v,x,vs,es,rfl,s4,c4,e4,h4,pl,pg,pm,pc⟩:=hQ
     have hi':i<cs.length:=by
      rw[List.length_map]at hi
      omega
     obtain⟨z,hz,_⟩:=atI_ints (ns:=cs) (r:=0+(i:Int)) (by omega) (by omega)
     refine⟨_,rfl,_,rfl,_,rfl,p3,_,_,_,rfl,rfl,SqL.of c4,hz,_,_,rfl,by decide,by decide,fun d0 _=>?_⟩
     obtain⟨y,hy,_⟩:=atI_strs (xs:=xs) (r:=d0 % 5) (by omega) (by rw[hN.len];omega)
     refine⟨_,_,rfl,rfl,(by show(0:Int)<5;decide),l1,_,_,_,rfl,rfl,SqL.of (s4 _ _ e1),hy,?_⟩
     refine⟨_,rfl,(by show 1<=sizeLine;decide),fun p5 H5 n5 s5 e5=>?_⟩
     refine⟨_,rfl,_,rfl,p3,_,_,_,rfl,rfl,SqL.of (s5 _ _ c4),hz,_,_,rfl,by decide,by decide,fun d1 _=>?_⟩
     refine⟨_,_,rfl,rfl,(by show(0:Int)<3;decide),_,rfl,(by show 2<=sizeLine;decide),fun p6 H6 n6 s6 e6=>?_⟩
     refine⟨_,rfl,_,rfl,_,rfl,p3,_,_,_,rfl,rfl,SqL.of ((s5.trans s6) _ _ c4),hz,_,_,rfl,by decide,by decide,fun d2 _=>?_⟩
     refine⟨_,_,rfl,rfl,⟨by decide,by decide,by decide⟩,_,_,rfl,rfl,(by show(0:Int)<10 ^ (9:Int).toNat;decide),(by show 3<=sizeLine;decide),fun p7 H7 n7 s7 e7=>?_⟩
     refine⟨(by show 3<=sizeLine;decide),fun p8 H8 n8 s8 e8=>?_⟩
     have s48:=((s5.trans s6).trans s7).trans s8
     refine⟨_,rfl,p2,rfl,⟨_,SqL.of (s48 _ _ e4)⟩,?_⟩
     intro D hD
     have vl:=paired_len h4
     refine comp_listD (σ0:=[none,some (.str y)]) hD (SqL.of (s48 _ _ e4)) (fun σ=>∃v,σ = [v,some (.str y)]) (fun j zs _=>zs.length=cntE (es.take j) y) ⟨_,rfl⟩ rfl ?_ ?_
     · rintro j w8 zs σ H9 k k' hw ⟨v,rfl⟩ hd9 h9 zl hk1 hk2
       obtain⟨o,ho,t,m,rfl,ht,hm⟩:=paired_get' h4 hw
       have hlt:=(List.getElem?_eq_some_iff.mp ho).1
       have zle:zs.length<=20:=by
        rw[zl]
        have:=List.length_filter_le (fun e:Ent=>decide (e.1=y)) (es.take j)
        rw[List.length_take]at this
        unfold cntE
        omega
       refine⟨_,rfl,t,_,_,_,rfl,rfl,SqT.of ((s48.trans h9) _ _ ht),rfl,_,rfl,rfl,_,rfl,?_⟩
       refine ite2 (fun h=>?_) (fun h=>?_)
       · have he:o.1=y:=by
          have:=of_decide_eq_true h
          injection this
         exact⟨_,rfl,hk1 _ _ _ ⟨_,rfl⟩ (Same.refl _) (small1000 (by omega)) (by rw[List.length_append,List.length_singleton,take_snocP ho,cnt_snoc,if_pos he,zl])⟩
       · have he:¬o.1=y:=fun z=>h (decide_eq_true (by rw[z]))
         exact hk2 _ _ ⟨_,rfl⟩ (Same.refl _) (by rw[take_snocP ho,cnt_snoc,if_neg he,zl];rfl)
     · rintro zs H9 hd9 h9 zl
       rw[vl,List.take_length]at zl
       refine⟨D,_,rfl,.inl (SqL.of hd9),_,_,rfl,rfl,_,rfl,?_⟩
       have s49:=s48.trans h9
       refine ite2 (fun h=>?_) (fun h=>?_)
       · have h:=of_decide_eq_true h
         obtain⟨mv,hmv,m,ms,rfl,hm,hms,hmi⟩:∃mv,atI [V.ref p5,.ref p6,.ref p7] (drawF z 3 % 3)=some mv/\∃m ms,mv=V.ref m/\H9 m=some (.tup (ms.map V.int))/\ms≠[]/\mkI ms=i:=at3 (drawF z 3) (R:=fun mv=>∃m ms,mv=V.ref m/\H9 m=some (.tup (ms.map V.int))/\ms≠[]/\mkI ms=i)
          ⟨p5,[0+(i:Int)],rfl,(((s6.trans s7).trans s8).trans h9) _ _ e5,by simp,by show(0:Int)+i=i;omega⟩ ⟨p6,[_,0+(i:Int)],rfl,((s7.trans s8).trans h9) _ _ e6,by simp,by show(0:Int)+i=i;omega⟩ ⟨p7,[_,0+(i:Int),_],rfl,(s8.trans h9) _ _ e7,by simp,by show(0:Int)+i=i;omega⟩
         refine⟨_,rfl,.inl ⟨rfl,_,SqL.of (s49 _ _ e4)⟩,_,rfl,_,rfl,_,rfl,_,rfl,p3,_,_,_,rfl,rfl,SqL.of (s49 _ _ c4),hz,_,_,rfl,by decide,by decide,fun d3 ed=>?_⟩
         subst ed
         refine⟨_,_,rfl,rfl,(by show(0:Int)<3;decide),p8,_,_,_,rfl,rfl,SqL.of (h9 _ _ e8),hmv,(by show 2<=sizeLine;decide),fun p9 H10 n10 s10 e10=>?_⟩
         have e4':=(s49.trans s10) _ _ e4
         have c4':=(s49.trans s10) _ _ c4
         refine⟨p2,_,_,rfl,rfl,e4',small1000 (by omega),?_⟩
         refine⟨_,_,_,_,es++[(y,ms)],rfl,same_mut n2 (s4.trans (s49.trans s10)),keep_upd c4' n13,upd_same,?_,by rw[List.length_append];exact Nat.succ_le_succ pl,fun e he=>?_,?_,fun nm=>?_⟩
         · exact paired_snoc (EntH.mut e4' ⟨p9,m,rfl,e10,s10 _ _ hm⟩) (paired_mapP h4 fun _ _ z=>(z.same (s49.trans s10)).mut e4')
         · rcases List.mem_append.mp he with z | z
           · obtain⟨a1,a2⟩:=pg e z
             exact⟨a1,by omega⟩
           · rw[List.mem_singleton.mp z]
             exact⟨hms,by show mkI ms<_;rw[hmi];omega⟩
         · refine List.pairwise_append.mpr ⟨pm,List.pairwise_singleton _ _,fun p' hp' q hq=>?_⟩
           rw[List.mem_singleton.mp hq]
           show _<mkI ms
           rw[hmi]
           exact(pg p' hp').2
         · rw[cnt_snoc]
           by_cases e:y=nm
           · subst e
             rw[if_pos rfl]
             omega
           · rw[if_neg e]
             exact pc nm
       · refine⟨_,_,_,vs,es,rfl,s4.trans s49,s49 _ _ c4,s49 _ _ e4,paired_mapP h4 fun _ _ z=>z.same s49,by omega,fun e he=>?_,pm,pc⟩
         obtain⟨a1,a2⟩:=pg e he
         exact⟨a1,by omega⟩
   · intro σ H4 hQ
     obtain⟨u,v,x,vs,es,rfl,s4,c4,e4,h4,pl,pg,pm,pc⟩:=hQ
     refine⟨_,rfl,q p2 H4 vs es (s1.free n2) (s1.trans s4) e4 h4 ⟨?_,fun e he=>(pg e he).1,?_,pc⟩⟩
     · refine Nat.le_trans pl ?_
       rw[List.length_map]
       omega
     · exact pm.imp fun {a b} h z=>by rw[z]at h;exact absurd h (Int.lt_irrefl _)
end
end K41
namespace K41
open PySem L2 PySem.Spec PyProof.Rows
seal PE PS PSs PA PT PW PG PGs PI PTs
noncomputable def pclE(e:Ent):Pcl:=⟨e.1,e.2,0,[],[],[],[]⟩
theorem mks_cnt(es:List Ent)(nm:Str):(mksOf (es.map pclE) nm).length=cntE es nm:=by
 unfold mksOf cntE
 rw[List.length_map,List.filter_map,List.length_map]
 rfl
theorem keyE_inj{a b:Ent}(h:keyOf (pclE a)=keyOf (pclE b)):a=b:=by
 obtain⟨a1,a2⟩:=a
 obtain⟨b1,b2⟩:=b
 unfold keyOf pclE at h
 injection h with h1 h2
 injection h2 with h2 _
 injection h1 with h1
 injection h1 with h1
 injection h2 with h2
 have h2:=ints_inl_inj h2
 simp only at h1 h2
 rw[h1,h2]
theorem EsOk.ps{es:List Ent}(h:EsOk es):PsOk (es.map pclE):=by
 refine⟨?_,fun p hp=>?_,fun nm=>?_,?_⟩
 · rw[List.map_map]
   exact List.pairwise_map.mpr (h.nd.imp fun {a b} z e=>z (keyE_inj e))
 · obtain⟨e,he,rfl⟩:=List.mem_map.mp hp
   exact h.ne e he
 · rw[mks_cnt]
   exact h.four nm
 · rw[List.length_map]
   have:=h.len
   omega
section
variable {P:Program} {w:World} {K:PySem.W.Frag} {mg:Str->Option Value} {base:Heap}
theorem make_shelfA{C S:Addr}{H:Hp}{Q:Addr->Hp->Prop}{E:XK}{a:Addr}{xs:List V}{ps:List Pcl}(ha:H a=some (.lst xs))(hps:PclsAt C H xs ps)(h100:ps.length<=100)(hnd:(ps.map keyOf).Nodup)(q:∀x H',H x=none->Same H H'->ShelfAt S H' (.ref x) xs ps->Q x H') :
 ∀x dx,H x=none->H dx=none->dx≠x->spSIn K C S (.ref x::([.ref a]++[])) (upd (upd H dx (.own x)) x (.ins S dx [])) (fun v H2=>v = .non/\Q x H2) E:=by
 intro x dx hx hdx nx
 have s1:Same H (upd (upd H dx (.own x)) x (.ins S dx [])):=same_upd' (same_upd hdx) hx
 refine⟨x,dx,a,xs,ps,rfl,upd_same,s1 _ _ ha,hps.same s1,h100,hnd,fun H' keep hS=>⟨rfl,q x H' hx (fun b o e=>keep b o (s1 _ _ e) (ne_of_none e hx)) hS⟩⟩
noncomputable def spShf(C S:Addr):Sp:=fun vs H Q _=>∃(a:Addr) (zs:List V) (es:List Ent),vs = [.ref a]/\H a=some (.lst zs)/\Paired (EntH H) zs es/\EsOk es/\∀x xs H',H x=none->Same H H'->ShelfAt S H' (.ref x) xs (es.map pclE)->PclsAt C H' xs (es.map pclE)->Q (.ref x) H'
theorem scShf:FnScope ["_law_parcels_here"] ["_law_parcels_here"] (defScope sShf):=⟨rfl,rfl,rfl,by decide +kernel,rfl,by decide +kernel,by decide +kernel⟩
theorem okShf{f C S fN fM fP fPIn fSIn:Addr}{fd fdPIn fdSIn:FuncData}(F:Fun K "_law_shelf" "_law_shelf" sShf f fd)(B:Blt mg)(T:Txt K mg C)(U:TxtS K mg S fN fM fP)(MP:Mk K C fPIn)(MS:Mk K S fSIn)(FPIn:Fun K "__init__" "Parcel.__init__" sPIn fPIn fdPIn)(FSIn:Fun K "__init__" "Shelf.__init__" sSIn fSIn fdSIn) :
 FnOk P w K mg base CX0 3 f fd ["_law_parcels_here"] (spShf C S):=by
 have GPIn:FnOk P w K mg base CX0 1 fPIn fdPIn ["self","name","make","rank","files","needs","shuts","offers"] (spPIn K C):=okPIn FPIn T B.list
 have bPIn:=FPIn.binds8 (l:=["self","name","make","rank","files","needs","shuts","offers"]) (fun _ _ _ _ _ _ _ _ _ _ _ _ _ _=>rfl)
 have GSIn:FnOk P w K mg base CX0 1 fSIn fdSIn ["self","parcels"] (spSIn K C S):=okSIn FSIn T U
 have bSIn:=FSIn.binds2 (l:=["self","parcels"]) (fun _ _ _ _ _ _ _ _=>rfl)
 refine F.ok scShf (fun vs H Q E h=>?_) (fun cdv A outer s H vs Q E hr h=>?_)
 · obtain⟨a,zs,es,rfl,_⟩:=h
   rfl
 · refine letX ?_
   intro xX dX
   obtain⟨a,zs,es,rfl,ha,hes,hok,q⟩:=h
   refine⟨_,(pss_one (ps_ret (pe_make MS GSIn hr rfl U.mgC bSIn .nil pass0 (pa_cons (pe_compF ["_law_name","_law_make"] [] [] ⟨rfl,by decide +kernel,by decide +kernel,by decide +kernel,by decide +kernel,rfl,rfl,rfl⟩ rfl (pi_list (pv 0)) (fun _ _ _ _=>(pg_tupK (n:=2) K rfl (pgs_cons (pg_name (i:=0) (show List.Nodup (["_law_name","_law_make"]:List Str) by decide +kernel) rfl (Or.inl rfl)) (pgs_cons (pg_name (i:=1) (show List.Nodup (["_law_name","_law_make"]:List Str) by decide +kernel) rfl (Or.inl rfl)) pgs_nil)))) (fun _ _ _ _=>pts_nil) (fun _ _ _ _=>(pe_make MP GPIn hr rfl T.mgC bPIn .nil pass0 (pa_cons (pv 0) (pa_cons (pv 1) (pa_cons pe_int (pa_cons (pe_lstN pa_nil) (pa_cons (pe_lstN pa_nil) (pa_cons (pe_lstN pa_nil) (pa_cons (pe_lstN pa_nil) pa_nil)))))))))) pa_nil)))),?_⟩
   have el:=paired_len hes
   have l20:=hok.len
   refine⟨_,rfl,a,rfl,⟨_,SqL.of ha⟩,?_⟩
   intro D hD
   refine comp_listD0 (σ0:=[none,none]) hD (SqL.of ha) (fun σ=>∃u v,σ = [u,v]) (fun i xs H3=>PclsAt C (msk [D] H3) xs ((es.map pclE).take i)) ⟨_,_,rfl⟩ .nil ?_ ?_
   · rintro i x xs σ H3 k hx ⟨u,v,rfl⟩ hd h2 pr hk
     obtain⟨e,he,t,m,rfl,ht,hm⟩:=paired_get' hes hx
     have xl:=paired_len pr
     rw[List.length_take,List.length_map]at xl
     have hlt:=(List.getElem?_eq_some_iff.mp he).1
     have hp:(es.map pclE)[i]? = some (pclE e):=by rw[List.getElem?_map,he];rfl
     refine⟨t,_,rfl,SqT.of (h2 _ _ ht),rfl,_,_,rfl,_,_,rfl,rfl,?_⟩
     refine⟨_,rfl,_,rfl,(by show 0<=sizeLine;decide),fun p4 H4 n4 s4 e4=>?_⟩
     refine⟨(by show 0<=sizeLine;decide),fun p5 H5 n5 s5 e5=>?_⟩
     refine⟨(by show 0<=sizeLine;decide),fun p6 H6 n6 s6 e6=>?_⟩
     refine⟨(by show 0<=sizeLine;decide),fun p7 H7 n7 s7 e7=>?_⟩
     have s37:=((s4.trans s5).trans s6).trans s7
     refine make_pcl (p:=pclE e) ((h2.trans s37) _ _ hm) (((s5.trans s6).trans s7) _ _ e4) .nil ((s6.trans s7) _ _ e5) .nil (s7 _ _ e6) .nil e7 (Nat.zero_le _) fun y H8 n8 s8 hpc=>?_
     refine hk _ _ _ ⟨_,_,rfl⟩ (s37.trans s8) (small1000 (by omega)) ?_
     rw[msk_upd List.mem_cons_self,take_snocP hp]
     refine paired_snoc (hpc [D] fun b hb=>?_) (pr.same (msk_mono (s37.trans s8)))
     rw[List.mem_singleton.mp hb]
     exact⟨_,s37 _ _ hd,by intro vs z;cases z⟩
   rintro xs H3 d3 s3 pr
   rw[el,show(es.map pclE).take es.length=es.map pclE by rw[←List.length_map (f:=pclE),List.take_length]]at pr
   have hz:PclsAt C H3 xs (es.map pclE):=pr.same msk_same
   refine make_shelfA (K:=K) (C:=C) (ps:=es.map pclE) (Q:=fun x H'=>Q (.ref x) H') d3 hz (by rw[List.length_map];omega) hok.ps.nd fun sx H5 n5 s5 hsh=>?_
   exact q sx xs H5 (s3.free n5) (s3.trans s5) hsh (hz.same s5)
noncomputable def spLWd:Sp:=fun vs H Q _=>∃(a:Addr) (zs:List V) (es:List Ent),vs = [.ref a]/\H a=some (.lst zs)/\Paired (EntH H) zs es/\EsOk es/\∀H' ys,Same H H'->NamesOf (es.map pclE) ys->Q (.int (ys.foldl (widP (es.map pclE)) 1)) H'
theorem scLWd:FnScope ["_law_parcels_here","_law_width_here","_law_name"] ["_law_parcels_here"] (defScope sLWd):=⟨rfl,rfl,rfl,by decide +kernel,rfl,by decide +kernel,by decide +kernel⟩
theorem okLWd{f:Addr}{fd:FuncData}(F:Fun K "_law_width" "_law_width" sLWd f fd)(B:Blt mg):FnOk P w K mg base CX0 1 f fd ["_law_parcels_here"] spLWd:=by
 refine F.ok scLWd (fun vs H Q E h=>?_) (fun cdv A outer s H vs Q E hr h=>?_)
 · obtain⟨a,zs,es,rfl,_⟩:=h
   rfl
 · refine letX ?_
   intro xX dX
   obtain⟨a,zs,es,rfl,ha,hes,hok,q⟩:=h
   have el:=paired_len hes
   have l20:=hok.len
   refine⟨_,(pss_cons (ps_set (i:=1) scLWd.nd rfl (Or.inl rfl) pe_int)
    (pss_cons (ps_for PassesOwn.never rfl (pi_list (pe_callB (call_sortedY rfl) (by rfl) B.sorted PyProof.Rows.boot_sorted (pa_cons (pe_callTy (call_setL rfl) (by rfl) B.set PyProof.Rows.boot_set (pa_cons (pe_compF ["_law_name","_law_make"] [] [] ⟨rfl,by decide +kernel,by decide +kernel,by decide +kernel,by decide +kernel,rfl,rfl,rfl⟩ rfl (pi_list (pv 0)) (fun _ _ _ _=>(pg_tupK (n:=2) K rfl (pgs_cons (pg_name (i:=0) (show List.Nodup (["_law_name","_law_make"]:List Str) by decide +kernel) rfl (Or.inl rfl)) (pgs_cons (pg_name (i:=1) (show List.Nodup (["_law_name","_law_make"]:List Str) by decide +kernel) rfl (Or.inl rfl)) pgs_nil)))) (fun _ _ _ _=>pts_nil) (fun _ _ _ _=>(pv 0))) pa_nil)) pa_nil))) (pg_name (i:=2) scLWd.nd rfl (Or.inr rfl))
    (pss_one (ps_set (i:=1) scLWd.nd rfl (Or.inl rfl) (pe_op op_mul (pv 1) (pe_op op_add pe_int (pe_callB call_len_seq (by rfl) B.len PySem.boot_len (pa_cons (pe_compF ["_law_one"] ["_law_name"] [2] ⟨rfl,by decide +kernel,by decide +kernel,by decide +kernel,by decide +kernel,rfl,rfl,rfl⟩ rfl (pi_list (pv 0)) (fun _ _ _ _=>(pg_name (i:=0) (show List.Nodup (["_law_one","_law_name"]:List Str) by decide +kernel) rfl (Or.inl rfl))) (fun _ _ _ _=>pts_one (pt_cmpR op_eq (pe_ix (ix_tupK K) (pv 0) pe_int (fun _ _=>rfl)) (pv 1) (nomark _))) (fun _ _ _ _=>(pv 0))) pa_nil)))))))
    (pss_one (ps_ret (pv 1))))),?_⟩
   refine lets3 ?_
   intro dD sS uU3 uU2
   refine⟨_,rfl,a,rfl,⟨_,SqL.of ha⟩,?_⟩
   refine comp_mapL (σ0:=[none,none]) (SqL.of ha) (fun σ=>∃u v,σ = [u,v]) ((es.map (·.1)).map V.str) (by rw[List.length_map,List.length_map,el]) (Nat.le_of_lt (small1000 (by omega))) ⟨_,_,rfl⟩ ?_ ?_
   · intro i z y σ H2 k hz hy hQ hs hk
     obtain⟨u,v,rfl⟩:=hQ
     obtain⟨e,he,t,m,rfl,ht,hm⟩:=paired_get' hes hz
     rw[List.getElem?_map,List.getElem?_map,he]at hy
     cases hy
     refine⟨t,_,rfl,SqT.of (hs _ _ ht),rfl,_,_,rfl,_,_,rfl,rfl,?_⟩
     exact⟨_,rfl,hk _ _ ⟨_,_,rfl⟩ (Same.refl _)⟩
   · intro D H2 hD eD s2
     refine⟨D,es.map (·.1),rfl,SqL.of eD,by rw[List.length_map];omega,fun r xs H3 n3 s3 e3 nd mem=>?_⟩
     have hl:=nd_len nd fun z hz=>(mem z).mp hz
     rw[List.length_map]at hl
     refine⟨r,xs,rfl,e3,by omega,fun ys hp hs=>fun l H4 n4 s4 e4=>?_⟩
     have hN:NamesOf (es.map pclE) ys:=⟨hs,hp.nodup_iff.mpr nd,fun z=>by rw[hp.mem_iff,mem,List.map_map];rfl⟩
     have s24:=s2.trans (s3.trans s4)
     refine⟨l,rfl,⟨_,SqL.of e4⟩,?_⟩
     refine for_list (xs:=ys.map V.str) (fun i σ H5=>∃u n,σ = [some (.ref a),some (.int n),u]/\n=(ys.take i).foldl (widP (es.map pclE)) 1/\Same H4 H5) ⟨none,1,rfl,rfl,Same.refl _⟩ ?_ ?_ ?_
     · rintro i σ H5 hi ⟨u,n,rfl,_,s5⟩
       exact SqL.of (s5 _ _ e4)
     · intro i x σ H5 hx hQ
       refine letG ?_
       intro tT
       obtain⟨u,n,rfl,en,s5⟩:=hQ
       rw[List.getElem?_map]at hx
       cases hy:ys[i]? with
       | none=>rw[hy]at hx;cases hx
       | some y=>
        rw[hy]at hx
        cases hx
        have h4:=hok.four y
        have s25:=s24.trans s5
        refine⟨_,rfl,_,rfl,a,rfl,⟨_,SqL.of (s25 _ _ ha)⟩,?_⟩
        intro D6 hD6
        refine comp_listD (σ0:=[none,some (.str y)]) hD6 (SqL.of (s25 _ _ ha)) (fun σ=>∃v,σ = [v,some (.str y)]) (fun j ws _=>ws.length=cntE (es.take j) y) ⟨_,rfl⟩ rfl ?_ ?_
        · rintro j w8 ws σ H9 k k' hw ⟨v,rfl⟩ hd9 h9 zl hk1 hk2
          obtain⟨o,ho,t,m,rfl,ht,hm⟩:=paired_get' hes hw
          have hlt:=(List.getElem?_eq_some_iff.mp ho).1
          have zle:ws.length<=20:=by
           rw[zl]
           have:=List.length_filter_le (fun e:Ent=>decide (e.1=y)) (es.take j)
           rw[List.length_take]at this
           unfold cntE
           omega
          refine⟨_,rfl,t,_,_,_,rfl,rfl,SqT.of ((s25.trans h9) _ _ ht),rfl,_,rfl,rfl,_,rfl,?_⟩
          refine ite2 (fun h=>?_) (fun h=>?_)
          · have he:o.1=y:=by
             have:=of_decide_eq_true h
             injection this
            exact⟨_,rfl,hk1 _ _ _ ⟨_,rfl⟩ (Same.refl _) (small1000 (by omega)) (by rw[List.length_append,List.length_singleton,take_snocP ho,cnt_snoc,if_pos he,zl])⟩
          · have he:¬o.1=y:=fun z=>h (decide_eq_true (by rw[z]))
            exact hk2 _ _ ⟨_,rfl⟩ (Same.refl _) (by rw[take_snocP ho,cnt_snoc,if_neg he,zl];rfl)
        · rintro ws H9 hd9 h9 zl
          rw[el,List.take_length]at zl
          refine⟨D6,_,rfl,.inl (SqL.of hd9),_,_,rfl,rfl,_,_,rfl,rfl,.inr ⟨by omega,by omega⟩,?_⟩
          refine⟨_,_,rfl,?_,s5.trans h9⟩
          rw[List.take_add_one,hy,List.foldl_append,←en]
          show _=widP (es.map pclE) n y
          unfold widP
          rw[mks_cnt,←zl,Int.add_comm]
          rfl
     · rintro σ H5 ⟨u,n,rfl,en,s5⟩
       rw[List.length_map,List.take_length]at en
       subst en
       exact⟨_,rfl,q H5 ys (s24.trans s5) hN⟩
end
end K41
namespace L2
open PySem PySem.Spec PyProof.Rows
section
variable {X:Cx}
theorem rep_head(c:Array Nat):∀(k:Nat) (b:Array Nat),b.toList≠[]->((List.replicate k c).foldl (· ++ ·) b).toList[0]? = b.toList[0]?
 | 0,b,_=>rfl
 | k+1,b,h=>by
  rw[List.replicate_succ,List.foldl_cons,rep_head c k (b++c) (by rw[Array.toList_append];intro z;exact h (List.append_eq_nil_iff.mp z).1),Array.toList_append]
  cases e:b.toList with
  | nil=>exact absurd e h
  | cons x r=>rfl
theorem op_mulH:OpR X (binaryOp .Mult) (fun x y H Q=>∃(a:Str) (n:Int),x = .str a/\y = .int n/\1<=n/\n<=9/\1<=a.length/\a.length<=9/\TxtOk a/\∀z:Str,TxtOk z->z.cps.toList[0]? = a.cps.toList[0]?->Q (.str z) H):=by
 intro pins s σ H x y v u Q I rx ry h
 obtain⟨a,n,rfl,rfl,h0,h9,l1,hl,ok,q⟩:=h
 obtain⟨t,rfl⟩:=rx
 obtain⟨t',rfl⟩:=ry
 have b1:n.toNat * a.length<=81:=Nat.mul_le_mul (show n.toNat<=9 by omega) hl
 refine PySem.P.mul_str (by rw[decide_eq_false (by omega),decide_eq_false (by omega)];rfl) (fun h1 h2 h3=>?_) (fun h1 h2=>?_) ?_
 · have:(9:Int)<=(2 ^ 63 - 1) / n:=(Int.le_ediv_iff_mul_le (by omega)).mpr (by omega)
   omega
 · exact decide_eq_false (by rw[Nat.mul_comm];exact Nat.not_lt.mpr (Nat.le_trans b1 (by decide)))
 · have h1:¬n<1:=by omega
   rw[if_neg h1]
   by_cases h2:(n == 1 || a.length == 0)=true
   · rw[if_pos h2]
     exact⟨.str a,H,I,⟨_,rfl⟩,q _ ok rfl⟩
   · rw[if_neg h2]
     obtain⟨e1,e2⟩:=rep_ok ok n.toNat #[] (fun c hc=>by simp at hc)
     refine⟨?_,.str _,H,I.tok _,⟨_,rfl⟩,q _ e1 ?_⟩
     · have sz:(#[]:Array Nat).size=0:=rfl
       exact smallL (by rw[sz]at e2;omega)
     · obtain⟨k,ek⟩:∃k,n.toNat=k+1:=⟨n.toNat - 1,by omega⟩
       rw[ek,List.replicate_succ,List.foldl_cons]
       have en:(#[]++a.cps:Array Nat)=a.cps:=by simp
       show((List.replicate k a.cps).foldl (· ++ ·) (#[]++a.cps)).toList[0]? = _
       rw[en]
       refine rep_head _ _ _ fun z=>?_
       have:a.length=a.cps.toList.length:=by simp[Str.length]
       rw[z]at this
       simp at this
       omega
end
end L2
namespace K41
open PySem L2 PySem.Spec PyProof.Rows
seal PE PS PSs PA PT PW PG PGs PI PTs
noncomputable def abS:Str:="abcde"
theorem ab_ok:TxtOk abS:=by decide +kernel
theorem ab_len:abS.length=5:=by decide +kernel
theorem ab_nd:abS.cps.toList.Nodup:=by decide +kernel
structure Wd(es:List Ent)(i:Nat):Prop where
 len:es.length<=4 * i
 ne:∀e∈es,e.2≠[]
 nd:es.Nodup
 four:∀nm,cntE es nm<=4
 hd:∀e∈es,∃j c,j<i/\abS.cps.toList[j]? = some c/\e.1.cps.toList[0]? = some c
noncomputable def rowE(z:Str)(v:Int)(j:Nat):List Ent:=(List.range j).map fun n:Nat=>(z,[(n:Int),v])
theorem row_cnt(z:Str)(v:Int)(j:Nat)(nm:Str):cntE (rowE z v j) nm<=j/\(z≠nm->cntE (rowE z v j) nm=0):=by
 unfold cntE rowE
 rw[List.filter_map,List.length_map]
 refine⟨Nat.le_trans (List.length_filter_le _ _) (by rw[List.length_range];exact Nat.le_refl _),fun h=>?_⟩
 rw[List.length_eq_zero_iff,List.filter_eq_nil_iff]
 intro n _ hn
 exact h (of_decide_eq_true hn)
theorem cnt_app(a b:List Ent)(nm:Str):cntE (a++b) nm=cntE a nm+cntE b nm:=by
 unfold cntE
 rw[List.filter_append,List.length_append]
theorem Wd.step{es:List Ent}{i j:Nat}(h:Wd es i){z:Str}{v:Int}{c:Nat}(hj:j<=4)(hc:abS.cps.toList[i]? = some c)(hz:z.cps.toList[0]? = some c):Wd (es++rowE z v j) (i+1):=by
 have apart:∀e∈es,e.1≠z:=fun e he e1=>by
  obtain⟨j',c',a1,a2,a3⟩:=h.hd e he
  rw[e1,hz]at a3
  cases a3
  have:=(List.getElem?_inj (l:=abS.cps.toList) (i:=j') (j:=i) (List.getElem?_eq_some_iff.mp a2).1 ab_nd).mp (by rw[a2,hc])
  omega
 have rl:(rowE z v j).length=j:=by unfold rowE;rw[List.length_map,List.length_range]
 have rm:∀e∈rowE z v j,∃n:Nat,e=(z,[(n:Int),v]):=fun e he=>by
  obtain⟨n,_,rfl⟩:=List.mem_map.mp he
  exact⟨n,rfl⟩
 refine⟨by rw[List.length_append,rl];have:=h.len;omega,fun e he=>?_,?_,fun nm=>?_,fun e he=>?_⟩
 · rcases List.mem_append.mp he with y | y
   · exact h.ne e y
   · obtain⟨n,rfl⟩:=rm e y
     intro z;cases z
 · refine List.nodup_append.mpr ⟨h.nd,?_,fun a ha b hb e=>?_⟩
   · refine List.pairwise_map.mpr (List.nodup_range.imp fun {a b} hn e=>hn ?_)
     injection e with _ e
     injection e with e
     exact Int.ofNat.inj e
   · obtain⟨n,rfl⟩:=rm b hb
     exact apart a ha (by rw[e])
 · rw[cnt_app]
   obtain⟨r1,r2⟩:=row_cnt z v j nm
   by_cases e:z=nm
   · subst e
     have:cntE es z=0:=by
      unfold cntE
      rw[List.length_eq_zero_iff,List.filter_eq_nil_iff]
      intro a ha hn
      exact apart a ha (of_decide_eq_true hn)
     omega
   · rw[r2 e]
     exact h.four nm
 · rcases List.mem_append.mp he with y | y
   · obtain⟨j',c',a1,a2,a3⟩:=h.hd e y
     exact⟨j',c',by omega,a2,a3⟩
   · obtain⟨n,rfl⟩:=rm e y
     exact⟨i,c,Nat.lt_succ_self _,hc,hz⟩
section
variable {P:Program} {w:World} {K:PySem.W.Frag} {mg:Str->Option Value} {base:Heap}
noncomputable def SzH(H:Hp)(v:V):Prop:=∃(t:Addr) (szs:List Int),v = .ref t/\H t=some (.tup (szs.map V.int))/\szs.length<=5/\∀x∈szs,(1:Int)<=x/\x<=4
noncomputable def spLWi:Sp:=fun vs H Q _=>∃c:Int,vs = [.int c]/\∀l H' zs es,H l=none->Same H H'->H' l=some (.lst zs)->Paired (EntH H') zs es->EsOk es->Q (.ref l) H'
theorem scLWi:FnScope ["_law_cell","_law_sizes","_law_found","_law_k","_law_name","_law_number"] ["_law_cell"] (defScope sLWi):=⟨rfl,rfl,rfl,by decide +kernel,rfl,by decide +kernel,by decide +kernel⟩
theorem okLWi{f:Addr}{fd:FuncData}(F:Fun K "_law_wide" "_law_wide" sLWi f fd)(B:Blt mg):FnOk P w K mg base CX0 1 f fd ["_law_cell"] spLWi:=by
 refine F.ok scLWi (fun vs H Q E h=>?_) (fun cdv A outer s H vs Q E hr h=>?_)
 · obtain⟨c,rfl,_⟩:=h
   rfl
 · refine letX ?_
   intro xX dX
   obtain⟨c,rfl,q⟩:=h
   refine⟨_,(pss_cons (ps_set (i:=1) scLWi.nd rfl (Or.inl rfl) (pe_ix ix_list (pe_lstN (pa_cons (pe_tupN (pa_cons pe_int (pa_cons pe_int (pa_cons pe_int (pa_cons pe_int pa_nil))))) (pa_cons (pe_tupN (pa_cons pe_int (pa_cons pe_int (pa_cons pe_int (pa_cons pe_int pa_nil))))) (pa_cons (pe_tupN (pa_cons pe_int (pa_cons pe_int (pa_cons pe_int (pa_cons pe_int pa_nil))))) (pa_cons (pe_tupN (pa_cons pe_int (pa_cons pe_int (pa_cons pe_int (pa_cons pe_int (pa_cons pe_int pa_nil)))))) pa_nil))))) (pe_op op_mod (pv 0) pe_int) (fun _ _=>rfl)))
    (pss_cons (ps_set (i:=2) scLWi.nd rfl (Or.inl rfl) (pe_lstN pa_nil))
    (pss_cons (ps_for PassesOwn.never rfl (pi_range1 rfl B.range (pa_cons (pe_callB call_len_seq (by rfl) B.len PySem.boot_len (pa_cons (pv 1) pa_nil)) pa_nil)) (pg_name (i:=3) scLWi.nd rfl (Or.inl rfl))
    (pss_cons (ps_set (i:=4) scLWi.nd rfl (Or.inl rfl) (pe_op op_mulH (pe_ix ix_str pe_str (pv 3) (fun _ _=>rfl)) (pe_op op_add pe_int (pe_op op_mod (pe_op op_fdiv (pv 0) pe_int) pe_int))))
     (pss_one (ps_for PassesOwn.never rfl (pi_range1 rfl B.range (pa_cons (pe_ix ix_tup (pv 1) (pv 3) (fun _ _=>rfl)) pa_nil)) (pg_name (i:=5) scLWi.nd rfl (Or.inl rfl))
     (pss_one (ps_expr (pe_bm PySem.F.plainAttrs_list PySem.F.slot_list_append PySem.F.type_list_append mt_append (pv 2) (pa_cons (pe_tupN (pa_cons (pv 4) (pa_cons (pe_tupN (pa_cons (pv 5) (pa_cons (pe_op op_mod (pe_op op_fdiv (pv 0) pe_int) (pe_op op_pow pe_int pe_int)) pa_nil))) pa_nil))) pa_nil))))))))
    (pss_one (ps_ret (pv 2)))))),?_⟩
   refine lets4 ?_
   intro dD sS uU4 uU3 uU2
   refine⟨(by show 4<=sizeLine;decide),fun p1 H1 n1 s1 e1=>?_⟩
   refine⟨(by show 4<=sizeLine;decide),fun p2 H2 n2 s2 e2=>?_⟩
   refine⟨(by show 4<=sizeLine;decide),fun p3 H3 n3 s3 e3=>?_⟩
   refine⟨(by show 5<=sizeLine;decide),fun p4 H4 n4 s4 e4=>?_⟩
   refine⟨(by show 4<=sizeLine;decide),fun p5 H5 n5 s5 e5=>?_⟩
   obtain⟨sv,hsv,t,szs,rfl,ht,l5,hsz⟩:=at4 (a:=.ref p1) (b:=.ref p2) (c:=.ref p3) (d:=.ref p4) c (R:=SzH H5)
    ⟨p1,[4,4,3,3],rfl,(((s2.trans s3).trans s4).trans s5) _ _ e1,by decide,by decide⟩ ⟨p2,[4,4,4,3],rfl,((s3.trans s4).trans s5) _ _ e2,by decide,by decide⟩ ⟨p3,[4,4,4,4],rfl,(s4.trans s5) _ _ e3,by decide,by decide⟩ ⟨p4,[4,3,3,4,1],rfl,s5 _ _ e4,by decide,by decide⟩
   refine⟨_,rfl,_,_,rfl,rfl,(by show(0:Int)<4;decide),p5,_,_,_,rfl,rfl,SqL.of e5,hsv,?_⟩
   refine⟨(by show 0<=sizeLine;decide),fun p6 H6 n6 s6 e6=>?_⟩
   have s05:=(((s1.trans s2).trans s3).trans s4).trans s5
   refine⟨_,rfl,t,_,rfl,.inr (SqT.of (s6 _ _ ht)),((szs.map V.int).length:Int),rfl,by omega,by rw[List.length_map];omega,?_⟩
   refine for_range (fun i σ H7=>∃(u v x:Option V) (zs:List V) (es:List Ent),σ = [some (.int c),some (.ref t),some (.ref p6),u,v,x]/\Same H5 H7/\H7 p6=some (.lst zs)/\Paired (EntH H7) zs es/\Wd es i)
    ⟨none,none,none,[],[],rfl,s6,e6,.nil,⟨Nat.zero_le _,(fun _ h=>nomatch h),.nil,fun _=>Nat.zero_le _,(fun _ h=>nomatch h)⟩⟩ ?_ ?_
   · intro i σ H7 hi hQ
     refine letG ?_
     intro tT
     obtain⟨u,v,x,zs,es,rfl,s7,e7,h7,wd⟩:=hQ
     have hi':i<szs.length:=by
      rw[List.length_map]at hi
      omega
     obtain⟨cc,hcc,ccb⟩:=str_at ab_ok (r:=0+(i:Int)) (by omega) (by rw[ab_len];omega)
     obtain⟨sz,hz,hzm⟩:=atI_ints (ns:=szs) (r:=0+(i:Int)) (by omega) (by omega)
     have l5':abS.cps.toList.length=5:=by decide +kernel
     have hci:abS.cps.toList[i]? = some cc:=by
      have h1:=atI_nat (j:=i) (List.getElem?_eq_getElem (show i<abS.cps.toList.length by omega))
      rw[show(0+(i:Int))=((i:Nat):Int) by omega,h1]at hcc
      rw[←hcc]
      exact List.getElem?_eq_getElem _
     have l1:(⟨#[cc]⟩:Str).length=1:=len_one cc
     refine⟨_,rfl,_,_,cc,rfl,rfl,fit1 (by show abS.length<=100;rw[ab_len];decide),hcc,_,rfl,_,_,rfl,rfl,⟨by omega,by omega⟩,_,_,rfl,rfl,(by show(0:Int)<8;decide),_,_,rfl,rfl,_,_,rfl,rfl,by omega,by omega,by rw[l1];decide,by rw[l1];decide,txtOk_one ccb,fun z zo zh=>?_⟩
     have szb:=hsz sz (List.mem_of_getElem? hzm)
     refine⟨_,rfl,_,rfl,t,_,_,_,rfl,rfl,SqT.of (s7 _ _ ht),hz,sz,rfl,by omega,by omega,?_⟩
     refine for_range (fun j σ H8=>∃(x:Option V) (zs:List V),σ = [some (.int c),some (.ref t),some (.ref p6),some (.int (0+(i:Int))),some (.str z),x]/\Same H5 H8/\H8 p6=some (.lst zs)/\Paired (EntH H8) zs (es++rowE z (c / 32 % 10 ^ (9:Int).toNat) j))
      ⟨x,zs,rfl,s7,e7,by show Paired _ _ (es++[]);rw[List.append_nil];exact h7⟩ ?_ ?_
     · intro j σ H8 hj hQ8
       obtain⟨x8,zs8,rfl,s8,e8,h8⟩:=hQ8
       have zl:=paired_len h8
       have rl:(rowE z (c / 32 % 10 ^ (9:Int).toNat) j).length=j:=by unfold rowE;rw[List.length_map,List.length_range]
       have wl:=wd.len
       rw[List.length_append,rl]at zl
       refine⟨_,rfl,.inl ⟨rfl,_,SqL.of e8⟩,_,rfl,_,rfl,_,rfl,_,_,rfl,rfl,⟨by omega,by omega⟩,_,_,rfl,rfl,⟨by decide,by decide,by decide⟩,_,_,rfl,rfl,(by show(0:Int)<10 ^ (9:Int).toNat;decide),(by show 2<=sizeLine;decide),fun p9 H9 n9 s9 e9=>?_⟩
       refine⟨(by show 2<=sizeLine;decide),fun p10 H10 n10 s10 e10=>?_⟩
       have s810:=s9.trans s10
       have e8':=s810 _ _ e8
       refine⟨p6,_,_,rfl,rfl,e8',small1000 (by omega),?_⟩
       refine⟨_,_,rfl,same_mut n6 (s8.trans s810),upd_same,?_⟩
       have er:rowE z (c / 32 % 10 ^ (9:Int).toNat) (j+1)=rowE z (c / 32 % 10 ^ (9:Int).toNat) j++[(z,[(j:Int),c / 32 % 10 ^ (9:Int).toNat])]:=by
        unfold rowE
        rw[List.range_succ,List.map_append]
        rfl
       rw[er,←List.append_assoc]
       refine paired_snoc (EntH.mut e8' ⟨p10,p9,rfl,e10,?_⟩) (paired_mapP h8 fun _ _ y=>(y.same s810).mut e8')
       rw[s10 _ _ e9,show(0+(j:Int))=j by omega]
       rfl
     · intro σ H8 hQ8
       obtain⟨x8,zs8,rfl,s8,e8,h8⟩:=hQ8
       refine⟨_,_,_,zs8,_,rfl,s8,e8,h8,wd.step (by omega) hci (by rw[zh];rfl)⟩
   · intro σ H7 hQ
     obtain⟨u,v,x,zs,es,rfl,s7,e7,h7,wd⟩:=hQ
     refine⟨_,rfl,q p6 H7 zs es (s05.free n6) (s05.trans s7) e7 h7 ⟨?_,wd.ne,wd.nd,wd.four⟩⟩
     have:=wd.len
     rw[List.length_map]at this
     omega
end
end K41
namespace K41
open PySem L2 PySem.Spec PyProof.Rows
seal PE PS PSs PA PT PW PG PGs PI PTs
theorem oneP_len{ps:List Pcl}{M:Str->List (List Int)}(h:Mks ps M)(nm:Str)(de:Dec):(oneP M nm de).length=(mksOf ps nm).length+1:=by
 unfold oneP caseP
 rw[List.length_map,List.length_cons,List.length_map,(h.pm nm).length_eq]
theorem step_len{ps:List Pcl}{M:Str->List (List Int)}(h:Mks ps M)(nm:Str):∀ds:List Dec,(stepP M ds nm).length=ds.length * ((mksOf ps nm).length+1)
 | []=>by simp[stepP]
 | d::ds=>by
  have ih:=step_len h nm ds
  unfold stepP at ih ⊢
  rw[List.flatMap_cons,List.length_append,oneP_len h,ih,List.length_cons,Nat.succ_mul,Nat.add_comm]
theorem fold_len{ps:List Pcl}{M:Str->List (List Int)}(h:Mks ps M):∀(ys:List Str) (ds:List Dec) (n:Int),(ds.length:Int)=n->((ys.foldl (stepP M) ds).length:Int)=ys.foldl (widP ps) n
 | [],_,_,e=>e
 | y::ys,ds,n,e=>by
  refine fold_len h ys (stepP M ds y) (widP ps n y) ?_
  rw[step_len h]
  unfold widP
  rw[←e,Int.natCast_mul]
theorem ways_len{ps:List Pcl}{M:Str->List (List Int)}(h:Mks ps M)(ys:List Str):((waysP M ys).length:Int)=ys.foldl (widP ps) 1:=fold_len h ys [[]] 1 rfl
theorem adj_of_pw:∀{l:List (List Int)},l.Pairwise (fun a b=>HT.lexLt a b=true)->adjT l=true
 | [],_=>rfl
 | [_],_=>rfl
 | x::y::r,h=>by
  obtain⟨h1,h2⟩:=List.pairwise_cons.mp h
  show(HT.lexLt x y && adjT (y::r))=true
  rw[h1 y List.mem_cons_self,adj_of_pw h2]
  rfl
noncomputable def insL(x:List Int):List (List Int)->List (List Int)
 | []=>[x]
 | y::r=>if HT.lexLt x y=true then x::y::r else y::insL x r
theorem ins_perm(x:List Int):∀l:List (List Int),(insL x l).Perm (x::l)
 | []=>.refl _
 | y::r=>by
  unfold insL
  split
  · exact .refl _
  · exact((ins_perm x r).cons y).trans (.swap x y r)
theorem ins_pw(x:List Int):∀l:List (List Int),x∉l->l.Pairwise (fun a b=>HT.lexLt a b=true)->(insL x l).Pairwise (fun a b=>HT.lexLt a b=true)
 | [],_,_=>List.pairwise_singleton _ _
 | y::r,hn,h=>by
  obtain⟨h1,h2⟩:=List.pairwise_cons.mp h
  have hxy:x≠y:=fun z=>hn (by rw[z];exact List.mem_cons_self)
  unfold insL
  split
  case isTrue hl=>
   refine List.pairwise_cons.mpr ⟨fun z hz=>?_,h⟩
   rcases List.mem_cons.mp hz with e | hz
   · rw[e];exact hl
   · exact lexLt_trans _ _ _ hl (h1 z hz)
  case isFalse hl=>
   have hyx:HT.lexLt y x=true:=by
    have:=lexLt_anti y x hxy.symm
    rw[Bool.eq_false_iff.mpr hl]at this
    exact this
   refine List.pairwise_cons.mpr ⟨fun z hz=>?_,ins_pw x r (fun z=>hn (List.mem_cons_of_mem _ z)) h2⟩
   rcases List.mem_cons.mp ((ins_perm x r).mem_iff.mp hz) with e | hz
   · rw[e];exact hyx
   · exact h1 z hz
noncomputable def srtL:List (List Int)->List (List Int)
 | []=>[]
 | x::r=>insL x (srtL r)
theorem srt_perm:∀l:List (List Int),(srtL l).Perm l
 | []=>.refl _
 | x::r=>(ins_perm x (srtL r)).trans ((srt_perm r).cons x)
theorem srt_pw:∀l:List (List Int),l.Nodup->(srtL l).Pairwise (fun a b=>HT.lexLt a b=true)
 | [],_=>.nil
 | x::r,h=>by
  obtain⟨h1,h2⟩:=List.nodup_cons.mp h
  exact ins_pw x (srtL r) (fun z=>h1 ((srt_perm r).mem_iff.mp z)) (srt_pw r h2)
theorem mks_ex{ps:List Pcl}(h:PsOk ps):Mks ps fun nm=>srtL (mksOf ps nm):=⟨fun nm=>srt_perm _,fun nm=>adj_of_pw (srt_pw _ (mks_nodup h.nd nm))⟩
noncomputable def someB(de:Dec):Bool:=de.any fun e=>e.2.isSome
theorem fold_first(M:Str->List (List Int)):∀(ys:List Str) (d:Dec) (ds:List Dec),someB d=false->(∀e∈ds,someB e=true)->∃d' ds',ys.foldl (stepP M) (d::ds)=d'::ds'/\someB d'=false/\∀e∈ds',someB e=true
 | [],d,ds,h1,h2=>⟨d,ds,rfl,h1,h2⟩
 | y::ys,d,ds,h1,h2=>by
  have app:∀(a:Dec) (o:Option (List Int)),someB (a++[(y,o)])=(someB a || o.isSome):=fun a o=>by
   unfold someB
   rw[List.any_append]
   simp
  have e:stepP M (d::ds) y=(d++[(y,none)])::(((M y).map some).map (fun c=>d++[(y,c)])++ds.flatMap (oneP M y)):=by
   unfold stepP
   rw[List.flatMap_cons]
   rfl
  show∃d' ds',ys.foldl (stepP M) (stepP M (d::ds) y)=_/\_
  rw[e]
  refine fold_first M ys _ _ (by rw[app,h1];rfl) fun z hz=>?_
  rcases List.mem_append.mp hz with hz | hz
  · obtain⟨c,hc,rfl⟩:=List.mem_map.mp hz
    obtain⟨m,_,rfl⟩:=List.mem_map.mp hc
    rw[app]
    simp
  · obtain⟨b,hb,hz⟩:=List.mem_flatMap.mp hz
    obtain⟨c,_,rfl⟩:=List.mem_map.mp hz
    rw[app,h2 b hb]
    rfl
theorem some_ch{de:Dec}:someB de=true↔chOf de≠[]:=by
 unfold someB chOf
 induction de with
 | nil=>simp
 | cons e r ih=>
  rw[List.any_cons,List.filterMap_cons]
  cases h:e.2 with
  | none=>simp only[Option.isSome_none,Bool.false_or,Option.map_none];exact ih
  | some m=>simp
theorem ways_first(M:Str->List (List Int))(ys:List Str):∃cs,(waysP M ys).map chOf = []::cs/\∀c∈cs,c≠[]:=by
 obtain⟨d,ds,e,h1,h2⟩:=fold_first M ys [] [] rfl (fun _ h=>nomatch h)
 refine⟨ds.map chOf,?_,fun c hc=>?_⟩
 · unfold waysP
   rw[e,List.map_cons]
   have:chOf d = []:=Classical.byContradiction fun z=>by
    rw[some_ch.mpr z]at h1
    cases h1
   rw[this]
 · obtain⟨d',hd,rfl⟩:=List.mem_map.mp hc
   exact some_ch.mp (h2 d' hd)
section
variable {P:Program} {w:World} {K:PySem.W.Frag} {mg:Str->Option Value} {base:Heap}
noncomputable def TupR(H:Hp)(v:V)(m:List Int):Prop:=∃t,v = .ref t/\H t=some (.tup (m.map V.int))
theorem TupR.same{H H':Hp}(s:Same H H'){v:V}{m:List Int}(h:TupR H v m):TupR H' v m:=h.elim fun t zq526=>zq526.elim fun a b=>⟨t,a,s _ _ b⟩
theorem TupR.mut{H:Hp}{D:Addr}{zs zs':List V}(hD:H D=some (.lst zs)){v:V}{m:List Int}(h:TupR H v m):TupR (upd H D (.lst zs')) v m:=by
 obtain⟨t,a,b⟩:=h
 exact⟨t,a,keep_upd b (ne_of b hD (by intro z;cases z))⟩
noncomputable def spMkL(S:Addr):Sp:=fun vs H Q _=>∃(sv:V) (c:Addr) (xs:List V) (ps:List Pcl) (ch:Ch),vs = [sv,.ref c]/\ShelfAt S H sv xs ps/\ps.length<64/\ChoAt H c ch /\
 ∀l zs ys H',H l=none->Same H H'->NamesOf ps ys->H' l=some (.lst zs)->Paired (TupR H') zs (ys.map fun y=>(ch.lookup y).getD [])->Q (.ref l) H'
theorem scMkL:FnScope ["shelf","chosen"] ["shelf","chosen"] (defScope sMkL):=⟨rfl,rfl,rfl,by decide +kernel,rfl,by decide +kernel,by decide +kernel⟩
theorem okMkL{f S fSNa fSMo f3:Addr}{fd fdSNa:FuncData}(F:Fun K "makes_listed" "makes_listed" sMkL f fd)(B:Blt mg)(U:TxtS K mg S fSNa fSMo f3)(FSNa:Fun K "names" "Shelf.names" sSNa fSNa fdSNa):FnOk P w K mg base CX0 2 f fd ["shelf","chosen"] (spMkL S):=by
 have GSNa:FnOk P w K mg base CX0 1 fSNa fdSNa ["self"] (spSNa S):=okSNa FSNa B U
 have bSNa:=FSNa.binds1 (l:=["self"]) (fun _ _ _ _ _ _ _=>rfl)
 refine F.ok scMkL (fun vs H Q E h=>?_) (fun cdv A outer s H vs Q E hr h=>?_)
 · obtain⟨sv,c,xs,ps,ch,rfl,_⟩:=h
   rfl
 · refine letX ?_
   intro xX dX
   obtain⟨sv,c,xs,ps,ch,rfl,hS,l64,⟨kvs,hc,pr⟩,q⟩:=h
   have hu:=hr.units
   refine⟨_,(pss_one (ps_ret (pe_compF ["name"] ["chosen"] [1] ⟨rfl,by decide +kernel,by decide +kernel,by decide +kernel,by decide +kernel,rfl,rfl,rfl⟩ rfl (pi_list (pe_meth0 (pv 0) U.cl U.mN GSNa hr bSNa .nil pass0)) (fun _ _ _ _=>(pg_name (i:=0) (show List.Nodup (["name","chosen"]:List Str) by decide +kernel) rfl (Or.inl rfl))) (fun _ _ _ _=>pts_nil) (fun _ _ _ _=>(pe_dget2 hu (pv 1) (pv 0) (pe_tupN pa_nil) ⟨rfl,rfl,rfl,rfl⟩))))),?_⟩
   obtain⟨a,dx,fl,d,kvs',rfl,b1,b2,b3,b4,b5,b6⟩:=id hS
   refine⟨_,rfl,a,dx,fl,rfl,b1,b4,?_⟩
   dsimp only[tNil,List.cons_append,List.nil_append]
   refine⟨_,xs,ps,rfl,hS,l64,fun l ys H1 n1 s1 e1 srt nd mem=>?_⟩
   have yl:ys.length<=ps.length:=by
    have:=nodup_len nd fun z hz=>(mem z).mp hz
    rwa [List.length_map]at this
   refine⟨l,rfl,⟨_,SqL.of e1⟩,?_⟩
   refine comp_list0 (σ0:=[none,some (.ref c)]) (SqL.of e1) (fun σ=>∃v,σ = [v,some (.ref c)]) (fun k zs' H8=>Paired (TupR H8) zs' ((ys.take k).map fun y=>(ch.lookup y).getD [])) ⟨_,rfl⟩ (fun _ _=>.nil) ?_ ?_
   · rintro D k x8 zs8 σ8 H8 kk hD hx8 ⟨v8,rfl⟩ hd8 h8 hP hk
     rw[List.getElem?_map]at hx8
     cases hy:ys[k]? with
     | none=>rw[hy]at hx8;cases hx8
     | some y=>
      rw[hy]at hx8
      cases hx8
      have hlt:=(List.getElem?_eq_some_iff.mp hy).1
      have pl8:=paired_len hP
      rw[List.length_map,List.length_take]at pl8
      have c8:=(s1.trans h8) _ _ hc
      refine⟨_,rfl,c,rfl,.inl ⟨_,.inl c8⟩,_,rfl,(by show 0<=sizeLine;decide),fun p9 H9 n9 s9 e9=>?_⟩
      refine⟨_,DGet.k (k:=.inr y) (s9 _ _ c8),?_⟩
      have hB:=(cho_get (x:=y) pr).same ((s1.trans h8).trans s9)
      have hT:TupR H9 ((valV kvs (.inr y)).getD (.ref p9)) ((ch.lookup y).getD []):=by
       cases hv:valV kvs (.inr y) with
       | none=>
        rw[hv]at hB
        cases hl:ch.lookup y with
        | none=>exact⟨p9,rfl,e9⟩
        | some m=>
         rw[hl]at hB
         obtain⟨t,e,_⟩:=hB
         cases e
       | some v=>
        rw[hv]at hB
        cases hl:ch.lookup y with
        | none=>
         rw[hl]at hB
         have hB:v = .non:=hB
         exact absurd hv (by
          subst hB
          intro hv
          obtain⟨e,he⟩:=(⟨_,valV_in hv⟩:∃e:Key,e∈kvs.map (·.1))
          have hm:=valV_in hv
          rw[paired_keys (key:=fun e:Str×List Int=>(Sum.inr e.1:Key)) (fun _ _ (z:ChV H _ _)=>z.1) pr]at hm
          obtain⟨e',he',ee⟩:=List.mem_map.mp hm
          injection ee with ee
          subst ee
          obtain⟨u,ls,g1,_,_,m,g4,_⟩:=paired_val (fun _ _ (z:ChV H _ _)=>z.1) pr (List.mem_map.mpr ⟨e',he',rfl⟩)
          rw[hv]at g1
          cases g1
          cases g4)
        | some m=>
         rw[hl]at hB
         exact hB
      have d9:=s9 _ _ hd8
      refine hk _ _ _ ⟨_,rfl⟩ s9 (small1000 (by omega)) ?_
      rw[take_snocP hy,List.map_append]
      exact paired_snoc (hT.mut d9) (paired_mapP hP fun _ _ z=>(z.same s9).mut d9)
   · intro D zs8 H8 hD hd8 h8 hP
     rw[List.length_map,List.take_length]at hP
     exact q D zs8 ys H8 (s1.free hD) (s1.trans h8) ⟨srt,nd,mem⟩ hd8 hP
end
end K41
namespace L2
open PySem PySem.Spec PyProof.Rows
open HT (At lexK okK)
section
variable {X:Cx} {pins:List (Addr×Obj)} {σ:St} {H0:Hp} {l q I S:Addr} {as:List Addr} {ks:Nat->List At} {R:Result->Shared->Prop} {Q:Value->Shared->Prop} {E:Value->Shared->Prop}
theorem Inv.isL{H:Hp}{s:Shared}(I:Inv X pins σ H s)(h:H l=some (.lst (as.map V.ref))):s.heap.IsList l (as.map Value.ref).toArray:=by
 obtain⟨its,r,p,_⟩:=I.list (SqL.of (K:=X.K) h)
 rw[vals_refs r]at p
 exact p.isList
theorem FpOk.of{H H':Hp}{b:Addr}(f:FpOk X pins H b)(n:H' b=none):FpOk X pins H' b:=⟨n,f.2⟩
theorem Inv.turnF{H:Hp}{s:Shared}{h':Heap}{t':Nat}{b:Addr}(I:Inv X pins σ H s)(f:FpOk X pins H b)(k:∀c o,c≠b->s.heap.get? c=some o->h'.get? c=some o):Inv X pins σ H { s with heap:=h',toks:=t' }:=
 I.turned k f.1 f.2.1 f.2.2.2.1 f.2.2.2.2.1 f.2.2.2.2.2
end
end L2
namespace L2
open PySem PySem.Spec PyProof.Rows
section
variable {X:Cx} {pins:List (Addr×Obj)} {σ:St} {H0:Hp} {l q I S:Addr} {as:List Addr} {kA:Nat->Hp->Addr->Prop} {g:Nat->Nat->Bool} {Rb:Nat->Prop} {R:Result->Shared->Prop} {Q:Value->Shared->Prop} {E:Value->Shared->Prop}
noncomputable def KeyTurnA(X:Cx)(q:Addr)(as:List Addr)(kA:Nat->Hp->Addr->Prop)(H0:Hp)(σ:St):Prop:=∀(i:Nat) (a:Addr),as[i]? = some a->∀(pins:List (Addr×Obj)) (H:Hp) (s:Shared),Inv X pins σ H s->Same H0 H ->
 wpAny (model X.prog X.w) X.A.in1 (call (.ref q) [.ref a]) (fun u s'=>∃kt H',Inv X pins σ H' s'/\u = .ref kt/\Same H H'/\kA i H' kt) (fun _ _=>False) s
structure KeyCmp(X:Cx)(n:Nat)(kA:Nat->Hp->Addr->Prop)(g:Nat->Nat->Bool)(Rb:Nat->Prop):Prop where
 mono:∀{i H H' kt},Same H H'->kA i H kt->kA i H' kt
 tr:∀a b c,g a b=true->g b c=true->g a c=true
 irr:∀a,g a a=false
 r0:Rb 0
 rs:∀i j,Rb j->i<n->g i j=true->Rb i
 cmp:∀(i j:Nat) (kt kb:Addr) (pins:List (Addr×Obj)) (σ:St) (H:Hp) (s:Shared) (Q:Value->Shared->Prop) (E:Value->Shared->Prop),Rb j->0<i->i<n->Inv X pins σ H s->kA i H kt->kA j H kb->Q (.bool (g i j)) s->wpAny (model X.prog X.w) X.A.in1 (richCompare .Gt (.ref kt) (.ref kb)) Q E s
theorem max_loop(hc:X.calm=true)(hu:X.A.in1.units<cLine)(hlI:l≠I)(hSI:S≠I)(hl0:H0 l=some (.lst (as.map V.ref)))(C:KeyCmp X as.length kA g Rb)
 (turn:KeyTurnA X q as kA H0 σ) (hR:∀i a H' s',as[i]? = some a->(∀j,j<as.length->g j i=false)->Inv X pins σ H' s'->Same H0 H'->R (.ok (.ret (.ref a))) s') :
 ∀(r j i:Nat) (H:Hp) (s:Shared) (ab kb:Addr) (c:Nat),as.length - (j+1)=r->j+1<=as.length->Inv X pins σ H s->Same H0 H->FpOk X pins H I->FpOk X pins H S->s.heap.get? S=some (seqObj "list" #[.ref ab,.ref kb] c)->s.heap.IsListIter I l (j+1) ->
  as[i]? = some ab->kA i H kb->Rb i->(∀j',j'<=j->g j' i=false)->codeAny (model X.prog X.w) X.A (.builtin "max.loop" ⟨[.ref I,.ref q,.ref S],[]⟩) R s:=by
 have hname:(toString "max"++toString ".loop":String) = "max.loop":=by decide
 have hsz:(as.map Value.ref).toArray.size=as.length:=by simp
 intro r
 induction r with
 | zero=>
  intro j i H s ab kb c hr hj Iv sm fI fS hS hit hab hkb rb best
  have W:=Walks.list (prog:=X.prog) (w:=X.w) (A:=X.A.in1) (Iv.ok.hd hc) I l hlI (as.map Value.ref).toArray
  have hin:j+1=as.length:=by omega
  refine codeAny_builtin PySem.F.entry_max_loop ?_
  rw[Around.under_plainId PySem.F.plain_max_loop _]
  show wpAny _ X.A.in1 (seqItems? (.ref S) >>= _) _ _ _
  refine wpAny_bind (wpAny_seqItems hS rfl ?_)
  show wpAny _ X.A.in1 (tryCatch (pyNext (.ref I)) _ >>= _) _ _ _
  refine wpAny_bind (wpAny_tryCatch (W.done _ _ _ ⟨by rw[hsz,←hin];exact hit,Iv.isL (sm _ _ hl0)⟩ fun h' tk' hk'=>?_))
  have I1:Inv X pins σ H { s with heap:=h',toks:=tk' }:=Iv.turnF fI fun b o hb e=>hk' b o (by simpa using hb) e
  have hS':=hk' S _ (by simpa using hSI) hS
  have s1:=Heap.SameBut.update h' S (Obj.mapSeq fun _=>(#[]:Array Value))
  show wpAny _ X.A.in1 (updateSeq S (fun _=>#[]) >>= _) _ _ _
  refine wpAny_bind ?_
  refine wpAny_updateSeq hS' rfl (wpAny_bind (wpAny_letGo (wpAny_pure ?_)))
  exact hR i ab H _ hab (fun j' hj'=>best j' (by omega)) (I1.turnF (t':=tk') fS fun b o hb e=>(s1.2 b hb).trans e) sm
 | succ r ih=>
  intro j i H s ab kb c hr hj Iv sm fI fS hS hit hab hkb rb best
  have W:=Walks.list (prog:=X.prog) (w:=X.w) (A:=X.A.in1) (Iv.ok.hd hc) I l hlI (as.map Value.ref).toArray
  have hlt:j+1<as.length:=by omega
  refine codeAny_builtin PySem.F.entry_max_loop ?_
  rw[Around.under_plainId PySem.F.plain_max_loop _]
  show wpAny _ X.A.in1 (seqItems? (.ref S) >>= _) _ _ _
  refine wpAny_bind (wpAny_seqItems hS rfl ?_)
  show wpAny _ X.A.in1 (tryCatch (pyNext (.ref I)) _ >>= _) _ _ _
  refine wpAny_bind (wpAny_tryCatch (W.item (j+1) _ _ _ (by rw[hsz];exact hlt) ⟨hit,Iv.isL (sm _ _ hl0)⟩ fun v h' tk' hP hst' hk'=>?_))
  have hv0:(as.map Value.ref)[j+1]? = some v:=by simpa using hP
  obtain⟨a,ha,rfl⟩:∃a,as[j+1]? = some a/\v = .ref a:=by
   rw[List.getElem?_map]at hv0
   cases e:as[j+1]? with
   | none=>rw[e]at hv0;cases hv0
   | some a=>rw[e]at hv0;cases hv0;exact⟨a,rfl,rfl⟩
  obtain⟨oI',hoI',hoc,hod⟩:=id hst'.1
  have I1:Inv X pins σ H { s with heap:=h',toks:=tk' }:=Iv.turnF fI fun b o hb e=>hk' b o (by simpa using hb) e
  have hS1:h'.get? S=some (seqObj "list" #[.ref ab,.ref kb] c):=hk' S _ (by simpa using hSI) hS
  have Ip:Inv X (pins++pinsAt [I,S] h') σ H { s with heap:=h',toks:=tk' }:=I1.pinned (fp:=[I,S]) (fun b hb=>by
   rcases List.mem_cons.mp hb with e | e
   · rw[e];exact fI
   · rw[List.mem_singleton.mp e];exact fS) (fun b hb=>by
   rcases List.mem_cons.mp hb with e | e
   · rw[e];exact⟨oI',hoI',fun v z=>by rw[hod]at z;cases z⟩
   · rw[List.mem_singleton.mp e];exact⟨_,hS1,fun v z=>nomatch z⟩)
  show wpAny _ X.A.in1 (tryCatch (holding [.ref a] (call (.ref q) [.ref a])) _ >>= _) _ _ _
  refine wpAny_bind (wpAny_tryCatch (wpAny_holding (wpAny_mono (turn (j+1) a ha _ H _ Ip sm) (fun x s2 he=>?_) fun _ _ hF=>hF.elim)))
  obtain⟨kt,H2,I2p,rfl,s12,hkt⟩:=he
  have pI:=I2p.pin (I,oI') (List.mem_append_right _ (List.mem_append_right _ (mem_pinsAt (by simp) hoI')))
  have pS:=I2p.pin (S,seqObj "list" #[.ref ab,.ref kb] c) (List.mem_append_right _ (List.mem_append_right _ (mem_pinsAt (by simp) hS1)))
  have I2:=I2p.unpinned
  have sm2:=sm.trans s12
  have fI2:FpOk X pins H2 I:=fI.of pI.2.1
  have fS2:FpOk X pins H2 S:=fS.of pS.2.1
  have hit2:s2.heap.IsListIter I l (j+1+1):=⟨oI',pI.1,hoc,hod⟩
  show wpAny _ X.A.in1 (tryCatch (holding [.ref a,.ref kt] (richCompare .Gt (.ref kt) (.ref kb) >>= _)) _ >>= _) _ _ _
  refine wpAny_bind (wpAny_tryCatch (wpAny_holding (wpAny_bind (C.cmp (j+1) i kt kb _ _ _ _ _ _ rb (Nat.succ_pos _) hlt I2 hkt (C.mono s12 hkb) ?_))))
  refine wpAny_bind (wpAny_holding (wpAny_truthy_bool ?_))
  refine wpAny_bind (wpAny_letGo (wpAny_pure ?_))
  by_cases hb':g (j+1) i=true
  · have s1:=Heap.SameBut.update s2.heap S (Obj.mapSeq fun _=>#[.ref a,.ref kt])
    obtain⟨c2,hc2⟩:∃c2,(s2.heap.update S (Obj.mapSeq fun _=>#[.ref a,.ref kt])).get? S=some (seqObj "list" #[.ref a,.ref kt] c2):=⟨_,get?_update_seq pS.1 fun _=>#[.ref a,.ref kt]⟩
    simp only[hb',if_true]
    refine wpAny_bind ?_
    refine wpAny_updateSeq pS.1 rfl (wpAny_bind (wpAny_letGo ?_))
    rw[hname]
    refine wpAny_pure ⟨plainId_quiet PySem.F.plain_max_loop _,ih (j+1) (j+1) H2 _ a kt c2 (by omega) hlt (I2.turnF (t':=s2.toks) fS2 fun b o hb e=>(s1.2 b hb).trans e) sm2 fI2 fS2 hc2 ⟨oI',(s1.2 I hSI.symm).trans pI.1,hoc,hod⟩ ha hkt (C.rs _ _ rb hlt hb') fun j' hj'=>?_⟩
    by_cases e:j'=j+1
    · subst e;exact C.irr _
    · cases z:g j' (j+1) with
      | false=>rfl
      | true=>have:=C.tr _ _ _ z hb';rw[best j' (by omega)]at this;cases this
  · have hb2:g (j+1) i=false:=by simpa using hb'
    simp only[hb2,Bool.false_eq_true,if_false]
    refine wpAny_bind (wpAny_letGo ?_)
    rw[hname]
    refine wpAny_pure ⟨plainId_quiet PySem.F.plain_max_loop _,ih (j+1) i H2 _ ab kb c (by omega) hlt I2 sm2 fI2 fS2 pS.1 hit2 hab (C.mono s12 hkb) rb fun j' hj'=>?_⟩
    by_cases e:j'=j+1
    · subst e;exact hb2
    · exact best j' (by omega)
theorem max_key{H:Hp}{s:Shared}(Iv:Inv X pins σ H s)(hc:X.calm=true)(hu:X.A.in1.units<cLine)(hl:H l=some (.lst (as.map V.ref)))(hne:0<as.length)(C:KeyCmp X as.length kA g Rb)
 (turn:KeyTurnA X q as kA H σ) (hQ:∀i a H' s',as[i]? = some a->(∀j,j<as.length->g j i=false)->Inv X pins σ H' s'->Same H H'->Q (.ref a) s') :
 wpAny (model X.prog X.w) X.A (call (.builtin "max") [.ref l] [(Str.ofString "key",.ref q)]) Q E s:=by
 have hname:(toString "max"++toString ".loop":String) = "max.loop":=by decide
 have hls:=Iv.isL hl
 obtain⟨ol,hol,_⟩:=id hls
 have hll:l<s.heap.objs.size:=Heap.lt_size hol
 have hsz:(as.map Value.ref).toArray.size=as.length:=by simp
 refine kmk_tree PySem.F.kind_max PySem.F.plain_max PySem.F.entry_max (kmk_max_key _ _) ?_
 show wpAny _ X.A.in1 (Builtin.Builtins.bindParams "max" ["key","default"] 0 ⟨[],[(Str.ofString "key",.ref q)]⟩ >>= _) _ _ s
 refine wpAny_bind (wpAny_of_eq (show Builtin.Builtins.bindParams "max" ["key","default"] 0 ⟨[],[(Str.ofString "key",.ref q)]⟩=pure [some (.ref q),none] from rfl) ?_)
 refine wpAny_bind (wpAny_pure ?_)
 refine wpAny_bind (wpAny_pyIter_list hls ?_)
 refine wpAny_bind (wpAny_newList ?_ (Nat.zero_le _))
 rw[hname]
 refine wpAny_pure ⟨plainId_quiet PySem.F.plain_max_loop _,?_⟩
 have hS:(s.heap.push { cls:=.type "list_iterator",data:=.fields #[.ref l,.int 0 0] }).objs.size=s.heap.objs.size+1:=size_push' ..
 have hlI:l≠s.heap.objs.size:=Nat.ne_of_lt hll
 have hSI:(s.heap.push { cls:=.type "list_iterator",data:=.fields #[.ref l,.int 0 0] }).objs.size≠s.heap.objs.size:=by rw[hS];exact Nat.ne_of_gt (Nat.lt_succ_self _)
 have fI:FpOk X pins H s.heap.objs.size:=Iv.fpOk (Nat.le_refl _) (Iv.hok.fresh (Nat.le_refl _))
 have fS:FpOk X pins H (s.heap.push { cls:=.type "list_iterator",data:=.fields #[.ref l,.int 0 0] }).objs.size:=Iv.fpOk (by rw[hS];exact Nat.le_succ _) (Iv.hok.fresh (by rw[hS];exact Nat.le_succ _))
 have gI:((s.heap.push { cls:=.type "list_iterator",data:=.fields #[.ref l,.int 0 0] }).push (seqObj "list" #[] 0)).get? s.heap.objs.size=some { cls:=.type "list_iterator",data:=.fields #[.ref l,.int 0 0] }:=
  Heap.get?_push_of_some _ (Heap.get?_push_size _ rfl)
 have gS:((s.heap.push { cls:=.type "list_iterator",data:=.fields #[.ref l,.int 0 0] }).push (seqObj "list" #[] 0)).get? (s.heap.push { cls:=.type "list_iterator",data:=.fields #[.ref l,.int 0 0] }).objs.size=some (seqObj "list" #[] 0):=Heap.get?_push_size _ rfl
 have I0:Inv X pins σ H { s with heap:=(s.heap.push { cls:=.type "list_iterator",data:=.fields #[.ref l,.int 0 0] }).push (seqObj "list" #[] 0) }:=Iv.kept (t':=s.toks) fun b o e=>Heap.get?_push_of_some _ (Heap.get?_push_of_some _ e)
 generalize (s.heap.push { cls:=.type "list_iterator",data:=.fields #[.ref l,.int 0 0] }).objs.size=S at *
 generalize s.heap.objs.size=I at *
 generalize (s.heap.push { cls:=.type "list_iterator",data:=.fields #[.ref l,.int 0 0] }).push (seqObj "list" #[] 0)=h0 at *
 have W:=Walks.list (prog:=X.prog) (w:=X.w) (A:=X.A.in1) (Iv.ok.hd hc) I l hlI (as.map Value.ref).toArray
 refine codeAny_builtin PySem.F.entry_max_loop ?_
 rw[Around.under_plainId PySem.F.plain_max_loop _]
 show wpAny _ X.A.in1 (seqItems? (.ref S) >>= _) _ _ _
 refine wpAny_bind (wpAny_seqItems gS rfl ?_)
 show wpAny _ X.A.in1 (tryCatch (pyNext (.ref I)) _ >>= _) _ _ _
 refine wpAny_bind (wpAny_tryCatch (W.item 0 _ _ _ (by rw[hsz];exact hne) ⟨⟨_,gI,rfl,rfl⟩,I0.isL hl⟩ fun v h' tk' hP hst' hk'=>?_))
 have hv0:(as.map Value.ref)[0]? = some v:=by simpa using hP
 obtain⟨a,ha,rfl⟩:∃a,as[0]? = some a/\v = .ref a:=by
  rw[List.getElem?_map]at hv0
  cases e:as[0]? with
  | none=>rw[e]at hv0;cases hv0
  | some a=>rw[e]at hv0;cases hv0;exact⟨a,rfl,rfl⟩
 obtain⟨oI',hoI',hoc,hod⟩:=id hst'.1
 have I1:Inv X pins σ H { s with heap:=h',toks:=tk' }:=I0.turnF fI fun b o hb e=>hk' b o (by simpa using hb) e
 have hS1:h'.get? S=some (seqObj "list" #[] 0):=hk' S _ (by simpa using hSI) gS
 have Ip:Inv X (pins++pinsAt [I,S] h') σ H { s with heap:=h',toks:=tk' }:=I1.pinned (fp:=[I,S]) (fun b hb=>by
  rcases List.mem_cons.mp hb with e | e
  · rw[e];exact fI
  · rw[List.mem_singleton.mp e];exact fS) (fun b hb=>by
  rcases List.mem_cons.mp hb with e | e
  · rw[e];exact⟨oI',hoI',fun v z=>by rw[hod]at z;cases z⟩
  · rw[List.mem_singleton.mp e];exact⟨_,hS1,fun v z=>nomatch z⟩)
 show wpAny _ X.A.in1 (tryCatch (holding [.ref a] (call (.ref q) [.ref a])) _ >>= _) _ _ _
 refine wpAny_bind (wpAny_tryCatch (wpAny_holding (wpAny_mono (turn 0 a ha _ H _ Ip (Same.refl H)) (fun x s2 he=>?_) fun _ _ hF=>hF.elim)))
 obtain⟨kt,H2,I2p,rfl,s12,hkt⟩:=he
 have pI:=I2p.pin (I,oI') (List.mem_append_right _ (List.mem_append_right _ (mem_pinsAt (by simp) hoI')))
 have pS:=I2p.pin (S,seqObj "list" #[] 0) (List.mem_append_right _ (List.mem_append_right _ (mem_pinsAt (by simp) hS1)))
 have I2:=I2p.unpinned
 have fI2:FpOk X pins H2 I:=fI.of pI.2.1
 have fS2:FpOk X pins H2 S:=fS.of pS.2.1
 have s1:=Heap.SameBut.update s2.heap S (Obj.mapSeq fun _=>#[.ref a,.ref kt])
 obtain⟨c2,hc2⟩:∃c2,(s2.heap.update S (Obj.mapSeq fun _=>#[.ref a,.ref kt])).get? S=some (seqObj "list" #[.ref a,.ref kt] c2):=⟨_,get?_update_seq pS.1 fun _=>#[.ref a,.ref kt]⟩
 show wpAny _ X.A.in1 (updateSeq S (fun _=>#[.ref a,.ref kt]) >>= _) _ _ _
 refine wpAny_bind ?_
 refine wpAny_updateSeq pS.1 rfl ?_
 rw[hname]
 refine wpAny_pure ⟨plainId_quiet PySem.F.plain_max_loop _,max_loop (H0:=H) hc hu hlI hSI hl C turn (fun i a H' s' e b I' sm=>hQ i a H' s' e b I' sm) _ 0 0 H2 _ a kt c2 rfl hne (I2.turnF (t':=s2.toks) fS2 fun b o hb e=>(s1.2 b hb).trans e) s12 fI2 fS2 hc2 ⟨oI',(s1.2 I hSI.symm).trans pI.1,hoc,hod⟩ ha hkt C.r0 fun j' hj'=>?_⟩
 have e:j'=0:=by omega
 subst e
 exact C.irr _
end
end L2
namespace HT
open PySem PyProof.Rows
theorem rcGt_int(A:Around)(s:Shared)(a:Int)(t:Tok)(c:Int)(u:Tok)(prog:Program)(w:World)(E:Value->Shared->Prop)(Q:Value->Shared->Prop)(h:Q (.bool (decide (c<a))) s) :
 wpAny (model prog w) A (richCompare .Gt (.int a t) (.int c u)) Q E s:=
 (PyProof.Rows.gt_int h:wpAny (model prog w) A (compareOp .Gt (.int a t) (.int c u)) Q E s)
section
open PySem.SeqAt
open PySem.AutoSeq1 (wpAny_loadPart')
open PySem.MeetsSeq PySem.MeetsSeq2 PySem.MeetsSeq3
theorem tuple_gt_hd(l b:Addr)(items items2:Array Value)(n n2:Nat)(dd dd2:Option Addr)(sl sl2:Array (Option Value))(a c:Int)(t u:Tok)(vs ws:List Value)(hi:items.toList = .int a t::vs)(hj:items2.toList = .int c u::ws)(ne:a≠c) :
 Meets (Builtin.«tuple.__gt__» ⟨[.ref l,.ref b],[]⟩)
  (fun _ R s=>s.heap.get? l=some { cls:=.type "tuple",dict:=dd,data:=.seq items n,slots:=sl }/\s.heap.get? b=some { cls:=.type "tuple",dict:=dd2,data:=.seq items2 n2,slots:=sl2 } /\
   R (.ok (.ret (.bool (decide (c<a))))) s):=
 .of_wp fun prog w A R s h=>by
  obtain⟨hp,g,d,tk,os⟩:=s;obtain⟨hl,hb,h⟩:=h
  have f2:=AutoSeq1.sub_tuple_tuple
  wp_walk using wpAny_loadPart' hl,wpAny_loadPart' hb,wpAny_forIn_list _ (fun rest b s'=>b.1=none/\s'=⟨hp,g,d,tk,os⟩/\rest=(Value.int a t::vs).zip (Value.int c u::ws)) _
  case turn=>
   rintro⟨y,x⟩ rest b s' ⟨hb',rfl,hz⟩
   rw[List.zip_cons_cons]at hz
   injection hz with hyx hrest
   injection hyx with hy hx
   subst hy hx
   obtain⟨e,he,hiff⟩:=eqAt_int A.in1 ⟨hp,g,d,tk,os⟩ a t c u
   refine wpAny_bind (he prog w _ _ ?_)
   cases e with
   | true=>exact absurd (hiff.mp rfl) ne
   | false=>
    have hri:=rcGt_int A.in1 ⟨hp,g,d,tk,os⟩ a t c u prog w
    wp_walk using hri
    exact⟨_,rfl,by simpa using h⟩
  case fin=>
   rintro⟨b1,b2⟩ s' ⟨hb',rfl,hz⟩
   rw[List.zip_cons_cons]at hz
   cases hz
  case h=>
   exact⟨rfl,rfl,by rw[←hi,←hj]⟩
end
section
variable {prog:Program} {w:World} {A:Around} {E:Value->Shared->Prop} {s:Shared}
theorem gt_tupHd{l b:Addr}{items items2:Array Value}{a c:Int}{t u:Tok}{vs ws:List Value}{Q:Value->Shared->Prop}(hl:IsTup s.heap l items)(hb:IsTup s.heap b items2)(hi:items.toList = .int a t::vs)(hj:items2.toList = .int c u::ws)(ne:a≠c)
 (hu:A.units<cLine) (h:Q (.bool (decide (c<a))) s):wpAny (model prog w) A (compareOp .Gt (.ref l) (.ref b)) Q E s:=by
 obtain⟨⟨cls,dd,data,sl⟩,ho,hc,n,hd⟩:=id hl
 obtain⟨⟨cls2,dd2,data2,sl2⟩,ho2,hc2,n2,hd2⟩:=id hb
 simp only at hc hd hc2 hd2
 subst hc hd hc2 hd2
 exact richCompare_meets_room (op:=.Gt) ⟨_,ho,rfl⟩ ⟨_,ho2,rfl⟩ PySem.F.slot_tuple_gt PySem.F.entry_tuple_gt (PySem.F.args_tuple_gt_2 _ _) (tuple_gt_hd l b items items2 n n2 dd dd2 sl sl2 a c t u vs ws hi hj ne)
  ⟨ho,ho2,show Value.bool (decide (c<a))≠Value.notImplemented/\Q (.bool (decide (c<a))) s from ⟨(fun x=>nomatch x),h⟩⟩ hu
end
end HT
namespace L2
open PySem PySem.Spec PyProof.Rows
section
variable {X:Cx}
theorem keyHd(hu:X.A.in1.units<cLine)(n:Nat)(ns:Nat->Int)(h0:∀i,0<i->i<n->ns i<ns 0):KeyCmp X n (fun i H kt=>∃r,H kt=some (.tup (.int (ns i)::r))) (fun i j=>decide (ns j<ns i)) (fun i=>i=0):=by
 refine⟨fun s zq433=>zq433.elim fun r h=>⟨r,s _ _ h⟩,fun a b c h k=>decide_eq_true (Int.lt_trans (of_decide_eq_true k) (of_decide_eq_true h)),fun a=>decide_eq_false (Int.lt_irrefl _),rfl,fun i j e hi h=>?_,?_⟩
 · subst e
   have h:=of_decide_eq_true h
   by_cases z:i=0
   · exact z
   · have:=h0 i (by omega) hi
     omega
 · rintro i j kt kb pins σ H s Q E rfl hi hn I ⟨r1,h1⟩ ⟨r2,h2⟩ q
   obtain⟨it1,v1,p1,_⟩:=I.tuple (SqT.of (K:=X.K) h1)
   obtain⟨it2,v2,p2,_⟩:=I.tuple (SqT.of (K:=X.K) h2)
   cases v1 with
   | cons e1 t1=>
    cases v2 with
    | cons e2 t2=>
     obtain⟨k1,rfl⟩:=(show∃tk,_=Value.int (ns i) tk from e1)
     obtain⟨k2,rfl⟩:=(show∃tk,_=Value.int (ns 0) tk from e2)
     have:=h0 i hi hn
     exact HT.gt_tupHd p1 p2 rfl rfl (by omega) hu q
end
end L2
namespace L2
open PySem PySem.Spec PyProof.Rows
open HT (At lexK okK)
noncomputable def KeepT(P:Addr)(H H':Hp):Prop:=∀b o,H b=some o->b≠P->H' b=some o
section
variable {X:Cx} {c P:Addr} {params:Arguments} {body e:Expr} {scope:Scope} {p pos lpos kpos:Pos} {qual x:Str} {k:Nat} {te tb:TE}
theorem TabSt.same{H H':Hp}(s:Same H H')(h:TabSt H P lpos qual):TabSt H' P lpos qual:=by
 rcases h with h | ⟨c',h1,h2⟩
 · exact .inl (s _ _ h)
 · exact .inr ⟨c',s _ _ h1,s _ _ h2⟩
end
end L2
namespace K41
open PySem L2 PySem.Spec PyProof.Rows
seal PE PS PSs PA PT PW PG PGs PI PTs
section
variable {X:Cx}
noncomputable def rIsO(K:PySem.W.Frag):List V->Hp->VK->Prop:=fun xs H Q=>∃a C D b,xs = [.ref a,.ref D]/\H a=some (excO a (.ref C))/\XCls K C/\PySem.W.kitOne K (.ref C) (.ref D)=some b/\Q (.bl b) H
theorem call_isiOK(K:PySem.W.Frag)(h:X.K=K:=by rfl):CallR X (.builtin "isinstance") (rIsO K):=h▸call_isiO
end
structure Errs(K:PySem.W.Frag)(mg:Str->Option Value)(M NP TW:Addr):Prop where
 xc:XCls K TW
 mM:mg "MendError" = some (.ref M)
 mP:mg "NoParcel" = some (.ref NP)
 mT:mg "TooWide" = some (.ref TW)
 kM:PySem.W.kitOne K (.ref TW) (.ref M)=some true
 kP:PySem.W.kitOne K (.ref TW) (.ref NP)=some false
 ex:PySem.W.exmOne K (.ref TW) (.ref TW)=some true
noncomputable def widE(es:List Ent)(ys:List Str):Int:=ys.foldl (widP (es.map pclE)) 1
noncomputable def spBes(C S Bc TW Pt:Addr)(lpos:Pos)(qual:Str):Sp:=fun vs H Q E=>∃(sv:V) (nw wl:Addr) (xs xw:List V) (es:List Ent) (ws:List Wsh),vs = [sv,.ref nw,.ref wl]/\ShelfAt S H sv xs (es.map pclE)/\PclsAt C H xs (es.map pclE)/\EsOk es/\H nw=some (.dK [])/\H wl=some (.lst xw)/\Paired (WshH H) xw ws/\ws.length<=100 /\
 ∀ys,NamesOf (es.map pclE) ys->(400<widE es ys->∀H',Same H H'->E (.ref TW) none H')/\(¬400<widE es ys->ws = []/\TabSt H Pt lpos qual/\∀b dx fl d H',KeepT Pt H H'->TabSt H' Pt lpos qual->H' b=some (.ins Bc dx fl)->fl.lookup ("chosen":Str)=some (.ref d)->H' d=some (.dK [])->Q (.ref b) H')
section
variable {P:Program} {w:World} {K:PySem.W.Frag} {mg:Str->Option Value} {base:Heap}
noncomputable def spToo(C S:Addr):Sp:=fun vs H Q _=>∃(sv:V) (wl:Addr) (xs xw:List V) (es:List Ent) (ws:List Wsh),vs = [sv,.ref wl]/\ShelfAt S H sv xs (es.map pclE)/\PclsAt C H xs (es.map pclE)/\EsOk es/\H wl=some (.lst xw)/\Paired (WshH H) xw ws/\ws.length<=100 /\
 (∀ys,NamesOf (es.map pclE) ys->400<widE es ys)/\∀H',Same H H'->Q (.bl true) H'
theorem scToo:FnScope ["_law_shelf_here","_law_wishes","_law_found","e"] ["_law_shelf_here","_law_wishes"] (defScope sToo):=⟨rfl,rfl,rfl,by decide +kernel,rfl,by decide +kernel,by decide +kernel⟩
theorem okToo{f fBes C S Bc M NP TW Pt:Addr}{fd fdBes:FuncData}{lpos:Pos}{qual:Str}{kB:Nat}(F:Fun K "_law_too_wide" "_law_too_wide" sToo f fd)(B:Blt mg)(R:Errs K mg M NP TW)(FBes:Fun K "best_set" "best_set" sBes fBes fdBes)(mBes:mg "best_set" = some (.ref fBes))
 (GBes:FnOk P w K mg base (CXR P w) kB fBes fdBes ["shelf","now","wishes"] (spBes C S Bc TW Pt lpos qual)):FnOk P w K mg base CX0 (kB+1) f fd ["_law_shelf_here","_law_wishes"] (spToo C S):=by
 have bBes:=FBes.binds3 (l:=["shelf","now","wishes"]) (fun _ _ _ _ _ _ _ _ _=>rfl)
 refine F.ok scToo (fun vs H Q E h=>?_) (fun cdv A outer s H vs Q E hr h=>?_)
 · obtain⟨sv,wl,xs,xw,es,ws,rfl,_⟩:=h
   rfl
 · obtain⟨sv,wl,xs,xw,es,ws,rfl,hS,hP,hok,hwl,hws,l100,hwd,q⟩:=h
   refine⟨_,(pss_cons (ps_set (i:=2) scToo.nd rfl (Or.inl rfl) pe_bl)
    (pss_cutE (ps_tryAs (i:=3) scToo.nd rfl rfl rfl rfl R.mT rfl (fun XE pn E hp=>pss_one (ps_expr (pe_callS GBes hr rfl mBes FBes.kp bBes .nil hp (pa_cons (pv 0) (pa_cons pe_dnewN (pa_cons (pv 1) pa_nil))))))
     (fun a=>pss_one (ps_set (i:=2) scToo.nd rfl (Or.inl rfl) (pe_and (pe_callB (call_isiOK K) (by rfl) B.isinstance PyProof.Rows.boot_isinstance (pa_cons (pv 3) (pa_cons (pe_glob (v:=.ref M) rfl R.mM rfl) pa_nil)))
      (pe_one (pe_not (pe_callB (call_isiOK K) (by rfl) B.isinstance PyProof.Rows.boot_isinstance (pa_cons (pv 3) (pa_cons (pe_glob (v:=.ref NP) rfl R.mP rfl) pa_nil)))))))))
     (pss_one (ps_ret (pv 2))))),?_⟩
   refine⟨fun σ' H'=>∃u,σ' = [some sv,some (.ref wl),some (.bl true),u]/\Same H H',?_,?_⟩
   · refine⟨_,rfl,fun p1 H1 n1 s1 e1=>⟨_,rfl,?_⟩⟩
     refine⟨sv,p1,wl,xs,xw,es,ws,rfl,hS.same s1,hP.same s1,hok,e1,s1 _ _ hwl,paired_mapP hws fun _ _=>WshH.same s1,l100,fun ys hN=>⟨fun _ H2 s2=>⟨R.ex,fun x hx=>?_⟩,fun z=>absurd (hwd ys hN) z⟩⟩
     have hx1:upd H2 x (excO x (.ref TW)) x=some (excO x (.ref TW)):=upd_same
     refine⟨_,rfl,x,TW,M,true,rfl,hx1,R.xc,R.kM,_,rfl,iteT ?_⟩
     refine⟨_,rfl,x,TW,NP,false,rfl,hx1,R.xc,R.kP,?_⟩
     refine⟨_,rfl,?_⟩
     exact⟨_,rfl,same_upd' (s1.trans s2) (s1.free (s2.free hx))⟩
   · rintro σ' H' ⟨u,rfl,s'⟩
     exact⟨_,rfl,q H' s'⟩
end
end K41
namespace K41
open PySem L2 PySem.Spec PyProof.Rows
seal PE PS PSs PA PT PW PG PGs PI PTs
structure TxtB(K:PySem.W.Frag)(mg:Str->Option Value)(Bc:Addr):Prop where
 cl:Cls K Bc
 nC:NoAttr K Bc "chosen"
 mgC:mg "Best" = some (.ref Bc)
section
variable {P:Program} {w:World} {K:PySem.W.Frag} {mg:Str->Option Value} {base:Heap}
noncomputable def spBIn(Bc:Addr):Sp:=fun vs H Q _=>∃(x dx d:Addr) (kvs:List (Key×V)),vs = [.ref x,.ref d]/\H x=some (.ins Bc dx [])/\H d=some (.dK kvs) /\
 ∀d' H',H d'=none->(∀b o,H b=some o->b≠x->H' b=some o)->H' x=some (.ins Bc dx (putF "chosen" (.ref d') []))->H' d'=some (.dK kvs)->Q .non H'
theorem scBIn:FnScope ["self","chosen"] ["self","chosen"] (defScope sBIn):=⟨rfl,rfl,rfl,by decide +kernel,rfl,by decide +kernel,by decide +kernel⟩
theorem okBIn{f Bc:Addr}{fd:FuncData}(F:Fun K "__init__" "Best.__init__" sBIn f fd)(B:Blt mg)(T:TxtB K mg Bc):FnOk P w K mg base CX0 1 f fd ["self","chosen"] (spBIn Bc):=by
 refine F.ok scBIn (fun vs H Q E h=>?_) (fun cdv A outer s H vs Q E hr h=>?_)
 · obtain⟨x,dx,d,kvs,rfl,_⟩:=h
   rfl
 · refine letX ?_
   intro xX dX
   obtain⟨x,dx,d,kvs,rfl,hx,hd,q⟩:=h
   refine⟨_,(pss_one (ps_fld (pv 0) (pe_callTy call_dictN (by rfl) B.dict PyProof.Rows.boot_dict (pa_cons (pv 1) pa_nil)) rfl)),?_⟩
   refine⟨_,rfl,d,_,rfl,hd,fun p1 H1 n1 s1 e1=>?_⟩
   have n1x:p1≠x:=(ne_of_none hx n1).symm
   refine⟨_,rfl,x,Bc,dx,_,rfl,s1 _ _ hx,T.cl,T.nC,(by decide),?_⟩
   exact q p1 _ n1 (fun b o e hb=>keep_upd (s1 _ _ e) hb) upd_same (keep_upd e1 n1x)
end
end K41
namespace K41
open PySem L2 PySem.Spec PyProof.Rows
open HT (At lexK okK)
theorem few_bare(e:Ent):Few (pclE e):=⟨Nat.le_refl _,Nat.le_refl _,Nat.le_refl _,List.nodup_nil⟩
theorem told_bare{es:List Ent}{ch:Ch}{ks:List (List At)}(h:Told (es.map pclE) ch ks):ks = []:=by
 obtain⟨⟨qs,h1,_,h3⟩,_⟩:=h
 rw[bare_all fun q hq=>by
  obtain⟨e,_,rfl⟩:=List.mem_map.mp (h1 q hq).1
  exact few_bare e]at h3
 exact List.perm_nil.mp h3
theorem fold_mem(M:Str->List (List Int)):∀(ys:List Str) (ds:List Dec),(∀de∈ds,∀e∈de,∀m,e.2=some m->m∈M e.1)->∀de∈ys.foldl (stepP M) ds,∀e∈de,∀m,e.2=some m->m∈M e.1
 | [],ds,h=>h
 | y::ys,ds,h=>fold_mem M ys (stepP M ds y) fun de hd e he m em=>by
  obtain⟨d,hd1,hd2⟩:=List.mem_flatMap.mp hd
  obtain⟨c,hc,rfl⟩:=List.mem_map.mp hd2
  rcases List.mem_append.mp he with z | z
  · exact h d hd1 e z m em
  · rw[List.mem_singleton.mp z]at em ⊢
    have em:c=some m:=em
    subst em
    rcases List.mem_cons.mp hc with z | z
    · cases z
    · obtain⟨m',hm',e'⟩:=List.mem_map.mp z
      cases e'
      exact hm'
theorem ways_ch{M:Str->List (List Int)}{ys:List Str}{de:Dec}(h:de∈waysP M ys){e:Str×List Int}(he:e∈chOf de):e.2∈M e.1:=by
 obtain⟨d,hd,hm⟩:=List.mem_filterMap.mp he
 have k:=fold_mem M ys [[]] (fun de hd e he=>by rw[List.mem_singleton.mp hd]at he;cases he) de h d hd
 cases hz:d.2 with
 | none=>rw[hz]at hm;cases hm
 | some m=>
  rw[hz]at hm
  have hm:(d.1,m)=e:=Option.some.inj hm
  subst hm
  exact k m hz
theorem ch_nodup{de:Dec}(h:(de.map (·.1)).Nodup):((chOf de).map (·.1)).Nodup:=by
 induction de with
 | nil=>exact List.nodup_nil
 | cons d r ih=>
  rw[List.map_cons,List.nodup_cons]at h
  unfold chOf
  rw[List.filterMap_cons]
  cases hz:d.2 with
  | none=>exact ih h.2
  | some m=>
   show((d.1,m)::chOf r).map (·.1) |>.Nodup
   rw[List.map_cons,List.nodup_cons]
   exact⟨fun z=>h.1 (chOf_key z),ih h.2⟩
theorem mks_pos{ps:List Pcl}{nm:Str}(h:nm∈ps.map Pcl.nm):1<=(mksOf ps nm).length:=by
 obtain⟨p,hp,e⟩:=List.mem_map.mp h
 unfold mksOf
 rw[List.length_map]
 exact List.length_pos_of_mem (List.mem_filter.mpr ⟨hp,decide_eq_true e⟩)
theorem fold_two{ps:List Pcl}:∀(ys:List Str) (n:Int),1<=n->(∀y∈ys,y∈ps.map Pcl.nm)->n * 2 ^ ys.length<=ys.foldl (widP ps) n
 | [],n,_,_=>by simp
 | y::ys,n,hn,h=>by
  have k:=mks_pos (h y List.mem_cons_self)
  have e:n * 2<=widP ps n y:=by
   unfold widP
   exact Int.mul_le_mul_of_nonneg_left (by omega) (by omega)
  have ih:=fold_two ys (widP ps n y) (by omega) fun z hz=>h z (List.mem_cons_of_mem _ hz)
  refine Int.le_trans ?_ ih
  rw[List.length_cons,Int.pow_succ]
  have p2:(0:Int)<=2 ^ ys.length:=Int.le_of_lt (Int.pow_pos (by decide))
  calc n * (2 ^ ys.length * 2)=(n * 2) * 2 ^ ys.length:=by rw[Int.mul_comm (2 ^ ys.length) 2,Int.mul_assoc]
   _<=widP ps n y * 2 ^ ys.length:=Int.mul_le_mul_of_nonneg_right e p2
theorem few_names{es:List Ent}{ys:List Str}(hN:NamesOf (es.map pclE) ys)(h:¬400<widE es ys):ys.length<=8:=by
 have k:=fold_two ys 1 (Int.le_refl _) fun y hy=>(hN.mem y).mp hy
 have k:1 * 2 ^ ys.length<=widE es ys:=k
 refine Nat.le_of_not_lt fun z=>?_
 have:(2:Int) ^ 9<=2 ^ ys.length:=by
  have:=Nat.pow_le_pow_right (n:=2) (by decide) (show 9<=ys.length by omega)
  exact_mod_cast this
 have:(512:Int)<=2 ^ ys.length:=this
 omega
theorem set_bare{C S:Addr}{H:Hp}{sv:V}{c:Addr}{es:List Ent}{xs:List V}{M:Str->List (List Int)}{ys:List Str}{de:Dec}(hM:Mks (es.map pclE) M)(hN:NamesOf (es.map pclE) ys)(h8:ys.length<=8)(hS:ShelfAt S H sv xs (es.map pclE))(hP:PclsAt C H xs (es.map pclE))(hd:de∈waysP M ys)(hc:ChoAt H c (chOf de)) :
 SetAt C S H sv c (es.map pclE) (chOf de):=by
 have hk:=ways_keys hd
 have nd:(de.map (·.1)).Nodup:=by rw[hk];exact hN.nd
 refine⟨⟨xs,hS,hP,fun e he=>?_⟩,hc,ch_nodup nd,?_,fun p hp=>?_⟩
 · have hm:=(hM.pm e.1).mem_iff.mp (ways_ch hd he)
   obtain⟨p,hp,e2⟩:=List.mem_map.mp hm
   obtain⟨hp1,hp2⟩:=List.mem_filter.mp hp
   obtain⟨j,hj⟩:=List.getElem?_of_mem hp1
   have hl:=paired_len hP
   have hlt:j<xs.length:=by rw[hl];exact(List.getElem?_eq_some_iff.mp hj).1
   exact⟨xs[j],p,⟨j,hj,List.getElem?_eq_getElem hlt⟩,of_decide_eq_true hp2,e2⟩
 · refine Nat.le_trans (chOf_len de) ?_
   have:=congrArg List.length hk
   rw[List.length_map]at this
   omega
 · obtain⟨e,_,rfl⟩:=List.mem_map.mp hp
   exact few_bare e
end K41
namespace L2
open PySem PySem.Spec PyProof.Rows
open PySem.W (tabObj)
noncomputable def lamK(q c':Addr)(qual:Str)(params:Arguments)(body:Expr)(scope:Scope)(clos:List (Str×Addr)):HO:=.ext fun h=>∃pm ctv,h.get? q=some (PySem.W.kla_obj "<lambda>" qual params body scope clos pm c' ctv)
noncomputable def tLamK(P:Addr)(qual:Str)(params:Arguments)(body:Expr)(scope:Scope)(clos:List (Str×Addr))(pos:Pos):TE:=fun σ H Q=>TabSt H P pos qual/\∀q c' H',H q=none->H' P≠none->(∀b o,H b=some o->b≠P->H' b=some o)->TabSt H' P pos qual->H' c'=some (codO c' qual)->H' q=some (lamK q c' qual params body scope clos)->Q (.ref q) H'
section
variable {X:Cx} {c P:Addr} {params:Arguments} {body:Expr} {scope:Scope} {clos:List (Str×Addr)} {pos:Pos} {qual:Str}
theorem pe_lamK(hcode:X.env.code = .ref c)(hd:PySem.W.codeHdIn X.K c P=true)(hb:X.base.BuiltinsAt X.mg P)(hcl:closureFor scope X.env=pure clos)(hq:X.env.qual ++ "<lambda>" = qual:=by rfl)(hge0:X.env.globals=mainGlobals:=by rfl)(hdef:defaultsOf params X.env=([],[]):=by rfl) :
 PE X (.Lambda params body scope pos) (tLamK P qual params body scope clos pos):=by
 intro pins s σ H Q I h
 obtain⟨tb,q⟩:=h
 subst hq
 refine PySem.W.kla_eval hdef ?_
 have hg:s.heap.Ns mainGlobals X.mg:=I.mod.glob.keeps I.bk
 obtain⟨bm,ob,b1,b2,b3,b4,b5,b6⟩:=hb
 have hb':s.heap.BuiltinsAt X.mg P:=⟨bm,ob,b1,b2,b3,b4,I.bk _ _ b5,b6⟩
 have C:=PySem.W.codeHd_of_K I.kIn hd
 have hgP:∀ps,s.heap.get? P=some (tabObj ps)->mainGlobals≠P:=fun ps e z=>by
  obtain⟨o,es,ep,e',d',_⟩:=hg
  rw[z,e]at e'
  cases e'
  cases d'
 have hlt:∀b o,s.heap.get? b=some o->b<s.heap.objs.size:=fun b o e=>Heap.lt_size e
 rcases tb with e | ⟨c',e1,e2⟩
 · have hP:s.heap.get? P=some (tabObj #[]):=(show ObjOk X.prog X.w H s.heap P (tabO P #[]) from I.hok P _ e).1
   refine PySem.W.kla_makeFunction hcl hge0 hg hcode C hP trivial rfl (hgP _ hP) hb' fun c' ctv h' tk hx hge hl hrec htb=>?_
   have I1:Inv X pins σ (upd H P (tabO P (#[] ++ #[rawInt pos.line,rawInt pos.col,.ref c']))) { s with heap:=h',toks:=tk }:=
    I.write (x:=P) (e:=P) (by rw[e];exact True.intro) (.inl rfl) (fun b u hb e=>hx b u hb e) ⟨_,htb⟩ (ext_new htb htb fun h1 h2 a k=>k _ a)
   have nc:H c'=none:=I.hok.fresh hge
   have cP:c'≠P:=fun z=>absurd (hlt _ _ hP) (Nat.not_lt.mpr (z▸hge))
   have nc1:upd H P (tabO P (#[] ++ #[rawInt pos.line,rawInt pos.col,.ref c'])) c'=none:=by rw[upd_ne cP];exact nc
   have hrec':=hrec
   obtain⟨c2,oc,vs,t,ec,hoc,hod,hov⟩:=hrec'
   cases ec
   have I2:=I1.track (o:=codO c' (X.env.qual ++ "<lambda>")) nc1 (Nat.le_trans I.sz hge) (Nat.ne_of_gt (Nat.lt_of_lt_of_le I.lt hge)) (fun x cc ex z=>by
    obtain⟨v,oo,hv,_⟩:=I.cell x cc ex
    exact absurd (hlt _ _ hv) (Nat.not_lt.mpr (z▸hge))) (fun p hp z=>absurd (hlt _ _ (I.pin p hp).1) (Nat.not_lt.mpr (z▸hge))) (ext_new hoc hrec fun h1 h2 a k=>codeRec_keep a k)
   have gq:(h'.push (PySem.W.kla_obj "<lambda>" (X.env.qual ++ "<lambda>") params body scope clos ((X.mg "__name__").getD .none) c' ctv)).get? h'.objs.size=some (PySem.W.kla_obj "<lambda>" (X.env.qual ++ "<lambda>") params body scope clos ((X.mg "__name__").getD .none) c' ctv):=Heap.get?_push_size _ rfl
   have I3:=I2.laid (t':=tk) (h':=h'.push (PySem.W.kla_obj "<lambda>" (X.env.qual ++ "<lambda>") params body scope clos ((X.mg "__name__").getD .none) c' ctv)) (a:=h'.objs.size) (o:=lamK h'.objs.size c' (X.env.qual ++ "<lambda>") params body scope clos)
    (fun b u e=>Heap.get?_push_of_some _ e) (Nat.le_refl _) (ext_new gq ⟨_,_,gq⟩ fun h1 h2 zq434 k=>zq434.elim fun pm zq435=>zq435.elim fun cv a=>⟨pm,cv,k _ a⟩)
   have hsz:s.heap.objs.size<=h'.objs.size:=Nat.le_trans hge (Nat.le_of_lt hl)
   have nq:H h'.objs.size=none:=I.hok.fresh hsz
   have qP:h'.objs.size≠P:=fun z=>absurd (hlt _ _ hP) (Nat.not_lt.mpr (z▸hsz))
   have qc:h'.objs.size≠c':=(Nat.ne_of_lt hl).symm
   refine⟨.ref h'.objs.size,_,I3,rfl,q _ c' _ nq ?_ (fun b o eb nb=>?_) (.inr ⟨c',?_,?_⟩) ?_ upd_same⟩
   · rw[upd_ne qP.symm,upd_ne cP.symm,upd_same]
     exact fun z=>nomatch z
   · rw[upd_ne (ne_of_none eb nq),upd_ne (ne_of_none eb nc),upd_ne nb]
     exact eb
   · rw[upd_ne qP.symm,upd_ne cP.symm,upd_same]
     rfl
   · rw[upd_ne qc.symm,upd_same]
   · rw[upd_ne qc.symm,upd_same]
 · have hP:s.heap.get? P=some (tabObj #[rawInt pos.line,rawInt pos.col,.ref c']):=(show ObjOk X.prog X.w H s.heap P (tabO P _) from I.hok P _ e1).1
   have hf:codeAmong pos (#[rawInt pos.line,rawInt pos.col,.ref c']:Array Value).toList=some (.ref c'):=by
    show(if ((pos.line:Int) == pos.line && (pos.col:Int) == pos.col)=true then _ else _)=_
    rw[if_pos (by simp)]
   refine PySem.W.kla_makeFunctionHit hcl hge0 hg hcode C hP trivial hf hb' fun ctv h' tk hk hsz=>?_
   have gq:(h'.push (PySem.W.kla_obj "<lambda>" (X.env.qual ++ "<lambda>") params body scope clos ((X.mg "__name__").getD .none) c' ctv)).get? h'.objs.size=some (PySem.W.kla_obj "<lambda>" (X.env.qual ++ "<lambda>") params body scope clos ((X.mg "__name__").getD .none) c' ctv):=Heap.get?_push_size _ rfl
   have I3:=I.laid (t':=tk) (h':=h'.push (PySem.W.kla_obj "<lambda>" (X.env.qual ++ "<lambda>") params body scope clos ((X.mg "__name__").getD .none) c' ctv)) (a:=h'.objs.size) (o:=lamK h'.objs.size c' (X.env.qual ++ "<lambda>") params body scope clos)
    (fun b u e=>Heap.get?_push_of_some _ (hk b u e)) hsz (ext_new gq ⟨_,_,gq⟩ fun h1 h2 zq436 k=>zq436.elim fun pm zq437=>zq437.elim fun cv a=>⟨pm,cv,k _ a⟩)
   have nq:H h'.objs.size=none:=I.hok.fresh hsz
   refine⟨.ref h'.objs.size,_,I3,rfl,q _ c' _ nq ?_ (fun b o eb nb=>?_) (.inr ⟨c',?_,?_⟩) ?_ upd_same⟩
   · rw[upd_ne (ne_of_none e1 nq),e1]
     exact fun z=>nomatch z
   · rw[upd_ne (ne_of_none eb nq)]
     exact eb
   · rw[upd_ne (ne_of_none e1 nq)]
     exact e1
   · rw[upd_ne (ne_of_none e2 nq)]
     exact e2
   · rw[upd_ne (ne_of_none e2 nq)]
     exact e2
end
end L2
namespace L2
open PySem PySem.Spec PyProof.Rows
open PySem.W (envX)
noncomputable def cxLam(P:Program)(w:World)(K:PySem.W.Frag)(mg:Str->Option Value)(base:Heap)(N:List Str)(qual:Str)(scope:Scope)(f:Addr)(cd:Value)(clos:List (Str×Addr))(A:Around)(outer:List Env)(s:Shared)(H:Hp)(E:XK):Cx where
 prog:=P
 w:=w
 K:=K
 mg:=mg
 base:=base
 A:=A.deeper (envX qual scope s.heap.objs.size f cd clos)
 N:=N
 s₀:=s
 H₀:=H
 env:=envX qual scope s.heap.objs.size f cd clos
 outer:=outer
 stack:=envX qual scope s.heap.objs.size f cd clos::outer
 ex:=[]
 calm:=true
 fn:=fun _=>false
 pn:=[]
 xe:=fun e s'=>wpAny (model P w) (A.deeper (envX qual scope s.heap.objs.size f cd clos)) (leaving (envX qual scope s.heap.objs.size f cd clos) e) (fun _ s''=>CX0 outer H s E e s'') (fun e' s''=>CX0 outer H s E e' s'') s'
structure LamScope(X:Cx)(x:Str)(cap:List Str)(js:List Nat)(sc:Scope):Prop where
 kind:sc.kind = .function
 co:sc.isCoroutine=false
 gen:sc.isGenerator=false
 nocell:∀y∈sc.names,y.2≠.cell
 par:sc.names.lookup x=some .local
 frees:∀y∈sc.names,y.2 = .free->y.1∈cap
 slots:js.map (fun j=>X.N[j]?)=cap.map some
 outer':cap.map X.env.kindOf=cap.map fun _=>some NameKind.cell
 capk':cap.map (fun y=>sc.names.lookup y)=cap.map fun _=>some NameKind.free
noncomputable def lamStart(v:V)(js:List Nat)(σ:St):St:=some v::js.map fun j=>(σ[j]?).join
section
variable {X:Cx} {pins:List (Addr×Obj)} {σ:St} {H:Hp} {s:Shared} {x:Str} {cap:List Str} {js:List Nat} {scope:Scope} {q c':Addr} {qual:Str} {params:Arguments} {body:Expr} {pm ctv:Value} {v:V} {u:Value} {A:Around} {k:Nat} {Q:VK} {E:XK} {t:TE}
theorem LamScope.outer(S:LamScope X x cap js scope):∀y∈cap,X.env.kindOf y=some .cell:=map_all S.outer'
theorem LamScope.capk(S:LamScope X x cap js scope):∀y∈cap,scope.names.lookup y=some .free:=map_all S.capk'
theorem LamScope.clos(S:LamScope X x cap js scope)(ok:X.Ok):closureFor scope X.env=pure (takenFrom X.env scope.names []):=
 closureFor_taken fun y hy e=>ok.has _ (.inl (S.outer _ (S.frees y hy e)))
theorem lam_runK(S:LamScope X x cap js scope)(I:Inv X pins σ H s)(hd:A.handled=none)(hdep:A.depth<recursionLimit)(hfr:A.frames=some X.stack)(ho:s.heap.get? q=some (PySem.W.kla_obj "<lambda>" qual params body scope (takenFrom X.env scope.names []) pm c' ctv))(hcr:s.heap.CodeRec (.ref c') qual)
 (hb:bindArgs (PySem.W.kla_fn "<lambda>" qual params body scope (takenFrom X.env scope.names []) pm (.ref c') ctv) ⟨[u],[]⟩=pure [(x,u)]) (r:RelV v u)
 (ht:PE (cxLam X.prog X.w X.K X.mg X.base (x::cap) qual scope q (.ref c') (takenFrom X.env scope.names []) A X.stack s H E) body t) (hq:t (lamStart v js σ) H Q) :
 codeAny (model X.prog X.w) A (.call (.ref q) ⟨[u],[]⟩) (CR CX0 X.stack X.prog X.w H s Q E) s:=by
 have e0:=I.env0
 have lim:s.heap.NoLimit:=I.nolimit
 have frs':∀y∈scope.names,y.2 = .free->∃c,X.env.cells.lookup y.1=some c:=fun y hy e=>I.ok.has _ (.inl (S.outer _ (S.frees y hy e)))
 have toL:∀(y:Str) (c:Addr),(takenFrom X.env scope.names []).lookup y=some c->X.env.cells.lookup y=some c:=fun y c e=>
  takenFrom_some frs' (fun y c h=>by cases (show([]:List (Str×Addr)).lookup y=some c from h)) e
 refine PySem.W.kla_callFunE hdep ho rfl S.co S.gen rfl hcr ?_
 rw[hb]
 refine wpAny_pure ?_
 refine wpAny_newFunctionEnv S.nocell (fun y hy=>by rw[List.mem_singleton.mp hy];exact S.par) (fun h' hns hsb=>⟨lim.fresh _ hsb,PySem.W.kla_codeExpr ?_⟩) S.kind
 have hk:∀b o,s.heap.get? b=some o->h'.get? b=some o:=fun b o e=>hsb.extBut b o (Nat.ne_of_lt (Heap.lt_size e)) (Heap.get?_push_of_some _ e)
 have noA:∀b:Addr,b∉(cxLam X.prog X.w X.K X.mg X.base (x::cap) qual scope q (.ref c') (takenFrom X.env scope.names []) A X.stack s H E).ex:=fun b z=>absurd (show b∈([]:List Addr) from z) (by simp)
 have ok':(cxLam X.prog X.w X.K X.mg X.base (x::cap) qual scope q (.ref c') (takenFrom X.env scope.names []) A X.stack s H E).Ok:=by
  refine⟨e0.mod,S.kind,rfl,rfl,Nat.le_refl _,fun y z c h1 h2=>I.ok.inj y z c (toL y c h1) (toL z c h2),fun y hy=>?_,(fun y c z _=>nomatch (show false=true from z)),fun _=>hd,Around.frames_deeper hfr,.inr ⟨rfl,rfl⟩,fun b z=>absurd z (noA b),e0.bs,e0.bsz,fun b _ _=>noA b,fun b z=>absurd z (noA b),e0.funs,e0.frf⟩
  have hy:scope.names.lookup y=some .cell\/scope.names.lookup y=some .free:=hy
  rcases hy with hy | hy
  · exact absurd rfl (S.nocell _ (PySem.mem_of_lookup hy))
  · exact Option.isSome_iff_exists.mp (takenFrom_has (PySem.mem_of_lookup hy))
 have J:Inv (cxLam X.prog X.w X.K X.mg X.base (x::cap) qual scope q (.ref c') (takenFrom X.env scope.names []) A X.stack s H E) [] (lamStart v js σ) H { s with heap:=h',toks:=s.toks + [(x,u)].length }:=by
  refine⟨ok',rfl,I.bare,Un.kept hk,⟨_,hns,fun i y z h1 h2 h3=>?_⟩,fun y c h=>?_,I.hok.fresh (Nat.le_refl _),fun y c h=>I.freeC y c (toL y c h),fun p hp=>absurd (show p∈([]:List (Addr×Obj)) from hp) (by simp),I.hok.kept hk,?_⟩
  · cases i with
    | zero=>
     have h1:x=y:=Option.some.inj h1
     have h2:some v=some z:=Option.some.inj h2
     subst h1
     cases h2
     exact⟨u,r,.inl ⟨S.par,by show([(x,u)]:List (Str×Value)).reverse.lookup x=some u;simp[List.lookup]⟩⟩
    | succ i=>
     have h1:cap[i]? = some y:=h1
     have h2:(js.map fun j=>(σ[j]?).join)[i]? = some (some z):=h2
     rw[List.getElem?_map]at h2
     cases hj:js[i]? with
     | none=>rw[hj]at h2;cases h2
     | some j=>
      rw[hj]at h2
      have h2:(σ[j]?).join=some z:=Option.some.inj h2
      have e3:σ[j]? = some (some z):=by
       cases e:σ[j]? with
       | none=>rw[e]at h2;cases h2
       | some a=>rw[e]at h2;rw[show a=some z from h2]
      have hs:=congrArg (fun l=>l[i]?) S.slots
      simp only[List.getElem?_map,hj,h1,Option.map_some]at hs
      have hN:X.N[j]? = some y:=Option.some.inj hs
      have hy:y∈cap:=List.mem_of_getElem? h1
      obtain⟨m2,hn2,hl2⟩:=I.loc
      obtain⟨a,ra,lk⟩:=hl2 j y z hN e3 (.inr (.inl (S.outer y hy)))
      refine⟨a,ra,?_⟩
      rcases lk with⟨k1,_⟩ | ⟨_,c,hc1,hc2⟩
      · rw[S.outer y hy]at k1;cases k1
      · have kd:scope.names.lookup y=some .free:=S.capk y hy
        obtain⟨c2,hc'⟩:=ok'.has y (.inr kd)
        have e:=toL y c2 hc'
        rw[hc1]at e
        cases e
        exact .inr ⟨.inr kd,c,hc',hc2.keeps hk⟩
  · obtain⟨a,ha⟩:=I.cell y c (toL y c h)
    exact⟨a,ha.keeps hk⟩
  · show(lamStart v js σ).length=(x::cap).length
    unfold lamStart
    have:=congrArg List.length S.slots
    rw[List.length_map,List.length_map]at this
    rw[List.length_cons,List.length_cons,List.length_map,this]
 refine wpAny_mono (ht [] _ (lamStart v js σ) H _ J hq) (fun a s' hs=>?_) fun e s' hs=>hs
 obtain⟨z,H',J',rv,q'⟩:=hs
 exact⟨z,H',J'.os,J'.bare,J'.base,J'.hok,rv,q'⟩
end
end L2
namespace L2
open PySem PySem.Spec PyProof.Rows
open PySem.W (envX)
noncomputable def tMaxLam(X:Cx)(P:Addr)(qual:Str)(lpos:Pos)(js:List Nat)(te tb:TE):TE:=fun σ H Q=>tCons te tNil σ H fun us H1=>∃(l:Addr) (as:List Addr) (kA:Nat->Hp->Addr->Prop) (g:Nat->Nat->Bool) (Rb:Nat->Prop),us = [.ref l]/\l≠P/\H1 l=some (.lst (as.map V.ref))/\0<as.length/\KeyCmp X as.length kA g Rb/\TabSt H1 P lpos qual /\
 (∀i a,as[i]? = some a->∀H2,KeepT P H1 H2->tb (lamStart (.ref a) js σ) H2 fun v H3=>∃kt,v = .ref kt/\Same H2 H3/\kA i H3 kt) /\
 ∀i a H',as[i]? = some a->(∀j,j<as.length->g j i=false)->KeepT P H1 H'->TabSt H' P lpos qual->Q (.ref a) H'
section
variable {X:Cx} {c P:Addr} {params:Arguments} {body e:Expr} {scope:Scope} {p pos lpos kpos:Pos} {qual x:Str} {cap:List Str} {js:List Nat} {k:Nat} {te tb:TE}
theorem pe_maxLam(he:PE X e te)(S:LamScope X x cap js scope)(hr:Room (k+1) X.A.in1)(hc:X.calm=true)(hcode:X.env.code = .ref c)(hd:PySem.W.codeHdIn X.K c P=true)(hb:X.base.BuiltinsAt X.mg P)(hg:Gl X "max")(hm:X.mg "max" = none)
 (hbody:∀(q c':Addr) (s:Shared) (H:Hp) (E:XK),Room k (X.A.in1.deeper (envX qual scope s.heap.objs.size q (.ref c') (takenFrom X.env scope.names [])))->PE (cxLam X.prog X.w X.K X.mg X.base (x::cap) qual scope q (.ref c') (takenFrom X.env scope.names []) X.A.in1 X.stack s H E) body tb)
 (hbind:∀(pm ctv u:Value) (c':Addr),bindArgs (PySem.W.kla_fn "<lambda>" qual params body scope (takenFrom X.env scope.names []) pm (.ref c') ctv) ⟨[u],[]⟩=pure [(x,u)])
 (hq:X.env.qual ++ "<lambda>" = qual:=by rfl) (hge0:X.env.globals=mainGlobals:=by rfl) (hdef:defaultsOf params X.env=([],[]):=by rfl)
 (h1:backTo pos (starEach [e] X.env)=(false,eval e X.env)::backTo pos (starEach [] X.env):=by rfl) (h2:starEach [e] X.env = [(false,eval e X.env)]:=by rfl) (h3:(backTo pos (starEach [e] X.env)).any (·.1)=false:=by rfl) :
 PE X (.Call (.Name "max" p) [e] [⟨some "key",.Lambda params body scope lpos,kpos⟩] pos) (tMaxLam X P qual lpos js te tb):=by
 intro pins s σ H Q I h
 have hu:X.A.in1.units<cLine:=by have:=hr.un;omega
 refine wpAny_Call_Name_kw (ld_blt I hg hm boot_max ?_ (by decide) (by decide))
 have ha:PA X [e] (tCons te tNil):=pa_cons he pa_nil h2
 refine callWith_kw (thn (ha pos pins s σ H _ I h) fun us s1 zq438=>zq438.elim fun vs zq439=>zq439.elim fun H1 zq440=>zq440.elim fun I1 zq441=>zq441.elim fun r zq442=>zq442.elim fun l zq443=>zq443.elim fun as zq444=>zq444.elim fun kA zq445=>zq445.elim fun g zq446=>zq446.elim fun Rb zq447=>zq447.elim fun e1 zq448=>zq448.elim fun lP zq449=>zq449.elim fun hl zq450=>zq450.elim fun hne zq451=>zq451.elim fun C zq452=>zq452.elim fun tb1 zq453=>zq453.elim fun kask fin=>?_) h1 h3
 subst e1
 obtain⟨u1,rfl,ru⟩:=vals1 r
 cases ru
 have hk:PK X [⟨some "key",.Lambda params body scope lpos,kpos⟩] (tCons (tLamK P qual params body scope (takenFrom X.env scope.names []) lpos) tNil):=pk_cons (pe_lamK hcode hd hb (S.clos I.ok) hq hge0 hdef) pk_nil
 refine thn (hk pos pins s1 σ H1 (fun zs H2=>∃q c',zs = [.ref q]/\KeepT P H1 H2/\TabSt H2 P lpos qual/\H2 c'=some (codO c' qual)/\H2 q=some (lamK q c' qual params body scope (takenFrom X.env scope.names []))) I1 ⟨tb1,fun q c' H2 nq nP kp tb2 hc' hq'=>⟨q,c',rfl,kp,tb2,hc',hq'⟩⟩) fun ws s2 zq454=>zq454.elim fun zs zq455=>zq455.elim fun H2 zq456=>zq456.elim fun I2 zq457=>zq457.elim fun rz zq458=>zq458.elim fun q zq459=>zq459.elim fun c' zq460=>zq460.elim fun ez zq461=>zq461.elim fun kp zq462=>zq462.elim fun tb2 zq463=>zq463.elim fun hc2 hq2=>?_
 subst ez
 obtain⟨w1,rfl,rw1⟩:=vals1 rz
 cases rw1
 have turn:KeyTurnA X q as kA H2 σ:=by
  intro i a ha pins' H3 s3 I3 sm
  obtain⟨pm,ctv,ho⟩:=(show ObjOk X.prog X.w H3 s3.heap q (lamK q c' qual params body scope (takenFrom X.env scope.names [])) from I3.hok q _ (sm _ _ hq2)).1
  have hcr:s3.heap.CodeRec (.ref c') qual:=(show ObjOk X.prog X.w H3 s3.heap c' (codO c' qual) from I3.hok c' _ (sm _ _ hc2)).1
  refine wpAny_call (codeAny_mono (lam_runK (E:=E0) (v:=.ref a) (u:=.ref a) S I3 hr.hd hr.depth I3.env0.in1.frames ho hcr (hbind pm ctv _ c') rfl (hbody q c' _ _ _ (hr.deeper _)) (kask i a ha H3 fun b o e n=>sm _ _ (kp b o e n))) fun r s' hr'=>?_)
  cases r with
  | error e=>exact(show False from hr').elim
  | ok fl=>
   cases fl with
   | ret u=>
    obtain⟨v,H',I',rv,kt,ev,sm',hkt⟩:=I3.after hr'
    subst ev
    cases rv
    exact⟨kt,H',I',rfl,sm',hkt⟩
   | next=>exact False.elim hr'
   | brk=>exact False.elim hr'
   | cont=>exact False.elim hr'
 refine max_key I2 hc hu (kp _ _ hl lP) hne C turn fun i a H' s' ha best I' sm=>?_
 exact⟨.ref a,H',I',rfl,fin i a H' ha best (fun b o e n=>sm _ _ (kp b o e n)) (tb2.same sm)⟩
end
end L2
namespace L2
open PySem PySem.Spec PyProof.Rows
section
variable {X:Cx} {e e1 e2 e3:Expr} {te t1 t2 t3:TE} {pos:Pos}
noncomputable def tFmtI(te:TE):TE:=fun σ H Q=>te σ H fun x H1=>∃i:Int,x = .int i/\i.natAbs.log2<1920/\Q (.str (toString i)) H1
theorem pe_fmtI(he:PE X e te):PE X (.FormattedValue e (-1) none pos) (tFmtI te):=by
 intro pins s σ H Q I h
 refine FormattedValue_plain (thn (he pins s σ H _ I h) fun v s1 zq464=>zq464.elim fun x zq465=>zq465.elim fun H1 zq466=>zq466.elim fun I1 zq467=>zq467.elim fun r1 zq468=>zq468.elim fun i zq469=>zq469.elim fun ex zq470=>zq470.elim fun hl q=>?_)
 subst ex
 obtain⟨t,rfl⟩:=r1
 exact wpAny_formatField_int hl ⟨.str (toString i),H1,I1.tok _,⟨_,rfl⟩,q⟩
end
end L2
namespace L2
open PySem PySem.Spec PyProof.Rows
structure FunC(K:PySem.W.Frag)(x qual:Str)(st:Stmt)(f c:Addr)(fd:FuncData):Prop where
 ex:∃(oc:Value) (od:Option Addr) (kV doc pm:Value) (an:Option Addr) (ct:Value) (osl:Array (Option Value)),fd=PySem.W.fnOf x qual (defArgs st) (defBody st) (defScope st) .none kV doc pm an (.ref c) ct /\
  K.lookup f=some ⟨oc,od,.func (PySem.W.fnOf x qual (defArgs st) (defBody st) (defScope st) .none kV doc pm an (.ref c) ct),osl⟩/\PySem.W.codeIn K (.ref c) qual=true
 kp:PySem.W.keepIn K (.ref f)=true
theorem FunC.fn{K:PySem.W.Frag}{x qual:Str}{st:Stmt}{f c:Addr}{fd:FuncData}(F:FunC K x qual st f c fd):Fun K x qual st f fd:=by
 obtain⟨⟨oc,od,kV,doc,pm,an,ct,osl,e,l,h⟩,k⟩:=F
 subst e
 exact⟨⟨oc,od,kV,doc,pm,an,.ref c,ct,osl,rfl,l,h⟩,k⟩
theorem FunC.okR{P:Program}{w:World}{K:PySem.W.Frag}{mg:Str->Option Value}{base:Heap}{x qual:Str}{st:Stmt}{f c:Addr}{fd:FuncData}{N ps:List Str}{k:Nat}{sp:Sp}(F:FunC K x qual st f c fd)(S:FnScope N ps (defScope st))(len:∀vs H Q E,sp vs H Q E->vs.length=ps.length)
 (hbody:∀(A:Around) (outer:List Env) (s:Shared) (H:Hp) (vs:List V) (Q:VK) (E:XK),Room k (A.deeper (envOfC qual (defScope st) s.heap.objs.size f (.ref c)))->sp vs H Q E ->
  ∃t,PSs (cxR P w K mg base N qual (defScope st) f (.ref c) A outer s H E) (defBody st) t/\t { nx:=fun _ H'=>Q .non H',rt:=Q } (start N vs) H):FnOk P w K mg base (CXR P w) (k+1) f fd ps sp:=by
 obtain⟨oc,od,kV,doc,pm,an,ct,osl,rfl,lk,hcd⟩:=F.ex
 exact fn_of lk hcd S len fun A outer s H vs Q E hr hsp=>hbody A outer s H vs Q E hr hsp
end L2
namespace K41
open PySem L2 PySem.Spec PyProof.Rows
seal PE PS PSs PA PT PW PG PGs PI PTs
theorem tab_at{H:Hp}{Pt:Addr}{lp:Pos}{qu:Str}(h:TabSt H Pt lp qu):∃φ,H Pt=some (.ext φ):=by
 rcases h with z | ⟨c',z,_⟩
 · exact⟨_,z⟩
 · exact⟨_,z⟩
theorem tab_ne{H:Hp}{Pt b:Addr}{lp:Pos}{qu:Str}(h:TabSt H Pt lp qu){o:HO}(e:H b=some o)(n:∀φ,o≠.ext φ):b≠Pt:=fun z=>by
 obtain⟨φ,w⟩:=tab_at h
 rw[z,w]at e
 cases e
 exact n _ rfl
theorem ShelfAt.keepT{S Pt:Addr}{H H':Hp}{lp:Pos}{qu:Str}{v:V}{vs:List V}{ps:List Pcl}(t:TabSt H Pt lp qu)(k:KeepT Pt H H')(h:ShelfAt S H v vs ps):ShelfAt S H' v vs ps:=by
 obtain⟨a,dx,fl,d,kvs,e,b1,b2,b3,b4,b5,b6,b7⟩:=h
 exact⟨a,dx,fl,d,kvs,e,k _ _ b1 (tab_ne t b1 (by intro φ z;cases z)),b2,b3,b4,b5,k _ _ b6 (tab_ne t b6 (by intro φ z;cases z)),b7⟩
theorem ChoAt.keepT{Pt:Addr}{H H':Hp}{lp:Pos}{qu:Str}{c:Addr}{ch:Ch}(t:TabSt H Pt lp qu)(k:KeepT Pt H H')(h:ChoAt H c ch):ChoAt H' c ch:=by
 obtain⟨kvs,e,p⟩:=h
 refine⟨kvs,k _ _ e (tab_ne t e (by intro φ z;cases z)),paired_mapP p fun _ _ z=>?_⟩
 obtain⟨a,m,b,c⟩:=z
 exact⟨a,m,b,k _ _ c (tab_ne t c (by intro φ z;cases z))⟩
theorem cho_refs{H:Hp}:∀{zs:List V} {chs:List Ch},Paired (ChoR H) zs chs->∃as:List Addr,zs=as.map V.ref
 | _,_,.nil=>⟨[],rfl⟩
 | _,_,.cons ⟨c,e,_⟩ r=>by
  obtain⟨as,e'⟩:=cho_refs r
  exact⟨c::as,by rw[e,e'];rfl⟩
theorem wid_le{ps:List Pcl}(h4:∀nm,(mksOf ps nm).length<=4):∀(ys:List Str) (n:Int),0<=n->0<=ys.foldl (widP ps) n/\ys.foldl (widP ps) n<=n * 5 ^ ys.length
 | [],n,hn=>⟨hn,by simp⟩
 | y::ys,n,hn=>by
  have e:widP ps n y<=n * 5:=by
   unfold widP
   have:=h4 y
   exact Int.mul_le_mul_of_nonneg_left (by omega) hn
  have e0:0<=widP ps n y:=by
   unfold widP
   exact Int.mul_nonneg hn (by omega)
  obtain⟨h1,h2⟩:=wid_le h4 ys (widP ps n y) e0
  refine⟨h1,Int.le_trans h2 ?_⟩
  rw[List.length_cons,Int.pow_succ]
  have p5:(0:Int)<=5 ^ ys.length:=Int.le_of_lt (Int.pow_pos (by decide))
  calc widP ps n y * 5 ^ ys.length<=(n * 5) * 5 ^ ys.length:=Int.mul_le_mul_of_nonneg_right e p5
   _=n * (5 ^ ys.length * 5):=by rw[Int.mul_comm (5 ^ ys.length) 5,Int.mul_assoc]
theorem wid_log{ps:List Pcl}{ys:List Str}(hN:NamesOf ps ys)(ok:PsOk ps):0<=ys.foldl (widP ps) 1/\(ys.foldl (widP ps) 1).natAbs.log2<200/\(Str.ofString (toString (ys.foldl (widP ps) 1))).length<=1000:=by
 obtain⟨h1,h2⟩:=wid_le ok.four ys 1 (by decide)
 have yl:ys.length<=63:=by
  have:=nodup_len hN.nd fun z hz=>(hN.mem z).mp hz
  rw[List.length_map]at this
  have:=ok.len
  omega
 have h3:(5:Int) ^ ys.length<=5 ^ 63:=by
  have:=Nat.pow_le_pow_right (n:=5) (by decide) yl
  exact_mod_cast this
 have h4:(5:Int) ^ 63<2 ^ 200:=by decide
 have h4':(5:Int) ^ 63<10 ^ 100:=by decide
 generalize ys.foldl (widP ps) 1=n at *
 rw[Int.one_mul]at h2
 have h5:n<2 ^ 200:=by omega
 have h6:n<10 ^ 100:=by omega
 refine⟨h1,?_,Nat.le_trans (toString_length_le h1 (by decide) h6) (by decide)⟩
 by_cases z:n.natAbs=0
 · rw[z];decide
 · refine(Nat.log2_lt z).mpr ?_
   have:((n.natAbs:Nat):Int)<((2 ^ 200:Nat):Int):=by
    rw[Int.natAbs_of_nonneg h1]
    exact_mod_cast h5
   exact_mod_cast this
theorem mem_lookup{ch:Ch}{z:Str}(h:z∈ch.map (·.1)):ch.lookup z≠none:=by
 induction ch with
 | nil=>cases h
 | cons e r ih=>
  rw[List.lookup_cons]
  by_cases y:z=e.1
  · rw[show(z == e.1)=true from beq_iff_eq.mpr y]
    intro w;cases w
  · rw[show(z == e.1)=false from beq_eq_false_iff_ne.mpr y]
    rw[List.map_cons]at h
    rcases List.mem_cons.mp h with w | w
    · exact absurd w y
    · exact ih w
theorem unl_len{ch:Ch}{ys:List Str}(nd:ys.Nodup)(ndc:(ch.map (·.1)).Nodup)(mem:∀z,z∈ys↔z∈([]:Ch).map (·.1)\/z∈ch.map (·.1)):(ys.filter (othF [] ch)).length=ch.length:=by
 have mem':∀z,z∈ys↔z∈ch.map (·.1):=fun z=>(mem z).trans ⟨fun h=>by
  rcases h with h | h
  · cases h
  · exact h,fun h=>.inr h⟩
 have e:ys.filter (othF [] ch)=ys:=List.filter_eq_self.mpr fun z hz=>decide_eq_true fun w=>mem_lookup ((mem' z).mp hz) w.symm
 rw[e,((List.perm_ext_iff_of_nodup nd ndc).mpr mem').length_eq,List.length_map]
noncomputable def lamPos:Pos:=match defBody sBes with
 | [_,_,_,_,.Return (some (.Call _ [.Call _ _ [⟨_,.Lambda _ _ _ p,_⟩] _] _ _)) _]=>p
 | _=>⟨0,0,0,0⟩
noncomputable def lamQual:Str:="best_set.<locals>.<lambda>"
section
variable {P:Program} {w:World} {K:PySem.W.Frag} {mg:Str->Option Value} {base:Heap}
theorem scBes:FnScope ["shelf","now","wishes","width","doing"] ["shelf","now","wishes"] (defScope sBes):=⟨rfl,rfl,rfl,by decide +kernel,rfl,by decide +kernel,by decide +kernel⟩
theorem okBes{f c C S Bc M NP TW Pt fBIn fWid fSts fMet fSou fKUn fMkL:Addr}{fd fdBIn fdWid fdSts fdMet fdSou fdKUn fdMkL:FuncData}{tk:Tok}(F:FunC K "best_set" "best_set" sBes f c fd)(B:Blt mg)(R:Errs K mg M NP TW)(T:TxtB K mg Bc)(MB:Mk K Bc fBIn)(FBIn:Fun K "__init__" "Best.__init__" sBIn fBIn fdBIn)(h400:mg "GREATEST_WIDTH" = some (.int 400 tk))
 (hd:PySem.W.codeHdIn K c Pt=true) (hb:base.BuiltinsAt mg Pt)
 (FWid:Fun K "width_of" "width_of" sWid fWid fdWid) (mWid:mg "width_of" = some (.ref fWid)) (GWid:FnOk P w K mg base CX0 6 fWid fdWid ["shelf"] (spWid S))
 (FSts:Fun K "sets_of" "sets_of" sSts fSts fdSts) (mSts:mg "sets_of" = some (.ref fSts)) (GSts:FnOk P w K mg base CX0 6 fSts fdSts ["shelf"] (spSts S))
 (FMet:Fun K "are_met" "are_met" sMet fMet fdMet) (mMet:mg "are_met" = some (.ref fMet)) (GMet:FnOk P w K mg base CX0 6 fMet fdMet ["chosen","wishes"] spMet)
 (FSou:Fun K "is_sound" "is_sound" sSou fSou fdSou) (mSou:mg "is_sound" = some (.ref fSou)) (GSou:FnOk P w K mg base CX0 6 fSou fdSou ["shelf","chosen"] (spSou C S))
 (FKUn:Fun K "keys_unlike" "keys_unlike" sKUn fKUn fdKUn) (mKUn:mg "keys_unlike" = some (.ref fKUn)) (GKUn:FnOk P w K mg base CX0 4 fKUn fdKUn ["first","second"] spKUn)
 (FMkL:Fun K "makes_listed" "makes_listed" sMkL fMkL fdMkL) (mMkL:mg "makes_listed" = some (.ref fMkL)) (GMkL:FnOk P w K mg base CX0 4 fMkL fdMkL ["shelf","chosen"] (spMkL S)) :
 FnOk P w K mg base (CXR P w) 7 f fd ["shelf","now","wishes"] (spBes C S Bc TW Pt lamPos lamQual):=by
 have bWid:=FWid.binds1 (l:=["shelf"]) (fun _ _ _ _ _ _ _=>rfl)
 have bSts:=FSts.binds1 (l:=["shelf"]) (fun _ _ _ _ _ _ _=>rfl)
 have bMet:=FMet.binds2 (l:=["chosen","wishes"]) (fun _ _ _ _ _ _ _ _=>rfl)
 have bSou:=FSou.binds2 (l:=["shelf","chosen"]) (fun _ _ _ _ _ _ _ _=>rfl)
 have bKUn:=FKUn.binds2 (l:=["first","second"]) (fun _ _ _ _ _ _ _ _=>rfl)
 have bMkL:=FMkL.binds2 (l:=["shelf","chosen"]) (fun _ _ _ _ _ _ _ _=>rfl)
 have bBIn:=FBIn.binds2 (l:=["self","chosen"]) (fun _ _ _ _ _ _ _ _=>rfl)
 have GBIn:FnOk P w K mg base CX0 1 fBIn fdBIn ["self","chosen"] (spBIn Bc):=okBIn FBIn B T
 refine F.okR scBes (fun vs H Q E h=>?_) (fun A outer s H vs Q E hr h=>?_)
 · obtain⟨sv,nw,wl,xs,xw,es,ws,rfl,_⟩:=h
   rfl
 · refine letX ?_
   intro xX dX
   obtain⟨sv,nw,wl,xs,xw,es,ws,rfl,hS,hP,hok,hnw,hwl,hws,l100,hq⟩:=h
   have hr1:Room 5 (A.deeper (envOfC "best_set" (defScope sBes) s.heap.objs.size f (.ref c))).in1:=hr.in1
   have hr2:=hr.mono (j:=2) (by decide)
   refine⟨_,(pss_cons (ps_set (i:=3) scBes.nd rfl (Or.inl rfl) (pe_call GWid hr rfl mWid FWid.kp bWid .nil pass0 (pa_cons (pv 0) pa_nil)))
    (pss_cons (ps_if (pt_cmpR op_gt (pv 3) (pe_glob (v:=.int 400) (by rfl) h400 ⟨_,rfl⟩) (nomark _)) (pss_one (ps_raise R.xc R.mT (pe_join2 pe_str (pe_fmtI (pv 3))))) pss_nil)
    (pss_cons (ps_setComp (i:=4) ["chosen"] ["wishes","shelf"] [2,0] scBes.nd rfl rfl ⟨rfl,by decide +kernel,by decide +kernel,by decide +kernel,by decide +kernel,rfl,rfl,rfl⟩ rfl (pi_list (pe_call GSts hr rfl mSts FSts.kp bSts .nil pass0 (pa_cons (pv 0) pa_nil)))
     (fun _ _ _ _=>(pg_name (i:=0) (show List.Nodup (["chosen","wishes","shelf"]:List Str) by decide +kernel) rfl (Or.inl rfl)))
     (fun _ _ _ _=>pts_one (PW.pt (pw_and (pt_val (pe_call GMet hr rfl mMet FMet.kp bMet .nil pass0 (pa_cons (pv 0) (pa_cons (pv 1) pa_nil)))) (pw_and1 (pt_val (pe_call GSou hr rfl mSou FSou.kp bSou .nil pass0 (pa_cons (pv 2) (pa_cons (pv 0) pa_nil)))))))) (fun _ _ _ _=>(pv 0)))
    (pss_cons (ps_if (pt_cmpR op_eq (pe_callB call_len_seq (by rfl) B.len PySem.boot_len (pa_cons (pv 4) pa_nil)) pe_int (nomark _)) (pss_one ps_never) pss_nil)
    (pss_one (ps_ret (pe_make MB GBIn hr2 rfl T.mgC bBIn .nil pass0 (pa_cons (pe_maxLam (c:=c) (P:=Pt) (x:="chosen") (cap:=["now","shelf"]) (js:=[1,0]) (qual:=lamQual) (pv 4) ⟨rfl,rfl,rfl,by decide +kernel,rfl,by decide +kernel,rfl,rfl,rfl⟩ hr1 rfl rfl hd hb rfl B.max
     (fun _ _ _ _ _ hrm=>pe_tupN (pa_cons (pe_un un_neg (pe_callB (call_lenK K) (by rfl) B.len PySem.boot_len (pa_cons (pe_call GKUn hrm rfl mKUn FKUn.kp bKUn .nil pass0 (pa_cons (pv 1) (pa_cons (pv 0) pa_nil))) pa_nil))) (pa_cons (pe_call GMkL hrm rfl mMkL FMkL.kp bMkL .nil pass0 (pa_cons (pv 2) (pa_cons (pv 0) pa_nil))) pa_nil))) (fun _ _ _ _=>rfl)) pa_nil)))))))),?_⟩
   refine lets5 ?_
   intro dD sS uU5 uU4 uU3 uU2
   refine⟨_,rfl,sv,xs,es.map pclE,rfl,hS,hok.ps,fun H1 ys s1 hN=>?_⟩
   refine⟨_,rfl,_,_,rfl,rfl,_,rfl,?_⟩
   refine ite2 (fun h=>?_) (fun h=>?_)
   · obtain⟨_,w2,w3⟩:=wid_log hN hok.ps
     have l1:(("the width is ":Str)).length<=1000:=by decide
     refine⟨_,rfl,Nat.le_of_lt (small1000 l1),_,rfl,_,rfl,Nat.lt_trans w2 (by decide),_,rfl,?_,Nat.le_refl 1,(hq ys hN).1 (of_decide_eq_true h) H1 s1⟩
     exact Nat.le_trans (Nat.add_le_add l1 w3) (by decide)
   · have h4:¬400<widE es ys:=fun z=>h (decide_eq_true z)
     obtain⟨rfl,tab,q⟩:=(hq ys hN).2 h4
     cases hws
     have hM:=mks_ex hok.ps
     have h8:=few_names hN h4
     have wlen:=ways_len hM ys
     have wlen:((waysP (fun nm=>srtL (mksOf (es.map pclE) nm)) ys).length:Int)=widE es ys:=wlen
     refine⟨_,rfl,sv,xs,es.map pclE,_,rfl,hS.same s1,hok.ps,hM,fun ys' hN'=>?_,fun l zs ys2 H2 n2 s2 hN2 e2 hz=>?_⟩
     · rw[hN'.uniq hN]
       omega
     have e:=hN2.uniq hN
     subst e
     generalize hMe:(fun nm=>srtL (mksOf (es.map pclE) nm))=Mm at *
     have zl:=paired_len hz
     rw[List.length_map]at zl
     have s12:=s1.trans s2
     refine⟨l,rfl,⟨_,SqL.of e2⟩,?_⟩
     intro D hD
     refine comp_listD (σ0:=[none,some (.ref wl),some sv]) hD (SqL.of e2) (fun σ=>∃v,σ = [v,some (.ref wl),some sv]) (fun j zs' _=>zs'=zs.take j) ⟨_,rfl⟩ rfl ?_ ?_
     · rintro j x zs' σ H3 k k' hx ⟨v,rfl⟩ hd3 h3 rfl hk hk'
       obtain⟨ch,hch,cc,rfl,hcc⟩:=paired_get' hz hx
       rw[List.getElem?_map]at hch
       cases hde:(waysP Mm ys2)[j]? with
       | none=>rw[hde]at hch;cases hch
       | some de=>
        rw[hde]at hch
        cases hch
        have hmem:=List.mem_of_getElem? hde
        have s03:=s12.trans h3
        refine⟨_,rfl,_,rfl,cc,wl,_,[],[],rfl,hcc.same h3,s03 _ _ hwl,.nil,Nat.zero_le _,fun H4 s4=>⟨_,rfl,iteT ?_⟩⟩
        have s04:=s03.trans s4
        refine⟨_,rfl,_,rfl,sv,cc,es.map pclE,chOf de,rfl,set_bare hM hN2 h8 (hS.same s04) (hP.same s04) hmem (hcc.same (h3.trans s4)),fun H5 ks s5 ht=>⟨_,rfl,?_⟩⟩
        refine ite2 (fun _=>?_) (fun z=>absurd (decide_eq_true (told_bare ht)) z)
        refine⟨_,rfl,hk _ _ _ ⟨_,rfl⟩ (s4.trans s5) (small1000 ?_) (take_snocP hx).symm⟩
        rw[List.length_take]
        omega
     · intro zs' H3 hd3 h3 hp
       subst hp
       rw[List.take_length]at hd3
       obtain⟨cs,ecs,hcs⟩:=ways_first Mm ys2
       have wl0:0<(waysP Mm ys2).length:=by
        have:=congrArg List.length ecs
        rw[List.length_map,List.length_cons]at this
        omega
       refine⟨_,rfl,D,_,rfl,.inl (SqL.of hd3),rfl,_,rfl,?_⟩
       refine ite2 (fun z=>?_) (fun _=>?_)
       · have z:=of_decide_eq_true z
         injection z with z
         omega
       obtain⟨as,eas⟩:=cho_refs hz
       subst eas
       have s13:=s12.trans h3
       have hz3:Paired (ChoR H3) (as.map V.ref) ((waysP Mm ys2).map chOf):=paired_mapP hz fun _ _ zq471=>zq471.elim fun c zq472=>zq472.elim fun e z=>⟨c,e,z.same h3⟩
       have tab3:TabSt H3 Pt lamPos lamQual:=tab.same s13
       have asl:as.length=(waysP Mm ys2).length:=by rw[←zl,List.length_map]
       have at_:∀(i:Nat) (b:Addr),as[i]? = some b->∃ch,((waysP Mm ys2).map chOf)[i]? = some ch/\ChoAt H3 b ch:=fun i b hi=>by
        have:(as.map V.ref)[i]? = some (V.ref b):=by rw[List.getElem?_map,hi];rfl
        obtain⟨ch,h1,c',e,h2⟩:=paired_get' hz3 this
        cases e
        exact⟨ch,h1,h2⟩
       have h0:∀i,0<i->i<as.length->-((((waysP Mm ys2).map chOf).getD i []).length:Int) < -((((waysP Mm ys2).map chOf).getD 0 []).length:Int):=fun i hi hl=>by
        obtain⟨i,rfl⟩:=Nat.exists_eq_succ_of_ne_zero (Nat.pos_iff_ne_zero.mp hi)
        have hcl:cs.length+1=as.length:=by
         have:=congrArg List.length ecs
         rw[List.length_map,List.length_cons]at this
         omega
        have hlt:i<cs.length:=by omega
        rw[ecs,List.getD_eq_getElem?_getD,List.getD_eq_getElem?_getD,List.getElem?_cons_succ,List.getElem?_eq_getElem hlt,List.getElem?_cons_zero]
        have:=List.length_pos_iff.mpr (hcs cs[i] (List.getElem_mem hlt))
        show -((cs[i]).length:Int) < -((([]:Ch)).length:Int)
        rw[List.length_nil]
        omega
       refine⟨_,rfl,D,as,_,_,_,rfl,tab_ne tab3 hd3 (by intro φ z;cases z),hd3,by omega,keyHd (Nat.lt_of_le_of_lt (Nat.le_add_right _ 64) hr1.units) as.length (fun i=>-((((waysP Mm ys2).map chOf).getD i []).length:Int)) h0,tab3,fun i a ha H4 kp=>?_,fun i a H' ha best kp tab'=>?_⟩
       · obtain⟨ch,hch,hca⟩:=at_ i a ha
         have egd:((waysP Mm ys2).map chOf).getD i []=ch:=by rw[List.getD_eq_getElem?_getD,hch];rfl
         rw[List.getElem?_map]at hch
         cases hde:(waysP Mm ys2)[i]? with
         | none=>rw[hde]at hch;cases hch
         | some de=>
          rw[hde]at hch
          cases hch
          have hmem:=List.mem_of_getElem? hde
          have hset:=set_bare hM hN2 h8 (hS.same s13) (hP.same s13) hmem hca
          have nw4:=kp _ _ (s13 _ _ hnw) (tab_ne tab3 (s13 _ _ hnw) (by intro φ z;cases z))
          have ca4:=hca.keepT tab3 kp
          have sh4:=(hS.same s13).keepT tab3 kp
          have l8:=hset.four
          refine⟨_,rfl,_,rfl,nw,a,[],chOf de,rfl,⟨[],nw4,.nil⟩,ca4,by rw[List.length_nil];omega,fun l5 H5 ys5 n5 s5 e5 _ nd5 mem5=>?_⟩
          refine⟨l5,_,rfl,.inl (SqL.of e5),_,rfl,?_⟩
          refine⟨_,rfl,_,rfl,sv,a,xs,es.map pclE,chOf de,rfl,sh4.same s5,hok.ps.len,ca4.same s5,fun l6 zs6 ys6 H6 n6 s6 _ e6 _=>?_⟩
          refine⟨(by show 2<=sizeLine;decide),fun kt H7 n7 s7 e7=>⟨kt,rfl,(s5.trans s6).trans s7,[.ref l6],?_⟩⟩
          rw[e7]
          dsimp only
          rw[egd,List.length_map,unl_len nd5 hset.nd mem5]
       · have i0:i=0:=Classical.byContradiction fun z=>by
          have:=of_decide_eq_false (best 0 (by omega))
          exact this (h0 i (Nat.pos_iff_ne_zero.mpr z) (List.getElem?_eq_some_iff.mp ha).1)
         subst i0
         obtain⟨ch,hch,kvs,hka,pk⟩:=at_ 0 a ha
         rw[ecs]at hch
         cases hch
         cases pk
         have ha':=kp _ _ hka (tab_ne tab3 hka (by intro φ z;cases z))
         dsimp only[tNil,List.cons_append,List.nil_append]
         intro x dx nx ndx dxx
         have nax:=ne_of_none ha' nx
         have nadx:=ne_of_none ha' ndx
         refine⟨x,dx,a,[],rfl,upd_same,keep_upd (keep_upd ha' nadx) nax,fun d' H5 nd' kp5 ex ed=>⟨rfl,?_⟩⟩
         have s5:Same H' H5:=fun b o e=>kp5 _ _ (keep_upd (keep_upd e (ne_of_none e ndx)) (ne_of_none e nx)) (ne_of_none e nx)
         exact q x dx _ d' H5 (fun b o e n=>s5 _ _ (kp _ _ (s13 _ _ e) n)) (tab'.same s5) ex rfl ed
end
end K41
namespace HT
open PySem PyProof.Rows
section
open PySem.SeqAt
open PySem.AutoSeq1 (wpAny_loadPart')
open PySem.MeetsSeq PySem.MeetsSeq2 PySem.MeetsSeq3
variable {P:Program} {w:World} {A:Around} {s:Shared}
noncomputable def EqP(P:Program)(w:World)(A:Around)(s:Shared)(y x:Value):Prop:=∀(E:Value->Shared->Prop) (Q:Bool->Shared->Prop),Q true s->wpAny (model P w) A (eqBool y x) Q E s
theorem EqP.of{y x:Value}(h:EqAt A s y x true):EqP P w A s y x:=fun E Q q=>h P w E Q q
theorem EqP.refs{l b:Addr}(ne:l≠b)(h:∀(E Q:Value->Shared->Prop),Q (.bool true) s->wpAny (model P w) A (richCompare .Eq (.ref l) (.ref b)) Q E s):EqP P w A s (.ref l) (.ref b):=fun E Q q=>by
 unfold eqBool
 refine wpAny_holding (wpAny_ite_split (fun e=>absurd (by have z:=eq_of_beq e;injection z) ne) fun _=>?_)
 exact wpAny_bind (h E _ (wpAny_truthy_bool q))
theorem ne_loopP(l b:Addr)(it it2:Array Value)(n n2:Nat)(dd dd2:Option Addr)(sl sl2:Array (Option Value))(hz:it.size=it2.size)(k:Nat) :
 ∀i:Nat,it.size - i=k->MeetsIn P w (Builtin.«list.__eq__.loop» ⟨[.ref l,.ref b,rawInt i,rawInt 3],[]⟩)
  (fun A R s=>s.heap.get? l=some ⟨.type "list",dd,.seq it n,sl⟩/\s.heap.get? b=some ⟨.type "list",dd2,.seq it2 n2,sl2⟩/\(∀j (h1:j<it.size) (h2:j<it2.size),EqP P w A.in1 s it[j] it2[j])/\R (.ok (.ret (.bool false))) s):=by
 induction k with
 | zero=>
  intro i hk A R s h
  obtain⟨hp,g,d,tk,os⟩:=s;obtain⟨g1,g2,he,h⟩:=h
  wp_walk using wpAny_loadPart' g1,wpAny_loadPart' g2
  have e1:it[((i:Nat):Int).toNat]? = none:=by simp;omega
  have e2:it2[((i:Nat):Int).toNat]? = none:=by simp;omega
  rw[e1,e2]
  wp_walk using wpAny_loadPart' g1,wpAny_loadPart' g2
  show R (.ok (.ret (.bool (it.size != it2.size)))) _
  rw[hz]
  simpa using h
 | succ k ih=>
  intro i hk A R s h
  obtain⟨hp,g,d,tk,os⟩:=s;obtain⟨g1,g2,he,h⟩:=h
  wp_walk using wpAny_loadPart' g1,wpAny_loadPart' g2
  have l1:i<it.size:=by omega
  have l2:i<it2.size:=by omega
  have e1:it[((i:Nat):Int).toNat]? = some it[i]:=by simp[l1]
  have e2:it2[((i:Nat):Int).toNat]? = some it2[i]:=by simp[l2]
  have e3:((i:Int)+1)=((i+1:Nat):Int):=by push_cast;rfl
  rw[e1,e2]
  refine wpAny_bind (he i l1 l2 _ _ ?_)
  wp_walk
  rw[e3]
  exact⟨plainId_quiet plain_eq_loop _,codeAny_builtin entry_eq_loop (by
   rw[Around.under_plainId plain_eq_loop _]
   exact ih (i+1) (by omega) A R _ ⟨g1,g2,he,h⟩)⟩
theorem list_neP(l b:Addr)(it it2:Array Value)(n n2:Nat)(dd dd2:Option Addr)(sl sl2:Array (Option Value))(hz:it.size=it2.size) :
 MeetsIn P w (Builtin.«list.__ne__» ⟨[.ref l,.ref b],[]⟩)
  (fun A R s=>s.heap.get? l=some ⟨.type "list",dd,.seq it n,sl⟩/\s.heap.get? b=some ⟨.type "list",dd2,.seq it2 n2,sl2⟩/\(∀j (h1:j<it.size) (h2:j<it2.size),EqP P w A.in1 s it[j] it2[j])/\R (.ok (.ret (.bool false))) s):=by
 intro A R s h
 obtain⟨hp,g,d,tk,os⟩:=s;obtain⟨g1,g2,he,h⟩:=h
 have f3:=AutoSeq1.sub_list_list
 have nz:¬(it.size != it2.size)=true:=by simp[hz]
 wp_walk using wpAny_loadPart' g1,wpAny_loadPart' g2
 exact⟨plainId_quiet plain_eq_loop _,codeAny_builtin entry_eq_loop (by
  rw[Around.under_plainId plain_eq_loop _]
  exact ne_loopP l b it it2 n n2 dd dd2 sl sl2 hz _ 0 rfl A R _ ⟨g1,g2,he,h⟩)⟩
theorem ne_listsP{l b:Addr}{it it2:Array Value}{Q E:Value->Shared->Prop}(h1:s.heap.IsList l it)(h2:s.heap.IsList b it2)(hz:it.size=it2.size)(hu:A.units<cLine)
 (he:∀j (h1:j<it.size) (h2:j<it2.size),EqP P w A.in1 s it[j] it2[j]) (q:Q (.bool false) s):wpAny (model P w) A (compareOp .NotEq (.ref l) (.ref b)) Q E s:=by
 obtain⟨⟨cls,dd,data,sl⟩,ho,hc,n,hd⟩:=id h1
 obtain⟨⟨cls2,dd2,data2,sl2⟩,ho2,hc2,n2,hd2⟩:=id h2
 simp only at hc hd hc2 hd2
 subst hc hd hc2 hd2
 show wpAny (model P w) A (richCompare .NotEq (.ref l) (.ref b)) Q E s
 refine wpAny_richCompare_same_room (op:=.NotEq) ⟨_,ho,rfl⟩ ⟨_,ho2,rfl⟩ PySem.F.slot_list_ne (call_meetsIn PySem.F.slot_list_ne ⟨_,ho,rfl⟩ PySem.F.entry_list_ne (PySem.F.args_list_ne_2 _ _) (list_neP l b it it2 n n2 dd dd2 sl sl2 hz) ?_) hu
 exact⟨ho,ho2,he,show Value.bool false≠Value.notImplemented/\Q (.bool false) s from ⟨(fun x=>nomatch x),q⟩⟩
end
end HT
namespace L2
open PySem PySem.Spec PyProof.Rows
open PySem.W (KeqHits)
section
variable {X:Cx}
theorem hits_refs{A:Around}{s:Shared}{kws:List (Key×V)}{ws:List (Key×Value)}(nd:(kws.map (·.1)).Nodup)(rw':KV kws ws):∀{ka:List (Key×V)} {va:List (Key×Value)},KV ka va->(∀p∈ka,p∈kws/\∃r,p.2 = .ref r)->KeqHits A s ws va true
 | _,_,.nil,_=>.nil
 | _,_,.cons (a:=p) (b:=pv) rv tv,hm=>by
  obtain⟨hp,r,er⟩:=hm p List.mem_cons_self
  have hq:=valV_mem nd (k:=p.1) (v:=p.2) hp
  have rel:=rw'.val p.1
  rw[hq]at rel
  cases hy:valueAt ws p.1 with
  | none=>rw[hy]at rel;exact rel.elim
  | some y=>
   rw[hy]at rel
   have rel:RelV p.2 y:=rel
   obtain⟨pk,pvv⟩:=pv
   have r2:RelV p.2 pvv:=rv.2
   have hk:p.1=pk:=rv.1
   rw[er]at rel r2
   have e:y=pvv:=by cases rel;cases r2;rfl
   subst hk e
   exact .hit (e:=true) (b:=true) hy (SeqAt.EqAt.same _) (hits_refs nd rw' tv fun q hq=>hm q (List.mem_cons_of_mem _ hq))
theorem op_neHC(hu:X.A.units+65<cLine):OpR X (compareOp .NotEq) (fun x y H Q=>∃(p q a1 a2 l1 l2:Addr) (kvs:List (Key×V)) (ts:List Addr),x = .ref p/\y = .ref q/\H p=some (.lst [.ref a1,.ref l1])/\H q=some (.lst [.ref a2,.ref l2])/\a1≠a2/\l1≠l2/\H a1=some (.dK kvs)/\H a2=some (.dK kvs)/\(kvs.map (·.1)).Nodup/\(∀p∈kvs,∃r,p.2 = .ref r) /\
 H l1=some (.lst (ts.map V.ref))/\H l2=some (.lst (ts.map V.ref))/\Q (.bl false) H):=by
 intro pins s σ H x y v u Q I rx ry h
 obtain⟨p,q,a1,a2,l1,l2,kvs,ts,rfl,rfl,hp,hq,na,nl,h1,h2,nd,hr,k1,k2,q'⟩:=h
 cases rx
 cases ry
 obtain⟨_,hd,vs,rel,dd⟩:=dk_of I.hok h1
 obtain⟨_,hd',ws,rel',dd'⟩:=dk_of I.hok h2
 obtain⟨i1,v1,p1,_⟩:=I.list (SqL.of (K:=X.K) hp)
 obtain⟨i2,v2,p2,_⟩:=I.list (SqL.of (K:=X.K) hq)
 obtain⟨j1,w1,m1,_⟩:=I.list (SqL.of (K:=X.K) k1)
 obtain⟨j2,w2,m2,_⟩:=I.list (SqL.of (K:=X.K) k2)
 have e1:i1 = [.ref a1,.ref l1]:=vals_refs (Ds:=[a1,l1]) v1
 have e2:i2 = [.ref a2,.ref l2]:=vals_refs (Ds:=[a2,l2]) v2
 have e3:=vals_refs w1
 have e4:=vals_refs w2
 subst e1 e2 e3 e4
 have isl:∀{a:Addr} {it:Array Value},PlainL s.heap a it->s.heap.IsList a it:=fun zq473=>zq473.elim fun o zq474=>zq474.elim fun n zq475=>zq475.elim fun e zq476=>zq476.elim fun c zq477=>zq477.elim fun _ d=>⟨o,e,c,n,d⟩
 refine HT.ne_listsP (isl p1) (isl p2) rfl (by omega) (fun j h1 h2=>?_) ⟨.bl false,H,I,rfl,q'⟩
 have u1:X.A.in1.units<cLine:=by show X.A.units+1<cLine;omega
 match j,h1,h2 with
 | 0,_,_=>
  refine HT.EqP.refs na fun E Q q=>?_
  refine PySem.W.keq_eq (knd:=mixKind X.prog X.w) (r:=true) hd hd' dd dd' u1 (fun _=>hits_refs nd rel' rel fun p hp=>⟨hp,hr p hp⟩) ?_
  have e:vs.length=ws.length:=by rw[←rel.length,←rel'.length]
  rw[e,beq_self_eq_true]
  exact q
 | 1,_,_=>
  refine HT.EqP.of (SeqAt.EqAt.of_refs nl ?_)
  have z:=SeqAt.RcAt.lists (A:=X.A.in1) (s:=s) (e:=fun _=>true) (isl m1) (isl m2) rfl u1 fun j _ _=>SeqAt.EqAt.same _
  have t:((List.range ((ts.map Value.ref).toArray.size)).all fun _=>true)=true:=List.all_eq_true.mpr fun _ _=>rfl
  rw[t]at z
  exact z
end
end L2
namespace L2
open PySem PySem.Spec PyProof.Rows
structure IsI(K:PySem.W.Frag)(C:Addr):Prop where
 ha:PySem.W.findIn K (.ref C) "__class__" = some (some (.builtin "object.__class__"))
 hn:PySem.W.specialIn K (.builtin "object.__class__") "__get__" = some (some (.builtin "getset_descriptor.__get__"))
 htk:PySem.W.takesIn K (.builtin "object.__class__")=some true
 hm:PySem.W.mroIn K C (.type "object")=some true
section
variable {X:Cx}
theorem call_isiI:CallR X (.builtin "isinstance") (fun xs H Q=>∃a C D dx fs b,xs = [.ref a,.ref D]/\H a=some (.ins C dx fs)/\Cls X.K C/\IsI X.K C/\PySem.W.kitOne X.K (.ref C) (.ref D)=some b/\Q (.bl b) H):=by
 intro pins s σ H xs us Q I r h
 obtain⟨a,C,D,dx,fs,b,rfl,ea,cl,i,e,q⟩:=h
 obtain⟨u,u2,rfl,r1,r2⟩:=vals2 r
 cases (show u2=Value.ref D from r2)
 exact isinst_ok I r1 (TyOf.ins ea cl i.ha i.hn i.htk i.hm) e fun tk=>⟨.bl b,H,I.tok tk,rfl,q⟩
end
end L2
namespace L2
open PySem PySem.Spec PyProof.Rows
section
variable {X:Cx}
noncomputable def rEqL0(K:PySem.W.Frag):R2:=fun x y H Q=>∃a b xs,x = .ref a/\y = .ref b/\SqL K H a xs/\SqL K H b []/\Q (.bl (decide (xs.length=0))) H
theorem op_eqL0(hu:X.A.units<cLine):OpR X (compareOp .Eq) (rEqL0 X.K):=by
 intro pins s σ H x y v u Q I rx ry h
 obtain⟨a,b,xs,rfl,rfl,ha,hb,q⟩:=h
 cases rx
 cases ry
 obtain⟨its,rv,pl,_⟩:=I.list ha
 obtain⟨its2,rv2,pl2,_⟩:=I.list hb
 cases rv2
 have hl:=Paired.length rv
 by_cases h0:xs.length=0
 · rw[decide_eq_true h0]at q
   have hz:its.toArray.size=([]:List Value).toArray.size:=by show its.length=0;omega
   refine SeqAt.eq_listAt (e:=fun _=>true) pl.isList pl2.isList hz hu (fun j h1 h2=>absurd h2 (by simp)) ?_
   have:(List.range its.toArray.size).all (fun _=>true)=true:=by simp
   rw[this]
   exact⟨.bl true,H,I,rfl,q⟩
 · rw[decide_eq_false h0]at q
   refine SeqAt.eq_list_lengthsAt pl.isList pl2.isList (by show(its.length != 0)=true;exact bne_iff_ne.mpr (by omega)) hu ⟨.bl false,H,I,rfl,q⟩
end
end L2
namespace K41
open PySem L2 PySem.Spec PyProof.Rows
seal PE PS PSs PA PT PW PG PGs PI PTs
theorem WshH.mut{H:Hp}{D:Addr}{zs zs':List V}(hD:H D=some (.lst zs)){v:V}{w:Wsh}(h:WshH H v w):WshH (upd H D (.lst zs')) v w:=by
 obtain⟨t,e,h⟩:=h
 refine⟨t,e,?_⟩
 obtain⟨nm,io⟩:=w
 cases io with
 | none=>exact keep_upd h (ne_of h hD (by intro z;cases z))
 | some c=>
  obtain⟨l,b,h1,h2,h3⟩:=h
  refine⟨l,b,keep_upd h1 (ne_of h1 hD (by intro z;cases z)),keep_upd h2 (ne_of h2 hD (by intro z;cases z)),?_⟩
  obtain⟨c1,c2⟩:=c
  cases c2 with
  | none=>exact h3
  | some m=>
   obtain⟨u,e1,e2⟩:=h3
   exact⟨u,e1,keep_upd e2 (ne_of e2 hD (by intro z;cases z))⟩
theorem wsh_refs{H:Hp}:∀{zs:List V} {ws:List Wsh},Paired (WshH H) zs ws->∃ts:List Addr,zs=ts.map V.ref
 | _,_,.nil=>⟨[],rfl⟩
 | _,_,.cons ⟨c,e,_⟩ r=>by
  obtain⟨as,e'⟩:=wsh_refs r
  exact⟨c::as,by rw[e,e'];rfl⟩
theorem cho_keys{H:Hp}{kvs:List (Key×V)}{ch:Ch}(h:Paired (ChV H) kvs ch)(nd:(ch.map (·.1)).Nodup):(kvs.map (·.1)).Nodup/\∀p∈kvs,∃r,p.2 = .ref r:=by
 have e:=paired_keys (key:=fun e:Str×List Int=>(Sum.inr e.1:Key)) (fun _ _ (z:ChV H _ _)=>z.1) h
 refine⟨?_,fun p hp=>?_⟩
 · rw[e]
   have:ch.map (fun e:Str×List Int=>(Sum.inr e.1:Key))=(ch.map (·.1)).map Sum.inr:=by rw[List.map_map];rfl
   rw[this]
   exact List.Pairwise.map _ (fun a b h z=>h (Sum.inr.inj z)) nd
 · obtain⟨i,hi⟩:=List.getElem?_of_mem hp
   obtain⟨e,_,_,m,e2,_⟩:=paired_get' h hi
   exact⟨m,e2⟩
noncomputable def leftW(ch:Ch)(ws:List Wsh):List Wsh:=ws.filter fun w=>!doneB w (ch.lookup w.nm)
theorem left_met(ch:Ch)(ws:List Wsh):metB ch ws=decide ((leftW ch ws).length=0):=by
 unfold metB leftW
 induction ws with
 | nil=>rfl
 | cons w r ih=>
  rw[List.all_cons,List.filter_cons]
  cases h:doneB w (ch.lookup w.nm) with
  | true=>rw[Bool.true_and,ih];rfl
  | false=>rfl
section
variable {P:Program} {w:World} {K:PySem.W.Frag} {mg:Str->Option Value} {base:Heap}
noncomputable def spLaw(K:PySem.W.Frag)(Pt:Addr):Sp:=fun vs H Q _=>∃(a:Addr) (ns:List Int),vs = [.ref a]/\SqL K H a (ns.map V.int)/\ns.length<=63/\TabSt H Pt lamPos lamQual/\∀H',TabSt H' Pt lamPos lamQual->Q (.bl true) H'
theorem scLaw:FnScope ["_law_script","_law_parcels_here","_law_names_here","_law_cell","_law_wishes","_law_chosen","_law_k","_law_handed","_law_found","_law_due","_law_width_here","_law_wide_here","_law_shelf_here","_law_told"] ["_law_script"] (defScope sLaw):=⟨rfl,rfl,rfl,by decide +kernel,rfl,by decide +kernel,by decide +kernel⟩
theorem okLaw{f C S Bc TW Pt fPcs fNam fCel fWis fDra fMet fLMe fWid fShf fLWd fLWi fToo fBes:Addr}{fd fdPcs fdNam fdCel fdWis fdDra fdMet fdLMe fdWid fdShf fdLWd fdLWi fdToo fdBes:FuncData}(F:Fun K "law" "law" sLaw f fd)(B:Blt mg)(T:TxtB K mg Bc)(IB:IsI K Bc)(kB:PySem.W.kitOne K (.ref Bc) (.ref Bc)=some true)
 (FPcs:Fun K "_law_parcels" "_law_parcels" sPcs fPcs fdPcs) (mPcs:mg "_law_parcels" = some (.ref fPcs)) (GPcs:FnOk P w K mg base CX0 8 fPcs fdPcs ["_law_script"] (spPcs K))
 (FNam:Fun K "_law_names" "_law_names" sNam fNam fdNam) (mNam:mg "_law_names" = some (.ref fNam)) (GNam:FnOk P w K mg base CX0 8 fNam fdNam ["_law_cell"] spNam)
 (FCel:Fun K "_law_cell_at" "_law_cell_at" sCel fCel fdCel) (mCel:mg "_law_cell_at" = some (.ref fCel)) (GCel:FnOk P w K mg base CX0 8 fCel fdCel ["_law_script","_law_k"] (spCel K))
 (FWis:Fun K "_law_wish" "_law_wish" sWis fWis fdWis) (mWis:mg "_law_wish" = some (.ref fWis)) (GWis:FnOk P w K mg base CX0 8 fWis fdWis ["_law_names_here","_law_cell","_law_k"] spWis)
 (FDra:Fun K "_law_draw" "_law_draw" sDra fDra fdDra) (mDra:mg "_law_draw" = some (.ref fDra)) (GDra:FnOk P w K mg base CX0 8 fDra fdDra ["_law_cell","_law_k"] spDra)
 (FMet:Fun K "are_met" "are_met" sMet fMet fdMet) (mMet:mg "are_met" = some (.ref fMet)) (GMet:FnOk P w K mg base CX0 8 fMet fdMet ["chosen","wishes"] spMet)
 (FLMe:Fun K "_law_met" "_law_met" sLMe fLMe fdLMe) (mLMe:mg "_law_met" = some (.ref fLMe)) (GLMe:FnOk P w K mg base CX0 8 fLMe fdLMe ["_law_chosen","_law_wish_here"] spLMe)
 (FWid:Fun K "width_of" "width_of" sWid fWid fdWid) (mWid:mg "width_of" = some (.ref fWid)) (GWid:FnOk P w K mg base CX0 8 fWid fdWid ["shelf"] (spWid S))
 (FShf:Fun K "_law_shelf" "_law_shelf" sShf fShf fdShf) (mShf:mg "_law_shelf" = some (.ref fShf)) (GShf:FnOk P w K mg base CX0 8 fShf fdShf ["_law_parcels_here"] (spShf C S))
 (FLWd:Fun K "_law_width" "_law_width" sLWd fLWd fdLWd) (mLWd:mg "_law_width" = some (.ref fLWd)) (GLWd:FnOk P w K mg base CX0 8 fLWd fdLWd ["_law_parcels_here"] spLWd)
 (FLWi:Fun K "_law_wide" "_law_wide" sLWi fLWi fdLWi) (mLWi:mg "_law_wide" = some (.ref fLWi)) (GLWi:FnOk P w K mg base CX0 8 fLWi fdLWi ["_law_cell"] spLWi)
 (FToo:Fun K "_law_too_wide" "_law_too_wide" sToo fToo fdToo) (mToo:mg "_law_too_wide" = some (.ref fToo)) (GToo:FnOk P w K mg base CX0 8 fToo fdToo ["_law_shelf_here","_law_wishes"] (spToo C S))
 (FBes:Fun K "best_set" "best_set" sBes fBes fdBes) (mBes:mg "best_set" = some (.ref fBes)) (GBes:FnOk P w K mg base (CXR P w) 8 fBes fdBes ["shelf","now","wishes"] (spBes C S Bc TW Pt lamPos lamQual)) :
 FnOk P w K mg base CX0 9 f fd ["_law_script"] (spLaw K Pt):=by
 have bPcs:=FPcs.binds1 (l:=["_law_script"]) (fun _ _ _ _ _ _ _=>rfl)
 have bNam:=FNam.binds1 (l:=["_law_cell"]) (fun _ _ _ _ _ _ _=>rfl)
 have bCel:=FCel.binds2 (l:=["_law_script","_law_k"]) (fun _ _ _ _ _ _ _ _=>rfl)
 have bWis:=FWis.binds3 (l:=["_law_names_here","_law_cell","_law_k"]) (fun _ _ _ _ _ _ _ _ _=>rfl)
 have bDra:=FDra.binds2 (l:=["_law_cell","_law_k"]) (fun _ _ _ _ _ _ _ _=>rfl)
 have bMet:=FMet.binds2 (l:=["chosen","wishes"]) (fun _ _ _ _ _ _ _ _=>rfl)
 have bLMe:=FLMe.binds2 (l:=["_law_chosen","_law_wish_here"]) (fun _ _ _ _ _ _ _ _=>rfl)
 have bWid:=FWid.binds1 (l:=["shelf"]) (fun _ _ _ _ _ _ _=>rfl)
 have bShf:=FShf.binds1 (l:=["_law_parcels_here"]) (fun _ _ _ _ _ _ _=>rfl)
 have bLWd:=FLWd.binds1 (l:=["_law_parcels_here"]) (fun _ _ _ _ _ _ _=>rfl)
 have bLWi:=FLWi.binds1 (l:=["_law_cell"]) (fun _ _ _ _ _ _ _=>rfl)
 have bToo:=FToo.binds2 (l:=["_law_shelf_here","_law_wishes"]) (fun _ _ _ _ _ _ _ _=>rfl)
 have bBes:=FBes.binds3 (l:=["shelf","now","wishes"]) (fun _ _ _ _ _ _ _ _ _=>rfl)
 refine F.ok scLaw (fun vs H Q E h=>?_) (fun cdv A outer s H vs Q E hr h=>?_)
 · obtain⟨a,is,rfl,_⟩:=h
   rfl
 · refine letX ?_
   intro xX dX
   obtain⟨a,is,rfl,hA,h63,tab,q⟩:=h
   have hu:=hr.units
   have hu65:(A.deeper (envOfC "law" (defScope sLaw) s.heap.objs.size f cdv)).units+65<cLine:=by have:=hr.un;omega
   have hu0:(A.deeper (envOfC "law" (defScope sLaw) s.heap.objs.size f cdv)).units<cLine:=by omega
   have hk:∀(H':Hp) kv f,ChV H' kv f->kv.1=Sum.inr f.1:=fun _ kv f z=>z.1
   refine⟨_,(pss_cons (ps_set (i:=1) scLaw.nd rfl (Or.inl rfl) (pe_call GPcs hr rfl mPcs FPcs.kp bPcs .nil pass0 (pa_cons (pv 0) pa_nil)))
    (pss_cons (ps_set (i:=2) scLaw.nd rfl (Or.inr rfl) (pe_call GNam hr rfl mNam FNam.kp bNam .nil pass0 (pa_cons (pe_call GCel hr rfl mCel FCel.kp bCel .nil pass0 (pa_cons (pv 0) (pa_cons pe_int pa_nil))) pa_nil)))
    (pss_cons (ps_set (i:=3) scLaw.nd rfl (Or.inr rfl) (pe_call GCel hr rfl mCel FCel.kp bCel .nil pass0 (pa_cons (pv 0) (pa_cons pe_int pa_nil))))
    (pss_cons (ps_setComp (i:=4) ["_law_k"] ["_law_names_here","_law_cell"] [2,3] scLaw.nd rfl rfl ⟨rfl,by decide +kernel,by decide +kernel,by decide +kernel,by decide +kernel,rfl,rfl,rfl⟩ rfl (pi_range1 rfl B.range (pa_cons (pe_op op_mod (pe_call GCel hr rfl mCel FCel.kp bCel .nil pass0 (pa_cons (pv 0) (pa_cons pe_int pa_nil))) pe_int) pa_nil)) (fun _ _ _ _=>(pg_name (i:=0) (show List.Nodup (["_law_k","_law_names_here","_law_cell"]:List Str) by decide +kernel) rfl (Or.inl rfl))) (fun _ _ _ _=>pts_nil) (fun _ _ _ _=>(pe_call GWis hr rfl mWis FWis.kp bWis .nil pass0 (pa_cons (pv 1) (pa_cons (pv 2) (pa_cons (pe_op op_mul pe_int (pv 0)) pa_nil))))))
    (pss_cons (ps_set (i:=5) scLaw.nd rfl (Or.inr rfl) pe_dnewN)
    (pss_cutE (ps_for PassesOwn.never rfl (pi_range1 rfl B.range (pa_cons (pe_callB call_len_seq (by rfl) B.len PySem.boot_len (pa_cons (pv 1) pa_nil)) pa_nil)) (pg_name (i:=6) scLaw.nd rfl (Or.inl rfl))
    (pss_one (ps_if (pt_cmpR op_eq (pe_op op_mod (pe_call GDra hr rfl mDra FDra.kp bDra .nil pass0 (pa_cons (pv 3) (pa_cons (pe_op op_add pe_int (pv 6)) pa_nil))) pe_int) pe_int (nomark _))
     (pss_one (ps_dput hu (pv 5) (pe_ix ix_tup (pe_ix ix_list (pv 1) (pv 6) (fun _ _=>rfl)) pe_int (fun _ _=>rfl)) (pe_ix ix_tup (pe_ix ix_list (pv 1) (pv 6) (fun _ _=>rfl)) pe_int (fun _ _=>rfl)) rfl)) pss_nil)))
    (pss_cons (ps_set (i:=7) scLaw.nd rfl (Or.inl rfl) (pe_lstN (pa_cons (pe_callTy call_dictN (by rfl) B.dict PyProof.Rows.boot_dict (pa_cons (pv 5) pa_nil)) (pa_cons (pe_callTy call_listN (by rfl) B.list PyProof.Rows.boot_list (pa_cons (pv 4) pa_nil)) pa_nil))))
    (pss_cons (ps_set (i:=8) scLaw.nd rfl (Or.inl rfl) (pe_call GMet hr rfl mMet FMet.kp bMet .nil pass0 (pa_cons (pe_ix ix_list (pv 7) pe_int (fun _ _=>rfl)) (pa_cons (pe_ix ix_list (pv 7) pe_int (fun _ _=>rfl)) pa_nil))))
    (pss_cons (ps_set (i:=9) scLaw.nd rfl (Or.inl rfl) (pe_cmpR (op_eqL0 hu0) (pe_compF ["_law_wish_here"] ["_law_chosen"] [5] ⟨rfl,by decide +kernel,by decide +kernel,by decide +kernel,by decide +kernel,rfl,rfl,rfl⟩ rfl (pi_list (pv 4)) (fun _ _ _ _=>(pg_name (i:=0) (show List.Nodup (["_law_wish_here","_law_chosen"]:List Str) by decide +kernel) rfl (Or.inl rfl))) (fun _ _ _ _=>pts_one (pt_not (pt_val (pe_call GLMe hr rfl mLMe FLMe.kp bLMe .nil pass0 (pa_cons (pv 1) (pa_cons (pv 0) pa_nil)))))) (fun _ _ _ _=>(pv 0))) (pe_lstN pa_nil) (nomark _)))
    (pss_cons (ps_if (PW.pt (pw_or (pt_not (pt_val (pe_callB call_isi (by rfl) B.isinstance PyProof.Rows.boot_isinstance (pa_cons (pv 8) (pa_cons (pe_bltn (v:=.ty "bool") rfl B.bool PyProof.Rows.boot_bool rfl) pa_nil))))) (pw_or (pt_cmpR op_ne (pv 8) (pv 9) (nomark _)) (pw_or1 (pt_cmpR (op_neHC hu65) (pv 7) (pe_lstN (pa_cons (pv 5) (pa_cons (pv 4) pa_nil))) (nomark _))))))
    (pss_one (ps_ret pe_bl)) pss_nil)
    (pss_cons (ps_set (i:=10) scLaw.nd rfl (Or.inl rfl) (pe_call GWid hr rfl mWid FWid.kp bWid .nil pass0 (pa_cons (pe_call GShf hr rfl mShf FShf.kp bShf .nil pass0 (pa_cons (pv 1) pa_nil)) pa_nil)))
    (pss_cons (ps_if (PW.pt (pw_or (pt_not (pt_val (pe_callB call_isi (by rfl) B.isinstance PyProof.Rows.boot_isinstance (pa_cons (pv 10) (pa_cons (pe_bltn (v:=.ty "int") rfl B.int PyProof.Rows.boot_int rfl) pa_nil))))) (pw_or (pt_val (pe_callB call_isi (by rfl) B.isinstance PyProof.Rows.boot_isinstance (pa_cons (pv 10) (pa_cons (pe_bltn (v:=.ty "bool") rfl B.bool PyProof.Rows.boot_bool rfl) pa_nil)))) (pw_or1 (pt_cmpR op_ne (pv 10) (pe_call GLWd hr rfl mLWd FLWd.kp bLWd .nil pass0 (pa_cons (pv 1) pa_nil)) (nomark _))))))
    (pss_one (ps_ret pe_bl)) pss_nil)
    (pss_cons (ps_set (i:=11) scLaw.nd rfl (Or.inl rfl) (pe_call GLWi hr rfl mLWi FLWi.kp bLWi .nil pass0 (pa_cons (pe_op op_fdiv (pe_call GCel hr rfl mCel FCel.kp bCel .nil pass0 (pa_cons (pv 0) (pa_cons pe_int pa_nil))) pe_int) pa_nil)))
    (pss_cons (ps_set (i:=12) scLaw.nd rfl (Or.inl rfl) (pe_call GShf hr rfl mShf FShf.kp bShf .nil pass0 (pa_cons (pv 11) pa_nil)))
    (pss_cons (ps_if (pt_cmpR op_ne (pe_call GWid hr rfl mWid FWid.kp bWid .nil pass0 (pa_cons (pv 12) pa_nil)) (pe_call GLWd hr rfl mLWd FLWd.kp bLWd .nil pass0 (pa_cons (pv 11) pa_nil)) (nomark _))
    (pss_one (ps_ret pe_bl)) pss_nil)
    (pss_cons (ps_if (pt_cmpR op_gt (pe_call GLWd hr rfl mLWd FLWd.kp bLWd .nil pass0 (pa_cons (pv 11) pa_nil)) pe_int (nomark _))
    (pss_one (ps_ret (pe_and (pe_call GToo hr rfl mToo FToo.kp bToo .nil pass0 (pa_cons (pv 12) (pa_cons (pv 4) pa_nil))) (pe_one (pe_call GToo hr rfl mToo FToo.kp bToo .nil pass0 (pa_cons (pv 12) (pa_cons (pe_lstN (pa_cons (pe_tupN (pa_cons pe_str (pa_cons pe_str (pa_cons (pe_tupN pa_nil) (pa_cons pe_non pa_nil))))) pa_nil)) pa_nil))))))) pss_nil)
    (pss_cons (ps_set (i:=13) scLaw.nd rfl (Or.inl rfl) (pe_call GBes hr rfl mBes FBes.kp bBes .nil passN (pa_cons (pv 12) (pa_cons pe_dnewN (pa_cons (pe_lstN pa_nil) pa_nil)))))
    (pss_one (ps_ret (pe_and (pe_callB call_isiI (by rfl) B.isinstance PyProof.Rows.boot_isinstance (pa_cons (pv 13) (pa_cons (pe_glob (v:=.ref Bc) rfl T.mgC rfl) pa_nil))) (pe_one (pe_cmpR (op_eqM hu65) (pe_fld (pv 13) rfl) pe_dnewN (nomark _))))))))))))))))))))))),?_⟩
   refine lets6 ?_
   intro dD sS uU6 uU5 uU4 uU3 uU2
   refine⟨_,rfl,a,is,rfl,hA,fun pl H1 zs es n1 s1 e1 pz hes=>?_⟩
   refine⟨_,rfl,a,0,is,rfl,by omega,s1.seq hA,fun c0=>⟨_,rfl,fun nl H2 xs n2 s2 e2 hnm=>?_⟩⟩
   have s12:=s1.trans s2
   refine⟨_,rfl,a,1,is,rfl,by omega,s12.seq hA,fun c1=>?_⟩
   refine⟨_,rfl,a,2,is,rfl,by omega,s12.seq hA,fun c2=>?_⟩
   refine⟨_,_,rfl,rfl,(by show(0:Int)<13;decide),c2 % 13,rfl,by omega,by omega,?_⟩
   refine comp_range0 (σ0:=[none,some (.ref nl),some (.int c1)]) (fun σ=>∃v,σ = [v,some (.ref nl),some (.int c1)]) (fun i ys H3=>∃ws:List Wsh,Paired (WshH H3) ys ws/\ws.length=i) ⟨_,rfl⟩ (fun _ _=>⟨[],.nil,rfl⟩) ?_ ?_
   · intro D i ys σ H3 k hD hi hQ1 hd hs hQ2 hk'
     refine letG ?_
     intro tT
     obtain⟨v,rfl⟩:=hQ1
     obtain⟨ws,pw,wl⟩:=hQ2
     refine⟨_,rfl,_,rfl,_,rfl,_,_,rfl,rfl,.inl ⟨by decide,by omega⟩,?_⟩
     refine⟨nl,c1,_,xs,rfl,by omega,by omega,hs _ _ e2,hnm,fun v4 H4 w4 s4 hw=>?_⟩
     have d4:=s4 _ _ hd
     have yl:=paired_len pw
     refine hk' _ _ _ ⟨_,rfl⟩ s4 (small1000 (by omega)) ⟨ws++[w4],paired_snoc (hw.mut d4) (paired_mapP pw fun _ _ z=>(z.same s4).mut d4),by rw[List.length_append,wl];rfl⟩
   intro wl ys H3 n3 e3 s3 hQ3
   refine letG ?_
   intro tT3
   obtain⟨ws,pw,wlen⟩:=hQ3
   refine fun p4 H4 n4 s4 e4=>?_
   have s14:Same H1 H4:=(s2.trans s3).trans s4
   have e14:=s14 _ _ e1
   have pz4:Paired (EntH H4) zs es:=paired_mapP pz fun _ _ z=>z.same s14
   have zl:=paired_len pz
   have el:=hes.len
   refine⟨fun σ5 H5=>∃(u:Option V) (kvs:List (Key×V)) (ch:Ch),σ5 = [some (.ref a),some (.ref pl),some (.ref nl),some (.int c1),some (.ref wl),some (.ref p4),u,none,none,none,none,none,none,none]/\Same H3 H5/\H5 p4=some (.dK kvs)/\Paired (ChV H5) kvs ch/\(ch.map (·.1)).Nodup/\ch.length<=zs.length,?_,?_⟩
   · refine⟨_,rfl,pl,_,rfl,.inl (SqL.of e14),(zs.length:Int),rfl,by omega,by omega,?_⟩
     refine for_range (fun i σ H5=>∃(u:Option V) (kvs:List (Key×V)) (ch:Ch),σ = [some (.ref a),some (.ref pl),some (.ref nl),some (.int c1),some (.ref wl),some (.ref p4),u,none,none,none,none,none,none,none]/\Same H3 H5/\H5 p4=some (.dK kvs)/\Paired (ChV H5) kvs ch/\(ch.map (·.1)).Nodup/\ch.length<=i) ⟨none,[],[],rfl,s4,e4,.nil,List.nodup_nil,Nat.le_refl _⟩ ?_ ?_
     · intro i σ H5 hi hQ
       refine letG ?_
       intro tT
       obtain⟨u,kvs,ch,rfl,s5,e5,p5,nd,cl⟩:=hQ
       have hi':i<zs.length:=by omega
       obtain⟨y,hy,hym⟩:=atI_in (xs:=zs) (r:=0+(i:Int)) (by omega) (by omega)
       have hyi:zs[i]? = some y:=by rw[←hym];congr 1;omega
       obtain⟨o,ho,t,m,rfl,h1,h2⟩:=paired_get' pz hyi
       have s15:=(s2.trans s3).trans s5
       have a0:atI [V.str o.1,.ref m] 0=some (V.str o.1):=rfl
       have a1:atI [V.str o.1,.ref m] 1=some (V.ref m):=rfl
       refine⟨_,rfl,_,rfl,_,_,rfl,rfl,c1,_,rfl,by omega,by omega,fun d _=>?_⟩
       refine⟨_,_,rfl,rfl,(by show(0:Int)<2;decide),rfl,_,rfl,?_⟩
       refine ite2 (fun h=>?_) (fun h=>?_)
       · refine⟨_,rfl,_,rfl,pl,_,_,_,rfl,rfl,SqL.of (s15 _ _ e1),hy,t,_,_,_,rfl,rfl,SqT.of (s15 _ _ h1),a1,_,rfl,_,rfl,_,rfl,pl,_,_,_,rfl,rfl,SqL.of (s15 _ _ e1),hy,t,_,_,_,rfl,rfl,SqT.of (s15 _ _ h1),a0,p4,_,rfl,DPut.k (k:=.inr o.1) e5 (small1000 (by have:=paired_len p5;omega)),?_⟩
         refine⟨_,_,putP ch o.1 o.2,rfl,same_mut n4 s5,upd_same,?_,putP_nodup nd,Nat.le_trans (putP_len ch o.1 o.2) (by omega)⟩
         refine paired_mapP (paired_put (F:=ChV H5) (hk H5) ⟨rfl,m,rfl,s15 _ _ h2⟩ p5) fun kv f z=>?_
         obtain⟨z1,m',z2,z3⟩:=z
         exact⟨z1,m',z2,keep_upd z3 (ne_of z3 e5 (by intro z;cases z))⟩
       · exact⟨_,kvs,ch,rfl,s5,e5,p5,nd,by omega⟩
     · intro σ H5 hQ
       obtain⟨u,kvs,ch,rfl,s5,e5,p5,nd,cl⟩:=hQ
       exact⟨_,kvs,ch,rfl,s5,e5,p5,nd,by omega⟩
   · intro σ5 H5 hQ5
     refine letG ?_
     intro tT5
     obtain⟨u,kvs,ch,rfl,s5,e5,p5,nd,cl⟩:=hQ5
     refine lets11 ?_
     intros
     have s15:Same H1 H5:=(s2.trans s3).trans s5
     have w5:=s5 _ _ e3
     have yl:=paired_len pw
     refine⟨_,rfl,p4,_,rfl,e5,fun p6 H6 n6 s6 e6=>?_⟩
     refine⟨_,rfl,wl,_,rfl,.inl (SqL.of (s6 _ _ w5)),fun p7 H7 n7 s7 e7=>?_⟩
     refine⟨(by show 2<=sizeLine;decide),fun p8 H8 n8 s8 e8=>?_⟩
     have s58:=(s6.trans s7).trans s8
     have pw8:Paired (WshH H8) ys ws:=paired_mapP pw fun _ _ z=>z.same (s5.trans s58)
     have pc8:Paired (ChV H8) kvs ch:=paired_mapP p5 fun _ _ z=>z.same s58
     have e68:=(s7.trans s8) _ _ e6
     have e78:=s8 _ _ e7
     refine⟨_,rfl,p8,_,_,_,rfl,rfl,SqL.of e8,atI_nat (j:=0) rfl,_,rfl,p8,_,_,_,rfl,rfl,SqL.of e8,atI_nat (j:=1) rfl,?_⟩
     refine⟨p6,p7,ch,ys,ws,rfl,⟨kvs,e68,pc8⟩,e78,pw8,by omega,fun H9 s9=>?_⟩
     have s59:=s58.trans s9
     have w9:=s59 _ _ w5
     have pw9:Paired (WshH H9) ys ws:=paired_mapP pw8 fun _ _ z=>z.same s9
     refine⟨_,rfl,wl,rfl,⟨_,SqL.of w9⟩,?_⟩
     refine comp_listG (K:=K) (xs:=ys) (σ0:=[none,some (.ref p4)]) (SqL.of w9) (fun σ=>∃v,σ = [v,some (.ref p4)]) (fun i zs' _=>zs'.length=(leftW ch (ws.take i)).length) ⟨_,rfl⟩ (fun _ _=>rfl) ?_ ?_
     · rintro D i x zs' σ Hc k k' hD hx ⟨v,rfl⟩ hdc sc zl' hk1 hk2
       obtain⟨wi,hwi,hW⟩:=paired_get' pw9 hx
       have wt:leftW ch (ws.take (i+1))=leftW ch (ws.take i)++if (!doneB wi (ch.lookup wi.nm))=true then [wi] else []:=by
        unfold leftW
        rw[take_snocP hwi,List.filter_append,List.filter_cons,List.filter_nil]
       have zle:zs'.length<=100:=by
        rw[zl']
        have:=List.length_filter_le (fun w:Wsh=>!doneB w (ch.lookup w.nm)) (ws.take i)
        rw[List.length_take]at this
        unfold leftW
        omega
       refine⟨_,rfl,_,rfl,p4,_,ch,wi,rfl,⟨kvs,(s59.trans sc) _ _ e5,paired_mapP pc8 fun _ _ z=>z.same (s9.trans sc)⟩,hW.same sc,_,rfl,?_⟩
       refine ite2 (fun h=>?_) (fun h=>?_)
       · exact⟨_,rfl,hk1 _ _ _ ⟨_,rfl⟩ (Same.refl _) (small1000 (by omega)) (by rw[wt,if_pos h,List.length_append,List.length_append,zl'];rfl)⟩
       · exact hk2 _ _ ⟨_,rfl⟩ (Same.refl _) (by rw[wt,if_neg h,List.append_nil,zl'])
     · rintro D zs' Hc hD hdc sc zl'
       rw[yl,List.take_length]at zl'
       refine⟨(by show 0<=sizeLine;decide),fun p10 H10 n10 s10 e10=>?_⟩
       refine⟨D,p10,_,rfl,rfl,SqL.of (s10 _ _ hdc),SqL.of e10,?_⟩
       rw[zl',←left_met]
       have s9c:=(s9.trans sc).trans s10
       have s5c:=s58.trans s9c
       obtain⟨nk,rk⟩:=cho_keys p5 nd
       obtain⟨ts,ets⟩:=wsh_refs pw
       refine⟨_,rfl,_,_,_,_,rfl,.bl _,rfl,_,rfl,?_⟩
       refine iteF ?_
       refine⟨_,rfl,_,rfl,rfl,_,rfl,?_⟩
       refine ite2 (fun z=>absurd z (by rw[decide_eq_true rfl];exact Bool.false_ne_true)) (fun _=>?_)
       refine⟨_,rfl,_,rfl,_,rfl,(by show 2<=sizeLine;decide),fun p11 H11 n11 s11 e11=>?_⟩
       have s811:=s9c.trans s11
       subst ets
       refine⟨p8,p11,p6,p4,p7,wl,kvs,ts,rfl,rfl,s811 _ _ e8,e11,(ne_of_none e5 n6).symm,(ne_of_none (s6 _ _ w5) n7).symm,s811 _ _ e68,(s58.trans s811) _ _ e5,nk,rk,s811 _ _ e78,(s58.trans s811) _ _ w5,_,rfl,?_⟩
       refine iteF ?_
       have s1b:Same H1 H11:=(s15.trans s58).trans s811
       have pzb:Paired (EntH H11) zs es:=paired_mapP pz fun _ _ z=>z.same s1b
       refine⟨_,rfl,pl,zs,es,rfl,s1b _ _ e1,pzb,hes,fun sx xs12 H12 n12 s12' hS12 hP12=>?_⟩
       refine⟨_,xs12,es.map pclE,rfl,hS12,hes.ps,fun H13 ys13 s13 hN13=>?_⟩
       refine⟨_,rfl,_,_,_,_,rfl,.int _,rfl,_,rfl,?_⟩
       refine iteF ?_
       refine⟨_,rfl,_,_,_,_,rfl,.int _,rfl,_,rfl,?_⟩
       refine iteF ?_
       have s1d:Same H1 H13:=s1b.trans (s12'.trans s13)
       refine⟨_,rfl,_,rfl,pl,zs,es,rfl,s1d _ _ e1,paired_mapP pz fun _ _ z=>z.same s1d,hes,fun H14 ys14 s14' hN14=>?_⟩
       have ey:=hN14.uniq hN13
       subst ey
       refine⟨rfl,_,rfl,?_⟩
       refine ite2 (fun z=>absurd z (by rw[decide_eq_true rfl];exact Bool.false_ne_true)) (fun _=>?_)
       have s0e:Same H H14:=s1.trans (s1d.trans s14')
       refine⟨_,rfl,a,2,is,rfl,by omega,s0e.seq hA,fun c15=>?_⟩
       refine⟨_,_,rfl,rfl,⟨by omega,by omega⟩,?_⟩
       refine⟨_,rfl,fun wp H15 zw ew n15 s15' e15 pw15 hew=>?_⟩
       refine⟨_,rfl,wp,zw,ew,rfl,e15,pw15,hew,fun sh xs16 H16 n16 s16 hS16 hP16=>?_⟩
       refine⟨_,rfl,_,xs16,ew.map pclE,rfl,hS16,hew.ps,fun H17 ys17 s17 hN17=>?_⟩
       refine⟨_,rfl,wp,zw,ew,rfl,(s16.trans s17) _ _ e15,paired_mapP pw15 fun _ _ z=>z.same (s16.trans s17),hew,fun H18 ys18 s18 hN18=>?_⟩
       have ey2:=hN18.uniq hN17
       subst ey2
       refine⟨rfl,_,rfl,?_⟩
       refine ite2 (fun z=>absurd z (by rw[decide_eq_true rfl];exact Bool.false_ne_true)) (fun _=>?_)
       refine⟨_,rfl,wp,zw,ew,rfl,((s16.trans s17).trans s18) _ _ e15,paired_mapP pw15 fun _ _ z=>z.same ((s16.trans s17).trans s18),hew,fun H19 ys19 s19 hN19=>?_⟩
       have ey3:=hN19.uniq hN18
       subst ey3
       have s69:Same H16 H19:=(s17.trans s18).trans s19
       have s0j:Same H H19:=s0e.trans (s15'.trans (s16.trans s69))
       have s3j:Same H3 H19:=((s5.trans s58).trans s811).trans ((s12'.trans s13).trans (s14'.trans (s15'.trans (s16.trans s69))))
       have tabj:TabSt H19 Pt lamPos lamQual:=tab.same s0j
       have wj:H19 wl=some (.lst (ts.map V.ref)):=s3j _ _ e3
       have pwj:Paired (WshH H19) (ts.map V.ref) ws:=paired_mapP pw fun _ _ z=>z.same s3j
       refine⟨_,_,rfl,rfl,_,rfl,?_⟩
       refine ite2 (fun h=>?_) (fun h=>?_)
       · have h4:400<widE ew ys19:=of_decide_eq_true h
         have hall:∀ys,NamesOf (ew.map pclE) ys->400<widE ew ys:=fun ys hN=>by rw[hN.uniq hN19];exact h4
         refine⟨_,rfl,_,rfl,.ref sh,wl,xs16,ts.map V.ref,ew,ws,rfl,hS16.same s69,hP16.same s69,hew,wj,pwj,by omega,hall,fun H20 s20=>?_⟩
         refine⟨_,rfl,iteT ?_⟩
         refine⟨_,rfl,(by show 0<=sizeLine;decide),fun p21 H21 n21 s21 e21=>?_⟩
         refine⟨(by show 4<=sizeLine;decide),fun p22 H22 n22 s22 e22=>?_⟩
         refine⟨(by show 1<=sizeLine;decide),fun p23 H23 n23 s23 e23=>?_⟩
         have s23':=((s20.trans s21).trans s22).trans s23
         refine⟨.ref sh,p23,xs16,[.ref p22],ew,[⟨"strange",some ([],none)⟩],rfl,hS16.same (s69.trans s23'),hP16.same (s69.trans s23'),hew,e23,.cons ⟨p22,rfl,p21,.non,s23 _ _ e22,(s22.trans s23) _ _ e21,rfl⟩ .nil,by decide,hall,fun H24 s24=>?_⟩
         exact q H24 (tabj.same (s23'.trans s24))
       · have h4:¬400<widE ew ys19:=fun z=>h (decide_eq_true z)
         refine⟨_,rfl,fun p20 H20 n20 s20 e20=>?_⟩
         refine⟨(by show 0<=sizeLine;decide),fun p21 H21 n21 s21 e21=>?_⟩
         have s91:=s20.trans s21
         refine⟨.ref sh,p20,p21,xs16,[],ew,[],rfl,hS16.same (s69.trans s91),hP16.same (s69.trans s91),hew,s21 _ _ e20,e21,.nil,Nat.zero_le _,fun ys hN=>?_⟩
         have ey4:=hN.uniq hN19
         subst ey4
         refine⟨fun z=>absurd z h4,fun _=>⟨rfl,tabj.same s91,fun b dx fl d H22 kp tab22 eb fb ed=>?_⟩⟩
         refine⟨_,rfl,b,Bc,Bc,dx,fl,true,rfl,eb,T.cl,IB,kB,_,rfl,iteT ?_⟩
         refine⟨_,rfl,b,Bc,dx,_,_,rfl,eb,T.cl,T.nC,fb,?_⟩
         refine fun p24 H24 n24 s24 e24=>?_
         refine⟨d,p24,[],[],rfl,rfl,s24 _ _ ed,e24,.nil,List.nodup_nil,?_⟩
         exact q H24 (tab22.same s24)
end
end K41
namespace L2
open PySem PySem.Spec PyProof.Rows
open PySem.W (tabObj CodeHd)
theorem law_callT{P:Program}{w:World}{K:PySem.W.Frag}{mg mb:Str->Option Value}{CX:CXT}{k:Nat}{fa a Pt c:Addr}{fd:FuncData}{x qual:Str}{lpos:Pos}{sp:Sp}{s₁:Shared}{vs:List Value}{ns:List Int}
 (KX:K.In s₁.heap) (hns:s₁.heap.Ns mainGlobals mg) (hb:s₁.heap.Ns builtinsNs mb) (hbb:∀x:Str,x≠"__name__"->mb x=bootBuiltins x) (hlim:s₁.heap.NoLimit) (hg:s₁.gens = #[])
 (bmain:∃bm ob,mg "__builtins__" = some (.ref bm)/\bm≠builtinsNs/\s₁.heap.get? bm=some ob/\ob.cls = .type "module"/\ob.dict=some builtinsNs/\ob.data = .plain)
 (hP:s₁.heap.get? Pt=some (tabObj #[])) (hC:CodeHd s₁.heap c Pt) (hKP:K.lookup Pt=none)
 (ha:s₁.heap.get? a=some { cls:=.type "list",data:=.seq vs.toArray }) (hi:IntsAre vs ns) (hl:ns.length<=sizeLine) (hr:Room k callerA)
 (F:∀base:Heap,K.In base->base.Ns mainGlobals mg->base.BuiltinsAt mg Pt->FnOk P w K mg base CX k fa fd [x] sp) (hbind:∀(s:Shared) (u:Value),BindsTo s fd ⟨[u],[]⟩ [(x,u)])
 (hsp:∀H:Hp,H Pt=some (tabO Pt #[])->SqL K H a (ns.map V.int)->sp [.ref a] H (fun v H'=>v = .bl true/\TabSt H' Pt lpos qual) fun _ _ _=>False)
 (hCX:∀H e s',CX [] H s₁ (fun _ _ _=>False) e s'->False) :
 codeAny (model P w) callerA (.call (.ref fa) ⟨[.ref a],[]⟩) (fun r s'=>r = .ok (.ret (.bool true))/\OldK s₁.heap s'.heap/\s'.os=s₁.os/\AllBare s'.gens) s₁:=by
 have rv:=vals_ints hi
 have lenV:=hi.length
 have haP:a≠Pt:=fun z=>by rw[z,hP]at ha;cases ha
 have core:∀H:Hp,H Pt=some (tabO Pt #[])->(∀b,b≠Pt->H b=none\/∃o xs,H b=some (.frz o (.lst xs)))->SqL K H a (ns.map V.int)->HOk P w H s₁.heap->(∀b,H b≠none->b=a\/b=Pt)->(H a≠none->K.lookup a=none) ->
  codeAny (model P w) callerA (.call (.ref fa) ⟨[.ref a],[]⟩) (fun r s'=>r = .ok (.ret (.bool true))/\OldK s₁.heap s'.heap/\s'.os=s₁.os/\AllBare s'.gens) s₁:=by
  intro H hT hO hS hok hA hK
  have base_of:∀{b:Addr} {o:Obj},s₁.heap.get? b=some o->H b=none->(hidT s₁.heap H).get? b=some o:=fun e n=>hidT_get e n
  have noB:∀{b:Addr} {o:Obj},s₁.heap.get? b=some o->(∀it n,o.data≠.seq it n)->(∀ps,o.data≠.fields ps)->H b=none:=fun {b o} e d1 d2=>by
   cases q:H b with
   | none=>rfl
   | some u=>
    rcases hA b (by rw[q];simp) with e' | e'
    · subst e'
      rw[ha]at e;cases e
      exact absurd rfl (d1 _ _)
    · subst e'
      rw[hP]at e;cases e
      exact absurd rfl (d2 _)
  have nsK:∀{b:Addr} {m:Str->Option Value},s₁.heap.Ns b m->(hidT s₁.heap H).Ns b m:=fun {b m} ⟨o,es,ep,e,d,r⟩=>⟨o,es,ep,base_of e (noB e (fun it n z=>by rw[d]at z;cases z) fun ps z=>by rw[d]at z;cases z),d,r⟩
  have hKb:K.In (hidT s₁.heap H):=fun b o e=>base_of (KX b o e) (by
   cases q:H b with
   | none=>rfl
   | some u=>
    rcases hA b (by rw[q];simp) with e' | e'
    · subst e'
      rw[hK (by rw[q];simp)]at e;cases e
    · subst e'
      rw[hKP]at e;cases e)
  have hM:Mod K mg (hidT s₁.heap H):=⟨hKb,nsK hns,⟨mb,nsK hb,hbb⟩,hlim.elim fun mc zq527=>zq527.elim fun h1 h2=>⟨mc,nsK h1,h2⟩⟩
  have e0:Env0 P w K mg (hidT s₁.heap H) callerA [] s₁ H:=⟨rfl,hM,fun b o e=>of_hidT e,Nat.le_of_eq (hidT_size _ _),trivial,fun b hb=>absurd (show b∈([]:List Addr) from hb) (by simp),hok,.of_eq hg⟩
  have hBt:(hidT s₁.heap H).BuiltinsAt mg Pt:=by
   obtain⟨bm,ob',b1,b2,b3,b4,b5,b6⟩:=bmain
   refine⟨bm,ob',b1,b2,fun z=>?_,fun z=>?_,base_of b3 (noB b3 (fun it n z=>by rw[b6]at z;cases z) fun ps z=>by rw[b6]at z;cases z),b4,b5,b6⟩
   · obtain⟨o,es,ep,e,d,_⟩:=hns
     rw[z,e]at b3;cases b3;rw[d]at b6;cases b6
   · rw[z,hP]at b3;cases b3;cases b6
  refine codeAny_mono ((F _ hKb (nsK hns) hBt).run callerA [] s₁ H ⟨[.ref a],[]⟩ [.ref a] [.ref a] _ _ hr e0 (hbind s₁ (.ref a)) (.cons rfl .nil) (hsp H hT hS)) fun r s' h=>?_
  cases r with
  | error e=>exact(hCX H e s' h).elim
  | ok fl=>
   cases fl with
   | next=>exact False.elim h
   | brk=>exact False.elim h
   | cont=>exact False.elim h
   | ret u=>
    obtain⟨v,H',os,bare,un,hok',r',q',tb⟩:=h
    subst q'
    obtain rfl:u=Value.bool true:=r'
    have old:∀b o,s₁.heap.get? b=some o->b≠Pt->s'.heap.get? b=some o:=fun b o e nb=>by
     cases q:H b with
     | none=>exact un.keep b o e q (by intro z;exact absurd (show b∈([]:List Addr) from z) (by simp)) (by simp)
     | some u=>
      rcases hO b nb with z | ⟨ob,xs,z⟩
      · rw[q]at z;cases z
      · have z2:=un.frzs b ob _ z
        obtain⟨e1,_⟩:=hok b _ z
        obtain⟨e2,_⟩:=hok' b _ z2
        rw[e]at e1;cases e1
        exact e2
    have tab:s'.heap.get? Pt=some (tabObj #[])\/∃more,s'.heap.get? Pt=some (tabObj (#[]++more)):=by
     rcases tb with z | ⟨c',z,_⟩
     · exact .inl (show ObjOk P w H' s'.heap Pt (tabO Pt #[]) from hok' Pt _ z).1
     · exact .inr ⟨_,by rw[Array.empty_append];exact(show ObjOk P w H' s'.heap Pt (tabO Pt _) from hok' Pt _ z).1⟩
    refine⟨rfl,⟨fun b o e=>?_,fun b o e=>?_⟩,os,bare⟩
    · by_cases nb:b=Pt
      · subst nb
        rw[hP]at e;cases e
        rcases tab with z | ⟨more,z⟩
        · exact .inl z
        · exact .inr (.inl ⟨(hC.tab hP).isCodeTable,rfl,#[],more,rfl,z⟩)
      · exact .inl (old b o e nb)
    · by_cases nb:b=Pt
      · subst nb
        rcases tab with z | ⟨more,z⟩
        · exact⟨_,z⟩
        · exact⟨_,z⟩
      · exact⟨o,old b o e nb⟩
 have okT:∀H:Hp,H Pt=some (tabO Pt #[])->ObjOk P w H s₁.heap Pt (tabO Pt #[]):=fun H _=>ext_new hP hP fun h1 h2 z k=>k _ z
 cases hk:K.lookup a with
 | some o=>
  have e:=KX a o hk
  rw[ha]at e
  cases e
  refine core (fun b=>if b=Pt then some (tabO Pt #[]) else none) (if_pos rfl) (fun b nb=>.inl (if_neg nb)) (.inr ⟨_,vs.toArray,_,hk,rfl,rfl,rfl,by rw[List.size_toArray,lenV];exact hl,by simpa using rv⟩) (fun b u z=>?_) (fun b z=>?_) fun z=>absurd (if_neg haP) z
  · by_cases hb:b=Pt
    · have z':=(if_pos hb).symm.trans z
      cases z'
      subst hb
      exact okT _ (if_pos rfl)
    · have z':=(if_neg hb).symm.trans z
      cases z'
  · by_cases hb:b=Pt
    · exact .inr hb
    · exact absurd (if_neg hb) z
 | none=>
  refine core (fun b=>if b=Pt then some (tabO Pt #[]) else if b=a then some (.frz { cls:=.type "list",data:=.seq vs.toArray } (.lst (ns.map V.int))) else none) (if_pos rfl) (fun b nb=>?_) (.inl (.inr ⟨{ cls:=.type "list",data:=.seq vs.toArray },by show(if a=Pt then _ else if a=a then _ else _)=_;rw[if_neg haP,if_pos rfl]⟩)) (fun b u z=>?_) (fun b z=>?_) fun _=>hk
  · show(if b=Pt then _ else if b=a then _ else _)=_\/∃o xs,(if b=Pt then _ else if b=a then _ else _)=_
    rw[if_neg nb]
    by_cases hb:b=a
    · exact .inr ⟨_,_,if_pos hb⟩
    · exact .inl (if_neg hb)
  · have z:(if b=Pt then some (tabO Pt #[]) else if b=a then some (.frz { cls:=.type "list",data:=.seq vs.toArray } (.lst (ns.map V.int))) else none)=some u:=z
    by_cases hb:b=Pt
    · rw[if_pos hb]at z
      cases z
      subst hb
      exact okT _ (if_pos rfl)
    · rw[if_neg hb]at z
      by_cases hb2:b=a
      · rw[if_pos hb2]at z
        cases z
        subst hb2
        exact⟨ha,by rw[List.length_map];exact hl,vs,_,rv,ha⟩
      · rw[if_neg hb2]at z
        cases z
  · have z:(if b=Pt then some (tabO Pt #[]) else if b=a then some (HO.frz { cls:=.type "list",data:=.seq vs.toArray } (.lst (ns.map V.int))) else none)≠none:=z
    by_cases hb:b=Pt
    · exact .inr hb
    · rw[if_neg hb]at z
      by_cases hb2:b=a
      · exact .inl hb2
      · rw[if_neg hb2]at z
        exact absurd rfl z
theorem walk_ofT{l:PySem.W.OpenLaw}{n k:Nat}{q:Program}{loose:List Str}{XP:(Str->Option Value)->Heap->Prop}{YP:World->Heap->Prop}{d:DefRec}{K:Params->PySem.W.Frag}{CX:World->CXT}{sp:World->Sp}{x qual:Str}{lpos:Pos}{Pt:Addr}
 (hn:l.most=some n) (hn2:n<=sizeLine) (hdf:d.params.defaults = []) (hr:Room k callerA)
 (hY:∀(w:World) (h:Heap),YP w h->(K w.params).In h/\h.get? Pt=some (tabObj #[]))
 (F:∀(w:World) (mg:Str->Option Value) (fa:Addr) (h:Heap),(K w.params).In h->h.Ns mainGlobals mg->mg d.name=some (.ref fa) ->
  ∃(fd:FuncData) (c:Addr),(∀(s:Shared) (u:Value),BindsTo s fd ⟨[u],[]⟩ [(x,u)])/\PySem.W.codeHdIn (K w.params) c Pt=true/\(K w.params).lookup Pt=none /\
   ∀base:Heap,(K w.params).In base->base.Ns mainGlobals mg->base.BuiltinsAt mg Pt->FnOk l.prog w (K w.params) mg base (CX w) k fa fd [x] (sp w))
 (hsp:∀(w:World) (H:Hp) (a:Addr) (ns:List Int),ns.length<=n->H Pt=some (tabO Pt #[])->SqL (K w.params) H a (ns.map V.int)->sp w [.ref a] H (fun v H'=>v = .bl true/\TabSt H' Pt lpos qual) fun _ _ _=>False)
 (hCX:∀(w:World) (H:Hp) (s:Shared) (e:Value) (s':Shared),CX w [] H s (fun _ _ _=>False) e s'->False) :
 PySem.W.WalkO q loose XP YP l.row.toRowW d [] (fun f vs=>PySem.call f vs):=by
 refine Att.attach_call hn hdf fun w s₀ s₁ mg mb fa o pm cd doc a vs ns G Y ho hd hcd hmg hobj hints hlen hg=>?_
 obtain⟨KX,hP⟩:=hY w _ Y
 obtain⟨fd,c,hb,hC,hKP,hF⟩:=F w mg fa _ KX G.T.g hmg
 exact law_callT KX G.T.g G.T.b G.T.builtins G.T.nolimit hg G.T.bmain hP (PySem.W.codeHd_of_K KX hC) hKP hobj hints (Nat.le_trans hlen hn2) hr hF hb (fun H hO hS=>hsp w H a ns hlen hO hS) fun H e s'=>hCX w H s₁ e s'
end L2
set_option maxHeartbeats 8000000
namespace K41
open PySem L2
noncomputable def ClsC(K:PySem.W.Frag)(mg:Str->Option Value):Prop:=∃C fPIn fdPIn,Txt K mg C/\Mk K C fPIn/\Fun K "__init__" "Parcel.__init__" sPIn fPIn fdPIn
theorem clsC_mk{K:PySem.W.Frag}{h:Heap}{mg:Str->Option Value}{C f0:Addr}{od0 an0:Option Addr}{sl0:Array (Option Value)}{oc0 kV0 dc0 pm0 cd0 ct0:Value}(X:K.In h)(Gn:h.Ns mainGlobals mg)
 (aC:PySem.W.nsIn K mainGlobals "Parcel" = some (some (.ref C))) (a0:PySem.W.findIn K (.ref C) "__init__" = some (some (.ref f0))) (i0:PySem.W.isFn K (.ref f0)=true)
 (l0:K.lookup f0=some ⟨oc0,od0,.func (PySem.W.fnOf "__init__" "Parcel.__init__" (defArgs sPIn) (defBody sPIn) (defScope sPIn) .none kV0 dc0 pm0 an0 cd0 ct0),sl0⟩) (c0:PySem.W.codeIn K cd0 "Parcel.__init__" = true) (k0:PySem.W.keepIn K (.ref f0)=true)
 (pg:PySem.W.plainGet K C Str.empty=true) (hd:PySem.W.hasDictIn K C=true) (po:PySem.W.plainOver K C=true) (sa:PySem.W.findIn K (.ref C) "__setattr__" = some (some (.builtin "object.__setattr__"))) (mk:PySem.W.makesIn K C=true) (kc:PySem.W.keepIn K (.ref C)=true) (n0:PySem.W.findIn K (.ref C) "name" = some none) (n1:PySem.W.findIn K (.ref C) "make" = some none) (n2:PySem.W.findIn K (.ref C) "rank" = some none) (n3:PySem.W.findIn K (.ref C) "files" = some none) (n4:PySem.W.findIn K (.ref C) "needs" = some none) (n5:PySem.W.findIn K (.ref C) "shuts" = some none) (n6:PySem.W.findIn K (.ref C) "offers" = some none):ClsC K mg:=
 ⟨C,f0,_,⟨⟨pg,hd,po,sa⟩,n0,n1,n2,n3,n4,n5,n6,PySem.W.mg_of X Gn aC⟩,⟨mk,a0,i0,kc⟩,fun_mk l0 c0 k0⟩
noncomputable def ClsS(K:PySem.W.Frag)(mg:Str->Option Value):Prop:=∃S fSIn fdSIn fSNa fdSNa fSMo fdSMo fSPa fdSPa,TxtS K mg S fSNa fSMo fSPa/\Mk K S fSIn/\Fun K "__init__" "Shelf.__init__" sSIn fSIn fdSIn/\Fun K "names" "Shelf.names" sSNa fSNa fdSNa/\Fun K "makes_of" "Shelf.makes_of" sSMo fSMo fdSMo/\Fun K "parcel" "Shelf.parcel" sSPa fSPa fdSPa
theorem clsS_mk{K:PySem.W.Frag}{h:Heap}{mg:Str->Option Value}{S f0 f1 f2 f3:Addr}{od0 an0:Option Addr}{sl0:Array (Option Value)}{oc0 kV0 dc0 pm0 cd0 ct0:Value}{od1 an1:Option Addr}{sl1:Array (Option Value)}{oc1 kV1 dc1 pm1 cd1 ct1:Value}{od2 an2:Option Addr}{sl2:Array (Option Value)}{oc2 kV2 dc2 pm2 cd2 ct2:Value}{od3 an3:Option Addr}{sl3:Array (Option Value)}{oc3 kV3 dc3 pm3 cd3 ct3:Value}(X:K.In h)(Gn:h.Ns mainGlobals mg)
 (aC:PySem.W.nsIn K mainGlobals "Shelf" = some (some (.ref S))) (a0:PySem.W.findIn K (.ref S) "__init__" = some (some (.ref f0))) (i0:PySem.W.isFn K (.ref f0)=true)
 (l0:K.lookup f0=some ⟨oc0,od0,.func (PySem.W.fnOf "__init__" "Shelf.__init__" (defArgs sSIn) (defBody sSIn) (defScope sSIn) .none kV0 dc0 pm0 an0 cd0 ct0),sl0⟩) (c0:PySem.W.codeIn K cd0 "Shelf.__init__" = true) (k0:PySem.W.keepIn K (.ref f0)=true) (a1:PySem.W.findIn K (.ref S) "names" = some (some (.ref f1))) (i1:PySem.W.isFn K (.ref f1)=true)
 (l1:K.lookup f1=some ⟨oc1,od1,.func (PySem.W.fnOf "names" "Shelf.names" (defArgs sSNa) (defBody sSNa) (defScope sSNa) .none kV1 dc1 pm1 an1 cd1 ct1),sl1⟩) (c1:PySem.W.codeIn K cd1 "Shelf.names" = true) (k1:PySem.W.keepIn K (.ref f1)=true) (a2:PySem.W.findIn K (.ref S) "makes_of" = some (some (.ref f2))) (i2:PySem.W.isFn K (.ref f2)=true)
 (l2:K.lookup f2=some ⟨oc2,od2,.func (PySem.W.fnOf "makes_of" "Shelf.makes_of" (defArgs sSMo) (defBody sSMo) (defScope sSMo) .none kV2 dc2 pm2 an2 cd2 ct2),sl2⟩) (c2:PySem.W.codeIn K cd2 "Shelf.makes_of" = true) (k2:PySem.W.keepIn K (.ref f2)=true) (a3:PySem.W.findIn K (.ref S) "parcel" = some (some (.ref f3))) (i3:PySem.W.isFn K (.ref f3)=true)
 (l3:K.lookup f3=some ⟨oc3,od3,.func (PySem.W.fnOf "parcel" "Shelf.parcel" (defArgs sSPa) (defBody sSPa) (defScope sSPa) .none kV3 dc3 pm3 an3 cd3 ct3),sl3⟩) (c3:PySem.W.codeIn K cd3 "Shelf.parcel" = true) (k3:PySem.W.keepIn K (.ref f3)=true)
 (pg:PySem.W.plainGet K S Str.empty=true) (hd:PySem.W.hasDictIn K S=true) (po:PySem.W.plainOver K S=true) (sa:PySem.W.findIn K (.ref S) "__setattr__" = some (some (.builtin "object.__setattr__"))) (mk:PySem.W.makesIn K S=true) (kc:PySem.W.keepIn K (.ref S)=true) (n0:PySem.W.findIn K (.ref S) "shelved" = some none):ClsS K mg:=
 ⟨S,f0,_,f1,_,f2,_,f3,_,⟨⟨pg,hd,po,sa⟩,n0,⟨a1,i1,k1⟩,⟨a2,i2,k2⟩,⟨a3,i3,k3⟩,PySem.W.mg_of X Gn aC⟩,⟨mk,a0,i0,kc⟩,fun_mk l0 c0 k0,fun_mk l1 c1 k1,fun_mk l2 c2 k2,fun_mk l3 c3 k3⟩
noncomputable def ClsG(K:PySem.W.Frag)(mg:Str->Option Value):Prop:=∃G fBIn fdBIn,TxtB K mg G/\Mk K G fBIn/\Fun K "__init__" "Best.__init__" sBIn fBIn fdBIn
theorem clsG_mk{K:PySem.W.Frag}{h:Heap}{mg:Str->Option Value}{G f0:Addr}{od0 an0:Option Addr}{sl0:Array (Option Value)}{oc0 kV0 dc0 pm0 cd0 ct0:Value}(X:K.In h)(Gn:h.Ns mainGlobals mg)
 (aC:PySem.W.nsIn K mainGlobals "Best" = some (some (.ref G))) (a0:PySem.W.findIn K (.ref G) "__init__" = some (some (.ref f0))) (i0:PySem.W.isFn K (.ref f0)=true)
 (l0:K.lookup f0=some ⟨oc0,od0,.func (PySem.W.fnOf "__init__" "Best.__init__" (defArgs sBIn) (defBody sBIn) (defScope sBIn) .none kV0 dc0 pm0 an0 cd0 ct0),sl0⟩) (c0:PySem.W.codeIn K cd0 "Best.__init__" = true) (k0:PySem.W.keepIn K (.ref f0)=true)
 (pg:PySem.W.plainGet K G Str.empty=true) (hd:PySem.W.hasDictIn K G=true) (po:PySem.W.plainOver K G=true) (sa:PySem.W.findIn K (.ref G) "__setattr__" = some (some (.builtin "object.__setattr__"))) (mk:PySem.W.makesIn K G=true) (kc:PySem.W.keepIn K (.ref G)=true) (n0:PySem.W.findIn K (.ref G) "chosen" = some none):ClsG K mg:=
 ⟨G,f0,_,⟨⟨pg,hd,po,sa⟩,n0,PySem.W.mg_of X Gn aC⟩,⟨mk,a0,i0,kc⟩,fun_mk l0 c0 k0⟩
noncomputable def IsB(K:PySem.W.Frag)(mg:Str->Option Value):Prop:=∃Bc,mg "Best" = some (.ref Bc)/\IsI K Bc/\PySem.W.kitOne K (.ref Bc) (.ref Bc)=some true
theorem isb_mk{K:PySem.W.Frag}{h:Heap}{mg:Str->Option Value}{Bc:Addr}(X:K.In h)(G:h.Ns mainGlobals mg)(nB:PySem.W.nsIn K mainGlobals "Best" = some (some (.ref Bc)))(cls:PySem.W.findIn K (.ref Bc) "__class__" = some (some (.builtin "object.__class__")))(spc:PySem.W.specialIn K (.builtin "object.__class__") "__get__" = some (some (.builtin "getset_descriptor.__get__")))(tak:PySem.W.takesIn K (.builtin "object.__class__")=some true)(mro:PySem.W.mroIn K Bc (.type "object")=some true)(kB:PySem.W.kitOne K (.ref Bc) (.ref Bc)=some true):IsB K mg:=
 ⟨Bc,PySem.W.mg_of X G nB,⟨cls,spc,tak,mro⟩,kB⟩
noncomputable def ErrC(K:PySem.W.Frag)(mg:Str->Option Value):Prop:=∃M NP TW,Errs K mg M NP TW
theorem err_mk{K:PySem.W.Frag}{h:Heap}{mg:Str->Option Value}{M NP TW:Addr}(X:K.In h)(G:h.Ns mainGlobals mg)(nM:PySem.W.nsIn K mainGlobals "MendError" = some (some (.ref M)))(nNP:PySem.W.nsIn K mainGlobals "NoParcel" = some (some (.ref NP)))(nTW:PySem.W.nsIn K mainGlobals "TooWide" = some (some (.ref TW)))(exc:PySem.W.excIn K TW [.type "ValueError",.type "Exception",.type "BaseException",.type "object"] "ValueError.__new__" = true)(ga:PySem.W.findIn K (.ref TW) "__getattribute__" = some (some (.builtin "BaseException.__getattribute__")))(gh:PySem.W.findIn K (.ref TW) "__getattr__" = some none)(cls:PySem.W.findIn K (.ref TW) "__class__" = some (some (.builtin "object.__class__")))(spc:PySem.W.specialIn K (.builtin "object.__class__") "__get__" = some (some (.builtin "getset_descriptor.__get__")))(tak:PySem.W.takesIn K (.builtin "object.__class__")=some true)(mro:PySem.W.mroIn K TW (.type "object")=some true)(mrb:PySem.W.mroIn K TW (.type "BaseException")=some true)(kM:PySem.W.kitOne K (.ref TW) (.ref M)=some true)(kP:PySem.W.kitOne K (.ref TW) (.ref NP)=some false)(ex:PySem.W.exmOne K (.ref TW) (.ref TW)=some true):ErrC K mg:=
 ⟨M,NP,TW,⟨exc,ga,gh,cls,spc,tak,mro,mrb⟩,PySem.W.mg_of X G nM,PySem.W.mg_of X G nNP,PySem.W.mg_of X G nTW,kM,kP,ex⟩
noncomputable def CstC(mg:Str->Option Value):Prop:=∃t,mg "GREATEST_WIDTH" = some (.int 400 t)
theorem cst_mk{K:PySem.W.Frag}{h:Heap}{mg:Str->Option Value}{t0:Tok}(X:K.In h)(G:h.Ns mainGlobals mg)(z0:PySem.W.nsIn K mainGlobals "GREATEST_WIDTH" = some (some (.int 400 t0))):CstC mg:=⟨t0,PySem.W.mg_of X G z0⟩
noncomputable def DefC(K:PySem.W.Frag)(mg:Str->Option Value)(x:Str)(st:Stmt)(Pt:Addr):Prop:=∃f c fd,mg x=some (.ref f)/\FunC K x x st f c fd/\PySem.W.codeHdIn K c Pt=true/\K.lookup Pt=none
theorem defC_mk{K:PySem.W.Frag}{h:Heap}{mg:Str->Option Value}{x:Str}{st:Stmt}{f c Pt:Addr}{od an:Option Addr}{sl:Array (Option Value)}{oc kV dc pm ct:Value}(X:K.In h)(G:h.Ns mainGlobals mg)
 (a:PySem.W.nsIn K mainGlobals x=some (some (.ref f))) (l:K.lookup f=some ⟨oc,od,.func (PySem.W.fnOf x x (defArgs st) (defBody st) (defScope st) .none kV dc pm an (.ref c) ct),sl⟩) (cc:PySem.W.codeIn K (.ref c) x=true) (k:PySem.W.keepIn K (.ref f)=true) (hd:PySem.W.codeHdIn K c Pt=true) (hn:K.lookup Pt=none) :
 DefC K mg x st Pt:=⟨f,c,_,PySem.W.mg_of X G a,⟨⟨_,_,_,_,_,_,_,_,rfl,l,cc⟩,k⟩,hd,hn⟩
theorem bltAt_mk{K:PySem.W.Frag}{h:Heap}{mg:Str->Option Value}(X:K.In h)(G:h.Ns mainGlobals mg)(z0:PySem.W.nsIn K mainGlobals "range" = some none)(z1:PySem.W.nsIn K mainGlobals "len" = some none)(z2:PySem.W.nsIn K mainGlobals "list" = some none)(z3:PySem.W.nsIn K mainGlobals "dict" = some none)(z4:PySem.W.nsIn K mainGlobals "tuple" = some none)(z5:PySem.W.nsIn K mainGlobals "sorted" = some none)(z6:PySem.W.nsIn K mainGlobals "enumerate" = some none)(z7:PySem.W.nsIn K mainGlobals "isinstance" = some none)(z8:PySem.W.nsIn K mainGlobals "bool" = some none)(z9:PySem.W.nsIn K mainGlobals "int" = some none)(z10:PySem.W.nsIn K mainGlobals "set" = some none)(z11:PySem.W.nsIn K mainGlobals "all" = some none)(z12:PySem.W.nsIn K mainGlobals "max" = some none):Blt mg:=
 ⟨PySem.W.mg_none_of X G z0,PySem.W.mg_none_of X G z1,PySem.W.mg_none_of X G z2,PySem.W.mg_none_of X G z3,PySem.W.mg_none_of X G z4,PySem.W.mg_none_of X G z5,PySem.W.mg_none_of X G z6,PySem.W.mg_none_of X G z7,PySem.W.mg_none_of X G z8,PySem.W.mg_none_of X G z9,PySem.W.mg_none_of X G z10,PySem.W.mg_none_of X G z11,PySem.W.mg_none_of X G z12⟩
theorem all_mk{P:Program}{w:World}{K:PySem.W.Frag}{mg:Str->Option Value}{fa Pt:Addr}(hfa:mg "law" = some (.ref fa))(B:Blt mg)(CC:ClsC K mg)(CS:ClsS K mg)(CG:ClsG K mg)(CI:IsB K mg)(CR:ErrC K mg)(CK:CstC mg)(DN:DefC K mg "best_set" sBes Pt)(dWit:DefAt K mg "is_within" sWit)(dKUn:DefAt K mg "keys_unlike" sKUn)(dMee:DefAt K mg "does_meet" sMee)(dPOf:DefAt K mg "parcels_of" sPOf)(dFOf:DefAt K mg "faults_of" sFOf)(dSou:DefAt K mg "is_sound" sSou)(dMtg:DefAt K mg "meeting" sMtg)(dNFa:DefAt K mg "need_faults" sNFa)(dSFa:DefAt K mg "shut_faults" sSFa)(dCFa:DefAt K mg "clash_faults" sCFa)(dPat:DefAt K mg "paths_of" sPat)(dCas:DefAt K mg "cases_of" sCas)(dWca:DefAt K mg "with_case" sWca)(dDon:DefAt K mg "is_done_by" sDon)(dMet:DefAt K mg "are_met" sMet)(dWid:DefAt K mg "width_of" sWid)(dSts:DefAt K mg "sets_of" sSts)(dSde:DefAt K mg "set_decided" sSde)(dMkL:DefAt K mg "makes_listed" sMkL)(dCel:DefAt K mg "_law_cell_at" sCel)(dDra:DefAt K mg "_law_draw" sDra)(dNam:DefAt K mg "_law_names" sNam)(dWis:DefAt K mg "_law_wish" sWis)(dPcs:DefAt K mg "_law_parcels" sPcs)(dLWi:DefAt K mg "_law_wide" sLWi)(dShf:DefAt K mg "_law_shelf" sShf)(dLMe:DefAt K mg "_law_met" sLMe)(dLWd:DefAt K mg "_law_width" sLWd)(dToo:DefAt K mg "_law_too_wide" sToo)(dLaw:DefAt K mg "law" sLaw) :
 ∃(fd:FuncData) (c:Addr),(∀(s:Shared) (v:Value),BindsTo s fd ⟨[v],[]⟩ [("_law_script",v)])/\PySem.W.codeHdIn K c Pt=true/\K.lookup Pt=none/\∀base:Heap,K.In base->base.Ns mainGlobals mg->base.BuiltinsAt mg Pt->FnOk P w K mg base CX0 9 fa fd ["_law_script"] (spLaw K Pt):=by
 obtain⟨C,fPIn,fdPIn,TC,MC,FPIn⟩:=CC
 obtain⟨S,fSIn,fdSIn,fSNa,fdSNa,fSMo,fdSMo,fSPa,fdSPa,U,MS,FSIn,FSNa,FSMo,FSPa⟩:=CS
 obtain⟨Bc,fBIn,fdBIn,TB,MB,FBIn⟩:=CG
 obtain⟨Bd,mBd,IB,kB⟩:=CI
 obtain⟨M,NP,TW,R⟩:=CR
 obtain⟨tk,h400⟩:=CK
 obtain⟨fBes,cN,fdBes,mBes,FBes,hBes,hPt⟩:=DN
 have eB:=TB.mgC.symm.trans mBd
 cases eB
 obtain⟨fWit,fdWit,mWit,FWit,_⟩:=dWit
 obtain⟨fKUn,fdKUn,mKUn,FKUn,_⟩:=dKUn
 obtain⟨fMee,fdMee,mMee,FMee,_⟩:=dMee
 obtain⟨fPOf,fdPOf,mPOf,FPOf,_⟩:=dPOf
 obtain⟨fFOf,fdFOf,mFOf,FFOf,_⟩:=dFOf
 obtain⟨fSou,fdSou,mSou,FSou,_⟩:=dSou
 obtain⟨fMtg,fdMtg,mMtg,FMtg,_⟩:=dMtg
 obtain⟨fNFa,fdNFa,mNFa,FNFa,_⟩:=dNFa
 obtain⟨fSFa,fdSFa,mSFa,FSFa,_⟩:=dSFa
 obtain⟨fCFa,fdCFa,mCFa,FCFa,_⟩:=dCFa
 obtain⟨fPat,fdPat,mPat,FPat,_⟩:=dPat
 obtain⟨fCas,fdCas,mCas,FCas,_⟩:=dCas
 obtain⟨fWca,fdWca,mWca,FWca,_⟩:=dWca
 obtain⟨fDon,fdDon,mDon,FDon,_⟩:=dDon
 obtain⟨fMet,fdMet,mMet,FMet,_⟩:=dMet
 obtain⟨fWid,fdWid,mWid,FWid,_⟩:=dWid
 obtain⟨fSts,fdSts,mSts,FSts,_⟩:=dSts
 obtain⟨fSde,fdSde,mSde,FSde,_⟩:=dSde
 obtain⟨fMkL,fdMkL,mMkL,FMkL,_⟩:=dMkL
 obtain⟨fCel,fdCel,mCel,FCel,_⟩:=dCel
 obtain⟨fDra,fdDra,mDra,FDra,_⟩:=dDra
 obtain⟨fNam,fdNam,mNam,FNam,_⟩:=dNam
 obtain⟨fWis,fdWis,mWis,FWis,_⟩:=dWis
 obtain⟨fPcs,fdPcs,mPcs,FPcs,_⟩:=dPcs
 obtain⟨fLWi,fdLWi,mLWi,FLWi,_⟩:=dLWi
 obtain⟨fShf,fdShf,mShf,FShf,_⟩:=dShf
 obtain⟨fLMe,fdLMe,mLMe,FLMe,_⟩:=dLMe
 obtain⟨fLWd,fdLWd,mLWd,FLWd,_⟩:=dLWd
 obtain⟨fToo,fdToo,mToo,FToo,_⟩:=dToo
 obtain⟨fLaw,fdLaw,mLaw,FLaw,_⟩:=dLaw
 have e:=hfa.symm.trans mLaw
 cases e
 obtain⟨oc,od,kV,doc,pm,an,cdv,ct,osl,rfl,lk,hcd⟩:=id FLaw.ex
 refine⟨PySem.W.fnOf "law" "law" (defArgs sLaw) (defBody sLaw) (defScope sLaw) .none kV doc pm an cdv ct,cN,fun s v=>.of_eq rfl,hBes,hPt,fun base _ _ hB=>?_⟩
 have DD:Defs K mg C S:=⟨B,TC,⟨_,_,FWit,mWit⟩,⟨_,_,FMee,mMee⟩,⟨_,_,FMtg,mMtg⟩,⟨_,_,FNFa,mNFa⟩,⟨_,_,FSFa,mSFa⟩,⟨_,_,FCFa,mCFa⟩,⟨_,_,FPat,mPat⟩,⟨_,_,FPOf,mPOf⟩,⟨_,_,_,_,U,FSPa⟩⟩
 have GBes:FnOk P w K mg base (CXR P w) 7 fBes fdBes ["shelf","now","wishes"] (spBes C S Bc TW Pt lamPos lamQual):=okBes FBes B R TB MB FBIn h400 hBes hB FWid mWid ((okWid FWid B U FSNa FSMo FCas mCas).mono (by decide)) FSts mSts ((okSts FSts B U FSNa FSMo FCas mCas FWca mWca FSde mSde).mono (by decide)) FMet mMet ((okMet FMet B FDon mDon FWit mWit).mono (by decide)) FSou mSou ((okSou FSou DD FFOf mFOf).mono (by decide)) FKUn mKUn ((okKUn FKUn B).mono (by decide)) FMkL mMkL ((okMkL FMkL B U FSNa).mono (by decide))
 exact okLaw FLaw B TB IB kB FPcs mPcs ((okPcs FPcs B FCel mCel FDra mDra FNam mNam).mono (by decide)) FNam mNam ((okNam FNam B FDra mDra).mono (by decide)) FCel mCel ((okCel FCel B).mono (by decide)) FWis mWis ((okWis FWis FDra mDra).mono (by decide)) FDra mDra ((okDra FDra).mono (by decide)) FMet mMet ((okMet FMet B FDon mDon FWit mWit).mono (by decide)) FLMe mLMe ((okLMe FLMe).mono (by decide)) FWid mWid ((okWid FWid B U FSNa FSMo FCas mCas).mono (by decide)) FShf mShf ((okShf FShf B TC U MC MS FPIn FSIn).mono (by decide)) FLWd mLWd ((okLWd FLWd B).mono (by decide)) FLWi mLWi ((okLWi FLWi B).mono (by decide)) FToo mToo ((okToo FToo B R FBes.fn mBes GBes).mono (by decide)) FBes.fn mBes (GBes.mono (by decide))
theorem walk{l:PySem.W.OpenLaw}{q:Program}{loose:List Str}{XP:(Str->Option Value)->Heap->Prop}{YP:World->Heap->Prop}{d:DefRec}{K:Params->PySem.W.Frag}{Pt:Addr}(hn:l.most=some 63)(hdf:d.params.defaults = [])
 (hY:∀(w:World) (h:Heap),YP w h->(K w.params).In h/\h.get? Pt=some (PySem.W.tabObj #[]))
 (F:∀(w:World) (mg:Str->Option Value) (fa:Addr) (h:Heap),(K w.params).In h->h.Ns mainGlobals mg->mg d.name=some (.ref fa) ->
  ∃(fd:FuncData) (c:Addr),(∀(s:Shared) (u:Value),BindsTo s fd ⟨[u],[]⟩ [("_law_script",u)])/\PySem.W.codeHdIn (K w.params) c Pt=true/\(K w.params).lookup Pt=none/\∀base:Heap,(K w.params).In base->base.Ns mainGlobals mg->base.BuiltinsAt mg Pt->FnOk l.prog w (K w.params) mg base CX0 9 fa fd ["_law_script"] (spLaw (K w.params) Pt)) :
 PySem.W.WalkO q loose XP YP l.row.toRowW d [] (fun f vs=>PySem.call f vs):=
 L2.walk_ofT (n:=63) (k:=9) (x:="_law_script") (qual:=lamQual) (lpos:=lamPos) (Pt:=Pt) (CX:=fun _=>CX0) (sp:=fun w=>spLaw (K w.params) Pt) hn (by decide) hdf ⟨rfl,by decide,by decide,rfl⟩ hY F (fun _ _ a ns hl hT hS=>⟨a,ns,rfl,hS,hl,.inl hT,fun _ t=>⟨rfl,t⟩⟩) fun _ _ _ _ _ z=>z
end K41
open PySem PySem.W PyProof.Rows
noncomputable def PySem.W.Fast.tw17502080191447449758:Unit:=()
noncomputable def PySem.W.Fast.tw727898440239631819:Unit:=()
noncomputable def PySem.W.Fast.tw3269996808290897865:Unit:=()
noncomputable def PySem.W.Fast.tw4079947430587550380:Unit:=()
noncomputable def PySem.W.Fast.tw15884594159501667501:Unit:=()
noncomputable def PySem.W.Fast.tw10371903797306068820:Unit:=()
noncomputable def PySem.W.Fast.tw3972406746613061752:Unit:=()
noncomputable def PySem.W.Fast.tw2987231743295066051:Unit:=()
noncomputable def PySem.W.Fast.tw12157537429832973873:PySem.Program:=PySem.Challenge.pw_parcelmend_k41_wishes_and_width
noncomputable def PySem.W.Fast.tw18283329813213983569:Unit:=()
noncomputable def PySem.W.Fast.tw3988471380255195184:Unit:=()
noncomputable def PySem.W.Fast.tw9576720334943940347:Unit:=()
noncomputable def PySem.W.Fast.tw15444849399261327999:Unit:=()
noncomputable def PySem.W.Fast.tw15070911951245265725:Unit:=()
noncomputable def PySem.W.Fast.tw8451070394695154850:Unit:=()
noncomputable def PySem.W.Fast.tw3583777124396326823:Unit:=()
noncomputable def PySem.W.Fast.tw8074221377817794798:Unit:=()
noncomputable def PySem.W.Fast.tw17763891915722128301:Unit:=()
noncomputable def PySem.W.Fast.tw17760174342718413496:Unit:=()
noncomputable def PySem.W.Fast.tw4043555433310842228:Unit:=()
noncomputable def PySem.W.Fast.tw13288495744179033974:Unit:=()
set_option maxRecDepth 100000 in
set_option maxHeartbeats 0 in
theorem PySem.Challenge.cw_parcelmend_k41_wishes_and_width_holds : PySem.Challenge.rw_parcelmend_k41_wishes_and_width.Holds := by
 w_on;o_law;k_head;(case hw=>w_witness2)
 k_fill
 refine K41.walk (l:=PySem.Challenge.rw_parcelmend_k41_wishes_and_width) rfl rfl (fun w h Y=>⟨PySem.W.km_in_of Y,PySem.W.km_tabs_of Y _ List.mem_cons_self⟩) ?F
 case F=>
  intro w mg fa h KX G hmg
  refine' K41.all_mk hmg (K41.bltAt_mk KX G ?kk_z0 ?kk_z1 ?kk_z2 ?kk_z3 ?kk_z4 ?kk_z5 ?kk_z6 ?kk_z7 ?kk_z8 ?kk_z9 ?kk_z10 ?kk_z11 ?kk_z12) (K41.clsC_mk KX G ?kk_CaC ?kk_Ca0 ?kk_Ci0 ?kk_Cl0 ?kk_Cc0 ?kk_Ck0 ?kk_Cpg ?kk_Chd ?kk_Cpo ?kk_Csa ?kk_Cmk ?kk_Ckc ?kk_Cn0 ?kk_Cn1 ?kk_Cn2 ?kk_Cn3 ?kk_Cn4 ?kk_Cn5 ?kk_Cn6) (K41.clsS_mk KX G ?kk_SaC ?kk_Sa0 ?kk_Si0 ?kk_Sl0 ?kk_Sc0 ?kk_Sk0 ?kk_Sa1 ?kk_Si1 ?kk_Sl1 ?kk_Sc1 ?kk_Sk1 ?kk_Sa2 ?kk_Si2 ?kk_Sl2 ?kk_Sc2 ?kk_Sk2 ?kk_Sa3 ?kk_Si3 ?kk_Sl3 ?kk_Sc3 ?kk_Sk3 ?kk_Spg ?kk_Shd ?kk_Spo ?kk_Ssa ?kk_Smk ?kk_Skc ?kk_Sn0) (K41.clsG_mk KX G ?kk_GaC ?kk_Ga0 ?kk_Gi0 ?kk_Gl0 ?kk_Gc0 ?kk_Gk0 ?kk_Gpg ?kk_Ghd ?kk_Gpo ?kk_Gsa ?kk_Gmk ?kk_Gkc ?kk_Gn0) (K41.isb_mk KX G ?kk_BnB ?kk_Bcls ?kk_Bspc ?kk_Btak ?kk_Bmro ?kk_BkB) (K41.err_mk KX G ?kk_EnM ?kk_EnNP ?kk_EnTW ?kk_Eexc ?kk_Ega ?kk_Egh ?kk_Ecls ?kk_Espc ?kk_Etak ?kk_Emro ?kk_Emrb ?kk_EkM ?kk_EkP ?kk_Eex) (K41.cst_mk KX G ?kk_q0) (K41.defC_mk KX G ?kk_Na ?kk_Nl ?kk_Nc ?kk_Nk ?kk_Nh ?kk_Nn)
   (L2.defAt_mk KX G ?kk_a0 ?kk_l0 ?kk_c0 ?kk_k0)
   (L2.defAt_mk KX G ?kk_a1 ?kk_l1 ?kk_c1 ?kk_k1)
   (L2.defAt_mk KX G ?kk_a2 ?kk_l2 ?kk_c2 ?kk_k2)
   (L2.defAt_mk KX G ?kk_a3 ?kk_l3 ?kk_c3 ?kk_k3)
   (L2.defAt_mk KX G ?kk_a4 ?kk_l4 ?kk_c4 ?kk_k4)
   (L2.defAt_mk KX G ?kk_a5 ?kk_l5 ?kk_c5 ?kk_k5)
   (L2.defAt_mk KX G ?kk_a6 ?kk_l6 ?kk_c6 ?kk_k6)
   (L2.defAt_mk KX G ?kk_a7 ?kk_l7 ?kk_c7 ?kk_k7)
   (L2.defAt_mk KX G ?kk_a8 ?kk_l8 ?kk_c8 ?kk_k8)
   (L2.defAt_mk KX G ?kk_a9 ?kk_l9 ?kk_c9 ?kk_k9)
   (L2.defAt_mk KX G ?kk_a10 ?kk_l10 ?kk_c10 ?kk_k10)
   (L2.defAt_mk KX G ?kk_a11 ?kk_l11 ?kk_c11 ?kk_k11)
   (L2.defAt_mk KX G ?kk_a12 ?kk_l12 ?kk_c12 ?kk_k12)
   (L2.defAt_mk KX G ?kk_a13 ?kk_l13 ?kk_c13 ?kk_k13)
   (L2.defAt_mk KX G ?kk_a14 ?kk_l14 ?kk_c14 ?kk_k14)
   (L2.defAt_mk KX G ?kk_a15 ?kk_l15 ?kk_c15 ?kk_k15)
   (L2.defAt_mk KX G ?kk_a16 ?kk_l16 ?kk_c16 ?kk_k16)
   (L2.defAt_mk KX G ?kk_a17 ?kk_l17 ?kk_c17 ?kk_k17)
   (L2.defAt_mk KX G ?kk_a18 ?kk_l18 ?kk_c18 ?kk_k18)
   (L2.defAt_mk KX G ?kk_a19 ?kk_l19 ?kk_c19 ?kk_k19)
   (L2.defAt_mk KX G ?kk_a20 ?kk_l20 ?kk_c20 ?kk_k20)
   (L2.defAt_mk KX G ?kk_a21 ?kk_l21 ?kk_c21 ?kk_k21)
   (L2.defAt_mk KX G ?kk_a22 ?kk_l22 ?kk_c22 ?kk_k22)
   (L2.defAt_mk KX G ?kk_a23 ?kk_l23 ?kk_c23 ?kk_k23)
   (L2.defAt_mk KX G ?kk_a24 ?kk_l24 ?kk_c24 ?kk_k24)
   (L2.defAt_mk KX G ?kk_a25 ?kk_l25 ?kk_c25 ?kk_k25)
   (L2.defAt_mk KX G ?kk_a26 ?kk_l26 ?kk_c26 ?kk_k26)
   (L2.defAt_mk KX G ?kk_a27 ?kk_l27 ?kk_c27 ?kk_k27)
   (L2.defAt_mk KX G ?kk_a28 ?kk_l28 ?kk_c28 ?kk_k28)
   (L2.defAt_mk KX G ?kk_a29 ?kk_l29 ?kk_c29 ?kk_k29)
  (case kk_z0=>k_is);(case kk_z1=>k_is);(case kk_z2=>k_is);(case kk_z3=>k_is);(case kk_z4=>k_is);(case kk_z5=>k_is);(case kk_z6=>k_is);(case kk_z7=>k_is);(case kk_z8=>k_is);(case kk_z9=>k_is);(case kk_z10=>k_is);(case kk_z11=>k_is);(case kk_z12=>k_is)
  (case kk_CaC=>k_is);(case kk_Ca0=>k_is);(case kk_Ci0=>k_is);(case kk_Cl0=>k_is);(case kk_Cc0=>k_is);(case kk_Ck0=>k_is);(case kk_Cpg=>k_is);(case kk_Chd=>k_is);(case kk_Cpo=>k_is);(case kk_Csa=>k_is);(case kk_Cmk=>k_is);(case kk_Ckc=>k_is);(case kk_Cn0=>k_is);(case kk_Cn1=>k_is);(case kk_Cn2=>k_is);(case kk_Cn3=>k_is);(case kk_Cn4=>k_is);(case kk_Cn5=>k_is);(case kk_Cn6=>k_is)
  (case kk_SaC=>k_is);(case kk_Sa0=>k_is);(case kk_Si0=>k_is);(case kk_Sl0=>k_is);(case kk_Sc0=>k_is);(case kk_Sk0=>k_is);(case kk_Sa1=>k_is);(case kk_Si1=>k_is);(case kk_Sl1=>k_is);(case kk_Sc1=>k_is);(case kk_Sk1=>k_is);(case kk_Sa2=>k_is);(case kk_Si2=>k_is);(case kk_Sl2=>k_is);(case kk_Sc2=>k_is);(case kk_Sk2=>k_is);(case kk_Sa3=>k_is);(case kk_Si3=>k_is);(case kk_Sl3=>k_is);(case kk_Sc3=>k_is);(case kk_Sk3=>k_is);(case kk_Spg=>k_is);(case kk_Shd=>k_is);(case kk_Spo=>k_is);(case kk_Ssa=>k_is);(case kk_Smk=>k_is);(case kk_Skc=>k_is);(case kk_Sn0=>k_is)
  (case kk_GaC=>k_is);(case kk_Ga0=>k_is);(case kk_Gi0=>k_is);(case kk_Gl0=>k_is);(case kk_Gc0=>k_is);(case kk_Gk0=>k_is);(case kk_Gpg=>k_is);(case kk_Ghd=>k_is);(case kk_Gpo=>k_is);(case kk_Gsa=>k_is);(case kk_Gmk=>k_is);(case kk_Gkc=>k_is);(case kk_Gn0=>k_is)
  (case kk_BnB=>k_is);(case kk_Bcls=>k_is);(case kk_Bspc=>k_is);(case kk_Btak=>k_is);(case kk_Bmro=>k_is);(case kk_BkB=>kit_is)
  (case kk_EnM=>k_is);(case kk_EnNP=>k_is);(case kk_EnTW=>k_is);(case kk_Eexc=>k_exc);(case kk_Ega=>k_is);(case kk_Egh=>k_is);(case kk_Ecls=>k_is);(case kk_Espc=>k_is);(case kk_Etak=>k_is);(case kk_Emro=>k_is);(case kk_Emrb=>k_is);(case kk_EkM=>kit_is);(case kk_EkP=>kit_is);(case kk_Eex=>kts_exm)
  (case kk_q0=>k_is)
  (case kk_Na=>k_is);(case kk_Nl=>k_is);(case kk_Nc=>k_is);(case kk_Nk=>k_is);(case kk_Nh=>(first | k_is | kernel_rfl));(case kk_Nn=>(first | k_is | kernel_rfl))
  (case kk_a0=>k_is);(case kk_l0=>k_is);(case kk_c0=>k_is);(case kk_k0=>k_is)
  (case kk_a1=>k_is);(case kk_l1=>k_is);(case kk_c1=>k_is);(case kk_k1=>k_is)
  (case kk_a2=>k_is);(case kk_l2=>k_is);(case kk_c2=>k_is);(case kk_k2=>k_is)
  (case kk_a3=>k_is);(case kk_l3=>k_is);(case kk_c3=>k_is);(case kk_k3=>k_is)
  (case kk_a4=>k_is);(case kk_l4=>k_is);(case kk_c4=>k_is);(case kk_k4=>k_is)
  (case kk_a5=>k_is);(case kk_l5=>k_is);(case kk_c5=>k_is);(case kk_k5=>k_is)
  (case kk_a6=>k_is);(case kk_l6=>k_is);(case kk_c6=>k_is);(case kk_k6=>k_is)
  (case kk_a7=>k_is);(case kk_l7=>k_is);(case kk_c7=>k_is);(case kk_k7=>k_is)
  (case kk_a8=>k_is);(case kk_l8=>k_is);(case kk_c8=>k_is);(case kk_k8=>k_is)
  (case kk_a9=>k_is);(case kk_l9=>k_is);(case kk_c9=>k_is);(case kk_k9=>k_is)
  (case kk_a10=>k_is);(case kk_l10=>k_is);(case kk_c10=>k_is);(case kk_k10=>k_is)
  (case kk_a11=>k_is);(case kk_l11=>k_is);(case kk_c11=>k_is);(case kk_k11=>k_is)
  (case kk_a12=>k_is);(case kk_l12=>k_is);(case kk_c12=>k_is);(case kk_k12=>k_is)
  (case kk_a13=>k_is);(case kk_l13=>k_is);(case kk_c13=>k_is);(case kk_k13=>k_is)
  (case kk_a14=>k_is);(case kk_l14=>k_is);(case kk_c14=>k_is);(case kk_k14=>k_is)
  (case kk_a15=>k_is);(case kk_l15=>k_is);(case kk_c15=>k_is);(case kk_k15=>k_is)
  (case kk_a16=>k_is);(case kk_l16=>k_is);(case kk_c16=>k_is);(case kk_k16=>k_is)
  (case kk_a17=>k_is);(case kk_l17=>k_is);(case kk_c17=>k_is);(case kk_k17=>k_is)
  (case kk_a18=>k_is);(case kk_l18=>k_is);(case kk_c18=>k_is);(case kk_k18=>k_is)
  (case kk_a19=>k_is);(case kk_l19=>k_is);(case kk_c19=>k_is);(case kk_k19=>k_is)
  (case kk_a20=>k_is);(case kk_l20=>k_is);(case kk_c20=>k_is);(case kk_k20=>k_is)
  (case kk_a21=>k_is);(case kk_l21=>k_is);(case kk_c21=>k_is);(case kk_k21=>k_is)
  (case kk_a22=>k_is);(case kk_l22=>k_is);(case kk_c22=>k_is);(case kk_k22=>k_is)
  (case kk_a23=>k_is);(case kk_l23=>k_is);(case kk_c23=>k_is);(case kk_k23=>k_is)
  (case kk_a24=>k_is);(case kk_l24=>k_is);(case kk_c24=>k_is);(case kk_k24=>k_is)
  (case kk_a25=>k_is);(case kk_l25=>k_is);(case kk_c25=>k_is);(case kk_k25=>k_is)
  (case kk_a26=>k_is);(case kk_l26=>k_is);(case kk_c26=>k_is);(case kk_k26=>k_is)
  (case kk_a27=>k_is);(case kk_l27=>k_is);(case kk_c27=>k_is);(case kk_k27=>k_is)
  (case kk_a28=>k_is);(case kk_l28=>k_is);(case kk_c28=>k_is);(case kk_k28=>k_is)
  (case kk_a29=>k_is);(case kk_l29=>k_is);(case kk_c29=>k_is);(case kk_k29=>k_is)
