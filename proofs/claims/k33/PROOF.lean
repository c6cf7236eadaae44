import PyProof.Rows.All
import Wide.All
import OpenK.AllK
import Wide.FinOn
import Lean
import PyProof.EqAt
import PyProof.EqKinds
import PyProof.TupleCall
import KE.KRevSl
import KE.KDictSum
import KE.KEqDict
import PyProof.P3Eq
import KE.KTryMore
import KE.KLam
import KE.KMinKey
import PySem.Challenge.RW_parcelmend_k33_offers_and_choices


set_option Elab.async false
set_option linter.all false
set_option genInjectivity false
set_option genSizeOf false
set_option genSizeOfSpec false
set_option maxRecDepth 100000
namespace L2
open PySem PySem.Spec PyProof.Rows
noncomputable abbrev Key := Sum Int Str
noncomputable def keyIs : Key → Value → Bool
  | .inl k, v => Value.isInt k v
  | .inr x, v => Value.isStrOf x v
noncomputable def keyH (w : World) : Key → Int
  | .inl k => hashInt k
  | .inr x => hashStr w x
theorem keyIs_shape : ∀ {k : Key} {v : Value}, keyIs k v = true → (∃ i t, k = Sum.inl i ∧ v = Value.int i t) ∨ (∃ x t, k = Sum.inr x ∧ v = Value.str x t)
  | .inl i, v, h => by
    obtain ⟨t, e⟩ := Value.isInt_shape (k := i) (v := v) h
    exact .inl ⟨i, t, rfl, e⟩
  | .inr x, v, h => by
    obtain ⟨t, e⟩ := Value.isStrOf_shape (x := x) (v := v) h
    exact .inr ⟨x, t, rfl, e⟩
theorem keyIs_int (i : Int) (t : Tok) : keyIs (.inl i) (.int i t) = true := by simp [keyIs, Value.isInt]
theorem keyIs_str (x : Str) (t : Tok) : keyIs (.inr x) (.str x t) = true := by simp [keyIs, Value.isStrOf]
theorem key_ll (a b : Int) : decide ((Sum.inl a : Key) = Sum.inl b) = (a == b) := by
  by_cases e : a = b
  · subst e; simp
  · have h : ¬ (Sum.inl a : Key) = Sum.inl b := fun q => e (Sum.inl.inj q)
    rw [decide_eq_false h]
    exact (beq_eq_false_iff_ne.mpr e).symm
theorem key_rr (a b : Str) : decide ((Sum.inr a : Key) = Sum.inr b) = decide (a = b) := by
  by_cases e : a = b
  · subst e; simp
  · have h : ¬ (Sum.inr a : Key) = Sum.inr b := fun q => e (Sum.inr.inj q)
    rw [decide_eq_false h, decide_eq_false e]
theorem key_lr (a : Int) (b : Str) : decide ((Sum.inl a : Key) = Sum.inr b) = false := decide_eq_false (fun q => nomatch q)
theorem key_rl (a : Str) (b : Int) : decide ((Sum.inr a : Key) = Sum.inl b) = false := decide_eq_false (fun q => nomatch q)
noncomputable def mixKind (prog : Program) (w : World) : PySem.KeyKind prog w Key where
  is := keyIs
  hash := keyH w
  inj := fun v a b ha hb => by
    rcases keyIs_shape ha with ⟨i, t, rfl, rfl⟩ | ⟨x, t, rfl, rfl⟩
    · rcases keyIs_shape hb with ⟨j, u, rfl, e⟩ | ⟨y, u, rfl, e⟩
      · injection e with e1 _; rw [e1]
      · exact nomatch e
    · rcases keyIs_shape hb with ⟨j, u, rfl, e⟩ | ⟨y, u, rfl, e⟩
      · exact nomatch e
      · injection e with e1 _; rw [e1]
  byValue := fun k v h => by
    rcases keyIs_shape h with ⟨i, t, rfl, rfl⟩ | ⟨x, t, rfl, rfl⟩ <;> rfl
  pyHash := fun hv h => by
    rcases keyIs_shape hv with ⟨i, t, rfl, rfl⟩ | ⟨x, t, rfl, rfl⟩
    · exact wpAny_pyHash_int h
    · exact wpAny_pyHash_str h
  eqBool := fun hu hv h => by
    rcases keyIs_shape hu with ⟨i, t, rfl, rfl⟩ | ⟨x, t, rfl, rfl⟩
    · rcases keyIs_shape hv with ⟨j, u, rfl, rfl⟩ | ⟨y, u, rfl, rfl⟩
      · rw [key_ll] at h; exact wpAny_eqBool_int h
      · rw [key_lr] at h; exact SeqAt.EqAt.int_str i t y u _ _ _ _ h
    · rcases keyIs_shape hv with ⟨j, u, rfl, rfl⟩ | ⟨y, u, rfl, rfl⟩
      · rw [key_rl] at h; exact SeqAt.EqAt.str_int x t j u _ _ _ _ h
      · rw [key_rr] at h; exact wpAny_eqBool_str h
  «strs» := fun k x t v h => by
    rcases keyIs_shape h with ⟨i, u, rfl, e⟩ | ⟨y, u, rfl, e⟩
    · exact nomatch e
    · injection e with e1 _
      subst e1
      cases v <;> rfl
theorem mixKind_int (prog : Program) (w : World) (i : Int) (t : Tok) : (mixKind prog w).is (.inl i) (.int i t) = true := keyIs_int i t
theorem mixKind_str (prog : Program) (w : World) (x : Str) (t : Tok) : (mixKind prog w).is (.inr x) (.str x t) = true := keyIs_str x t
end L2
namespace L2
open PySem PySem.Spec PyProof.Rows
noncomputable abbrev NI := Sum Key (List Key)
section
variable {P : Program} {w : World}
noncomputable def NItem (P : Program) (w : World) (h : Heap) : NI → Value → Prop
  | .inl k, v => keyIs k v = true
  | .inr ls, v => ∃ b, v = .ref b ∧ IsTupleKey (mixKind P w) h ls b
inductive NItems (P : Program) (w : World) (h : Heap) : List NI → List Value → Prop
  | nil : NItems P w h [] []
  | cons {i : NI} {v : Value} {ks : List NI} {vs : List Value} : NItem P w h i v → NItems P w h ks vs → NItems P w h (i :: ks) (v :: vs)
noncomputable def NKey (P : Program) (w : World) (h : Heap) (ks : List NI) (a : Addr) : Prop := ∃ o items n, h.get? a = some o ∧ o.cls = .type "tuple" ∧ o.data = .seq items n ∧ NItems P w h ks items.toList
noncomputable def niHash (P : Program) (w : World) : NI → Int
  | .inl k => keyH w k
  | .inr ls => tupleKeyHash (mixKind P w) ls
noncomputable def niDraws : NI → Nat
  | .inl _ => 1
  | .inr ls => ls.length + 1
noncomputable def nkHash (P : Program) (w : World) (ks : List NI) : Int := reduceHash (Builtin.Tuple.tupleHashOf (ks.map (niHash P w)))
noncomputable def nkDraws (ks : List NI) : Nat := (ks.map niDraws).sum + 1
theorem NItem.inj {h : Heap} {i j : NI} {v : Value} (a : NItem P w h i v) (b : NItem P w h j v) : i = j := by
  cases i with
  | inl k =>
    cases j with
    | inl l => rw [(mixKind P w).inj v k l a b]
    | inr l =>
      obtain ⟨c, rfl, _⟩ := b
      rcases keyIs_shape a with ⟨_, _, _, e⟩ | ⟨_, _, _, e⟩ <;> cases e
  | inr k =>
    obtain ⟨c, rfl, hc⟩ := a
    cases j with
    | inl l => rcases keyIs_shape b with ⟨_, _, _, e⟩ | ⟨_, _, _, e⟩ <;> cases e
    | inr l =>
      obtain ⟨d, e, hd⟩ := b
      cases e
      rw [hc.inj hd]
theorem NItems.inj {h : Heap} {x y : List NI} {vs : List Value} (a : NItems P w h x vs) (b : NItems P w h y vs) : x = y := by
  induction a generalizing y with
  | nil => cases b; rfl
  | cons p _ ih =>
    cases b with
    | cons q r => rw [p.inj q, ih r]
theorem NKey.typeIs {s : Shared} {ks : List NI} {a : Addr} (x : NKey P w s.heap ks a) : s.TypeIs (.ref a) "tuple" := x.elim fun o zq447 => zq447.elim fun _ zq448 => zq448.elim fun _ zq449 => zq449.elim fun ho zq450 => zq450.elim fun hc _ => ⟨o, ho, hc⟩
theorem NKey.inj {h : Heap} {a : Addr} {x y : List NI} (p : NKey P w h x a) (q : NKey P w h y a) : x = y := by
  obtain ⟨o, its, n, e, _, d, i⟩ := p
  obtain ⟨o', its', n', e', _, d', i'⟩ := q
  rw [e] at e'; cases e'
  rw [d] at d'
  injection d' with d1 _
  subst d1
  exact i.inj i'
theorem NItems.keeps {h h' : Heap} {ks : List NI} {vs : List Value} (k : ∀ ls b, IsTupleKey (mixKind P w) h ls b → IsTupleKey (mixKind P w) h' ls b) (x : NItems P w h ks vs) : NItems P w h' ks vs := by
  induction x with
  | nil => exact .nil
  | @cons i v ks vs p _ ih =>
    refine .cons ?_ ih
    cases i with
    | inl l => exact p
    | inr l =>
      obtain ⟨b, e, hb⟩ := p
      exact ⟨b, e, k _ _ hb⟩
theorem NKey.keeps {h h' : Heap} {ks : List NI} {a d : Addr} {o : Obj} {es : Array DictEntry} {ep : Nat} (x : NKey P w h ks a) (ho : h.get? d = some o) (hd : o.data = .dict es ep) (hs : Heap.SameBut d h h') : NKey P w h' ks a := by
  obtain ⟨oa, its, n, e, c, e2, i⟩ := x
  have ne : a ≠ d := by
    intro z
    rw [z, ho] at e
    cases e
    rw [hd] at e2
    cases e2
  exact ⟨oa, its, n, (hs.2 a ne).trans e, c, e2, i.keeps fun ls b hb => hb.keeps ho hd hs⟩
variable {A : Around} {E : Value → Shared → Prop} {s : Shared}
theorem NItem.hash {i : NI} {v : Value} {Q : Int → Shared → Prop} (hu : A.units < cLine) (x : NItem P w s.heap i v) (h : Q (niHash P w i) { s with toks := s.toks + niDraws i }) : wpAny (model P w) A (pyHash v) Q E s := by
  cases i with
  | inl k => exact (mixKind P w).pyHash (k := k) x h
  | inr ls =>
    obtain ⟨b, rfl, hb⟩ := x
    exact wpAny_pyHash_tuple hu hb h
theorem NItem.eq {i j : NI} {u v : Value} {Q : Bool → Shared → Prop} (hu : A.units < cLine) (x : NItem P w s.heap i u) (y : NItem P w s.heap j v) (h : Q (decide (i = j)) s) : wpAny (model P w) A (eqBool u v) Q E s := by
  cases i with
  | inl k =>
    cases j with
    | inl l =>
      have e : decide ((Sum.inl k : NI) = Sum.inl l) = decide (k = l) := by
        by_cases q : k = l
        · rw [q]; simp
        · rw [decide_eq_false q, decide_eq_false (fun z => q (Sum.inl.inj z))]
      rw [e] at h
      exact (mixKind P w).eqBool (a := k) (b := l) x y h
    | inr l =>
      rw [decide_eq_false (fun z => nomatch z)] at h
      obtain ⟨b, rfl, o, its, n, e, c, d, _⟩ := y
      rcases keyIs_shape x with ⟨a, t, _, rfl⟩ | ⟨a, t, _, rfl⟩
      · exact SeqAt.EqAt.int_tuple a t ⟨o, e, c, n, d⟩ hu _ _ _ _ h
      · exact SeqAt.EqAt.str_tuple a t ⟨o, e, c, n, d⟩ hu _ _ _ _ h
  | inr k =>
    obtain ⟨a, rfl, ha⟩ := x
    cases j with
    | inl l =>
      rw [decide_eq_false (fun z => nomatch z)] at h
      obtain ⟨o, its, n, e, c, d, _⟩ := ha
      rcases keyIs_shape y with ⟨b, t, _, rfl⟩ | ⟨b, t, _, rfl⟩
      · exact SeqAt.EqAt.tuple_int b t ⟨o, e, c, n, d⟩ hu _ _ _ _ h
      · exact SeqAt.EqAt.tuple_str b t ⟨o, e, c, n, d⟩ hu _ _ _ _ h
    | inr l =>
      obtain ⟨b, rfl, hb⟩ := y
      have e : decide ((Sum.inr k : NI) = Sum.inr l) = decide (k = l) := by
        by_cases q : k = l
        · rw [q]; simp
        · rw [decide_eq_false q, decide_eq_false (fun z => q (Sum.inr.inj z))]
      rw [e] at h
      exact wpAny_eqBool_tuple hu ha hb h
theorem nest_hash {ks : List NI} {a : Addr} {Q : Int → Shared → Prop} (hu : A.units + 8 < cLine) (hk : NKey P w s.heap ks a) (h : Q (nkHash P w ks) { s with toks := s.toks + nkDraws ks }) : wpAny (model P w) A (pyHash (.ref a)) Q E s := by
  have hT := hk.typeIs
  obtain ⟨o, its, n, ho, _, hd, hi⟩ := hk
  have hu0 : A.units < cLine := by omega
  unfold pyHash
  first | unfold pyHashByItsType | skip
  first | refine wpAny_bind (wpAny_cRoomFor_or (.inr hu0) ?_) | skip
  refine wpAny_bind (wpAny_specialOf hT F.slot_tuple_hash.lookup ?_)
  show wpAny _ _ (if (some (Value.builtin "tuple.__hash__") == some Value.none) = true then _ else _) Q E s
  rw [if_neg (by rw [beq_builtin_none]; exact Bool.false_ne_true)]
  refine wpAny_bind (wpAny_specialOf hT F.slot_tuple_hash.lookup ?_)
  show wpAny _ _ (callSpecialIfBoundUnlessNone? (.ref a) "__hash__" _ >>= _) Q E s
  refine wpAny_bind (wpAny_callSpecialIfBoundUnlessNone?_slot hT F.slot_tuple_hash (wpAny_call_entry F.slot_tuple_hash hT F.entry_tuple_hash ?_ (F.args_tuple_hash_1 _)))
  show wpAny _ _ (Builtin.Tuple.tupleItemsOf (.ref a) >>= _) _ _ s
  refine wpAny_bind (wpAny_tupleItemsOf ho hd ?_)
  refine wpAny_bind ?_
  rw [← Array.forIn_toList]
  refine wpAny_forIn_list _
    (fun rest (b : Array Int) s' => ∃ done left, ks = done ++ left ∧ NItems P w s.heap left rest ∧ b.toList = done.map (niHash P w) ∧ s' = { s with toks := s.toks + (done.map niDraws).sum })
    _ ?_ ?_ _ _ ⟨[], ks, rfl, hi, rfl, rfl⟩
  · rintro x rest b s' ⟨done, left, rfl, hl, hb, rfl⟩
    cases hl with
    | @cons k _ ks' _ h1 hl' =>
      refine wpAny_bind (NItem.hash (i := k) (show A.units + 1 < cLine by omega) h1 ?_)
      first
        | exact wpAny_pure ⟨done ++ [k], ks', by simp, hl', by simp [hb], by simp [Nat.add_assoc]⟩
        | exact wpAny_bind (wpAny_pure (wpAny_pure ⟨done ++ [k], ks', by simp, hl', by simp [hb], by simp [Nat.add_assoc]⟩))
  · rintro b s' ⟨done, left, rfl, hl, hb, rfl⟩
    cases hl
    rw [List.append_nil] at h
    show wpAny _ _ (retInt (Builtin.Tuple.tupleHashOf b.toList)) _ _ _
    rw [hb]
    refine wpAny_ret_mkInt ?_
    generalize hz : Builtin.Tuple.tupleHashOf (done.map (niHash P w)) = z at h ⊢
    show wpAny _ _ (if (decide (-(2 : Int) ^ 63 ≤ z) && decide (z < 2 ^ 63)) = true then _ else _) Q E _
    unfold nkHash reduceHash at h
    rw [hz] at h
    by_cases hr : (decide (-(2 : Int) ^ 63 ≤ z) && decide (z < 2 ^ 63)) = true
    · rw [if_pos hr]
      rw [if_pos hr] at h
      exact wpAny_pure (by simpa [Nat.add_assoc, nkDraws] using h)
    · rw [if_neg hr]
      rw [if_neg hr] at h
      exact wpAny_bind (wpAny_rule (wpAny_pure (by simpa [Nat.add_assoc, nkDraws] using h)))
theorem nest_eqTree {x y : List NI} {a b : Addr} {R : PySem.Fin → Shared → Prop} (hu : A.units < cLine) (hx : NKey P w s.heap x a) (hy : NKey P w s.heap y b) (h : R (.done (.ret (.bool (decide (x = y))))) s) :
    wpAny (model P w) A (Builtin.«tuple.__eq__» ⟨[.ref a, .ref b], []⟩) R E s := by
  have hTb := hy.typeIs
  obtain ⟨oa, xs, na, hoa, _, hda, hia⟩ := hx
  obtain ⟨ob, ys, nb, hob, _, hdb, hib⟩ := hy
  show wpAny _ _ (isInstance (.ref b) (.type "tuple") >>= _) _ _ s
  refine wpAny_bind (wpAny_isInstance hTb isSubtype_tuple_tuple ?_)
  simp only [Bool.not_true, Bool.false_eq_true, if_false]
  refine wpAny_bind (wpAny_tupleItemsOf hoa hda ?_)
  refine wpAny_bind (wpAny_tupleItemsOf hob hdb ?_)
  refine wpAny_bind ?_
  refine wpAny_forIn_list _
    (fun rest r s' => r.1 = none ∧ s' = s ∧ ∃ x' y' xs' ys', rest = List.zip xs' ys' ∧ NItems P w s.heap x' xs' ∧ NItems P w s.heap y' ys' ∧ decide (x' = y') = decide (x = y) ∧ (xs'.length == ys'.length) = (xs.size == ys.size))
    _ ?_ ?_ _ _ ⟨rfl, rfl, x, y, xs.toList, ys.toList, rfl, hia, hib, rfl, by simp⟩
  · rintro ⟨u, v⟩ rest r s' ⟨hr, rfl, x', y', xs', ys', hz, hx', hy', hdec, hlen⟩
    cases hx' with
    | nil => simp at hz
    | @cons k1 u' x'' xs'' h1 hx'' =>
      cases hy' with
      | nil => simp at hz
      | @cons k2 v' y'' ys'' h2 hy'' =>
        simp only [List.zip_cons_cons, List.cons.injEq, Prod.mk.injEq] at hz
        obtain ⟨⟨rfl, rfl⟩, rfl⟩ := hz
        refine wpAny_bind (NItem.eq (i := k1) (j := k2) hu h1 h2 ?_)
        by_cases hk : k1 = k2
        · subst hk
          rw [decide_eq_true rfl]
          simp only [Bool.not_true, Bool.false_eq_true, if_false]
          refine wpAny_pure ⟨rfl, rfl, x'', y'', xs'', ys'', rfl, hx'', hy'', ?_, by simpa using hlen⟩
          rw [← hdec]
          by_cases hxy : x'' = y''
          · simp [hxy]
          · simp [hxy]
        · rw [decide_eq_false hk]
          simp only [Bool.not_false, if_true]
          have hf : decide (x = y) = false := by rw [← hdec]; simp [hk]
          rw [hf] at h
          exact wpAny_bind (wpAny_pure (wpAny_pure (wpAny_pure h)))
  · rintro ⟨r1, r2⟩ s' ⟨hr, rfl, x', y', xs', ys', hz, hx', hy', hdec, hlen⟩
    simp only at hr
    subst hr
    refine wpAny_pure ?_
    have hfin : (xs.size == ys.size) = decide (x = y) := by
      rw [← hdec, ← hlen]
      cases hx' with
      | nil =>
        cases hy' with
        | nil => simp
        | cons _ _ => simp
      | cons _ _ =>
        cases hy' with
        | nil => simp
        | cons _ _ => simp at hz
    show R (.done (.ret (.bool (xs.size == ys.size)))) s'
    rw [hfin]; exact h
theorem nest_eqBool {x y : List NI} {a b : Addr} {Q : Bool → Shared → Prop} (hu : A.units + 8 < cLine) (hx : NKey P w s.heap x a) (hy : NKey P w s.heap y b) (h : Q (decide (x = y)) s) :
    wpAny (model P w) A (eqBool (.ref a) (.ref b)) Q E s := by
  unfold eqBool
  try with_reducible refine wpAny_holding ?_
  show wpAny _ _ (if (Value.ref a == Value.ref b) = true then _ else _) Q E s
  by_cases hab : (Value.ref a == Value.ref b) = true
  · rw [if_pos hab]
    have e : a = b := by have := eq_of_beq hab; injection this
    subst e
    obtain rfl := hx.inj hy
    exact wpAny_bind (wpAny_rule (wpAny_pure (by simpa using h)))
  · rw [if_neg hab]
    exact wpAny_bind (wpAny_richCompare_same_room (op := .Eq) hx.typeIs hy.typeIs F.slot_tuple_eq
      (wpAny_call_entry F.slot_tuple_eq hx.typeIs F.entry_tuple_eq (nest_eqTree (show A.units + 1 < cLine by omega) hx hy ⟨_, rfl, (fun e => nomatch e), wpAny_truthy_bool h⟩) (F.args_tuple_eq_2 _ _)) (by omega))
theorem nest_quiet0 {M : Model} {ls : List Key} {a : Addr} {n : Nat} {Q : Bool → Shared → Prop} (hk : IsTupleKey (mixKind P w) s.heap ls a) (h : Q true s) : wpAny M A (eqIsQuiet (n + 1) (.ref a)) Q E s := by
  have hT := hk.typeIs
  obtain ⟨o, its, m, ho, _, hd, hi⟩ := hk
  unfold eqIsQuiet
  refine wpAny_bind (wpAny_specialOf hT F.slot_tuple_eq.lookup ?_)
  show wpAny _ _ (isInstance (.ref a) (.type "tuple") >>= _) _ _ s
  refine wpAny_bind (wpAny_isInstance hT isSubtype_tuple_tuple ?_)
  simp only [Bool.not_true, Bool.false_eq_true, if_false]
  refine wpAny_bind (wpAny_seqItems ho hd ?_)
  refine wpAny_bind ?_
  show wpAny _ _ (forIn its _ _) _ _ s
  rw [← Array.forIn_toList]
  refine wpAny_forIn_list _ (fun rest r s' => r.1 = none ∧ s' = s ∧ ∀ v ∈ rest, carriedByValue v = true) _ ?_ ?_ _ _ ⟨rfl, rfl, hi.byValue⟩
  · rintro v rest r s' ⟨hr, rfl, hall⟩
    rw [eqIsQuiet_byValue _ (hall v List.mem_cons_self)]
    refine wpAny_bind (wpAny_pure ?_)
    simp only [Bool.not_true, Bool.false_eq_true, if_false]
    exact wpAny_pure ⟨rfl, rfl, fun u hu' => hall u (List.mem_cons_of_mem _ hu')⟩
  · rintro ⟨r1, r2⟩ s' ⟨hr, rfl, _⟩
    simp only at hr
    subst hr
    exact wpAny_pure h
theorem nest_quiet {M : Model} {ks : List NI} {a : Addr} {Q : Bool → Shared → Prop} (hk : NKey P w s.heap ks a) (h : Q true s) : wpAny M A (eqIsQuiet 8 (.ref a)) Q E s := by
  have hT := hk.typeIs
  obtain ⟨o, its, m, ho, _, hd, hi⟩ := hk
  unfold eqIsQuiet
  refine wpAny_bind (wpAny_specialOf hT F.slot_tuple_eq.lookup ?_)
  show wpAny _ _ (isInstance (.ref a) (.type "tuple") >>= _) _ _ s
  refine wpAny_bind (wpAny_isInstance hT isSubtype_tuple_tuple ?_)
  simp only [Bool.not_true, Bool.false_eq_true, if_false]
  refine wpAny_bind (wpAny_seqItems ho hd ?_)
  refine wpAny_bind ?_
  show wpAny _ _ (forIn its _ _) _ _ s
  rw [← Array.forIn_toList]
  refine wpAny_forIn_list _ (fun rest r s' => r.1 = none ∧ s' = s ∧ ∃ ls, NItems P w s.heap ls rest) _ ?_ ?_ _ _ ⟨rfl, rfl, ks, hi⟩
  · rintro v rest r s' ⟨hr, rfl, ls, hls⟩
    cases hls with
    | @cons i _ ls' _ h1 h2 =>
      have fin : ∀ {R : Bool → Shared → Prop}, R true s' → wpAny M A (eqIsQuiet 7 v) R E s' := fun {R} q => by
        cases i with
        | inl k =>
          rw [eqIsQuiet_byValue _ ((mixKind P w).byValue k v h1)]
          exact wpAny_pure q
        | inr l =>
          obtain ⟨b, rfl, hb⟩ := h1
          exact nest_quiet0 hb q
      refine wpAny_bind (fin ?_)
      simp only [Bool.not_true, Bool.false_eq_true, if_false]
      exact wpAny_pure ⟨rfl, rfl, ls', h2⟩
  · rintro ⟨r1, r2⟩ s' ⟨hr, rfl, _⟩
    simp only at hr
    subst hr
    exact wpAny_pure h
end
noncomputable def nestKind (P : Program) (w : World) : HeapKind P w (List NI) where
  is := NKey P w
  hash := nkHash P w
  draws := nkDraws
  room := fun A => A.units + 8 < cLine
  inj := fun a b => a.inj b
  keeps := fun x ho hd hs => x.keeps ho hd hs
  pyHash := fun hu hk h => nest_hash hu hk h
  eqBool := fun hu hx hy h => nest_eqBool hu hx hy h
  quiet := fun hk h => nest_quiet hk h
theorem nestKind_room {P : Program} {w : World} {A : Around} (hu : A.units + 64 < cLine) : (nestKind P w).room A.in1 := show A.units + 1 + 8 < cLine by omega
end L2
namespace L2
open PySem PySem.Spec PyProof.Rows
set_option genInjectivity true in
inductive V where
  | non | bl (b : Bool) | int (i : Int) | str (x : Str) | byt (b : Array UInt8) | flt (b : UInt64) | ref (a : Addr) | ty (n : String)
  deriving DecidableEq
noncomputable def RelV : V → Value → Prop
  | .non, u => u = Value.none
  | .bl b, u => u = Value.bool b
  | .int i, u => ∃ t, u = Value.int i t
  | .str x, u => ∃ t, u = Value.str x t
  | .byt b, u => ∃ t, u = Value.bytes b t
  | .flt b, u => ∃ t, u = Value.float b t
  | .ref a, u => u = Value.ref a
  | .ty n, u => u = Value.type n
noncomputable abbrev Vals : List V → List Value → Prop := Paired RelV
theorem Vals.length {xs : List V} {us : List Value} (r : Vals xs us) : xs.length = us.length := Paired.length r
theorem Vals.get : ∀ {xs : List V} {us : List Value} {i : Nat} {x : V}, Vals xs us → xs[i]? = some x → ∃ u, us[i]? = some u ∧ RelV x u
  | _, _, _, _, .nil, e => by simp at e
  | _, _, 0, _, .cons r _, e => by simp at e; subst e; exact ⟨_, rfl, r⟩
  | _, _, i + 1, x, .cons _ t, e => by
    obtain ⟨u, h1, h2⟩ := Vals.get (i := i) (x := x) t (by simpa using e)
    exact ⟨u, by simpa using h1, h2⟩
theorem Vals.append : ∀ {xs ys : List V} {us ws : List Value}, Vals xs us → Vals ys ws → Vals (xs ++ ys) (us ++ ws)
  | _, _, _, _, .nil, s => s
  | _, _, _, _, .cons r t, s => .cons r (Vals.append t s)
noncomputable def RelO : Option V → Option Value → Prop
  | some v, some u => RelV v u
  | none, none => True
  | _, _ => False
noncomputable def KV {κ : Type} : List (κ × V) → List (κ × Value) → Prop := Paired fun (p : κ × V) (q : κ × Value) => p.1 = q.1 ∧ RelV p.2 q.2
noncomputable def kV : Key → V
  | .inl i => .int i
  | .inr x => .str x
inductive HO where
  | lst (xs : List V)
  | tup (xs : List V)
  | dK (kvs : List (Key × V)) | dT (kvs : List (List NI × V))
  | set (S : Int → Bool) (n : Nat)
  | ins (C dx : Addr) (fs : List (Str × V))
  | own (x : Addr)
  | xd (fs : List (Str × V))
  | met (f x : Addr)
  | rng (lo hi : Int)
  | frz (o : Obj) (u : HO)
  | tbl (ps : Array Value)
  | ext (φ : Heap → Prop)
noncomputable abbrev Hp := Addr → Option HO
noncomputable def upd (H : Hp) (a : Addr) (o : HO) : Hp := fun b => if b = a then some o else H b
theorem upd_same {H : Hp} {a : Addr} {o : HO} : upd H a o a = some o := by unfold upd; rw [if_pos rfl]
theorem upd_ne {H : Hp} {a b : Addr} {o : HO} (h : b ≠ a) : upd H a o b = H b := by unfold upd; rw [if_neg h]
theorem ne_of {H : Hp} {a b : Addr} {o u : HO} (h : H a = some o) (h' : H b = some u) (d : o ≠ u) : a ≠ b := by
  intro e; subst e; rw [h] at h'; exact d (Option.some.inj h')
theorem ne_of_none {H : Hp} {a b : Addr} {o : HO} (h : H a = some o) (h' : H b = none) : a ≠ b := by
  intro e; subst e; rw [h] at h'; cases h'
noncomputable def NV (H : Hp) : NI → V → Prop
  | .inl k, v => v = kV k
  | .inr ls, v => ∃ b, v = .ref b ∧ H b = some (.tup (ls.map kV))
noncomputable abbrev NVs (H : Hp) : List NI → List V → Prop := Paired (NV H)
noncomputable def NAt (H : Hp) (ks : List NI) (a : Addr) : Prop := ∃ vs, H a = some (.tup vs) ∧ NVs H ks vs
theorem paired_mapP {α β : Type} {F G : α → β → Prop} : ∀ {l₁ : List α} {l₂ : List β}, Paired F l₁ l₂ → (∀ a b, F a b → G a b) → Paired G l₁ l₂
  | _, _, .nil, _ => .nil
  | _, _, .cons r t, f => .cons (f _ _ r) (paired_mapP t f)
theorem NAt.keeps {H H' : Hp} {ks : List NI} {a : Addr} (x : NAt H ks a) (ht : ∀ b xs, H b = some (.tup xs) → H' b = some (.tup xs)) : NAt H' ks a := by
  obtain ⟨vs, e, r⟩ := x
  refine ⟨vs, ht _ _ e, paired_mapP r fun i v z => ?_⟩
  cases i with
  | inl k => exact z
  | inr l =>
    obtain ⟨b, e1, e2⟩ := z
    exact ⟨b, e1, ht _ _ e2⟩
section
variable (P : Program) (w : World)
noncomputable def ObjOk (H : Hp) (h : Heap) (a : Addr) : HO → Prop
  | .lst xs => xs.length ≤ sizeLine ∧ ∃ (its : List Value) (n : Nat), Vals xs its ∧ h.get? a = some { cls := .type "list", data := .seq its.toArray n }
  | .tup xs => xs.length ≤ sizeLine ∧ ∃ its : List Value, Vals xs its ∧ IsTup h a its.toArray
  | .dK kvs => kvs.length ≤ sizeLine ∧ (a == sysModules) = false ∧ ∃ vs, KV kvs vs ∧ h.DictOf (mixKind P w) a vs
  | .dT kvs => kvs.length ≤ sizeLine ∧ (a == sysModules) = false ∧ ∃ xs : List (List NI × Addr × Value),
      Paired (fun (p : List NI × V) (q : List NI × Addr × Value) => p.1 = q.1 ∧ NAt H p.1 q.2.1 ∧ RelV p.2 q.2.2) kvs xs ∧
      ∃ o es ep, h.get? a = some o ∧ o.ExactDict ∧ o.data = .dict es ep ∧ es.toList = xs.map (entryOfKey (nestKind P w)) ∧ (xs.map (·.1)).Nodup
  | .set S n => h.SetOf (intKind P w) a S n
  | .ins C dx fs => H dx = some (.own a) ∧ fs.length ≤ 1000 ∧ dx ≠ a ∧ h.get? a = some (PySem.W.instObj C dx) ∧
      ∃ mA, h.Ns1 dx mA ∧ (∀ f, RelO (fs.lookup f) (mA f)) ∧ PySem.Within mA (fs.map (·.1))
  | .own _ => ∃ o, h.get? a = some o
  | .xd fs => ∃ mA, h.Ns1 a mA ∧ ∀ f, RelO (fs.lookup f) (mA f)
  | .rng lo hi => ∃ t u v, h.get? a = some { cls := .type "range", data := .fields #[.int lo t, .int hi u, .int 1 v] }
  | .frz o u => h.get? a = some o ∧ ObjOk H h a u
  | .tbl ps => h.get? a = some { cls := .none, data := .fields ps }
  | .met f x => h.get? a = some (PySem.W.methodObj (.ref f) (.ref x))
  | .ext φ => φ h ∧ (∃ o, h.get? a = some o) ∧ ∀ h1 h2 : Heap, φ h1 → (∀ o, h1.get? a = some o → h2.get? a = some o) → φ h2
noncomputable def HOk (H : Hp) (h : Heap) : Prop := ∀ a o, H a = some o → ObjOk P w H h a o
end
section
variable {P : Program} {w : World} {H H' : Hp} {h h' : Heap} {a : Addr} {o : HO}
theorem ObjOk.lt (x : ObjOk P w H h a o) : a < h.objs.size := by
  cases o with
  | lst xs => obtain ⟨_, _, _, _, e⟩ := x; exact Heap.lt_size e
  | tup xs => obtain ⟨_, _, _, p⟩ := x; exact p.lt
  | dK kvs => obtain ⟨_, _, _, _, o, _, _, e, _⟩ := x; exact Heap.lt_size e
  | dT kvs => obtain ⟨_, _, _, _, o, _, _, e, _⟩ := x; exact Heap.lt_size e
  | set S n => obtain ⟨o, _, _, _, e, _⟩ := x; exact Heap.lt_size e
  | ins C dx fs => obtain ⟨_, _, _, e, _⟩ := x; exact Heap.lt_size e
  | own y => obtain ⟨_, e⟩ := x; exact Heap.lt_size e
  | xd fs => obtain ⟨_, ⟨_, _, _, e, _⟩, _⟩ := x; exact Heap.lt_size e
  | rng lo hi => obtain ⟨_, _, _, e⟩ := x; exact Heap.lt_size e
  | frz ob u => obtain ⟨e, _⟩ := x; exact Heap.lt_size e
  | tbl ps => exact Heap.lt_size (show h.get? a = some _ from x)
  | met f y => exact Heap.lt_size (show h.get? a = some _ from x)
  | ext φ => obtain ⟨_, ⟨_, e⟩, _⟩ := x; exact Heap.lt_size e
theorem Paired.mapP {α β : Type} {F G : α → β → Prop} : ∀ {l₁ : List α} {l₂ : List β}, Paired F l₁ l₂ → (∀ a b, F a b → G a b) → Paired G l₁ l₂
  | _, _, .nil, _ => .nil
  | _, _, .cons r t, f => .cons (f _ _ r) (Paired.mapP t f)
theorem ObjOk.stay (x : ObjOk P w H h a o) (k : ∀ b u, (b = a ∨ H b = some (.own a)) → h.get? b = some u → h'.get? b = some u)
    (ho : ∀ b, H b = some (.own a) → H' b = some (.own a)) (ht : ∀ b xs, H b = some (.tup xs) → H' b = some (.tup xs)) : ObjOk P w H' h' a o := by
  induction o with
  | lst xs => obtain ⟨z, its, n, r, e⟩ := x; exact ⟨z, its, n, r, k _ _ (.inl rfl) e⟩
  | tup xs => obtain ⟨z, its, r, ob, e, c⟩ := x; exact ⟨z, its, r, ob, k _ _ (.inl rfl) e, c⟩
  | dK kvs => obtain ⟨z, y, vs, r, ob, es, ep, e, c⟩ := x; exact ⟨z, y, vs, r, ob, es, ep, k _ _ (.inl rfl) e, c⟩
  | dT kvs =>
    obtain ⟨z, y, xs, r, ob, es, ep, e, c⟩ := x
    exact ⟨z, y, xs, Paired.mapP r fun p q z => ⟨z.1, z.2.1.keeps ht, z.2.2⟩, ob, es, ep, k _ _ (.inl rfl) e, c⟩
  | set S n => obtain ⟨ob, es, ep, t, e, c⟩ := x; exact ⟨ob, es, ep, t, k _ _ (.inl rfl) e, c⟩
  | ins C dx fs =>
    obtain ⟨d, z, ne, e, mA, ⟨od, es, ep, e2, c⟩, r⟩ := x
    exact ⟨ho _ d, z, ne, k _ _ (.inl rfl) e, mA, ⟨od, es, ep, k _ _ (.inr d) e2, c⟩, r⟩
  | own y => obtain ⟨ob, e⟩ := x; exact ⟨ob, k _ _ (.inl rfl) e⟩
  | xd fs => obtain ⟨mA, ⟨od, es, ep, e, c⟩, r⟩ := x; exact ⟨mA, ⟨od, es, ep, k _ _ (.inl rfl) e, c⟩, r⟩
  | rng lo hi => obtain ⟨t, u, v, e⟩ := x; exact ⟨t, u, v, k _ _ (.inl rfl) e⟩
  | frz ob u ih => obtain ⟨e, q⟩ := x; exact ⟨k _ _ (.inl rfl) e, ih q⟩
  | tbl ps =>
    have e : h.get? a = some { cls := .none, data := .fields ps } := x
    show h'.get? a = some { cls := .none, data := .fields ps }
    exact k a _ (.inl rfl) e
  | met f y =>
    have e : h.get? a = some (PySem.W.methodObj (.ref f) (.ref y)) := x
    show h'.get? a = some (PySem.W.methodObj (.ref f) (.ref y))
    exact k a _ (.inl rfl) e
  | ext φ => obtain ⟨p, ⟨o, e⟩, st⟩ := x; exact ⟨st _ _ p fun o q => k _ _ (.inl rfl) q, ⟨o, k _ _ (.inl rfl) e⟩, st⟩
theorem HOk.lt (x : HOk P w H h) (e : H a = some o) : a < h.objs.size := (x a o e).lt
theorem HOk.fresh (x : HOk P w H h) (e : h.objs.size ≤ a) : H a = none := by
  cases q : H a with
  | none => rfl
  | some u => exact absurd (Nat.lt_of_lt_of_le (x.lt q) e) (Nat.lt_irrefl _)
theorem HOk.kept (x : HOk P w H h) (k : ∀ b u, h.get? b = some u → h'.get? b = some u) : HOk P w H h' := fun a o e =>
  (x a o e).stay (fun b u _ q => k b u q) (fun _ q => q) fun _ _ q => q
theorem HOk.laid (x : HOk P w H h) (k : ∀ b u, h.get? b = some u → h'.get? b = some u) (hp : h.objs.size ≤ a) (new : ObjOk P w (upd H a o) h' a o) : HOk P w (upd H a o) h' := fun b u e => by
  have hn := x.fresh hp
  by_cases hb : b = a
  · subst hb; rw [upd_same] at e; cases e; exact new
  · rw [upd_ne hb] at e
    exact (x b u e).stay (fun c v _ q => k c v q) (fun c q => by rw [upd_ne (ne_of_none q hn)]; exact q) fun c xs q => by rw [upd_ne (ne_of_none q hn)]; exact q
end
noncomputable def Rd (H : Hp) (a : Addr) (u : HO) : Prop := H a = some u ∨ ∃ o, H a = some (.frz o u)
theorem Rd.ok {P : Program} {w : World} {H : Hp} {h : Heap} {a : Addr} {u : HO} (r : Rd H a u) (x : HOk P w H h) : ObjOk P w H h a u := by
  rcases r with r | ⟨o, r⟩
  · exact x a u r
  · obtain ⟨_, q⟩ := x a _ r
    exact q
noncomputable def Mut : Option HO → Prop
  | some (.lst _) => True
  | some (.dK _) => True
  | some (.dT _) => True
  | some (.set _ _) => True
  | some (.ins _ _ _) => True
  | some (.ext _) => True
  | _ => False
section
variable {P : Program} {w : World} {H : Hp} {h h' : Heap} {x e : Addr} {o' : HO}
theorem HOk.write (ok : HOk P w H h) (mu : Mut (H x)) (he : e = x ∨ H e = some (.own x)) (k : ∀ b u, b ≠ e → h.get? b = some u → h'.get? b = some u) (heo : ∃ u, h'.get? e = some u)
    (new : ObjOk P w (upd H x o') h' x o') : HOk P w (upd H x o') h' := fun b u q => by
  have nown : ∀ c y, H c = some (.own y) → c ≠ x := fun c y r z => by subst z; rw [r] at mu; exact mu
  have ntup : ∀ c xs, H c = some (.tup xs) → c ≠ x := fun c xs r z => by subst z; rw [r] at mu; exact mu
  by_cases hb : b = x
  · subst hb; rw [upd_same] at q; cases q; exact new
  · rw [upd_ne hb] at q
    by_cases hbe : b = e
    · have q' : H b = some (.own x) := by
        rcases he with z | z
        · exact absurd (hbe.trans z) hb
        · rw [hbe]; exact z
      rw [q] at q'; cases q'
      obtain ⟨v, hv⟩ := heo
      exact ⟨v, by rw [hbe]; exact hv⟩
    · refine (ok b u q).stay (fun c v hc r => k c v ?_ r) (fun c r => by rw [upd_ne (nown c b r)]; exact r) fun c xs r => by rw [upd_ne (ntup c xs r)]; exact r
      rcases hc with rfl | hc
      · exact hbe
      · rintro rfl
        rcases he with z | z
        · exact nown c b hc z
        · rw [hc] at z; cases z; exact hb rfl
end
structure Un (fs ex : List Addr) (H H' : Hp) (h h' : Heap) : Prop where
  keep : ∀ b o, h.get? b = some o → H b = none → b ∉ fs → b ∉ ex → h'.get? b = some o
  slot : ∀ b o, h.get? b = some o → H b = none → b ∈ fs → b ∉ ex → ∃ sl, h'.get? b = some { o with slots := sl }
  free : ∀ b o, h.get? b = some o → H b = none → b ∉ ex → H' b = none
  there : ∀ b o, h.get? b = some o → b ∉ ex → ∃ o', h'.get? b = some o'
  tups : ∀ b xs, H b = some (.tup xs) → H' b = some (.tup xs)
  frzs : ∀ b o u, H b = some (.frz o u) → H' b = some (.frz o u)
  tbls : ∀ b ps, H b = some (.tbl ps) → ∃ more, H' b = some (.tbl (ps ++ more))
section
variable {fs fs' ex ex' : List Addr} {H H1 H2 : Hp} {h h1 h2 h' : Heap} {a x e : Addr} {o : HO}
theorem Un.any (u : Un fs ex H H1 h h1) {b : Addr} {ob : Obj} (q : h.get? b = some ob) (n : H b = none) (hx : b ∉ ex) : ∃ sl, h1.get? b = some { ob with slots := sl } := by
  by_cases hb : b ∈ fs
  · exact u.slot b ob q n hb hx
  · exact ⟨ob.slots, u.keep b ob q n hb hx⟩
theorem Un.trans (a : Un fs ex H H1 h h1) (b : Un fs ex H1 H2 h1 h2) : Un fs ex H H2 h h2 where
  keep := fun c ob q n hc hx => b.keep c ob (a.keep c ob q n hc hx) (a.free c ob q n hx) hc hx
  slot := fun c ob q n hc hx => by
    obtain ⟨sl, e1⟩ := a.slot c ob q n hc hx
    obtain ⟨sl', e2⟩ := b.slot c _ e1 (a.free c ob q n hx) hc hx
    exact ⟨sl', e2⟩
  free := fun c ob q n hx => by
    obtain ⟨o', e1⟩ := a.there c ob q hx
    exact b.free c o' e1 (a.free c ob q n hx) hx
  there := fun c ob q hx => by
    obtain ⟨o', e1⟩ := a.there c ob q hx
    exact b.there c o' e1 hx
  tups := fun c xs q => b.tups c xs (a.tups c xs q)
  frzs := fun c ob xs q => b.frzs c ob xs (a.frzs c ob xs q)
  tbls := fun c ps q => by
    obtain ⟨m1, e1⟩ := a.tbls c ps q
    obtain ⟨m2, e2⟩ := b.tbls c _ e1
    exact ⟨m1 ++ m2, by rw [e2, Array.append_assoc]⟩
theorem Un.kept (k : ∀ b u, h.get? b = some u → h'.get? b = some u) : Un fs ex H H h h' :=
  ⟨fun b ob q _ _ _ => k b ob q, fun b ob q _ _ _ => ⟨ob.slots, k b ob q⟩, fun _ _ _ n _ => n, fun b ob q _ => ⟨ob, k b ob q⟩, fun _ _ q => q, fun _ _ _ q => q, fun _ ps q => ⟨#[], by rw [q]; simp⟩⟩
theorem Un.refl : Un fs ex H H h h := Un.kept fun _ _ q => q
theorem Un.laid (k : ∀ b u, h.get? b = some u → h'.get? b = some u) (hp : h.objs.size ≤ a) (hn : H a = none) : Un fs ex H (upd H a o) h h' where
  keep := fun b u q _ _ _ => k b u q
  slot := fun b u q _ _ _ => ⟨u.slots, k b u q⟩
  free := fun b u q n _ => by rw [upd_ne (Nat.ne_of_lt (Nat.lt_of_lt_of_le (Heap.lt_size q) hp))]; exact n
  there := fun b u q _ => ⟨u, k b u q⟩
  tups := fun b xs q => by rw [upd_ne (ne_of_none q hn)]; exact q
  frzs := fun b u xs q => by rw [upd_ne (ne_of_none q hn)]; exact q
  tbls := fun b ps q => ⟨#[], by rw [upd_ne (ne_of_none q hn), q]; simp⟩
theorem Un.write (mu : Mut (H x)) (he : e = x ∨ H e = some (.own x)) (k : ∀ b u, b ≠ e → h.get? b = some u → h'.get? b = some u) (heo : ∃ u, h'.get? e = some u) : Un fs ex H (upd H x o) h h' := by
  have hx : ∀ b, H b = none → b ≠ x := fun b n z => by subst z; rw [n] at mu; exact mu
  have hb : ∀ b, H b = none → b ≠ e := fun b n z => by
    subst z
    rcases he with r | r
    · exact hx b n r
    · rw [n] at r; cases r
  have hm : ∀ b u, H b = some u → ¬ Mut (some u) → b ≠ x := fun b u q nm z => by subst z; rw [q] at mu; exact nm mu
  refine ⟨fun b u q n _ _ => k b u (hb b n) q, fun b u q n _ _ => ⟨u.slots, k b u (hb b n) q⟩, fun b u q n _ => by rw [upd_ne (hx b n)]; exact n, fun b u q _ => ?_,
    fun b xs q => by rw [upd_ne (hm b _ q fun z => z)]; exact q, fun b u xs q => by rw [upd_ne (hm b _ q fun z => z)]; exact q, fun b ps q => ⟨#[], by rw [upd_ne (hm b _ q fun z => z), q]; simp⟩⟩
  by_cases hbe : b = e
  · subst hbe; exact heo
  · exact ⟨u, k b u hbe q⟩
end
noncomputable def trk (h : Heap) (H : Hp) : List Addr := (List.range h.objs.size).filter fun a => (H a).isSome
noncomputable def hidT (h : Heap) (H : Hp) : Heap := PySem.W.hideAll h (trk h H)
theorem hidT_size (h : Heap) (H : Hp) : (hidT h H).objs.size = h.objs.size := PySem.W.hideAll_size _ _
theorem hidT_get {h : Heap} {H : Hp} {b : Addr} {o : Obj} (e : h.get? b = some o) (n : H b = none) : (hidT h H).get? b = some o :=
  PySem.W.hideAll_get _ e fun hm => by
    have q : (H b).isSome = true := (List.mem_filter.mp hm).2
    rw [n] at q; simp at q
theorem of_hidT {h : Heap} {H : Hp} {b : Addr} {o : Obj} (e : (hidT h H).get? b = some o) : h.get? b = some o ∧ H b = none := by
  have e' : h.get? b = some o := PySem.W.of_hideAll (trk h H) e
  refine ⟨e', ?_⟩
  cases q : H b with
  | none => rfl
  | some x =>
    have hm : b ∈ trk h H := List.mem_filter.mpr ⟨List.mem_range.mpr (Heap.lt_size e'), by simp [q]⟩
    have z : (hidT h H).get? b = none := PySem.W.hideAll_none (trk h H) hm
    rw [z] at e; cases e
end L2
namespace L2
open PySem PySem.Spec PyProof.Rows
structure Mod (K : PySem.W.Frag) (mg : Str → Option Value) (base : Heap) : Prop where
  kin : K.In base
  glob : base.Ns mainGlobals mg
  blt : ∃ mb, base.Ns builtinsNs mb ∧ ∀ x : Str, x ≠ "__name__" → mb x = bootBuiltins x
  nolimit : base.NoLimit
structure Cx where
  prog : Program
  w : World
  K : PySem.W.Frag
  mg : Str → Option Value
  base : Heap
  A : Around
  N : List Str
  s₀ : Shared
  H₀ : Hp
  env : Env
  outer : List Env
  stack : List Env
  ex : List Addr
  fn : Str → Bool
  calm : Bool
  pn : List (Addr × Obj)
  xe : Value → Shared → Prop
noncomputable def frs (l : List Env) : List Addr := l.filterMap (·.frame)
noncomputable abbrev Cx.fs (X : Cx) : List Addr := frs X.outer
noncomputable def Vis (sc : Scope) (x : Str) : Prop := sc.names.lookup x = some .local ∨ sc.names.lookup x = some .cell ∨ sc.names.lookup x = some .free
noncomputable def Loc (sc : Scope) (x : Str) : Prop := sc.names.lookup x = some .local ∨ sc.names.lookup x = some .cell
noncomputable def Look (env : Env) (h : Heap) (m : Str → Option Value) (x : Str) (u : Value) : Prop :=
  (env.kindOf x = some .local ∧ m x = some u) ∨ ((env.kindOf x = some .cell ∨ env.kindOf x = some .free) ∧ ∃ c, env.cells.lookup x = some c ∧ h.IsCell c (some u))
structure Cx.Ok (X : Cx) : Prop where
  mod : Mod X.K X.mg X.base
  kind : X.env.scope.kind = .function
  glob : X.env.globals = mainGlobals
  blt : X.env.builtins = builtinsNs
  above : X.s₀.heap.objs.size ≤ X.env.locals
  inj : ∀ x y c, X.env.cells.lookup x = some c → X.env.cells.lookup y = some c → x = y
  has : ∀ x, (X.env.kindOf x = some .cell ∨ X.env.kindOf x = some .free) → ∃ c, X.env.cells.lookup x = some c
  cab : ∀ x c, X.fn x = true → X.env.cells.lookup x = some c → X.s₀.heap.objs.size ≤ c
  hd : X.calm = true → X.A.handled = none
  frames : X.A.frames = some X.stack
  stk : X.stack = X.outer ∨ (X.stack = X.env :: X.outer ∧ X.env.frame = some X.env.locals)
  exf : ∀ b ∈ X.ex, b ≠ X.env.locals ∧ ∀ x c, X.env.cells.lookup x = some c → c ≠ b
  bs : ∀ b o, X.base.get? b = some o → X.s₀.heap.get? b = some o ∧ X.H₀ b = none
  bsz : X.base.objs.size ≤ X.s₀.heap.objs.size
  noex : ∀ b o, X.base.get? b = some o → b ∉ X.ex
  exfs : ∀ b ∈ X.ex, b ∉ X.fs
  funs : X.s₀.heap.FunFrames X.base X.outer
  frf : ∀ b ∈ X.fs, X.H₀ b = none
structure Inv (X : Cx) (pins : List (Addr × Obj)) (σ : List (Option V)) (H : Hp) (s : Shared) : Prop where
  ok : X.Ok
  os : s.os = X.s₀.os
  bare : AllBare s.gens
  base : Un X.fs X.ex X.H₀ H X.s₀.heap s.heap
  loc : ∃ m, s.heap.Ns X.env.locals m ∧ ∀ (i : Nat) (x : Str) (v : V), X.N[i]? = some x → σ[i]? = some (some v) → Vis X.env.scope x → ∃ u, RelV v u ∧ Look X.env s.heap m x u
  cell : ∀ x c, X.env.cells.lookup x = some c → ∃ v, s.heap.IsCell c v
  free : H X.env.locals = none
  freeC : ∀ x c, X.env.cells.lookup x = some c → H c = none
  pin : ∀ p ∈ X.pn ++ pins, s.heap.get? p.1 = some p.2 ∧ H p.1 = none ∧ p.1 ≠ X.env.locals ∧ p.1 ∉ X.fs ∧ ∀ v, p.2.data ≠ .cell v
  hok : HOk X.prog X.w H s.heap
  len : σ.length = X.N.length
section
variable {X : Cx} {pins : List (Addr × Obj)} {σ : List (Option V)} {H H' : Hp} {s : Shared} {h' : Heap}
theorem Cx.Ok.nofr (ok : X.Ok) {b : Addr} {o : Obj} (e : X.base.get? b = some o) : b ∉ X.fs := fun hb => by
  have := (ok.funs.mem hb).1
  rw [e] at this; cases this
theorem Inv.bs (I : Inv X pins σ H s) : ∀ b o, X.base.get? b = some o → s.heap.get? b = some o ∧ H b = none := fun b o e =>
  ⟨I.base.keep b o (I.ok.bs b o e).1 (I.ok.bs b o e).2 (I.ok.nofr e) (I.ok.noex b o e), I.base.free b o (I.ok.bs b o e).1 (I.ok.bs b o e).2 (I.ok.noex b o e)⟩
theorem Inv.bk (I : Inv X pins σ H s) : ∀ b o, X.base.get? b = some o → s.heap.get? b = some o := fun b o e => (I.bs b o e).1
theorem Inv.mod (I : Inv X pins σ H s) : Mod X.K X.mg X.base := I.ok.mod
theorem Inv.kIn (I : Inv X pins σ H s) : X.K.In s.heap := I.ok.mod.kin.keeps I.bk
theorem Inv.lt (I : Inv X pins σ H s) : X.env.locals < s.heap.objs.size := I.loc.elim fun _ zq452 => zq452.elim fun hn _ => hn.lt
theorem Inv.sz (I : Inv X pins σ H s) : X.s₀.heap.objs.size ≤ s.heap.objs.size := Nat.le_trans I.ok.above (Nat.le_of_lt I.lt)
theorem Inv.nofs (I : Inv X pins σ H s) {a : Addr} (h : s.heap.objs.size ≤ a) : a ∉ X.fs := fun hb => by
  obtain ⟨_, o, ho, _⟩ := I.ok.funs.mem hb
  exact absurd (Nat.lt_of_lt_of_le (Heap.lt_size ho) (Nat.le_trans I.sz h)) (Nat.lt_irrefl _)
theorem Inv.cne (I : Inv X pins σ H s) : ∀ x c, X.env.cells.lookup x = some c → c ≠ X.env.locals := fun x c e z => by
  obtain ⟨v, o, ho, hd⟩ := I.cell x c e
  obtain ⟨m, ⟨o', es, ep, ho', hd', _⟩, _⟩ := I.loc
  rw [z, ho'] at ho; cases ho; rw [hd'] at hd; cases hd
theorem Inv.funs (I : Inv X pins σ H s) : s.heap.FunFrames X.base X.outer := by
  have all : ∀ (l : List Env), (∀ b ∈ frs l, b ∈ X.fs) → X.s₀.heap.FunFrames X.base l → s.heap.FunFrames X.base l := by
    intro l
    induction l with
    | nil => intro _ _; trivial
    | cons env r ih =>
      intro hs hl
      obtain ⟨hk, ⟨L, o, hf, hn, ho, hd⟩, hr⟩ := hl
      have hL : L ∈ X.fs := hs L (by unfold frs; rw [List.filterMap_cons, hf]; exact List.mem_cons_self)
      obtain ⟨sl, e⟩ := I.base.slot L o ho (I.ok.frf L hL) hL fun z => I.ok.exfs L z hL
      exact ⟨hk, ⟨L, _, hf, hn, e, hd⟩, ih (fun b hb => hs b (by unfold frs; rw [List.filterMap_cons, hf]; exact List.mem_cons_of_mem _ hb)) hr⟩
  exact all X.outer (fun _ hb => hb) I.ok.funs
theorem Inv.stack (I : Inv X pins σ H s) : s.heap.FunFrames X.base X.stack := by
  rcases I.ok.stk with e | ⟨e, hf⟩
  · rw [e]; exact I.funs
  · rw [e]
    obtain ⟨m, hn, _⟩ := I.loc
    refine .cons (by rw [I.ok.kind]; decide) hf hn ?_ I.funs
    exact Heap.get?_none_of_le (Nat.le_trans I.ok.bsz I.ok.above)
theorem Inv.stkSub (I : Inv X pins σ H s) : ∀ b ∈ frs X.stack, b ∈ X.env.locals :: X.fs := fun b hb => by
  rcases I.ok.stk with e | ⟨e, hf⟩
  · rw [e] at hb; exact List.mem_cons_of_mem _ hb
  · rw [e] at hb
    unfold frs at hb
    rw [List.filterMap_cons, hf] at hb
    exact hb
theorem Inv.stkFree (I : Inv X pins σ H s) : ∀ b ∈ frs X.stack, H b = none := fun b hb => by
  rcases List.mem_cons.mp (I.stkSub b hb) with e | hb
  · rw [e]; exact I.free
  · obtain ⟨_, o, ho, _⟩ := I.ok.funs.mem hb
    exact I.base.free b o ho (I.ok.frf b hb) fun z => I.ok.exfs b z hb
theorem Inv.step {g' : Array GenState} {t' : Nat} {d' : Drawn} {ch : List Addr} (I : Inv X pins σ H s)
    (hch : ∀ b ∈ ch, (b ∈ X.ex ∨ X.s₀.heap.objs.size ≤ b) ∧ b ≠ X.env.locals ∧ (∀ x c, X.env.cells.lookup x = some c → c ≠ b) ∧ ∀ p ∈ X.pn ++ pins, p.1 ≠ b)
    (keep : ∀ b o, b ≠ X.env.locals → b ∉ X.fs → b ∉ ch → s.heap.get? b = some o → H b = none → h'.get? b = some o)
    (slot : ∀ b o, b ≠ X.env.locals → b ∈ X.fs → b ∉ ch → s.heap.get? b = some o → H b = none → ∃ sl, h'.get? b = some { o with slots := sl }) (free : ∀ b o, b ∉ ch → s.heap.get? b = some o → H b = none → H' b = none)
    (there : ∀ b o, b ∉ ch → s.heap.get? b = some o → ∃ o', h'.get? b = some o')
    (tups : ∀ b xs, H b = some (.tup xs) → H' b = some (.tup xs)) (frzs : ∀ b o u, H b = some (.frz o u) → H' b = some (.frz o u)) (tbls : ∀ b ps, H b = some (.tbl ps) → ∃ more, H' b = some (.tbl (ps ++ more)))
    (ns : ∀ m, s.heap.Ns X.env.locals m → h'.Ns X.env.locals m) (hok : HOk X.prog X.w H' h') (hg : AllBare g') :
    Inv X pins σ H' { s with heap := h', gens := g', drawn := d', toks := t' } := by
  have neL : ∀ b o, X.s₀.heap.get? b = some o → b ≠ X.env.locals := fun b o e => Nat.ne_of_lt (Nat.lt_of_lt_of_le (Heap.lt_size e) I.ok.above)
  have neC : ∀ b o, X.s₀.heap.get? b = some o → b ∉ X.ex → b ∉ ch := fun b o e hx hb => by
    rcases (hch b hb).1 with z | z
    · exact hx z
    · exact absurd (Nat.lt_of_lt_of_le (Heap.lt_size e) z) (Nat.lt_irrefl _)
  have cellK : ∀ x c, X.env.cells.lookup x = some c → ∀ v, s.heap.IsCell c v → h'.IsCell c v := fun x c e v zq1 => zq1.elim fun o zq2 => zq2.elim fun ho hd => by
    have nch : c ∉ ch := fun z => (hch c z).2.2.1 x c e rfl
    by_cases hc : c ∈ X.fs
    · obtain ⟨sl, q⟩ := slot c o (I.cne x c e) hc nch ho (I.freeC x c e)
      exact ⟨_, q, hd⟩
    · exact ⟨o, keep c o (I.cne x c e) hc nch ho (I.freeC x c e), hd⟩
  refine ⟨I.ok, I.os, hg, ⟨fun b o e n hb hx => ?_, fun b o e n hb hx => ?_, fun b o e n hx => ?_, fun b o e hx => ?_, fun b xs e => tups b xs (I.base.tups b xs e), fun b o xs e => frzs b o xs (I.base.frzs b o xs e), fun b ps e => ?_⟩, ?_, fun x c e => ?_, ?_, fun x c e => ?_, fun p hp => ?_, hok, I.len⟩
  · exact keep b o (neL b o e) hb (neC b o e hx) (I.base.keep b o e n hb hx) (I.base.free b o e n hx)
  · obtain ⟨sl, e1⟩ := I.base.slot b o e n hb hx
    obtain ⟨sl', e2⟩ := slot b _ (neL b o e) hb (neC b o e hx) e1 (I.base.free b o e n hx)
    exact ⟨sl', e2⟩
  · obtain ⟨o', e1⟩ := I.base.there b o e hx
    exact free b o' (neC b o e hx) e1 (I.base.free b o e n hx)
  · obtain ⟨o', e1⟩ := I.base.there b o e hx
    exact there b o' (neC b o e hx) e1
  · obtain ⟨m1, e1⟩ := I.base.tbls b ps e
    obtain ⟨m2, e2⟩ := tbls b _ e1
    exact ⟨m1 ++ m2, by rw [e2, Array.append_assoc]⟩
  · obtain ⟨m, hn, hl⟩ := I.loc
    refine ⟨m, ns m hn, fun i x v e1 e2 e3 => ?_⟩
    obtain ⟨u, r, l⟩ := hl i x v e1 e2 e3
    refine ⟨u, r, ?_⟩
    rcases l with l | ⟨k, c, e, z⟩
    · exact .inl l
    · exact .inr ⟨k, c, e, cellK x c e _ z⟩
  · obtain ⟨v, z⟩ := I.cell x c e
    exact ⟨v, cellK x c e v z⟩
  · obtain ⟨m, ⟨o, _, _, ho, _⟩, _⟩ := I.loc
    exact free _ o (fun z => (hch _ z).2.1 rfl) ho I.free
  · obtain ⟨v, o, ho, hd⟩ := I.cell x c e
    exact free c o (fun z => (hch c z).2.2.1 x c e rfl) ho (I.freeC x c e)
  · obtain ⟨e, n, ne, nf, d⟩ := I.pin p hp
    have nch : p.1 ∉ ch := fun z => (hch p.1 z).2.2.2 p hp rfl
    exact ⟨keep p.1 p.2 ne nf nch e n, free p.1 p.2 nch e n, ne, nf, d⟩
theorem Inv.un {t' : Nat} (I : Inv X pins σ H s) (u : Un X.fs [] H H' s.heap h') (hok : HOk X.prog X.w H' h') : Inv X pins σ H' { s with heap := h', toks := t' } := by
  obtain ⟨m, ⟨o, es, ep, ho, r⟩, _⟩ := id I.loc
  obtain ⟨sl, hL⟩ := u.any ho I.free (by simp)
  exact I.step (g' := s.gens) (d' := s.drawn) (ch := []) (fun _ z => nomatch z) (fun b o _ hb _ e n => u.keep b o e n hb (by simp)) (fun b o _ hb _ e n => u.slot b o e n hb (by simp)) (fun b o _ e n => u.free b o e n (by simp)) (fun b o _ e => u.there b o e (by simp)) u.tups u.frzs u.tbls (fun m' hm => by
    obtain ⟨o', es', ep', ho', r'⟩ := hm
    rw [ho] at ho'; cases ho'
    exact ⟨_, es', ep', hL, r'⟩) hok I.bare
theorem Inv.call {g' : Array GenState} {t' : Nat} {d' : Drawn} {ch : List Addr} (I : Inv X pins σ H s) (u : Un (frs X.stack) ch H H' s.heap h') (hok : HOk X.prog X.w H' h') (hg : AllBare g')
    (hch : ∀ b ∈ ch, (b ∈ X.ex ∨ X.s₀.heap.objs.size ≤ b) ∧ b ≠ X.env.locals ∧ (∀ x c, X.env.cells.lookup x = some c → c ≠ b) ∧ ∀ p ∈ X.pn ++ pins, p.1 ≠ b) :
    Inv X pins σ H' { s with heap := h', gens := g', drawn := d', toks := t' } := by
  obtain ⟨m, ⟨o, es, ep, ho, r⟩, _⟩ := id I.loc
  obtain ⟨sl, hL⟩ := u.any ho I.free fun z => (hch _ z).2.1 rfl
  exact I.step (ch := ch) hch (fun b o hL hb hc e n => u.keep b o e n (fun z => (List.mem_cons.mp (I.stkSub b z)).elim hL hb) hc) (fun b o _ _ hc e n => u.any e n hc) (fun b o hc e n => u.free b o e n hc) (fun b o hc e => u.there b o e hc) u.tups u.frzs u.tbls (fun m' hm => by
    obtain ⟨o', es', ep', ho', r'⟩ := hm
    rw [ho] at ho'; cases ho'
    exact ⟨_, es', ep', hL, r'⟩) hok hg
theorem Inv.turned {t' : Nat} {it : Addr} (I : Inv X pins σ H s) (k : ∀ b o, b ≠ it → s.heap.get? b = some o → h'.get? b = some o) (hn : H it = none) (hL : it ≠ X.env.locals)
    (h1 : it ∈ X.ex ∨ X.s₀.heap.objs.size ≤ it) (h2 : ∀ x c, X.env.cells.lookup x = some c → c ≠ it) (h3 : ∀ p ∈ X.pn ++ pins, p.1 ≠ it) : Inv X pins σ H { s with heap := h', toks := t' } := by
  have nit : ∀ b u, H b = some u → b ≠ it := fun b u e z => by rw [z, hn] at e; cases e
  refine I.step (g' := s.gens) (d' := s.drawn) (ch := [it]) (fun b hb => ?_) (fun b o _ _ hc e _ => k b o (fun z => hc (by simp [z])) e) (fun b o _ _ hc e _ => ⟨o.slots, k b o (fun z => hc (by simp [z])) e⟩) (fun _ _ _ _ n => n)
    (fun b o hc e => ⟨o, k b o (fun z => hc (by simp [z])) e⟩) (fun _ _ e => e) (fun _ _ _ e => e) (fun b ps e => ⟨#[], by rw [e]; simp⟩) (fun m hm => ?_) (fun b u e => ?_) I.bare
  · have e : b = it := by simpa using hb
    subst e
    exact ⟨h1, hL, h2, h3⟩
  · obtain ⟨o, es, ep, ho, r⟩ := hm
    exact ⟨o, es, ep, k _ o (Ne.symm hL) ho, r⟩
  · refine (I.hok b u e).stay (fun c v hc q => k c v ?_ q) (fun _ q => q) fun _ _ q => q
    rcases hc with z | z
    · rw [z]; exact nit b u e
    · exact nit c _ z
theorem Inv.tok (I : Inv X pins σ H s) (t : Nat) : Inv X pins σ H { s with toks := t } := I.un (h' := s.heap) (t' := t) Un.refl I.hok
theorem Inv.kept {t' : Nat} (I : Inv X pins σ H s) (k : ∀ b u, s.heap.get? b = some u → h'.get? b = some u) : Inv X pins σ H { s with heap := h', toks := t' } := I.un (Un.kept k) (I.hok.kept k)
theorem Inv.laid {a : Addr} {o : HO} {t' : Nat} (I : Inv X pins σ H s) (k : ∀ b u, s.heap.get? b = some u → h'.get? b = some u) (hp : s.heap.objs.size ≤ a) (new : ObjOk X.prog X.w (upd H a o) h' a o) :
    Inv X pins σ (upd H a o) { s with heap := h', toks := t' } := I.un (Un.laid k hp (I.hok.fresh hp)) (I.hok.laid k hp new)
theorem Inv.write {x e : Addr} {o : HO} {t' : Nat} (I : Inv X pins σ H s) (mu : Mut (H x)) (he : e = x ∨ H e = some (.own x)) (k : ∀ b u, b ≠ e → s.heap.get? b = some u → h'.get? b = some u) (heo : ∃ u, h'.get? e = some u)
    (new : ObjOk X.prog X.w (upd H x o) h' x o) : Inv X pins σ (upd H x o) { s with heap := h', toks := t' } := I.un (Un.write mu he k heo) (I.hok.write mu he k heo new)
theorem Inv.pins_of {pins' : List (Addr × Obj)} (I : Inv X pins σ H s) (h : ∀ p ∈ pins', s.heap.get? p.1 = some p.2 ∧ H p.1 = none ∧ p.1 ≠ X.env.locals ∧ p.1 ∉ X.fs ∧ ∀ v, p.2.data ≠ .cell v) : Inv X pins' σ H s :=
  ⟨I.ok, I.os, I.bare, I.base, I.loc, I.cell, I.free, I.freeC, fun p hp => (List.mem_append.mp hp).elim (fun z => I.pin p (List.mem_append_left _ z)) (h p), I.hok, I.len⟩
theorem nodup_ix {N : List Str} (hN : N.Nodup) {i j : Nat} {x : Str} (a : N[i]? = some x) (b : N[j]? = some x) : i = j := by
  obtain ⟨h1, e1⟩ := List.getElem?_eq_some_iff.mp a
  obtain ⟨h2, e2⟩ := List.getElem?_eq_some_iff.mp b
  exact (List.getElem_inj hN).mp (e1.trans e2.symm)
theorem store_ok2 {M : Model} {A : Around} {E : Value → Shared → Prop} {i : Nat} {x : Str} {v : V} {u : Value} {Q : Unit → Shared → Prop} (I : Inv X pins σ H s) (hN : X.N.Nodup) (hi : X.N[i]? = some x) (hx : Loc X.env.scope x) (r : RelV v u)
    (h : ∀ s', Inv X pins (σ.set i (some v)) H s' → (∃ a, Heap.SameBut a s.heap s'.heap ∧ (a = X.env.locals ∨ X.env.cells.lookup x = some a)) → Q () s') (hf : X.fn x = true ∨ X.env.scope.names.lookup x = some .local := by first | exact .inl rfl | exact .inr rfl | assumption) : wpAny M A (storeName X.env x u) Q E s := by
  obtain ⟨m, hn, hl⟩ := id I.loc
  have hcls : (X.env.scope.kind == .class || (X.env.scope.kind == .module && X.env.locals != X.env.globals)) = false := by rw [I.ok.kind]; rfl
  have hiσ : i < σ.length := by rw [I.len]; exact (List.getElem?_eq_some_iff.mp hi).1
  have cne := I.cne
  have tracked : ∀ {a : Addr} {h' : Heap}, (∃ o, s.heap.get? a = some o ∧ H a = none) → Heap.SameBut a s.heap h' → HOk X.prog X.w H h' := fun {a h'} ha hs b ob e => by
    obtain ⟨_, _, hfree⟩ := ha
    refine (I.hok b ob e).stay (fun c w' hc q => (hs.2 c ?_).trans q) (fun _ q => q) fun _ _ q => q
    rintro rfl
    rcases hc with rfl | hc
    · rw [hfree] at e; cases e
    · rw [hfree] at hc; cases hc
  rcases hx with hk | hk
  · refine wpAny_storeName_local hk hn (fun h' hn' hs => ?_) hcls
    obtain ⟨oL, _, _, hoL, _⟩ := id hn
    refine h _ ⟨I.ok, I.os, I.bare, ⟨fun b o e n hb hx => ?_, fun b o e n hb hx => ?_, I.base.free, fun b o e hx => ?_, I.base.tups, I.base.frzs, I.base.tbls⟩, ⟨_, hn', fun j y v' e1 e2 e3 => ?_⟩, fun y c e => ?_, I.free, I.freeC, fun p hp => ?_, tracked ⟨oL, hoL, I.free⟩ hs, by simpa using I.len⟩ ⟨_, hs, .inl rfl⟩
    · exact (hs.2 b (Nat.ne_of_lt (Nat.lt_of_lt_of_le (Heap.lt_size e) I.ok.above))).trans (I.base.keep b o e n hb hx)
    · obtain ⟨sl, e1⟩ := I.base.slot b o e n hb hx
      exact ⟨sl, (hs.2 b (Nat.ne_of_lt (Nat.lt_of_lt_of_le (Heap.lt_size e) I.ok.above))).trans e1⟩
    · obtain ⟨o', e1⟩ := I.base.there b o e hx
      exact ⟨o', (hs.2 b (Nat.ne_of_lt (Nat.lt_of_lt_of_le (Heap.lt_size e) I.ok.above))).trans e1⟩
    · by_cases hj : j = i
      · subst hj
        rw [hi] at e1; cases e1
        rw [List.getElem?_set_self hiσ] at e2
        cases e2
        exact ⟨u, r, .inl ⟨hk, by simp⟩⟩
      · rw [List.getElem?_set_ne (Ne.symm hj)] at e2
        obtain ⟨u', r', q⟩ := hl j y v' e1 e2 e3
        refine ⟨u', r', ?_⟩
        rcases q with ⟨k, e⟩ | ⟨k, c, e, z⟩
        · refine .inl ⟨k, ?_⟩
          have : y ≠ x := fun e => hj (nodup_ix hN e1 (e ▸ hi))
          simp [this, e]
        · exact .inr ⟨k, c, e, z.sameBut hs (cne y c e)⟩
    · obtain ⟨w', z⟩ := I.cell y c e
      exact ⟨w', z.sameBut hs (cne y c e)⟩
    · obtain ⟨e, n, ne, nf, d⟩ := I.pin p hp
      exact ⟨(hs.2 p.1 ne).trans e, n, ne, nf, d⟩
  · have hfn : X.fn x = true := by
      rcases hf with z | z
      · exact z
      · rw [z] at hk; cases hk
    obtain ⟨c, hc⟩ := I.ok.has x (.inl hk)
    obtain ⟨w', z⟩ := I.cell x c hc
    refine wpAny_storeName_cell I.ok.kind hk hc z (fun h' hc' hs => ?_)
    obtain ⟨oc, hoc, hocd⟩ := id z
    refine h { s with heap := h' } ⟨I.ok, I.os, I.bare, ⟨fun b o e n hb hx => ?_, fun b o e n hb hx => ?_, I.base.free, fun b o e hx => ?_, I.base.tups, I.base.frzs, I.base.tbls⟩, ⟨m, hn.sameBut hs (Ne.symm (cne x c hc)), fun j y v' e1 e2 e3 => ?_⟩, fun y c' e => ?_, I.free, I.freeC, fun p hp => ?_, tracked ⟨oc, hoc, I.freeC x c hc⟩ hs, by simpa using I.len⟩ ⟨c, hs, .inr hc⟩
    · exact (hs.2 b (Nat.ne_of_lt (Nat.lt_of_lt_of_le (Heap.lt_size e) (I.ok.cab x c hfn hc)))).trans (I.base.keep b o e n hb hx)
    · obtain ⟨sl, e1⟩ := I.base.slot b o e n hb hx
      exact ⟨sl, (hs.2 b (Nat.ne_of_lt (Nat.lt_of_lt_of_le (Heap.lt_size e) (I.ok.cab x c hfn hc)))).trans e1⟩
    · obtain ⟨o', e1⟩ := I.base.there b o e hx
      exact ⟨o', (hs.2 b (Nat.ne_of_lt (Nat.lt_of_lt_of_le (Heap.lt_size e) (I.ok.cab x c hfn hc)))).trans e1⟩
    · by_cases hj : j = i
      · subst hj
        rw [hi] at e1; cases e1
        rw [List.getElem?_set_self hiσ] at e2
        cases e2
        exact ⟨u, r, .inr ⟨.inl hk, c, hc, hc'⟩⟩
      · rw [List.getElem?_set_ne (Ne.symm hj)] at e2
        obtain ⟨u', r', q⟩ := hl j y v' e1 e2 e3
        refine ⟨u', r', ?_⟩
        rcases q with q | ⟨k, c', e, z'⟩
        · exact .inl q
        · refine .inr ⟨k, c', e, z'.sameBut hs ?_⟩
          rintro rfl
          exact hj (nodup_ix hN e1 (I.ok.inj _ _ _ e hc ▸ hi))
    · by_cases hcc : c' = c
      · subst hcc; exact ⟨_, hc'⟩
      · obtain ⟨w2, z2⟩ := I.cell y c' e
        exact ⟨w2, z2.sameBut hs hcc⟩
    · obtain ⟨e, n, ne, nf, d⟩ := I.pin p hp
      refine ⟨(hs.2 p.1 ?_).trans e, n, ne, nf, d⟩
      intro q
      rw [q, hoc] at e
      have q' : oc = p.2 := Option.some.inj e
      exact d w' (by rw [← q']; exact hocd)
theorem store_ok {M : Model} {A : Around} {E : Value → Shared → Prop} {i : Nat} {x : Str} {v : V} {u : Value} {Q : Unit → Shared → Prop} (I : Inv X pins σ H s) (hN : X.N.Nodup) (hi : X.N[i]? = some x) (hx : Loc X.env.scope x) (r : RelV v u)
    (h : ∀ s', Inv X pins (σ.set i (some v)) H s' → Q () s') (hf : X.fn x = true ∨ X.env.scope.names.lookup x = some .local := by first | exact .inl rfl | exact .inr rfl | assumption) : wpAny M A (storeName X.env x u) Q E s :=
  store_ok2 I hN hi hx r (fun s' I' _ => h s' I') hf
theorem Inv.call' {s' : Shared} {ch : List Addr} (I : Inv X pins σ H s) (ho : s'.os = s.os) (u : Un (frs X.stack) ch H H' s.heap s'.heap) (hok : HOk X.prog X.w H' s'.heap) (hg : AllBare s'.gens)
    (hch : ∀ b ∈ ch, (b ∈ X.ex ∨ X.s₀.heap.objs.size ≤ b) ∧ b ≠ X.env.locals ∧ (∀ x c, X.env.cells.lookup x = some c → c ≠ b) ∧ ∀ p ∈ X.pn ++ pins, p.1 ≠ b) : Inv X pins σ H' s' := by
  obtain ⟨h', g', d', t', o'⟩ := s'
  have e : o' = s.os := ho
  subst e
  exact I.call (g' := g') (t' := t') (d' := d') u hok hg hch
end
noncomputable abbrev XK := Value → Option Addr → Hp → Prop
noncomputable abbrev St := List (Option V)
noncomputable abbrev VK := V → Hp → Prop
noncomputable abbrev TE := St → Hp → VK → Prop
noncomputable abbrev TT := St → Hp → (Bool → Hp → Prop) → Prop
noncomputable abbrev TA := St → Hp → (List V → Hp → Prop) → Prop
structure Ends where
  nx : St → Hp → Prop
  rt : VK
  bk : St → Hp → Prop := fun _ _ => False
  ct : St → Hp → Prop := fun _ _ => False
noncomputable abbrev TS := Ends → St → Hp → Prop
noncomputable def EP (X : Cx) (pins : List (Addr × Obj)) (σ : St) (Q : VK) (u : Value) (s' : Shared) : Prop := ∃ v H', Inv X pins σ H' s' ∧ RelV v u ∧ Q v H'
noncomputable def TP (X : Cx) (pins : List (Addr × Obj)) (σ : St) (Q : Bool → Hp → Prop) (b : Bool) (s' : Shared) : Prop := ∃ H', Inv X pins σ H' s' ∧ Q b H'
noncomputable def AP (X : Cx) (pins : List (Addr × Obj)) (σ : St) (Q : List V → Hp → Prop) (us : List Value) (s' : Shared) : Prop := ∃ vs H', Inv X pins σ H' s' ∧ Vals vs us ∧ Q vs H'
noncomputable def SP (X : Cx) (pins : List (Addr × Obj)) (D : Ends) (f : Flow) (s' : Shared) : Prop :=
  match f with
  | .next => ∃ σ' H', Inv X pins σ' H' s' ∧ D.nx σ' H'
  | .brk => ∃ σ' H', Inv X pins σ' H' s' ∧ D.bk σ' H'
  | .cont => ∃ σ' H', Inv X pins σ' H' s' ∧ D.ct σ' H'
  | .ret u => ∃ v σ' H', Inv X pins σ' H' s' ∧ RelV v u ∧ D.rt v H'
noncomputable def PE (X : Cx) (e : Expr) (t : TE) : Prop :=
  ∀ (pins : List (Addr × Obj)) (s : Shared) (σ : St) (H : Hp) (Q : VK), Inv X pins σ H s → t σ H Q → wpAny (model X.prog X.w) X.A (eval e X.env) (EP X pins σ Q) X.xe s
noncomputable def PT (X : Cx) (e : Expr) (t : TT) : Prop :=
  ∀ (pins : List (Addr × Obj)) (s : Shared) (σ : St) (H : Hp) (Q : Bool → Hp → Prop), Inv X pins σ H s → t σ H Q → wpAny (model X.prog X.w) X.A (isTrue e X.env (eval e X.env)) (TP X pins σ Q) X.xe s
noncomputable def PW (X : Cx) (e : Expr) (t : TT) : Prop :=
  ∀ (whole : Sem Value) (pins : List (Addr × Obj)) (s : Shared) (σ : St) (H : Hp) (Q : Bool → Hp → Prop), Inv X pins σ H s → t σ H Q → wpAny (model X.prog X.w) X.A (isTrue e X.env whole) (TP X pins σ Q) X.xe s
theorem PW.pt {X : Cx} {e : Expr} {t : TT} (h : PW X e t) : PT X e t := h _
noncomputable def PA (X : Cx) (es : List Expr) (t : TA) : Prop :=
  ∀ (pos : Pos) (pins : List (Addr × Obj)) (s : Shared) (σ : St) (H : Hp) (Q : List V → Hp → Prop), Inv X pins σ H s → t σ H Q → wpAny (model X.prog X.w) X.A (spliced (backTo pos (starEach es X.env))) (AP X pins σ Q) X.xe s
noncomputable def PS (X : Cx) (st : Stmt) (t : TS) : Prop :=
  ∀ (pins : List (Addr × Obj)) (s : Shared) (σ : St) (H : Hp) (D : Ends), Inv X pins σ H s → t D σ H → wpAny (model X.prog X.w) X.A (exec st X.env) (SP X pins D) X.xe s
noncomputable def PSs (X : Cx) (st : List Stmt) (t : TS) : Prop :=
  ∀ (pins : List (Addr × Obj)) (s : Shared) (σ : St) (H : Hp) (D : Ends), Inv X pins σ H s → t D σ H → wpAny (model X.prog X.w) X.A (execs st X.env) (SP X pins D) X.xe s
theorem thn {α : Type} {t : Sem α} {Q Q' : α → Shared → Prop} {M : Model} {A : Around} {E : Value → Shared → Prop} {s : Shared} (h : wpAny M A t Q E s) (hQ : ∀ a s, Q a s → Q' a s) : wpAny M A t Q' E s := wpAny_mono h hQ fun _ _ x => x
end L2
namespace L2
open PySem PySem.Spec PyProof.Rows
section
variable {X : Cx}
noncomputable def tVar (i : Nat) : TE := fun σ H Q => ∃ v, σ[i]? = some (some v) ∧ Q v H
noncomputable def tC (v : V) : TE := fun _ H Q => Q v H
theorem pe_var {i : Nat} {x : Str} {pos : Pos} (hN : X.N[i]? = some x) (hv : Vis X.env.scope x) (hd : (x == ("__debug__" : Str)) = false := by decide) (hcd : (x == ("__classdict__" : Str)) = false := by decide) : PE X (.Name x pos) (tVar i) := by
  intro pins s σ H Q I h
  obtain ⟨v, e, h⟩ := h
  obtain ⟨m, hn, hl⟩ := I.loc
  obtain ⟨u, r, l⟩ := hl i x v hN e hv
  have fin : EP X pins σ Q u s := ⟨v, H, I, r, h⟩
  rcases l with ⟨hk, hm⟩ | ⟨hk, c, hc, hcell⟩
  · exact wpAny_Name (wpAny_loadName_local I.ok.kind hk hn hm fin) hd
  · rcases hk with hk | hk
    · exact wpAny_Name (wpAny_loadName_cell I.ok.kind hk hc hcell fin) hd
    · exact wpAny_Name (wpAny_loadName_free I.ok.kind hk hc hcell fin hcd) hd
theorem pe_int {i j pos} : PE X (.Constant (.int i) j pos) (tC (.int i)) := fun _ _ _ H _ I h => wpAny_Constant_int ⟨.int i, H, I.tok _, ⟨_, rfl⟩, h⟩
theorem pe_bl {b j pos} : PE X (.Constant (.bool b) j pos) (tC (.bl b)) := fun _ _ _ H _ I h => Constant_bool ⟨.bl b, H, I, rfl, h⟩
theorem pe_str {x j pos} : PE X (.Constant (.str x) j pos) (tC (.str x)) := fun _ _ _ H _ I h => Calls.Constant_str ⟨.str x, H, I.tok _, ⟨_, rfl⟩, h⟩
noncomputable def Gl (X : Cx) (x : Str) : Prop := X.env.kindOf x = some .globalImplicit
theorem ld_glob {E : Value → Shared → Prop} {pins : List (Addr × Obj)} {s : Shared} {σ : St} {H : Hp} {x : Str} {u : Value} {pos : Pos} {Q : Value → Shared → Prop} (I : Inv X pins σ H s) (hg : Gl X x) (hm : X.mg x = some u) (h : Q u s)
    (hd : (x == ("__debug__" : Str)) = false := by decide) : wpAny (model X.prog X.w) X.A (eval (.Name x pos) X.env) Q E s :=
  Calls.Name_function_global I.ok.kind hg (Calls.loadGlobal_global (by rw [I.ok.glob]; exact I.mod.glob.keeps I.bk) hm h) hd
theorem ld_blt {E : Value → Shared → Prop} {pins : List (Addr × Obj)} {s : Shared} {σ : St} {H : Hp} {x : Str} {u : Value} {pos : Pos} {Q : Value → Shared → Prop} (I : Inv X pins σ H s) (hg : Gl X x) (hm : X.mg x = none) (hv : bootBuiltins x = some u) (h : Q u s)
    (hn : x ≠ "__name__" := by decide) (hd : (x == ("__debug__" : Str)) = false := by decide) : wpAny (model X.prog X.w) X.A (eval (.Name x pos) X.env) Q E s := by
  obtain ⟨mb, h1, h2⟩ := I.mod.blt
  exact Calls.Name_function_global I.ok.kind hg (Calls.loadGlobal_builtin (by rw [I.ok.glob]; exact I.mod.glob.keeps I.bk) hm (by rw [I.ok.blt]; exact h1.keeps I.bk) ((h2 x hn).trans hv) h) hd
theorem pe_bltn {x : Str} {v : V} {u : Value} {pos : Pos} (hg : Gl X x) (hm : X.mg x = none) (hv : bootBuiltins x = some u) (r : RelV v u) (hn : x ≠ "__name__" := by decide) (hd : (x == ("__debug__" : Str)) = false := by decide) : PE X (.Name x pos) (tC v) :=
  fun _ _ _ H _ I h => ld_blt I hg hm hv ⟨v, H, I, r, h⟩ hn hd
variable {a b : Expr} {ta tb : TE} {pos : Pos}
noncomputable def PC (X : Cx) (op : CmpOp) (a b : Expr) (t : TE) : Prop :=
  ∀ (pins : List (Addr × Obj)) (s : Shared) (σ : St) (H : Hp) (Q : VK), Inv X pins σ H s → t σ H Q →
    wpAny (model X.prog X.w) X.A (eval a X.env) (fun v s₁ => wpAny (model X.prog X.w) X.A (eval b X.env) (fun u s₂ => wpAny (model X.prog X.w) X.A (compareOp op v u) (EP X pins σ Q) X.xe s₂) X.xe s₁) X.xe s
noncomputable def tB (t : TE) : TT := fun σ H Q => t σ H fun x H1 => ∃ c, x = .bl c ∧ Q c H1
theorem pt_cmp {op : CmpOp} {t : TE} (h : PC X op a b t) (h1 : behindInMarks op b = false := by first | exact nobehind _ (by decide) (by decide) | rfl) : PT X (.Compare a [op] [b] pos) (tB t) := by
  intro pins s σ H Q I hw
  refine wpAny_isTrue_Compare1 (thn (h pins s σ H _ I hw) fun v s1 h1 => thn h1 fun u s2 h2 => thn h2 fun c s3 zq3 => zq3.elim fun x zq4 => zq4.elim fun H1 zq5 => zq5.elim fun I1 zq6 => zq6.elim fun r1 q1 => ?_) h1
  obtain ⟨d, rfl, q⟩ := q1
  cases r1
  exact wpAny_truthy_bool ⟨H1, I1, q⟩
theorem pt_val {e : Expr} {t : TE} (h : PE X e t) (he : ∀ whole, isTrue e X.env whole = (do let v ← whole; standAt e.pos; holding [v] (truthy v)) := by intro _; rfl) : PT X e (tB t) := by
  intro pins s σ H Q I hw
  refine isTrue_plain (thn (h pins s σ H _ I hw) fun v s1 zq7 => zq7.elim fun x zq8 => zq8.elim fun H1 zq9 => zq9.elim fun I1 zq10 => zq10.elim fun r1 q1 => ?_) (he _)
  obtain ⟨d, rfl, q⟩ := q1
  cases r1
  exact wpAny_truthy_bool ⟨H1, I1, q⟩
variable {tA tB' : TT} {rest : List Expr}
noncomputable def tAnd (t u : TT) : TT := fun σ H Q => t σ H fun c H1 => if c = true then u σ H1 Q else Q false H1
noncomputable def tOr (t u : TT) : TT := fun σ H Q => t σ H fun c H1 => if c = true then Q true H1 else u σ H1 Q
noncomputable def tNot (t : TT) : TT := fun σ H Q => t σ H fun c H1 => Q (!c) H1
theorem pw_and1 (ha : PT X a tA) : PW X (.BoolOp .And [a] pos) tA := by
  intro wh pins s σ H Q I h
  refine isTrue_and (thn (ha pins s σ H Q I h) fun c s1 e => ?_)
  cases c with
  | true => exact isTrue_and_nil e
  | false => exact e
theorem pw_or1 (ha : PT X a tA) : PW X (.BoolOp .Or [a] pos) tA := by
  intro wh pins s σ H Q I h
  refine isTrue_or (thn (ha pins s σ H Q I h) fun c s1 e => ?_)
  cases c with
  | false => exact isTrue_or_nil e
  | true => exact e
theorem pw_and (ha : PT X a tA) (hb : PW X (.BoolOp .And (b :: rest) pos) tB') : PW X (.BoolOp .And (a :: b :: rest) pos) (tAnd tA tB') := by
  intro wh pins s σ H Q I h
  refine isTrue_and (thn (ha pins s σ H _ I h) fun c s1 zq11 => zq11.elim fun H1 zq12 => zq12.elim fun I1 q1 => ?_)
  cases c with
  | true => exact hb wh pins s1 σ H1 Q I1 q1
  | false => exact ⟨H1, I1, q1⟩
theorem pw_or (ha : PT X a tA) (hb : PW X (.BoolOp .Or (b :: rest) pos) tB') : PW X (.BoolOp .Or (a :: b :: rest) pos) (tOr tA tB') := by
  intro wh pins s σ H Q I h
  refine isTrue_or (thn (ha pins s σ H _ I h) fun c s1 zq13 => zq13.elim fun H1 zq14 => zq14.elim fun I1 q1 => ?_)
  cases c with
  | true => exact ⟨H1, I1, q1⟩
  | false => exact hb wh pins s1 σ H1 Q I1 q1
theorem pt_not (ha : PT X a tA) : PT X (.UnaryOp .Not a pos) (tNot tA) := by
  intro pins s σ H Q I h
  exact isTrue_not (ha pins s σ H (fun c H1 => Q (!c) H1) I h)
end
end L2
namespace L2
open PySem PySem.Spec PyProof.Rows
noncomputable def SqL (K : PySem.W.Frag) (H : Hp) (a : Addr) (xs : List V) : Prop :=
  Rd H a (.lst xs) ∨
    ∃ (o : Obj) (its : Array Value) (n : Nat), K.lookup a = some o ∧ o.cls = .type "list" ∧ o.dict = none ∧ o.data = .seq its n ∧ its.size ≤ sizeLine ∧ Vals xs its.toList
noncomputable def SqT (K : PySem.W.Frag) (H : Hp) (a : Addr) (xs : List V) : Prop :=
  Rd H a (.tup xs) ∨
    ∃ (o : Obj) (its : Array Value) (n : Nat), K.lookup a = some o ∧ o.cls = .type "tuple" ∧ o.data = .seq its n ∧ its.size ≤ sizeLine ∧ Vals xs its.toList
noncomputable def absV : Value → Option V
  | .none => some .non
  | .bool b => some (.bl b)
  | .int i _ => some (.int i)
  | .str x _ => some (.str x)
  | .bytes b _ => some (.byt b)
  | .float b _ => some (.flt b)
  | .ref a => some (.ref a)
  | .type n => some (.ty n)
  | _ => none
theorem RelV.abs {x : V} {u : Value} (r : RelV x u) : absV u = some x := by
  cases x with
  | non => cases r; rfl
  | bl _ => cases r; rfl
  | int _ => obtain ⟨t, rfl⟩ := r; rfl
  | str _ => obtain ⟨t, rfl⟩ := r; rfl
  | byt _ => obtain ⟨t, rfl⟩ := r; rfl
  | flt _ => obtain ⟨t, rfl⟩ := r; rfl
  | ref _ => cases r; rfl
  | ty _ => cases r; rfl
theorem RelV.inj {x y : V} {u : Value} (r : RelV x u) (q : RelV y u) : x = y := Option.some.inj (r.abs.symm.trans q.abs)
theorem Vals.inj : ∀ {xs ys : List V} {us : List Value}, Vals xs us → Vals ys us → xs = ys
  | _, _, _, .nil, .nil => rfl
  | _, _, _, .cons r t, .cons r' t' => by rw [r.inj r', Vals.inj t t']
section
variable {X : Cx} {pins : List (Addr × Obj)} {σ : St} {H : Hp} {s : Shared} {a : Addr} {xs ys : List V}
theorem SqL.of {K : PySem.W.Frag} (h : H a = some (.lst xs)) : SqL K H a xs := .inl (.inl h)
theorem SqT.of {K : PySem.W.Frag} (h : H a = some (.tup xs)) : SqT K H a xs := .inl (.inl h)
theorem Inv.list (I : Inv X pins σ H s) (h : SqL X.K H a xs) : ∃ its : List Value, Vals xs its ∧ PlainL s.heap a its.toArray ∧ xs.length ≤ sizeLine := by
  rcases h with h | ⟨o, its, n, hk, hc, hd, hs, hz, r⟩
  · obtain ⟨z, its, n, r, e⟩ := h.ok I.hok
    exact ⟨its, r, ⟨_, n, e, rfl, rfl, rfl⟩, z⟩
  · refine ⟨its.toList, r, ⟨o, n, I.kIn a o hk, hc, hd, by simpa using hs⟩, ?_⟩
    have e := r.length
    simp only [Array.length_toList] at e
    omega
theorem Inv.tuple (I : Inv X pins σ H s) (h : SqT X.K H a xs) : ∃ its : List Value, Vals xs its ∧ IsTup s.heap a its.toArray ∧ xs.length ≤ sizeLine := by
  rcases h with h | ⟨o, its, n, hk, hc, hs, hz, r⟩
  · obtain ⟨z, its, r, p⟩ := h.ok I.hok
    exact ⟨its, r, p, z⟩
  · refine ⟨its.toList, r, ⟨o, I.kIn a o hk, hc, n, by simpa using hs⟩, ?_⟩
    have e := r.length
    simp only [Array.length_toList] at e
    omega
theorem Inv.list_inj (I : Inv X pins σ H s) (h : SqL X.K H a xs) (h' : SqL X.K H a ys) : xs = ys := by
  obtain ⟨its, r, ⟨o, n, e, _, _, d⟩, _⟩ := I.list h
  obtain ⟨its', r', ⟨o', n', e', _, _, d'⟩, _⟩ := I.list h'
  rw [e] at e'; cases e'
  rw [d] at d'
  injection d' with d1 _
  have : its = its' := by simpa using congrArg Array.toList d1
  subst this
  exact r.inj r'
end
noncomputable abbrev Cx.wish (X : Cx) (E : Value → Shared → Prop) : Cx := { X with xe := E }
noncomputable abbrev Cx.nox (X : Cx) : Cx := X.wish fun _ _ => False
theorem Cx.Ok.wish {X : Cx} (ok : X.Ok) (E : Value → Shared → Prop) : (X.wish E).Ok :=
  ⟨ok.mod, ok.kind, ok.glob, ok.blt, ok.above, ok.inj, ok.has, ok.cab, ok.hd, ok.frames, ok.stk, ok.exf, ok.bs, ok.bsz, ok.noex, ok.exfs, ok.funs, ok.frf⟩
theorem Cx.Ok.unwish {X : Cx} {E : Value → Shared → Prop} (ok : (X.wish E).Ok) : X.Ok :=
  ⟨ok.mod, ok.kind, ok.glob, ok.blt, ok.above, ok.inj, ok.has, ok.cab, ok.hd, ok.frames, ok.stk, ok.exf, ok.bs, ok.bsz, ok.noex, ok.exfs, ok.funs, ok.frf⟩
section
variable {X : Cx} {pins : List (Addr × Obj)} {σ : St} {H : Hp} {s : Shared} {E : Value → Shared → Prop}
theorem Inv.wish (I : Inv X pins σ H s) (E : Value → Shared → Prop) : Inv (X.wish E) pins σ H s := ⟨I.ok.wish E, I.os, I.bare, I.base, I.loc, I.cell, I.free, I.freeC, I.pin, I.hok, I.len⟩
theorem Inv.unwish (I : Inv (X.wish E) pins σ H s) : Inv X pins σ H s := ⟨I.ok.unwish, I.os, I.bare, I.base, I.loc, I.cell, I.free, I.freeC, I.pin, I.hok, I.len⟩
theorem SP.unwish {D : Ends} {f : Flow} {s' : Shared} (h : SP (X.wish E) pins D f s') : SP X pins D f s' := by
  cases f with
  | next => obtain ⟨σ', H', I, q⟩ := h; exact ⟨σ', H', I.unwish, q⟩
  | brk => obtain ⟨σ', H', I, q⟩ := h; exact ⟨σ', H', I.unwish, q⟩
  | cont => obtain ⟨σ', H', I, q⟩ := h; exact ⟨σ', H', I.unwish, q⟩
  | ret u => obtain ⟨v, σ', H', I, r, q⟩ := h; exact ⟨v, σ', H', I.unwish, r, q⟩
theorem PSs.nox {st : List Stmt} {t : TS} (h : PSs X.nox st t) : PSs X st t := fun pins s σ H D I hw =>
  wpAny_mono (h pins s σ H D (I.wish _) hw) (fun _ _ q => q.unwish) fun _ _ z => False.elim z
end
section
variable {X : Cx} {st : Stmt} {rest : List Stmt} {t u : TS} {e : Expr} {te : TE} {pos : Pos}
noncomputable def tNext : TS := fun D σ H => D.nx σ H
noncomputable def tSeq (t u : TS) : TS := fun D σ H => t { D with nx := u D } σ H
theorem pss_nil : PSs X [] tNext := fun _ _ σ H _ I h => wpAny_execs_nil ⟨σ, H, I, h⟩
theorem pss_cons (h1 : PS X st t) (h2 : PSs X rest u) : PSs X (st :: rest) (tSeq t u) := by
  intro pins s σ H D I h
  refine wpAny_execs_cons (thn (h1 pins s σ H { D with nx := u D } I h) fun f s1 q => ?_)
  cases f with
  | next =>
    obtain ⟨σ', H', I', q⟩ := q
    exact h2 pins s1 σ' H' D I' q
  | ret v => exact q
  | brk => exact q
  | cont => exact q
theorem pss_one (h1 : PS X st t) : PSs X [st] t := by
  intro pins s σ H D I h
  refine wpAny_execs_cons (thn (h1 pins s σ H D I h) fun f s1 q => ?_)
  cases f with
  | next => exact wpAny_execs_nil q
  | ret v => exact q
  | brk => exact q
  | cont => exact q
theorem Inv.quiet {pins : List (Addr × Obj)} {σ : St} {H : Hp} {s : Shared} (I : Inv X pins σ H s) : interactive X.env = false := by simp [interactive, I.ok.kind]
noncomputable def tDrop (te : TE) : TS := fun D σ H => te σ H fun _ H1 => D.nx σ H1
theorem ps_expr (he : PE X e te) (hs : swapsWith e none pos.line X.env = pure false := by rfl) : PS X (.Expr e pos) (tDrop te) := by
  intro pins s σ H D I h
  exact wpAny_Expr_any (thn (he pins s σ H _ I h) fun v s1 zq15 => zq15.elim fun x zq16 => zq16.elim fun H1 zq17 => zq17.elim fun I1 zq18 => zq18.elim fun r1 q1 => ⟨σ, H1, I1, q1⟩) I.quiet hs
noncomputable def tRet (te : TE) : TS := fun D σ H => te σ H D.rt
theorem ps_ret (he : PE X e te) : PS X (.Return (some e) pos) (tRet te) := by
  intro pins s σ H D I h
  exact wpAny_Return_some (thn (he pins s σ H _ I h) fun v s1 zq19 => zq19.elim fun x zq20 => zq20.elim fun H1 zq21 => zq21.elim fun I1 zq22 => zq22.elim fun r1 q1 => ⟨x, σ, H1, I1, r1, q1⟩)
noncomputable def tIfS (c : TT) (t u : TS) : TS := fun D σ H => c σ H fun b H1 => if b = true then t D σ H1 else u D σ H1
theorem ps_if {c : Expr} {a b : List Stmt} {tc : TT} (hc : PT X c tc) (ha : PSs X a t) (hb : PSs X b u) : PS X (.If c a b pos) (tIfS tc t u) := by
  intro pins s σ H D I h
  refine wpAny_If (thn (hc pins s σ H _ I h) fun d s1 zq23 => zq23.elim fun H1 zq24 => zq24.elim fun I1 q1 => ?_)
  cases d with
  | true => exact ha pins s1 σ H1 D I1 q1
  | false => exact hb pins s1 σ H1 D I1 q1
noncomputable def tNever : TS := fun _ _ _ => False
theorem ps_never : PS X st tNever := fun _ _ _ _ _ _ h => h.elim
theorem pss_never {sts : List Stmt} : PSs X sts tNever := fun _ _ _ _ _ _ h => h.elim
end
noncomputable abbrev TG := V → St → Hp → (St → Hp → Prop) → Prop
noncomputable abbrev TGs := List V → St → Hp → (St → Hp → Prop) → Prop
noncomputable def PG (X : Cx) (target : Expr) (t : TG) : Prop :=
  ∀ (pins : List (Addr × Obj)) (s : Shared) (σ : St) (H : Hp) (v : V) (u : Value) (Q : St → Hp → Prop), Inv X pins σ H s → RelV v u → t v σ H Q →
    wpAny (model X.prog X.w) X.A (assign target X.env u) (fun _ s' => ∃ σ' H', Inv X pins σ' H' s' ∧ Q σ' H') X.xe s
noncomputable def PGs (X : Cx) (ts : List Expr) (t : TGs) : Prop :=
  ∀ (pins : List (Addr × Obj)) (s : Shared) (σ : St) (H : Hp) (vs : List V) (us : List Value) (Q : St → Hp → Prop), Inv X pins σ H s → Vals vs us → t vs σ H Q →
    wpAny (model X.prog X.w) X.A (assignInOrder ((assignEach ts X.env).map (·.2)) us) (fun _ s' => ∃ σ' H', Inv X pins σ' H' s' ∧ Q σ' H') X.xe s
section
variable {X : Cx} {pos : Pos}
noncomputable def gName (i : Nat) : TG := fun v σ H Q => Q (σ.set i (some v)) H
theorem pg_name {i : Nat} {x : Str} (hN : X.N.Nodup) (hi : X.N[i]? = some x) (hx : Loc X.env.scope x) (hf : X.fn x = true ∨ X.env.scope.names.lookup x = some .local := by first | exact .inl rfl | exact .inr rfl | assumption) : PG X (.Name x pos) (gName i) := by
  intro pins s σ H v u Q I r h
  exact wpAny_assign_Name (store_ok I hN hi hx r (fun s' I' => ⟨_, H, I', h⟩) hf)
noncomputable def gNil : TGs := fun vs σ H Q => vs = [] ∧ Q σ H
noncomputable def gCons (t : TG) (u : TGs) : TGs := fun vs σ H Q => ∃ v r, vs = v :: r ∧ t v σ H fun σ' H' => u r σ' H' Q
theorem pgs_nil : PGs X [] gNil := by
  intro pins s σ H vs us Q I r h
  obtain ⟨e, h⟩ := h
  subst e
  cases r
  exact assignInOrder_nil ⟨σ, H, I, h⟩
theorem pgs_cons {e : Expr} {es : List Expr} {t : TG} {u : TGs} (h1 : PG X e t) (h2 : PGs X es u)
    (hs : (assignEach (e :: es) X.env).map (·.2) = assign e X.env :: (assignEach es X.env).map (·.2) := by rfl) : PGs X (e :: es) (gCons t u) := by
  intro pins s σ H vs us Q I r h
  obtain ⟨v, vr, e1, h⟩ := h
  subst e1
  cases r with
  | cons r rr =>
    rw [hs]
    refine assignInOrder_cons (thn (h1 pins s σ H _ _ _ I r h) fun _ s1 zq25 => zq25.elim fun σ1 zq26 => zq26.elim fun H1 zq27 => zq27.elim fun I1 q1 => ?_)
    exact h2 pins s1 σ1 H1 _ _ Q I1 rr q1
noncomputable def gTup (K : PySem.W.Frag) (n : Nat) (t : TGs) : TG := fun v σ H Q => ∃ a xs, v = .ref a ∧ SqT K H a xs ∧ xs.length = n ∧ t xs σ H Q
theorem pg_tup {es : List Expr} {k : Nat} {t : TGs} {n : Nat} (hc : X.calm = true) (h : PGs X es t)
    (hn : (assignEach es X.env).length = n := by rfl) (hst : (assignEach es X.env).findIdx? (·.1) = none := by rfl) : PG X (.Tuple es k pos) (gTup X.K n t) := by
  intro pins s σ H v u Q I r hw
  obtain ⟨a, xs, e1, hq, hl, hw⟩ := hw
  subst e1
  cases r
  obtain ⟨its, rv, ht, hz⟩ := I.tuple hq
  refine assign_Tuple_tuple (I.ok.hd hc) ht (by simp [hn, ← hl, rv.length]) hst fun h' hx => ?_
  have I1 : Inv X pins σ H { s with heap := h' } := I.kept (t' := s.toks) fun b o e => hx b o (Nat.ne_of_lt (Heap.lt_size e)) e
  exact h pins _ σ H xs _ Q I1 (by simpa using rv) hw
noncomputable def tAsg (te : TE) (g : TG) : TS := fun D σ H => te σ H fun x H1 => g x σ H1 D.nx
theorem ps_set {i : Nat} {x : Str} {e : Expr} {te : TE} {pos' : Pos} (hN : X.N.Nodup) (hi : X.N[i]? = some x) (hx : Loc X.env.scope x) (he : PE X e te) (hs : swapsWith e (some (.Name x pos')) pos.line X.env = pure false := by rfl) (hf : X.fn x = true ∨ X.env.scope.names.lookup x = some .local := by first | exact .inl rfl | exact .inr rfl | assumption) :
    PS X (.Assign [.Name x pos'] e pos) (tAsg te (gName i)) := by
  intro pins s σ H D I h
  refine wpAny_Assign_Name (thn (he pins s σ H _ I h) fun v s1 zq28 => zq28.elim fun y zq29 => zq29.elim fun H1 zq30 => zq30.elim fun I1 zq31 => zq31.elim fun r1 q1 => ?_) hs
  exact store_ok I1 hN hi hx r1 (fun s2 I2 => ⟨_, H1, I2, q1⟩) hf
end
section
variable {X : Cx} {pos : Pos}
end
structure It where
  go : Nat → Hp → Prop
  yld : Nat → Hp → V → Hp → Prop
  stop : Nat → Hp → Prop
noncomputable def FpOk (X : Cx) (pins : List (Addr × Obj)) (H : Hp) (b : Addr) : Prop :=
  H b = none ∧ b ≠ X.env.locals ∧ b ∉ X.fs ∧ (b ∈ X.ex ∨ X.s₀.heap.objs.size ≤ b) ∧ (∀ x c, X.env.cells.lookup x = some c → c ≠ b) ∧ ∀ p ∈ X.pn ++ pins, p.1 ≠ b
theorem Inv.fpOk {X : Cx} {pins : List (Addr × Obj)} {σ : St} {H H' : Hp} {s : Shared} {b : Addr} (I : Inv X pins σ H s) (hb : s.heap.objs.size ≤ b) (hn : H' b = none) : FpOk X pins H' b := by
  refine ⟨hn, Nat.ne_of_gt (Nat.lt_of_lt_of_le I.lt hb), I.nofs hb, .inr (Nat.le_trans I.sz hb), fun x c e z => ?_, fun p hp z => ?_⟩
  · obtain ⟨v, q⟩ := I.cell x c e
    exact absurd (Nat.lt_of_lt_of_le q.lt (by rw [z]; exact hb)) (Nat.lt_irrefl _)
  · exact absurd (Nat.lt_of_lt_of_le (Heap.lt_size (I.pin p hp).1) (by rw [z]; exact hb)) (Nat.lt_irrefl _)
structure Turn (P : Program) (w : World) (K : PySem.W.Frag) (tg : Expr) (J : It) (fp : List Addr) (it : Addr) (tn : Nat → Heap → Prop) : Prop where
  mem : it ∈ fp
  obj : ∀ i h, tn i h → ∀ b ∈ fp, ∃ o, h.get? b = some o ∧ ∀ v, o.data ≠ .cell v
  keep : ∀ i h h', tn i h → (∀ b ∈ fp, ∀ o, h.get? b = some o → h'.get? b = some o) → tn i h'
  item : ∀ (X : Cx), X.prog = P → X.w = w → X.K = K → X.calm = true → ∀ (i : Nat) (pins : List (Addr × Obj)) (s : Shared) (σ : St) (H : Hp) (E : Value → Shared → Prop), Inv X pins σ H s → (∀ b ∈ fp, FpOk X pins H b) → tn i s.heap → J.go i H →
    wpAny (model P w) X.A (pyNext (.ref it)) (fun r s1 => ∃ u, r = some u ∧
      wpAny (model P w) X.A (letOwnedTupleGo tg (.ref it) u) (fun _ s2 => ∃ x H', Inv X pins σ H' s2 ∧ RelV x u ∧ J.yld i H x H' ∧ tn (i + 1) s2.heap ∧ ∀ b ∈ fp, H' b = none) E s1) E s
  done : ∀ (X : Cx), X.prog = P → X.w = w → X.K = K → X.calm = true → ∀ (i : Nat) (pins : List (Addr × Obj)) (s : Shared) (σ : St) (H : Hp) (E : Value → Shared → Prop), Inv X pins σ H s → (∀ b ∈ fp, FpOk X pins H b) → tn i s.heap → J.stop i H →
    wpAny (model P w) X.A (pyNext (.ref it)) (fun r s1 => r = none ∧ Inv X pins σ H s1) E s
  self : ∀ (A : Around) (i : Nat) (s : Shared) (Q : Value → Shared → Prop) (E : Value → Shared → Prop), tn i s.heap → Q (.ref it) s → wpAny (model P w) A (pyIter (.ref it)) Q E s
noncomputable abbrev TI := St → Hp → (It → Hp → Prop) → Prop
noncomputable def PIE (X : Cx) (pins : List (Addr × Obj)) (σ : St) (tg : Expr) (R : It → Hp → Prop) (itv : Value) (s2 : Shared) : Prop :=
  ∃ (it : Addr) (fp : List Addr) (tn : Nat → Heap → Prop) (J : It) (H' : Hp), itv = .ref it ∧ Inv X pins σ H' s2 ∧ Turn X.prog X.w X.K tg J fp it tn ∧ tn 0 s2.heap ∧ (∀ b ∈ fp, FpOk X pins H' b) ∧ R J H'
noncomputable def PI (X : Cx) (tg iter : Expr) (wi : TI) : Prop :=
  ∀ (pins : List (Addr × Obj)) (s : Shared) (σ : St) (H : Hp) (R : It → Hp → Prop), Inv X pins σ H s → wi σ H R →
    wpAny (model X.prog X.w) X.A (eval iter X.env) (fun v s1 => wpAny (model X.prog X.w) X.A (pyIter v) (PIE X pins σ tg R) X.xe s1) X.xe s
theorem go_of {M : Model} {A : Around} {E : Value → Shared → Prop} {s : Shared} {tg : Expr} {it : Addr} {u : Value} {o : Obj} {n : String} {vs : Array Value} {Q : Unit → Shared → Prop} (ho : s.heap.get? it = some o) (hc : o.cls = .type n) (hd : o.data = .fields vs)
    (hn : ["enumerate", "zip", "dict_itemiterator", "dict_reverseitemiterator", "odict_iterator", "itertools.zip_longest", "itertools.pairwise"].contains n = false) (hQ : Q () s) : wpAny M A (letOwnedTupleGo tg (.ref it) u) Q E s := by
  unfold letOwnedTupleGo
  cases tg <;> first
    | exact wpAny_pure hQ
    | (cases u <;> first
        | exact wpAny_pure hQ
        | (refine wpAny_bind (wpAny_load ho ?_)
           rw [hc, hd]
           show wpAny M A (if (["enumerate", "zip", "dict_itemiterator", "dict_reverseitemiterator", "odict_iterator", "itertools.zip_longest", "itertools.pairwise"].contains n && vs[0]? == some (rawInt _)) = true then _ else _) Q E s
           rw [if_neg (by intro h; rw [hn, Bool.false_and] at h; cases h)]
           exact wpAny_pure hQ))
noncomputable def Itl (K : PySem.W.Frag) (a : Addr) : It :=
  ⟨fun i H => ∃ xs x, SqL K H a xs ∧ xs[i]? = some x, fun i H x H' => H' = H ∧ ∀ xs, SqL K H a xs → xs[i]? = some x, fun i H => ∃ xs, SqL K H a xs ∧ xs.length ≤ i⟩
noncomputable def Itr (lo : Int) (n : Nat) : It := ⟨fun i _ => i < n, fun i H x H' => H' = H ∧ x = .int (lo + i), fun i _ => n ≤ i⟩
theorem turn_list {P : Program} {w : World} {K : PySem.W.Frag} {tg : Expr} (a it : Addr) : Turn P w K tg (Itl K a) [it] it (fun i h => h.IsListIter it a i) where
  mem := by simp
  obj := fun i h st b hb => by
    have e : b = it := by simpa using hb
    subst e
    obtain ⟨o, e, c, d⟩ := st
    exact ⟨o, e, fun v z => by rw [d] at z; cases z⟩
  keep := fun i h h' st k => st.at fun o e => k it (by simp) o e
  item := by
    intro X hP hw hK hc i pins s σ H E I hf st hg
    subst hP hw hK
    obtain ⟨xs, x, hq, hx⟩ := hg
    obtain ⟨its, rv, p, hz⟩ := I.list hq
    obtain ⟨u, hu, ru⟩ := rv.get hx
    obtain ⟨f0, f1, f2, f3, f4, f5⟩ := hf it (by simp)
    refine wpAny_pyNext_list_item st p.isList (x := u) (by simpa using hu) fun h' st' sb => ?_
    have I1 : Inv X pins σ H { s with heap := h' } := I.turned (t' := s.toks) (fun b o hb e => (sb.2 b hb).trans e) f0 f1 f3 f4 f5
    obtain ⟨o, e, c, d⟩ := id st'
    exact ⟨u, rfl, go_of (s := { s with heap := h' }) e c d (by decide) ⟨x, H, I1, ru, ⟨rfl, fun ys hy => by rw [I.list_inj hy hq]; exact hx⟩, st', fun b hb => (hf b hb).1⟩⟩
  done := by
    intro X hP hw hK hc i pins s σ H E I hf st hg
    subst hP hw hK
    obtain ⟨xs, hq, hx⟩ := hg
    obtain ⟨its, rv, p, hz⟩ := I.list hq
    obtain ⟨f0, f1, f2, f3, f4, f5⟩ := hf it (by simp)
    have hl := rv.length
    exact wpAny_pyNext_list_end (I.ok.hd hc) st p.isList (by simp; omega) fun h' eb => ⟨rfl, I.turned (t' := s.toks) (fun b o hb e => eb b o hb e) f0 f1 f3 f4 f5⟩
  self := fun _ _ _ _ _ st h => wpAny_pyIter_listiter st h
theorem turn_range {P : Program} {w : World} {K : PySem.W.Frag} {tg : Expr} (it : Addr) (lo : Int) (n : Nat) : Turn P w K tg (Itr lo n) [it] it (fun i h => IsRangeIter h it (lo + (i : Nat) * 1) ((n : Int) - (i : Nat)) 1) where
  mem := by simp
  obj := fun i h st b hb => by
    have e : b = it := by simpa using hb
    subst e
    exact ⟨_, st, fun v z => by
      have z' : Data.fields _ = Data.cell v := z
      cases z'⟩
  keep := fun i h h' st k => k it (by simp) _ st
  item := by
    intro X hP hw hK hc i pins s σ H E I hf st hg
    subst hP hw hK
    obtain ⟨f0, f1, f2, f3, f4, f5⟩ := hf it (by simp)
    have W := Walks.range (prog := X.prog) (w := X.w) (I.ok.hd hc) it lo 1 n
    refine W.item i s _ _ hg st fun v h' tk hv st' kk => ?_
    obtain ⟨t, rfl⟩ := hv
    have I1 : Inv X pins σ H { s with heap := h', toks := tk } := I.turned (fun b o hb e => kk b o (by simpa using hb) e) f0 f1 f3 f4 f5
    refine ⟨_, rfl, go_of (s := { s with heap := h', toks := tk }) (n := "range_iterator") st' rfl rfl (by decide) ⟨.int (lo + i), H, I1, ⟨t, ?_⟩, ⟨rfl, rfl⟩, st', fun b hb => (hf b hb).1⟩⟩
    rw [Int.mul_one]
  done := by
    intro X hP hw hK hc i pins s σ H E I hf st hg
    subst hP hw hK
    obtain ⟨f0, f1, f2, f3, f4, f5⟩ := hf it (by simp)
    exact wpAny_pyNext_range_end (I.ok.hd hc) st (by have : n ≤ i := hg; omega) fun h' eb => ⟨rfl, I.turned (t' := s.toks) (fun b o hb e => eb b o hb e) f0 f1 f3 f4 f5⟩
  self := fun _ _ _ _ _ st h => wpAny_pyIter_rangeiter st h
end L2
namespace L2
open PySem PySem.Spec PyProof.Rows
section
variable {X : Cx} {tg : Expr}
noncomputable def iList (K : PySem.W.Frag) (tl : TE) : TI := fun σ H R => tl σ H fun x H1 => ∃ a, x = .ref a ∧ (∃ xs, SqL K H1 a xs) ∧ R (Itl K a) H1
theorem pi_list {l : Expr} {tl : TE} (hl : PE X l tl) : PI X tg l (iList X.K tl) := by
  intro pins s σ H R I h
  refine thn (hl pins s σ H _ I h) fun v s1 zq32 => zq32.elim fun x zq33 => zq33.elim fun H1 zq34 => zq34.elim fun I1 zq35 => zq35.elim fun r1 q1 => ?_
  obtain ⟨a, e, ⟨xs, hq⟩, q⟩ := q1
  subst e
  cases r1
  obtain ⟨its, rv, p, hz⟩ := I1.list hq
  refine wpAny_pyIter_list p.isList ?_
  refine ⟨s1.heap.objs.size, [s1.heap.objs.size], _, _, H1, rfl, I1.kept (t' := s1.toks) fun b o e => Heap.get?_push_of_some _ e, turn_list a _, ⟨_, Heap.get?_push_size _ rfl, rfl, rfl⟩, fun b hb => ?_, q⟩
  have e : b = s1.heap.objs.size := by simpa using hb
  subst e
  exact I1.fpOk (Nat.le_refl _) (I1.hok.fresh (Nat.le_refl _))
theorem range_it {pins : List (Addr × Obj)} {σ : St} {H : Hp} {s : Shared} {R : It → Hp → Prop} {E : Value → Shared → Prop} {lo hi : Int} {t u v : Tok} {tk : Nat} (I : Inv X pins σ H s) (h1 : -(2 ^ 62) ≤ lo) (h2 : lo < 2 ^ 62) (h3 : -(2 ^ 62) ≤ hi) (h4 : hi < 2 ^ 62)
    (q : R (Itr lo (hi - lo).toNat) H) : wpAny (model X.prog X.w) X.A (pyIter (.ref s.heap.objs.size)) (PIE X pins σ tg R) E { s with heap := s.heap.push { cls := .type "range", data := .fields #[.int lo t, .int hi u, .int 1 v] }, toks := tk } := by
  refine wpAny_pyIter_range (IsRange.new ..) (small_one h1 h2 h3 h4) ?_
  have I1 : Inv X pins σ H { s with heap := s.heap.push { cls := .type "range", data := .fields #[.int lo t, .int hi u, .int 1 v] }, toks := tk } := I.kept fun b o e => Heap.get?_push_of_some _ e
  refine ⟨(s.heap.push { cls := .type "range", data := .fields #[.int lo t, .int hi u, .int 1 v] }).objs.size, [(s.heap.push { cls := .type "range", data := .fields #[.int lo t, .int hi u, .int 1 v] }).objs.size], _, _, H, rfl,
    I1.kept (t' := tk) fun b o e => Heap.get?_push_of_some _ e, turn_range _ lo (hi - lo).toNat, ?_, fun b hb => ?_, q⟩
  · have e1 : lo + ((0 : Nat) : Int) * 1 = lo := by simp
    have e2 : (((hi - lo).toNat : Nat) : Int) - ((0 : Nat) : Int) = Builtin.Range.rangeSize lo hi 1 := by rw [rangeSize_one]; split <;> omega
    show IsRangeIter _ _ (lo + ((0 : Nat) : Int) * 1) ((((hi - lo).toNat : Nat) : Int) - ((0 : Nat) : Int)) 1
    rw [e1, e2]
    exact Heap.get?_push_size _ rfl
  · have e : b = (s.heap.push { cls := .type "range", data := .fields #[.int lo t, .int hi u, .int 1 v] }).objs.size := by simpa using hb
    subst e
    exact I1.fpOk (Nat.le_refl _) (I1.hok.fresh (Nat.le_refl _))
noncomputable def iRng1 (ta : TA) : TI := fun σ H R => ta σ H fun vs H1 => ∃ j : Int, vs = [.int j] ∧ -(2 ^ 62) ≤ j ∧ j < 2 ^ 62 ∧ R (Itr 0 j.toNat) H1
noncomputable def iRng2 (ta : TA) : TI := fun σ H R => ta σ H fun vs H1 => ∃ i j : Int, vs = [.int i, .int j] ∧ (-(2 ^ 62) ≤ i ∧ i < 2 ^ 62 ∧ -(2 ^ 62) ≤ j ∧ j < 2 ^ 62) ∧ R (Itr i (j - i).toNat) H1
theorem pi_range1 {a : Expr} {ta : TA} {p pos : Pos} (hg : Gl X "range") (hm : X.mg "range" = none) (ha : PA X [a] ta) (hs : starEach [a] X.env = [(false, eval a X.env)] := by rfl) : PI X tg (.Call (.Name "range" p) [a] [] pos) (iRng1 ta) := by
  intro pins s σ H R I h
  refine Call_ (ld_blt I hg hm boot_range (PyProof.Rows.callWith_type1 (thn (ha pos pins s σ H _ I h) fun us s1 zq36 => zq36.elim fun vs zq37 => zq37.elim fun H1 zq38 => zq38.elim fun I1 zq39 => zq39.elim fun r1 q1 => ?_) hs rfl))
  obtain ⟨j, e, q1, q2, q⟩ := q1
  subst e
  cases r1 with
  | cons r rr =>
    cases rr
    obtain ⟨t, rfl⟩ := r
    exact call_range_1 (range_it I1 (by omega) (by omega) q1 q2 (by simpa using q))
theorem pi_range2 {a b : Expr} {ta : TA} {p pos : Pos} (hg : Gl X "range") (hm : X.mg "range" = none) (ha : PA X [a, b] ta) (hs : starEach [a, b] X.env = [(false, eval a X.env), (false, eval b X.env)] := by rfl) (hs2 : starEach [b] X.env = [(false, eval b X.env)] := by rfl) :
    PI X tg (.Call (.Name "range" p) [a, b] [] pos) (iRng2 ta) := by
  intro pins s σ H R I h
  refine Call_ (ld_blt I hg hm boot_range (PyProof.Rows.callWith_type1 (thn (ha pos pins s σ H _ I h) fun us s1 zq40 => zq40.elim fun vs zq41 => zq41.elim fun H1 zq42 => zq42.elim fun I1 zq43 => zq43.elim fun r1 q1 => ?_) (by rw [hs, hs2]) (by rw [hs2]; rfl)))
  obtain ⟨i, j, e, ⟨q1, q2, q3, q4⟩, q⟩ := q1
  subst e
  cases r1 with
  | cons r rr =>
    cases rr with
    | cons r' rr =>
      cases rr
      obtain ⟨t, rfl⟩ := r
      obtain ⟨t', rfl⟩ := r'
      exact call_range_2 (range_it I1 q1 q2 q3 q4 q)
noncomputable def tFor (wi : TI) (g : TG) (tb : TS) : TS := fun D σ H => wi σ H fun J H1 => ∃ W : Nat → Nat → St → Hp → Prop, (∃ m, W 0 m σ H1) ∧ ∀ i m σ H, W i m σ H →
  (J.stop i H ∧ D.nx σ H) ∨ (J.go i H ∧ ∃ N : St → Hp → Prop, (∀ σ' H', N σ' H' → ∃ m', m' < m ∧ W (i + 1) m' σ' H') ∧ ∀ x H', J.yld i H x H' → g x σ H' fun σ2 H2 => tb { D with nx := N, ct := N, bk := D.nx } σ2 H2)
noncomputable def pinsAt (fp : List Addr) (h : Heap) : List (Addr × Obj) := fp.filterMap fun b => (h.get? b).map fun o => (b, o)
theorem mem_pinsAt {fp : List Addr} {h : Heap} {b : Addr} {o : Obj} (hb : b ∈ fp) (e : h.get? b = some o) : (b, o) ∈ pinsAt fp h := List.mem_filterMap.mpr ⟨b, hb, by rw [e]; rfl⟩
theorem of_pinsAt {fp : List Addr} {h : Heap} {p : Addr × Obj} (hp : p ∈ pinsAt fp h) : p.1 ∈ fp ∧ h.get? p.1 = some p.2 := by
  obtain ⟨b, hb, e⟩ := List.mem_filterMap.mp hp
  cases q : h.get? b with
  | none => rw [q] at e; cases e
  | some o =>
    rw [q] at e
    have e' : (b, o) = p := Option.some.inj e
    subst e'
    exact ⟨hb, q⟩
theorem Inv.pinned {pins : List (Addr × Obj)} {σ : St} {H : Hp} {s : Shared} {fp : List Addr} (I : Inv X pins σ H s) (hf : ∀ b ∈ fp, FpOk X pins H b) (ho : ∀ b ∈ fp, ∃ o, s.heap.get? b = some o ∧ ∀ v, o.data ≠ .cell v) : Inv X (pins ++ pinsAt fp s.heap) σ H s :=
  I.pins_of fun p hp => (List.mem_append.mp hp).elim (fun z => I.pin p (List.mem_append_right _ z)) fun z => by
    obtain ⟨hb, e⟩ := of_pinsAt z
    obtain ⟨f0, f1, f2, _⟩ := hf p.1 hb
    obtain ⟨o, e', d⟩ := ho p.1 hb
    rw [e] at e'; cases e'
    exact ⟨e, f0, f1, f2, d⟩
theorem Inv.unpinned {pins pl : List (Addr × Obj)} {σ : St} {H : Hp} {s : Shared} (I : Inv X (pins ++ pl) σ H s) : Inv X pins σ H s := I.pins_of fun p hp => I.pin p (List.mem_append_right _ (List.mem_append_left _ hp))
theorem ps_for {iter : Expr} {body : List Stmt} {wi : TI} {g : TG} {tb : TS} {pos : Pos} (hp : PassesOwn (model X.prog X.w) X.A X.env X.xe) (hc : X.calm = true) (hi : PI X tg iter wi) (hg : PG X tg g) (hb : PSs X body tb)
    (hs : ∀ x, foldedSetIterable iter X.env x = pure x := by intro _; rfl) : PS X (.For tg iter body [] pos) (tFor wi g tb) := by
  intro pins s σ H D I h
  refine wpAny_For (thn (hi pins s σ H _ I h) fun v s1 h1 => thn h1 fun itv s2 h2 => ?_) hs
  obtain ⟨it, fp, tn, J, H2, e, I2, T, st2, f2, W, ⟨m0, w0⟩, turn⟩ := h2
  subst e
  have stat : ∀ {H' : Hp}, (∀ b ∈ fp, H' b = none) → ∀ b ∈ fp, FpOk X pins H' b := fun hn b hb => ⟨hn b hb, (f2 b hb).2⟩
  refine codeAny_forLoop_any (fun n s' => ∃ i σ' H', Inv X pins σ' H' s' ∧ tn i s'.heap ∧ (∀ b ∈ fp, H' b = none) ∧ W i n σ' H') ?_ m0 ⟨0, σ, H2, I2, st2, fun b hb => (f2 b hb).1, w0⟩
  rintro n s3 ⟨i, σ3, H3, I3, st3, fr3, w3⟩
  rcases turn i n σ3 H3 w3 with ⟨stop, qn⟩ | ⟨go, N, hN, step⟩
  · refine wpAny_passesOwn hp (thn (T.done X rfl rfl rfl hc i pins s3 σ3 H3 X.xe I3 (stat fr3) st3 stop) fun r s4 zq44 => zq44.elim fun hr I4 => ?_)
    subst hr
    exact wpAny_execs_nil ⟨σ3, H3, I4, qn⟩
  · refine wpAny_passesOwn hp (thn (T.item X rfl rfl rfl hc i pins s3 σ3 H3 X.xe I3 (stat fr3) st3 go) fun r s4 zq45 => zq45.elim fun u zq46 => zq46.elim fun hr h4 => ?_)
    subst hr
    refine wpAny_passesOwn hp (thn h4 fun _ s5 zq47 => zq47.elim fun x zq48 => zq48.elim fun H5 zq49 => zq49.elim fun I5 zq50 => zq50.elim fun r5 zq51 => zq51.elim fun y5 zq52 => zq52.elim fun st5 fr5 => ?_)
    have I5' := I5.pinned (stat fr5) (T.obj _ _ st5)
    refine wpAny_passesOwn hp (thn (hg _ s5 σ3 H5 x u _ I5' r5 (step x H5 y5)) fun _ s6 zq53 => zq53.elim fun σ6 zq54 => zq54.elim fun H6 zq55 => zq55.elim fun I6 q6 => ?_)
    refine wpAny_passesOwn hp (thn (hb _ s6 σ6 H6 _ I6 q6) fun f s7 q7 => ?_)
    have again : ∀ {σ7 : St} {H7 : Hp}, Inv X (pins ++ pinsAt fp s5.heap) σ7 H7 s7 → N σ7 H7 → ∃ m, m < n ∧ ∃ i σ' H', Inv X pins σ' H' s7 ∧ tn i s7.heap ∧ (∀ b ∈ fp, H' b = none) ∧ W i m σ' H' := fun {σ7 H7} I7 n7 => by
      obtain ⟨m', hm, w7⟩ := hN σ7 H7 n7
      refine ⟨m', hm, i + 1, σ7, H7, I7.unpinned, T.keep _ _ _ st5 fun b hb o e => (I7.pin (b, o) (List.mem_append_right _ (List.mem_append_right _ (mem_pinsAt hb e)))).1, fun b hb => ?_, w7⟩
      obtain ⟨o, e, d⟩ := T.obj _ _ st5 b hb
      exact (I7.pin (b, o) (List.mem_append_right _ (List.mem_append_right _ (mem_pinsAt hb e)))).2.1
    cases f with
    | next => obtain ⟨σ7, H7, I7, n7⟩ := q7; exact again I7 n7
    | cont => obtain ⟨σ7, H7, I7, n7⟩ := q7; exact again I7 n7
    | brk => obtain ⟨σ7, H7, I7, q7⟩ := q7; exact ⟨σ7, H7, I7.unpinned, q7⟩
    | ret v => obtain ⟨x7, σ7, H7, I7, r7, q7⟩ := q7; exact ⟨x7, σ7, H7, I7.unpinned, r7, q7⟩
end
theorem for_list {K : PySem.W.Frag} {a : Addr} {xs : List V} {g : TG} {tb : TS} {D : Ends} {σ : St} {H : Hp} (Pv : Nat → St → Hp → Prop) (h0 : Pv 0 σ H) (hl : ∀ i σ H, i ≤ xs.length → Pv i σ H → SqL K H a xs)
    (hs : ∀ i x σ H, xs[i]? = some x → Pv i σ H → g x σ H fun σ2 H2 => tb { D with nx := Pv (i + 1), ct := Pv (i + 1), bk := D.nx } σ2 H2) (hd : ∀ σ H, Pv xs.length σ H → D.nx σ H) :
    ∃ W : Nat → Nat → St → Hp → Prop, (∃ m, W 0 m σ H) ∧ ∀ i m σ H, W i m σ H →
      ((Itl K a).stop i H ∧ D.nx σ H) ∨ ((Itl K a).go i H ∧ ∃ N : St → Hp → Prop, (∀ σ' H', N σ' H' → ∃ m', m' < m ∧ W (i + 1) m' σ' H') ∧ ∀ x H', (Itl K a).yld i H x H' → g x σ H' fun σ2 H2 => tb { D with nx := N, ct := N, bk := D.nx } σ2 H2) := by
  refine ⟨fun i m σ H => m = xs.length - i ∧ i ≤ xs.length ∧ Pv i σ H, ⟨xs.length, by simp, Nat.zero_le _, h0⟩, ?_⟩
  rintro i m σ H ⟨rfl, hi, p⟩
  have q := hl i σ H hi p
  by_cases hlt : i < xs.length
  · refine .inr ⟨⟨xs, xs[i], q, by simp [hlt]⟩, Pv (i + 1), fun σ' H' p' => ⟨xs.length - (i + 1), by omega, rfl, hlt, p'⟩, fun x H' y => ?_⟩
    obtain ⟨e, y⟩ := y
    subst e
    exact hs i x σ _ (y xs q) p
  · have e : i = xs.length := by omega
    subst e
    exact .inl ⟨⟨xs, q, Nat.le_refl _⟩, hd σ H p⟩
theorem for_range {lo : Int} {n : Nat} {g : TG} {tb : TS} {D : Ends} {σ : St} {H : Hp} (Pv : Nat → St → Hp → Prop) (h0 : Pv 0 σ H)
    (hs : ∀ i σ H, i < n → Pv i σ H → g (.int (lo + i)) σ H fun σ2 H2 => tb { D with nx := Pv (i + 1), ct := Pv (i + 1), bk := D.nx } σ2 H2) (hd : ∀ σ H, Pv n σ H → D.nx σ H) :
    ∃ W : Nat → Nat → St → Hp → Prop, (∃ m, W 0 m σ H) ∧ ∀ i m σ H, W i m σ H →
      ((Itr lo n).stop i H ∧ D.nx σ H) ∨ ((Itr lo n).go i H ∧ ∃ N : St → Hp → Prop, (∀ σ' H', N σ' H' → ∃ m', m' < m ∧ W (i + 1) m' σ' H') ∧ ∀ x H', (Itr lo n).yld i H x H' → g x σ H' fun σ2 H2 => tb { D with nx := N, ct := N, bk := D.nx } σ2 H2) := by
  refine ⟨fun i m σ H => m = n - i ∧ i ≤ n ∧ Pv i σ H, ⟨n, by simp, Nat.zero_le _, h0⟩, ?_⟩
  rintro i m σ H ⟨rfl, hi, p⟩
  by_cases hlt : i < n
  · refine .inr ⟨hlt, Pv (i + 1), fun σ' H' p' => ⟨n - (i + 1), by omega, rfl, hlt, p'⟩, fun x H' y => ?_⟩
    obtain ⟨e, y⟩ := y
    subst e y
    exact hs i σ _ hlt p
  · have e : i = n := by omega
    subst e
    exact .inl ⟨Nat.le_refl _, hd σ H p⟩
end L2
namespace L2
open PySem PySem.Spec PyProof.Rows
noncomputable abbrev R2 := V → V → Hp → VK → Prop
noncomputable def OpR (X : Cx) (f : Value → Value → Sem Value) (r : R2) : Prop :=
  ∀ (pins : List (Addr × Obj)) (s : Shared) (σ : St) (H : Hp) (x y : V) (v u : Value) (Q : VK), Inv X pins σ H s → RelV x v → RelV y u → r x y H Q →
    wpAny (model X.prog X.w) X.A (f v u) (EP X pins σ Q) X.xe s
noncomputable def UnR (X : Cx) (f : Value → Sem Value) (r : V → Hp → VK → Prop) : Prop :=
  ∀ (pins : List (Addr × Obj)) (s : Shared) (σ : St) (H : Hp) (x : V) (v : Value) (Q : VK), Inv X pins σ H s → RelV x v → r x H Q →
    wpAny (model X.prog X.w) X.A (f v) (EP X pins σ Q) X.xe s
noncomputable def CallR (X : Cx) (f : Value) (r : List V → Hp → VK → Prop) : Prop :=
  ∀ (pins : List (Addr × Obj)) (s : Shared) (σ : St) (H : Hp) (xs : List V) (us : List Value) (Q : VK), Inv X pins σ H s → Vals xs us → r xs H Q →
    wpAny (model X.prog X.w) X.A (call f us) (EP X pins σ Q) X.xe s
noncomputable def tOp (r : R2) (ta tb : TE) : TE := fun σ H Q => ta σ H fun x H1 => tb σ H1 fun y H2 => r x y H2 Q
noncomputable def tUn (r : V → Hp → VK → Prop) (ta : TE) : TE := fun σ H Q => ta σ H fun x H1 => r x H1 Q
noncomputable def rI (C : Int → Int → Prop) (g : Int → Int → V) : R2 := fun x y H Q => ∃ i j, x = .int i ∧ y = .int j ∧ C i j ∧ Q (g i j) H
noncomputable def rI0 (g : Int → Int → V) : R2 := fun x y H Q => ∃ i j, x = .int i ∧ y = .int j ∧ Q (g i j) H
noncomputable def rU (g : Int → V) : V → Hp → VK → Prop := fun x H Q => ∃ i, x = .int i ∧ Q (g i) H
section
variable {X : Cx} {a b c : Expr} {ta tb tc : TE} {pos : Pos}
theorem binT (ha : PE X a ta) (hb : PE X b tb) {pins : List (Addr × Obj)} {s : Shared} {σ : St} {H : Hp} {R : V → V → Hp → Prop} (I : Inv X pins σ H s)
    (h : ta σ H fun x H1 => tb σ H1 fun y H2 => R x y H2) {Q : Value → Shared → Prop} {f : Value → Value → Sem Value}
    (hf : ∀ v u s2 x y H2, Inv X pins σ H2 s2 → RelV x v → RelV y u → R x y H2 → wpAny (model X.prog X.w) X.A (f v u) Q X.xe s2) :
    wpAny (model X.prog X.w) X.A (eval a X.env) (fun v s₁ => wpAny (model X.prog X.w) X.A (eval b X.env) (fun u s₂ => wpAny (model X.prog X.w) X.A (f v u) Q X.xe s₂) X.xe s₁) X.xe s := by
  refine thn (ha pins s σ H _ I h) fun v s1 zq56 => zq56.elim fun x zq57 => zq57.elim fun H1 zq58 => zq58.elim fun I1 zq59 => zq59.elim fun r1 q1 => ?_
  refine thn (hb pins s1 σ H1 _ I1 q1) fun u s2 zq60 => zq60.elim fun y zq61 => zq61.elim fun H2 zq62 => zq62.elim fun I2 zq63 => zq63.elim fun r2 q2 => ?_
  exact hf v u s2 x y H2 I2 r1 r2 q2
theorem pe_op {op : Operator} {r : R2} (ho : OpR X (binaryOp op) r) (ha : PE X a ta) (hb : PE X b tb) : PE X (.BinOp a op b pos) (tOp r ta tb) := by
  intro pins s σ H Q I h
  exact wpAny_BinOp (binT ha hb I h fun v u s2 x y H2 I2 rx ry q => ho pins s2 σ H2 x y v u Q I2 rx ry q)
theorem pe_un {op : UnaryOp} {r : V → Hp → VK → Prop} (ho : UnR X (unaryOp op) r) (ha : PE X a ta) : PE X (.UnaryOp op a pos) (tUn r ta) := by
  intro pins s σ H Q I h
  exact UnaryOp_ (thn (ha pins s σ H _ I h) fun v s1 zq64 => zq64.elim fun x zq65 => zq65.elim fun H1 zq66 => zq66.elim fun I1 zq67 => zq67.elim fun r1 q1 => ho pins s1 σ H1 x v Q I1 r1 q1)
theorem opI {f : Value → Value → Sem Value} {C : Int → Int → Prop} {g : Int → Int → Int}
    (rule : ∀ (i j : Int) (t u : Tok) (s : Shared) (Q : Value → Shared → Prop) (E : Value → Shared → Prop), C i j → Q (.int (g i j) s.toks) { s with toks := s.toks + 1 } → wpAny (model X.prog X.w) X.A (f (.int i t) (.int j u)) Q E s) :
    OpR X f (rI C fun i j => .int (g i j)) := by
  intro pins s σ H x y v u Q I rx ry h
  obtain ⟨i, j, rfl, rfl, hc, q⟩ := h
  obtain ⟨t, rfl⟩ := rx
  obtain ⟨t', rfl⟩ := ry
  exact rule i j t t' s _ _ hc ⟨.int (g i j), H, I.tok _, ⟨_, rfl⟩, q⟩
theorem opI0 {f : Value → Value → Sem Value} {g : Int → Int → Int}
    (rule : ∀ (i j : Int) (t u : Tok) (s : Shared) (Q : Value → Shared → Prop) (E : Value → Shared → Prop), Q (.int (g i j) s.toks) { s with toks := s.toks + 1 } → wpAny (model X.prog X.w) X.A (f (.int i t) (.int j u)) Q E s) :
    OpR X f (rI0 fun i j => .int (g i j)) := by
  intro pins s σ H x y v u Q I rx ry h
  obtain ⟨i, j, rfl, rfl, q⟩ := h
  obtain ⟨t, rfl⟩ := rx
  obtain ⟨t', rfl⟩ := ry
  exact rule i j t t' s _ _ ⟨.int (g i j), H, I.tok _, ⟨_, rfl⟩, q⟩
theorem opB0 {f : Value → Value → Sem Value} {g : Int → Int → Bool}
    (rule : ∀ (i j : Int) (t u : Tok) (s : Shared) (Q : Value → Shared → Prop) (E : Value → Shared → Prop), Q (.bool (g i j)) s → wpAny (model X.prog X.w) X.A (f (.int i t) (.int j u)) Q E s) :
    OpR X f (rI0 fun i j => .bl (g i j)) := by
  intro pins s σ H x y v u Q I rx ry h
  obtain ⟨i, j, rfl, rfl, q⟩ := h
  obtain ⟨t, rfl⟩ := rx
  obtain ⟨t', rfl⟩ := ry
  exact rule i j t t' s _ _ ⟨.bl (g i j), H, I, rfl, q⟩
noncomputable def CDiv (i j : Int) : Prop := 0 < j ∧ j < 1073741824
noncomputable def CPow (i j : Int) : Prop := 0 ≤ j ∧ j ≤ 1000000 ∧ i.natAbs < 2 ^ 64
noncomputable def CMul (i j : Int) : Prop := (-(2 ^ 64) < i ∧ i < 2 ^ 64) ∨ (-(2 ^ 64) < j ∧ j < 2 ^ 64)
theorem CMul.ok {i j : Int} (h : CMul i j) : IntMulOk i j := by
  rcases h with ⟨h1, h2⟩ | ⟨h1, h2⟩
  · exact .of_left (intBits_le_64 h1 h2)
  · exact .of_right (intBits_le_64 h1 h2)
theorem op_add : OpR X (binaryOp .Add) (rI0 fun i j => .int (i + j)) := opI0 fun _ _ _ _ _ _ _ q => add_int q
theorem op_sub : OpR X (binaryOp .Sub) (rI0 fun i j => .int (i - j)) := opI0 fun _ _ _ _ _ _ _ q => sub_int q
theorem op_mul : OpR X (binaryOp .Mult) (rI CMul fun i j => .int (i * j)) := opI fun _ _ _ _ _ _ _ hc q => mul_int q hc.ok
theorem op_fdiv : OpR X (binaryOp .FloorDiv) (rI CDiv fun i j => .int (i / j)) := opI fun i j _ _ _ _ _ hc q => by
  have h1 : (0 : Int) < j := hc.1
  have h2 : j < 1073741824 := hc.2
  exact floordiv_int (by omega) (by rw [Int.fdiv_eq_ediv_of_nonneg i (by omega)]; exact q) (.inl (PyProof.noPylong_small (by omega)))
theorem op_mod : OpR X (binaryOp .Mod) (rI (fun _ j => 0 < j) fun i j => .int (i % j)) := opI fun i j _ _ _ _ _ hc q => by
  have h1 : (0 : Int) < j := hc
  exact mod_int' (by omega) (by rw [Int.fmod_eq_emod_of_nonneg i (by omega)]; exact q)
theorem op_pow : OpR X (binaryOp .Pow) (rI CPow fun i j => .int (i ^ j.toNat)) := opI fun _ _ _ _ _ _ _ hc q => pow_int_small hc.1 hc.2.1 hc.2.2 q
theorem unI {f : Value → Sem Value} {g : Int → Int}
    (rule : ∀ (i : Int) (t : Tok) (s : Shared) (Q : Value → Shared → Prop) (E : Value → Shared → Prop), Q (.int (g i) s.toks) { s with toks := s.toks + 1 } → wpAny (model X.prog X.w) X.A (f (.int i t)) Q E s) :
    UnR X f (rU fun i => .int (g i)) := by
  intro pins s σ H x v Q I rx h
  obtain ⟨i, rfl, q⟩ := h
  obtain ⟨t, rfl⟩ := rx
  exact rule i t s _ _ ⟨.int (g i), H, I.tok _, ⟨_, rfl⟩, q⟩
theorem un_neg : UnR X (unaryOp .USub) (rU fun i => .int (-i)) := unI fun _ _ _ _ _ q => neg_int q
end
noncomputable def scal : V → V → Bool
  | .non, .non => true | .non, .int _ => true | .int _, .non => true | .non, .bl _ => true | .bl _, .non => true | .non, .str _ => true | .str _, .non => true
  | .int _, .int _ => true | .bl _, .bl _ => true | .str _, .str _ => true | .byt _, .byt _ => true
  | .int _, .str _ => true | .str _, .int _ => true | .bl _, .str _ => true | .str _, .bl _ => true
  | _, _ => false
noncomputable def rEq : R2 := fun x y H Q => scal x y = true ∧ Q (.bl (decide (x = y))) H
theorem dec_int {i j : Int} : decide (V.int i = V.int j) = (i == j) := by
  rw [Bool.eq_iff_iff]
  simp
theorem dec_bl {i j : Bool} : decide (V.bl i = V.bl j) = (i == j) := by
  rw [Bool.eq_iff_iff]
  simp
theorem dec_str {i j : Str} : decide (V.str i = V.str j) = (i == j) := by
  rw [Bool.eq_iff_iff]
  simp
theorem dec_byt {i j : Array UInt8} : decide (V.byt i = V.byt j) = (i.toList == j.toList) := by
  rw [Bool.eq_iff_iff]
  cases i
  cases j
  simp
section
variable {X : Cx} {a b c : Expr} {ta tb tc : TE} {pos : Pos}
theorem fin_bl {pins : List (Addr × Obj)} {σ : St} {H : Hp} {s : Shared} {Q : VK} {k k' : Bool} (I : Inv X pins σ H s) (q : Q (.bl k) H) (e : k = k') : EP X pins σ Q (.bool k') s := by
  subst e
  exact ⟨.bl k, H, I, rfl, q⟩
theorem op_eq : OpR X (compareOp .Eq) rEq := by
  intro pins s σ H x y v u Q I rx ry h
  obtain ⟨hs, q⟩ := h
  cases x with
  | non =>
    cases rx
    cases y with
    | non => cases ry; exact PySem.EqNone.eq_none_none (fin_bl I q (by simp))
    | bl j => cases ry; exact PySem.EqNone.eq_none_bool (fin_bl I q (by simp))
    | int j => obtain ⟨t', rfl⟩ := ry; exact PySem.EqNone.eq_none_int (fin_bl I q (by simp))
    | str j => obtain ⟨t', rfl⟩ := ry; exact PySem.EqNone.eq_none_str (fin_bl I q (by simp))
    | _ => exact absurd (show false = true from hs) Bool.false_ne_true
  | bl i =>
    cases rx
    cases y with
    | non => cases ry; exact PySem.EqNone.eq_bool_none (fin_bl I q (by simp))
    | bl j => cases ry; exact eq_bool (fin_bl I q dec_bl)
    | str j => obtain ⟨t', rfl⟩ := ry; exact PySem.EqMixed.eq_bool_str (fin_bl I q (by simp))
    | _ => exact absurd (show false = true from hs) Bool.false_ne_true
  | int i =>
    obtain ⟨t, rfl⟩ := rx
    cases y with
    | non => cases ry; exact PySem.EqNone.eq_int_none (fin_bl I q (by simp))
    | int j => obtain ⟨t', rfl⟩ := ry; exact eq_int (fin_bl I q dec_int)
    | str j => obtain ⟨t', rfl⟩ := ry; exact PySem.EqMixed.eq_int_str (fin_bl I q (by simp))
    | _ => exact absurd (show false = true from hs) Bool.false_ne_true
  | str i =>
    obtain ⟨t, rfl⟩ := rx
    cases y with
    | non => cases ry; exact PySem.EqNone.eq_str_none (fin_bl I q (by simp))
    | bl j => cases ry; exact PySem.EqMixed.eq_str_bool (fin_bl I q (by simp))
    | int j => obtain ⟨t', rfl⟩ := ry; exact PySem.EqMixed.eq_str_int (fin_bl I q (by simp))
    | str j => obtain ⟨t', rfl⟩ := ry; exact eq_str (fin_bl I q dec_str)
    | _ => exact absurd (show false = true from hs) Bool.false_ne_true
  | byt i =>
    obtain ⟨t, rfl⟩ := rx
    cases y with
    | byt j => obtain ⟨t', rfl⟩ := ry; exact PySem.W.eq_bytes (fin_bl I q dec_byt)
    | _ => exact absurd (show false = true from hs) Bool.false_ne_true
  | _ => cases y <;> exact absurd (show false = true from hs) Bool.false_ne_true
theorem op_lt : OpR X (compareOp .Lt) (rI0 fun i j => .bl (decide (i < j))) := opB0 fun _ _ _ _ _ _ _ q => lt_int q
theorem op_gt : OpR X (compareOp .Gt) (rI0 fun i j => .bl (decide (j < i))) := opB0 fun _ _ _ _ _ _ _ q => gt_int q
theorem op_lt_str : OpR X (compareOp .Lt) (fun x y H Q => ∃ i j, x = .str i ∧ y = .str j ∧ Q (.bl (decide (i.cps.toList < j.cps.toList))) H) := by
  intro pins s σ H x y v u Q I rx ry h
  obtain ⟨i, j, rfl, rfl, q⟩ := h
  obtain ⟨t, rfl⟩ := rx
  obtain ⟨t', rfl⟩ := ry
  exact lt_str (fin_bl I q rfl)
theorem nomark (b : Expr) {op : CmpOp} (h : op ≠ .In := by decide) (h2 : op ≠ .NotIn := by decide) : behindInMarks op b = false := by
  have e1 : (op == CmpOp.In) = false := by cases op <;> first | rfl | exact absurd rfl h
  have e2 : (op == CmpOp.NotIn) = false := by cases op <;> first | rfl | exact absurd rfl h2
  cases b <;> simp [behindInMarks, e1, e2]
noncomputable def tTest (t : TE) : TT := fun σ H Q => t σ H fun x H' => ∃ k, x = .bl k ∧ Q k H'
theorem pt_cmpR {op : CmpOp} {r : R2} (ho : OpR X (compareOp op) r) (ha : PE X a ta) (hb : PE X b tb) (hm : behindInMarks op b = false) : PT X (.Compare a [op] [b] pos) (tTest (tOp r ta tb)) := by
  intro pins s σ H Q I h
  refine wpAny_isTrue_Compare1 (thn (ha pins s σ H _ I h) fun v s1 zq68 => zq68.elim fun x zq69 => zq69.elim fun H1 zq70 => zq70.elim fun I1 zq71 => zq71.elim fun r1 q1 => thn (hb pins s1 σ H1 _ I1 q1) fun u s2 zq72 => zq72.elim fun y zq73 => zq73.elim fun H2 zq74 => zq74.elim fun I2 zq75 => zq75.elim fun r2 q2 => 
    thn (ho pins s2 σ H2 x y v u _ I2 r1 r2 q2) fun c s3 zq76 => zq76.elim fun z zq77 => zq77.elim fun H3 zq78 => zq78.elim fun I3 zq79 => zq79.elim fun r3 zq80 => zq80.elim fun k zq81 => zq81.elim fun e q3 => ?_) hm
  subst e
  cases r3
  exact wpAny_truthy_bool ⟨H3, I3, q3⟩
theorem line63 : (sizeLine : Nat) < 2 ^ 63 := by rw [sizeLine_eq]; decide
theorem op_add_str : OpR X (binaryOp .Add) (fun x y H Q => ∃ i j, x = .str i ∧ y = .str j ∧ i.length + j.length ≤ sizeLine ∧ Q (.str (i ++ j)) H) := by
  intro pins s σ H x y v u Q I rx ry h
  obtain ⟨i, j, rfl, rfl, hz, q⟩ := h
  obtain ⟨t, rfl⟩ := rx
  obtain ⟨t', rfl⟩ := ry
  exact add_str (fun t' tk => ⟨.str (i ++ j), H, I.tok _, ⟨_, rfl⟩, q⟩) hz
theorem vals1 {x : V} {us : List Value} (r : Vals [x] us) : ∃ u, us = [u] ∧ RelV x u := by
  cases r with
  | cons r1 r2 => cases r2; exact ⟨_, rfl, r1⟩
theorem vals2 {x y : V} {us : List Value} (r : Vals [x, y] us) : ∃ u w', us = [u, w'] ∧ RelV x u ∧ RelV y w' := by
  cases r with
  | cons r1 r2 =>
    cases r2 with
    | cons r3 r4 => cases r4; exact ⟨_, _, rfl, r1, r3⟩
theorem call_min2 (hc : X.calm = true) : CallR X (.builtin "min") (fun xs H Q => ∃ i j, xs = [.int i, .int j] ∧ Q (.int (if j < i then j else i)) H) := by
  intro pins s σ H xs us Q I r h
  obtain ⟨i, j, rfl, q⟩ := h
  obtain ⟨u, w', rfl, ⟨t, rfl⟩, ⟨t', rfl⟩⟩ := vals2 r
  refine min_two_ints (I.ok.hd hc) fun h' tk k => ⟨_, H, I.kept k, ?_, q⟩
  by_cases hj : j < i
  · rw [if_pos hj, if_pos hj]; exact ⟨_, rfl⟩
  · rw [if_neg hj, if_neg hj]; exact ⟨_, rfl⟩
end
end L2
namespace L2
open PySem PySem.Spec PyProof.Rows
structure ObjM (h : Heap) (x dx C : Addr) (mA : Str → Option Value) : Prop where
  obj : h.get? x = some (PySem.W.instObj C dx)
  ns : h.Ns1 dx mA
  ne : dx ≠ x
theorem lookIn_ns {h : Heap} {dx : Addr} {mA : Str → Option Value} (n : h.Ns1 dx mA) : ∃ od, h.get? dx = some od ∧ ∀ name, PySem.W.lookIn name od = some (mA name) := by
  obtain ⟨o, es, ep, ho, hd, hk, _, hm⟩ := n
  refine ⟨o, ho, fun name => ?_⟩
  have e := hm name
  unfold nsFind findBy at e
  rw [← Array.find?_toList] at e
  unfold PySem.W.lookIn
  rw [hd]
  dsimp only
  split
  · rename_i y q
    rw [q] at e
    exact congrArg some e
  · rename_i q
    rw [q] at e
    have a : es.toList.any (·.refKey) = false := by
      rw [List.any_eq_false]
      intro y hy
      obtain ⟨z, t, hkey⟩ := hk y (Array.mem_toList_iff.mp hy)
      simp [DictEntry.refKey, hkey]
    have a' : ¬ es.toList.any (·.refKey) = true := by rw [a]; exact Bool.false_ne_true
    rw [if_neg a']
    exact congrArg some e
theorem ObjM.look {h : Heap} {x dx C : Addr} {mA : Str → Option Value} (I : ObjM h x dx C mA) : ∃ od, PySem.W.InstAt h x (PySem.W.instObj C dx) C (some od) ∧ ∀ name, PySem.W.lookIn name od = some (mA name) :=
  (lookIn_ns I.ns).elim fun od zq453 => zq453.elim fun ho hl => ⟨od, ⟨I.obj, rfl, rfl, ho⟩, hl⟩
section
variable {prog : Program} {w : World} {A : Around} {E : Value → Shared → Prop} {s : Shared} {K : PySem.W.Frag} {x dx C f : Addr} {mA : Str → Option Value} {name : Str} {v : Value}
theorem get_map {expr : Bool} {Q : Value → Shared → Prop} (X : K.In s.heap) (I : ObjM s.heap x dx C mA) (hg : PySem.W.plainGet K C name = true) (hh : PySem.W.hasDictIn K C = true)
    (ha : PySem.W.findIn K (.ref C) name = some none) (hv : mA name = some v) (hv' : PySem.W.handedIn v = true) (h : Q v { s with toks := s.toks + 1 }) :
    wpAny (model prog w) A (getAttr (.ref x) name expr) Q E s := by
  obtain ⟨od, J, hl⟩ := I.look
  exact PySem.W.get_value X J (PySem.W.plainGet_of hg).1 (PySem.W.findObj_own hh ha rfl (by rw [hl, hv])) hv' h
theorem get_meth {pl : Sem Bool} {Q : Value × List Value → Shared → Prop} (X : K.In s.heap) (I : ObjM s.heap x dx C mA) (hg : PySem.W.plainGet K C name = true)
    (hf : PySem.W.findIn K (.ref C) name = some (some (.ref f))) (ht : PySem.W.isFn K (.ref f) = true) (hv : mA name = none) (h : Q (.ref f, [.ref x]) s) :
    wpAny (model prog w) A (getMethod (.ref x) name pl) Q E s := by
  obtain ⟨od, J, hl⟩ := I.look
  exact PySem.W.method_fn X J (PySem.W.plainGet_of hg).1 (PySem.W.plainGet_of hg).2 hf (beq_iff_eq.mp ht) (by show (PySem.W.lookIn name od).map (·.isSome) = some false; rw [hl, hv]; rfl) h
theorem set_map {ns : List Str} {Q : Unit → Shared → Prop} (X : K.In s.heap) (I : ObjM s.heap x dx C mA)
    (hs : PySem.W.findIn K (.ref C) "__setattr__" = some (some (.builtin "object.__setattr__"))) (hp : PySem.W.plainOver K C = true) (ht : PySem.W.takerIn K C name = some none) (hh : PySem.W.hasDictIn K C = true)
    (hw : PySem.Within mA ns) (hsz : ns.length ≤ sizeLine)
    (h : ∀ h', ObjM h' x dx C (fun y => if y = name then some v else mA y) → Heap.SameBut dx s.heap h' → Q () { s with heap := h', toks := s.toks + 2 }) :
    wpAny (model prog w) A (setAttr (.ref x) name v) Q E s := by
  obtain ⟨od, J, hl⟩ := I.look
  refine PySem.W.set_plain X J hs (PySem.W.osa_open (s := { s with toks := s.toks + 1 }) (r := none) X J hp ht fun b => ?_)
  obtain ⟨cd, hc, hd'⟩ := PySem.W.any_some hh
  have hx : s.heap.get? x = some ⟨.ref C, some dx, .plain, #[]⟩ := I.obj
  refine wpAny_bind (wpAny_pure (wpAny_bind (wpAny_bind (wpAny_loadPart hx (wpAny_bind (PySem.W.Looks.here (s := { s with toks := s.toks + 1 }) (PySem.W.looks_clsIn X hc) ?_))))))
  rw [hd']
  refine wpAny_pure (a := some dx) (wpAny_bind (wpAny_pure (wpAny_bind ?_)))
  refine wpAny_nsSet1 (s := { s with toks := s.toks + 1 }) I.ns fun h' hn2 hs2 => ?_
  obtain ⟨oD, esD, epD, hoD, hdD, hcD⟩ := hn2.count (PySem.Within.cons name v hw)
  refine wpAny_bind (wpAny_lookBehind hoD (by rw [hdD]; exact pastItsLine_dict (Nat.le_trans hcD (by rw [List.length_cons]; omega))) ?_)
  exact wpAny_pure (h _ ⟨(hs2.2 _ (Ne.symm I.ne)).trans I.obj, hn2, I.ne⟩ hs2)
theorem make_map {R : Result → Shared → Prop} {vs : List Value} {kw : List (Str × Value)} (X : K.In s.heap) (hm : PySem.W.makesIn K C = true)
    (hi : PySem.W.findIn K (.ref C) "__init__" = some (some (.ref f))) (hf : PySem.W.typeIn K (.ref f) = some (.type "function"))
    (h : codeAny (model prog w) (A.under (.builtin "type.__call__" ⟨.ref C :: vs, kw⟩)) (.call (.ref f) ⟨.ref (s.heap.objs.size + 1) :: vs, kw⟩) (PySem.W.InitBack (s.heap.objs.size + 1) R)
      { s with heap := (s.heap.push PySem.W.emptyDict).push (PySem.W.instObj C s.heap.objs.size) }) :
    codeAny (model prog w) A (.call (.ref C) ⟨vs, kw⟩) R s := by
  obtain ⟨hh, g, d, t, os⟩ := s
  exact PySem.W.make_core (PySem.W.makes_of X hm) (PySem.W.looks_findIn X hi) (fun self => PySem.W.bind_fn X self hf) (.inl rfl) h
end
noncomputable def putF (f : Str) (v : V) : List (Str × V) → List (Str × V)
  | [] => [(f, v)]
  | (g, x) :: r => if g = f then (g, v) :: r else (g, x) :: putF f v r
theorem lookup_putF (f g : Str) (v : V) : ∀ fs : List (Str × V), (putF f v fs).lookup g = if g = f then some v else fs.lookup g
  | [] => by
    show List.lookup g [(f, v)] = _
    by_cases h : g = f
    · have hb : (g == f) = true := beq_iff_eq.mpr h
      simp only [List.lookup, hb, if_pos h]
    · have hb : (g == f) = false := beq_eq_false_iff_ne.mpr h
      simp only [List.lookup, hb, if_neg h]
  | (k, x) :: r => by
    have ih := lookup_putF f g v r
    rw [show putF f v ((k, x) :: r) = (if k = f then (k, v) :: r else (k, x) :: putF f v r) from rfl]
    by_cases hk : k = f
    · rw [if_pos hk]
      by_cases h : g = k
      · have hb : (g == k) = true := beq_iff_eq.mpr h
        simp only [List.lookup, hb, if_pos (h.trans hk)]
      · have hb : (g == k) = false := beq_eq_false_iff_ne.mpr h
        simp only [List.lookup, hb, if_neg (fun e : g = f => h (e.trans hk.symm))]
    · rw [if_neg hk]
      by_cases h : g = k
      · have hb : (g == k) = true := beq_iff_eq.mpr h
        simp only [List.lookup, hb, if_neg (fun e : g = f => hk (h.symm.trans e))]
      · have hb : (g == k) = false := beq_eq_false_iff_ne.mpr h
        simp only [List.lookup, hb]
        exact ih
theorem keys_putF (f : Str) (v : V) : ∀ fs : List (Str × V), f ∈ (putF f v fs).map (·.1) ∧ ∀ g, g ∈ fs.map (·.1) → g ∈ (putF f v fs).map (·.1)
  | [] => ⟨by simp [putF], fun g h => by simp at h⟩
  | (k, x) :: r => by
    obtain ⟨i1, i2⟩ := keys_putF f v r
    rw [show putF f v ((k, x) :: r) = (if k = f then (k, v) :: r else (k, x) :: putF f v r) from rfl]
    by_cases hk : k = f
    · rw [if_pos hk]
      subst hk
      exact ⟨by simp, fun g h => by simpa using h⟩
    · rw [if_neg hk]
      refine ⟨?_, fun g h => ?_⟩
      · rw [List.map_cons]
        exact List.mem_cons_of_mem _ i1
      · rw [List.map_cons] at h ⊢
        rcases List.mem_cons.mp h with e | e
        · exact List.mem_cons.mpr (.inl e)
        · exact List.mem_cons_of_mem _ (i2 g e)
theorem length_putF (f : Str) (v : V) : ∀ fs : List (Str × V), (putF f v fs).length ≤ fs.length + 1
  | [] => by simp [putF]
  | (k, x) :: r => by
    have ih := length_putF f v r
    rw [show putF f v ((k, x) :: r) = (if k = f then (k, v) :: r else (k, x) :: putF f v r) from rfl]
    by_cases hk : k = f
    · rw [if_pos hk, List.length_cons, List.length_cons]; omega
    · rw [if_neg hk, List.length_cons, List.length_cons]; omega
theorem RelO.some_of {v : V} {o : Option Value} (r : RelO (some v) o) : ∃ u, o = some u ∧ RelV v u := by
  cases o with
  | none => exact (show False from r).elim
  | some u => exact ⟨u, rfl, r⟩
theorem RelO.none_of {o : Option Value} (r : RelO none o) : o = none := by
  cases o with
  | none => rfl
  | some u => exact (show False from r).elim
theorem handed_of {v : V} {u : Value} (r : RelV v u) : PySem.W.handedIn u = true := by
  cases v with
  | non => cases (show u = Value.none from r); rfl
  | bl b => cases (show u = Value.bool b from r); rfl
  | int i => obtain ⟨t, e⟩ := (show ∃ t, u = Value.int i t from r); cases e; rfl
  | str x => obtain ⟨t, e⟩ := (show ∃ t, u = Value.str x t from r); cases e; rfl
  | byt b => obtain ⟨t, e⟩ := (show ∃ t, u = Value.bytes b t from r); cases e; rfl
  | flt b => obtain ⟨t, e⟩ := (show ∃ t, u = Value.float b t from r); cases e; rfl
  | ref a => cases (show u = Value.ref a from r); rfl
  | ty n => cases (show u = Value.type n from r); rfl
section
variable {P : Program} {w : World} {H H' : Hp} {h h' : Heap} {a C dx : Addr} {fs fs' : List (Str × V)}
theorem ins_get (hok : HOk P w H h) (e : H a = some (.ins C dx fs)) : ∃ mA, ObjM h a dx C mA ∧ (∀ f, RelO (fs.lookup f) (mA f)) ∧ PySem.Within mA (fs.map (·.1)) ∧ fs.length ≤ 1000 ∧ H dx = some (.own a) := by
  obtain ⟨d, z, ne, ob, mA, n, r, q⟩ := (show ObjOk P w H h a (.ins C dx fs) from hok a _ e)
  exact ⟨mA, ⟨ob, n, ne⟩, r, q, z, d⟩
end
structure Cls (K : PySem.W.Frag) (C : Addr) : Prop where
  pg : PySem.W.plainGet K C Str.empty = true
  hd : PySem.W.hasDictIn K C = true
  po : PySem.W.plainOver K C = true
  sa : PySem.W.findIn K (.ref C) "__setattr__" = some (some (.builtin "object.__setattr__"))
theorem Cls.get {K : PySem.W.Frag} {C : Addr} (c : Cls K C) (f : Str) : PySem.W.plainGet K C f = true := c.pg
noncomputable def NoAttr (K : PySem.W.Frag) (C : Addr) (f : Str) : Prop := PySem.W.findIn K (.ref C) f = some none
theorem NoAttr.taker {K : PySem.W.Frag} {C : Addr} {f : Str} (n : NoAttr K C f) : PySem.W.takerIn K C f = some none := by
  unfold PySem.W.takerIn
  rw [show PySem.W.findIn K (.ref C) f = some none from n]
  rfl
structure Meth (K : PySem.W.Frag) (C : Addr) (m : Str) (f : Addr) : Prop where
  at_ : PySem.W.findIn K (.ref C) m = some (some (.ref f))
  fn : PySem.W.isFn K (.ref f) = true
  kp : PySem.W.keepIn K (.ref f) = true
section
variable {X : Cx} {pins : List (Addr × Obj)} {σ : St} {H : Hp} {s : Shared} {a C dx : Addr} {fs : List (Str × V)} {f : Str} {v : V} {A : Around} {E : Value → Shared → Prop}
theorem getattr_ok {b : Bool} {Q : Value → Shared → Prop} (I : Inv X pins σ H s) (e : H a = some (.ins C dx fs)) (c : Cls X.K C) (n : NoAttr X.K C f) (l : fs.lookup f = some v)
    (h : ∀ u s', Inv X pins σ H s' → RelV v u → Q u s') : wpAny (model X.prog X.w) A (getAttr (.ref a) f b) Q E s := by
  obtain ⟨mA, O, r, _, _, _⟩ := ins_get I.hok e
  obtain ⟨u, hu, ru⟩ := RelO.some_of (v := v) (o := mA f) (by rw [← l]; exact r f)
  exact get_map I.kIn O (c.get f) c.hd n hu (handed_of ru) (h u _ (I.tok _) ru)
theorem getmeth_ok {m : Str} {g : Addr} {pl : Sem Bool} {Q : Value × List Value → Shared → Prop} (I : Inv X pins σ H s) (e : H a = some (.ins C dx fs)) (c : Cls X.K C) (k : Meth X.K C m g) (l : fs.lookup m = none)
    (h : Q (.ref g, [.ref a]) s) : wpAny (model X.prog X.w) A (getMethod (.ref a) m pl) Q E s := by
  obtain ⟨mA, O, r, _, _, _⟩ := ins_get I.hok e
  have hn : mA m = none := RelO.none_of (by rw [← l]; exact r m)
  exact get_meth I.kIn O (c.get m) k.at_ k.fn hn h
theorem setattr_ok {y : V} {u : Value} {Q : Unit → Shared → Prop} (I : Inv X pins σ H s) (e : H a = some (.ins C dx fs)) (c : Cls X.K C) (n : NoAttr X.K C f) (hl : fs.length < 1000) (ry : RelV y u)
    (h : ∀ s', Inv X pins σ (upd H a (.ins C dx (putF f y fs))) s' → Q () s') : wpAny (model X.prog X.w) A (setAttr (.ref a) f u) Q E s := by
  obtain ⟨mA, O, r, wi, _, ho⟩ := ins_get I.hok e
  have hz : (fs.map (·.1)).length ≤ sizeLine := by rw [List.length_map, sizeLine_eq]; omega
  refine set_map I.kIn O c.sa c.po n.taker c.hd wi hz fun h' O' sb => h _ ?_
  have hd : ∃ o, h'.get? dx = some o := O'.ns.elim fun o zq454 => zq454.elim fun _ zq455 => zq455.elim fun _ zq456 => zq456.elim fun e' _ => ⟨o, e'⟩
  refine I.write (x := a) (e := dx) (by rw [e]; exact True.intro) (.inr ho) (fun b q hb z => (sb.2 b hb).trans z) hd ?_
  refine ⟨by rw [upd_ne O.ne]; exact ho, ?_, O.ne, O'.obj, _, O'.ns, fun g => ?_, fun g hg => ?_⟩
  · have := length_putF f y fs; omega
  · show RelO ((putF f y fs).lookup g) (if g = f then some u else mA g)
    rw [lookup_putF]
    by_cases q : g = f
    · rw [if_pos q, if_pos q]; exact ry
    · rw [if_neg q, if_neg q]; exact r g
  · by_cases q : g = f
    · rw [q]; exact (keys_putF f y fs).1
    · refine (keys_putF f y fs).2 g (wi g fun z => hg ?_)
      show (if g = f then some u else mA g) = none
      rw [if_neg q]; exact z
theorem Inv.made (I : Inv X pins σ H s) : Inv X pins σ (upd (upd H s.heap.objs.size (.own (s.heap.objs.size + 1))) (s.heap.objs.size + 1) (.ins C s.heap.objs.size []))
    { s with heap := (s.heap.push PySem.W.emptyDict).push (PySem.W.instObj C s.heap.objs.size) } := by
  have e1 : (s.heap.push PySem.W.emptyDict).get? s.heap.objs.size = some PySem.W.emptyDict := Heap.get?_push_size s.heap rfl
  have e2 : ((s.heap.push PySem.W.emptyDict).push (PySem.W.instObj C s.heap.objs.size)).get? (s.heap.objs.size + 1) = some (PySem.W.instObj C s.heap.objs.size) := by
    have := Heap.get?_push_size (s.heap.push PySem.W.emptyDict) (o := PySem.W.instObj C s.heap.objs.size) rfl
    rwa [Heap.size_push] at this
  have e3 : (s.heap.push PySem.W.emptyDict).Ns s.heap.objs.size (fun _ => none) := ⟨PySem.W.emptyDict, #[], _, e1, rfl, (fun e he => absurd he (by simp)), fun _ => rfl⟩
  have I1 := I.laid (a := s.heap.objs.size) (o := .own (s.heap.objs.size + 1)) (h' := s.heap.push PySem.W.emptyDict) (t' := s.toks) (fun b u q => Heap.get?_push_of_some _ q) (Nat.le_refl _) ⟨_, e1⟩
  refine I1.laid (a := s.heap.objs.size + 1) (o := .ins C s.heap.objs.size []) (t' := s.toks) (fun b u q => Heap.get?_push_of_some _ q) (Nat.le_of_eq (Heap.size_push _ _)) ?_
  have ne : s.heap.objs.size ≠ s.heap.objs.size + 1 := Nat.ne_of_lt (Nat.lt_succ_self _)
  refine ⟨by rw [upd_ne ne, upd_same], Nat.zero_le _, ne, e2, fun _ => none, (Heap.Ns1.of_empty e3).at fun o q => Heap.get?_push_of_some _ q, fun _ => True.intro, fun y hy => absurd rfl hy⟩
theorem attr_of {prog : Program} {w : World} {env : Env} {e : Expr} {f : Str} {pos : Pos} {s : Shared} {Q : Value → Shared → Prop} (hb : attributeBase e f env (eval e env) = eval e env)
    (h : wpAny (model prog w) A (eval e env) (fun o s₁ => wpAny (model prog w) A (getAttr o f true) Q E s₁) E s) : wpAny (model prog w) A (eval (.Attribute e f pos) env) Q E s :=
  Attribute_any_ h (by rw [arm_eval_Attribute, hb])
end
noncomputable def tFld (K : PySem.W.Frag) (ta : TE) (f : Str) : TE := fun σ H Q => ta σ H fun x H1 => ∃ a C dx fs v, x = .ref a ∧ H1 a = some (.ins C dx fs) ∧ Cls K C ∧ NoAttr K C f ∧ fs.lookup f = some v ∧ Q v H1
noncomputable def sFld (K : PySem.W.Frag) (ta tv : TE) (f : Str) : TS := fun D σ H => tv σ H fun y H1 => ta σ H1 fun x H2 => ∃ a C dx fs, x = .ref a ∧ H2 a = some (.ins C dx fs) ∧ Cls K C ∧ NoAttr K C f ∧ fs.length < 1000 ∧
  D.nx σ (upd H2 a (.ins C dx (putF f y fs)))
section
variable {X : Cx} {o e value : Expr} {f : Str} {pos pos' tpos : Pos} {ta tv : TE}
theorem pe_fld (he : PE X e ta) (hb : attributeBase e f X.env (eval e X.env) = eval e X.env) : PE X (.Attribute e f pos) (tFld X.K ta f) := by
  intro pins s σ H Q I h
  refine attr_of hb (thn (he pins s σ H _ I h) fun u s1 zq82 => zq82.elim fun x zq83 => zq83.elim fun H1 zq84 => zq84.elim fun I1 zq85 => zq85.elim fun rx zq86 => zq86.elim fun a zq87 => zq87.elim fun C zq88 => zq88.elim fun dx zq89 => zq89.elim fun fs zq90 => zq90.elim fun v zq91 => zq91.elim fun ex zq92 => zq92.elim fun ea zq93 => zq93.elim fun c zq94 => zq94.elim fun n zq95 => zq95.elim fun l q => ?_)
  subst ex
  obtain rfl : u = Value.ref a := rx
  exact getattr_ok I1 ea c n l fun u' s2 I2 ru => ⟨v, H1, I2, ru, q⟩
theorem ps_fld (ha : PE X o ta) (hv : PE X value tv) (hs : swapsWith value (some (.Attribute o f pos')) pos.line X.env = pure false) : PS X (.Assign [.Attribute o f pos'] value pos) (sFld X.K ta tv f) := by
  intro pins s σ H D I h
  refine plainObj_wpAny_Assign_Attribute (thn (hv pins s σ H _ I h) fun u s1 zq96 => zq96.elim fun y zq97 => zq97.elim fun H1 zq98 => zq98.elim fun I1 zq99 => zq99.elim fun ry q => thn (ha pins s1 σ H1 _ I1 q) fun ov s2 zq100 => zq100.elim fun x zq101 => zq101.elim fun H2 zq102 => zq102.elim fun I2 zq103 => zq103.elim fun rx zq104 => zq104.elim fun a zq105 => zq105.elim fun C zq106 => zq106.elim fun dx zq107 => zq107.elim fun fs zq108 => zq108.elim fun ex zq109 => zq109.elim fun ea zq110 => zq110.elim fun c zq111 => zq111.elim fun n zq112 => zq112.elim fun l q2 => ?_) hs
  subst ex
  obtain rfl : ov = Value.ref a := rx
  exact setattr_ok I2 ea c n l ry fun s3 I3 => ⟨σ, _, I3, q2⟩
end
section
variable {X : Cx} {pins : List (Addr × Obj)} {σ : St} {H : Hp} {s : Shared} {A : Around} {E : Value → Shared → Prop} {Q : Value → Shared → Prop} {c : Value} {b : Bool}
inductive TyOf (K : PySem.W.Frag) (H : Hp) : V → Value → Prop where
  | non : TyOf K H .non (.type "NoneType")
  | bl (x : Bool) : TyOf K H (.bl x) (.type "bool")
  | int (i : Int) : TyOf K H (.int i) (.type "int")
  | str (x : Str) : TyOf K H (.str x) (.type "str")
  | flt (x : UInt64) : TyOf K H (.flt x) (.type "float")
  | lst {a : Addr} {xs : List V} (e : H a = some (.lst xs)) : TyOf K H (.ref a) (.type "list")
  | frz {a : Addr} {o : Obj} {xs : List V} (e : H a = some (.frz o (.lst xs))) : TyOf K H (.ref a) (.type "list")
  | tup {a : Addr} {xs : List V} (e : H a = some (.tup xs)) : TyOf K H (.ref a) (.type "tuple")
  | dK {a : Addr} {kvs : List (Key × V)} (e : H a = some (.dK kvs)) : TyOf K H (.ref a) (.type "dict")
  | dT {a : Addr} {kvs : List (List NI × V)} (e : H a = some (.dT kvs)) : TyOf K H (.ref a) (.type "dict")
  | ins {a C dx : Addr} {fs : List (Str × V)} (e : H a = some (.ins C dx fs)) (cl : Cls K C) (ha : PySem.W.findIn K (.ref C) "__class__" = some (some (.builtin "object.__class__")))
      (hn : PySem.W.specialIn K (.builtin "object.__class__") "__get__" = some (some (.builtin "getset_descriptor.__get__"))) (htk : PySem.W.takesIn K (.builtin "object.__class__") = some true)
      (hm : PySem.W.mroIn K C (.type "object") = some true) : TyOf K H (.ref a) (.ref C)
theorem isinst_ok {x : V} {u t : Value} (I : Inv X pins σ H s) (rx : RelV x u) (ty : TyOf X.K H x t) (e : PySem.W.kitOne X.K t c = some b) (h : ∀ tk, Q (.bool b) { s with toks := tk }) :
    wpAny (model X.prog X.w) A (call (.builtin "isinstance") [u, c]) Q E s := by
  cases ty with
  | non => cases (show u = Value.none from rx); exact PySem.W.kia_one PySem.W.kitx_none I.kIn True.intro e (fun z => nomatch z) h
  | bl y => cases (show u = Value.bool y from rx); exact PySem.W.kia_one PySem.W.kitx_bool I.kIn True.intro e (fun z => nomatch z) h
  | int i => obtain ⟨t, q⟩ := (show ∃ t, u = Value.int i t from rx); cases q; exact PySem.W.kia_one PySem.W.kitx_int I.kIn True.intro e (fun z => nomatch z) h
  | str y => obtain ⟨t, q⟩ := (show ∃ t, u = Value.str y t from rx); cases q; exact PySem.W.kia_one PySem.W.kitx_str I.kIn True.intro e (fun z => nomatch z) h
  | flt y => obtain ⟨t, q⟩ := (show ∃ t, u = Value.float y t from rx); cases q; exact PySem.W.kia_one PySem.W.kitx_float I.kIn True.intro e (fun z => nomatch z) h
  | @lst a xs ea =>
    cases (show u = Value.ref a from rx)
    obtain ⟨_, _, n, _, h1⟩ := (show ObjOk X.prog X.w H s.heap a (.lst xs) from I.hok a _ ea)
    exact PySem.W.kia_one PySem.W.kitx_list I.kIn ⟨_, h1, rfl⟩ e (fun z => nomatch z) h
  | @frz a ob xs ea =>
    cases (show u = Value.ref a from rx)
    obtain ⟨_, _, _, n, _, h1⟩ := (show ObjOk X.prog X.w H s.heap a (.frz ob (.lst xs)) from I.hok a _ ea)
    exact PySem.W.kia_one PySem.W.kitx_list I.kIn ⟨_, h1, rfl⟩ e (fun z => nomatch z) h
  | @tup a xs ea =>
    cases (show u = Value.ref a from rx)
    obtain ⟨_, _, _, p⟩ := (show ObjOk X.prog X.w H s.heap a (.tup xs) from I.hok a _ ea)
    obtain ⟨o, h1, h2, _⟩ := p
    exact PySem.W.kia_one PySem.W.kitx_tuple I.kIn ⟨o, h1, h2⟩ e (fun z => nomatch z) h
  | @dK a kvs ea =>
    cases (show u = Value.ref a from rx)
    obtain ⟨_, _, vs, _, p⟩ := (show ObjOk X.prog X.w H s.heap a (.dK kvs) from I.hok a _ ea)
    obtain ⟨o, es, ep, h1, h2, _⟩ := p
    exact PySem.W.kia_one PySem.W.kitx_dict I.kIn ⟨o, h1, h2.1⟩ e (fun z => nomatch z) h
  | @dT a kvs ea =>
    cases (show u = Value.ref a from rx)
    obtain ⟨_, _, xs, _, o, es, ep, h1, h2, _⟩ := (show ObjOk X.prog X.w H s.heap a (.dT kvs) from I.hok a _ ea)
    exact PySem.W.kia_one PySem.W.kitx_dict I.kIn ⟨o, h1, h2.1⟩ e (fun z => nomatch z) h
  | @ins a C dx fs ea cl ha hn htk hm =>
    cases (show u = Value.ref a from rx)
    obtain ⟨mA, O, _⟩ := ins_get I.hok ea
    obtain ⟨od, J, _⟩ := O.look
    exact PySem.W.kia_one (PySem.W.kitx_own (cl.get _) cl.hd ha hn htk hm) I.kIn J e (fun z => nomatch z) h
end
end L2
namespace L2
open PySem PySem.Spec PyProof.Rows
structure Room (k : Nat) (A : Around) : Prop where
  hd : A.handled = none
  dp : A.depth + 3 * k + 5 < recursionLimit
  un : A.units + 16 * k + 200 < cLine
  gd : A.guards = some []
theorem Room.mono {j k : Nat} {A : Around} (r : Room k A) (h : j ≤ k) : Room j A := ⟨r.hd, by have := r.dp; omega, by have := r.un; omega, r.gd⟩
theorem Room.deeper {k : Nat} {A : Around} (r : Room (k + 1) A) (env : Env) : Room k (A.deeper env) :=
  ⟨r.hd, by have := r.dp; show A.depth + 1 + 3 * k + 5 < _; omega, by have := r.un; show A.units + 3 + 16 * k + 200 < _; omega, r.gd⟩
theorem Room.in1 {k : Nat} {A : Around} (r : Room (k + 1) A) : Room k A.in1 :=
  ⟨r.hd, by have := r.dp; show A.depth + 3 * k + 5 < _; omega, by have := r.un; show A.units + 1 + 16 * k + 200 < _; omega, r.gd⟩
theorem make_depth {A : Around} {C : Addr} {us : List Value} {kw : List (Str × Value)} : (A.under (.builtin "type.__call__" ⟨.ref C :: us, kw⟩)).depth = A.depth + 1 := by
  first | rfl | simp [Around.under, Code.weight, Code.isCreation, Code.isGuard, Code.isCaller, Code.frames, Code.isFrame, guardIds]
theorem make_units {A : Around} {C : Addr} {us : List Value} {kw : List (Str × Value)} : (A.under (.builtin "type.__call__" ⟨.ref C :: us, kw⟩)).units = A.units + 1 := by
  first | rfl | simp [Around.under, Code.cUnits, Code.frames, Code.isFrame]
theorem make_guards {A : Around} {C : Addr} {us : List Value} {kw : List (Str × Value)} : (A.under (.builtin "type.__call__" ⟨.ref C :: us, kw⟩)).guards = A.guards := by
  first | rfl | simp [Around.under, pushGuards, Code.guards, Code.isGuard, guardIds]
theorem Room.make {k : Nat} {A : Around} (r : Room (k + 1) A) (C : Addr) (us : List Value) (kw : List (Str × Value)) : Room k (A.under (.builtin "type.__call__" ⟨.ref C :: us, kw⟩)) :=
  ⟨r.hd, by have := r.dp; rw [make_depth]; omega, by have := r.un; rw [make_units]; omega, make_guards.trans r.gd⟩
theorem Room.depth {k : Nat} {A : Around} (r : Room k A) : A.depth < recursionLimit := by have := r.dp; omega
theorem Room.units {k : Nat} {A : Around} (r : Room k A) : A.units + 64 < cLine := by have := r.un; omega
noncomputable def tNil : TA := fun _ H Q => Q [] H
noncomputable def tCons (ta : TE) (tr : TA) : TA := fun σ H Q => ta σ H fun x H1 => tr σ H1 fun xs H2 => Q (x :: xs) H2
section
variable {X : Cx} {e : Expr} {es : List Expr} {te : TE} {t : TA} {pos : Pos}
theorem pa_nil : PA X [] tNil := fun _ _ _ _ H Q I h => Calls.spliced_nil ⟨[], H, I, .nil, h⟩
theorem pa_cons (ha : PE X e te) (hr : PA X es t) (hs : starEach (e :: es) X.env = (false, eval e X.env) :: starEach es X.env := by rfl) : PA X (e :: es) (tCons te t) := by
  intro pos pins s σ H Q I h
  rw [hs]
  show wpAny _ _ (spliced ((false, eval e X.env) :: backTo pos (starEach es X.env))) _ _ s
  refine Calls.spliced_cons (thn (ha pins s σ H _ I h) fun u s1 zq113 => zq113.elim fun x zq114 => zq114.elim fun H1 zq115 => zq115.elim fun I1 zq116 => zq116.elim fun r1 q1 => ?_)
  exact thn (hr pos pins s1 σ H1 _ I1 q1) fun us s2 zq117 => zq117.elim fun xs zq118 => zq118.elim fun H2 zq119 => zq119.elim fun I2 zq120 => zq120.elim fun r2 q2 => ⟨x :: xs, H2, I2, .cons r1 r2, q2⟩
noncomputable def tTup (t : TA) : TE := fun σ H Q => t σ H fun xs H1 => xs.length ≤ sizeLine ∧ ∀ p, H1 p = none → Q (.ref p) (upd H1 p (.tup xs))
noncomputable def tLst (t : TA) : TE := fun σ H Q => t σ H fun xs H1 => xs.length ≤ sizeLine ∧ ∀ p, H1 p = none → Q (.ref p) (upd H1 p (.lst xs))
theorem pe_tup {x1} (h : PA X es t) : PE X (.Tuple es x1 pos) (tTup t) := by
  intro pins s σ H Q I hq
  refine wpAny_Tuple_spliced (thn (h pos pins s σ H _ I hq) fun us s1 zq121 => zq121.elim fun xs zq122 => zq122.elim fun H1 zq123 => zq123.elim fun I1 zq124 => zq124.elim fun r zq125 => zq125.elim fun z q => ⟨by rw [← r.length]; exact z, ?_⟩)
  have hf : H1 s1.heap.objs.size = none := I1.hok.fresh (Nat.le_refl _)
  refine ⟨.ref s1.heap.objs.size, upd H1 s1.heap.objs.size (.tup xs), I1.laid (t' := s1.toks) (fun b u e => Heap.get?_push_of_some _ e) (Nat.le_refl _) ?_, rfl, q _ hf⟩
  exact ⟨z, us, r, ⟨_, Heap.get?_push_size _ rfl, rfl, _, rfl⟩⟩
theorem pe_lst (h : PA X es t) : PE X (.List es pos) (tLst t) := by
  intro pins s σ H Q I hq
  refine wpAny_List_spliced (thn (h pos pins s σ H _ I hq) fun us s1 zq126 => zq126.elim fun xs zq127 => zq127.elim fun H1 zq128 => zq128.elim fun I1 zq129 => zq129.elim fun r zq130 => zq130.elim fun z q => ⟨by rw [← r.length]; exact z, ?_⟩)
  have hf : H1 s1.heap.objs.size = none := I1.hok.fresh (Nat.le_refl _)
  refine ⟨.ref s1.heap.objs.size, upd H1 s1.heap.objs.size (.lst xs), I1.laid (t' := s1.toks) (fun b u e => Heap.get?_push_of_some _ e) (Nat.le_refl _) ?_, rfl, q _ hf⟩
  exact ⟨z, us, 0, r, Heap.get?_push_size _ rfl⟩
end
noncomputable abbrev Sp := List V → Hp → VK → XK → Prop
noncomputable abbrev CXT := List Env → Hp → Shared → XK → Value → Shared → Prop
structure Env0 (P : Program) (w : World) (K : PySem.W.Frag) (mg : Str → Option Value) (base : Heap) (A : Around) (outer : List Env) (s : Shared) (H : Hp) : Prop where
  frames : A.frames = some outer
  mod : Mod K mg base
  bs : ∀ b o, base.get? b = some o → s.heap.get? b = some o ∧ H b = none
  bsz : base.objs.size ≤ s.heap.objs.size
  funs : s.heap.FunFrames base outer
  frf : ∀ b ∈ frs outer, H b = none
  hok : HOk P w H s.heap
  bare : AllBare s.gens
noncomputable def CE (outer : List Env) (P : Program) (w : World) (H : Hp) (s : Shared) (Q : VK) (u : Value) (s' : Shared) : Prop :=
  ∃ v H', s'.os = s.os ∧ AllBare s'.gens ∧ Un (frs outer) [] H H' s.heap s'.heap ∧ HOk P w H' s'.heap ∧ RelV v u ∧ Q v H'
noncomputable def CR (CX : CXT) (outer : List Env) (P : Program) (w : World) (H : Hp) (s : Shared) (Q : VK) (E : XK) (r : Result) (s' : Shared) : Prop :=
  match r with
  | .ok (.ret u) => CE outer P w H s Q u s'
  | .ok _ => False
  | .error e => CX outer H s E e s'
structure FnOk (P : Program) (w : World) (K : PySem.W.Frag) (mg : Str → Option Value) (base : Heap) (CX : CXT) (k : Nat) (f : Addr) (fd : FuncData) (ps : List Str) (sp : Sp) : Prop where
  len : ∀ vs H Q E, sp vs H Q E → vs.length = ps.length
  run : ∀ (A : Around) (outer : List Env) (s : Shared) (H : Hp) (args : Args) (us : List Value) (vs : List V) (Q : VK) (E : XK), Room k A → Env0 P w K mg base A outer s H → BindsTo s fd args (ps.zip us) → Vals vs us → sp vs H Q E →
    codeAny (model P w) A (.call (.ref f) args) (CR CX outer P w H s Q E) s
theorem Env0.make {P : Program} {w : World} {K : PySem.W.Frag} {mg : Str → Option Value} {base : Heap} {A : Around} {outer : List Env} {s : Shared} {H : Hp} (e : Env0 P w K mg base A outer s H) (C : Addr) (us : List Value) (kw : List (Str × Value)) :
    Env0 P w K mg base (A.under (.builtin "type.__call__" ⟨.ref C :: us, kw⟩)) outer s H := ⟨by first | exact e.frames | (simpa [Around.under, Code.envs, Code.isFrame, pushEnvs] using e.frames), e.mod, e.bs, e.bsz, e.funs, e.frf, e.hok, e.bare⟩
theorem Env0.in1 {P : Program} {w : World} {K : PySem.W.Frag} {mg : Str → Option Value} {base : Heap} {A : Around} {outer : List Env} {s : Shared} {H : Hp} (e : Env0 P w K mg base A outer s H) :
    Env0 P w K mg base A.in1 outer s H := ⟨e.frames, e.mod, e.bs, e.bsz, e.funs, e.frf, e.hok, e.bare⟩
section
variable {X : Cx} {pins : List (Addr × Obj)} {σ : St} {H : Hp} {s s' : Shared}
theorem Inv.env0 (I : Inv X pins σ H s) : Env0 X.prog X.w X.K X.mg X.base X.A X.stack s H :=
  ⟨I.ok.frames, I.ok.mod, I.bs, Nat.le_trans I.ok.bsz I.sz, I.stack, I.stkFree, I.hok, I.bare⟩
theorem Inv.after {Q : VK} {u : Value} (I : Inv X pins σ H s) (h : CE X.stack X.prog X.w H s Q u s') : EP X pins σ Q u s' := by
  obtain ⟨v, H', os, bare, un, hok, r, q⟩ := h
  obtain ⟨hh, g, d, t, os'⟩ := s'
  obtain rfl : os' = s.os := os
  exact ⟨v, H', I.call (h' := hh) (g' := g) (d' := d) (t' := t) (ch := []) un hok bare (fun b z => absurd z (by simp)), r, q⟩
end
noncomputable def tCall (sp : Sp) (dvs : List V) (E : XK) (t : TA) : TE := fun σ H Q => t σ H fun vs H1 => sp (vs ++ dvs) H1 Q E
noncomputable def tMeth (C : Addr) (m : Str) (sp : Sp) (dvs : List V) (E : XK) (ta : TE) (t : TA) : TE := fun σ H Q => ta σ H fun x H1 => ∃ a dx fs, x = .ref a ∧ H1 a = some (.ins C dx fs) ∧ fs.lookup m = none ∧
  t σ H1 fun vs H2 => sp (x :: (vs ++ dvs)) H2 Q E
noncomputable def tMake (C : Addr) (sp : Sp) (dvs : List V) (E : XK) (t : TA) : TE := fun σ H Q => t σ H fun vs H1 => ∀ x dx, H1 x = none → H1 dx = none → dx ≠ x →
  sp (.ref x :: (vs ++ dvs)) (upd (upd H1 dx (.own x)) x (.ins C dx [])) (fun v H2 => v = .non ∧ Q (.ref x) H2) E
noncomputable def Binds (K : PySem.W.Frag) (fd : FuncData) (ps : List Str) (ds : List Value) : Prop :=
  ∀ (s : Shared) (us : List Value), K.In s.heap → (us ++ ds).length = ps.length → BindsTo s fd ⟨us, []⟩ (ps.zip (us ++ ds))
theorem Binds.all {K : PySem.W.Frag} {fd : FuncData} {ps : List Str} (h : ∀ us : List Value, us.length = ps.length → bindArgs fd ⟨us, []⟩ = pure (ps.zip us)) : Binds K fd ps [] := fun s us _ hl => by
  rw [List.append_nil] at hl ⊢
  exact .of_eq (h us hl)
noncomputable def Passes (CX : CXT) (X : Cx) (E : XK) : Prop := ∀ (pins : List (Addr × Obj)) (σ : St) (H : Hp) (s : Shared) (e : Value) (s' : Shared), Inv X pins σ H s → CX X.stack H s E e s' → X.xe e s'
section
variable {X : Cx} {CX : CXT} {k : Nat} {f C : Addr} {fd : FuncData} {ps : List Str} {sp : Sp} {dvs : List V} {ds : List Value} {E : XK} {x m : Str} {p pos apos : Pos} {e o : Expr} {es : List Expr} {ta : TE} {t : TA}
theorem run_fn {pins : List (Addr × Obj)} {σ : St} {H : Hp} {s : Shared} {Q : VK} {us : List Value} {vs : List V} (F : FnOk X.prog X.w X.K X.mg X.base CX k f fd ps sp) (hr : Room k X.A) (hb : Binds X.K fd ps ds) (hd : Vals dvs ds) (hx : Passes CX X E)
    (I : Inv X pins σ H s) (r : Vals vs us) (h : sp (vs ++ dvs) H Q E) : wpAny (model X.prog X.w) X.A (call (.ref f) us) (EP X pins σ Q) X.xe s := by
  have r2 : Vals (vs ++ dvs) (us ++ ds) := r.append hd
  have hl : (us ++ ds).length = ps.length := by rw [← r2.length]; exact F.len _ _ _ _ h
  refine wpAny_call (codeAny_mono (F.run X.A X.stack s H ⟨us, []⟩ (us ++ ds) (vs ++ dvs) Q E hr I.env0 (hb s us I.kIn hl) r2 h) fun r s' hq => ?_)
  cases r with
  | error e => exact hx pins σ H s e s' I hq
  | ok fl =>
    cases fl with
    | ret u => exact I.after hq
    | next => exact False.elim hq
    | brk => exact False.elim hq
    | cont => exact False.elim hq
theorem pe_call (F : FnOk X.prog X.w X.K X.mg X.base CX k f fd ps sp) (hr : Room k X.A) (hg : Gl X x) (hm : X.mg x = some (.ref f)) (hk : PySem.W.keepIn X.K (.ref f) = true) (hb : Binds X.K fd ps ds) (hd : Vals dvs ds) (hx : Passes CX X E)
    (ha : PA X (e :: es) t) (hdb : (x == ("__debug__" : Str)) = false := by decide) (he : starEach (e :: es) X.env = (false, eval e X.env) :: starEach es X.env := by rfl) (hpl : (backTo pos (starEach es X.env)).any (·.1) = false := by rfl) :
    PE X (.Call (.Name x p) (e :: es) [] pos) (tCall sp dvs E t) := by
  intro pins s σ H Q I h
  refine wpAny_Call_Name_kw (ld_glob I hg hm ?_ hdb)
  refine PySem.W.callWith_K (h₀ := X.base) I.ok.mod.kin hk (thn (ha pos pins s σ H _ I h) fun us s1 zq131 => zq131.elim fun vs zq132 => zq132.elim fun H1 zq133 => zq133.elim fun I1 zq134 => zq134.elim fun r q => ⟨I1.kIn, ?_⟩) he hpl
  exact run_fn F hr hb hd hx I1 r q
theorem pe_meth {pl : Sem Bool} (he : PE X o ta) (c : Cls X.K C) (hm : Meth X.K C m f) (F : FnOk X.prog X.w X.K X.mg X.base CX k f fd ps sp) (hr : Room k X.A) (hb : Binds X.K fd ps ds) (hd : Vals dvs ds) (hx : Passes CX X E) (ha : PA X (e :: es) t)
    (hst : starEach (e :: es) X.env = (false, eval e X.env) :: starEach es X.env := by rfl) (hpl : (backTo pos (starEach es X.env)).any (·.1) = false := by rfl)
    (ht : eval (.Call (.Attribute o m apos) (e :: es) [] pos) X.env = (do
      let ov ← eval o X.env
      standAt apos.atName
      let (f, first) ← holding [ov] (getMethod ov m pl)
      callWith pos f first (backTo pos (starEach (e :: es) X.env)) (backToKw pos (keywordEach [] X.env))) := by rfl) :
    PE X (.Call (.Attribute o m apos) (e :: es) [] pos) (tMeth C m sp dvs E ta t) := by
  intro pins s σ H Q I h
  refine PySem.W.methodCall_KW (pl := pl) (thn (he pins s σ H _ I h) fun u s1 zq135 => zq135.elim fun x zq136 => zq136.elim fun H1 zq137 => zq137.elim fun I1 zq138 => zq138.elim fun rx zq139 => zq139.elim fun a zq140 => zq140.elim fun dx zq141 => zq141.elim fun fs zq142 => zq142.elim fun ex zq143 => zq143.elim fun ea zq144 => zq144.elim fun l q => ?_) ht
  subst ex
  obtain rfl : u = Value.ref a := rx
  refine getmeth_ok I1 ea c hm l ?_
  refine PySem.W.callWith_K (first := [.ref a]) (h₀ := X.base) I.ok.mod.kin hm.kp (thn (ha pos pins s1 σ H1 _ I1 q) fun us s2 zq145 => zq145.elim fun vs zq146 => zq146.elim fun H2 zq147 => zq147.elim fun I2 zq148 => zq148.elim fun r q2 => ⟨I2.kIn, ?_⟩) hst hpl
  exact run_fn (us := .ref a :: us) (vs := .ref a :: vs) F hr hb hd hx I2 (.cons rfl r) q2
structure Mk (K : PySem.W.Frag) (C f : Addr) : Prop where
  makes : PySem.W.makesIn K C = true
  init : PySem.W.findIn K (.ref C) "__init__" = some (some (.ref f))
  fn : PySem.W.isFn K (.ref f) = true
  kp : PySem.W.keepIn K (.ref C) = true
theorem run_make {pins : List (Addr × Obj)} {σ : St} {H : Hp} {s : Shared} {Q : VK} {us : List Value} {vs : List V} (M : Mk X.K C f) (F : FnOk X.prog X.w X.K X.mg X.base CX k f fd ps sp) (hr : Room (k + 1) X.A) (hb : Binds X.K fd ps ds) (hd : Vals dvs ds)
    (hx : Passes CX X E) (I : Inv X pins σ H s) (r : Vals vs us)
    (h : ∀ x dx, H x = none → H dx = none → dx ≠ x → sp (.ref x :: (vs ++ dvs)) (upd (upd H dx (.own x)) x (.ins C dx [])) (fun v H2 => v = .non ∧ Q (.ref x) H2) E) :
    wpAny (model X.prog X.w) X.A (call (.ref C) us) (EP X pins σ Q) X.xe s := by
  have hq := h (s.heap.objs.size + 1) s.heap.objs.size (I.hok.fresh (Nat.le_succ _)) (I.hok.fresh (Nat.le_refl _)) (Nat.ne_of_lt (Nat.lt_succ_self _))
  have I2 := Inv.made (C := C) I
  have r2 : Vals (V.ref (s.heap.objs.size + 1) :: (vs ++ dvs)) (Value.ref (s.heap.objs.size + 1) :: (us ++ ds)) := .cons rfl (r.append hd)
  have hl : (Value.ref (s.heap.objs.size + 1) :: us ++ ds).length = ps.length := by
    have e := r2.length
    rw [F.len _ _ _ _ hq] at e
    exact e.symm
  refine wpAny_call (make_map (f := f) I.kIn M.makes M.init (beq_iff_eq.mp M.fn) (codeAny_mono (F.run _ X.stack _ _ ⟨Value.ref (s.heap.objs.size + 1) :: us, []⟩ (Value.ref (s.heap.objs.size + 1) :: (us ++ ds)) _ _ E (hr.make C us [])
    (I2.env0.make C us []) (hb _ (Value.ref (s.heap.objs.size + 1) :: us) I2.kIn hl) r2 hq) fun r s' hq' => ?_))
  cases r with
  | error e => exact hx pins σ _ _ e s' I2 hq'
  | ok fl =>
    cases fl with
    | ret u =>
      obtain ⟨v, H', I3, rv, ev, q3⟩ := I2.after hq'
      subst ev
      exact ⟨rv, ⟨V.ref (s.heap.objs.size + 1), H', I3, rfl, q3⟩⟩
    | next => exact False.elim hq'
    | brk => exact False.elim hq'
    | cont => exact False.elim hq'
theorem pe_make (M : Mk X.K C f) (F : FnOk X.prog X.w X.K X.mg X.base CX k f fd ps sp) (hr : Room (k + 1) X.A) (hg : Gl X x) (hm : X.mg x = some (.ref C)) (hb : Binds X.K fd ps ds) (hd : Vals dvs ds) (hx : Passes CX X E)
    (ha : PA X (e :: es) t) (hdb : (x == ("__debug__" : Str)) = false := by decide) (he : starEach (e :: es) X.env = (false, eval e X.env) :: starEach es X.env := by rfl) (hpl : (backTo pos (starEach es X.env)).any (·.1) = false := by rfl) :
    PE X (.Call (.Name x p) (e :: es) [] pos) (tMake C sp dvs E t) := by
  intro pins s σ H Q I h
  refine wpAny_Call_Name_kw (ld_glob I hg hm ?_ hdb)
  refine PySem.W.callWith_K (h₀ := X.base) I.ok.mod.kin M.kp (thn (ha pos pins s σ H _ I h) fun us s1 zq149 => zq149.elim fun vs zq150 => zq150.elim fun H1 zq151 => zq151.elim fun I1 zq152 => zq152.elim fun r q => ⟨I1.kIn, ?_⟩) he hpl
  exact run_make M F hr hb hd hx I1 r q
end
noncomputable def PK (X : Cx) (kws : List Keyword) (t : TA) : Prop :=
  ∀ (pos : Pos) (pins : List (Addr × Obj)) (s : Shared) (σ : St) (H : Hp) (Q : List V → Hp → Prop), Inv X pins σ H s → t σ H Q → wpAny (model X.prog X.w) X.A (evalAll ((backToKw pos (keywordEach kws X.env)).map (·.2))) (AP X pins σ Q) X.xe s
section
variable {X : Cx} {CX : CXT} {k : Nat} {f C : Addr} {fd : FuncData} {ps ks : List Str} {sp : Sp} {E : XK} {x m : Str} {p pos apos kpos : Pos} {e o : Expr} {es : List Expr} {kws : List Keyword} {te ta : TE} {t tk : TA} {nm : Option Str}
theorem pk_nil : PK X [] tNil := fun _ _ _ _ H Q I h => wpAny_evalAll_nil ⟨[], H, I, .nil, h⟩
theorem pk_cons (ha : PE X e te) (hr : PK X kws t) : PK X (⟨nm, e, kpos⟩ :: kws) (tCons te t) := by
  intro pos pins s σ H Q I h
  show wpAny _ _ (evalAll ((do let v ← eval e X.env; standAt pos; pure v) :: (backToKw pos (keywordEach kws X.env)).map (·.2))) _ _ s
  refine wpAny_evalAll_cons (wpAny_bind (thn (ha pins s σ H _ I h) fun u s1 zq153 => zq153.elim fun x zq154 => zq154.elim fun H1 zq155 => zq155.elim fun I1 zq156 => zq156.elim fun r1 q1 => wpAny_bind (wpAny_standAt (wpAny_pure ?_))))
  exact thn (hr pos pins s1 σ H1 _ I1 q1) fun us s2 zq157 => zq157.elim fun xs zq158 => zq158.elim fun H2 zq159 => zq159.elim fun I2 zq160 => zq160.elim fun r2 q2 => ⟨x :: xs, H2, I2, .cons r1 r2, q2⟩
variable {g : List Value → List Value → List Value} {gV : List V → List V → List V}
end
structure FnScope (N P : List Str) (sc : Scope) : Prop where
  kind : sc.kind = .function
  co : sc.isCoroutine = false
  gen : sc.isGenerator = false
  nd : N.Nodup
  pre : N.take P.length = P
  par : ∀ x ∈ P, sc.names.lookup x = some .local ∨ sc.names.lookup x = some .cell
  nofree : ∀ y ∈ sc.names, y.2 ≠ .free
theorem bindL_out {kindOf : Str → Option NameKind} {x : Str} : ∀ {binds : List (Str × Value)} {m : Str → Option Value}, (∀ v, (x, v) ∉ binds) → bindL kindOf binds m x = m x
  | [], _, _ => rfl
  | (n, v) :: r, m, h => by
    unfold bindL
    rw [bindL_out fun w hw => h w (List.mem_cons_of_mem _ hw)]
    split
    · have : x ≠ n := by rintro rfl; exact h v List.mem_cons_self
      simp [this]
    · rfl
theorem bindC_out {kindOf : Str → Option NameKind} {x : Str} : ∀ {binds : List (Str × Value)} {m : Str → Option Value}, (∀ v, (x, v) ∉ binds) → bindC kindOf binds m x = m x
  | [], _, _ => rfl
  | (n, v) :: r, m, h => by
    unfold bindC
    rw [bindC_out fun w hw => h w (List.mem_cons_of_mem _ hw)]
    split
    · rfl
    · have : x ≠ n := by rintro rfl; exact h v List.mem_cons_self
      simp [this]
theorem bindL_get {kindOf : Str → Option NameKind} {x : Str} {v : Value} : ∀ {P : List Str} {vs : List Value} {i : Nat} {m : Str → Option Value}, P.Nodup → P[i]? = some x → vs[i]? = some v → kindOf x = some .local →
    bindL kindOf (P.zip vs) m x = some v
  | [], _, _, _, _, h, _, _ => by simp at h
  | _ :: _, [], _, _, _, _, h, _ => by simp at h
  | p :: P, w :: vs, 0, m, nd, h1, h2, hk => by
    simp at h1 h2; subst h1; subst h2
    show bindL kindOf ((p, w) :: P.zip vs) m p = _
    unfold bindL
    rw [bindL_out fun v hv => (List.nodup_cons.mp nd).1 (List.of_mem_zip hv).1, if_pos hk]
    simp
  | p :: P, w :: vs, i + 1, m, nd, h1, h2, hk => by
    show bindL kindOf ((p, w) :: P.zip vs) m x = _
    unfold bindL
    exact bindL_get (i := i) (List.nodup_cons.mp nd).2 (by simpa using h1) (by simpa using h2) hk
theorem bindC_get {kindOf : Str → Option NameKind} {x : Str} {v : Value} : ∀ {P : List Str} {vs : List Value} {i : Nat} {m : Str → Option Value}, P.Nodup → P[i]? = some x → vs[i]? = some v → kindOf x ≠ some .local →
    bindC kindOf (P.zip vs) m x = some v
  | [], _, _, _, _, h, _, _ => by simp at h
  | _ :: _, [], _, _, _, _, h, _ => by simp at h
  | p :: P, w :: vs, 0, m, nd, h1, h2, hk => by
    simp at h1 h2; subst h1; subst h2
    show bindC kindOf ((p, w) :: P.zip vs) m p = _
    unfold bindC
    rw [bindC_out fun v hv => (List.nodup_cons.mp nd).1 (List.of_mem_zip hv).1, if_neg hk]
    simp
  | p :: P, w :: vs, i + 1, m, nd, h1, h2, hk => by
    show bindC kindOf ((p, w) :: P.zip vs) m x = _
    unfold bindC
    exact bindC_get (i := i) (List.nodup_cons.mp nd).2 (by simpa using h1) (by simpa using h2) hk
noncomputable def start (N : List Str) (vs : List V) : St := vs.map some ++ List.replicate (N.length - vs.length) none
noncomputable def cxOf (CX : CXT) (P : Program) (w : World) (K : PySem.W.Frag) (mg : Str → Option Value) (base : Heap) (N : List Str) (qual : Str) (scope : Scope) (f : Addr) (cd : Value) (A : Around) (outer : List Env) (s : Shared) (H : Hp) (E : XK) : Cx where
  prog := P
  w := w
  K := K
  mg := mg
  base := base
  A := A.deeper (envOfC qual scope s.heap.objs.size f cd)
  N := N
  s₀ := s
  H₀ := H
  env := envOfC qual scope s.heap.objs.size f cd
  outer := outer
  stack := envOfC qual scope s.heap.objs.size f cd :: outer
  ex := []
  calm := true
  fn := fun _ => true
  pn := []
  xe := fun e s' => wpAny (model P w) (A.deeper (envOfC qual scope s.heap.objs.size f cd)) (leaving (envOfC qual scope s.heap.objs.size f cd) e) (fun _ s'' => CX outer H s E e s'') (fun e' s'' => CX outer H s E e' s'') s'
theorem cell_has {sc : Scope} {n : Nat} {x : Str} (h : sc.names.lookup x = some .cell) : ∃ c, (cellsFrom n sc.names []).lookup x = some c := by
  have q := PySem.W.cellsFrom_some sc.names n [] (.inl h)
  exact Option.isSome_iff_exists.mp q
theorem inv_start {CX : CXT} {P : Program} {w : World} {K : PySem.W.Frag} {mg : Str → Option Value} {base : Heap} {N ps : List Str} {qual : Str} {scope : Scope} {f : Addr} {cd : Value} {A : Around} {outer : List Env} {s s1 : Shared} {H : Hp} {E : XK} {us : List Value} {vs : List V}
    (S : FnScope N ps scope) (hd : A.handled = none) (e0 : Env0 P w K mg base A outer s H) (hl : vs.length = ps.length) (r : Vals vs us)
    (x : InCallC s s.heap.objs.size (bindL (envOfC qual scope s.heap.objs.size f cd).kindOf (ps.zip us) fun _ => none) (cellsFrom (s.heap.objs.size + 1) scope.names []) (bindC (envOfC qual scope s.heap.objs.size f cd).kindOf (ps.zip us) fun _ => none) s1) :
    Inv (cxOf CX P w K mg base N qual scope f cd A outer s H E) [] (start N vs) H s1 := by
  have hpl : ps.length ≤ N.length := by have := congrArg List.length S.pre; rw [List.length_take] at this; omega
  obtain ⟨h1, tk, rfl, hk⟩ := x.done
  have noA : ∀ b : Addr, b ∉ (cxOf CX P w K mg base N qual scope f cd A outer s H E).ex := fun b z => absurd (show b ∈ ([] : List Addr) from z) (by simp)
  refine ⟨⟨e0.mod, S.kind, rfl, rfl, Nat.le_refl _, fun y z c h1 h2 => ?_, fun y hy => ?_, fun y c _ h => ?_, fun _ => hd, Around.frames_deeper e0.frames, .inr ⟨rfl, rfl⟩, fun b z => absurd z (noA b), e0.bs, e0.bsz, fun b _ _ => noA b, fun b z => absurd z (noA b), e0.funs, e0.frf⟩,
    rfl, e0.bare, Un.kept hk, ⟨_, x.toInCall.ns, fun i y v h1 h2 h3 => ?_⟩, fun y c h => ⟨_, x.cell y c h⟩, e0.hok.fresh (Nat.le_refl _), fun y c h => ?_, fun p hp => absurd (show p ∈ ([] : List (Addr × Obj)) from hp) (by simp), e0.hok.kept hk, ?_⟩
  · exact name_of_addr x.apart (PySem.mem_of_lookup h1) (PySem.mem_of_lookup h2)
  · have hy : scope.names.lookup y = some .cell ∨ scope.names.lookup y = some .free := hy
    rcases hy with hy | hy
    · exact cell_has hy
    · exact absurd rfl (S.nofree _ (PySem.mem_of_lookup hy))
  · exact Nat.le_of_lt (x.above y c (PySem.mem_of_lookup h))
  · have hi : i < vs.length := by
      unfold start at h2
      by_cases hi : i < vs.length
      · exact hi
      · rw [List.getElem?_append_right (by simpa using hi)] at h2
        rw [List.getElem?_replicate] at h2
        split at h2 <;> cases h2
    have ha : vs[i]? = some v := by
      unfold start at h2
      rw [List.getElem?_append_left (by simpa using hi), List.getElem?_map] at h2
      cases e : vs[i]? with
      | none => rw [e] at h2; cases h2
      | some a => rw [e] at h2; cases h2; rfl
    obtain ⟨u, hu, rv⟩ := r.get ha
    have hp : ps[i]? = some y := by
      rw [← S.pre, List.getElem?_take_of_lt (by omega)]; exact h1
    have ndP : ps.Nodup := by rw [← S.pre]; exact S.nd.sublist (List.take_sublist _ _)
    refine ⟨u, rv, ?_⟩
    rcases S.par y (List.mem_of_getElem? hp) with k | k
    · exact .inl ⟨k, bindL_get ndP hp hu k⟩
    · obtain ⟨c, e⟩ := cell_has (n := s.heap.objs.size + 1) k
      refine .inr ⟨.inl k, c, e, ?_⟩
      have q := x.cell y c e
      rw [bindC_get ndP hp hu (by show scope.names.lookup y ≠ _; rw [k]; decide)] at q
      exact q
  · exact e0.hok.fresh (Nat.le_of_lt (x.above y c (PySem.mem_of_lookup h)))
  · unfold start
    show _ = N.length
    rw [List.length_append, List.length_map, List.length_replicate]
    omega
theorem fn_of {CX : CXT} {P : Program} {w : World} {K : PySem.W.Frag} {mg : Str → Option Value} {base : Heap} {k : Nat} {f : Addr} {name qual : Str} {params : Arguments} {body : List Stmt} {scope : Scope} {dV kV doc pm cdv ct oc : Value} {an od : Option Addr}
    {osl : Array (Option Value)} {N ps : List Str} {sp : Sp} (lk : K.lookup f = some ⟨oc, od, .func (PySem.W.fnOf name qual params body scope dV kV doc pm an cdv ct), osl⟩) (hcd : PySem.W.codeIn K cdv qual = true) (S : FnScope N ps scope)
    (len : ∀ vs H Q E, sp vs H Q E → vs.length = ps.length)
    (hbody : ∀ (A : Around) (outer : List Env) (s : Shared) (H : Hp) (vs : List V) (Q : VK) (E : XK), Room k (A.deeper (envOfC qual scope s.heap.objs.size f cdv)) → sp vs H Q E →
      ∃ t, PSs (cxOf CX P w K mg base N qual scope f cdv A outer s H E) body t ∧ t { nx := fun _ H' => Q .non H', rt := Q } (start N vs) H) :
    FnOk P w K mg base CX (k + 1) f (PySem.W.fnOf name qual params body scope dV kV doc pm an cdv ct) ps sp := by
  refine ⟨len, fun A outer s H args us vs Q E hr e0 hb r hsp => ?_⟩
  have hl := len _ _ _ _ hsp
  have KX : K.In s.heap := e0.mod.kin.keeps fun b o e => (e0.bs b o e).1
  have lim : s.heap.NoLimit := e0.mod.nolimit.keeps fun b o e => (e0.bs b o e).1
  have hkind : ∀ y ∈ ps.zip us, scope.names.lookup y.1 = some .local ∨ (scope.names.lookup y.1 = some .cell ∧ ((cellsFrom (s.heap.objs.size + 1) scope.names []).lookup y.1).isSome = true) := fun ⟨n, v⟩ hy => by
    rcases S.par n (List.of_mem_zip hy).1 with q | q
    · exact .inl q
    · exact .inr ⟨q, PySem.W.cellsFrom_some _ _ _ (.inl q)⟩
  refine codeAny_call_function hr.depth (KX _ _ lk) rfl S.co S.gen rfl (PySem.W.codeRec_of KX hcd) (hb _ _ _ _ ?_)
  refine wpAny_newFunctionEnv_cells S.kind hkind fun env he s1 x => ?_
  subst he
  refine ⟨lim.keeps x.toInCall.keep, codeAny_func ?_⟩
  obtain ⟨t, ht, hq⟩ := hbody A outer s H vs Q E (hr.deeper _) hsp
  have I : Inv (cxOf CX P w K mg base N qual scope f cdv A outer s H E) [] (start N vs) H s1 := inv_start S hr.hd e0 hl r x
  refine wpAny_mono (ht [] s1 (start N vs) H _ I hq) (fun fl s' hs => ?_) fun e s' hs => hs
  have fin : ∀ {σ' : St} {H' : Hp} {v : V} {u : Value}, Inv (cxOf CX P w K mg base N qual scope f cdv A outer s H E) [] σ' H' s' → RelV v u → Q v H' → CE outer P w H s Q u s' :=
    fun {σ' H' v u} J rv q => ⟨v, H', J.os, J.bare, J.base, J.hok, rv, q⟩
  cases fl with
  | ret u =>
    obtain ⟨v, σ', H', J, rv, q⟩ := hs
    exact fin J rv q
  | next =>
    obtain ⟨σ', H', J, q⟩ := hs
    exact fin (v := V.non) (u := Value.none) J rfl q
  | brk =>
    obtain ⟨_, _, _, q⟩ := hs
    exact False.elim q
  | cont =>
    obtain ⟨_, _, _, q⟩ := hs
    exact False.elim q
end L2
namespace L2
open PySem PySem.Spec PyProof.Rows
section
variable {X : Cx} {x : Str} {p pos : Pos} {e : Expr} {es : List Expr} {t : TA} {id T : String} {r : List V → Hp → VK → Prop}
noncomputable def tCB (r : List V → Hp → VK → Prop) (t : TA) : TE := fun σ H Q => t σ H fun vs H1 => r vs H1 Q
theorem pe_callB (hc : CallR X (.builtin id) r) (hg : Gl X x) (hm : X.mg x = none) (hv : bootBuiltins x = some (.builtin id)) (ha : PA X (e :: es) t) (hn : x ≠ "__name__" := by decide) (hdb : (x == ("__debug__" : Str)) = false := by decide)
    (he : starEach (e :: es) X.env = (false, eval e X.env) :: starEach es X.env := by rfl) (hpl : (backTo pos (starEach es X.env)).any (·.1) = false := by rfl) : PE X (.Call (.Name x p) (e :: es) [] pos) (tCB r t) := by
  intro pins s σ H Q I h
  refine wpAny_Call_Name_kw (ld_blt I hg hm hv ?_ hn hdb)
  exact PyProof.Rows.callWith_builtin1 (thn (ha pos pins s σ H _ I h) fun us s1 zq162 => zq162.elim fun vs zq163 => zq163.elim fun H1 zq164 => zq164.elim fun I1 zq165 => zq165.elim fun r1 q1 => hc pins s1 σ H1 vs us Q I1 r1 q1) he hpl
theorem pe_callTy (hc : CallR X (.type T) r) (hg : Gl X x) (hm : X.mg x = none) (hv : bootBuiltins x = some (.type T)) (ha : PA X (e :: es) t) (hn : x ≠ "__name__" := by decide) (hdb : (x == ("__debug__" : Str)) = false := by decide)
    (he : starEach (e :: es) X.env = (false, eval e X.env) :: starEach es X.env := by rfl) (hpl : (backTo pos (starEach es X.env)).any (·.1) = false := by rfl) : PE X (.Call (.Name x p) (e :: es) [] pos) (tCB r t) := by
  intro pins s σ H Q I h
  refine wpAny_Call_Name_kw (ld_blt I hg hm hv ?_ hn hdb)
  exact PyProof.Rows.callWith_type1 (thn (ha pos pins s σ H _ I h) fun us s1 zq166 => zq166.elim fun vs zq167 => zq167.elim fun H1 zq168 => zq168.elim fun I1 zq169 => zq169.elim fun r1 q1 => hc pins s1 σ H1 vs us Q I1 r1 q1) he hpl
end
end L2
namespace HT
open PySem PyProof.Rows
theorem eqAt_int (A : Around) (s : Shared) (a : Int) (t : Tok) (c : Int) (u : Tok) : ∃ e, SeqAt.EqAt A s (.int a t) (.int c u) e ∧ (e = true ↔ a = c) :=
  ⟨(a == c), SeqAt.EqAt.int_int a t c u, by simp⟩
theorem rcLt_int (A : Around) (s : Shared) (a : Int) (t : Tok) (c : Int) (u : Tok) (prog : Program) (w : World) (E : Value → Shared → Prop) (Q : Value → Shared → Prop) (h : Q (.bool (decide (a < c))) s) :
    wpAny (model prog w) A (richCompare .Lt (.int a t) (.int c u)) Q E s :=
  (PyProof.Rows.lt_int h : wpAny (model prog w) A (compareOp .Lt (.int a t) (.int c u)) Q E s)
section
open PySem.SeqAt
open PySem.AutoSeq1 (wpAny_loadPart')
open PySem.MeetsSeq PySem.MeetsSeq2 PySem.MeetsSeq3
end
section
variable {prog : Program} {w : World} {A : Around} {E : Value → Shared → Prop} {s : Shared}
end
end HT
namespace L2
open PySem PySem.Spec PyProof.Rows
noncomputable abbrev TO := St → Hp → (Option Int → Hp → Prop) → Prop
noncomputable def PO (X : Cx) (e : Option Expr) (t : TO) : Prop :=
  ∀ (pins : List (Addr × Obj)) (s : Shared) (σ : St) (H : Hp) (Q : Option Int → Hp → Prop), Inv X pins σ H s → t σ H Q →
    wpAny (model X.prog X.w) X.A (evalPart e X.env) (fun u s' => ∃ o H', Inv X pins σ H' s' ∧ IsPart u o ∧ Q o H') X.xe s
noncomputable def tNoPart : TO := fun _ H Q => Q none H
noncomputable def tPart (t : TE) : TO := fun σ H Q => t σ H fun x H1 => ∃ i, x = .int i ∧ Q (some i) H1
section
variable {X : Cx} {e : Expr} {te : TE} {lo hi : Option Expr} {tl th : TO} {pos p2 : Pos}
theorem po_none : PO X none tNoPart := by
  intro pins s σ H Q I h
  rw [evalPart_none]
  exact wpAny_pure ⟨none, H, I, .none, h⟩
theorem po_some (h : PE X e te) : PO X (some e) (tPart te) := by
  intro pins s σ H Q I hw
  rw [evalPart_some]
  refine thn (h pins s σ H _ I hw) fun u s1 zq170 => zq170.elim fun x zq171 => zq171.elim fun H1 zq172 => zq172.elim fun I1 zq173 => zq173.elim fun r1 q1 => ?_
  obtain ⟨i, rfl, q⟩ := q1
  obtain ⟨t, rfl⟩ := r1
  exact ⟨some i, H1, I1, .int i t, q⟩
noncomputable def SlR (X : Cx) (r : V → Option Int → Option Int → Hp → VK → Prop) : Prop :=
  ∀ (pins : List (Addr × Obj)) (s : Shared) (σ : St) (H : Hp) (x : V) (v vl vu : Value) (lo hi : Option Int) (sl : Addr) (Q : VK), Inv X pins σ H s → RelV x v → s.heap.IsSliceOf sl vl vu .none → IsPart vl lo → IsPart vu hi → r x lo hi H Q →
    ∃ T id, typeLookup (.type T) "__getitem__" = pure (some (.builtin id)) ∧ s.TypeIs v T ∧ wpAny (model X.prog X.w) X.A (getItem v (.ref sl)) (EP X pins σ Q) X.xe s
noncomputable def tSl (r : V → Option Int → Option Int → Hp → VK → Prop) (te : TE) (tl th : TO) : TE := fun σ H Q => te σ H fun x H1 => tl σ H1 fun l H2 => th σ H2 fun u H3 => r x l u H3 Q
theorem pe_slice {r : V → Option Int → Option Int → Hp → VK → Prop} (hr : SlR X r) (he : PE X e te) (hl : PO X lo tl) (hu : PO X hi th) : PE X (.Subscript e (.Slice lo hi none p2) pos) (tSl r te tl th) := by
  intro pins s σ H Q I h
  refine Subscript_ (thn (he pins s σ H _ I h) fun v s1 zq174 => zq174.elim fun x zq175 => zq175.elim fun H1 zq176 => zq176.elim fun I1 zq177 => zq177.elim fun r1 q1 => ?_)
  refine wpAny_Slice (thn (hl pins s1 σ H1 _ I1 q1) fun vl s2 zq178 => zq178.elim fun l zq179 => zq179.elim fun H2 zq180 => zq180.elim fun I2 zq181 => zq181.elim fun pl q2 => thn (hu pins s2 σ H2 _ I2 q2) fun vu s3 zq182 => zq182.elim fun u zq183 => zq183.elim fun H3 zq184 => zq184.elim fun I3 zq185 => zq185.elim fun pu q3 => ?_)
  rw [evalPart_none]
  refine wpAny_pure ?_
  have I4 : Inv X pins σ H3 { s3 with heap := s3.heap.push { cls := .type "slice", data := .fields #[vl, vu, .none] } } := I3.kept (t' := s3.toks) fun b ob q => Heap.get?_push_of_some _ q
  obtain ⟨T, id, hT, ht, hg⟩ := hr pins { s3 with heap := s3.heap.push { cls := .type "slice", data := .fields #[vl, vu, .none] } } σ H3 x v vl vu l u s3.heap.objs.size Q I4 r1 (Heap.IsSliceOf.new ..) pl pu q3
  show wpAny (model X.prog X.w) X.A (subscriptTail e (.Slice lo hi none p2) v (.ref s3.heap.objs.size)) (EP X pins σ Q) X.xe { s3 with heap := s3.heap.push { cls := .type "slice", data := .fields #[vl, vu, .none] } }
  exact tail_any (ops := [.ref s3.heap.objs.size, v]) ht hT hg (by with_unfolding_all rfl)
end
end L2
namespace L2
open PySem PySem.Spec PyProof.Rows
noncomputable def ixN (n : Nat) (i : Int) : Option Nat := if 0 ≤ i then (if i < n then some i.toNat else none) else if -(n : Int) ≤ i then some (i + n).toNat else none
noncomputable def atI {α : Type} (xs : List α) (i : Int) : Option α := (ixN xs.length i).bind fun j => xs[j]?
theorem ixN_seq {n : Nat} {i : Int} {j : Nat} (h : ixN n i = some j) : seqIndex? i n = some j ∧ j < n ∧ -(n : Int) ≤ i ∧ i < n := by
  unfold ixN at h
  by_cases h0 : 0 ≤ i
  · rw [if_pos h0] at h
    by_cases h1 : i < n
    · rw [if_pos h1] at h
      have e : i.toNat = j := Option.some.inj h
      exact ⟨by rw [seqIndex_of h0 h1, e], by omega, by omega, h1⟩
    · rw [if_neg h1] at h; cases h
  · rw [if_neg h0] at h
    by_cases h1 : -(n : Int) ≤ i
    · rw [if_pos h1] at h
      have e : (i + n).toNat = j := Option.some.inj h
      exact ⟨by rw [seqIndex_neg (by omega) h1, e], by omega, h1, by omega⟩
    · rw [if_neg h1] at h; cases h
theorem atI_get {α : Type} {xs : List α} {i : Int} {v : α} (h : atI xs i = some v) : ∃ j, seqIndex? i xs.length = some j ∧ xs[j]? = some v ∧ j < xs.length ∧ -(xs.length : Int) ≤ i ∧ i < xs.length := by
  unfold atI at h
  cases e : ixN xs.length i with
  | none => rw [e] at h; cases h
  | some j =>
    rw [e] at h
    obtain ⟨h1, h2, h3, h4⟩ := ixN_seq e
    exact ⟨j, h1, h, h2, h3, h4⟩
theorem atI_nat {α : Type} {xs : List α} {j : Nat} {v : α} (h : xs[j]? = some v) : atI xs (j : Int) = some v := by
  have hj : j < xs.length := (List.getElem?_eq_some_iff.mp h).1
  have e : ixN xs.length (j : Int) = some j := by
    unfold ixN
    rw [if_pos (by omega), if_pos (by omega)]; simp
  unfold atI; rw [e]; exact h
noncomputable def PlainIx (b : Expr) : Prop := ∀ o i, subscripted b false o i = operate [o, i] (getItem o i)
noncomputable def IxR (X : Cx) (r : R2) : Prop :=
  ∀ (value slice : Expr) (pins : List (Addr × Obj)) (s : Shared) (σ : St) (H : Hp) (x y : V) (v u : Value) (Q : VK), Inv X pins σ H s → RelV x v → RelV y u → r x y H Q →
    subscripted slice false v u = operate [v, u] (getItem v u) → wpAny (model X.prog X.w) X.A (subscriptTail value slice v u) (EP X pins σ Q) X.xe s
noncomputable def MtR (X : Cx) (id : String) (r : V → List V → Hp → VK → Prop) : Prop :=
  ∀ (pins : List (Addr × Obj)) (s : Shared) (σ : St) (H : Hp) (x : V) (xs : List V) (v : Value) (us : List Value) (Q : VK), Inv X pins σ H s → RelV x v → Vals xs us → r x xs H Q →
    wpAny (model X.prog X.w) X.A (call (.builtin id) (v :: us)) (EP X pins σ Q) X.xe s
section
variable {X : Cx} {a b : Expr} {ta tb : TE} {pos : Pos}
theorem pe_ix {r : R2} (hr : IxR X r) (ha : PE X a ta) (hb : PE X b tb) (hs : PlainIx b) : PE X (.Subscript a b pos) (tOp r ta tb) := by
  intro pins s σ H Q I h
  exact Subscript_ (binT ha hb I h fun v u s2 x y H2 I2 rx ry q => hr a b pins s2 σ H2 x y v u Q I2 rx ry q (hs _ _))
noncomputable def rIxL (K : PySem.W.Frag) : R2 := fun x y H Q => ∃ p xs i v, x = .ref p ∧ y = .int i ∧ SqL K H p xs ∧ atI xs i = some v ∧ Q v H
noncomputable def rIxT (K : PySem.W.Frag) : R2 := fun x y H Q => ∃ p xs i v, x = .ref p ∧ y = .int i ∧ SqT K H p xs ∧ atI xs i = some v ∧ Q v H
noncomputable def rIxS : R2 := fun x y H Q => ∃ z i c, x = .str z ∧ y = .int i ∧ z.length ≤ sizeLine ∧ atI z.cps.toList i = some c ∧ Q (.str ⟨#[c]⟩) H
theorem ix_list : IxR X (rIxL X.K) := by
  intro value slice pins s σ H x y v u Q I rx ry h hs
  obtain ⟨p, xs, i, z, rfl, rfl, hq, he, q⟩ := h
  cases rx
  obtain ⟨t, rfl⟩ := ry
  obtain ⟨its, r, pl, hz⟩ := I.list hq
  obtain ⟨j, h1, h2, h3, h4, h5⟩ := atI_get he
  obtain ⟨w, ew, rw'⟩ := r.get h2
  have hl := r.length
  have hn := line63
  have fin : EP X pins σ Q w s := ⟨z, H, I, rw', q⟩
  by_cases h0 : 0 ≤ i
  · have hj : i.toNat = j := by
      rw [seqIndex_of h0 h5] at h1
      exact Option.some.inj h1
    exact item_listR pl.isList h0 (by omega) (by rw [hj]; simpa using ew) fin hs
  · have hj : (i + (its.toArray.size : Int)).toNat = j := by
      rw [seqIndex_neg (by omega) h4] at h1
      rw [List.size_toArray, ← hl]
      exact Option.some.inj h1
    exact subscriptTail_builtinR (x := w) pl.isList.typeIs slot_list_getitem.lookup
      (wpAny_getItem_list_neg (Q := fun r s' => r = w ∧ EP X pins σ Q r s') pl.isList (by omega) (by rw [List.size_toArray] <;> omega) (by omega) (by rw [hj]; simpa using ew) ⟨rfl, fin⟩) hs
theorem ix_tup : IxR X (rIxT X.K) := by
  intro value slice pins s σ H x y v u Q I rx ry h hs
  obtain ⟨p, xs, i, z, rfl, rfl, hq, he, q⟩ := h
  cases rx
  obtain ⟨t, rfl⟩ := ry
  obtain ⟨its, r, pl, hz⟩ := I.tuple hq
  obtain ⟨j, h1, h2, h3, h4, h5⟩ := atI_get he
  obtain ⟨w, ew, rw'⟩ := r.get h2
  have hl := r.length
  have hn := line63
  have fin : EP X pins σ Q w s := ⟨z, H, I, rw', q⟩
  exact subscriptTail_builtinR (x := w) pl.typeIs slot_tuple_getitem.lookup
    (getItem_tuple (j := j) (Q := fun r s' => r = w ∧ EP X pins σ Q r s') pl (by omega) (by omega) (by rw [List.size_toArray, ← hl]; exact h1) (by simpa using ew) ⟨rfl, fin⟩) hs
theorem ix_str : IxR X rIxS := by
  intro value slice pins s σ H x y v u Q I rx ry h hs
  obtain ⟨z, i, c, rfl, rfl, hz, he, q⟩ := h
  obtain ⟨t, rfl⟩ := rx
  obtain ⟨t', rfl⟩ := ry
  obtain ⟨j, h1, h2, h3, h4, h5⟩ := atI_get he
  have hl : z.cps.toList.length = z.length := by simp [Str.length]
  rw [hl] at h1 h4 h5
  have hn := line63
  exact tail_any (typeIs_str s z t) slot_str_getitem.lookup (getItem_str (c := c) (by
    have e1 : decide (i < -(2 ^ 63 : Int)) = false := decide_eq_false (by omega)
    have e2 : decide (i ≥ 2 ^ 63) = false := decide_eq_false (by omega)
    rw [e1, e2, Bool.or_false]) (by rw [h1]; simpa using h2) ⟨.str ⟨#[c]⟩, H, I.tok _, ⟨_, rfl⟩, q⟩) hs
noncomputable def flatV : V → Bool
  | .non => true
  | .bl _ => true
  | .int _ => true
  | .str _ => true
  | _ => false
noncomputable def eqV : V → V → Bool
  | .non, .non => true
  | .bl a, .bl b => a == b
  | .bl a, .int b => (if a then 1 else 0) == b
  | .int a, .bl b => a == (if b then 1 else 0)
  | .int a, .int b => a == b
  | .str a, .str b => a == b
  | _, _ => false
theorem eqAt_V {A : Around} {s : Shared} {y x : V} {u v : Value} (ry : RelV y u) (rx : RelV x v) (fy : flatV y = true) (fx : flatV x = true) : SeqAt.EqAt A s u v (eqV y x) := by
  cases y with
  | non =>
    cases ry
    cases x with
    | non => cases rx; exact SeqAt.EqAt.same _
    | bl b => cases rx; exact SeqAt.EqAt.none_bool b
    | int b => obtain ⟨t, rfl⟩ := rx; exact SeqAt.EqAt.none_int b t
    | str b => obtain ⟨t, rfl⟩ := rx; exact SeqAt.EqAt.none_str b t
    | _ => exact absurd (show false = true from fx) Bool.false_ne_true
  | bl a =>
    cases ry
    cases x with
    | non => cases rx; exact SeqAt.EqAt.bool_none a
    | bl b => cases rx; exact SeqAt.EqAt.bool_bool a b
    | int b => obtain ⟨t, rfl⟩ := rx; exact SeqAt.EqAt.bool_int a b t
    | str b => obtain ⟨t, rfl⟩ := rx; exact SeqAt.EqAt.bool_str a b t
    | _ => exact absurd (show false = true from fx) Bool.false_ne_true
  | int a =>
    obtain ⟨t', rfl⟩ := ry
    cases x with
    | non => cases rx; exact SeqAt.EqAt.int_none a t'
    | bl b => cases rx; exact SeqAt.EqAt.int_bool a t' b
    | int b => obtain ⟨t, rfl⟩ := rx; exact SeqAt.EqAt.int_int a t' b t
    | str b => obtain ⟨t, rfl⟩ := rx; exact SeqAt.EqAt.int_str a t' b t
    | _ => exact absurd (show false = true from fx) Bool.false_ne_true
  | str a =>
    obtain ⟨t', rfl⟩ := ry
    cases x with
    | non => cases rx; exact SeqAt.EqAt.str_none a t'
    | bl b => cases rx; exact SeqAt.EqAt.str_bool a t' b
    | int b => obtain ⟨t, rfl⟩ := rx; exact SeqAt.EqAt.str_int a t' b t
    | str b => obtain ⟨t, rfl⟩ := rx; exact SeqAt.EqAt.str_str a t' b t
    | _ => exact absurd (show false = true from fx) Bool.false_ne_true
  | _ => exact absurd (show false = true from fy) Bool.false_ne_true
noncomputable def eqU (x : V) (u : Value) : Bool := match u with
  | .none => eqV .non x
  | .bool b => eqV (.bl b) x
  | .int i _ => eqV (.int i) x
  | .str z _ => eqV (.str z) x
  | _ => false
theorem eqU_of {x y : V} {u : Value} (r : RelV y u) (f : flatV y = true) : eqU x u = eqV y x := by
  cases y with
  | non => cases r; rfl
  | bl b => cases r; rfl
  | int i => obtain ⟨t, rfl⟩ := r; rfl
  | str z => obtain ⟨t, rfl⟩ := r; rfl
  | _ => exact absurd (show false = true from f) Bool.false_ne_true
theorem any_eqU {x : V} : ∀ {xs : List V} {us : List Value}, Vals xs us → xs.all flatV = true → us.any (eqU x) = xs.any fun y => eqV y x
  | _, _, .nil, _ => rfl
  | y :: xs, u :: us, .cons r t, f => by
    rw [List.all_cons, Bool.and_eq_true] at f
    rw [List.any_cons, List.any_cons, eqU_of r f.1, any_eqU t f.2]
theorem mem_eqAt {A : Around} {s : Shared} {x : V} {v : Value} (rx : RelV x v) (fx : flatV x = true) : ∀ {xs : List V} {us : List Value}, Vals xs us → xs.all flatV = true → ∀ u ∈ us, SeqAt.EqAt A s u v (eqU x u)
  | _, _, .nil, _ => fun u hu => by cases hu
  | y :: xs, u :: us, .cons r t, f => fun u' hu => by
    rw [List.all_cons, Bool.and_eq_true] at f
    rcases List.mem_cons.mp hu with rfl | hu
    · rw [eqU_of r f.1]; exact eqAt_V r rx f.1 fx
    · exact mem_eqAt rx fx t f.2 u' hu
noncomputable def inV (x : V) (xs : List V) : Bool := xs.any fun y => eqV y x
noncomputable def rIn (K : PySem.W.Frag) (neg : Bool) : R2 := fun x y H Q => ∃ p xs, y = .ref p ∧ (SqL K H p xs ∨ SqT K H p xs) ∧ flatV x = true ∧ xs.all flatV = true ∧ Q (.bl (if neg then !inV x xs else inV x xs)) H
theorem op_in_seq : OpR X (compareOp .In) (rIn X.K false) := by
  intro pins s σ H x y v u Q I rx ry h
  obtain ⟨p, xs, rfl, hq, fx, fs, q⟩ := h
  cases ry
  rcases hq with hq | hq
  · obtain ⟨its, r, pl, hz⟩ := I.list hq
    refine SeqAt.in_listAt (eqU x) pl.isList (fun w hw => mem_eqAt rx fx r fs w (by simpa using hw)) ⟨.bl _, H, I, rfl, ?_⟩
    rw [show its.toArray.any (eqU x) = its.any (eqU x) by simp, any_eqU r fs]
    exact q
  · obtain ⟨its, r, pl, hz⟩ := I.tuple hq
    refine SeqAt.in_tupleAt (eqU x) pl (fun w hw => mem_eqAt rx fx r fs w (by simpa using hw)) ⟨.bl _, H, I, rfl, ?_⟩
    rw [show its.toArray.any (eqU x) = its.any (eqU x) by simp, any_eqU r fs]
    exact q
theorem op_notIn_seq : OpR X (compareOp .NotIn) (rIn X.K true) := by
  intro pins s σ H x y v u Q I rx ry h
  obtain ⟨p, xs, rfl, hq, fx, fs, q⟩ := h
  cases ry
  rcases hq with hq | hq
  · obtain ⟨its, r, pl, hz⟩ := I.list hq
    refine SeqAt.notIn_listAt (eqU x) pl.isList (fun w hw => mem_eqAt rx fx r fs w (by simpa using hw)) ⟨.bl _, H, I, rfl, ?_⟩
    rw [show its.toArray.any (eqU x) = its.any (eqU x) by simp, any_eqU r fs]
    exact q
  · obtain ⟨its, r, pl, hz⟩ := I.tuple hq
    refine SeqAt.notIn_tupleAt (eqU x) pl (fun w hw => mem_eqAt rx fx r fs w (by simpa using hw)) ⟨.bl _, H, I, rfl, ?_⟩
    rw [show its.toArray.any (eqU x) = its.any (eqU x) by simp, any_eqU r fs]
    exact q
theorem call_len_seq : CallR X (.builtin "len") (fun xs H Q => ∃ p ys, xs = [.ref p] ∧ (SqL X.K H p ys ∨ SqT X.K H p ys) ∧ Q (.int ys.length) H) := by
  intro pins s σ H xs us Q I r h
  obtain ⟨p, ys, rfl, hq, q⟩ := h
  obtain ⟨u, rfl, rx⟩ := vals1 r
  cases rx
  have hn := line63
  rcases hq with hq | hq
  · obtain ⟨its, r', pl, hz⟩ := I.list hq
    have hlen := r'.length
    exact Calls.call_len_list pl.isList (by simp only [List.size_toArray] <;> omega) ⟨.int ys.length, H, I.tok _, ⟨s.toks + 1, by rw [List.size_toArray, hlen]⟩, q⟩
  · obtain ⟨its, r', pl, hz⟩ := I.tuple hq
    have hlen := r'.length
    exact len_tuple pl (by simp only [List.size_toArray] <;> omega) ⟨.int ys.length, H, I.tok _, ⟨s.toks + 1, by rw [List.size_toArray, hlen]⟩, q⟩
theorem call_len_str : CallR X (.builtin "len") (fun xs H Q => ∃ z, xs = [.str z] ∧ z.length ≤ sizeLine ∧ Q (.int z.length) H) := by
  intro pins s σ H xs us Q I r h
  obtain ⟨z, rfl, hz, q⟩ := h
  obtain ⟨u, rfl, t, rfl⟩ := vals1 r
  have hn := line63
  exact len_str (by omega) ⟨.int z.length, H, I.tok _, ⟨_, rfl⟩, q⟩
theorem call_list_of : CallR X (.type "list") (fun xs H Q => ∃ p ys, xs = [.ref p] ∧ (SqL X.K H p ys ∨ SqT X.K H p ys) ∧ ∀ l, H l = none → Q (.ref l) (upd H l (.lst ys))) := by
  intro pins s σ H xs us Q I r h
  obtain ⟨p, ys, rfl, hq, q⟩ := h
  obtain ⟨u, rfl, rx⟩ := vals1 r
  cases rx
  have fin : ∀ (its : List Value), Vals ys its → ys.length ≤ sizeLine → ∀ (h' : Heap) (c' : Nat), (∀ b o', s.heap.get? b = some o' → h'.get? b = some o') →
      h'.get? s.heap.objs.size = some { cls := .type "list", dict := none, data := .seq its.toArray c', slots := #[] } → EP X pins σ Q (.ref s.heap.objs.size) { s with heap := h' } := fun its r' hz h' c' kp e =>
    ⟨.ref s.heap.objs.size, _, I.laid (t' := s.toks) kp (Nat.le_refl _) (show ObjOk X.prog X.w _ h' _ (.lst ys) from ⟨hz, its, c', r', e⟩), rfl, q _ (I.hok.fresh (Nat.le_refl _))⟩
  rcases hq with hq | hq
  · obtain ⟨its, r', pl, hz⟩ := I.list hq
    have hlen := r'.length
    obtain ⟨o, ho, hc, n, hd⟩ := pl.isList
    exact call_list_seq p (.inl rfl) ho hc hd (fun h' c' kp e => fin its r' hz h' c' kp e) (by simp only [List.size_toArray] <;> omega)
  · obtain ⟨its, r', pl, hz⟩ := I.tuple hq
    have hlen := r'.length
    obtain ⟨o, ho, hc, n, hd⟩ := pl
    exact call_list_seq p (.inr rfl) ho hc hd (fun h' c' kp e => fin its r' hz h' c' kp e) (by simp only [List.size_toArray] <;> omega)
noncomputable def tyV (K : PySem.W.Frag) (T : String) (x : V) (H : Hp) : Prop := match x with
  | .str _ => T = "str"
  | .int _ => T = "int"
  | .ref p => (T = "list" ∧ ∃ xs, SqL K H p xs) ∨ (T = "tuple" ∧ ∃ o, K.lookup p = some o ∧ o.cls = .type "tuple" ∧ o.dict = none) ∨
      (T = "dict" ∧ ((∃ kvs, H p = some (.dK kvs)) ∨ ∃ kvs, H p = some (.dT kvs))) ∨ (T = "set" ∧ ∃ S n, H p = some (.set S n))
  | _ => False
theorem tyV_is {pins : List (Addr × Obj)} {σ : St} {H : Hp} {s : Shared} {T : String} {x : V} {v : Value} (I : Inv X pins σ H s) (r : RelV x v) (ty : tyV X.K T x H) :
    s.TypeIs v T ∧ ∀ a, v = .ref a → ∃ ob, s.heap.get? a = some ob ∧ ob.dict = none := by
  cases x with
  | str z =>
    obtain ⟨t, rfl⟩ := r
    cases (show T = "str" from ty)
    exact ⟨typeIs_str s z t, fun _ e => nomatch e⟩
  | int i =>
    obtain ⟨t, rfl⟩ := r
    cases (show T = "int" from ty)
    exact ⟨typeIs_int s i t, fun _ e => nomatch e⟩
  | ref p =>
    cases r
    rcases ty with ⟨rfl, xs, hq⟩ | ⟨rfl, o, hk, hc, hd⟩ | ⟨rfl, hk⟩ | ⟨rfl, S, n, hk⟩
    · obtain ⟨its, _, pl, _⟩ := I.list hq
      refine ⟨pl.isList.typeIs, fun a e => ?_⟩
      cases e
      obtain ⟨o, n, e, c, hd, _⟩ := pl
      exact ⟨o, e, hd⟩
    · refine ⟨⟨o, I.kIn p o hk, hc⟩, fun a e => ?_⟩
      cases e
      exact ⟨o, I.kIn _ o hk, hd⟩
    · have z : ∃ o, s.heap.get? p = some o ∧ o.ExactDict := by
        rcases hk with ⟨kvs, hk⟩ | ⟨kvs, hk⟩
        · obtain ⟨_, _, _, _, o, _, _, e, ex, _⟩ := I.hok p _ hk
          exact ⟨o, e, ex⟩
        · obtain ⟨_, _, _, _, o, _, _, e, ex, _⟩ := I.hok p _ hk
          exact ⟨o, e, ex⟩
      obtain ⟨o, e, ex⟩ := z
      refine ⟨⟨o, e, ex.1⟩, fun a e2 => ?_⟩
      cases e2
      exact ⟨o, e, ex.2.1⟩
    · obtain ⟨o, _, _, _, e, ex, _⟩ := I.hok p _ hk
      refine ⟨⟨o, e, ex.1⟩, fun a e2 => ?_⟩
      cases e2
      exact ⟨o, e, ex.2.1⟩
  | _ => exact False.elim ty
noncomputable def tBM0 (K : PySem.W.Frag) (T : String) (r : V → List V → Hp → VK → Prop) (to : TE) : TE := fun σ H Q => to σ H fun x H1 => tyV K T x H1 ∧ r x [] H1 Q
noncomputable def tBM (K : PySem.W.Frag) (T : String) (r : V → List V → Hp → VK → Prop) (to : TE) (t : TA) : TE := fun σ H Q => to σ H fun x H1 => tyV K T x H1 ∧ t σ H1 fun xs H2 => r x xs H2 Q
variable {o e : Expr} {es : List Expr} {to : TE} {t : TA} {name : Str} {apos cpos : Pos} {T id : String} {r : V → List V → Hp → VK → Prop}
theorem pe_bm0 (pa : PlainAttrs T) (slot : Slot T name id) (hty : typeOf (.builtin id) = pure (.type "method_descriptor")) (hm : MtR X id r) (ho : PE X o to)
    (hbase : attributeBase o name X.env (eval o X.env) = eval o X.env := by rfl) (hline : (apos.endLine == cpos.line) = true := by rfl) : PE X (.Call (.Attribute o name apos) [] [] cpos) (tBM0 X.K T r to) := by
  intro pins s σ H Q I h
  refine wpAny_Call_method0_late hbase hline (thn (ho pins s σ H _ I h) fun v s1 zq186 => zq186.elim fun x zq187 => zq187.elim fun H1 zq188 => zq188.elim fun I1 zq189 => zq189.elim fun r1 zq190 => zq190.elim fun ty q1 => ?_)
  obtain ⟨h1, h2⟩ := tyV_is I1 r1 ty
  exact ⟨T, id, pa, slot, hty, h1, h2, Calls.callWith_builtin rfl (PySem.evalArgs_none (hm pins s1 σ H1 x [] v [] Q I1 r1 .nil q1))⟩
theorem pe_bm (pa : PlainAttrs T) (slot : Slot T name id) (hty : typeOf (.builtin id) = pure (.type "method_descriptor")) (hm : MtR X id r) (ho : PE X o to) (ha : PA X (e :: es) t)
    (hbase : attributeBase o name X.env (eval o X.env) = eval o X.env := by rfl)
    (hfew : ((backTo cpos (starEach (e :: es) X.env)).all (fun x => !x.1) && (backToKw cpos (keywordEach [] X.env)).all (fun x => x.1.isSome)
      && decide ((e :: es).length + ([] : List Keyword).length + (if ([] : List Keyword).isEmpty then 0 else 1) < 30)) = true := by rfl)
    (hline : (apos.endLine == cpos.line) = true := by rfl) (hs : starEach (e :: es) X.env = (false, eval e X.env) :: starEach es X.env := by rfl) (hplain : (backTo cpos (starEach es X.env)).any (·.1) = false := by rfl) :
    PE X (.Call (.Attribute o name apos) (e :: es) [] cpos) (tBM X.K T r to t) := by
  intro pins s σ H Q I h
  refine wpAny_Call_method_late hbase hfew hline rfl (thn (ho pins s σ H _ I h) fun v s1 zq191 => zq191.elim fun x zq192 => zq192.elim fun H1 zq193 => zq193.elim fun I1 zq194 => zq194.elim fun r1 zq195 => zq195.elim fun ty q1 => ?_)
  obtain ⟨h1, h2⟩ := tyV_is I1 r1 ty
  refine ⟨T, id, pa, slot, hty, h1, h2, ?_⟩
  have hA := ha cpos pins s1 σ H1 _ I1 q1
  rw [hs] at hA ⊢
  refine Calls.callWith_builtin (by show (false || (backTo cpos (starEach es X.env)).any (·.1)) = false; rw [hplain] <;> rfl) (Calls.evalArgs_plain ?_)
  exact thn hA fun us s2 zq196 => zq196.elim fun vs zq197 => zq197.elim fun H2 zq198 => zq198.elim fun I2 zq199 => zq199.elim fun r2 q2 => hm pins s2 σ H2 x vs v us Q I2 r1 r2 q2
end
end L2
namespace L2
open PySem PySem.Spec PyProof.Rows
noncomputable def MtM (X : Cx) (id : String) (r : V → List V → Hp → VK → Prop) : Prop :=
  ∀ (pins : List (Addr × Obj)) (s : Shared) (σ : St) (H : Hp) (x : V) (xs : List V) (v : Value) (us : List Value) (Q : VK), Inv X pins σ H s → RelV x v → Vals xs us → r x xs H Q →
    wpAny (model X.prog X.w) X.A (call (.builtin id) (v :: us)) (EP X pins σ Q) X.xe s
theorem Vals.one {x : V} {us : List Value} (h : Vals [x] us) : ∃ u, us = [u] ∧ RelV x u := by
  cases h with
  | cons r t =>
    cases t
    exact ⟨_, rfl, r⟩
section
variable {X : Cx} {pins : List (Addr × Obj)} {σ : St} {H : Hp} {s : Shared} {l b : Addr} {xs ys zs : List V}
theorem Inv.lset {its its' : List Value} {n : Nat} {f : Array Value → Array Value} {t' : Nat} (I : Inv X pins σ H s) (hH : H l = some (.lst xs))
    (e : s.heap.get? l = some { cls := .type "list", data := .seq its.toArray n }) (hf : f its.toArray = its'.toArray) (hv : Vals ys its') (hz : ys.length ≤ sizeLine) :
    Inv X pins σ (upd H l (.lst ys)) { s with heap := s.heap.update l (Obj.mapSeq f), toks := t' } := by
  have q := PySem.IsL.update e f
  rw [hf] at q
  refine I.write (x := l) (e := l) (by rw [hH]; exact trivial) (.inl rfl) (fun b' u hb hu => (Heap.get?_update_other s.heap (Obj.mapSeq f) (Ne.symm hb)).trans hu) ⟨_, q⟩ ?_
  exact ⟨hz, its', _, hv, q⟩
theorem Inv.lnew {its : List Value} {t' : Nat} (I : Inv X pins σ H s) (hv : Vals ys its) (hz : ys.length ≤ sizeLine) :
    Inv X pins σ (upd H s.heap.objs.size (.lst ys)) { s with heap := s.heap.push { cls := .type "list", data := .seq its.toArray }, toks := t' } :=
  I.laid (fun _ _ q => Heap.get?_push_of_some _ q) (Nat.le_refl _) ⟨hz, its, 0, hv, Heap.get?_push_size _ rfl⟩
theorem Inv.fresh (I : Inv X pins σ H s) : H s.heap.objs.size = none := I.hok.fresh (Nat.le_refl _)
theorem Inv.lstM (I : Inv X pins σ H s) (hH : H l = some (.lst xs)) : xs.length ≤ sizeLine ∧ ∃ (its : List Value) (n : Nat), Vals xs its ∧ xs.length = its.length ∧ s.heap.get? l = some { cls := .type "list", data := .seq its.toArray n } := by
  obtain ⟨z, its, n, r, e⟩ := I.hok l _ hH
  exact ⟨z, its, n, r, r.length, e⟩
theorem notLongL {n : Nat} (h : n ≤ sizeLine) : Builtin.List.listTooLong n = false := by
  unfold Builtin.List.listTooLong
  exact decide_eq_false (by omega)
end
section
variable {X : Cx}
noncomputable def rAppend : V → List V → Hp → VK → Prop := fun x vs H Q => ∃ l xs y, x = .ref l ∧ vs = [y] ∧ H l = some (.lst xs) ∧ xs.length < sizeLine ∧ Q .non (upd H l (.lst (xs ++ [y])))
theorem mt_append : MtM X "list.append" rAppend := by
  intro pins s σ H x vs v us Q I rx rv h
  obtain ⟨l, xs, y, rfl, rfl, hH, hz, q⟩ := h
  cases rx
  obtain ⟨u, rfl, ru⟩ := rv.one
  obtain ⟨z, its, n, r, hl, e⟩ := I.lstM hH
  refine call_meets F.slot_list_append ⟨_, e, rfl⟩ F.entry_list_append (F.args_list_append_2 _ _) (PySem.list_append l its.toArray n u (by rw [List.size_toArray]; omega)) ⟨e, ?_⟩
  refine ⟨.non, _, I.lset (its' := its ++ [u]) hH e (by simp) (r.append (.cons ru .nil)) ?_, rfl, q⟩
  rw [List.length_append, List.length_singleton]
  omega
noncomputable def rExtend : V → List V → Hp → VK → Prop := fun x vs H Q => ∃ l b xs zs, x = .ref l ∧ vs = [.ref b] ∧ H l = some (.lst xs) ∧ H b = some (.lst zs) ∧ xs.length + zs.length ≤ sizeLine ∧ Q .non (upd H l (.lst (xs ++ zs)))
theorem mt_extend : MtM X "list.extend" rExtend := by
  intro pins s σ H x vs v us Q I rx rv h
  obtain ⟨l, b, xs, zs, rfl, rfl, hH, hB, hz, q⟩ := h
  cases rx
  obtain ⟨u, rfl, ru⟩ := rv.one
  cases ru
  obtain ⟨z, its, n, r, hl, e⟩ := I.lstM hH
  obtain ⟨z2, its2, n2, r2, hl2, e2⟩ := I.lstM hB
  have hsz : its.toArray.size + its2.toArray.size ≤ sizeLine := by rw [List.size_toArray, List.size_toArray]; omega
  have hlong : ¬ (!its.toArray.isEmpty && Builtin.List.listTooLong (its.toArray.size + its2.toArray.size)) = true := by
    rw [notLongL hsz, Bool.and_false]
    exact Bool.false_ne_true
  refine call_meets F.slot_list_extend ⟨_, e, rfl⟩ F.entry_list_extend (F.args_list_extend_2 _ _)
    (AutoSeq1.list_extend_list_list_0 l its.toArray n b its2.toArray n2 hlong (by rw [List.size_toArray]; omega) (by omega)) ⟨e, e2, ?_⟩
  refine ⟨.non, _, I.lset (its' := its ++ its2) hH e (by simp) (r.append r2) ?_, rfl, q⟩
  rw [List.length_append]
  omega
noncomputable def rCat : R2 := fun x y H Q => ∃ l b xs zs, x = .ref l ∧ y = .ref b ∧ H l = some (.lst xs) ∧ H b = some (.lst zs) ∧ xs.length + zs.length ≤ sizeLine ∧ ∀ p, H p = none → Q (.ref p) (upd H p (.lst (xs ++ zs)))
theorem op_cat : OpR X (binaryOp .Add) rCat := by
  intro pins s σ H x y v u Q I rx ry h
  obtain ⟨l, b, xs, zs, rfl, rfl, hH, hB, hz, q⟩ := h
  cases rx
  cases ry
  obtain ⟨z, its, n, r, hl, e⟩ := I.lstM hH
  obtain ⟨z2, its2, n2, r2, hl2, e2⟩ := I.lstM hB
  refine PySem.P.add_list e e2 ?_ (by rw [List.size_toArray, List.size_toArray]; omega)
  have ea : its.toArray ++ its2.toArray = (its ++ its2).toArray := by simp
  rw [ea]
  exact ⟨.ref _, _, I.lnew (t' := s.toks) (r.append r2) (by rw [List.length_append]; omega), rfl, q _ I.fresh⟩
end
section
variable {prog : Program} {w : World} {A : Around} {E : Value → Shared → Prop} {s : Shared}
set_option maxRecDepth 100000 in
end
section
variable {X : Cx}
end
end L2
namespace L2
open PySem PySem.Spec PyProof.Rows
section
variable {κ : Type} [DecidableEq κ]
noncomputable def valV (kvs : List (κ × V)) (k : κ) : Option V := (kvs.find? fun kv => decide (kv.1 = k)).map (·.2)
noncomputable def putK (kvs : List (κ × V)) (k : κ) (v : V) : List (κ × V) :=
  if (kvs.any fun kv => decide (kv.1 = k)) = true then kvs.map (fun kv => if kv.1 = k then (kv.1, v) else kv) else kvs ++ [(k, v)]
theorem valV_pos {p : κ × V} {r : List (κ × V)} {k : κ} (e : p.1 = k) : valV (p :: r) k = some p.2 := by simp [valV, List.find?_cons, e]
theorem valV_neg {p : κ × V} {r : List (κ × V)} {k : κ} (e : ¬ p.1 = k) : valV (p :: r) k = valV r k := by simp [valV, List.find?_cons, e]
theorem valV_any (k : κ) : ∀ kvs : List (κ × V), (kvs.any fun kv => decide (kv.1 = k)) = (valV kvs k).isSome
  | [] => rfl
  | p :: r => by
    rw [List.any_cons]
    by_cases e : p.1 = k
    · simp only [valV_pos e, decide_eq_true e, Bool.true_or, Option.isSome_some]
    · rw [valV_neg e, decide_eq_false e, Bool.false_or]; exact valV_any k r
theorem valV_map (k j : κ) (y : V) : ∀ kvs : List (κ × V), valV (kvs.map fun kv => if kv.1 = k then (kv.1, y) else kv) j = (valV kvs j).map fun x => if j = k then y else x
  | [] => rfl
  | p :: r => by
    have ih := valV_map k j y r
    rw [List.map_cons]
    by_cases h : p.1 = k
    · rw [if_pos h]
      by_cases e : p.1 = j
      · rw [valV_pos (p := (p.1, y)) e, valV_pos e, Option.map_some, if_pos (e.symm.trans h)]
      · rw [valV_neg (p := (p.1, y)) e, valV_neg e, ih]
    · rw [if_neg h]
      by_cases e : p.1 = j
      · rw [valV_pos (p := p) e, valV_pos e, Option.map_some, if_neg (fun z => h (e.trans z))]
      · rw [valV_neg (p := p) e, valV_neg e, ih]
theorem valV_snoc (k j : κ) (y : V) : ∀ kvs : List (κ × V), valV kvs k = none → valV (kvs ++ [(k, y)]) j = if j = k then some y else valV kvs j
  | [], _ => by
    by_cases e : k = j
    · rw [if_pos e.symm]; exact valV_pos (p := (k, y)) e
    · rw [if_neg (fun z => e z.symm)]; exact valV_neg (p := (k, y)) e
  | p :: r, hn => by
    rw [List.cons_append]
    have hk : ¬ p.1 = k := fun z => by rw [valV_pos z] at hn; cases hn
    rw [valV_neg hk] at hn
    have ih := valV_snoc k j y r hn
    by_cases e : p.1 = j
    · rw [valV_pos e, valV_pos e, if_neg (fun z => hk (e.trans z))]
    · rw [valV_neg e, valV_neg e, ih]
theorem valV_put (kvs : List (κ × V)) (k j : κ) (y : V) : valV (putK kvs k y) j = if j = k then some y else valV kvs j := by
  unfold putK
  by_cases a : (kvs.any fun kv => decide (kv.1 = k)) = true
  · rw [if_pos a, valV_map]
    rw [valV_any] at a
    by_cases e : j = k
    · obtain ⟨x, hx⟩ := Option.isSome_iff_exists.mp a
      rw [if_pos e, e, hx, Option.map_some, if_pos rfl]
    · rw [if_neg e]
      cases valV kvs j with
      | none => rfl
      | some x => rw [Option.map_some, if_neg e]
  · rw [if_neg a]
    refine valV_snoc k j y kvs ?_
    rw [valV_any] at a
    cases q : valV kvs k with
    | none => rfl
    | some x => rw [q] at a; exact (a rfl).elim
theorem length_putK (kvs : List (κ × V)) (k : κ) (v : V) : (putK kvs k v).length ≤ kvs.length + 1 := by
  unfold putK
  split
  · rw [List.length_map]; omega
  · rw [List.length_append, List.length_cons, List.length_nil]; omega
theorem putK_new {kvs : List (κ × V)} {k : κ} (v : V) (h : valV kvs k = none) : putK kvs k v = kvs ++ [(k, v)] := by
  unfold putK
  rw [valV_any, h]
  exact if_neg (by decide)
theorem RelO.isSome_eq {o : Option V} {u : Option Value} (r : RelO o u) : o.isSome = u.isSome := by
  cases o with
  | none => cases u with
    | none => rfl
    | some _ => exact (show False from r).elim
  | some _ => cases u with
    | none => exact (show False from r).elim
    | some _ => rfl
theorem RelO.getD {o : Option V} {u : Option Value} {d : V} {d' : Value} (r : RelO o u) (rd : RelV d d') : RelV (o.getD d) (u.getD d') := by
  cases o with
  | none => cases u with
    | none => exact rd
    | some _ => exact (show False from r).elim
  | some _ => cases u with
    | none => exact (show False from r).elim
    | some _ => exact r
theorem KV.val {kvs : List (κ × V)} {vs : List (κ × Value)} (r : KV kvs vs) (k : κ) : RelO (valV kvs k) (valueAt vs k) := by
  unfold KV at r
  induction r with
  | nil => exact True.intro
  | @cons p q ps qs h t ih =>
    obtain ⟨h1, h2⟩ := h
    by_cases e : p.1 = k
    · have e' : q.1 = k := h1.symm.trans e
      have b : valueAt (q :: qs) k = some q.2 := by simp [valueAt, List.find?_cons, e']
      rw [valV_pos e, b]; exact h2
    · have e' : ¬ q.1 = k := fun z => e (h1.trans z)
      have b : valueAt (q :: qs) k = valueAt qs k := by simp [valueAt, List.find?_cons, e']
      rw [valV_neg e, b]; exact ih
theorem KV.any {kvs : List (κ × V)} {vs : List (κ × Value)} (r : KV kvs vs) (k : κ) : (kvs.any fun kv => decide (kv.1 = k)) = vs.any fun kv => decide (kv.1 = k) := by
  unfold KV at r
  induction r with
  | nil => rfl
  | cons h t ih => rw [List.any_cons, List.any_cons, ih, h.1]
theorem KV.repl {kvs : List (κ × V)} {vs : List (κ × Value)} (r : KV kvs vs) (k : κ) {y : V} {u : Value} (ry : RelV y u) :
    KV (kvs.map fun kv => if kv.1 = k then (kv.1, y) else kv) (vs.map fun kv => if kv.1 = k then (kv.1, u) else kv) := by
  unfold KV at r ⊢
  induction r with
  | nil => exact .nil
  | @cons p q ps qs h t ih =>
    rw [List.map_cons, List.map_cons]
    refine .cons ?_ ih
    obtain ⟨h1, h2⟩ := h
    by_cases e : p.1 = k
    · rw [if_pos e, if_pos (h1.symm.trans e)]; exact ⟨h1, ry⟩
    · rw [if_neg e, if_neg (fun z => e (h1.trans z))]; exact ⟨h1, h2⟩
theorem KV.put {kvs : List (κ × V)} {vs : List (κ × Value)} (r : KV kvs vs) (k : κ) {y : V} {u : Value} (ry : RelV y u) : KV (putK kvs k y) (stored vs k u) := by
  unfold putK stored
  rw [r.any k]
  by_cases e : (vs.any fun kv => decide (kv.1 = k)) = true
  · rw [if_pos e, if_pos e]; exact r.repl k ry
  · rw [if_neg e, if_neg e]; exact Paired.snoc r ⟨rfl, ry⟩
theorem KV.length {kvs : List (κ × V)} {vs : List (κ × Value)} (r : KV kvs vs) : kvs.length = vs.length := Paired.length r
end
theorem kV_is {P : Program} {w : World} {k : Key} {u : Value} (r : RelV (kV k) u) : (mixKind P w).is k u = true := by
  cases k with
  | inl i => obtain ⟨t, e⟩ := (show ∃ t, u = Value.int i t from r); subst e; exact mixKind_int P w i t
  | inr x => obtain ⟨t, e⟩ := (show ∃ t, u = Value.str x t from r); subst e; exact mixKind_str P w x t
theorem items_are {P : Program} {w : World} : ∀ {ks : List Key} {us : List Value}, Vals (ks.map kV) us → ItemsAre (mixKind P w) ks us
  | [], _, r => by rw [List.map_nil] at r; cases r; exact .nil
  | k :: ks, _, r => by
    rw [List.map_cons] at r
    cases r with
    | cons h t => exact .cons (kV_is h) (items_are t)
noncomputable abbrev KT (H : Hp) : List (List NI × V) → List (List NI × Addr × Value) → Prop := Paired fun p q => p.1 = q.1 ∧ NAt H p.1 q.2.1 ∧ RelV p.2 q.2.2
theorem KT.val {H : Hp} {kvs : List (List NI × V)} {xs : List (List NI × Addr × Value)} (r : KT H kvs xs) (k : List NI) : RelO (valV kvs k) ((atKey xs k).map (·.2)) := by
  induction r with
  | nil => exact True.intro
  | @cons p q ps qs h t ih =>
    obtain ⟨h1, _, h2⟩ := h
    by_cases e : p.1 = k
    · have e' : q.1 = k := h1.symm.trans e
      have b : atKey (q :: qs) k = some q.2 := by simp [atKey, List.find?_cons, e']
      rw [valV_pos e, b]; exact h2
    · have e' : ¬ q.1 = k := fun z => e (h1.trans z)
      have b : atKey (q :: qs) k = atKey qs k := by simp [atKey, List.find?_cons, e']
      rw [valV_neg e, b]; exact ih
theorem KT.repl {H : Hp} {kvs : List (List NI × V)} {xs : List (List NI × Addr × Value)} (r : KT H kvs xs) (k : List NI) {y : V} {u : Value} (ry : RelV y u) :
    KT H (kvs.map fun kv => if kv.1 = k then (kv.1, y) else kv) (xs.map (putAt k u)) := by
  induction r with
  | nil => exact .nil
  | @cons p q ps qs h t ih =>
    rw [List.map_cons, List.map_cons]
    refine .cons ?_ ih
    obtain ⟨h1, h2, h3⟩ := h
    unfold putAt
    by_cases e : p.1 = k
    · rw [if_pos e, if_pos (h1.symm.trans e)]; exact ⟨h1, h2, ry⟩
    · rw [if_neg e, if_neg (fun z => e (h1.trans z))]; exact ⟨h1, h2, h3⟩
theorem KT.put {H : Hp} {kvs : List (List NI × V)} {xs : List (List NI × Addr × Value)} (r : KT H kvs xs) (k : List NI) {b : Addr} {y : V} {u : Value} (hb : NAt H k b) (ry : RelV y u) :
    KT H (putK kvs k y) (storedH xs k b u) := by
  have e : (kvs.any fun kv => decide (kv.1 = k)) = (atKey xs k).isSome := by
    rw [valV_any, (r.val k).isSome_eq, Option.isSome_map]
  unfold putK storedH
  rw [e]
  by_cases q : (atKey xs k).isSome = true
  · rw [if_pos q, if_pos q]; exact r.repl k ry
  · rw [if_neg q, if_neg q]; exact Paired.snoc r ⟨rfl, hb, ry⟩
theorem KT.keeps {H H' : Hp} {kvs : List (List NI × V)} {xs : List (List NI × Addr × Value)} (r : KT H kvs xs) (ht : ∀ b ys, H b = some (.tup ys) → H' b = some (.tup ys)) : KT H' kvs xs :=
  Paired.mapP r fun _ _ z => ⟨z.1, z.2.1.keeps ht, z.2.2⟩
section
variable {P : Program} {w : World} {H : Hp} {h : Heap} {a : Addr}
theorem rd_of {u : HO} (ok : HOk P w H h) (e : Rd H a u) : ObjOk P w H h a u := e.ok ok
theorem dk_rd {kvs : List (Key × V)} (ok : HOk P w H h) (e : Rd H a (.dK kvs)) : kvs.length ≤ sizeLine ∧ (a == sysModules) = false ∧ ∃ vs, KV kvs vs ∧ h.DictOf (mixKind P w) a vs :=
  show ObjOk P w H h a (.dK kvs) from rd_of ok e
theorem dk_of {kvs : List (Key × V)} (ok : HOk P w H h) (e : H a = some (.dK kvs)) : kvs.length ≤ sizeLine ∧ (a == sysModules) = false ∧ ∃ vs, KV kvs vs ∧ h.DictOf (mixKind P w) a vs := dk_rd ok (.inl e)
theorem nitems_of {ks : List NI} {vs : List V} {us : List Value} (ok : HOk P w H h) (x : NVs H ks vs) (r : Vals vs us) : NItems P w h ks us := by
  induction x generalizing us with
  | nil => cases r; exact .nil
  | @cons i v ks vs p _ ih =>
    cases r with
    | cons rv rr =>
      refine .cons ?_ (ih rr)
      cases i with
      | inl k =>
        have p : v = kV k := p
        subst p
        exact kV_is (P := P) (w := w) rv
      | inr l =>
        obtain ⟨b, rfl, e⟩ := p
        cases rv
        obtain ⟨_, its, r2, o, h1, h2, n, h3⟩ := (show ObjOk P w H h b (.tup (l.map kV)) from ok b _ e)
        exact ⟨b, rfl, o, its.toArray, n, h1, h2, h3, by simpa using items_are r2⟩
theorem key_of {ks : List NI} (ok : HOk P w H h) (e : NAt H ks a) : (nestKind P w).is h ks a := by
  obtain ⟨vs, e, x⟩ := e
  obtain ⟨_, its, r, o, h1, h2, n, h3⟩ := (show ObjOk P w H h a (.tup vs) from ok a _ e)
  exact ⟨o, its.toArray, n, h1, h2, h3, by simpa using nitems_of ok x r⟩
theorem dt_rd {kvs : List (List NI × V)} (ok : HOk P w H h) (e : Rd H a (.dT kvs)) : kvs.length ≤ sizeLine ∧ (a == sysModules) = false ∧
    ∃ xs, KT H kvs xs ∧ h.DictOfH (nestKind P w) a xs := by
  obtain ⟨z, y, xs, r, o, es, ep, h1, h2, h3, h4, h5⟩ := (show ObjOk P w H h a (.dT kvs) from rd_of ok e)
  refine ⟨z, y, xs, r, o, es, ep, h1, h2, h3, h4, fun x hx => ?_, h5⟩
  have all : ∀ {l : List (List NI × V)} {m : List (List NI × Addr × Value)}, KT H l m → ∀ x ∈ m, (nestKind P w).is h x.1 x.2.1 := by
    intro l m q
    induction q with
    | nil => intro x hx; exact nomatch hx
    | @cons p q ps qs hq t ih =>
      intro x hx
      rcases List.mem_cons.mp hx with e | hx
      · subst e
        exact key_of ok (by rw [← hq.1]; exact hq.2.1)
      · exact ih x hx
  exact all r x hx
theorem dt_of {kvs : List (List NI × V)} (ok : HOk P w H h) (e : H a = some (.dT kvs)) : kvs.length ≤ sizeLine ∧ (a == sysModules) = false ∧
    ∃ xs, KT H kvs xs ∧ h.DictOfH (nestKind P w) a xs := dt_rd ok (.inl e)
end
noncomputable def DGet (H : Hp) (a : Addr) (y : V) (r : Option V) : Prop :=
  (∃ kvs k, Rd H a (.dK kvs) ∧ y = kV k ∧ r = valV kvs k) ∨ ∃ kvs k b, Rd H a (.dT kvs) ∧ y = .ref b ∧ NAt H k b ∧ r = valV kvs k
noncomputable def DPut (H : Hp) (a : Addr) (y v : V) (H' : Hp) : Prop :=
  (∃ kvs k, H a = some (.dK kvs) ∧ y = kV k ∧ kvs.length < sizeLine ∧ H' = upd H a (.dK (putK kvs k v))) ∨
  ∃ kvs k b, H a = some (.dT kvs) ∧ y = .ref b ∧ NAt H k b ∧ kvs.length < sizeLine ∧ H' = upd H a (.dT (putK kvs k v))
theorem DGet.k {H : Hp} {a : Addr} {kvs : List (Key × V)} {k : Key} (e : H a = some (.dK kvs)) : DGet H a (kV k) (valV kvs k) := .inl ⟨kvs, k, .inl e, rfl, rfl⟩
theorem DGet.t {H : Hp} {a b : Addr} {kvs : List (List NI × V)} {k : List NI} (e : H a = some (.dT kvs)) (eb : NAt H k b) : DGet H a (.ref b) (valV kvs k) := .inr ⟨kvs, k, b, .inl e, rfl, eb, rfl⟩
theorem DPut.k {H : Hp} {a : Addr} {kvs : List (Key × V)} {k : Key} {v : V} (e : H a = some (.dK kvs)) (hl : kvs.length < sizeLine) : DPut H a (kV k) v (upd H a (.dK (putK kvs k v))) := .inl ⟨kvs, k, e, rfl, hl, rfl⟩
theorem DPut.t {H : Hp} {a b : Addr} {kvs : List (List NI × V)} {k : List NI} {v : V} (e : H a = some (.dT kvs)) (eb : NAt H k b) (hl : kvs.length < sizeLine) :
    DPut H a (.ref b) v (upd H a (.dT (putK kvs k v))) := .inr ⟨kvs, k, b, e, rfl, eb, hl, rfl⟩
section
variable {X : Cx} {pins : List (Addr × Obj)} {σ : St} {H : Hp} {s : Shared} {a : Addr} {y v : V} {u r : Value} {o : Option V} {A : Around} {E : Value → Shared → Prop}
theorem Inv.big (I : Inv X pins σ H s) : sysModules < s.heap.objs.size := by
  have h : mainGlobals < s.heap.objs.size := (I.mod.glob.keeps I.bk).lt
  exact Nat.lt_trans (by decide) h
theorem d_getItem {Q : Value → Shared → Prop} (hu : A.units + 64 < cLine) (I : Inv X pins σ H s) (g : DGet H a y (some v)) (ry : RelV y u) (h : ∀ w' s', Inv X pins σ H s' → RelV v w' → Q w' s') :
    wpAny (model X.prog X.w) A (getItem (.ref a) u) Q E s := by
  rcases g with ⟨kvs, k, e, ey, l⟩ | ⟨kvs, k, b, e, ey, eb, l⟩
  · subst ey
    obtain ⟨z, hd, vs, rel, dd⟩ := dk_rd I.hok e
    obtain ⟨w', hw, rw'⟩ := RelO.some_of (v := v) (o := valueAt vs k) (by rw [l]; exact rel.val k)
    exact wpAny_getItem_of (kV_is ry) dd.mapOf hw (h w' _ (I.tok _) rw')
  · subst ey
    cases (show u = Value.ref b from ry)
    obtain ⟨z, hd, xs, rel, dd⟩ := dt_rd I.hok e
    obtain ⟨w', hw, rw'⟩ := RelO.some_of (v := v) (o := (atKey xs k).map (·.2)) (by rw [l]; exact rel.val k)
    obtain ⟨p, hp, hp2⟩ := Option.map_eq_some_iff.mp hw
    refine wpAny_getItem_heap (nestKind_room hu) (key_of I.hok eb) dd hp ?_
    rw [hp2]
    exact h w' _ (I.tok _) rw'
theorem d_in {Q : Value → Shared → Prop} (hu : A.units + 64 < cLine) (I : Inv X pins σ H s) (g : DGet H a y o) (ry : RelV y u) (h : ∀ s', Inv X pins σ H s' → Q (.bool o.isSome) s') :
    wpAny (model X.prog X.w) A (compareOp .In u (.ref a)) Q E s := by
  rcases g with ⟨kvs, k, e, ey, l⟩ | ⟨kvs, k, b, e, ey, eb, l⟩
  · subst ey
    obtain ⟨z, hd, vs, rel, dd⟩ := dk_rd I.hok e
    refine wpAny_in_of (kV_is ry) hd dd.mapOf ?_
    rw [← (rel.val k).isSome_eq, ← l]
    exact h _ (I.tok _)
  · subst ey
    cases (show u = Value.ref b from ry)
    obtain ⟨z, hd, xs, rel, dd⟩ := dt_rd I.hok e
    refine wpAny_in_heap (nestKind_room hu) (key_of I.hok eb) hd dd ?_
    have q := (rel.val k).isSome_eq
    rw [Option.isSome_map] at q
    rw [← q, ← l]
    exact h _ (I.tok _)
theorem d_notIn {Q : Value → Shared → Prop} (hu : A.units + 64 < cLine) (I : Inv X pins σ H s) (g : DGet H a y o) (ry : RelV y u) (h : ∀ s', Inv X pins σ H s' → Q (.bool (!o.isSome)) s') :
    wpAny (model X.prog X.w) A (compareOp .NotIn u (.ref a)) Q E s := by
  rcases g with ⟨kvs, k, e, ey, l⟩ | ⟨kvs, k, b, e, ey, eb, l⟩
  · subst ey
    obtain ⟨z, hd, vs, rel, dd⟩ := dk_rd I.hok e
    refine wpAny_notIn_of (kV_is ry) hd dd.mapOf ?_
    rw [← (rel.val k).isSome_eq, ← l]
    exact h _ (I.tok _)
  · subst ey
    cases (show u = Value.ref b from ry)
    obtain ⟨z, hd, xs, rel, dd⟩ := dt_rd I.hok e
    refine wpAny_notIn_heap (nestKind_room hu) (key_of I.hok eb) hd dd ?_
    have q := (rel.val k).isSome_eq
    rw [Option.isSome_map] at q
    rw [← q, ← l]
    exact h _ (I.tok _)
theorem d_write {h' : Heap} {t' : Nat} {ob : HO} (I : Inv X pins σ H s) (mu : Mut (H a)) (hs : Heap.SameBut a s.heap h') (he : ∃ q, h'.get? a = some q) (new : ObjOk X.prog X.w (upd H a ob) h' a ob) :
    Inv X pins σ (upd H a ob) { s with heap := h', toks := t' } :=
  I.write (x := a) (e := a) mu (.inl rfl) (fun b q hb z => (hs.2 b hb).trans z) he new
theorem dk_new {P : Program} {w : World} {H' : Hp} {h' : Heap} {kvs : List (Key × V)} {vs : List (Key × Value)} (z : kvs.length ≤ sizeLine) (hd : (a == sysModules) = false) (rel : KV kvs vs) (dd : h'.DictOf (mixKind P w) a vs) :
    ObjOk P w H' h' a (.dK kvs) := ⟨z, hd, vs, rel, dd⟩
theorem d_setItem {H' : Hp} {Q : Unit → Shared → Prop} (hu : A.units + 64 < cLine) (I : Inv X pins σ H s) (g : DPut H a y v H') (ry : RelV y u) (rv : RelV v r) (h : ∀ s', Inv X pins σ H' s' → Q () s') :
    wpAny (model X.prog X.w) A (setItem (.ref a) u r) Q E s := by
  rcases g with ⟨kvs, k, e, ey, l, eH⟩ | ⟨kvs, k, b, e, ey, eb, l, eH⟩
  · subst ey eH
    obtain ⟨z, hd, vs, rel, dd⟩ := dk_of I.hok e
    have hz : vs.length ≤ sizeLine := by rw [← rel.length]; exact z
    have hl : (putK kvs k v).length ≤ sizeLine := by have := length_putK kvs k v; omega
    refine wpAny_setItem_pairs (hsz := hz) (kV_is ry) dd fun h' dd' hs => h _ ?_
    have he : ∃ q, h'.get? a = some q := dd'.elim fun q zq457 => zq457.elim fun _ zq458 => zq458.elim fun _ zq459 => zq459.elim fun hq _ => ⟨q, hq⟩
    exact d_write I (by rw [e]; exact True.intro) hs he (dk_new hl hd (rel.put k rv) dd')
  · subst ey eH
    cases (show u = Value.ref b from ry)
    obtain ⟨z, hd, xs, rel, dd⟩ := dt_of I.hok e
    have hz : xs.length ≤ sizeLine := by rw [← Paired.length rel]; exact z
    have hl : (putK kvs k v).length ≤ sizeLine := by have := length_putK kvs k v; omega
    refine wpAny_setItem_heap (hsz := hz) (nestKind_room hu) (key_of I.hok eb) dd fun h' dd' hs => h _ ?_
    obtain ⟨q, es, ep, hq, h2, h3, h4, _, h5⟩ := dd'
    refine d_write I (by rw [e]; exact True.intro) hs ⟨q, hq⟩ ⟨hl, hd, _, (rel.put k eb rv).keeps fun c ys ec => ?_, q, es, ep, hq, h2, h3, h4, h5⟩
    rw [upd_ne (ne_of ec e (fun z => nomatch z))]
    exact ec
end
section
variable {X : Cx} {pins : List (Addr × Obj)} {σ : St} {H : Hp} {s : Shared} {a : Addr} {kvs : List (Key × V)} {k : Key} {u : Value} {A : Around} {E : Value → Shared → Prop}
theorem d_clear {Q : Value → Shared → Prop} (I : Inv X pins σ H s) (e : H a = some (.dK kvs)) (h : ∀ s', Inv X pins σ (upd H a (.dK [])) s' → Q .none s') : wpAny (model X.prog X.w) A (call (.builtin "dict.clear") [.ref a]) Q E s := by
  obtain ⟨z, hd, vs, rel, dd⟩ := dk_of I.hok e
  refine call_meetsIn PySem.F.slot_dict_clear dd.typeIs PySem.F.entry_dict_clear (PySem.F.args_dict_clear_1 _) (meets_dict_clear (mixKind X.prog X.w) a) ⟨vs, dd, by rw [← rel.length]; exact z, fun h' dd' hs => h _ ?_⟩
  have he : ∃ q, h'.get? a = some q := dd'.elim fun q zq460 => zq460.elim fun _ zq461 => zq461.elim fun _ zq462 => zq462.elim fun hq _ => ⟨q, hq⟩
  exact d_write (t' := s.toks) I (by rw [e]; exact True.intro) hs he (dk_new (Nat.zero_le _) hd .nil dd')
end
noncomputable def NoSl (i : Expr) : Prop := ∀ ov iv, subscripted i false ov iv = operate [ov, iv] (getItem ov iv)
theorem subD_of {prog : Program} {w : World} {A : Around} {E : Value → Shared → Prop} {s : Shared} {env : Env} {value slice : Expr} {pos : Pos} {T id : String} {Q : Value → Shared → Prop}
    (hl : typeLookup (.type T) "__getitem__" = pure (some (.builtin id))) (hs : NoSl slice)
    (h : wpAny (model prog w) A (eval value env) (fun o s₁ => wpAny (model prog w) A (eval slice env) (fun i s₂ => s₂.TypeIs o T ∧ wpAny (model prog w) A (getItem o i) Q E s₂) E s₁) E s) :
    wpAny (model prog w) A (eval (.Subscript value slice pos) env) Q E s := by
  refine Subscript_ (wpAny_mono h (fun o s₁ h₁ => wpAny_mono h₁ (fun i s₂ h₂ => ?_) fun _ _ x => x) fun _ _ x => x)
  obtain ⟨hT, h₂⟩ := h₂
  unfold subscriptTail
  refine wpAny_bind ?_
  rw [getitemInPython_of_ne hT.not_modules]
  refine wpAny_bind (wpAny_specialOf hT hl ?_)
  have fin : wpAny (model prog w) A (subscripted slice false o i) (fun r s₃ => wpAny (model prog w) A (letTemporaryGo value o r >>= fun _ => pure r) Q E s₃) E s₂ := by
    rw [hs o i]
    exact wpAny_operating (wpAny_mono h₂ (fun r s₃ h₃ => wpAny_bind (wpAny_letTemporaryGo (wpAny_pure h₃))) fun _ _ x => x)
  first
    | exact wpAny_pure (wpAny_bind fin)
    | exact wpAny_bind (wpAny_pure (wpAny_bind fin))
    | exact wpAny_bind fin
theorem dict_typeIs {X : Cx} {pins : List (Addr × Obj)} {σ : St} {H : Hp} {s : Shared} {a : Addr} {y : V} {o : Option V} (I : Inv X pins σ H s) (g : DGet H a y o) : s.TypeIs (.ref a) "dict" := by
  rcases g with ⟨kvs, k, e, _, _⟩ | ⟨kvs, k, b, e, _, _, _⟩
  · obtain ⟨_, _, vs, _, dd⟩ := dk_rd I.hok e
    exact dd.typeIs
  · obtain ⟨_, _, xs, _, dd⟩ := dt_rd I.hok e
    exact dd.typeIs
noncomputable def tDGet (td ty : TE) : TE := fun σ H Q => td σ H fun x H1 => ty σ H1 fun y H2 => ∃ a v, x = .ref a ∧ DGet H2 a y (some v) ∧ Q v H2
noncomputable def tDIn (ty td : TE) : TE := fun σ H Q => ty σ H fun y H1 => td σ H1 fun x H2 => ∃ a o, x = .ref a ∧ DGet H2 a y o ∧ Q (.bl o.isSome) H2
noncomputable def tDNotIn (ty td : TE) : TE := fun σ H Q => ty σ H fun y H1 => td σ H1 fun x H2 => ∃ a o, x = .ref a ∧ DGet H2 a y o ∧ Q (.bl (!o.isSome)) H2
noncomputable def sDPut (td ty tv : TE) : TS := fun D σ H => tv σ H fun v H1 => td σ H1 fun x H2 => ty σ H2 fun y H3 => ∃ a H4, x = .ref a ∧ DPut H3 a y v H4 ∧ D.nx σ H4
section
variable {X : Cx} {o i e value : Expr} {pos pos' tpos : Pos} {td ty tv : TE}
theorem pe_dget (hu : X.A.units + 64 < cLine) (ho : PE X o td) (hi : PE X i ty) (hs : NoSl i) : PE X (.Subscript o i pos) (tDGet td ty) := by
  intro pins s σ H Q I h
  refine subD_of PySem.F.slot_dict_getitem.lookup hs (thn (ho pins s σ H _ I h) fun u s1 zq200 => zq200.elim fun x zq201 => zq201.elim fun H1 zq202 => zq202.elim fun I1 zq203 => zq203.elim fun rx q1 => thn (hi pins s1 σ H1 _ I1 q1) fun iv s2 zq204 => zq204.elim fun y zq205 => zq205.elim fun H2 zq206 => zq206.elim fun I2 zq207 => zq207.elim fun ry zq208 => zq208.elim fun a zq209 => zq209.elim fun v zq210 => zq210.elim fun ex zq211 => zq211.elim fun g q2 => ?_)
  subst ex
  obtain rfl : u = Value.ref a := rx
  exact ⟨dict_typeIs I2 g, d_getItem hu I2 g ry fun w' s3 I3 rw' => ⟨v, H2, I3, rw', q2⟩⟩
theorem pc_din (hu : X.A.units + 64 < cLine) (hi : PE X i ty) (ho : PE X o td) : PC X .In i o (tDIn ty td) := by
  intro pins s σ H Q I h
  refine thn (hi pins s σ H _ I h) fun iv s1 zq212 => zq212.elim fun y zq213 => zq213.elim fun H1 zq214 => zq214.elim fun I1 zq215 => zq215.elim fun ry q1 => thn (ho pins s1 σ H1 _ I1 q1) fun u s2 zq216 => zq216.elim fun x zq217 => zq217.elim fun H2 zq218 => zq218.elim fun I2 zq219 => zq219.elim fun rx zq220 => zq220.elim fun a zq221 => zq221.elim fun ov zq222 => zq222.elim fun ex zq223 => zq223.elim fun g q2 => ?_
  subst ex
  obtain rfl : u = Value.ref a := rx
  exact d_in hu I2 g ry fun s3 I3 => ⟨.bl ov.isSome, H2, I3, rfl, q2⟩
theorem pc_dnotin (hu : X.A.units + 64 < cLine) (hi : PE X i ty) (ho : PE X o td) : PC X .NotIn i o (tDNotIn ty td) := by
  intro pins s σ H Q I h
  refine thn (hi pins s σ H _ I h) fun iv s1 zq224 => zq224.elim fun y zq225 => zq225.elim fun H1 zq226 => zq226.elim fun I1 zq227 => zq227.elim fun ry q1 => thn (ho pins s1 σ H1 _ I1 q1) fun u s2 zq228 => zq228.elim fun x zq229 => zq229.elim fun H2 zq230 => zq230.elim fun I2 zq231 => zq231.elim fun rx zq232 => zq232.elim fun a zq233 => zq233.elim fun ov zq234 => zq234.elim fun ex zq235 => zq235.elim fun g q2 => ?_
  subst ex
  obtain rfl : u = Value.ref a := rx
  exact d_notIn hu I2 g ry fun s3 I3 => ⟨.bl (!ov.isSome), H2, I3, rfl, q2⟩
theorem ps_dput (hu : X.A.units + 64 < cLine) (ho : PE X o td) (hi : PE X i ty) (hv : PE X value tv) (hs : swapsWith value (some (.Subscript o i pos')) pos.line X.env = pure false) :
    PS X (.Assign [.Subscript o i pos'] value pos) (sDPut td ty tv) := by
  intro pins s σ H D I h
  refine wpAny_Assign_Subscript (thn (hv pins s σ H _ I h) fun r s1 zq236 => zq236.elim fun v zq237 => zq237.elim fun H1 zq238 => zq238.elim fun I1 zq239 => zq239.elim fun rv q1 => thn (ho pins s1 σ H1 _ I1 q1) fun u s2 zq240 => zq240.elim fun x zq241 => zq241.elim fun H2 zq242 => zq242.elim fun I2 zq243 => zq243.elim fun rx q2 => thn (hi pins s2 σ H2 _ I2 q2) fun iv s3 zq244 => zq244.elim fun y zq245 => zq245.elim fun H3 zq246 => zq246.elim fun I3 zq247 => zq247.elim fun ry zq248 => zq248.elim fun a zq249 => zq249.elim fun H4 zq250 => zq250.elim fun ex zq251 => zq251.elim fun g q3 => ?_) hs
  subst ex
  obtain rfl : u = Value.ref a := rx
  exact d_setItem hu I3 g ry rv fun s4 I4 => ⟨σ, H4, I4, q3⟩
end
theorem dk_empty {P : Program} {w : World} {H : Hp} (h : Heap) (hb : sysModules < h.objs.size) : ObjOk P w H (h.push { cls := .type "dict", data := .dict #[] }) h.objs.size (.dK []) :=
  ⟨Nat.zero_le _, beq_eq_false_iff_ne.mpr (Ne.symm (Nat.ne_of_lt hb)), [], .nil, Heap.DictOf.new h⟩
theorem dt_empty {P : Program} {w : World} {H : Hp} (h : Heap) (hb : sysModules < h.objs.size) : ObjOk P w H (h.push { cls := .type "dict", data := .dict #[] }) h.objs.size (.dT []) :=
  ⟨Nat.zero_le _, beq_eq_false_iff_ne.mpr (Ne.symm (Nat.ne_of_lt hb)), [], .nil, _, #[], 0, Heap.get?_push_size _ rfl, ⟨rfl, rfl, rfl⟩, rfl, rfl, List.nodup_nil⟩
noncomputable def tDNewK : TE := fun _ H Q => ∀ p, H p = none → Q (.ref p) (upd H p (.dK []))
noncomputable def tDNewT : TE := fun _ H Q => ∀ p, H p = none → Q (.ref p) (upd H p (.dT []))
section
variable {X : Cx} {pos : Pos}
theorem pe_dnewK : PE X (.Dict [] [] pos) tDNewK := fun pins s σ H Q I h =>
  wpAny_Dict_empty ⟨.ref s.heap.objs.size, _, I.laid (a := s.heap.objs.size) (o := .dK []) (t' := s.toks) (fun _ _ q => Heap.get?_push_of_some _ q) (Nat.le_refl _) (dk_empty s.heap I.big), rfl, h _ (I.hok.fresh (Nat.le_refl _))⟩
theorem pe_dnewT : PE X (.Dict [] [] pos) tDNewT := fun pins s σ H Q I h =>
  wpAny_Dict_empty ⟨.ref s.heap.objs.size, _, I.laid (a := s.heap.objs.size) (o := .dT []) (t' := s.toks) (fun _ _ q => Heap.get?_push_of_some _ q) (Nat.le_refl _) (dt_empty s.heap I.big), rfl, h _ (I.hok.fresh (Nat.le_refl _))⟩
end
structure M1 (X : Cx) (o : Expr) (m : Str) (apos : Pos) (e : Expr) (cpos : Pos) : Prop where
  base : attributeBase o m X.env (eval o X.env) = eval o X.env
  few : ((backTo cpos (starEach [e] X.env)).all (fun x => !x.1) && (backToKw cpos (keywordEach [] X.env)).all (fun x => x.1.isSome)
    && decide (([e] : List Expr).length + ([] : List Keyword).length + (if ([] : List Keyword).isEmpty then 0 else 1) < 30)) = true
  line : (apos.endLine == cpos.line) = true
  trees : backTo cpos (starEach [e] X.env) = [(false, eval e X.env)]
structure M2 (X : Cx) (o : Expr) (m : Str) (apos : Pos) (e f : Expr) (cpos : Pos) : Prop where
  base : attributeBase o m X.env (eval o X.env) = eval o X.env
  few : ((backTo cpos (starEach [e, f] X.env)).all (fun x => !x.1) && (backToKw cpos (keywordEach [] X.env)).all (fun x => x.1.isSome)
    && decide (([e, f] : List Expr).length + ([] : List Keyword).length + (if ([] : List Keyword).isEmpty then 0 else 1) < 30)) = true
  line : (apos.endLine == cpos.line) = true
  trees : backTo cpos (starEach [e, f] X.env) = [(false, eval e X.env), (false, eval f X.env)]
noncomputable def IsD (H : Hp) (a : Addr) : Prop := (∃ kvs, Rd H a (.dK kvs)) ∨ ∃ kvs, Rd H a (.dT kvs)
theorem isD_at {X : Cx} {pins : List (Addr × Obj)} {σ : St} {H : Hp} {s : Shared} {a : Addr} (I : Inv X pins σ H s) (d : IsD H a) :
    s.TypeIs (.ref a) "dict" ∧ (∀ b, Value.ref a = .ref b → ∃ ob, s.heap.get? b = some ob ∧ ob.dict = none) ∧ (a == sysModules) = false := by
  rcases d with ⟨kvs, e⟩ | ⟨kvs, e⟩
  · obtain ⟨_, hd, vs, _, dd⟩ := dk_rd I.hok e
    refine ⟨dd.typeIs, fun b q => ?_, hd⟩
    cases q
    obtain ⟨ob, _, _, h1, h2, _⟩ := dd
    exact ⟨ob, h1, h2.2.1⟩
  · obtain ⟨_, hd, xs, _, dd⟩ := dt_rd I.hok e
    refine ⟨dd.typeIs, fun b q => ?_, hd⟩
    cases q
    obtain ⟨ob, _, _, h1, h2, _⟩ := dd
    exact ⟨ob, h1, h2.2.1⟩
section
variable {X : Cx} {pins : List (Addr × Obj)} {σ : St} {H : Hp} {s : Shared} {a : Addr} {y d : V} {u r : Value} {o : Option V} {A : Around} {E : Value → Shared → Prop}
theorem d_get1 {Q : Value → Shared → Prop} (hu : A.units + 64 < cLine) (I : Inv X pins σ H s) (g : DGet H a y o) (ry : RelV y u) (h : ∀ w' s', Inv X pins σ H s' → RelV (o.getD .non) w' → Q w' s') :
    wpAny (model X.prog X.w) A (call (.builtin "dict.get") [.ref a, u]) Q E s := by
  rcases g with ⟨kvs, k, e, ey, l⟩ | ⟨kvs, k, b, e, ey, eb, l⟩
  · subst ey
    obtain ⟨z, hd, vs, rel, dd⟩ := dk_rd I.hok e
    refine call_meetsIn PySem.F.slot_dict_get dd.typeIs PySem.F.entry_dict_get (PySem.F.args_dict_get_2 _ _) (meets_dict_get (mixKind X.prog X.w) a (kV_is ry) hd) ⟨_, dd.mapOf, h _ _ (I.tok _) ?_⟩
    rw [l]
    exact (rel.val k).getD rfl
  · subst ey
    cases (show u = Value.ref b from ry)
    obtain ⟨z, hd, xs, rel, dd⟩ := dt_rd I.hok e
    refine call_meetsIn PySem.F.slot_dict_get dd.typeIs PySem.F.entry_dict_get (PySem.F.args_dict_get_2 _ _) (meetsH_dict_get (nestKind X.prog X.w) a b hd) ⟨nestKind_room hu, k, xs, key_of I.hok eb, dd, h _ _ (I.tok _) ?_⟩
    rw [l]
    exact (rel.val k).getD rfl
theorem d_get2 {Q : Value → Shared → Prop} (hu : A.units + 64 < cLine) (I : Inv X pins σ H s) (g : DGet H a y o) (ry : RelV y u) (rd : RelV d r) (h : ∀ w' s', Inv X pins σ H s' → RelV (o.getD d) w' → Q w' s') :
    wpAny (model X.prog X.w) A (call (.builtin "dict.get") [.ref a, u, r]) Q E s := by
  rcases g with ⟨kvs, k, e, ey, l⟩ | ⟨kvs, k, b, e, ey, eb, l⟩
  · subst ey
    obtain ⟨z, hd, vs, rel, dd⟩ := dk_rd I.hok e
    refine call_meetsIn PySem.F.slot_dict_get dd.typeIs PySem.F.entry_dict_get (PySem.F.args_dict_get_3 _ _ _) (meets_dict_get_default (mixKind X.prog X.w) a (kV_is ry) hd r) ⟨_, dd.mapOf, h _ _ (I.tok _) ?_⟩
    rw [l]
    exact (rel.val k).getD rd
  · subst ey
    cases (show u = Value.ref b from ry)
    obtain ⟨z, hd, xs, rel, dd⟩ := dt_rd I.hok e
    refine call_meetsIn PySem.F.slot_dict_get dd.typeIs PySem.F.entry_dict_get (PySem.F.args_dict_get_3 _ _ _) (meetsH_dict_get_default (nestKind X.prog X.w) a b hd r) ⟨nestKind_room hu, k, xs, key_of I.hok eb, dd, h _ _ (I.tok _) ?_⟩
    rw [l]
    exact (rel.val k).getD rd
end
noncomputable def tDGet1 (td ty : TE) : TE := fun σ H Q => td σ H fun x H1 => ∃ a, x = .ref a ∧ IsD H1 a ∧ ty σ H1 fun y H2 => ∃ o, DGet H2 a y o ∧ Q (o.getD .non) H2
noncomputable def tDGet2 (td ty tx : TE) : TE := fun σ H Q => td σ H fun x H1 => ∃ a, x = .ref a ∧ IsD H1 a ∧ ty σ H1 fun y H2 => tx σ H2 fun z H3 => ∃ o, DGet H3 a y o ∧ Q (o.getD z) H3
section
variable {X : Cx} {o e f : Expr} {apos cpos : Pos} {td ty tx : TE}
theorem pe_dget1 (hu : X.A.units + 64 < cLine) (ho : PE X o td) (he : PE X e ty) (m : M1 X o "get" apos e cpos) : PE X (.Call (.Attribute o "get" apos) [e] [] cpos) (tDGet1 td ty) := by
  intro pins s σ H Q I h
  refine wpAny_Call_method m.base m.few m.line PySem.F.plainAttrs_dict PySem.F.slot_dict_get PySem.F.type_dict_get (thn (ho pins s σ H _ I h) fun u s1 zq252 => zq252.elim fun x zq253 => zq253.elim fun H1 zq254 => zq254.elim fun I1 zq255 => zq255.elim fun rx zq256 => zq256.elim fun a zq257 => zq257.elim fun ex zq258 => zq258.elim fun d q1 => ?_)
  subst ex
  obtain rfl : u = Value.ref a := rx
  obtain ⟨t1, t2, _⟩ := isD_at I1 d
  refine ⟨t1, t2, ?_⟩
  rw [m.trees]
  refine Calls.callWith_builtin rfl (Calls.evalArgs_plain (Calls.spliced_cons (thn (he pins s1 σ H1 _ I1 q1) fun iv s2 zq259 => zq259.elim fun y zq260 => zq260.elim fun H2 zq261 => zq261.elim fun I2 zq262 => zq262.elim fun ry zq263 => zq263.elim fun ov zq264 => zq264.elim fun g q2 => Calls.spliced_nil ?_)))
  exact d_get1 hu I2 g ry fun w' s3 I3 rw' => ⟨_, H2, I3, rw', q2⟩
theorem pe_dget2 (hu : X.A.units + 64 < cLine) (ho : PE X o td) (he : PE X e ty) (hf : PE X f tx) (m : M2 X o "get" apos e f cpos) : PE X (.Call (.Attribute o "get" apos) [e, f] [] cpos) (tDGet2 td ty tx) := by
  intro pins s σ H Q I h
  refine wpAny_Call_method m.base m.few m.line PySem.F.plainAttrs_dict PySem.F.slot_dict_get PySem.F.type_dict_get (thn (ho pins s σ H _ I h) fun u s1 zq265 => zq265.elim fun x zq266 => zq266.elim fun H1 zq267 => zq267.elim fun I1 zq268 => zq268.elim fun rx zq269 => zq269.elim fun a zq270 => zq270.elim fun ex zq271 => zq271.elim fun d q1 => ?_)
  subst ex
  obtain rfl : u = Value.ref a := rx
  obtain ⟨t1, t2, _⟩ := isD_at I1 d
  refine ⟨t1, t2, ?_⟩
  rw [m.trees]
  refine Calls.callWith_builtin rfl (Calls.evalArgs_plain (Calls.spliced_cons (thn (he pins s1 σ H1 _ I1 q1) fun iv s2 zq272 => zq272.elim fun y zq273 => zq273.elim fun H2 zq274 => zq274.elim fun I2 zq275 => zq275.elim fun ry q2 => 
    Calls.spliced_cons (thn (hf pins s2 σ H2 _ I2 q2) fun fv s3 zq276 => zq276.elim fun z zq277 => zq277.elim fun H3 zq278 => zq278.elim fun I3 zq279 => zq279.elim fun rz zq280 => zq280.elim fun ov zq281 => zq281.elim fun g q3 => Calls.spliced_nil ?_))))
  exact d_get2 hu I3 g ry rz fun w' s4 I4 rw' => ⟨_, H3, I4, rw', q3⟩
end
section
variable {X : Cx} {pins : List (Addr × Obj)} {σ : St} {H : Hp} {s : Shared} {a : Addr} {kvs : List (Key × V)} {A : Around} {E : Value → Shared → Prop}
theorem d_copyOf {Q : Value → Shared → Prop} (I : Inv X pins σ H s) (e : Rd H a (.dK kvs)) (h : ∀ p s', H p = none → Inv X pins σ (upd H p (.dK kvs)) s' → Q (.ref p) s') : wpAny (model X.prog X.w) A (call (.type "dict") [.ref a]) Q E s := by
  obtain ⟨z, hd, vs, rel, dd⟩ := dk_rd I.hok e
  refine kt_call_dict hd dd (by rw [← rel.length]; exact z) fun h' dd' hs => ?_
  refine h _ _ (I.hok.fresh (Nat.le_refl _)) (I.laid (a := s.heap.objs.size) (o := .dK kvs) (t' := s.toks) (fun b q hq => ?_) (Nat.le_refl _) (dk_new z (beq_eq_false_iff_ne.mpr (Ne.symm (Nat.ne_of_lt I.big))) rel dd'))
  exact (hs.2 b (Nat.ne_of_lt (Heap.lt_size hq))).trans (Heap.get?_push_of_some _ hq)
end
section
variable {X : Cx} {pins : List (Addr × Obj)} {σ : St} {H : Hp} {s : Shared} {a : Addr} {y : V} {u : Value} {A : Around} {E : Value → Shared → Prop}
end
end L2
namespace Att
open PySem PySem.W PySem.Calls PyProof.Rows
theorem ints_of_wellAll {P : Params} {h : Heap} : ∀ (ns : List Int) (vs : List Value), WellAll P h vs (ns.map WData.int) → IntsAre vs ns := by
  intro ns
  induction ns with
  | nil =>
    intro vs w
    rw [List.map_nil] at w
    cases w
    exact .nil
  | cons n ns ih =>
    intro vs w
    rw [List.map_cons] at w
    cases w with
    | cons a b =>
      cases a
      exact .cons _ _ (ih _ b)
theorem script_of {l : OpenLaw} {n : Nat} (hn : l.most = some n) {P : Params} {h : Heap} {args : List WData} {vals : List Value}
    (hpre : l.row.toRowW.claim.pre args = true) (hwl : WellAll P h vals args) :
    ∃ a vs ns, vals = [Value.ref a] ∧ args = [WData.list (ns.map WData.int)] ∧ h.get? a = some { cls := .type "list", data := .seq vs.toArray } ∧ IntsAre vs ns ∧ ns.length ≤ n := by
  have hsh : WShape.hasAll [] args [.list .int] = true := (pre_splitW hpre).1
  have hc : l.pre.holds [] { args := args } = true := (pre_splitW hpre).2
  obtain ⟨d, r, rfl, h1, h2⟩ := hasAllW_cons hsh
  obtain rfl := hasAllW_nil h2
  obtain ⟨xs, rfl, h3⟩ := hasW_list h1
  obtain ⟨ns, rfl⟩ := items_int h3
  have hlen : ns.length ≤ n := by
    unfold OpenLaw.pre at hc
    have h4 : (WTm.not (.lt (.lit (.int (n : Int))) (.len (.arg 0)))).holds [] { args := [.list (ns.map .int)] } = true := by
      have h4 := (holds_andW hc).1
      rw [hn] at h4
      exact h4
    have h5 := condW_of h4 (w_not (w_lt w_lit (w_len_list (w_arg rfl))))
    rw [List.length_map] at h5
    refine Nat.le_of_not_lt fun q => ?_
    have q' : (n : Int) < ((ns.length : Nat) : Int) := by omega
    first
      | (rw [decide_eq_true q'] at h5; exact absurd h5 (by decide))
      | (simp at h5; omega)
  cases hwl with
  | cons w1 w2 =>
    cases w2
    cases w1 with
    | list ho hall => exact ⟨_, _, ns, rfl, rfl, ho, ints_of_wellAll ns _ hall, hlen⟩
theorem post_true (l : OpenLaw) (args : List WData) : l.row.toRowW.claim.post args (.bool true) args = true :=
  postW_of (r := l.row.toRowW) (X := (true == true))
    (show WShape.has [] (.bool true) .bool = true by first | rfl | decide | simp [WShape.has, WShape.arms, WShape.armsAll])
    (show (WTm.eq .res (.lit (.bool true))).value [] { args := args, res := some (.bool true), after := args } = some (.bool (true == true)) from w_eq_bool (w_res rfl) w_lit) rfl
theorem attach_call {l : OpenLaw} {n : Nat} {q : Program} {loose : List Str} {XP : (Str → Option Value) → Heap → Prop} {YP : World → Heap → Prop} {d : DefRec}
    (hn : l.most = some n) (hdf : d.params.defaults = [])
    (call : ∀ (w : World) (s₀ s₁ : Shared) (mg mb : Str → Option Value) (fa : Addr) (o : Obj) (pm cd doc : Value) (a : Addr) (vs : List Value) (ns : List Int),
      Ground q loose [] XP w s₀ mg mb s₁.heap → YP w s₁.heap →
      s₁.heap.get? fa = some o → o.data = .func (docDef d.name d.params d.body d.scope pm cd doc) → s₁.heap.CodeRec cd d.name → mg d.name = some (.ref fa) →
      s₁.heap.get? a = some { cls := .type "list", data := .seq vs.toArray } → IntsAre vs ns → ns.length ≤ n → s₁.gens = #[] →
      codeAny (model l.prog w) callerA (.call (.ref fa) ⟨[.ref a], []⟩) (fun r s' => r = .ok (.ret (.bool true)) ∧ OldK s₁.heap s'.heap ∧ s'.os = s₁.os ∧ AllBare s'.gens) s₁) :
    WalkO q loose XP YP l.row.toRowW d [] (fun f vs => PySem.call f vs) := by
  intro w s₀ s₁ mg mb G Y fa o pm cd doc dV kV ho hd hcd hD hmg hg args vals as hpre hlay hrd hwl hlo
  obtain rfl : dV = .none := Dflts.none hD hdf
  obtain rfl : kV = .none := Dflts.noKw hD
  obtain ⟨a, vs, ns, rfl, rfl, hobj, hints, hlen⟩ := script_of hn hpre hwl
  refine enter_call (codeAny_mono (call w s₀ s₁ mg mb fa o pm cd doc a vs ns G Y ho (fd_plain hd) hcd hmg hobj hints hlen hg) fun r s' hq => ?_)
  obtain ⟨rfl, h2, h3, h4⟩ := hq
  exact ⟨.inl ⟨.bool true, .bool true, [], rfl, fun _ => rfl, .bool true, post_true l _, fun _ => ⟨List.Pairwise.nil, fun _ hm => (nomatch hm)⟩⟩, h2, h3, h4⟩
section
variable {prog : Program} {w : World} {A : Around} {E : Value → Shared → Prop} {s : Shared} {K : Frag}
end
end Att
namespace L2
open PySem PySem.Spec PyProof.Rows
theorem vals_ints : ∀ {vs : List Value} {ns : List Int}, IntsAre vs ns → Vals (ns.map V.int) vs
  | _, _, .nil => .nil
  | _, _, .cons n t h => .cons ⟨t, rfl⟩ (vals_ints h)
end L2
namespace L2
open PySem PySem.Spec PyProof.Rows
end L2
namespace L2
open PySem PySem.Spec PyProof.Rows
noncomputable def inClass (s : Stmt) (j : Nat) : Stmt := match s with
  | .ClassDef _ _ _ body _ _ _ _ _ _ _ => body.getD j (.Pass ⟨0, 0, 0, 0⟩)
  | _ => .Pass ⟨0, 0, 0, 0⟩
noncomputable def defArgs (s : Stmt) : Arguments := match s with
  | .FunctionDef _ a _ _ _ _ _ _ _ _ => a
  | _ => { posonlyargs := [], args := [], vararg := none, kwonlyargs := [], kw_defaults := [], kwarg := none, defaults := [] }
noncomputable def defBody (s : Stmt) : List Stmt := match s with
  | .FunctionDef _ _ b _ _ _ _ _ _ _ => b
  | _ => []
noncomputable def defScope (s : Stmt) : Scope := match s with
  | .FunctionDef _ _ _ _ _ _ sc _ _ _ => sc
  | _ => { kind := .function, names := [], isGenerator := false, isCoroutine := false }
noncomputable abbrev CX0 : CXT := fun _ _ _ _ _ _ => False
noncomputable abbrev E0 : XK := fun _ _ _ => False
theorem pass0 {X : Cx} : Passes CX0 X E0 := fun _ _ _ _ _ _ _ h => h.elim
structure Fun (K : PySem.W.Frag) (x qual : Str) (st : Stmt) (f : Addr) (fd : FuncData) : Prop where
  ex : ∃ (oc : Value) (od : Option Addr) (kV doc pm : Value) (an : Option Addr) (cdv ct : Value) (osl : Array (Option Value)),
    fd = PySem.W.fnOf x qual (defArgs st) (defBody st) (defScope st) .none kV doc pm an cdv ct ∧ K.lookup f = some ⟨oc, od, .func fd, osl⟩ ∧ PySem.W.codeIn K cdv qual = true
  kp : PySem.W.keepIn K (.ref f) = true
section
variable {P : Program} {w : World} {K : PySem.W.Frag} {mg : Str → Option Value} {base : Heap}
theorem Fun.ok {x qual : Str} {st : Stmt} {f : Addr} {fd : FuncData} {N ps : List Str} {k : Nat} {sp : Sp} (F : Fun K x qual st f fd) (S : FnScope N ps (defScope st)) (len : ∀ vs H Q E, sp vs H Q E → vs.length = ps.length)
    (hbody : ∀ (cdv : Value) (A : Around) (outer : List Env) (s : Shared) (H : Hp) (vs : List V) (Q : VK) (E : XK), Room k (A.deeper (envOfC qual (defScope st) s.heap.objs.size f cdv)) → sp vs H Q E →
      ∃ t, PSs (cxOf CX0 P w K mg base N qual (defScope st) f cdv A outer s H E).nox (defBody st) t ∧ t { nx := fun _ H' => Q .non H', rt := Q } (start N vs) H) : FnOk P w K mg base CX0 (k + 1) f fd ps sp := by
  obtain ⟨oc, od, kV, doc, pm, an, cdv, ct, osl, rfl, lk, hcd⟩ := F.ex
  refine fn_of lk hcd S len fun A outer s H vs Q E hr hsp => ?_
  obtain ⟨t, h, q⟩ := hbody cdv A outer s H vs Q E hr hsp
  exact ⟨t, h.nox, q⟩
theorem Fun.binds {x qual : Str} {st : Stmt} {f : Addr} {fd : FuncData} {ps : List Str} (F : Fun K x qual st f fd)
    (h : ∀ (kV doc pm : Value) (an : Option Addr) (cdv ct : Value) (us : List Value), us.length = ps.length → bindArgs (PySem.W.fnOf x qual (defArgs st) (defBody st) (defScope st) .none kV doc pm an cdv ct) ⟨us, []⟩ = pure (ps.zip us)) : Binds K fd ps [] := by
  obtain ⟨oc, od, kV, doc, pm, an, cdv, ct, osl, rfl, lk, hcd⟩ := F.ex
  exact .all (h kV doc pm an cdv ct)
theorem fun_mk {x qual : Str} {st : Stmt} {f : Addr} {oc : Value} {od an : Option Addr} {osl : Array (Option Value)} {kV doc pm cdv ct : Value} (l : K.lookup f = some ⟨oc, od, .func (PySem.W.fnOf x qual (defArgs st) (defBody st) (defScope st) .none kV doc pm an cdv ct), osl⟩)
    (c : PySem.W.codeIn K cdv qual = true) (k : PySem.W.keepIn K (.ref f) = true) : Fun K x qual st f (PySem.W.fnOf x qual (defArgs st) (defBody st) (defScope st) .none kV doc pm an cdv ct) := ⟨⟨oc, od, kV, doc, pm, an, cdv, ct, osl, rfl, l, c⟩, k⟩
end
theorem small1000 {n : Nat} (h : n ≤ 1000) : n < sizeLine := Nat.lt_of_le_of_lt h (by decide)
section
variable {X : Cx}
theorem pv (i : Nat) {x : Str} {pos : Pos} (hN : X.N[i]? = some x := by rfl) (hv : Vis X.env.scope x := by first | exact Or.inl rfl | exact Or.inr (Or.inl rfl) | exact Or.inr (Or.inr rfl)) (hd : (x == ("__debug__" : Str)) = false := by decide)
    (hcd : (x == ("__classdict__" : Str)) = false := by decide) : PE X (.Name x pos) (tVar i) := pe_var hN hv hd hcd
end
theorem iteF {A B : Prop} (h : B) : if false = true then A else B := by
  rw [if_neg Bool.false_ne_true]
  exact h
theorem iteT {A B : Prop} (h : A) : if true = true then A else B := by
  rw [if_pos rfl]
  exact h
theorem ite2 {c A B : Prop} [Decidable c] (h1 : c → A) (h2 : ¬ c → B) : if c then A else B := by
  by_cases h : c
  · rw [if_pos h]
    exact h1 h
  · rw [if_neg h]
    exact h2 h
noncomputable def Same (H H' : Hp) : Prop := ∀ b o, H b = some o → H' b = some o
theorem Same.refl (H : Hp) : Same H H := fun _ _ h => h
theorem Same.trans {H H1 H2 : Hp} (a : Same H H1) (b : Same H1 H2) : Same H H2 := fun c o h => b c o (a c o h)
theorem Same.free {H H' : Hp} (e : Same H H') {l : Addr} (h : H' l = Option.none) : H l = Option.none := by
  cases q : H l with
  | none => rfl
  | some o =>
    rw [e l o q] at h
    cases h
theorem Same.seq {K : PySem.W.Frag} {H H' : Hp} {a : Addr} {xs : List V} (e : Same H H') (h : SqL K H a xs) : SqL K H' a xs := by
  rcases h with (h | ⟨o, h⟩) | h
  · exact .inl (.inl (e _ _ h))
  · exact .inl (.inr ⟨o, e _ _ h⟩)
  · exact .inr h
section
variable {κ : Type} [DecidableEq κ]
end
end L2

namespace L2
open PySem PySem.Spec PyProof.Rows
section
variable {K : PySem.W.Frag}
theorem len_succ {us : List Value} {n : Nat} (h : us.length = n + 1) : ∃ u r, us = u :: r ∧ r.length = n := by
  cases us with
  | nil => cases h
  | cons u r => exact ⟨u, r, rfl, Nat.succ.inj h⟩
theorem len_is1 {us : List Value} {l : List Str} (hl : l.length = 1) (h : us.length = l.length) : ∃ u0, us = [u0] := by
  rw [hl] at h
  obtain ⟨u0, r0, rfl, h0⟩ := len_succ h
  obtain rfl := List.eq_nil_of_length_eq_zero h0
  exact ⟨_, rfl⟩
theorem Fun.binds1 {x qual : Str} {st : Stmt} {f : Addr} {fd : FuncData} {l : List Str} (F : Fun K x qual st f fd)
    (h : ∀ (kV doc pm : Value) (an : Option Addr) (cdv ct u0 : Value), bindArgs (PySem.W.fnOf x qual (defArgs st) (defBody st) (defScope st) .none kV doc pm an cdv ct) ⟨[u0], []⟩ = pure (l.zip [u0])) (hl : l.length = 1 := by rfl) : Binds K fd l [] :=
  F.binds (ps := l) fun kV doc pm an cdv ct us e => by
    obtain ⟨u0, rfl⟩ := len_is1 hl e
    exact h kV doc pm an cdv ct u0
theorem len_is2 {us : List Value} {l : List Str} (hl : l.length = 2) (h : us.length = l.length) : ∃ u0 u1, us = [u0, u1] := by
  rw [hl] at h
  obtain ⟨u0, r0, rfl, h0⟩ := len_succ h
  obtain ⟨u1, r1, rfl, h1⟩ := len_succ h0
  obtain rfl := List.eq_nil_of_length_eq_zero h1
  exact ⟨_, _, rfl⟩
theorem Fun.binds2 {x qual : Str} {st : Stmt} {f : Addr} {fd : FuncData} {l : List Str} (F : Fun K x qual st f fd)
    (h : ∀ (kV doc pm : Value) (an : Option Addr) (cdv ct u0 u1 : Value), bindArgs (PySem.W.fnOf x qual (defArgs st) (defBody st) (defScope st) .none kV doc pm an cdv ct) ⟨[u0, u1], []⟩ = pure (l.zip [u0, u1])) (hl : l.length = 2 := by rfl) : Binds K fd l [] :=
  F.binds (ps := l) fun kV doc pm an cdv ct us e => by
    obtain ⟨u0, u1, rfl⟩ := len_is2 hl e
    exact h kV doc pm an cdv ct u0 u1
theorem len_is3 {us : List Value} {l : List Str} (hl : l.length = 3) (h : us.length = l.length) : ∃ u0 u1 u2, us = [u0, u1, u2] := by
  rw [hl] at h
  obtain ⟨u0, r0, rfl, h0⟩ := len_succ h
  obtain ⟨u1, r1, rfl, h1⟩ := len_succ h0
  obtain ⟨u2, r2, rfl, h2⟩ := len_succ h1
  obtain rfl := List.eq_nil_of_length_eq_zero h2
  exact ⟨_, _, _, rfl⟩
theorem Fun.binds3 {x qual : Str} {st : Stmt} {f : Addr} {fd : FuncData} {l : List Str} (F : Fun K x qual st f fd)
    (h : ∀ (kV doc pm : Value) (an : Option Addr) (cdv ct u0 u1 u2 : Value), bindArgs (PySem.W.fnOf x qual (defArgs st) (defBody st) (defScope st) .none kV doc pm an cdv ct) ⟨[u0, u1, u2], []⟩ = pure (l.zip [u0, u1, u2])) (hl : l.length = 3 := by rfl) : Binds K fd l [] :=
  F.binds (ps := l) fun kV doc pm an cdv ct us e => by
    obtain ⟨u0, u1, u2, rfl⟩ := len_is3 hl e
    exact h kV doc pm an cdv ct u0 u1 u2
theorem len_is4 {us : List Value} {l : List Str} (hl : l.length = 4) (h : us.length = l.length) : ∃ u0 u1 u2 u3, us = [u0, u1, u2, u3] := by
  rw [hl] at h
  obtain ⟨u0, r0, rfl, h0⟩ := len_succ h
  obtain ⟨u1, r1, rfl, h1⟩ := len_succ h0
  obtain ⟨u2, r2, rfl, h2⟩ := len_succ h1
  obtain ⟨u3, r3, rfl, h3⟩ := len_succ h2
  obtain rfl := List.eq_nil_of_length_eq_zero h3
  exact ⟨_, _, _, _, rfl⟩
theorem Fun.binds4 {x qual : Str} {st : Stmt} {f : Addr} {fd : FuncData} {l : List Str} (F : Fun K x qual st f fd)
    (h : ∀ (kV doc pm : Value) (an : Option Addr) (cdv ct u0 u1 u2 u3 : Value), bindArgs (PySem.W.fnOf x qual (defArgs st) (defBody st) (defScope st) .none kV doc pm an cdv ct) ⟨[u0, u1, u2, u3], []⟩ = pure (l.zip [u0, u1, u2, u3])) (hl : l.length = 4 := by rfl) : Binds K fd l [] :=
  F.binds (ps := l) fun kV doc pm an cdv ct us e => by
    obtain ⟨u0, u1, u2, u3, rfl⟩ := len_is4 hl e
    exact h kV doc pm an cdv ct u0 u1 u2 u3
theorem len_is8 {us : List Value} {l : List Str} (hl : l.length = 8) (h : us.length = l.length) : ∃ u0 u1 u2 u3 u4 u5 u6 u7, us = [u0, u1, u2, u3, u4, u5, u6, u7] := by
  rw [hl] at h
  obtain ⟨u0, r0, rfl, h0⟩ := len_succ h
  obtain ⟨u1, r1, rfl, h1⟩ := len_succ h0
  obtain ⟨u2, r2, rfl, h2⟩ := len_succ h1
  obtain ⟨u3, r3, rfl, h3⟩ := len_succ h2
  obtain ⟨u4, r4, rfl, h4⟩ := len_succ h3
  obtain ⟨u5, r5, rfl, h5⟩ := len_succ h4
  obtain ⟨u6, r6, rfl, h6⟩ := len_succ h5
  obtain ⟨u7, r7, rfl, h7⟩ := len_succ h6
  obtain rfl := List.eq_nil_of_length_eq_zero h7
  exact ⟨_, _, _, _, _, _, _, _, rfl⟩
theorem Fun.binds8 {x qual : Str} {st : Stmt} {f : Addr} {fd : FuncData} {l : List Str} (F : Fun K x qual st f fd)
    (h : ∀ (kV doc pm : Value) (an : Option Addr) (cdv ct u0 u1 u2 u3 u4 u5 u6 u7 : Value), bindArgs (PySem.W.fnOf x qual (defArgs st) (defBody st) (defScope st) .none kV doc pm an cdv ct) ⟨[u0, u1, u2, u3, u4, u5, u6, u7], []⟩ = pure (l.zip [u0, u1, u2, u3, u4, u5, u6, u7])) (hl : l.length = 8 := by rfl) : Binds K fd l [] :=
  F.binds (ps := l) fun kV doc pm an cdv ct us e => by
    obtain ⟨u0, u1, u2, u3, u4, u5, u6, u7, rfl⟩ := len_is8 hl e
    exact h kV doc pm an cdv ct u0 u1 u2 u3 u4 u5 u6 u7
end
end L2


set_option Elab.async false
set_option linter.all false
set_option maxRecDepth 100000
set_option maxHeartbeats 4000000

namespace L2
open PySem PySem.Spec PyProof.Rows

/-! ### heaps -/
theorem same_upd {H : Hp} {p : Addr} {o : HO} (h : H p = none) : Same H (upd H p o) := fun b u e => by
  rw [upd_ne (ne_of_none e h)]; exact e
theorem same_upd' {H0 H : Hp} {p : Addr} {o : HO} (s : Same H0 H) (h : H0 p = none) : Same H0 (upd H p o) := fun b u e => by
  rw [upd_ne (ne_of_none e h)]; exact s b u e
theorem same_sqT {K : PySem.W.Frag} {H H' : Hp} {a : Addr} {xs : List V} (e : Same H H') (h : SqT K H a xs) : SqT K H' a xs := by
  rcases h with (h | ⟨o, h⟩) | h
  · exact .inl (.inl (e _ _ h))
  · exact .inl (.inr ⟨o, e _ _ h⟩)
  · exact .inr h

/-! ### texts: their size and their signs -/
noncomputable abbrev TxtOk (x : Str) : Prop := PyData.strOk x = true
theorem txtOk_iff {x : Str} : TxtOk x ↔ ∀ c ∈ x.cps.toList, c < 0x110000 := by
  unfold TxtOk PyData.strOk
  rw [Array.all_eq_true']
  simp
theorem txtOk_app {x y : Str} (hx : TxtOk x) (hy : TxtOk y) : TxtOk (x ++ y) := by
  rw [txtOk_iff] at *
  intro c hc
  have e : (x ++ y).cps.toList = x.cps.toList ++ y.cps.toList := by
    show (x.cps ++ y.cps).toList = _
    simp
  rw [e, List.mem_append] at hc
  exact hc.elim (hx c) (hy c)
theorem txtOk_slice {x : Str} (hx : TxtOk x) (l u : Option Int) : TxtOk (Txt.slice x l u) := by
  unfold Txt.slice
  split
  · exact hx
  · rw [txtOk_iff] at *
    intro c hc
    have hc' : c ∈ (Builtin.Str.strSliceIndices l u 1 x.length).filterMap (x.cps[·]?) := by simpa using hc
    obtain ⟨i, _, hi⟩ := List.mem_filterMap.mp hc'
    refine hx c ?_
    have := Array.mem_of_getElem? hi
    simpa using this
theorem txtOk_one {c : Nat} (h : c < 0x110000) : TxtOk ⟨#[c]⟩ := by
  rw [txtOk_iff]
  intro d hd
  have e : d = c := by simpa using hd
  rw [e]; exact h
theorem len_app (x y : Str) : (x ++ y).length = x.length + y.length := by
  show (x.cps ++ y.cps).size = _
  rw [Array.size_append]; rfl
theorem len_one (c : Nat) : (⟨#[c]⟩ : Str).length = 1 := rfl
/-! ### slices of texts -/
section
variable {X : Cx}
noncomputable def rSlS : V → Option Int → Option Int → Hp → VK → Prop := fun x lo hi H Q => ∃ z, x = .str z ∧ z.length ≤ sizeLine ∧ Q (.str (Txt.slice z lo hi)) H
theorem sl_str : SlR X rSlS := by
  intro pins s σ H x v vl vu lo hi sl Q I rx hs pl pu h
  obtain ⟨z, rfl, hz, q⟩ := h
  obtain ⟨t, rfl⟩ := rx
  refine ⟨"str", _, PyProof.Rows.slot_str_getitem.lookup, typeIs_str _ _ _, ?_⟩
  obtain ⟨o, ho, hc, hd⟩ := hs
  have fin : ∀ (l u : Option (Int × Tok)), vl = partValue l → vu = partValue u → lo = l.map (·.1) → hi = u.map (·.1) → wpAny (model X.prog X.w) X.A (getItem (.str z t) (.ref sl)) (EP X pins σ Q) X.xe s := by
    intro l u e1 e2 e3 e4
    subst e1 e2 e3 e4
    refine wpAny_getItem_str_slice (l := l) (u := u) (st := none) ⟨o, ho, hc, hd⟩ rfl ?_
    exact post_val_or_str ⟨Nat.le_trans (Txt.slice_le z _ _) hz, fun t' k => ⟨.str (Txt.slice z (l.map (·.1)) (u.map (·.1))), H, I.tok _, ⟨_, rfl⟩, q⟩⟩
  cases pl with
  | none =>
    cases pu with
    | none => exact fin none none rfl rfl rfl rfl
    | int j tj => exact fin none (some (j, tj)) rfl rfl rfl rfl
  | int i ti =>
    cases pu with
    | none => exact fin (some (i, ti)) none rfl rfl rfl rfl
    | int j tj => exact fin (some (i, ti)) (some (j, tj)) rfl rfl rfl rfl

/-! ### isinstance of a built-in type -/
theorem call_isi : CallR X (.builtin "isinstance") (fun xs H Q => ∃ x t c b, xs = [x, .ty c] ∧ TyOf X.K H x t ∧ PySem.W.kitOne X.K t (.type c) = some b ∧ Q (.bl b) H) := by
  intro pins s σ H xs us Q I r h
  obtain ⟨x, t, c, b, rfl, ty, e, q⟩ := h
  obtain ⟨u, u2, rfl, r1, r2⟩ := vals2 r
  cases (show u2 = Value.type c from r2)
  exact isinst_ok I r1 ty e fun tk => ⟨.bl b, H, I.tok tk, rfl, q⟩
end
end L2

/-! ### tuples of ints: not ahead -/
namespace HT
open PySem PyProof.Rows
section
open PySem.SeqAt
open PySem.AutoSeq1 (wpAny_loadPart')
open PySem.MeetsSeq PySem.MeetsSeq2 PySem.MeetsSeq3
end
section
variable {prog : Program} {w : World} {A : Around} {E : Value → Shared → Prop} {s : Shared}
end
end HT

namespace L2
open PySem PySem.Spec PyProof.Rows
section
variable {X : Cx}
end

/-! ### deep data -/
mutual
inductive DV (K : PySem.W.Frag) (H : Hp) : V → PySem.W.Dat → Prop
  | non : DV K H .non .none
  | int (i : Int) : DV K H (.int i) (.int i)
  | str (x : Str) : DV K H (.str x) (.str x)
  | tup {a : Addr} {xs : List V} {ds : List PySem.W.Dat} : SqT K H a xs → DVs K H xs ds → DV K H (.ref a) (.tuple ds)
  | lst {a : Addr} {xs : List V} {ds : List PySem.W.Dat} : SqL K H a xs → DVs K H xs ds → DV K H (.ref a) (.list ds)
inductive DVs (K : PySem.W.Frag) (H : Hp) : List V → List PySem.W.Dat → Prop
  | nil : DVs K H [] []
  | cons {x : V} {d : PySem.W.Dat} {xs : List V} {ds : List PySem.W.Dat} : DV K H x d → DVs K H xs ds → DVs K H (x :: xs) (d :: ds)
end
theorem dvs_ints {K : PySem.W.Frag} {H : Hp} : ∀ ns : List Int, DVs K H (ns.map V.int) (ns.map PySem.W.Dat.int)
  | [] => .nil
  | n :: ns => .cons (.int n) (dvs_ints ns)
theorem dvs_strs {K : PySem.W.Frag} {H : Hp} : ∀ xs : List Str, DVs K H (xs.map V.str) (xs.map PySem.W.Dat.str)
  | [] => .nil
  | n :: ns => .cons (.str n) (dvs_strs ns)
section
variable {X : Cx} {pins : List (Addr × Obj)} {σ : St} {H : Hp} {s : Shared}
mutual
theorem DV.reads (I : Inv X pins σ H s) : ∀ {x : V} {d : PySem.W.Dat} {u : Value}, DV X.K H x d → RelV x u → ∃ as, Reads s.heap u (PySem.W.kqdP d) as
  | _, _, _, .non, r => by cases r; exact ⟨_, Reads.none⟩
  | _, _, _, .int i, r => by obtain ⟨t, rfl⟩ := r; exact ⟨_, Reads.int i t⟩
  | _, _, _, .str x, r => by obtain ⟨t, rfl⟩ := r; exact ⟨_, Reads.str x t⟩
  | _, _, _, .tup h q, r => by
    cases r
    obtain ⟨its, rv, ⟨o, e, c, n, d⟩, _⟩ := I.tuple h
    obtain ⟨as, z⟩ := DVs.reads I q rv
    rw [PySem.W.kqdP]
    exact ⟨as, reads_tuple_at e c d (by simpa using z)⟩
  | _, _, _, .lst h q, r => by
    cases r
    obtain ⟨its, rv, ⟨o, n, e, c, _, d⟩, _⟩ := I.list h
    obtain ⟨as, z⟩ := DVs.reads I q rv
    rw [PySem.W.kqdP]
    exact ⟨_, reads_list_at e c d (by simpa using z)⟩
theorem DVs.reads (I : Inv X pins σ H s) : ∀ {xs : List V} {ds : List PySem.W.Dat} {us : List Value}, DVs X.K H xs ds → Vals xs us → ∃ as, ReadsAll s.heap us (PySem.W.kqdPs ds) as
  | _, _, _, .nil, .nil => ⟨_, ReadsAll.nil⟩
  | _, _, _, .cons q qs, .cons r rs => by
    obtain ⟨as, z⟩ := DV.reads I q r
    obtain ⟨bs, y⟩ := DVs.reads I qs rs
    rw [PySem.W.kqdPs]
    exact ⟨_, ReadsAll.cons z y⟩
end
end
theorem dat_shaped {d : PySem.W.Dat} (h : PySem.W.kqdOk 9 d = true) : SeqAt.shaped (PySem.W.kqdP d) = true := by
  have l := PySem.W.kqd_lay 9 d h
  unfold SeqAt.shaped
  rw [l.1, Bool.true_and]
  exact decide_eq_true (Nat.le_trans l.2 (by decide))
section
variable {X : Cx}
theorem op_eqD (hu : X.A.units + 64 < cLine) : OpR X (compareOp .Eq) (fun x y H Q => ∃ d e, DV X.K H x d ∧ DV X.K H y e ∧ PySem.W.kqdOk 9 d = true ∧ PySem.W.kqdOk 9 e = true ∧ ∀ b : Bool, (b = true ↔ d = e) → Q (.bl b) H) := by
  intro pins s σ H x y v u Q I rx ry h
  obtain ⟨d, e, hd, he, od, oe, q⟩ := h
  obtain ⟨as, ra⟩ := hd.reads I rx
  obtain ⟨bs, rb⟩ := he.reads I ry
  exact eq_dataH ra rb (dat_shaped od) (dat_shaped oe) hu ⟨.bl _, H, I, rfl, q _ (PySem.W.kqd_eqv 9 d e 9 od oe)⟩
theorem op_neD (hu : X.A.units + 64 < cLine) : OpR X (compareOp .NotEq) (fun x y H Q => ∃ d e, DV X.K H x d ∧ DV X.K H y e ∧ PySem.W.kqdOk 9 d = true ∧ PySem.W.kqdOk 9 e = true ∧ ∀ b : Bool, (b = true ↔ d = e) → Q (.bl (!b)) H) := by
  intro pins s σ H x y v u Q I rx ry h
  obtain ⟨d, e, hd, he, od, oe, q⟩ := h
  obtain ⟨as, ra⟩ := hd.reads I rx
  obtain ⟨bs, rb⟩ := he.reads I ry
  exact ne_dataH ra rb (dat_shaped od) (dat_shaped oe) hu ⟨.bl _, H, I, rfl, q _ (PySem.W.kqd_eqv 9 d e 9 od oe)⟩
end
end L2

namespace L2
open PySem PySem.Spec PyProof.Rows
/-! ### a cut between two statements: M is what holds there -/
section
variable {X : Cx} {st : Stmt} {rest : List Stmt} {t u : TS}
noncomputable def tCut (M : St → Hp → Prop) (t u : TS) : TS := fun D σ H => t { D with nx := M } σ H ∧ ∀ σ' H', M σ' H' → u D σ' H'
theorem pss_cut (M : St → Hp → Prop) (h1 : PS X st t) (h2 : PSs X rest u) : PSs X (st :: rest) (tCut M t u) := by
  intro pins s σ H D I h
  refine wpAny_execs_cons (thn (h1 pins s σ H { D with nx := M } I h.1) fun f s1 q => ?_)
  cases f with
  | next =>
    obtain ⟨σ', H', I', q⟩ := q
    exact h2 pins s1 σ' H' D I' (h.2 σ' H' q)
  | ret v => exact q
  | brk => exact q
  | cont => exact q
end

/-! ### small facts -/
theorem free_upd {H : Hp} {p t : Addr} {o : HO} (h : upd H p o t = none) : t ≠ p ∧ H t = none := by
  by_cases e : t = p
  · subst e; rw [upd_same] at h; cases h
  · exact ⟨e, by rw [upd_ne e] at h; exact h⟩
theorem fit {a b : Str} (ha : a.length ≤ 100) (hb : b.length ≤ 100) : a.length + b.length ≤ sizeLine := Nat.le_of_lt (small1000 (by omega))
theorem fit1 {a : Str} (ha : a.length ≤ 100) : a.length ≤ sizeLine := Nat.le_of_lt (small1000 (by omega))
theorem atI_in {α : Type} {xs : List α} {r : Int} (h0 : 0 ≤ r) (h1 : r < xs.length) : ∃ v, atI xs r = some v ∧ xs[r.toNat]? = some v := by
  obtain ⟨n, rfl⟩ : ∃ n : Nat, r = n := ⟨r.toNat, by omega⟩
  have hn : n < xs.length := by omega
  have e : xs[n]? = some (xs[n]'hn) := by simp
  exact ⟨_, atI_nat e, by simpa using e⟩
theorem atI_ints {ns : List Int} {r : Int} (h0 : 0 ≤ r) (h1 : r < ns.length) : ∃ z, atI (ns.map V.int) r = some (V.int z) ∧ ns[r.toNat]? = some z := by
  obtain ⟨v, e, e2⟩ := atI_in (xs := ns.map V.int) h0 (by rw [List.length_map]; exact h1)
  rw [List.getElem?_map] at e2
  cases q : ns[r.toNat]? with
  | none => rw [q] at e2; cases e2
  | some z =>
    rw [q] at e2
    cases e2
    exact ⟨z, e, rfl⟩
/-! ### a def of the top -/
noncomputable def DefAt (K : PySem.W.Frag) (mg : Str → Option Value) (x : Str) (st : Stmt) : Prop := ∃ f fd, mg x = some (.ref f) ∧ Fun K x x st f fd ∧ PySem.W.keepIn K (.ref f) = true
theorem defAt_mk {K : PySem.W.Frag} {h : Heap} {mg : Str → Option Value} {x : Str} {st : Stmt} {f : Addr} {od an : Option Addr} {sl : Array (Option Value)} {oc kV dc pm cd ct : Value} (X : K.In h) (G : h.Ns mainGlobals mg)
    (a : PySem.W.nsIn K mainGlobals x = some (some (.ref f))) (l : K.lookup f = some ⟨oc, od, .func (PySem.W.fnOf x x (defArgs st) (defBody st) (defScope st) .none kV dc pm an cd ct), sl⟩) (c : PySem.W.codeIn K cd x = true) (k : PySem.W.keepIn K (.ref f) = true) :
    DefAt K mg x st := ⟨f, _, PySem.W.mg_of X G a, fun_mk l c k, k⟩
end L2

set_option Elab.async false
set_option linter.all false
set_option maxRecDepth 100000
set_option maxHeartbeats 4000000

namespace L2
open PySem PySem.Spec PyProof.Rows

/-! ### a comprehension's tests -/
noncomputable abbrev testsOf (ifs : List Expr) (env : Env) : Sem Bool :=
  forIn ifs true fun c r => if r = true then do let ok ← isTrue c env (eval c env); pure (ForInStep.yield ok) else pure (ForInStep.yield r)
noncomputable def PTs (X : Cx) (ifs : List Expr) (t : TT) : Prop :=
  ∀ (pins : List (Addr × Obj)) (s : Shared) (σ : St) (H : Hp) (Q : Bool → Hp → Prop), Inv X pins σ H s → t σ H Q → wpAny (model X.prog X.w) X.A (testsOf ifs X.env) (TP X pins σ Q) X.xe s
noncomputable def tTrue : TT := fun _ H Q => Q true H
theorem pts_nil {X : Cx} : PTs X [] tTrue := fun _ _ _ H _ I h => wpAny_tests_nil ⟨H, I, h⟩
theorem pts_one {X : Cx} {c : Expr} {t : TT} (h : PT X c t) : PTs X [c] t := fun pins s σ H Q I q => wpAny_tests_one (h pins s σ H Q I q)

/-! ### a comprehension's loop -/
section
variable {prog : Program} {w : World} {A : Around} {R : Result → Shared → Prop} {s : Shared}
theorem comp_loop {elt target iter : Expr} {ifs : List Expr} {scope : Scope} {pos : Pos} {it acc : Value} {env : Env} (I : Nat → Shared → Prop)
    (turn : ∀ n s, I n s → wpAny (model prog w) A (pyNext it) (fun r s₁ => match r with
      | none => R (.ok .next) s₁
      | some v => wpAny (model prog w) A (letOwnedTupleGo target it v) (fun _ s₀ => wpAny (model prog w) A (assign target env v) (fun _ s₂ =>
          wpAny (model prog w) A (testsOf ifs env) (fun ok s₃ =>
            if ok = true then wpAny (model prog w) A (eval elt env) (fun x s₄ =>
              wpAny (model prog w) A (call (.builtin "list.append") [acc, x]) (fun _ s₅ => ∃ m, m < n ∧ I m s₅) (notedBy (model prog w) A env fun e s' => R (.error e) s') s₄) (notedBy (model prog w) A env fun e s' => R (.error e) s') s₃
            else ∃ m, m < n ∧ I m s₃) (notedBy (model prog w) A env fun e s' => R (.error e) s') s₂) (notedBy (model prog w) A env fun e s' => R (.error e) s') s₀) (notedBy (model prog w) A env fun e s' => R (.error e) s') s₁) (notedBy (model prog w) A env fun e s' => R (.error e) s') s)
    (n : Nat) (h : I n s) : codeAny (model prog w) A (.compLoop (.ListComp elt [⟨target, iter, ifs, 0⟩] scope pos) 0 it acc env) R s := by
  refine codeAny_loop rfl I (fun n s hI => ?_) n h
  show wpAny _ A ((compTurn (.ListComp elt [⟨target, iter, ifs, 0⟩] scope pos) 0 it acc env).onRaise (fun x => do noteFrame x env; theTreesLotGoes x)) _ _ s
  refine wpAny_noted ?_
  rw [compTurn_list]
  refine wpAny_bind (wpAny_standAt (wpAny_bind (wpAny_mono (turn n s hI) (fun r s₁ h₁ => ?_) fun _ _ h' => h')))
  cases r with
  | none => exact wpAny_pure h₁
  | some v =>
    refine wpAny_bind (wpAny_mono h₁ (fun _ s₀ h₀ => ?_) fun _ _ h' => h')
    refine wpAny_bind (wpAny_mono h₀ (fun _ s₂ h₂ => wpAny_bind (wpAny_mono h₂ (fun ok s₃ h₃ => ?_) fun _ _ h' => h')) fun _ _ h' => h')
    cases ok with
    | false => exact wpAny_pure ⟨rfl, h₃⟩
    | true =>
      exact wpAny_bind (wpAny_bind (wpAny_mono h₃ (fun x s₄ h₄ => wpAny_bind (wpAny_mono h₄ (fun _ s₅ h₅ => wpAny_pure (wpAny_pure ⟨rfl, h₅⟩)) fun _ _ h' => h')) fun _ _ h' => h'))
end

/-! ### its context: a frame of its own (its names), the same stack -/
theorem hok_but {P : Program} {w : World} {H : Hp} {h1 h2 : Heap} {C : Addr} (ok : HOk P w H h1) (sb : Heap.SameBut C h1 h2) (hn : H C = none) : HOk P w H h2 := fun b ob e => by
  refine (ok b ob e).stay (fun c w' hc q => (sb.2 c ?_).trans q) (fun _ q => q) fun _ _ q => q
  rintro rfl
  rcases hc with rfl | hc
  · rw [hn] at e; cases e
  · rw [hn] at hc; cases hc

/-- what the loop asks: W the invariant by the turn, a measure, the names' values and the heap; the list that grows stands at D -/
noncomputable def CompAsk (J : It) (g : TG) (tt : TT) (te : TE) (D : Addr) (Qd : Hp → Prop) (W : Nat → Nat → St → Hp → Prop) : Prop :=
  ∀ i m σ H, W i m σ H → (J.stop i H ∧ Qd H) ∨ (J.go i H ∧ ∀ x H2, J.yld i H x H2 → g x σ H2 fun σ3 H3 => tt σ3 H3 fun ok H4 =>
    if ok = true then te σ3 H4 fun y H5 => ∃ ys, H5 D = some (.lst ys) ∧ ys.length < sizeLine ∧ ∃ m', m' < m ∧ W (i + 1) m' σ3 (upd H5 D (.lst (ys ++ [y])))
    else ∃ m', m' < m ∧ W (i + 1) m' σ3 H4)
section
variable {X : Cx} {pins : List (Addr × Obj)} {σ : St} {H3 : Hp} {s3 : Shared}
end
end L2

set_option Elab.async false
set_option linter.all false
set_option maxRecDepth 100000
set_option maxHeartbeats 4000000

namespace L2
open PySem PySem.Spec PyProof.Rows

/-! ### the cells that a comprehension takes from around it -/
noncomputable def takenFrom (env : Env) : List (Str × NameKind) → List (Str × Addr) → List (Str × Addr)
  | [], cs => cs
  | (n, k) :: r, cs => if k = .free then takenFrom env r ((n, (env.cells.lookup n).getD 0) :: cs) else takenFrom env r cs
theorem closureFor_taken {scope : Scope} {env : Env} (h : ∀ y ∈ scope.names, y.2 = .free → ∃ c, env.cells.lookup y.1 = some c) : closureFor scope env = pure (takenFrom env scope.names []) := by
  unfold closureFor
  generalize scope.names = l at h
  have go : ∀ (l : List (Str × NameKind)) (cs : List (Str × Addr)), (∀ y ∈ l, y.2 = .free → ∃ c, env.cells.lookup y.1 = some c) →
      (forIn l cs fun (x : Str × NameKind) (r : List (Str × Addr)) => (if (x.2 == .free) = true then do let y ← cellOf env x.1; pure (ForInStep.yield ((x.1, y) :: r)) else pure (ForInStep.yield r) : Sem (ForInStep (List (Str × Addr))))) = pure (takenFrom env l cs) := by
    intro l
    induction l with
    | nil => intro cs _; rfl
    | cons x l ih =>
      intro cs h
      obtain ⟨n, k⟩ := x
      rw [List.forIn_cons]
      by_cases e : k = .free
      · subst e
        obtain ⟨c, hc⟩ := h _ List.mem_cons_self rfl
        have hc : env.cells.lookup n = some c := hc
        have e1 : cellOf env n = pure c := by unfold cellOf; rw [hc]
        simp only [e1, takenFrom, hc, if_true, Option.getD_some, beq_self_eq_true, pure_bind]
        exact ih _ fun y hy => h y (List.mem_cons_of_mem _ hy)
      · have e' : (k == NameKind.free) = false := by simpa using e
        simp only [e', takenFrom, e, if_false, Bool.false_eq_true, pure_bind]
        exact ih _ fun y hy => h y (List.mem_cons_of_mem _ hy)
  have := go l [] h
  simpa using this
theorem takenFrom_some {env : Env} : ∀ {l : List (Str × NameKind)} {cs : List (Str × Addr)} {x : Str} {c : Addr}, (∀ y ∈ l, y.2 = .free → ∃ c, env.cells.lookup y.1 = some c) → (∀ x c, cs.lookup x = some c → env.cells.lookup x = some c) →
    (takenFrom env l cs).lookup x = some c → env.cells.lookup x = some c
  | [], _, _, _, _, hc, e => hc _ _ e
  | (n, k) :: l, cs, x, c, h, hc, e => by
    unfold takenFrom at e
    have h' : ∀ y ∈ l, y.2 = .free → ∃ c, env.cells.lookup y.1 = some c := fun y hy => h y (List.mem_cons_of_mem _ hy)
    split at e
    · refine takenFrom_some h' (fun z d hz => ?_) e
      rename_i hk
      rw [List.lookup_cons] at hz
      split at hz
      · rename_i q
        obtain ⟨d', hd⟩ := h (n, k) List.mem_cons_self hk
        have hd : env.cells.lookup n = some d' := hd
        have : z = n := by simpa using q
        subst this
        rw [hd] at hz ⊢
        exact hz
      · exact hc _ _ hz
    · exact takenFrom_some h' hc e
theorem takenFrom_mono {env : Env} : ∀ {l : List (Str × NameKind)} {cs : List (Str × Addr)} {x : Str}, (cs.lookup x).isSome = true → ((takenFrom env l cs).lookup x).isSome = true
  | [], _, _, h => h
  | (n, k) :: l, cs, x, h => by
    unfold takenFrom
    split
    · refine takenFrom_mono ?_
      rw [List.lookup_cons]
      split
      · rfl
      · exact h
    · exact takenFrom_mono h
theorem takenFrom_has {env : Env} {x : Str} : ∀ {l : List (Str × NameKind)} {cs : List (Str × Addr)}, (x, NameKind.free) ∈ l → ((takenFrom env l cs).lookup x).isSome = true
  | (n, k) :: l, cs, h => by
    unfold takenFrom
    rcases List.mem_cons.mp h with e | e
    · cases e
      rw [if_pos rfl]
      refine takenFrom_mono ?_
      rw [List.lookup_cons]
      simp
    · split
      · exact takenFrom_has e
      · exact takenFrom_has e

noncomputable def cxCompF (X : Cx) (N : List Str) (sc : Scope) (s₀ : Shared) (H₀ : Hp) (C : Addr) (ex : List Addr) : Cx where
  prog := X.prog
  w := X.w
  K := X.K
  mg := X.mg
  base := X.base
  A := X.A
  N := N
  s₀ := s₀
  H₀ := H₀
  env := compEnvC sc (takenFrom X.env sc.names []) C X.env
  outer := X.stack
  stack := X.stack
  ex := ex
  fn := fun _ => false
  calm := X.calm
  pn := []
  xe := fun _ _ => False

/-- the scope of a comprehension: own names, then names of the block around it (slots js there) -/
structure CompScopeF (X : Cx) (own cap : List Str) (js : List Nat) (sc : Scope) : Prop where
  kind : sc.kind = .function
  nocell : ∀ y ∈ sc.names, y.2 ≠ .cell
  names : ∀ y ∈ sc.names, y.2 = .local → sc.names.lookup y.1 = some .local
  nd : (own ++ cap).Nodup
  frees : ∀ y ∈ sc.names, y.2 = .free → y.1 ∈ cap
  slots : js.map (fun j => X.N[j]?) = cap.map some
  outer' : cap.map X.env.kindOf = cap.map fun _ => some NameKind.cell
  capk' : cap.map (fun x => (relabel sc X.env).names.lookup x) = cap.map fun _ => some NameKind.cell
theorem map_all {α β : Type} {f : α → β} {c : β} : ∀ {l : List α}, l.map f = l.map (fun _ => c) → ∀ x ∈ l, f x = c
  | [], _, _, h => nomatch h
  | y :: l, e, x, h => by
    rw [List.map_cons, List.map_cons] at e
    injection e with e1 e2
    rcases List.mem_cons.mp h with q | q
    · rw [q]; exact e1
    · exact map_all e2 x q
theorem CompScopeF.outer {X : Cx} {own cap : List Str} {js : List Nat} {sc : Scope} (S : CompScopeF X own cap js sc) : ∀ x ∈ cap, X.env.kindOf x = some .cell := map_all S.outer'
theorem CompScopeF.capk {X : Cx} {own cap : List Str} {js : List Nat} {sc : Scope} (S : CompScopeF X own cap js sc) : ∀ x ∈ cap, (relabel sc X.env).names.lookup x ≠ some .local := fun x hx h => by
  rw [map_all S.capk' x hx] at h; cases h

/-- its names' values at the start -/
noncomputable def compStart (n : Nat) (js : List Nat) (σ : St) : St := List.replicate n none ++ js.map fun j => (σ[j]?).join
noncomputable def tCompF (wi : TI) (n : Nat) (js : List Nat) (g : TG) (tt : TT) (te : TE) : TE := fun σ H Q => wi σ H fun J H1 => ∀ D, H1 D = none →
  ∃ W : Nat → Nat → St → Hp → Prop, (∃ m, W 0 m (compStart n js σ) (upd H1 D (.lst []))) ∧ CompAsk J g tt te D (fun H' => Q (.ref D) H') W

section
variable {X : Cx} {pins : List (Addr × Obj)} {σ : St} {H3 : Hp} {s3 : Shared}
theorem kind_relabel {sc : Scope} {env : Env} {x : Str} {k : NameKind} (h : (relabel sc env).names.lookup x = some k) : k = .local ∨ k = .globalImplicit ∨ (x, k) ∈ sc.names ∨ (x, NameKind.free) ∈ sc.names := by
  have hm := PySem.mem_of_lookup h
  unfold relabel at hm
  obtain ⟨⟨n, k'⟩, hn, e⟩ := List.mem_map.mp hm
  dsimp only at e
  split at e
  · rename_i c
    cases e
    simp only [Bool.and_eq_true, beq_iff_eq] at c
    obtain ⟨⟨c, _⟩, _⟩ := c
    subst c
    exact .inr (.inr (.inr hn))
  · cases e
    exact .inr (.inr (.inl hn))
theorem comp_coreF {elt tg iter : Expr} {ifs : List Expr} {sc : Scope} {pos : Pos} {own cap : List Str} {js : List Nat} {g : TG} {tt : TT} {te : TE} {it C D : Addr} {fp : List Addr} {tn : Nat → Heap → Prop} {J : It} {h4 : Heap} {tk : Nat} {m : Str → Option Value}
    {W : Nat → Nat → St → Hp → Prop} {Qd : Hp → Prop} {m0 : Nat} (S : CompScopeF X own cap js sc) (hc : X.calm = true) (I3 : Inv X pins σ H3 s3) (T : Turn X.prog X.w X.K tg J fp it tn) (st3 : tn 0 s3.heap) (f3 : ∀ b ∈ fp, FpOk X pins H3 b)
    (eC : C = s3.heap.objs.size) (hns : h4.Ns C m) (hk : ∀ b o, s3.heap.get? b = some o → h4.get? b = some o)
    (hg : PG (cxCompF X (own ++ cap) sc s3 H3 C fp) tg g) (ht : PTs (cxCompF X (own ++ cap) sc s3 H3 C fp) ifs tt) (he : PE (cxCompF X (own ++ cap) sc s3 H3 C fp) elt te)
    (w0 : W 0 m0 (compStart own.length js σ) H3) (ask : CompAsk J g tt te D Qd W) :
    codeAny (model X.prog X.w) X.A (.compStart (.ListComp elt [⟨tg, iter, ifs, 0⟩] sc pos) 0 (.ref it) (.ref D) (compEnvC sc (takenFrom X.env sc.names []) C X.env))
      (fun r s' => r = .ok .next ∧ ∃ m' H', s'.heap.Ns C m' ∧ s'.os = s3.os ∧ AllBare s'.gens ∧ Un (frs X.stack) fp H3 H' s3.heap s'.heap ∧ HOk X.prog X.w H' s'.heap ∧ H' C = none ∧ Qd H') { s3 with heap := h4, toks := tk } := by
  have frs' : ∀ y ∈ sc.names, y.2 = .free → ∃ c, X.env.cells.lookup y.1 = some c := fun y hy e => I3.ok.has _ (.inl (S.outer _ (S.frees y hy e)))
  have toL : ∀ (x : Str) (c : Addr), (cxCompF X (own ++ cap) sc s3 H3 C fp).env.cells.lookup x = some c → X.env.cells.lookup x = some c := fun x c e =>
    takenFrom_some frs' (fun x c h => by cases (show ([] : List (Str × Addr)).lookup x = some c from h)) e
  have ltC : ∀ (x : Str) (c : Addr), X.env.cells.lookup x = some c → c < s3.heap.objs.size := fun x c e => by
    obtain ⟨v, q⟩ := I3.cell x c e
    exact q.lt
  have fpl : ∀ b ∈ fp, b < s3.heap.objs.size := fun b hb => by
    obtain ⟨o, e, _⟩ := T.obj 0 _ st3 b hb
    exact Heap.lt_size e
  have ok' : (cxCompF X (own ++ cap) sc s3 H3 C fp).Ok := by
    refine ⟨I3.ok.mod, S.kind, I3.ok.glob, I3.ok.blt, Nat.le_of_eq eC.symm, fun x y c e1 e2 => I3.ok.inj x y c (toL x c e1) (toL y c e2), fun x hx => ?_, (fun x c z _ => nomatch (show false = true from z)), I3.ok.hd, I3.ok.frames, .inl rfl, fun b hb => ?_,
      I3.bs, Nat.le_trans I3.ok.bsz I3.sz, fun b o e hb => ?_, fun b hb hs => ?_, I3.stack, I3.stkFree⟩
    · have hx' : (relabel sc X.env).names.lookup x = some .cell ∨ (relabel sc X.env).names.lookup x = some .free := hx
      have hm : (x, NameKind.free) ∈ sc.names := by
        rcases hx' with z | z
        · rcases kind_relabel z with q | q | q | q
          · cases q
          · cases q
          · exact absurd rfl (S.nocell _ q)
          · exact q
        · rcases kind_relabel z with q | q | q | q
          · cases q
          · cases q
          · exact q
          · exact q
      exact Option.isSome_iff_exists.mp (takenFrom_has hm)
    · refine ⟨?_, fun x c e => (f3 b hb).2.2.2.2.1 x c (toL x c e)⟩
      show b ≠ C
      rw [eC]
      exact Nat.ne_of_lt (fpl b hb)
    · rcases (f3 b hb).2.2.2.1 with z | z
      · exact I3.ok.noex b o e z
      · have h1 : b < X.base.objs.size := Heap.lt_size e
        exact absurd (Nat.lt_of_lt_of_le h1 (Nat.le_trans I3.ok.bsz z)) (Nat.lt_irrefl _)
    · obtain ⟨_, f1, f2, _⟩ := f3 b hb
      rcases List.mem_cons.mp (I3.stkSub b hs) with z | z
      · exact f1 z
      · exact f2 z
  have hCn : H3 C = none := by rw [eC]; exact I3.hok.fresh (Nat.le_refl _)
  have sl : js.length = cap.length := by have := congrArg List.length S.slots; simpa using this
  have I4 : Inv (cxCompF X (own ++ cap) sc s3 H3 C fp) [] (compStart own.length js σ) H3 { s3 with heap := h4, toks := tk } := by
    refine ⟨ok', rfl, I3.bare, Un.kept hk, ⟨m, hns, fun i x v e1 e2 hv => ?_⟩, fun x c e => ?_, hCn, fun x c e => I3.freeC x c (toL x c e), fun p hp => ?_, I3.hok.kept hk, ?_⟩
    · have e1 : (own ++ cap)[i]? = some x := e1
      unfold compStart at e2
      by_cases hi : i < own.length
      · rw [List.getElem?_append_left (by simpa using hi), List.getElem?_replicate, if_pos hi] at e2
        cases e2
      · rw [List.getElem?_append_right (by omega)] at e1
        rw [List.getElem?_append_right (by simpa using hi), List.length_replicate, List.getElem?_map] at e2
        obtain ⟨j, hj⟩ : ∃ j, js[i - own.length]? = some j := by
          cases q : js[i - own.length]? with
          | none => rw [q] at e2; cases e2
          | some j => exact ⟨j, rfl⟩
        rw [hj] at e2
        have e2 : (σ[j]?).join = some v := Option.some.inj e2
        have e3 : σ[j]? = some (some v) := by
          cases q : σ[j]? with
          | none => rw [q] at e2; cases e2
          | some z => rw [q] at e2; rw [show z = some v from e2]
        have hs := congrArg (fun l => l[i - own.length]?) S.slots
        simp only [List.getElem?_map, hj, e1, Option.map_some] at hs
        have hN : X.N[j]? = some x := Option.some.inj hs
        have hx : x ∈ cap := List.mem_of_getElem? e1
        obtain ⟨m2, hn2, hl2⟩ := I3.loc
        obtain ⟨u, ru, lk⟩ := hl2 j x v hN e3 (.inr (.inl (S.outer x hx)))
        refine ⟨u, ru, ?_⟩
        rcases lk with ⟨k1, _⟩ | ⟨_, c, hc1, hc2⟩
        · rw [S.outer x hx] at k1; cases k1
        · have hv : Vis (relabel sc X.env) x := hv
          have kd : (cxCompF X (own ++ cap) sc s3 H3 C fp).env.kindOf x = some .cell ∨ (cxCompF X (own ++ cap) sc s3 H3 C fp).env.kindOf x = some .free ∨ (cxCompF X (own ++ cap) sc s3 H3 C fp).env.kindOf x = some .local := by
            rcases hv with z | z | z
            · exact .inr (.inr z)
            · exact .inl z
            · exact .inr (.inl z)
          rcases kd with kd | kd | kd
          · obtain ⟨c', hc'⟩ := ok'.has x (.inl kd)
            have := toL x c' hc'
            rw [hc1] at this
            cases this
            exact .inr ⟨.inl kd, c, hc', hc2.keeps hk⟩
          · obtain ⟨c', hc'⟩ := ok'.has x (.inr kd)
            have := toL x c' hc'
            rw [hc1] at this
            cases this
            exact .inr ⟨.inr kd, c, hc', hc2.keeps hk⟩
          · have kd : (relabel sc X.env).names.lookup x = some .local := kd
            exact absurd kd (S.capk x hx)
    · obtain ⟨v, q⟩ := I3.cell x c (toL x c e)
      exact ⟨v, q.keeps hk⟩
    · have hp' : p ∈ ([] : List (Addr × Obj)) := hp
      cases hp'
    · show (compStart own.length js σ).length = (own ++ cap).length
      unfold compStart
      rw [List.length_append, List.length_replicate, List.length_map, List.length_append, sl]
  have fpS : ∀ {H' : Hp}, (∀ b ∈ fp, H' b = none) → ∀ b ∈ fp, FpOk (cxCompF X (own ++ cap) sc s3 H3 C fp) [] H' b := fun {H'} hn b hb => by
    refine ⟨hn b hb, ?_, fun hs => ok'.exfs b hb hs, .inl hb, fun x c e => (f3 b hb).2.2.2.2.1 x c (toL x c e), fun p hp => ?_⟩
    · show b ≠ C
      rw [eC]
      exact Nat.ne_of_lt (fpl b hb)
    · have hp' : p ∈ ([] : List (Addr × Obj)) := hp
      cases hp'
  have st4 : tn 0 h4 := T.keep 0 _ _ st3 fun b _ o e => hk b o e
  have loop : codeAny (model X.prog X.w) X.A (.compLoop (.ListComp elt [⟨tg, iter, ifs, 0⟩] sc pos) 0 (.ref it) (.ref D) (compEnvC sc (takenFrom X.env sc.names []) C X.env))
      (fun r s' => r = .ok .next ∧ ∃ m' H', s'.heap.Ns C m' ∧ s'.os = s3.os ∧ AllBare s'.gens ∧ Un (frs X.stack) fp H3 H' s3.heap s'.heap ∧ HOk X.prog X.w H' s'.heap ∧ H' C = none ∧ Qd H') { s3 with heap := h4, toks := tk } := by
    refine comp_loop (fun n s' => ∃ i σ' H', Inv (cxCompF X (own ++ cap) sc s3 H3 C fp) [] σ' H' s' ∧ tn i s'.heap ∧ (∀ b ∈ fp, H' b = none) ∧ W i n σ' H') ?_ m0 ⟨0, _, H3, I4, st4, fun b hb => (f3 b hb).1, w0⟩
    rintro n s' ⟨i, σ', H', J', st', fr', w'⟩
    rcases ask i n σ' H' w' with ⟨stop, qd⟩ | ⟨go, step⟩
    · refine thn (T.done (cxCompF X (own ++ cap) sc s3 H3 C fp) rfl rfl rfl hc i [] s' σ' H' _ J' (fpS fr') st' stop) fun r s1 zq282 => zq282.elim fun hr J1 => ?_
      subst hr
      obtain ⟨m1, hn1, _⟩ := J1.loc
      exact ⟨rfl, m1, H', hn1, J1.os, J1.bare, J1.base, J1.hok, J1.free, qd⟩
    · refine thn (T.item (cxCompF X (own ++ cap) sc s3 H3 C fp) rfl rfl rfl hc i [] s' σ' H' _ J' (fpS fr') st' go) fun r s1 zq283 => zq283.elim fun u zq284 => zq284.elim fun hr h1 => ?_
      subst hr
      refine thn h1 fun _ s2 zq285 => zq285.elim fun x zq286 => zq286.elim fun H5 zq287 => zq287.elim fun J5 zq288 => zq288.elim fun r5 zq289 => zq289.elim fun y5 zq290 => zq290.elim fun st5 fr5 => ?_
      have J5' := J5.pinned (fpS fr5) (T.obj _ _ st5)
      refine wpAny_mono (hg _ s2 σ' H5 x u _ J5' r5 (step x H5 y5)) (fun _ s6 zq291 => zq291.elim fun σ6 zq292 => zq292.elim fun H6 zq293 => zq293.elim fun J6 q6 => ?_) (fun _ _ z => z.elim)
      refine wpAny_mono (ht _ s6 σ6 H6 _ J6 q6) (fun ok s7 zq294 => zq294.elim fun H7 zq295 => zq295.elim fun J7 q7 => ?_) (fun _ _ z => z.elim)
      have again : ∀ {s9 : Shared} {H9 : Hp} {m' : Nat}, Inv (cxCompF X (own ++ cap) sc s3 H3 C fp) ([] ++ pinsAt fp s2.heap) σ6 H9 s9 → m' < n → W (i + 1) m' σ6 H9 →
          ∃ m, m < n ∧ ∃ i σ' H', Inv (cxCompF X (own ++ cap) sc s3 H3 C fp) [] σ' H' s9 ∧ tn i s9.heap ∧ (∀ b ∈ fp, H' b = none) ∧ W i m σ' H' := fun {s9 H9 m'} J9 hm w9 => by
        refine ⟨m', hm, i + 1, σ6, H9, J9.unpinned, T.keep _ _ _ st5 fun b hb o e => (J9.pin (b, o) (List.mem_append_right _ (List.mem_append_right _ (mem_pinsAt hb e)))).1, fun b hb => ?_, w9⟩
        obtain ⟨o, e, d⟩ := T.obj _ _ st5 b hb
        exact (J9.pin (b, o) (List.mem_append_right _ (List.mem_append_right _ (mem_pinsAt hb e)))).2.1
      cases ok with
      | false =>
        rw [if_neg Bool.false_ne_true] at q7 ⊢
        obtain ⟨m', hm, w7⟩ := q7
        exact again J7 hm w7
      | true =>
        rw [if_pos rfl] at q7 ⊢
        refine wpAny_mono (he _ s7 σ6 H7 _ J7 q7) (fun y s8 zq296 => zq296.elim fun yv zq297 => zq297.elim fun H8 zq298 => zq298.elim fun J8 zq299 => zq299.elim fun r8 zq300 => zq300.elim fun ys zq301 => zq301.elim fun hD8 zq302 => zq302.elim fun hz zq303 => zq303.elim fun m' zq304 => zq304.elim fun hm w8 => ?_) (fun _ _ z => z.elim)
        refine wpAny_mono (mt_append (X := cxCompF X (own ++ cap) sc s3 H3 C fp) _ s8 σ6 H8 (.ref D) [yv] (.ref D) [y] (fun v H9 => H9 = upd H8 D (.lst (ys ++ [yv]))) J8 rfl (.cons r8 .nil) ⟨D, ys, yv, rfl, rfl, hD8, hz, rfl⟩) (fun _ s9 zq305 => zq305.elim fun _ zq306 => zq306.elim fun H9 zq307 => zq307.elim fun J9 zq308 => zq308.elim fun _ eH => ?_) (fun _ _ z => z.elim)
        subst eH
        exact again J9 hm w8
  exact codeAny_compStart_list loop (T.self X.A 0 _ _ _ st4 loop)

/-- what stands behind the block, ahead of letting its names go -/
theorem comp_runF {elt tg iter : Expr} {ifs : List Expr} {sc : Scope} {pos : Pos} {own cap : List Str} {js : List Nat} {g : TG} {tt : TT} {te : TE} {it : Addr} {fp : List Addr} {tn : Nat → Heap → Prop} {J : It} {H2 : Hp} {s2 : Shared} {use : Option (Value → Sem Unit)} {Qr : Value → Shared → Prop} {Er : Value → Shared → Prop}
    {Q : V → Hp → Prop} (S : CompScopeF X own cap js sc) (hc : X.calm = true) (I2 : Inv X pins σ H2 s2) (T : Turn X.prog X.w X.K tg J fp it tn) (st2 : tn 0 s2.heap) (f2 : ∀ b ∈ fp, FpOk X pins H2 b)
    (hg : ∀ s₀ H₀ C ex, PG (cxCompF X (own ++ cap) sc s₀ H₀ C ex) tg g) (ht : ∀ s₀ H₀ C ex, PTs (cxCompF X (own ++ cap) sc s₀ H₀ C ex) ifs tt) (he : ∀ s₀ H₀ C ex, PE (cxCompF X (own ++ cap) sc s₀ H₀ C ex) elt te)
    (q2 : ∀ D, H2 D = none → ∃ W : Nat → Nat → St → Hp → Prop, (∃ m, W 0 m (compStart own.length js σ) (upd H2 D (.lst []))) ∧ CompAsk J g tt te D (fun H' => Q (.ref D) H') W)
    (fin : ∀ (D C : Addr) (H' : Hp) (s' : Shared) (m' : Str → Option Value), s2.heap.objs.size < C → s'.heap.Ns C m' → Inv X pins σ H' s' → H' C = none → Q (.ref D) H' → compPost (model X.prog X.w) X.A Er use Qr (.ref D) C (.ok .next) s') :
    wpAny (model X.prog X.w) X.A (newList []) (fun acc s₃ => wpAny (model X.prog X.w) X.A (newFunctionEnv sc X.env.globals (takenFrom X.env sc.names []) [] X.env.qual none .none (some X.env)) (fun cenv s₄ =>
      codeAny (model X.prog X.w) X.A (.compStart (.ListComp elt [⟨tg, iter, ifs, 0⟩] sc pos) 0 (.ref it) acc { cenv with scope := relabel sc X.env }) (compPost (model X.prog X.w) X.A Er use Qr acc cenv.locals) s₄) Er s₃) Er s2 := by
  have hDn : H2 s2.heap.objs.size = none := I2.fresh
  obtain ⟨W, ⟨m0, w0⟩, ask⟩ := q2 _ hDn
  have I3 := I2.lnew (ys := []) (its := []) (t' := s2.toks) .nil (Nat.zero_le _)
  have fpl : ∀ b ∈ fp, b < s2.heap.objs.size := fun b hb => by
    obtain ⟨o, e, _⟩ := T.obj 0 _ st2 b hb
    exact Heap.lt_size e
  have f3 : ∀ b ∈ fp, FpOk X pins (upd H2 s2.heap.objs.size (.lst [])) b := fun b hb => by
    refine ⟨?_, (f2 b hb).2⟩
    rw [upd_ne (Nat.ne_of_lt (fpl b hb))]
    exact (f2 b hb).1
  refine wpAny_newObj_type (hd := by size_fits) (wpAny_newFunctionEnv S.nocell (by intro y hy; simp at hy) (fun h4 hns hsb => ?_) S.kind)
  dsimp only at hns hsb ⊢
  have hkp : ∀ b o, (s2.heap.push { cls := .type "list", dict := none, data := .seq ([] : List Value).toArray }).get? b = some o → h4.get? b = some o := fun b o e =>
    hsb.extBut b o (Nat.ne_of_lt (Heap.lt_size e)) (Heap.get?_push_of_some _ e)
  have st3 : tn 0 (s2.heap.push { cls := .type "list", dict := none, data := .seq ([] : List Value).toArray }) := T.keep 0 _ _ st2 fun b _ o e => Heap.get?_push_of_some _ e
  refine codeAny_mono (comp_coreF (s3 := { s2 with heap := s2.heap.push { cls := .type "list", dict := none, data := .seq ([] : List Value).toArray } }) (tk := s2.toks + ([] : List (Str × Value)).length) S hc I3 T st3 f3 rfl hns hkp (hg _ _ _ _) (ht _ _ _ _) (he _ _ _ _) w0 ask) fun r s' hr => ?_
  obtain ⟨er, m', H', hn', os', bare', un', hok', free', qd⟩ := hr
  subst er
  have un1 : Un (frs X.stack) fp H2 (upd H2 s2.heap.objs.size (.lst [])) s2.heap (s2.heap.push { cls := .type "list", dict := none, data := .seq ([] : List Value).toArray }) := Un.laid (fun b o e => Heap.get?_push_of_some _ e) (Nat.le_refl _) hDn
  refine fin _ _ H' s' m' ?_ hn' (I2.call' (s' := s') (ch := fp) os' (un1.trans un') hok' bare' (fun b hb => ⟨(f2 b hb).2.2.2.1, (f2 b hb).2.1, (f2 b hb).2.2.2.2.1, (f2 b hb).2.2.2.2.2⟩)) free' qd
  show s2.heap.objs.size < (s2.heap.push { cls := .type "list", dict := none, data := .seq ([] : List Value).toArray }).objs.size
  rw [Heap.size_push]
  exact Nat.lt_succ_self _

/-- a block's frame is let go: the state around is as it was -/
theorem Inv.letGo {H : Hp} {s : Shared} {C : Addr} {h' : Heap} (I : Inv X pins σ H s) (sb : Heap.SameBut C s.heap h') (hn : H C = none) (h0 : X.s₀.heap.objs.size ≤ C) (h1 : C ≠ X.env.locals) (h2 : ∀ x c, X.env.cells.lookup x = some c → c ≠ C) (h3 : ∀ p ∈ X.pn ++ pins, p.1 ≠ C) :
    Inv X pins σ H { s with heap := h' } := by
  refine I.call' (s' := { s with heap := h' }) (ch := [C]) rfl ⟨fun b o e _ _ hb => ?_, fun b o e _ _ hb => ⟨o.slots, ?_⟩, fun _ _ _ n _ => n, fun b o e hb => ⟨o, ?_⟩, fun _ _ q => q, fun _ _ _ q => q, fun _ ps q => ⟨#[], by rw [q]; simp⟩⟩ (hok_but I.hok sb hn) I.bare (fun b hb => ?_)
  · exact (sb.2 b (by simpa using hb)).trans e
  · exact (sb.2 b (by simpa using hb)).trans e
  · exact (sb.2 b (by simpa using hb)).trans e
  · have : b = C := by simpa using hb
    subst this
    exact ⟨.inr h0, h1, h2, h3⟩
theorem Inv.goes {H2 H : Hp} {s2 s : Shared} {σ' : St} {C : Addr} {h' : Heap} (I2 : Inv X pins σ' H2 s2) (hC : s2.heap.objs.size < C) (I : Inv X pins σ H s) (sb : Heap.SameBut C s.heap h') (hn : H C = none) : Inv X pins σ H { s with heap := h' } := by
  refine I.letGo sb hn (Nat.le_of_lt (Nat.lt_of_le_of_lt I2.sz hC)) (Nat.ne_of_gt (Nat.lt_trans I2.lt hC)) (fun x c e z => ?_) (fun p hp z => ?_)
  · obtain ⟨v, q⟩ := I2.cell x c e
    exact absurd (Nat.lt_trans q.lt hC) (by rw [z]; exact Nat.lt_irrefl _)
  · exact absurd (Nat.lt_trans (Heap.lt_size (I2.pin p hp).1) hC) (by rw [z]; exact Nat.lt_irrefl _)

theorem CompScopeF.clos {own cap : List Str} {js : List Nat} {sc : Scope} (S : CompScopeF X own cap js sc) (ok : X.Ok) : closureFor sc X.env = pure (takenFrom X.env sc.names []) :=
  closureFor_taken fun y hy e => ok.has _ (.inl (S.outer _ (S.frees y hy e)))

theorem pe_compF {elt tg iter : Expr} {ifs : List Expr} {sc : Scope} {pos : Pos} (own cap : List Str) (js : List Nat) {wi : TI} {g : TG} {tt : TT} {te : TE} (S : CompScopeF X own cap js sc) (hc : X.calm = true) (hi : PI X tg iter wi)
    (hg : ∀ s₀ H₀ C ex, PG (cxCompF X (own ++ cap) sc s₀ H₀ C ex) tg g) (ht : ∀ s₀ H₀ C ex, PTs (cxCompF X (own ++ cap) sc s₀ H₀ C ex) ifs tt) (he : ∀ s₀ H₀ C ex, PE (cxCompF X (own ++ cap) sc s₀ H₀ C ex) elt te)
    (hs : ∀ x, foldedSetIterable iter X.env x = pure x := by intro _; rfl) : PE X (.ListComp elt [⟨tg, iter, ifs, 0⟩] sc pos) (tCompF wi own.length js g tt te) := by
  intro pins s σ H Q I h
  rw [eval_ListComp]
  refine wpAny_comprehension_free (use := none) rfl hs (S.clos I.ok) S.kind S.names (thn (hi pins s σ H _ I h) fun v s1 h1 => thn h1 fun itv s2 h2 => ?_)
  obtain ⟨it, fp, tn, J, H2, e, I2, T, st2, f2, q2⟩ := h2
  subst e
  refine comp_runF (Q := Q) S hc I2 T st2 f2 hg ht he q2 fun D C H' s' m' hC hn' I' free' qd => ?_
  exact ⟨m', hn', fun h' sb => ⟨.ref D, H', I2.goes hC I' sb free', rfl, qd⟩⟩

/-- x = [.. for ..], x a plain local name: stored ahead of letting the block's names go -/
theorem ps_setComp {i : Nat} {x : Str} {elt tg iter : Expr} {ifs : List Expr} {sc : Scope} {pos px ps : Pos} (own cap : List Str) (js : List Nat) {wi : TI} {g : TG} {tt : TT} {te : TE} (hN : X.N.Nodup) (hx : X.N[i]? = some x) (hl : X.env.scope.names.lookup x = some .local) (S : CompScopeF X own cap js sc) (hc : X.calm = true)
    (hi : PI X tg iter wi) (hg : ∀ s₀ H₀ C ex, PG (cxCompF X (own ++ cap) sc s₀ H₀ C ex) tg g) (ht : ∀ s₀ H₀ C ex, PTs (cxCompF X (own ++ cap) sc s₀ H₀ C ex) ifs tt) (he : ∀ s₀ H₀ C ex, PE (cxCompF X (own ++ cap) sc s₀ H₀ C ex) elt te)
    (hsw : swapsWith (.ListComp elt [⟨tg, iter, ifs, 0⟩] sc pos) (some (.Name x px)) ps.line X.env = pure true := by rfl)
    (hs : ∀ x, foldedSetIterable iter X.env x = pure x := by intro _; rfl) : PS X (.Assign [.Name x px] (.ListComp elt [⟨tg, iter, ifs, 0⟩] sc pos) ps) (tAsg (tCompF wi own.length js g tt te) (gName i)) := by
  intro pins s σ H D I h
  rw [exec_Assign_Name_used _ _ _ _ hsw]
  refine wpAny_bind (wpAny_standAt (wpAny_bind ?_))
  show wpAny _ X.A (do let _ ← comprehension (.ListComp elt [⟨tg, iter, ifs, 0⟩] sc pos) sc X.env _ (newList []) false (eval iter X.env) (some (assign (.Name x px) X.env))) _ _ s
  refine wpAny_bind (wpAny_mono (wpAny_comprehension_free (use := some (assign (.Name x px) X.env)) (Q := fun _ s' => ∃ σ' H', Inv X pins σ' H' s' ∧ D.nx σ' H') rfl hs (S.clos I.ok) S.kind S.names
    (thn (hi pins s σ H _ I h) fun v s1 h1 => thn h1 fun itv s2 h2 => ?_)) (fun _ s' hq => wpAny_pure (wpAny_pure hq)) fun _ _ e => e)
  obtain ⟨it, fp, tn, J, H2, e, I2, T, st2, f2, q2⟩ := h2
  subst e
  refine comp_runF (Q := fun v H1 => gName i v σ H1 D.nx) S hc I2 T st2 f2 hg ht he q2 fun D' C H' s' m' hC hn' I' free' qd => ?_
  show wpAny _ X.A (assign (.Name x px) X.env (.ref D')) _ _ s'
  refine wpAny_assign_Name (store_ok2 (v := .ref D') I' hN hx (.inl hl) rfl (fun s'' I'' zq309 => zq309.elim fun a zq310 => zq310.elim fun sb ha => ?_) (.inr hl))
  have ne : C ≠ a := by
    rcases ha with z | z
    · rw [z]; exact Nat.ne_of_gt (Nat.lt_trans I2.lt hC)
    · obtain ⟨v, q⟩ := I2.cell x a z
      exact Nat.ne_of_gt (Nat.lt_trans q.lt hC)
  exact ⟨m', hn'.sameBut sb ne, fun h' sb' => ⟨_, H', I2.goes hC I'' sb' free', qd⟩⟩
end
end L2

set_option Elab.async false
set_option linter.all false
set_option maxRecDepth 100000
set_option maxHeartbeats 4000000

namespace L2
open PySem PySem.Spec PyProof.Rows
section
variable {X : Cx} {e k : Expr} {te tk : TE} {pos p2 : Pos}
end

section
variable {X : Cx} {a b c d : Expr} {ta tb tc td : TE} {pos : Pos}
end
end L2

set_option Elab.async false
set_option linter.all false
set_option maxRecDepth 100000
set_option maxHeartbeats 4000000

namespace L2
open PySem PySem.Spec PyProof.Rows
/-! ### what is new stands in some heap over the one ahead -/
noncomputable abbrev New (H : Hp) (o : HO) (Q : V → Hp → Prop) : Prop := ∀ p H', H p = none → Same H H' → H' p = some o → Q (.ref p) H'
theorem New.at {H : Hp} {o : HO} {Q : V → Hp → Prop} (h : New H o Q) : ∀ p, H p = none → Q (.ref p) (upd H p o) := fun p hp => h p _ hp (same_upd hp) upd_same
theorem OpR.weak {X : Cx} {f : Value → Value → Sem Value} {r r' : R2} (h : OpR X f r) (w : ∀ x y H Q, r' x y H Q → r x y H Q) : OpR X f r' := fun pins s σ H x y v u Q I rx ry q => h pins s σ H x y v u Q I rx ry (w _ _ _ _ q)
theorem CallR.weak {X : Cx} {f : Value} {r r' : List V → Hp → VK → Prop} (h : CallR X f r) (w : ∀ xs H Q, r' xs H Q → r xs H Q) : CallR X f r' := fun pins s σ H xs us Q I rx q => h pins s σ H xs us Q I rx (w _ _ _ q)
section
variable {X : Cx} {e k : Expr} {es : List Expr} {te tk : TE} {t : TA} {pos p2 : Pos}
noncomputable def rCatN : R2 := fun x y H Q => ∃ l b xs zs, x = .ref l ∧ y = .ref b ∧ H l = some (.lst xs) ∧ H b = some (.lst zs) ∧ xs.length + zs.length ≤ sizeLine ∧ New H (.lst (xs ++ zs)) Q
theorem op_catN : OpR X (binaryOp .Add) rCatN := op_cat.weak fun x y H Q zq311 => zq311.elim fun l zq312 => zq312.elim fun b zq313 => zq313.elim fun xs zq314 => zq314.elim fun zs zq315 => zq315.elim fun a1 zq316 => zq316.elim fun a2 zq317 => zq317.elim fun a3 zq318 => zq318.elim fun a4 zq319 => zq319.elim fun a5 a6 => ⟨l, b, xs, zs, a1, a2, a3, a4, a5, a6.at⟩
theorem call_listN : CallR X (.type "list") (fun xs H Q => ∃ p ys, xs = [.ref p] ∧ (SqL X.K H p ys ∨ SqT X.K H p ys) ∧ New H (.lst ys) Q) := call_list_of.weak fun xs H Q zq320 => zq320.elim fun p zq321 => zq321.elim fun ys zq322 => zq322.elim fun a1 zq323 => zq323.elim fun a2 a3 => ⟨p, ys, a1, a2, a3.at⟩
noncomputable def tTupN (t : TA) : TE := fun σ H Q => t σ H fun xs H1 => xs.length ≤ sizeLine ∧ New H1 (.tup xs) Q
noncomputable def tLstN (t : TA) : TE := fun σ H Q => t σ H fun xs H1 => xs.length ≤ sizeLine ∧ New H1 (.lst xs) Q
theorem PA.thn {t : TA} (h : PA X es t) {A : Hp → Prop} {F : VK → List V → Hp → Prop} {G : VK → List V → Hp → Prop} (w : ∀ Q xs H, F Q xs H → G Q xs H) : PA X es (fun σ H R => ∃ Q : VK, t σ H (F Q) ∧ R = G Q) := by
  intro pos pins s σ H R I ⟨Q, q, e⟩
  subst e
  exact L2.thn (h pos pins s σ H _ I q) fun us s1 zq324 => zq324.elim fun vs zq325 => zq325.elim fun H1 zq326 => zq326.elim fun I1 zq327 => zq327.elim fun r1 q1 => ⟨vs, H1, I1, r1, w _ _ _ q1⟩
theorem pe_tupN {x1} (h : PA X es t) : PE X (.Tuple es x1 pos) (tTupN t) := by
  intro pins s σ H Q I q
  exact pe_tup (PA.thn (A := fun _ => True) (F := fun Q xs H1 => xs.length ≤ sizeLine ∧ New H1 (.tup xs) Q) (G := fun Q xs H1 => xs.length ≤ sizeLine ∧ ∀ p, H1 p = none → Q (.ref p) (upd H1 p (.tup xs))) h (fun Q xs H zq328 => zq328.elim fun a b => ⟨a, b.at⟩)) pins s σ H Q I ⟨Q, q, rfl⟩
theorem pe_lstN (h : PA X es t) : PE X (.List es pos) (tLstN t) := by
  intro pins s σ H Q I q
  exact pe_lst (PA.thn (A := fun _ => True) (F := fun Q xs H1 => xs.length ≤ sizeLine ∧ New H1 (.lst xs) Q) (G := fun Q xs H1 => xs.length ≤ sizeLine ∧ ∀ p, H1 p = none → Q (.ref p) (upd H1 p (.lst xs))) h (fun Q xs H zq329 => zq329.elim fun a b => ⟨a, b.at⟩)) pins s σ H Q I ⟨Q, q, rfl⟩
end

/-! ### comprehensions: the shapes one uses -/
section
variable {g : TG} {tt : TT} {te : TE} {H1 : Hp} {Q : Addr → Hp → Prop}
/-- S: what is known of the names; P: of what was made so far -/
theorem comp_rangeG {lo : Int} {n : Nat} {σ0 : St} (S : St → Prop) (P : Nat → List V → Hp → Prop) (s0 : S σ0) (st : ∀ D, H1 D = none → P 0 [] (upd H1 D (.lst [])))
    (turn : ∀ D i ys σ H (k : St → V → Hp → Prop) (k' : St → Hp → Prop), H1 D = none → i < n → S σ → H D = some (.lst ys) → Same H1 H → P i ys H →
      (∀ σ3 y H5, S σ3 → Same H H5 → ys.length < sizeLine → P (i + 1) (ys ++ [y]) (upd H5 D (.lst (ys ++ [y]))) → k σ3 y H5) → (∀ σ3 H4, S σ3 → Same H H4 → P (i + 1) ys H4 → k' σ3 H4) →
      g (.int (lo + i)) σ H fun σ3 H3 => tt σ3 H3 fun ok H4 => if ok = true then te σ3 H4 (k σ3) else k' σ3 H4)
    (done : ∀ D ys H, H1 D = none → H D = some (.lst ys) → Same H1 H → P n ys H → Q D H) :
    ∀ D, H1 D = none → ∃ W : Nat → Nat → St → Hp → Prop, (∃ m, W 0 m σ0 (upd H1 D (.lst []))) ∧ CompAsk (Itr lo n) g tt te D (fun H' => Q D H') W := by
  intro D hD
  refine ⟨fun i m σ H => m = n - i ∧ i ≤ n ∧ S σ ∧ ∃ ys, H D = some (.lst ys) ∧ Same H1 H ∧ P i ys H, ⟨n, by simp, Nat.zero_le _, s0, [], upd_same, same_upd hD, st D hD⟩, ?_⟩
  rintro i m σ H ⟨rfl, hi, hS, ys, hd, hs, hp⟩
  by_cases hlt : i < n
  · refine .inr ⟨hlt, fun x H2 hy => ?_⟩
    obtain ⟨e1, e2⟩ := hy
    subst e1 e2
    exact turn D i ys σ _ (fun σ3 y H5 => ∃ ys, H5 D = some (.lst ys) ∧ ys.length < sizeLine ∧ ∃ m', m' < n - i ∧ (m' = n - (i + 1) ∧ i + 1 ≤ n ∧ S σ3 ∧ ∃ zs, upd H5 D (.lst (ys ++ [y])) D = some (.lst zs) ∧ Same H1 (upd H5 D (.lst (ys ++ [y]))) ∧ P (i + 1) zs (upd H5 D (.lst (ys ++ [y])))))
      (fun σ3 H4 => ∃ m', m' < n - i ∧ (m' = n - (i + 1) ∧ i + 1 ≤ n ∧ S σ3 ∧ ∃ zs, H4 D = some (.lst zs) ∧ Same H1 H4 ∧ P (i + 1) zs H4)) hD hlt hS hd hs hp
      (fun σ3 y H5 a1 a2 a3 a4 => ⟨ys, a2 _ _ hd, a3, n - (i + 1), by omega, rfl, hlt, a1, ys ++ [y], upd_same, same_upd' (hs.trans a2) hD, a4⟩)
      (fun σ3 H4 a1 a2 a3 => ⟨n - (i + 1), by omega, rfl, hlt, a1, ys, a2 _ _ hd, hs.trans a2, a3⟩)
  · have e : i = n := by omega
    subst e
    exact .inl ⟨Nat.le_refl _, done D ys H hD hd hs hp⟩
theorem comp_listG {K : PySem.W.Frag} {a : Addr} {xs : List V} {σ0 : St} (hx : SqL K H1 a xs) (S : St → Prop) (P : Nat → List V → Hp → Prop) (s0 : S σ0) (st : ∀ D, H1 D = none → P 0 [] (upd H1 D (.lst [])))
    (turn : ∀ D i x ys σ H (k : St → V → Hp → Prop) (k' : St → Hp → Prop), H1 D = none → xs[i]? = some x → S σ → H D = some (.lst ys) → Same H1 H → P i ys H →
      (∀ σ3 y H5, S σ3 → Same H H5 → ys.length < sizeLine → P (i + 1) (ys ++ [y]) (upd H5 D (.lst (ys ++ [y]))) → k σ3 y H5) → (∀ σ3 H4, S σ3 → Same H H4 → P (i + 1) ys H4 → k' σ3 H4) →
      g x σ H fun σ3 H3 => tt σ3 H3 fun ok H4 => if ok = true then te σ3 H4 (k σ3) else k' σ3 H4)
    (done : ∀ D ys H, H1 D = none → H D = some (.lst ys) → Same H1 H → P xs.length ys H → Q D H) :
    ∀ D, H1 D = none → ∃ W : Nat → Nat → St → Hp → Prop, (∃ m, W 0 m σ0 (upd H1 D (.lst []))) ∧ CompAsk (Itl K a) g tt te D (fun H' => Q D H') W := by
  intro D hD
  refine ⟨fun i m σ H => m = xs.length - i ∧ i ≤ xs.length ∧ S σ ∧ ∃ ys, H D = some (.lst ys) ∧ Same H1 H ∧ P i ys H, ⟨xs.length, by simp, Nat.zero_le _, s0, [], upd_same, same_upd hD, st D hD⟩, ?_⟩
  rintro i m σ H ⟨rfl, hi, hS, ys, hd, hs, hp⟩
  have q : SqL K H a xs := Same.seq hs hx
  by_cases hlt : i < xs.length
  · refine .inr ⟨⟨xs, xs[i], q, by simp [hlt]⟩, fun x H2 hy => ?_⟩
    obtain ⟨e1, e2⟩ := hy
    subst e1
    exact turn D i x ys σ _ (fun σ3 y H5 => ∃ ys, H5 D = some (.lst ys) ∧ ys.length < sizeLine ∧ ∃ m', m' < xs.length - i ∧ (m' = xs.length - (i + 1) ∧ i + 1 ≤ xs.length ∧ S σ3 ∧ ∃ zs, upd H5 D (.lst (ys ++ [y])) D = some (.lst zs) ∧ Same H1 (upd H5 D (.lst (ys ++ [y]))) ∧ P (i + 1) zs (upd H5 D (.lst (ys ++ [y])))))
      (fun σ3 H4 => ∃ m', m' < xs.length - i ∧ (m' = xs.length - (i + 1) ∧ i + 1 ≤ xs.length ∧ S σ3 ∧ ∃ zs, H4 D = some (.lst zs) ∧ Same H1 H4 ∧ P (i + 1) zs H4)) hD (e2 xs q) hS hd hs hp
      (fun σ3 y H5 a1 a2 a3 a4 => ⟨ys, a2 _ _ hd, a3, xs.length - (i + 1), by omega, rfl, hlt, a1, ys ++ [y], upd_same, same_upd' (hs.trans a2) hD, a4⟩)
      (fun σ3 H4 a1 a2 a3 => ⟨xs.length - (i + 1), by omega, rfl, hlt, a1, ys, a2 _ _ hd, hs.trans a2, a3⟩)
  · have e : i = xs.length := by omega
    subst e
    exact .inl ⟨⟨xs, q, Nat.le_refl _⟩, done D ys H hD hd hs hp⟩
theorem comp_range0 {lo : Int} {n : Nat} {σ0 : St} (S : St → Prop) (P : Nat → List V → Hp → Prop) (s0 : S σ0) (st : ∀ D, H1 D = none → P 0 [] (upd H1 D (.lst [])))
    (turn : ∀ D i ys σ H (k : St → V → Hp → Prop), H1 D = none → i < n → S σ → H D = some (.lst ys) → Same H1 H → P i ys H →
      (∀ σ3 y H5, S σ3 → Same H H5 → ys.length < sizeLine → P (i + 1) (ys ++ [y]) (upd H5 D (.lst (ys ++ [y]))) → k σ3 y H5) → g (.int (lo + i)) σ H fun σ3 H3 => te σ3 H3 (k σ3))
    (done : ∀ D ys H, H1 D = none → H D = some (.lst ys) → Same H1 H → P n ys H → Q D H) :
    ∀ D, H1 D = none → ∃ W : Nat → Nat → St → Hp → Prop, (∃ m, W 0 m σ0 (upd H1 D (.lst []))) ∧ CompAsk (Itr lo n) g tTrue te D (fun H' => Q D H') W :=
  comp_rangeG S P s0 st (fun D i ys σ H k k' a1 a2 a3 a4 a5 a6 a7 _ => turn D i ys σ H k a1 a2 a3 a4 a5 a6 a7) done
theorem comp_list0 {K : PySem.W.Frag} {a : Addr} {xs : List V} {σ0 : St} (hx : SqL K H1 a xs) (S : St → Prop) (P : Nat → List V → Hp → Prop) (s0 : S σ0) (st : ∀ D, H1 D = none → P 0 [] (upd H1 D (.lst [])))
    (turn : ∀ D i x ys σ H (k : St → V → Hp → Prop), H1 D = none → xs[i]? = some x → S σ → H D = some (.lst ys) → Same H1 H → P i ys H →
      (∀ σ3 y H5, S σ3 → Same H H5 → ys.length < sizeLine → P (i + 1) (ys ++ [y]) (upd H5 D (.lst (ys ++ [y]))) → k σ3 y H5) → g x σ H fun σ3 H3 => te σ3 H3 (k σ3))
    (done : ∀ D ys H, H1 D = none → H D = some (.lst ys) → Same H1 H → P xs.length ys H → Q D H) :
    ∀ D, H1 D = none → ∃ W : Nat → Nat → St → Hp → Prop, (∃ m, W 0 m σ0 (upd H1 D (.lst []))) ∧ CompAsk (Itl K a) g tTrue te D (fun H' => Q D H') W :=
  comp_listG hx S P s0 st (fun D i x ys σ H k k' a1 a2 a3 a4 a5 a6 a7 _ => turn D i x ys σ H k a1 a2 a3 a4 a5 a6 a7) done
end
end L2

set_option Elab.async false
set_option linter.all false
set_option maxRecDepth 100000
set_option maxHeartbeats 4000000
namespace Lcp
open PySem
end Lcp

set_option Elab.async false
set_option linter.all false
set_option maxRecDepth 100000
set_option maxHeartbeats 4000000
namespace L2
open PySem PySem.Spec PyProof.Rows
/-! ### lines: texts that are short enough and good; lists of them -/
structure Ln (x : Str) : Prop where
  ok : TxtOk x
  len : x.length ≤ 60
structure Lns (xs : List Str) : Prop where
  len : xs.length ≤ 20
  all : ∀ x ∈ xs, Ln x
theorem lnOk_of {x : Str} (h : (PyData.strOk x && decide (x.length ≤ 60)) = true) : Ln x := by
  rw [Bool.and_eq_true] at h
  exact ⟨h.1, of_decide_eq_true h.2⟩
noncomputable abbrev LinesNew (H : Hp) (Q : V → Hp → Prop) : Prop := ∀ l H' xs, H l = none → Same H H' → H' l = some (.lst (xs.map V.str)) → Lns xs → Q (.ref l) H'
theorem atI_strs {xs : List Str} {r : Int} (h0 : 0 ≤ r) (h1 : r < xs.length) : ∃ z, atI (xs.map V.str) r = some (V.str z) ∧ xs[r.toNat]? = some z := by
  obtain ⟨v, e, e2⟩ := atI_in (xs := xs.map V.str) h0 (by rw [List.length_map]; exact h1)
  rw [List.getElem?_map] at e2
  cases q : xs[r.toNat]? with
  | none => rw [q] at e2; cases e2
  | some z =>
    rw [q] at e2
    cases e2
    exact ⟨z, e, rfl⟩
theorem strs_snoc (xs : List Str) (y : Str) : xs.map V.str ++ [V.str y] = (xs ++ [y]).map V.str := by rw [List.map_append]; rfl
theorem smallL {n : Nat} (h : n ≤ 1000) : n ≤ sizeLine := Nat.le_of_lt (small1000 h)
theorem Lns.app_mem {xs ys : List Str} (h : ∀ x ∈ xs, Ln x) (h' : ∀ x ∈ ys, Ln x) : ∀ x ∈ xs ++ ys, Ln x := fun x hx => (List.mem_append.mp hx).elim (h x) (h' x)
/-- deep data of a list of texts -/
noncomputable abbrev dS (xs : List Str) : PySem.W.Dat := .list (xs.map PySem.W.Dat.str)
theorem dS_dv {K : PySem.W.Frag} {H : Hp} {a : Addr} {xs : List Str} (h : SqL K H a (xs.map V.str)) : DV K H (.ref a) (dS xs) := .lst h (dvs_strs xs)
theorem dS_ok (n : Nat) {xs : List Str} (h : ∀ x ∈ xs, Ln x) : PySem.W.kqdOk (n + 1) (dS xs) = true := by
  simp only [dS, PySem.W.kqdOk, List.all_eq_true, List.mem_map]
  rintro d ⟨x, hx, rfl⟩
  cases n with
  | zero => exact (h x hx).ok
  | succ n => exact (h x hx).ok
end L2
namespace L2
open PySem PySem.Spec PyProof.Rows
end L2

set_option Elab.async false
set_option linter.all false
set_option maxRecDepth 100000
set_option maxHeartbeats 4000000
namespace Lcp
open PySem L2
end Lcp
namespace L2
open PySem PySem.Spec PyProof.Rows Lcp
end L2

set_option Elab.async false
set_option linter.all false
set_option maxRecDepth 100000
set_option maxHeartbeats 4000000
namespace L2
open PySem PySem.Spec PyProof.Rows
/-! ### str.join -/
section
variable {X : Cx}
theorem strsAre_of {ys : List Str} : ∀ {us : List Value}, Vals (ys.map V.str) us → StrsAre us ys := by
  induction ys with
  | nil => intro us r; rw [List.map_nil] at r; cases r; exact .nil
  | cons n ns ih =>
    intro us r
    rw [List.map_cons] at r
    cases r with
    | cons r1 r2 =>
      obtain ⟨t, e⟩ := r1
      subst e
      exact .cons n t (ih r2)
noncomputable def rJoin (K : PySem.W.Frag) : V → List V → Hp → VK → Prop := fun x vs H Q => ∃ sep p ys, x = .str sep ∧ vs = [.ref p] ∧ SqL K H p (ys.map V.str) ∧ (ys.map (·.length)).sum + ys.length * sep.length ≤ 16777216 ∧ Q (.str (Txt.join sep ys)) H
theorem mt_join : MtM X "str.join" (rJoin X.K) := by
  intro pins s σ H x xs v us Q I rx rs h
  obtain ⟨sep, p, ys, rfl, rfl, hp, hz, q⟩ := h
  obtain ⟨t, rfl⟩ := rx
  cases rs with
  | cons r1 r2 =>
    cases r1
    cases r2
    obtain ⟨its, r, ht, _⟩ := I.list hp
    exact join_list ht.isList (by simpa using strsAre_of r) hz fun t' k => ⟨.str _, H, I.tok k, ⟨_, rfl⟩, q⟩
end
/-! ### the same rules with the fragment named: for what stands within a comprehension -/
section
variable {X : Cx} {K : PySem.W.Frag}
theorem ix_listK (K : PySem.W.Frag) (h : X.K = K := by rfl) : IxR X (rIxL K) := h ▸ ix_list
theorem ix_tupK (K : PySem.W.Frag) (h : X.K = K := by rfl) : IxR X (rIxT K) := h ▸ ix_tup
theorem op_inK (K : PySem.W.Frag) (h : X.K = K := by rfl) : OpR X (compareOp .In) (rIn K false) := h ▸ op_in_seq
end
theorem sum_le {ys : List Str} {b : Nat} (h : ∀ y ∈ ys, y.length ≤ b) : (ys.map (·.length)).sum ≤ ys.length * b := by
  induction ys with
  | nil => simp
  | cons y ys ih =>
    have h1 := h y List.mem_cons_self
    have h2 := ih fun z hz => h z (List.mem_cons_of_mem _ hz)
    simp only [List.map_cons, List.sum_cons, List.length_cons, Nat.succ_mul]
    omega
theorem join_len {ys : List Str} {sep : Str} : (Txt.join sep ys).length ≤ (ys.map (·.length)).sum + ys.length * sep.length := by
  have e : Txt.join sep ys = Str.join sep ys := StrLaws.glued_eq_join sep ys
  rw [e]
  cases ys with
  | nil => exact Nat.zero_le _
  | cons a l =>
    rw [len_join_cons]
    simp only [List.length_cons, Nat.succ_mul]
    omega
theorem txtOk_empty : TxtOk Str.empty := by decide +kernel
theorem txtOk_join {sep : Str} (hs : TxtOk sep) : ∀ {ys : List Str}, (∀ y ∈ ys, TxtOk y) → TxtOk (Txt.join sep ys) := by
  intro ys h
  have e : Txt.join sep ys = Str.join sep ys := StrLaws.glued_eq_join sep ys
  rw [e]
  clear e
  induction ys with
  | nil => exact txtOk_empty
  | cons a l ih =>
    cases l with
    | nil => exact h a List.mem_cons_self
    | cons b r =>
      show TxtOk (a ++ sep ++ Str.join sep (b :: r))
      exact txtOk_app (txtOk_app (h a List.mem_cons_self) hs) (ih fun y hy => h y (List.mem_cons_of_mem _ hy))
end L2
namespace Lcp
open PySem L2
end Lcp

set_option Elab.async false
set_option linter.all false
set_option maxRecDepth 100000
set_option maxHeartbeats 4000000

namespace L2
open PySem PySem.Spec PyProof.Rows
section
variable {X : Cx} {pins : List (Addr × Obj)} {σ : St} {H : Hp} {s : Shared}

/-! ### a tracked dict, kept as it is for a while: frozen, and let go -/
theorem Inv.rehp {H' : Hp} (I : Inv X pins σ H s) (h0 : ∀ b, H b = none → H' b = none) (ht : ∀ b xs, H b = some (.tup xs) → H' b = some (.tup xs)) (hf : ∀ b o u, X.H₀ b = some (.frz o u) → H' b = some (.frz o u))
    (hb : ∀ b ps, H b = some (.tbl ps) → H' b = some (.tbl ps)) (hok : HOk X.prog X.w H' s.heap) : Inv X pins σ H' s :=
  ⟨I.ok, I.os, I.bare, ⟨I.base.keep, I.base.slot, fun b o e n hx => h0 b (I.base.free b o e n hx), I.base.there, fun b xs e => ht b xs (I.base.tups b xs e), hf, fun b ps e => (I.base.tbls b ps e).elim fun m q => ⟨m, hb _ _ q⟩⟩, I.loc, I.cell, h0 _ I.free,
    fun x c e => h0 _ (I.freeC x c e), fun p hp => ⟨(I.pin p hp).1, h0 _ (I.pin p hp).2.1, (I.pin p hp).2.2⟩, hok, I.len⟩
theorem Inv.freeze {d : Addr} {kvs : List (Key × V)} {o : Obj} (I : Inv X pins σ H s) (e : H d = some (.dK kvs)) (ho : s.heap.get? d = some o) : Inv X pins σ (upd H d (.frz o (.dK kvs))) s := by
  have ne : ∀ b u, H b = some u → (∀ ks, u ≠ .dK ks) → b ≠ d := fun b u q hu z => by rw [z, e] at q; cases q; exact hu _ rfl
  refine I.rehp (fun b q => ?_) (fun b xs q => ?_) (fun b o' u q => ?_) (fun b ps q => ?_) fun b u q => ?_
  · rw [upd_ne (fun z => by rw [z, e] at q; cases q)]; exact q
  · rw [upd_ne (ne b _ q (by intro ks z; cases z))]; exact q
  · have q := I.base.frzs b o' u q
    rw [upd_ne (ne b _ q (by intro ks z; cases z))]; exact q
  · rw [upd_ne (ne b _ q (by intro ks z; cases z))]; exact q
  · have up : ∀ {c : Addr} {w : HO}, H c = some w → (∀ ks, w ≠ .dK ks) → upd H d (.frz o (.dK kvs)) c = some w := fun {c w} hc hw => by rw [upd_ne (ne c _ hc hw)]; exact hc
    by_cases z : b = d
    · subst z
      rw [upd_same] at q
      cases q
      exact ⟨ho, (I.hok b _ e).stay (fun _ _ _ q => q) (fun c hc => up hc (by intro ks z; cases z)) fun c xs hc => up hc (by intro ks z; cases z)⟩
    · rw [upd_ne z] at q
      exact (I.hok b _ q).stay (fun _ _ _ q => q) (fun c hc => up hc (by intro ks z; cases z)) fun c xs hc => up hc (by intro ks z; cases z)
theorem Inv.thaw {d : Addr} {kvs : List (Key × V)} {o : Obj} (I : Inv X pins σ H s) (e : H d = some (.frz o (.dK kvs))) (hz : ∀ o' u, X.H₀ d ≠ some (.frz o' u)) : Inv X pins σ (upd H d (.dK kvs)) s := by
  have ne : ∀ b u, H b = some u → (∀ o' u', u ≠ .frz o' u') → b ≠ d := fun b u q hu z => by rw [z, e] at q; cases q; exact hu _ _ rfl
  have up : ∀ {c : Addr} {w : HO}, H c = some w → (∀ o' u', w ≠ .frz o' u') → upd H d (.dK kvs) c = some w := fun {c w} hc hw => by rw [upd_ne (ne c _ hc hw)]; exact hc
  refine I.rehp (fun b q => ?_) (fun b xs q => up q (by intro _ _ z; cases z)) (fun b o' u q => ?_) (fun b ps q => up q (by intro _ _ z; cases z)) fun b u q => ?_
  · rw [upd_ne (fun z => by rw [z, e] at q; cases q)]; exact q
  · have nb : b ≠ d := fun z => hz o' u (z ▸ q)
    rw [upd_ne nb]; exact I.base.frzs b o' u q
  · by_cases z : b = d
    · subst z
      rw [upd_same] at q
      cases q
      exact (show ObjOk X.prog X.w H s.heap b (.dK kvs) from (show ObjOk X.prog X.w H s.heap b (.frz o (.dK kvs)) from I.hok b _ e).2).stay (fun _ _ _ q => q) (fun c hc => up hc (by intro _ _ z; cases z)) fun c xs hc => up hc (by intro _ _ z; cases z)
    · rw [upd_ne z] at q
      exact (I.hok b _ q).stay (fun _ _ _ q => q) (fun c hc => up hc (by intro _ _ z; cases z)) fun c xs hc => up hc (by intro _ _ z; cases z)
/-- an untracked object, young enough, is tracked from now on -/
theorem Inv.track {a : Addr} {o : HO} (I : Inv X pins σ H s) (hn : H a = none) (h0 : X.s₀.heap.objs.size ≤ a) (h1 : a ≠ X.env.locals) (h2 : ∀ x c, X.env.cells.lookup x = some c → c ≠ a) (h3 : ∀ p ∈ X.pn ++ pins, p.1 ≠ a)
    (new : ObjOk X.prog X.w (upd H a o) s.heap a o) : Inv X pins σ (upd H a o) s := by
  have up : ∀ {c : Addr} {w : HO}, H c = some w → upd H a o c = some w := fun {c w} hc => by rw [upd_ne (ne_of_none hc hn)]; exact hc
  refine ⟨I.ok, I.os, I.bare, ⟨I.base.keep, I.base.slot, fun b ob e n hx => ?_, I.base.there, fun b xs e => up (I.base.tups b xs e), fun b o' u e => up (I.base.frzs b o' u e), fun b ps e => (I.base.tbls b ps e).elim fun m q => ⟨m, up q⟩⟩, I.loc, I.cell, ?_, fun x c e => ?_,
    fun p hp => ⟨(I.pin p hp).1, ?_, (I.pin p hp).2.2⟩, fun b u q => ?_, I.len⟩
  · rw [upd_ne (Nat.ne_of_lt (Nat.lt_of_lt_of_le (Heap.lt_size e) h0))]
    exact I.base.free b ob e n hx
  · rw [upd_ne (Ne.symm h1)]; exact I.free
  · rw [upd_ne (h2 x c e)]; exact I.freeC x c e
  · rw [upd_ne (h3 p hp)]; exact (I.pin p hp).2.1
  · by_cases z : b = a
    · subst z
      rw [upd_same] at q
      cases q
      exact new
    · rw [upd_ne z] at q
      exact (I.hok b _ q).stay (fun _ _ _ q => q) (fun c hc => up hc) fun c xs hc => up hc
end

/-! ### dict(d), d.clear(), d.setdefault(k, v) -/
section
variable {X : Cx}
theorem call_dictN : CallR X (.type "dict") (fun xs H Q => ∃ a kvs, xs = [.ref a] ∧ H a = some (.dK kvs) ∧ New H (.dK kvs) Q) := by
  intro pins s σ H xs us Q I r h
  obtain ⟨a, kvs, rfl, e, q⟩ := h
  obtain ⟨u, rfl, ru⟩ := vals1 r
  cases ru
  exact d_copyOf I (.inl e) fun p s' hp I' => ⟨.ref p, _, I', rfl, q.at p hp⟩
noncomputable def rDClear : V → List V → Hp → VK → Prop := fun x vs H Q => ∃ a kvs, x = .ref a ∧ vs = [] ∧ H a = some (.dK kvs) ∧ Q .non (upd H a (.dK []))
theorem mt_dclear : MtM X "dict.clear" rDClear := by
  intro pins s σ H x xs v us Q I rx rs h
  obtain ⟨a, kvs, rfl, rfl, e, q⟩ := h
  cases rx
  cases rs
  exact d_clear I e fun s' I' => ⟨.non, _, I', rfl, q⟩
theorem wpAny_dictSetDefault_pairs {prog : Program} {w : World} {K : Type} [DecidableEq K] {knd : KeyKind prog w K} {A : Around} {E : Value → Shared → Prop} {s : Shared} {d : Addr} {kvs : List (K × Value)} {k : K} {key dflt : Value} {Q : Value → Shared → Prop} (hkey : knd.is k key = true) (hm : s.heap.DictOf knd d kvs)
    (hthere : ∀ v, valueAt kvs k = some v → Q v { s with toks := s.toks + 1 })
    (hnew : valueAt kvs k = none → ∀ h', h'.DictOf knd d (kvs ++ [(k, dflt)]) → Heap.SameBut d s.heap h' → Q dflt { s with heap := h', toks := s.toks + 1 }) (hsz : kvs.length ≤ sizeLine) :
    wpAny (model prog w) A (dictSetDefault d key dflt) Q E s := by
  have hmap := hm.mapOf
  obtain ⟨o, es, ep, ho, hc, hd, hk, hp, hn⟩ := hm
  obtain ⟨o', es', ep', ho', hc', hd', hk', hf⟩ := hmap
  rw [ho] at ho'; cases ho'
  rw [hd] at hd'; cases hd'
  have hes : es.size ≤ sizeLine := by
    have e1 := hp.length
    have e2 : es.toList.length = es.size := by simp
    omega
  unfold dictSetDefault
  try with_reducible refine wpAny_holding ?_
  refine wpAny_bind (knd.pyHash hkey ?_)
  refine wpAny_bind (wpAny_dictFind_of (s := { s with toks := s.toks + 1 }) hkey ho hd hk ?_)
  have hidx : (es.findIdx? fun e => knd.is k e.key) = kvs.findIdx? fun kv => decide (kv.1 = k) := by
    rw [← hp.findIdx k]; obtain ⟨l⟩ := es; simp
  cases hi : es.findIdx? fun e => knd.is k e.key with
  | some i =>
    have hfk : valueAt kvs k = (es[i]?).map (·.val) := by rw [← hf k, findBy_of_findIdx?, hi]
    refine wpAny_bind (wpAny_dictEntries (s := { s with toks := s.toks + 1 }) ho hd ?_)
    cases he : es[i]? with
    | none =>
      exfalso
      have := Array.findIdx?_eq_some_iff_findIdx_eq.mp hi
      have hlt : i < es.size := this.1
      rw [Array.getElem?_eq_getElem hlt] at he
      exact nomatch he
    | some e =>
      rw [he] at hfk
      exact wpAny_bind (wpAny_rule (wpAny_pure (hthere e.val hfk)))
  | none =>
    have hfk : valueAt kvs k = none := by rw [← hf k, findBy_of_findIdx?, hi]
    have hnot : k ∉ kvs.map (·.1) := not_mem_of_findIdx_none (hidx ▸ hi)
    refine wpAny_bind (wpAny_rule (wpAny_bind (wpAny_updateDictKeys (hz := hes) (s := { s with toks := s.toks + 1 }) ho hd (wpAny_pure (hnew hfk _ ⟨_, _, ep + 1, Heap.get?_update_self _ ho (Obj.isFreed_of_dict (Obj.data_mapDictKeys hd _)),
      hc.mapDictKeys _, Obj.data_mapDictKeys hd _, hk.push hkey _, ?_, ?_⟩ (Heap.SameBut.update ..))))))
    · have := hp.append hkey (knd.hash k) dflt
      obtain ⟨l⟩ := es
      simpa using this
    · rw [List.map_append, List.nodup_append]
      refine ⟨hn, by simp, ?_⟩
      intro a ha b hb
      simp only [List.map_cons, List.map_nil, List.mem_singleton] at hb
      subst hb
      exact fun e => hnot (e ▸ ha)
theorem meets_setdefault {prog : Program} {w : World} {K : Type} [DecidableEq K] {knd : KeyKind prog w K} {d : Addr} {k : K} {key : Value} (hkey : knd.is k key = true) (hd : (d == sysModules) = false) (dflt : Value) :
    MeetsIn prog w (Builtin.«dict.setdefault» ⟨[.ref d, key, dflt], []⟩) (fun _ R s => ∃ kvs, s.heap.DictOf knd d kvs ∧ kvs.length ≤ sizeLine ∧
      (∀ v, valueAt kvs k = some v → R (.ok (.ret v)) { s with toks := s.toks + 1 }) ∧
      (valueAt kvs k = none → ∀ h', h'.DictOf knd d (kvs ++ [(k, dflt)]) → Heap.SameBut d s.heap h' → R (.ok (.ret dflt)) { s with heap := h', toks := s.toks + 1 })) :=
  .of_wp fun A R s zq330 => zq330.elim fun kvs zq331 => zq331.elim fun hm zq332 => zq332.elim fun hz zq333 => zq333.elim fun h1 h2 => by
    unfold Builtin.«dict.setdefault»
    refine wpAny_bind ?_
    unfold Builtin.Dict.keyAndDefault
    refine wpAny_bind (wpAny_notOrdered_dict hm.typeIs ?_)
    show wpAny _ _ (pure (d, key, some dflt)) _ _ s
    refine wpAny_pure ?_
    show wpAny _ _ (if (d == sysModules) = true then _ else (dictSetDefault d key dflt >>= _)) _ _ s
    rw [if_neg (by rw [hd]; exact Bool.false_ne_true)]
    exact wpAny_bind (wpAny_dictSetDefault_pairs hkey hm (fun v hv => wpAny_pure ⟨v, rfl, h1 v hv⟩) (fun hn h' hm' hs' => wpAny_pure ⟨dflt, rfl, h2 hn h' hm' hs'⟩) hz)
noncomputable def rSetDef : V → List V → Hp → VK → Prop := fun x vs H Q => ∃ a kvs k y, x = .ref a ∧ vs = [kV k, y] ∧ H a = some (.dK kvs) ∧ kvs.length < sizeLine ∧ (∀ z, valV kvs k = some z → Q z H) ∧ (valV kvs k = none → Q y (upd H a (.dK (putK kvs k y))))
theorem mt_setdef : MtM X "dict.setdefault" rSetDef := by
  intro pins s σ H x xs v us Q I rx rs h
  obtain ⟨a, kvs, k, y, rfl, rfl, e, hl, q1, q2⟩ := h
  cases rx
  cases rs with
  | cons r1 r2 =>
    cases r2 with
    | cons r3 r4 =>
      cases r4
      obtain ⟨z, hd, vs, rel, dd⟩ := dk_of I.hok e
      refine call_meetsIn PySem.F.slot_dict_setdefault dd.typeIs PySem.F.entry_dict_setdefault (PySem.F.args_dict_setdefault_3 _ _ _) (meets_setdefault (knd := mixKind X.prog X.w) (kV_is r1) hd _) ⟨vs, dd, by rw [← rel.length]; exact z, fun u hu => ?_, fun hn h' dd' hs => ?_⟩
      · obtain ⟨z', hz', rz⟩ : ∃ z', valV kvs k = some z' ∧ RelV z' u := by
          have := rel.val k
          rw [hu] at this
          cases q : valV kvs k with
          | none => rw [q] at this; cases this
          | some z' => rw [q] at this; exact ⟨z', rfl, this⟩
        exact ⟨z', H, I.tok _, rz, q1 z' hz'⟩
      · have hnv : valV kvs k = none := by
          have := rel.val k
          rw [hn] at this
          cases q : valV kvs k with
          | none => rfl
          | some z' => rw [q] at this; cases this
        have he : ∃ q, h'.get? a = some q := dd'.elim fun q zq463 => zq463.elim fun _ zq464 => zq464.elim fun _ zq465 => zq465.elim fun hq _ => ⟨q, hq⟩
        have hput := rel.put k r3
        rw [putK_new _ hnv] at hput
        refine ⟨y, _, d_write I (ob := .dK (putK kvs k y)) (by rw [e]; exact True.intro) hs he ?_, r3, q2 hnv⟩
        rw [putK_new _ hnv]
        refine dk_new (by rw [List.length_append]; simp; omega) hd ?_ dd'
        have e2 : ∀ b, stored vs k b = vs ++ [(k, b)] := by
          intro b
          unfold stored
          rw [if_neg]
          rw [List.any_eq_true]
          rintro ⟨kv, hkv, he⟩
          have : valueAt vs k ≠ none := by
            unfold valueAt
            rw [Ne, Option.map_eq_none_iff, List.find?_eq_none]
            exact fun z => z kv hkv he
          exact this hn
        rw [e2] at hput
        exact hput
end

/-! ### lists of texts, sorted; the keys of a dict, sorted or as they stand -/
theorem rel_key {k : Key} {v : Value} (h : keyIs k v = true) : RelV (kV k) v := by
  rcases keyIs_shape h with ⟨i, t, rfl, rfl⟩ | ⟨x, t, rfl, rfl⟩
  · exact ⟨t, rfl⟩
  · exact ⟨t, rfl⟩
theorem vals_strs : ∀ {us : List Value} {ys : List Str}, StrsAre us ys → Vals (ys.map V.str) us
  | _, _, .nil => .nil
  | _, _, .cons x t r => .cons ⟨t, rfl⟩ (vals_strs r)
section
variable {prog : Program} {w : World} {A : Around} {E : Value → Shared → Prop} {s : Shared}
/-- sorted of what collects to texts -/
theorem sorted_collects {r : Addr} {Q : Value → Shared → Prop} (hcol : wpAny (model prog w) A.in1 (collect (.ref r)) (fun us s' => ∃ (ys : List Str) (h' : Heap) (tk : Nat), s' = { s with heap := h', toks := tk } ∧ StrsAre us ys ∧ us.length < 64 ∧
      ∀ (h2 : Heap) (out : List Value) (ys' : List Str) (e : Nat), (∀ b o, h'.get? b = some o → h2.get? b = some o) → h2.get? h'.objs.size = some (seqObj "list" out.toArray e) → StrsAre out ys' → ys'.Perm ys → sortedS ys' = true → Q (.ref h'.objs.size) { s with heap := h2, toks := tk }) E s) :
    wpAny (model prog w) A (call (.builtin "sorted") [.ref r]) Q E s := by
  refine Calls.call_function_entry kind_sorted plain_sorted entry_sorted (args_sorted1 _) ?_
  unfold Builtin.«sorted»
  refine wpAny_bind (m := checkCount "sorted" 1 1 _) (wpAny_pure ?_)
  refine wpAny_bind (wpAny_mono hcol (fun us s' zq334 => zq334.elim fun ys zq335 => zq335.elim fun h' zq336 => zq336.elim fun tk zq337 => zq337.elim fun es zq338 => zq338.elim fun hS zq339 => zq339.elim fun h64 fin => ?_) fun _ _ e => e)
  subst es
  refine wpAny_bind (wpAny_newList ?_ (by rw [sizeLine_eq]; omega))
  have hoL : (h'.push (seqObj "list" us.toArray 0)).get? h'.objs.size = some (seqObj "list" us.toArray 0) := Heap.get?_push_size _ rfl
  show wpAny _ _ _ _ _ { s with heap := h'.push (seqObj "list" us.toArray 0), toks := tk }
  refine wpAny_bind (wpAny_holding (wpAny_call_entry slot_list_sort ⟨_, hoL, rfl⟩ entry_list_sort (list_sort_treeK strKind_oneLt hoL hS.keysOf (fun v₁ v₂ rest e => keyKind_strs (by rw [← e]; exact hS)) h64 fun st' a1 a2 => ⟨_, rfl, ?_⟩) (args_list_sort _)))
  obtain ⟨ys', h1, h2, h3⟩ := sorted_out_str hS a1 a2
  obtain ⟨e, he⟩ := sortedHeap_at (vs := us) (out := (arrOf st').map (·.2)) hoL
  refine wpAny_pure ⟨_, rfl, fin _ ((arrOf st').map (·.2)).toList ys' e (fun b o q => ?_) (by rw [Array.toArray_toList]; exact he) h1 h2 h3⟩
  have hb := Heap.lt_size q
  rw [sortedHeap_old (Nat.ne_of_lt hb) (by rw [Heap.size_push]; exact Nat.lt_succ_of_lt hb)]
  exact Heap.get?_push_of_some _ q
end
section
variable {X : Cx}
theorem inv_sorted {pins : List (Addr × Obj)} {σ : St} {H : Hp} {s : Shared} {h' h2 : Heap} {tk e : Nat} {out : List Value} {ys' : List Str} (I : Inv X pins σ H { s with heap := h', toks := tk }) (k : ∀ b o, h'.get? b = some o → h2.get? b = some o)
    (he : h2.get? h'.objs.size = some (seqObj "list" out.toArray e)) (hS : StrsAre out ys') (hl : ys'.length ≤ sizeLine) : Inv X pins σ (upd H h'.objs.size (.lst (ys'.map V.str))) { s with heap := h2, toks := tk } :=
  I.laid (s := { s with heap := h', toks := tk }) (t' := tk) k (Nat.le_refl _) ⟨by rw [List.length_map]; exact hl, out, e, vals_strs hS, he⟩
/-- keys that are texts -/
noncomputable def KeysS (kvs : List (Key × V)) (ks : List Str) : Prop := kvs.map (·.1) = ks.map Sum.inr
theorem keysS_items {kvs : List (Key × V)} {ks : List Str} (h : KeysS kvs ks) {vs : List (Key × Value)} (rel : KV kvs vs) {us : List Value} (hl : us.length = vs.length) (hv : ∀ (j : Nat) (v : Value), us[j]? = some v → ∃ k x, vs[j]? = some (k, x) ∧ (mixKind X.prog X.w).is k v = true) : StrsAre us ks := by
  induction us generalizing kvs vs ks with
  | nil =>
    have : vs = [] := List.length_eq_zero_iff.mp hl.symm
    subst this
    cases rel
    unfold KeysS at h
    cases ks with
    | nil => exact .nil
    | cons a b => cases h
  | cons u us ih =>
    cases rel with
    | nil => cases hl
    | @cons p q ps qs r rr =>
      cases ks with
      | nil => cases h
      | cons a ks =>
        unfold KeysS at h
        rw [List.map_cons, List.map_cons] at h
        injection h with h1 h2
        obtain ⟨k, x, e, hk⟩ := hv 0 u rfl
        have e : q = (k, x) := Option.some.inj e
        have hp : p.1 = k := by rw [r.1, e]
        have hk : keyIs k u = true := hk
        rw [← hp, h1] at hk
        rcases keyIs_shape hk with ⟨i, t, e1, e2⟩ | ⟨x', t, e1, e2⟩
        · cases e1
        · cases e1
          subst e2
          exact .cons _ _ (ih h2 rr (by simpa using hl) fun j v hj => hv (j + 1) v (by simpa using hj))
/-- sorted(d) -/
theorem call_sortedD (hc : X.calm = true) : CallR X (.builtin "sorted") (fun xs H Q => ∃ d kvs ks, xs = [.ref d] ∧ H d = some (.dK kvs) ∧ KeysS kvs ks ∧ kvs.length < 64 ∧ ∀ ys', ys'.Perm ks → sortedS ys' = true → New H (.lst (ys'.map V.str)) Q) := by
  intro pins s σ H xs us Q I r h
  obtain ⟨d, kvs, ks, rfl, e, hks, h64, q⟩ := h
  obtain ⟨u, rfl, ru⟩ := vals1 r
  cases ru
  obtain ⟨z, hd, vs, rel, dd⟩ := dk_of I.hok e
  obtain ⟨ep, hat⟩ := dd.dictAt
  have hlen := rel.length
  refine sorted_collects (PySem.W.kdu_collect (PySem.W.kdl_dict (knd := mixKind X.prog X.w) (kvs := vs) (ep := ep) hd) (I.ok.hd hc) hat (by omega) fun h' tk acc hk hacc => ?_)
  have hS : StrsAre acc.toList ks := keysS_items (X := X) hks rel (by rw [Array.length_toList]; exact hacc.1) fun j v hj => hacc.2 j v (by rw [← Array.getElem?_toList]; exact hj)
  have hl2 : acc.toList.length = vs.length := by rw [Array.length_toList]; exact hacc.1
  have I' : Inv X pins σ H { s with heap := h', toks := tk } := I.kept hk
  refine ⟨ks, h', tk, rfl, hS, by omega, fun h2 out ys' e' k2 he hS' hp' hs' => ?_⟩
  have hl := hp'.length_eq
  have hl3 := StrsAre.length hS
  exact ⟨.ref h'.objs.size, _, inv_sorted I' k2 he hS' (smallL (by omega)), rfl, (q ys' hp' hs').at _ (I'.hok.fresh (Nat.le_refl _))⟩
/-- d.keys() -/
noncomputable def rKeys : V → List V → Hp → VK → Prop := fun x vs H Q => ∃ d kvs, x = .ref d ∧ vs = [] ∧ H d = some (.dK kvs) ∧ ∀ p H', H p = none → Same H H' → H' p = some (.ext fun h => PySem.W.KdlKeysView h p d) → Q (.ref p) H'
theorem mt_keys : MtM X "dict.keys" rKeys := by
  intro pins s σ H x xs v us Q I rx rs h
  obtain ⟨d, kvs, rfl, rfl, e, q⟩ := h
  cases rx
  cases rs
  obtain ⟨z, hd, vs, rel, dd⟩ := dk_of I.hok e
  refine call_meetsIn PySem.F.slot_dict_keys dd.typeIs PySem.F.entry_dict_keys (PySem.F.args_dict_keys_1 _) (PySem.W.kdl_meets_keys (mixKind X.prog X.w) d hd) ⟨⟨vs, dd⟩, ?_⟩
  have hn := I.hok.fresh (Nat.le_refl s.heap.objs.size)
  have hg : (s.heap.push { cls := .type "dict_keys", data := .fields #[.ref d] }).get? s.heap.objs.size = some { cls := .type "dict_keys", data := .fields #[.ref d] } := Heap.get?_push_size _ rfl
  refine ⟨.ref s.heap.objs.size, _, I.laid (t' := s.toks) (a := s.heap.objs.size) (o := .ext fun h => PySem.W.KdlKeysView h s.heap.objs.size d) (fun b ob q => Heap.get?_push_of_some _ q) (Nat.le_refl _) ⟨⟨_, hg, rfl, rfl⟩, ⟨_, hg⟩, ?_⟩, rfl, q _ _ hn (same_upd hn) upd_same⟩
  rintro h1 h2 ⟨o, ho, c1, c2⟩ k
  exact ⟨o, k o ho, c1, c2⟩
/-- sorted(d.keys()) -/
theorem call_sortedK (hc : X.calm = true) : CallR X (.builtin "sorted") (fun xs H Q => ∃ p d kvs ks, xs = [.ref p] ∧ H p = some (.ext fun h => PySem.W.KdlKeysView h p d) ∧ H d = some (.dK kvs) ∧ KeysS kvs ks ∧ kvs.length < 64 ∧ ∀ ys', ys'.Perm ks → sortedS ys' = true → New H (.lst (ys'.map V.str)) Q) := by
  intro pins s σ H xs us Q I r h
  obtain ⟨p, d, kvs, ks, rfl, ep', e, hks, h64, q⟩ := h
  obtain ⟨u, rfl, ru⟩ := vals1 r
  cases ru
  obtain ⟨z, hd, vs, rel, dd⟩ := dk_of I.hok e
  obtain ⟨ep, hat⟩ := dd.dictAt
  have hv : PySem.W.KdlKeysView s.heap p d := (show ObjOk X.prog X.w H s.heap p (.ext fun h => PySem.W.KdlKeysView h p d) from I.hok p _ ep').1
  have hlen := rel.length
  refine sorted_collects (PySem.W.kdu_collect (PySem.W.kdl_keys (knd := mixKind X.prog X.w) (r := p) (d := d) (kvs := vs) (ep := ep)) (I.ok.hd hc) ⟨hv, hat⟩ (by omega) fun h' tk acc hk hacc => ?_)
  have hS : StrsAre acc.toList ks := keysS_items (X := X) hks rel (by rw [Array.length_toList]; exact hacc.1) fun j v hj => hacc.2 j v (by rw [← Array.getElem?_toList]; exact hj)
  have hl2 : acc.toList.length = vs.length := by rw [Array.length_toList]; exact hacc.1
  have I' : Inv X pins σ H { s with heap := h', toks := tk } := I.kept hk
  refine ⟨ks, h', tk, rfl, hS, by omega, fun h2 out ys' e' k2 he hS' hp' hs' => ?_⟩
  have hl := hp'.length_eq
  have hl3 := StrsAre.length hS
  exact ⟨.ref h'.objs.size, _, inv_sorted I' k2 he hS' (smallL (by omega)), rfl, (q ys' hp' hs').at _ (I'.hok.fresh (Nat.le_refl _))⟩
end
end L2

set_option Elab.async false
set_option linter.all false
set_option maxRecDepth 100000
set_option maxHeartbeats 4000000

namespace L2
open PySem PySem.Spec PyProof.Rows
section
variable {X : Cx}
/-! ### in, not in: items that are data -/
theorem in_core {pins : List (Addr × Obj)} {σ : St} {H : Hp} {s : Shared} (hu : X.A.units + 65 < cLine) (I : Inv X pins σ H s) {x : V} {v : Value} {xs : List V} {us : List Value} {d : PySem.W.Dat} {ds : List PySem.W.Dat} (rx : RelV x v) (rs : Vals xs us) (hd : DV X.K H x d) (hds : DVs X.K H xs ds) (od : PySem.W.kqdOk 9 d = true) (ods : ∀ e ∈ ds, PySem.W.kqdOk 9 e = true) :
    ∃ e : Value → Bool, (∀ y ∈ us.toArray, SeqAt.EqAt X.A.in1 s y v (e y)) ∧ (us.toArray.any e = true ↔ d ∈ ds) := by
  obtain ⟨as, ra⟩ := hd.reads I rx
  classical
  have key : ∀ {xs : List V} {us : List Value} {ds : List PySem.W.Dat}, Vals xs us → DVs X.K H xs ds → ∀ y ∈ us, ∃ e ∈ ds, ∃ bs, Reads s.heap y (PySem.W.kqdP e) bs := by
    intro xs us ds rs
    induction rs generalizing ds with
    | nil => intro _ y hy; cases hy
    | cons r rr ih =>
      intro hds y hy
      cases hds with
      | cons q qs =>
        rcases List.mem_cons.mp hy with e | e
        · subst e
          obtain ⟨bs, z⟩ := q.reads I r
          exact ⟨_, List.mem_cons_self, bs, z⟩
        · obtain ⟨e', he', z⟩ := ih qs y e
          exact ⟨e', List.mem_cons_of_mem _ he', z⟩
  have key2 : ∀ {xs : List V} {us : List Value} {ds : List PySem.W.Dat}, Vals xs us → DVs X.K H xs ds → ∀ e ∈ ds, ∃ y ∈ us, ∃ bs, Reads s.heap y (PySem.W.kqdP e) bs := by
    intro xs us ds rs
    induction rs generalizing ds with
    | nil => intro h e he; cases h; cases he
    | cons r rr ih =>
      intro hds e he
      cases hds with
      | cons q qs =>
        rcases List.mem_cons.mp he with z | z
        · subst z
          obtain ⟨bs, w⟩ := q.reads I r
          exact ⟨_, List.mem_cons_self, bs, w⟩
        · obtain ⟨y, hy, w⟩ := ih qs e z
          exact ⟨y, List.mem_cons_of_mem _ hy, w⟩
  refine ⟨fun y => decide (∃ bs, Reads s.heap y (PySem.W.kqdP d) bs), fun y hy => ?_, ?_⟩
  · obtain ⟨e, he, bs, rb⟩ := key rs hds y (by simpa using hy)
    have x1 := PySem.W.keq_at (A := X.A) rb ra (dat_shaped (ods e he)) (dat_shaped od) (by show X.A.units + 1 + 64 < cLine; omega)
    have hb : (PyData.eqv (PySem.W.kqdP e) (PySem.W.kqdP d) = true) ↔ e = d := PySem.W.kqd_eqv 9 e d 9 (ods e he) od
    have hbb : PyData.eqv (PySem.W.kqdP e) (PySem.W.kqdP d) = decide (∃ bs, Reads s.heap y (PySem.W.kqdP d) bs) := by
      by_cases z : e = d
      · rw [hb.mpr z]
        subst z
        exact (decide_eq_true ⟨bs, rb⟩).symm
      · rw [Bool.eq_false_iff.mpr fun w => z (hb.mp w)]
        refine (decide_eq_false ?_).symm
        rintro ⟨bs', rb'⟩
        have l := PySem.W.kqd_lay 9 e (ods e he)
        have eq := (rb.unique _ _ rb').1
        have : PyData.eqv (PySem.W.kqdP e) (PySem.W.kqdP d) = true := by
          rw [eq]
          exact (PySem.W.kqd_eqv 9 d d 9 od od).mpr rfl
        exact z (hb.mp this)
    rw [hbb] at x1
    exact x1
  · constructor
    · intro h
      rw [List.any_toArray, List.any_eq_true] at h
      obtain ⟨y, hy, hz⟩ := h
      obtain ⟨bs', rb'⟩ := of_decide_eq_true hz
      obtain ⟨e, he, bs, rb⟩ := key rs hds y hy
      have eq := (rb.unique _ _ rb').1
      have : PyData.eqv (PySem.W.kqdP e) (PySem.W.kqdP d) = true := by
        rw [eq]
        exact (PySem.W.kqd_eqv 9 d d 9 od od).mpr rfl
      rw [← (PySem.W.kqd_eqv 9 e d 9 (ods e he) od).mp this]
      exact he
    · intro h
      obtain ⟨y, hy, z⟩ := key2 rs hds d h
      rw [List.any_toArray, List.any_eq_true]
      exact ⟨y, hy, decide_eq_true z⟩
noncomputable def rInD (K : PySem.W.Frag) (neg : Bool) : R2 := fun x y H Q => ∃ p xs d ds, y = .ref p ∧ SqL K H p xs ∧ DV K H x d ∧ DVs K H xs ds ∧ PySem.W.kqdOk 9 d = true ∧ (∀ e ∈ ds, PySem.W.kqdOk 9 e = true) ∧ ∀ b : Bool, (b = true ↔ d ∈ ds) → Q (.bl (if neg then !b else b)) H
theorem op_notInD (hu : X.A.units + 65 < cLine) : OpR X (compareOp .NotIn) (rInD X.K true) := by
  intro pins s σ H x y v u Q I rx ry h
  obtain ⟨p, xs, d, ds, rfl, hq, hd, hds, od, ods, q⟩ := h
  cases ry
  obtain ⟨its, r, pl, hz⟩ := I.list hq
  obtain ⟨e, he, hb⟩ := in_core hu I rx r hd hds od ods
  exact SeqAt.notIn_listAt e pl.isList he ⟨.bl _, H, I, rfl, q _ hb⟩
end

/-! ### for k, v in d.items() -/
noncomputable def epOf (o : Obj) : Nat := match o.data with
  | .dict _ ep => ep
  | _ => 0
noncomputable def Iti (d : Addr) (kvs : List (Key × V)) (o : Obj) : It :=
  ⟨fun i H => H d = some (.frz o (.dK kvs)) ∧ i < kvs.length, fun i H x H' => ∃ k v p, kvs[i]? = some (k, v) ∧ H p = none ∧ x = .ref p ∧ H' = upd H p (.tup [kV k, v]), fun i H => H d = some (.frz o (.dK kvs)) ∧ kvs.length ≤ i⟩
theorem frz_dict {P : Program} {w : World} {H : Hp} {h : Heap} {d : Addr} {kvs : List (Key × V)} {o : Obj} (ok : HOk P w H h) (e : H d = some (.frz o (.dK kvs))) : ∃ vs, KV kvs vs ∧ h.DictAt (mixKind P w) d vs (epOf o) ∧ (d == sysModules) = false := by
  obtain ⟨ho, _, hd, vs, rel, o', es, ep, ho', hc, hdat, r⟩ := (show ObjOk P w H h d (.frz o (.dK kvs)) from ok d _ e)
  rw [ho] at ho'
  cases ho'
  refine ⟨vs, rel, ⟨o, es, ho, hc, ?_, r⟩, hd⟩
  unfold epOf
  rw [hdat]
theorem kv_get {kvs : List (Key × V)} {vs : List (Key × Value)} (r : KV kvs vs) {i : Nat} {k : Key} {v : V} (h : kvs[i]? = some (k, v)) : ∃ u, vs[i]? = some (k, u) ∧ RelV v u := by
  unfold KV at r
  induction r generalizing i with
  | nil => simp at h
  | @cons p q ps qs r1 rr ih =>
    cases i with
    | zero =>
      simp at h
      subst h
      obtain ⟨a, b⟩ := q
      exact ⟨b, by simp; exact r1.1.symm, r1.2⟩
    | succ i => exact ih (by simpa using h)
theorem entry_itemiter : entryFor table "dict_itemiterator.__iter__" = some Builtin.«dict_keyiterator.__iter__» :=
  entryFor_alias (id' := "dict_keyiterator.__iter__") (by kernel_rfl) rfl (by decide +kernel) (by kernel_rfl)
theorem wpAny_pyIter_itemiter {prog : Program} {w : World} {A : Around} {E : Value → Shared → Prop} {s : Shared} {it d : Addr} {i n ep : Nat} {ok ov : Value} {Q : Value → Shared → Prop} (hit : IsItemIter s.heap it d i n ep ok ov) (h : Q (.ref it) s) : wpAny (model prog w) A (pyIter (.ref it)) Q E s := by
  have hT : s.TypeIs (.ref it) "dict_itemiterator" := ⟨_, hit, rfl⟩
  refine wpAny_pyIter_slot hT PySem.F.slot_dict_itemiterator_iter (wpAny_call_entry PySem.F.slot_dict_itemiterator_iter hT entry_itemiter ?_ (PySem.F.args_dict_itemiterator_iter_1 _))
  show wpAny _ _ (ret (.ref it)) _ _ s
  exact wpAny_pure ⟨_, rfl, "dict_itemiterator", _, hT, PySem.F.slot_dict_itemiterator_next.lookup, h⟩
theorem turn_items {P : Program} {w : World} {K : PySem.W.Frag} {elts : List Expr} {x1 : Nat} {pos : Pos} (d it : Addr) (kvs : List (Key × V)) (o : Obj) : Turn P w K (.Tuple elts x1 pos) (Iti d kvs o) [it] it (fun i h => ∃ ok ov, IsItemIter h it d i kvs.length (epOf o) ok ov) where
  mem := by simp
  obj := fun i h st b hb => by
    have e : b = it := by simpa using hb
    subst e
    obtain ⟨ok, ov, st⟩ := st
    exact ⟨_, st, fun v z => by
      have z' : Data.fields _ = Data.cell v := z
      cases z'⟩
  keep := fun i h h' zq340 k => zq340.elim fun ok zq341 => zq341.elim fun ov st => ⟨ok, ov, k it (by simp) _ st⟩
  item := by
    intro X hP hw hK hc i pins s σ H E I hf st hg
    subst hP hw hK
    obtain ⟨ok, ov, st⟩ := st
    obtain ⟨hd, hlt⟩ := hg
    obtain ⟨f0, f1, f2, f3, f4, f5⟩ := hf it (by simp)
    obtain ⟨vs, rel, hat, hS⟩ := frz_dict I.hok hd
    have hlen := rel.length
    obtain ⟨kv, hkv⟩ : ∃ kv, kvs[i]? = some kv := ⟨_, List.getElem?_eq_getElem hlt⟩
    obtain ⟨k, v⟩ := kv
    obtain ⟨u, hu, ru⟩ := kv_get rel hkv
    rw [hlen] at st
    refine wpAny_pyNext_items_item st hat hu fun key h1 hkey hout htup hsz hk1 => ⟨.ref s.heap.objs.size, rfl, ?_⟩
    refine wpAny_letOwnedTupleGo_items hout fun h2 st2 sb => ?_
    have hil : it < s.heap.objs.size := Heap.lt_size st
    have sb : Heap.SameBut it h1 h2 := sb
    have I1 : Inv X pins σ H { s with heap := h2 } := I.turned (t' := s.toks) (fun b ob hb e => (sb.2 b hb).trans (hk1 b ob hb e)) f0 f1 f3 f4 f5
    have hn : H s.heap.objs.size = none := I.hok.fresh (Nat.le_refl _)
    have fp := I.fpOk (H' := H) (Nat.le_refl _) hn
    have hobj : h2.get? s.heap.objs.size = some { cls := .type "tuple", data := .seq #[key, u] } := (sb.2 _ (Nat.ne_of_gt hil)).trans htup
    have I2 : Inv X pins σ (upd H s.heap.objs.size (.tup [kV k, v])) { s with heap := h2 } := by
      refine I1.track hn I.sz fp.2.1 fp.2.2.2.2.1 fp.2.2.2.2.2 ?_
      exact ⟨by show 2 ≤ sizeLine; decide, [key, u], .cons (rel_key hkey) (.cons ru .nil), _, hobj, rfl, 0, rfl⟩
    refine ⟨.ref s.heap.objs.size, _, I2, rfl, ⟨k, v, _, hkv, hn, rfl, rfl⟩, ⟨key, u, by rw [hlen]; exact st2⟩, fun b hb => ?_⟩
    have e : b = it := by simpa using hb
    subst e
    rw [upd_ne (Nat.ne_of_lt hil)]
    exact f0
  done := by
    intro X hP hw hK hc i pins s σ H E I hf st hg
    subst hP hw hK
    obtain ⟨ok, ov, st⟩ := st
    obtain ⟨hd, hle⟩ := hg
    obtain ⟨f0, f1, f2, f3, f4, f5⟩ := hf it (by simp)
    obtain ⟨vs, rel, hat, hS⟩ := frz_dict I.hok hd
    have hlen := rel.length
    rw [hlen] at st
    exact wpAny_pyNext_items_end (I.ok.hd hc) st hat (by rw [List.getElem?_eq_none_iff]; omega) fun h' eb => ⟨rfl, I.turned (t' := s.toks) (fun b o hb e => eb b o hb e) f0 f1 f3 f4 f5⟩
  self := fun _ _ _ _ _ zq342 h => zq342.elim fun ok zq343 => zq343.elim fun ov st => wpAny_pyIter_itemiter st h

/-! ### the readings made monotone -/
section
variable {X : Cx}
theorem PE.weak {e : Expr} {t : TE} (h : PE X e t) : PE X e (fun σ H Q => ∃ Q' : VK, t σ H Q' ∧ ∀ v H, Q' v H → Q v H) := by
  intro pins s σ H Q I ⟨Q', q, w⟩
  exact L2.thn (h pins s σ H _ I q) fun u s1 zq344 => zq344.elim fun v zq345 => zq345.elim fun H1 zq346 => zq346.elim fun I1 zq347 => zq347.elim fun r1 q1 => ⟨v, H1, I1, r1, w _ _ q1⟩
theorem PG.weak {e : Expr} {g : TG} (h : PG X e g) : PG X e (fun x σ H Q => ∃ Q' : St → Hp → Prop, g x σ H Q' ∧ ∀ σ H, Q' σ H → Q σ H) := by
  intro pins s σ H v u Q I r ⟨Q', q, w⟩
  exact L2.thn (h pins s σ H v u _ I r q) fun _ s1 zq348 => zq348.elim fun σ1 zq349 => zq349.elim fun H1 zq350 => zq350.elim fun I1 q1 => ⟨σ1, H1, I1, w _ _ q1⟩
theorem PSs.weak {b : List Stmt} {t : TS} (h : PSs X b t) : PSs X b (fun D σ H => ∃ D' : Ends, t D' σ H ∧ (∀ σ H, D'.nx σ H → D.nx σ H) ∧ (∀ v H, D'.rt v H → D.rt v H) ∧ (∀ σ H, D'.bk σ H → D.bk σ H) ∧ ∀ σ H, D'.ct σ H → D.ct σ H) := by
  intro pins s σ H D I ⟨D', q, w1, w2, w3, w4⟩
  refine L2.thn (h pins s σ H D' I q) fun f s1 q1 => ?_
  cases f with
  | next => obtain ⟨σ1, H1, I1, q1⟩ := q1; exact ⟨σ1, H1, I1, w1 _ _ q1⟩
  | ret v => obtain ⟨x, σ1, H1, I1, r, q1⟩ := q1; exact ⟨x, σ1, H1, I1, r, w2 _ _ q1⟩
  | brk => obtain ⟨σ1, H1, I1, q1⟩ := q1; exact ⟨σ1, H1, I1, w3 _ _ q1⟩
  | cont => obtain ⟨σ1, H1, I1, q1⟩ := q1; exact ⟨σ1, H1, I1, w4 _ _ q1⟩
end
theorem pi_items {o : Expr} {elts : List Expr} {x1 : Nat} {tpos apos cpos : Pos} {X : Cx} {td : TE} (ho : PE X o td) (hbase : attributeBase o "items" X.env (eval o X.env) = eval o X.env := by rfl) (hline : (apos.endLine == cpos.line) = true := by rfl) :
    PI X (.Tuple elts x1 tpos) (.Call (.Attribute o "items" apos) [] [] cpos) (fun σ H R => td σ H fun x H1 => ∃ d kvs, x = .ref d ∧ H1 d = some (.dK kvs) ∧ ∀ ob, (∀ o' u, X.H₀ d ≠ some (.frz o' u)) → R (Iti d kvs ob) (upd H1 d (.frz ob (.dK kvs)))) := by
  intro pins s σ H R I h
  refine wpAny_Call_method0_late hbase hline (thn (ho pins s σ H _ I h) fun v s1 zq351 => zq351.elim fun x zq352 => zq352.elim fun H1 zq353 => zq353.elim fun I1 zq354 => zq354.elim fun r1 zq355 => zq355.elim fun d zq356 => zq356.elim fun kvs zq357 => zq357.elim fun e zq358 => zq358.elim fun ed q => ?_)
  subst e
  cases r1
  obtain ⟨z, hd, vs, rel, dd⟩ := dk_of I1.hok ed
  obtain ⟨h1, h2⟩ := tyV_is I1 (x := .ref d) rfl (T := "dict") (.inr (.inr (.inl ⟨rfl, .inl ⟨kvs, ed⟩⟩)))
  refine ⟨"dict", "dict.items", PySem.F.plainAttrs_dict, PySem.F.slot_dict_items, PySem.F.type_dict_items, h1, h2, Calls.callWith_builtin rfl (PySem.evalArgs_none ?_)⟩
  refine call_meetsIn PySem.F.slot_dict_items dd.typeIs PySem.F.entry_dict_items (PySem.F.args_dict_items_1 _) (meets_dict_items (mixKind X.prog X.w) d hd) ⟨⟨vs, dd⟩, ?_⟩
  have dd2 := dd.push { cls := .type "dict_items", data := .fields #[.ref d] }
  obtain ⟨ob, es, ep, hob, hc, hdat, rest⟩ := id dd2
  have hat : (s1.heap.push { cls := .type "dict_items", data := .fields #[.ref d] }).DictAt (mixKind X.prog X.w) d vs ep := ⟨ob, es, hob, hc, hdat, rest⟩
  have I2 : Inv X pins σ H1 { s1 with heap := s1.heap.push { cls := .type "dict_items", data := .fields #[.ref d] } } := I1.kept (t' := s1.toks) fun b o e => Heap.get?_push_of_some _ e
  refine wpAny_pyIter_items (s := { s1 with heap := s1.heap.push { cls := .type "dict_items", data := .fields #[.ref d] } }) ⟨_, Heap.get?_push_size _ rfl, rfl, rfl⟩ hat ?_
  have hep : epOf ob = ep := by unfold epOf; rw [hdat]
  have hlen := rel.length
  have I3 : Inv X pins σ H1 { s1 with heap := (s1.heap.push { cls := .type "dict_items", data := .fields #[.ref d] }).push { cls := .type "dict_itemiterator", data := .fields #[.none, .bool false, .ref d, .int 0 0, .int vs.length 0, .int ep 0, .none, .none] } } :=
    I2.kept (t' := s1.toks) fun b o e => Heap.get?_push_of_some _ e
  have hn := I2.hok.fresh (Nat.le_refl (s1.heap.push { cls := .type "dict_items", data := .fields #[.ref d] }).objs.size)
  have hz : ∀ o' u, X.H₀ d ≠ some (.frz o' u) := fun o' u hq => by
    have := I1.base.frzs d o' u hq
    rw [ed] at this
    cases this
  refine ⟨_, [_], _, _, _, rfl, I3.freeze ed (Heap.get?_push_of_some _ hob), turn_items d _ kvs ob, ⟨.none, .none, ?_⟩, fun b hb => ?_, q ob hz⟩
  · show Heap.get? _ _ = _
    rw [hep, hlen]
    exact Heap.get?_push_size _ rfl
  · have e : b = (s1.heap.push { cls := .type "dict_items", data := .fields #[.ref d] }).objs.size := by simpa using hb
    subst e
    refine I2.fpOk (Nat.le_refl _) ?_
    rw [upd_ne (Ne.symm (ne_of_none ed hn))]
    exact hn
/-- the loop's asking, the dict frozen while it goes on -/
noncomputable def tForI (td : TE) (g : TG) (tb : TS) : TS := fun D σ H => td σ H fun x H1 => ∃ d kvs, x = .ref d ∧ H1 d = some (.dK kvs) ∧ ∀ ob, ∃ W : Nat → Nat → St → Hp → Prop, (∃ m, W 0 m σ (upd H1 d (.frz ob (.dK kvs)))) ∧ ∀ i m σ H, W i m σ H →
  H d = some (.frz ob (.dK kvs)) ∧ ((kvs.length ≤ i ∧ D.nx σ (upd H d (.dK kvs))) ∨ (i < kvs.length ∧ ∃ N : St → Hp → Prop, (∀ σ' H', N σ' H' → ∃ m', m' < m ∧ W (i + 1) m' σ' H') ∧
    ∀ k v p, kvs[i]? = some (k, v) → H p = none → g (.ref p) σ (upd H p (.tup [kV k, v])) fun σ2 H2 =>
      tb { nx := N, ct := N, bk := fun σ' H' => H' d = some (.frz ob (.dK kvs)) ∧ D.nx σ' (upd H' d (.dK kvs)), rt := fun v' H' => H' d = some (.frz ob (.dK kvs)) ∧ D.rt v' (upd H' d (.dK kvs)) } σ2 H2))
theorem ps_forItems {o : Expr} {elts : List Expr} {x1 : Nat} {tpos apos cpos pos : Pos} {X : Cx} {td : TE} {g : TG} {tb : TS} {body : List Stmt} (hp : PassesOwn (model X.prog X.w) X.A X.env X.xe) (hc : X.calm = true) (ho : PE X o td) (hg : PG X (.Tuple elts x1 tpos) g) (hb : PSs X body tb)
    (hbase : attributeBase o "items" X.env (eval o X.env) = eval o X.env := by rfl) (hline : (apos.endLine == cpos.line) = true := by rfl) (hs : ∀ x, foldedSetIterable (.Call (.Attribute o "items" apos) [] [] cpos) X.env x = pure x := by intro _; rfl) :
    PS X (.For (.Tuple elts x1 tpos) (.Call (.Attribute o "items" apos) [] [] cpos) body [] pos) (tForI td g tb) := by
  intro pins s σ H D I h
  refine thn (ps_for (X := X) hp hc (pi_items ho.weak hbase hline) hg.weak hb.weak hs pins s σ H
    { nx := fun σ' H' => ∃ d kvs ob, H' d = some (.frz ob (.dK kvs)) ∧ (∀ o' u, X.H₀ d ≠ some (.frz o' u)) ∧ D.nx σ' (upd H' d (.dK kvs)), rt := fun v' H' => ∃ d kvs ob, H' d = some (.frz ob (.dK kvs)) ∧ (∀ o' u, X.H₀ d ≠ some (.frz o' u)) ∧ D.rt v' (upd H' d (.dK kvs)) } I ?_) fun f s' q => ?_
  · refine ⟨_, h, fun x H1 zq359 => zq359.elim fun d zq360 => zq360.elim fun kvs zq361 => zq361.elim fun e zq362 => zq362.elim fun ed q => ⟨d, kvs, e, ed, fun ob hz => ?_⟩⟩
    obtain ⟨W, w0, turn⟩ := q ob
    refine ⟨W, w0, fun i m σ H hw => ?_⟩
    obtain ⟨hd, c | ⟨hlt, N, hN, step⟩⟩ := turn i m σ H hw
    · exact .inl ⟨⟨hd, c.1⟩, d, kvs, ob, hd, hz, c.2⟩
    · refine .inr ⟨⟨hd, hlt⟩, N, hN, fun x H' zq363 => zq363.elim fun k zq364 => zq364.elim fun v zq365 => zq365.elim fun p zq366 => zq366.elim fun hk zq367 => zq367.elim fun hp zq368 => zq368.elim fun e eH => ?_⟩
      subst e eH
      exact ⟨_, step k v p hk hp, fun σ2 H2 q2 => ⟨_, q2, fun _ _ z => z, fun v' H' zq369 => zq369.elim fun a b => ⟨d, kvs, ob, a, hz, b⟩, fun σ' H' zq370 => zq370.elim fun a b => ⟨d, kvs, ob, a, hz, b⟩, fun _ _ z => z⟩⟩
  · cases f with
    | next =>
      obtain ⟨σ', H', I', d, kvs, ob, hd, hz, q⟩ := q
      exact ⟨σ', _, I'.thaw hd hz, q⟩
    | ret v =>
      obtain ⟨x, σ', H', I', r, d, kvs, ob, hd, hz, q⟩ := q
      exact ⟨x, σ', _, I'.thaw hd hz, r, q⟩
    | brk => obtain ⟨_, _, _, q⟩ := q; exact q.elim
    | cont => obtain ⟨_, _, _, q⟩ := q; exact q.elim
end L2

set_option Elab.async false
set_option linter.all false
set_option maxRecDepth 100000
set_option maxHeartbeats 4000000

namespace L2
open PySem PySem.Spec PyProof.Rows
/-! ### an empty set, walked -/
theorem slot_si_next : Slot "set_iterator" "__next__" "set_iterator.__next__" :=
  .of (owner := "set_iterator") (n := "__next__") (by rw [typeLookup_type, builtinLookup_eq_fast]; kernel_rfl) (by decide +kernel) (by decide +kernel) (by decide +kernel)
    (by first | exact .inl (by decide +kernel) | exact .inr (by decide +kernel)) (by rw [isSubtype_type]; kernel_rfl)
theorem slot_si_iter : Slot "set_iterator" "__iter__" "set_iterator.__iter__" :=
  .of (owner := "set_iterator") (n := "__iter__") (by rw [typeLookup_type, builtinLookup_eq_fast]; kernel_rfl) (by decide +kernel) (by decide +kernel) (by decide +kernel)
    (by first | exact .inl (by decide +kernel) | exact .inr (by decide +kernel)) (by rw [isSubtype_type]; kernel_rfl)
theorem entry_si_next : entryFor table "set_iterator.__next__" = some Builtin.«set_iterator.__next__» := entryFor_of_tree (by kernel_rfl)
theorem entry_si_iter : entryFor table "set_iterator.__iter__" = some Builtin.«dict_keyiterator.__iter__» := entryFor_alias (id' := "dict_keyiterator.__iter__") (by kernel_rfl) rfl (by decide +kernel) (by kernel_rfl)
theorem entry_set_iter' : entryFor table "set.__iter__" = some Builtin.«frozenset.__iter__» := entryFor_alias (id' := "frozenset.__iter__") (by kernel_rfl) rfl (by decide +kernel) (by kernel_rfl)
theorem owner_si : Manifest.owners.lookup (String.ofList ['r', 'o', 't', 'a', 'r', 'e', 't', 'i', '_', 't', 'e', 's'].reverse) = some Manifest.sig_set_iterator := by kernel_rfl
theorem args_si_next (a : Value) : argsOk "set_iterator.__next__" ⟨[a], []⟩ := by
  unfold argsOk; rw [signature?_of (id := "set_iterator.__next__") (n := ['_', '_', 't', 'x', 'e', 'n', '_', '_']) (o := ['r', 'o', 't', 'a', 'r', 'e', 't', 'i', '_', 't', 'e', 's']) (by kernel_rfl) owner_si]; kernel_rfl
theorem args_si_iter (a : Value) : argsOk "set_iterator.__iter__" ⟨[a], []⟩ := by
  unfold argsOk; rw [signature?_of (id := "set_iterator.__iter__") (n := ['_', '_', 'r', 'e', 't', 'i', '_', '_']) (o := ['r', 'o', 't', 'a', 'r', 'e', 't', 'i', '_', 't', 'e', 's']) (by kernel_rfl) owner_si]; kernel_rfl
section
variable {prog : Program} {w : World} {A : Around} {E : Value → Shared → Prop} {s : Shared} {a it : Addr} {ep : Nat} {t : SetTable}
theorem set_len_lookup : typeLookup (.type "set") "__len__" = pure (some (.builtin "set.__len__")) := by rw [typeLookup_type, builtinLookup_eq_fast]; kernel_rfl
theorem hint_set {Q : Bool → Shared → Prop} (hT : s.TypeIs (.ref a) "set") (h : Q false s) : wpAny (model prog w) A (Builtin.List.listLengthHint (.ref a)) Q E s := by
  unfold Builtin.List.listLengthHint
  refine wpAny_bind (wpAny_specialOf hT set_len_lookup ?_)
  generalize hid : ("set.__len__" : String) = id0
  wp_delta
  rw [show splitId id0 = some ("set", "__len__") from by subst hid; decide +kernel]
  subst hid
  refine wpAny_bind (wpAny_isInstance (T := "set") (b := true) hT (by rw [isSubtype_type]; kernel_rfl) ?_)
  refine wpAny_ite_split (fun hab => absurd hab (by decide)) (fun _ => ?_)
  refine wpAny_ite_split (fun _ => ?_) (fun hab => absurd (by decide +kernel) hab)
  refine wpAny_bind (wpAny_typeOf hT ?_)
  exact wpAny_pure h
end
section
variable {X : Cx}
/-! ### new dicts, in some heap over the one ahead; fields, with the fragment named -/
theorem pe_dnewN {pos : Pos} : PE X (.Dict [] [] pos) (fun _ H Q => New H (.dK []) Q) := fun pins s σ H Q I h => pe_dnewK pins s σ H Q I h.at
theorem pe_dnewTN {pos : Pos} : PE X (.Dict [] [] pos) (fun _ H Q => New H (.dT []) Q) := fun pins s σ H Q I h => pe_dnewT pins s σ H Q I h.at
theorem pe_fldK (K : PySem.W.Frag) {e : Expr} {f : Str} {pos : Pos} {ta : TE} (he : PE X e ta) (hb : attributeBase e f X.env (eval e X.env) = eval e X.env) (h : X.K = K := by rfl) : PE X (.Attribute e f pos) (tFld K ta f) := h ▸ pe_fld he hb
end
end L2

set_option Elab.async false
set_option linter.all false
set_option maxRecDepth 100000
set_option maxHeartbeats 4000000

namespace L2
open PySem PySem.Spec PyProof.Rows
section
variable {X : Cx}
/-! ### f-strings of texts -/
theorem str_empty_app (x : Str) : Str.empty ++ x = x := by
  obtain ⟨c⟩ := x
  show (⟨#[] ++ c⟩ : Str) = ⟨c⟩
  rw [Array.empty_append]
variable {e e1 e2 : Expr} {te t1 t2 : TE} {pos : Pos}
noncomputable def tFmt (te : TE) : TE := fun σ H Q => te σ H fun x H1 => ∃ y, x = .str y ∧ y.length ≤ sizeLine ∧ Q x H1
theorem pe_fmt (he : PE X e te) : PE X (.FormattedValue e (-1) none pos) (tFmt te) := by
  intro pins s σ H Q I h
  refine FormattedValue_plain (thn (he pins s σ H _ I h) fun v s1 zq371 => zq371.elim fun x zq372 => zq372.elim fun H1 zq373 => zq373.elim fun I1 zq374 => zq374.elim fun r1 zq375 => zq375.elim fun y zq376 => zq376.elim fun ex zq377 => zq377.elim fun hl q => ?_)
  subst ex
  obtain ⟨t, rfl⟩ := r1
  exact formatField_str (fun t' tk => ⟨.str y, H1, I1.tok _, ⟨_, rfl⟩, q⟩) hl
noncomputable def tJoin2 (t1 t2 : TE) : TE := fun σ H Q => t1 σ H fun a H1 => ∃ x, a = .str x ∧ x.length ≤ sizeLine ∧ t2 σ H1 fun b H2 => ∃ y, b = .str y ∧ x.length + y.length ≤ sizeLine ∧ Q (.str (x ++ y)) H2
theorem pe_join2 (h1 : PE X e1 t1) (h2 : PE X e2 t2) : PE X (.JoinedStr [e1, e2] pos) (tJoin2 t1 t2) := by
  intro pins s σ H Q I h
  refine JoinedStr_many (joinParts_cons (thn (h1 pins s σ H _ I h) fun v s1 zq378 => zq378.elim fun a zq379 => zq379.elim fun H1 zq380 => zq380.elim fun I1 zq381 => zq381.elim fun r1 zq382 => zq382.elim fun x zq383 => zq383.elim fun ex zq384 => zq384.elim fun hx q1 => ?_))
  subst ex
  obtain ⟨t, rfl⟩ := r1
  show (Str.empty ++ x).length ≤ sizeLine ∧ wpAny _ _ (joinParts (Str.empty ++ x) (eval e2 X.env :: evalEach [] X.env)) _ _ s1
  rw [str_empty_app]
  refine ⟨hx, joinParts_cons (thn (h2 pins s1 σ H1 _ I1 q1) fun v s2 zq385 => zq385.elim fun b zq386 => zq386.elim fun H2 zq387 => zq387.elim fun I2 zq388 => zq388.elim fun r2 zq389 => zq389.elim fun y zq390 => zq390.elim fun ey zq391 => zq391.elim fun hl q2 => ?_)⟩
  subst ey
  obtain ⟨t', rfl⟩ := r2
  have hz : (x ++ y).length ≤ sizeLine := by rw [len_app]; exact hl
  exact ⟨hz, joinParts_nil ⟨.str (x ++ y), H2, I2.tok _, ⟨_, rfl⟩, q2⟩ hz⟩
end
end L2

set_option Elab.async false
set_option linter.all false
set_option maxRecDepth 100000
set_option maxHeartbeats 4000000

namespace L2
open PySem
/-- a cut whose statement is given in the reading, so that it may speak of what the walk has met -/
theorem pss_cutE {X : Cx} {st : Stmt} {sts : List Stmt} {t u : TS} (h1 : PS X st t) (h2 : PSs X sts u) : PSs X (st :: sts) (fun D σ H => ∃ P : St → Hp → Prop, t { D with nx := P } σ H ∧ ∀ σ' H', P σ' H' → u D σ' H') := by
  intro pins s σ H D I ⟨P, a, b⟩
  exact pss_cut P h1 h2 pins s σ H D I ⟨a, b⟩
end L2

set_option Elab.async false
set_option linter.all false
set_option maxRecDepth 100000
set_option maxHeartbeats 4000000

/-! ### isinstance of an exception of a class of one's own -/
namespace L2
open PySem PySem.Spec PyProof.Rows PySem.W PySem.Builtin PySem.Builtin.ObjectAttr PySem.Builtin.Getset_descriptor
section
variable {K : PySem.W.Frag} {D a : Addr} {M : Model} {h : Heap}
end
section
variable {prog : Program} {w : World} {A : Around} {E : Value → Shared → Prop} {s : Shared} {K : PySem.W.Frag} {D a : Addr}
end
end L2

set_option Elab.async false
set_option linter.all false
set_option maxRecDepth 100000
set_option maxHeartbeats 4000000
/-! ### exceptions in flight -/
namespace L2
open PySem PySem.Spec PyProof.Rows PySem.W
section
variable {l : List Env} {B : Heap} {H H0 : Hp} {h0 h h' h'' : Heap} {P : Program} {w : World}
end
section
variable {X : Cx} {pins : List (Addr × Obj)} {σ : St} {H : Hp} {s : Shared} {E : XK}
end
section
variable {P : Program} {w : World} {K : PySem.W.Frag} {mg : Str → Option Value} {base : Heap} {N : List Str} {qual : Str} {scope : Scope} {f : Addr} {cd : Value} {A : Around} {outer : List Env} {s0 : Shared} {H0 : Hp} {E : XK}
end
end L2

set_option Elab.async false
set_option linter.all false
set_option maxRecDepth 100000
set_option maxHeartbeats 4000000
/-! ### try .. except C as e -/
namespace L2
open PySem PySem.Spec PyProof.Rows PySem.W
section
variable {X : Cx} {pins : List (Addr × Obj)} {σ : St} {H : Hp} {s : Shared}
end
section
variable {X : Cx} {CX : CXT} {k : Nat} {f C : Addr} {fd : FuncData} {ps : List Str} {sp : Sp} {dvs : List V} {ds : List Value} {E : St → XK} {x m : Str} {p pos apos : Pos} {e o : Expr} {es : List Expr} {ta : TE} {t : TA}
end
section
variable {X : Cx}
end
end L2

set_option Elab.async false
set_option linter.all false
set_option maxRecDepth 100000
set_option maxHeartbeats 4000000
namespace L2
open PySem PySem.Spec PyProof.Rows PySem.W
/-! ### a def that an exception may leave -/
/-! ### isinstance of an exception -/
section
variable {X : Cx}
theorem vals_refs : ∀ {Ds : List Addr} {us : List Value}, Vals (Ds.map V.ref) us → us = Ds.map Value.ref
  | [], _, .nil => rfl
  | D :: Ds, _, .cons r t => by
    rw [List.map_cons, vals_refs t]
    congr 1
end
/-! ### dicts that are alike -/
section
variable {X : Cx}
end
end L2

set_option Elab.async false
set_option linter.all false
set_option maxRecDepth 100000
set_option maxHeartbeats 4000000
/-! ### try .. except C, with no name; dicts alike in another order -/
namespace L2
open PySem PySem.Spec PyProof.Rows PySem.W
section
variable {X : Cx}
end
end L2

set_option linter.all false
set_option maxRecDepth 100000
set_option maxHeartbeats 4000000
namespace L2
open PySem
/-! ### a table laid anew loses nothing -/
noncomputable def Msk (m : Nat) : Prop := m = 7 ∨ m = 15 ∨ m = 31 ∨ m = 63
end L2

set_option Elab.async false
set_option linter.all false
set_option maxRecDepth 100000
set_option maxHeartbeats 4000000

namespace L2
open PySem PySem.Spec PyProof.Rows
/-! ### sets of texts -/
noncomputable def setBy (w : World) : Bool := w.params.followText "set-order"
noncomputable def keyE (e : Int × Value) : Str := match e.2 with
  | .str y _ => y
  | _ => Str.ofString ""
noncomputable def GoodE (w : World) (e : Int × Value) : Prop := ∃ y tk, e = (keyH w (.inr y), Value.str y tk)
structure TObj (w : World) (o : Obj) (es : Array (Int × Value)) (ep : Nat) (t : SetTable) (xs : List Str) : Prop where
  ex : o.ExactSet
  dat : o.data = .set es ep t
  good : ∀ e ∈ es.toList, GoodE w e
  perm : (es.toList.map keyE).Perm xs
  nd : xs.Nodup
  len : xs.length ≤ 1000
  fit : t.fits es.size = true
  led : t.led = !setBy w
  pl : es.size ≠ 0 → t.plain = false
  msk : es.size = 0 → Msk t.mask
noncomputable def TxS (w : World) (h : Heap) (a : Addr) (xs : List Str) : Prop := ∃ o es ep t, h.get? a = some o ∧ TObj w o es ep t xs
theorem TxS.at' {w : World} {h h' : Heap} {a : Addr} {xs : List Str} (x : TxS w h a xs) (k : ∀ o, h.get? a = some o → h'.get? a = some o) : TxS w h' a xs :=
  x.elim fun o zq466 => zq466.elim fun es zq467 => zq467.elim fun ep zq468 => zq468.elim fun t zq469 => zq469.elim fun e r => ⟨o, es, ep, t, k o e, r⟩
theorem TxS.typeIs {w : World} {s : Shared} {a : Addr} {xs : List Str} (x : TxS w s.heap a xs) : s.TypeIs (.ref a) "set" := x.elim fun o zq470 => zq470.elim fun _ zq471 => zq471.elim fun _ zq472 => zq472.elim fun _ zq473 => zq473.elim fun e r => ⟨o, e, r.ex.1⟩
section
variable {w : World} {P : Program} {o : Obj} {es : Array (Int × Value)} {ep : Nat} {t : SetTable} {xs : List Str}
theorem TObj.elems (x : TObj w o es ep t xs) : ElemsOf (mixKind P w) es.toList := fun e he => by
  obtain ⟨y, tk, rfl⟩ := x.good e he
  exact ⟨⟨.inr y, mixKind_str P w y tk, rfl⟩, rfl⟩
theorem TObj.size (x : TObj w o es ep t xs) : es.size = xs.length := by
  have := x.perm.length_eq
  rw [List.length_map, Array.length_toList] at this
  exact this
theorem TObj.bnd (x : TObj w o es ep t xs) : es.size < scanBound := by
  rw [x.size]
  have := x.len
  show _ < 4096
  omega
theorem key_is {y : Str} {e : Int × Value} (g : GoodE w e) : (mixKind P w).is (.inr y) e.2 = true ↔ keyE e = y := by
  obtain ⟨z, tk, rfl⟩ := g
  constructor
  · intro h
    have := (mixKind P w).inj _ _ _ h (mixKind_str P w z tk)
    injection this with this
    exact this.symm
  · intro h
    rw [← h]
    exact mixKind_str P w z tk
theorem TObj.find_some (x : TObj w o es ep t xs) {y : Str} {j : Nat} (h : List.findIdx? (fun e => (mixKind P w).is (.inr y) e.2) es.toList = some j) : y ∈ xs := by
  obtain ⟨hj, hp, _⟩ := List.findIdx?_eq_some_iff_getElem.mp h
  have hm := List.getElem_mem hj
  exact x.perm.mem_iff.mp (List.mem_map.mpr ⟨_, hm, (key_is (x.good _ hm)).mp hp⟩)
theorem TObj.find_none (x : TObj w o es ep t xs) {y : Str} (h : List.findIdx? (fun e => (mixKind P w).is (.inr y) e.2) es.toList = none) : y ∉ xs := fun hy => by
  obtain ⟨e, he, hk⟩ := List.mem_map.mp (x.perm.mem_iff.mpr hy)
  have := List.findIdx?_eq_none_iff.mp h e he
  rw [(key_is (x.good _ he)).mpr hk] at this
  cases this
end
theorem layNew_led (t : SetTable) (es : Array (Int × Value)) (h : Int) (x : Value) : (layNew t es h x).2.1.led = t.led := by
  unfold layNew
  split
  · dsimp only
    unfold SetTable.orStandIn
    split <;> rfl
  · rfl
theorem laid_led {mask f m : Nat} {led plain : Bool} {hs : Array Int} {r : SetTable × Array Nat} (e : SetTable.laid mask f m led plain hs = some r) : r.1.led = led ∧ r.1.plain = plain ∧ r.1.mask = mask ∧ r.1.dummies = #[] := by
  unfold SetTable.laid at e
  cases hq : SetTable.layClean mask hs with
  | none => rw [hq] at e; cases e
  | some ow =>
    rw [hq] at e
    cases e
    exact ⟨rfl, rfl, rfl, rfl⟩
theorem relayAll_led (t : SetTable) (es : Array (Int × Value)) (n : Nat) : (relayAll t es n).2.1.led = t.led ∧ (t.plain = false → (relayAll t es n).2.1.plain = false) := by
  unfold relayAll
  split
  · rename_i t' order e
    dsimp only
    split
    · obtain ⟨h1, h2, _⟩ := laid_led e
      exact ⟨h1, fun z => h2.trans z⟩
    · exact ⟨rfl, fun _ => rfl⟩
  · exact ⟨rfl, fun _ => rfl⟩
/-- what a set has behind one more -/
noncomputable def addS (xs : List Str) (y : Str) : List Str := if y ∈ xs then xs else xs ++ [y]
theorem addS_nd {xs : List Str} {y : Str} (h : xs.Nodup) : (addS xs y).Nodup := by
  unfold addS
  split
  · exact h
  · rename_i z
    rw [List.nodup_append]
    exact ⟨h, by simp, fun a ha b hb => by rw [List.mem_singleton.mp hb]; exact fun q => z (q ▸ ha)⟩
theorem addS_mem {xs : List Str} {y z : Str} : z ∈ addS xs y ↔ z ∈ xs ∨ z = y := by
  unfold addS
  split
  · rename_i h
    exact ⟨.inl, fun q => q.elim id fun q => q ▸ h⟩
  · simp
theorem addS_len (xs : List Str) (y : Str) : (addS xs y).length ≤ xs.length + 1 := by
  unfold addS
  split
  · omega
  · simp
section
variable {prog : Program} {w : World} {A : Around} {E : Value → Shared → Prop} {s : Shared} {a : Addr}
theorem TObj.store {h : Heap} {o : Obj} {es es' : Array (Int × Value)} {ep : Nat} {t t' : SetTable} (ho : h.get? a = some o) (x : o.ExactSet) (d : o.data = .set es ep t) : (h.update a (Obj.putSet es' t')).get? a = some { o with data := .set es' (ep + 1) t' } := by
  have q := Heap.get?_update_self (Obj.putSet es' t') ho (by rw [putSet_of es' t' d]; rfl)
  rwa [putSet_of es' t' d] at q
/-- the last part of an adding -/
theorem tset_tail {g : Bool → Sem Unit} (hg : ∀ (b : Bool) (s₁ : Shared) (Q' : Unit → Shared → Prop), Q' () s₁ → wpAny (model prog w) A (g b) Q' E s₁) {o : Obj} {es es1 : Array (Int × Value)} {ep : Nat} {t t2 : SetTable} {ys : List Str} {wd : Bool} {R : Option Bool → Shared → Prop}
    (ho : s.heap.get? a = some o) (hx : o.ExactSet) (hd : o.data = .set es ep t) (gd : ∀ e ∈ es1.toList, GoodE w e) (pm : (es1.toList.map keyE).Perm ys) (nd : ys.Nodup) (ln : ys.length ≤ 1000) (hf : t2.fits es1.size = true) (ld : t2.led = !setBy w) (pl : t2.plain = false) (ne : es1.size ≠ 0)
    (h : ∀ h', Heap.SameBut a s.heap h' → TxS w h' a ys → R (some true) { s with heap := h' }) :
    wpAny (model prog w) A (do { storeSet a es1 t2; if (!wd && t2.tooFull) = true then do { g (relayAll t2 es1 (SetTable.grown es1.size)).2.2; storeSet a (relayAll t2 es1 (SetTable.grown es1.size)).1 (relayAll t2 es1 (SetTable.grown es1.size)).2.1; pure (some true) } else pure (some true) }) R E s := by
  have sz : es1.size = ys.length := by have := pm.length_eq; rw [List.length_map, Array.length_toList] at this; exact this
  have b1 : es1.size < scanBound := by rw [sz]; show _ < 4096; omega
  refine wpAny_bind (wpAny_storeSet_of ho hd ?_ (fits_of_scanBound b1))
  have o1 := TObj.store (es' := es1) (t' := t2) ho hx hd
  have sb := Heap.SameBut.update s.heap a (Obj.putSet es1 t2)
  split
  · have hp := relayAll_perm t2 es1 (SetTable.grown es1.size)
    have hfr := relayAll_fits t2 es1 (SetTable.grown es1.size)
    have hld := relayAll_led t2 es1 (SetTable.grown es1.size)
    generalize hR : relayAll t2 es1 (SetTable.grown es1.size) = Rl at hp hfr hld ⊢
    obtain ⟨es2, t3, g2⟩ := Rl
    dsimp only at hp hfr hld ⊢
    have sz2 : es2.size = es1.size := by rw [← Array.length_toList, hp.length_eq, Array.length_toList]
    refine wpAny_bind (hg _ _ _ (wpAny_bind (wpAny_storeSet_of o1 rfl ?_ (fits_of_scanBound (by rw [sz2]; exact b1)))))
    have o2 := TObj.store (es' := es2) (t' := t3) o1 hx rfl
    exact wpAny_pure (h _ (sb.trans (Heap.SameBut.update _ a _)) ⟨_, es2, _, t3, o2, hx, rfl, fun e he => gd e (hp.mem_iff.mp he), (hp.map keyE).trans pm, nd, ln, hfr, hld.1.trans ld, fun _ => hld.2 pl, fun z => absurd (sz2.symm.trans z) ne⟩)
  · exact wpAny_pure (h _ sb ⟨_, es1, _, t2, o1, hx, rfl, gd, pm, nd, ln, hf, ld, fun _ => pl, fun z => absurd z ne⟩)
/-- a text is added -/
theorem tset_add {xs : List Str} {y : Str} {tk : Tok} {Q : Bool → Shared → Prop} (hS : TxS w s.heap a xs) (hl : xs.length < 1000) (h : ∀ b h', Heap.SameBut a s.heap h' → TxS w h' a (addS xs y) → Q b { s with heap := h' }) :
    wpAny (model prog w) A (setAddHashed a (.str y tk) (keyH w (.inr y))) Q E s := by
  obtain ⟨o, es, ep, t, ho, x⟩ := hS
  have el : ElemsOf (mixKind prog w) es.toList := x.elems
  unfold setAddHashed setAddHashedIn
  refine wpAny_holding (wpAny_bind (wpAny_setState_of ho x.dat x.fit ?_))
  dsimp only
  rw [byScan_of (x := .str y tk) rfl x.bnd el]
  simp only [↓reduceIte]
  unfold setAddByScan
  refine wpAny_bind (wpAny_bind (wpAny_rule (wpAny_bind (wpAny_setScan_of (knd := mixKind prog w) (k := .inr y) (mixKind_str prog w y tk) ho x.dat x.fit el ?_))))
  cases hr : List.findIdx? (fun e => (mixKind prog w).is (.inr y) e.2) es.toList with
  | some j =>
    dsimp only
    refine wpAny_pure (wpAny_pure ?_)
    have hy := x.find_some hr
    exact h false s.heap (Heap.SameBut.refl a s.heap) (by unfold addS; rw [if_pos hy]; exact ⟨o, es, ep, t, ho, x⟩)
  | none =>
    dsimp only
    have hy := x.find_none hr
    have hperm := layNew_perm t es (keyH w (.inr y)) (.str y tk)
    have hfits := layNew_fits t es (keyH w (.inr y)) (.str y tk)
    have hled := layNew_led t es (keyH w (.inr y)) (.str y tk)
    have e0 : (mixKind prog w).hash (.inr y) = keyH w (.inr y) := rfl
    try rw [e0]
    generalize hL : layNew t es (keyH w (.inr y)) (.str y tk) = L at hperm hfits hled ⊢
    obtain ⟨es1, t1, wd, gave⟩ := L
    dsimp only at hperm hfits hled ⊢
    rw [Array.toList_push] at hperm
    have gd : ∀ e ∈ es1.toList, GoodE w e := fun e he => by
      rcases List.mem_append.mp (hperm.mem_iff.mp he) with z | z
      · exact x.good e z
      · exact ⟨y, tk, List.mem_singleton.mp z⟩
    have ea : addS xs y = xs ++ [y] := by unfold addS; rw [if_neg hy]
    have pm : (es1.toList.map keyE).Perm (addS xs y) := by
      rw [ea]
      refine (hperm.map keyE).trans ?_
      rw [List.map_append]
      exact x.perm.append_right _
    have ne : es1.size ≠ 0 := fun z => by
      have := pm.length_eq
      rw [ea, List.length_map, Array.length_toList, z, List.length_append] at this
      simp at this
    have ln : (addS xs y).length ≤ 1000 := by have := addS_len xs y; omega
    have hgw : ∀ (b : Bool) {s₁ : Shared} {Q' : Unit → Shared → Prop}, Q' () s₁ → wpAny (model prog w) A (match b with | true => rule "set.scan.the-table-gave-way" | false => pure ()) Q' E s₁ := fun b s₁ Q' hq => by
      cases b
      · exact wpAny_pure hq
      · exact wpAny_rule hq
    refine wpAny_bind (hgw _ ?_)
    have fin : ∀ h', Heap.SameBut a s.heap h' → TxS w h' a (addS xs y) → wpAny (model prog w) A (pure true : Sem Bool) Q E { s with heap := h' } := fun h' k z => wpAny_pure (h true h' k z)
    split
    · refine wpAny_bind ?_
      rw [hashByValue_scannable (x := .str y tk) 8 rfl]
      refine wpAny_pure ?_
      refine tset_tail ?_ ho x.ex x.dat gd pm (addS_nd x.nd) ln ?_ ?_ ?_ ne (fun h' k z => fin h' k z)
      · intro b s₁ Q' hq
        cases b
        · exact wpAny_pure hq
        · exact wpAny_rule hq
      · exact SetTable.fits_plain_off hfits
      · exact hled.trans x.led
      · rfl
    · rename_i hp1
      refine wpAny_bind (wpAny_pure ?_)
      simp only [↓reduceIte]
      refine tset_tail ?_ ho x.ex x.dat gd pm (addS_nd x.nd) ln hfits (hled.trans x.led) (by simpa using hp1) ne (fun h' k z => fin h' k z)
      intro b s₁ Q' hq
      cases b
      · exact wpAny_pure hq
      · exact wpAny_rule hq
end

/-! ### the order in which a set is walked -/
theorem idx_perm {α : Type} : ∀ {l : List α} {i : Nat} (h : i < l.length), (l[i] :: l.eraseIdx i).Perm l
  | [], i, h => absurd h (Nat.not_lt_zero _)
  | x :: r, 0, h => .refl _
  | x :: r, i + 1, h => by
    have h' : i < r.length := by simpa using h
    show (r[i] :: x :: r.eraseIdx i).Perm _
    exact (List.Perm.swap ..).trans ((idx_perm (l := r) (i := i) h').cons x)
theorem pick_perm {α : Type} (next : Nat → Nat) : ∀ (f k : Nat) (left : List α) (out : Array α), f = left.length → (pickOrder.go next f k left out).toList.Perm (out.toList ++ left)
  | 0, k, left, out, h => by
    rw [List.length_eq_zero_iff.mp h.symm]
    simp [pickOrder.go]
  | f + 1, k, left, out, h => by
    have hp : next k % left.length < left.length := Nat.mod_lt _ (by omega)
    unfold pickOrder.go
    rw [List.getElem?_eq_getElem hp]
    dsimp only
    refine (pick_perm next f (k + 1) _ _ (by rw [List.length_eraseIdx_of_lt hp]; omega)).trans ?_
    rw [Array.toList_push, List.append_assoc]
    exact List.Perm.append_left _ (idx_perm hp)
theorem pickOrder_perm {α : Type} (next : Nat → Nat) (xs : Array α) : (pickOrder next xs).toList.Perm xs.toList := by
  have := pick_perm next xs.size 0 xs.toList #[] (by simp)
  simpa [pickOrder] using this
section
variable {prog : Program} {w : World} {A : Around} {E : Value → Shared → Prop} {s : Shared} {a : Addr}
theorem wp_chooseO {n : Nat} (hn : n ≠ 0) {Q : Nat → Shared → Prop} (h : ∀ i d, i < n → Q i { s with drawn := d }) : wpAny (model prog w) A (choose .order n) Q E s := fun Γ p hΓ => by
  unfold choose
  rw [Sem.wp_choose]
  refine ⟨hn, ?_⟩
  simp only [Sem.wp_pure]
  exact h _ _ (Nat.mod_lt _ (Nat.pos_of_ne_zero hn))
theorem wp_drawOrder {α : Type} : ∀ (n : Nat) (l : List α) (s : Shared) (Q : List α → Shared → Prop), n = l.length → (∀ out d, out.Perm l → Q out { s with drawn := d }) → wpAny (model prog w) A (drawOrder n l) Q E s
  | 0, l, s, Q, hn, h => by
    have hl := List.length_eq_zero_iff.mp hn.symm
    subst hl
    exact wpAny_pure (h [] s.drawn .nil)
  | n + 1, l, s, Q, hn, h => by
    cases l with
    | nil => cases hn
    | cons x r =>
      show wpAny _ _ (choose .order (x :: r).length >>= _) _ _ _
      refine wpAny_bind (wp_chooseO (by simp) fun i d hi => ?_)
      rw [List.getElem?_eq_getElem hi]
      dsimp only
      refine wpAny_bind (wp_drawOrder n ((x :: r).eraseIdx i) _ _ (by rw [List.length_eraseIdx_of_lt hi]; simp at hn ⊢; omega) fun out d2 hp => wpAny_pure ?_)
      exact h _ d2 ((hp.cons _).trans (idx_perm hi))
end
end L2

set_option Elab.async false
set_option linter.all false
set_option maxRecDepth 100000
set_option maxHeartbeats 4000000

namespace L2
open PySem PySem.Spec PyProof.Rows
/-! ### a set of texts, walked -/
noncomputable def TIt (h : Heap) (it a : Addr) (ep n : Nat) (f : Value) (i : Nat) : Prop := ∃ o, h.get? it = some o ∧ o.cls = .type "set_iterator" ∧ o.data = .fields #[f, rawInt i, .ref a, rawInt n, rawInt ep]
theorem TIt.at' {h h' : Heap} {it a : Addr} {ep n i : Nat} {f : Value} (x : TIt h it a ep n f i) (k : ∀ o, h.get? it = some o → h'.get? it = some o) : TIt h' it a ep n f i := x.elim fun o zq474 => zq474.elim fun e r => ⟨o, k _ e, r⟩
theorem TIt.typeIs {s : Shared} {it a : Addr} {ep n i : Nat} {f : Value} (x : TIt s.heap it a ep n f i) : s.TypeIs (.ref it) "set_iterator" := x.elim fun o zq475 => zq475.elim fun e zq476 => zq476.elim fun r _ => ⟨o, e, r⟩
inductive Md (w : World) (h : Heap) (I a T : Addr) (es : Array (Int × Value)) (ep : Nat) (t : SetTable) (os : List (Int × Value)) (i : Nat) : Prop
  | text (b : setBy w = true) (e : os = (pickOrder (w.params.setOrder a ep) es).toList) (x : TIt h I a ep es.size (rawInt 0) i)
  | draw (pl : List Nat) (b : setBy w = false) (e : os.length = pl.length ∧ ∀ (k j : Nat), pl[k]? = some j → os[k]? = es[j]?) (x : TIt h I a ep es.size (.ref T) i) (y : ∃ o n, h.get? T = some o ∧ o.data = .seq (pl.map fun j => rawInt (j : Nat)).toArray n) (z : I ≠ T)
  | tab (sl : Nat) (b : setBy w = false) (l : es.size ≤ 1) (e : os = es.toList) (x : TIt h I a ep es.size (rawInt sl) i) (y : SetTable.below t.place sl = i)
noncomputable def TWk (w : World) (I a T : Addr) (os : List (Int × Value)) (i : Nat) (h : Heap) : Prop := ∃ o es ep t xs, h.get? a = some o ∧ TObj w o es ep t xs ∧ os.Perm es.toList ∧ I ≠ a ∧ Md w h I a T es ep t os i
section
variable {prog : Program} {w : World} {A : Around} {E : Value → Shared → Prop} {s : Shared} {a it : Addr}
theorem tit_set0 {ep n i : Nat} {f v : Value} {Q : Unit → Shared → Prop} (x : TIt s.heap it a ep n f i) (q : ∀ h', Heap.SameBut it s.heap h' → TIt h' it a ep n v i → Q () { s with heap := h' }) : wpAny (model prog w) A (setField (.ref it) 0 v) Q E s := by
  obtain ⟨o, ho, hc, hd⟩ := x
  exact wpAny_setField ho hd (by simp) (q _ (Heap.SameBut.update ..) ⟨_, Heap.get?_update_self _ ho (Obj.isFreed_of_fields (Obj.data_mapFields hd _)), (Obj.cls_mapFields ..).trans hc, by rw [Obj.data_mapFields hd]; simp⟩)
theorem tit_set1 {ep n i : Nat} {f : Value} {Q : Unit → Shared → Prop} (x : TIt s.heap it a ep n f i) (q : ∀ h', Heap.SameBut it s.heap h' → TIt h' it a ep n f (i + 1) → Q () { s with heap := h' }) : wpAny (model prog w) A (setField (.ref it) 1 (rawInt ((i : Int) + 1))) Q E s := by
  obtain ⟨o, ho, hc, hd⟩ := x
  exact wpAny_setField ho hd (by simp) (q _ (Heap.SameBut.update ..) ⟨_, Heap.get?_update_self _ ho (Obj.isFreed_of_fields (Obj.data_mapFields hd _)), (Obj.cls_mapFields ..).trans hc, by rw [Obj.data_mapFields hd]; simp [rawInt]⟩)
theorem si_stop {ep n i : Nat} {f : Value} {R : PySem.Fin → Shared → Prop} {E' : Value → Shared → Prop} (hh : A.handled = none) (x : TIt s.heap it a ep n f i)
    (q : ∀ h' e, Heap.ExtBut it s.heap h' → Shared.TypeIs { s with heap := h' } e "StopIteration" → E' e { s with heap := h' }) : wpAny (model prog w) A.in1 (do { setField (.ref it) 2 .none; raiseNew (← newExc (.type "StopIteration") []) }) R E' s := by
  obtain ⟨o, ho, hc, hd⟩ := x
  refine wpAny_bind (wpAny_setField ho hd (by simp) ?_)
  show wpAny _ _ (newExc (.type "StopIteration") [] >>= _) _ _ _
  refine wpAny_bind ?_
  simp only [newExc, newTuple]
  refine wpAny_bind (wpAny_newObj_type ?_ (by size_fits))
  refine wpAny_bind (m := firstArgMember _ _) (wpAny_of_eq (a := Value.none) (by first | rfl | (simp only [firstArgMember]; rfl)) ?_)
  refine wpAny_newObj_type ?_ (by size_fits)
  simp only [raiseNew]
  refine wpAny_bind (wpAny_handled ?_)
  rw [show A.in1.handled = none from hh]
  refine wpAny_bind (wpAny_pure (wpAny_throw ?_))
  refine q _ _ (((Heap.SameBut.update ..).extBut.push _).push _) ?_
  exact ⟨_, Heap.get?_push_size _ rfl, rfl⟩
theorem below_one (j : Nat) : SetTable.below #[j] 0 = 0 ∧ SetTable.below #[j] (j + 1) = 1 := by
  constructor
  · simp [SetTable.below, SetTable.below.go]
  · simp [SetTable.below, SetTable.below.go]
/-- the table, asked for the next one -/
theorem setNext_text {o : Obj} {es : Array (Int × Value)} {ep : Nat} {t : SetTable} {i : Nat} {Q : Option (Value × Nat) → Shared → Prop} (b : setBy w = true) (ho : s.heap.get? a = some o) (hd : o.data = .set es ep t) (hf : t.fits es.size = true)
    (q : Q (((pickOrder (w.params.setOrder a ep) es)[i]?).map fun e => (e.2, 0)) s) : wpAny (model prog w) A (setNext a 0 i ep) Q E s := by
  have hb : w.params.followText "set-order" = true := b
  unfold setNext
  refine wpAny_bind (wpAny_setState_of ho hd hf ?_)
  refine wpAny_bind (m := setsByText) (wpAny_bind (wpAny_askSetting (wpAny_pure ?_)))
  show wpAny _ _ (if w.params.followText "set-order" = true then _ else _) _ _ s
  rw [if_pos hb, if_neg (show ¬ ((ep != ep) = true) by simp)]
  refine wpAny_bind ?_
  unfold setWalk
  refine wpAny_bind (wpAny_setState_of ho hd hf ?_)
  refine wpAny_bind (m := setsByText) (wpAny_bind (wpAny_askSetting (wpAny_pure ?_)))
  show wpAny _ _ (if w.params.followText "set-order" = true then _ else _) _ _ s
  rw [if_pos hb]
  exact wpAny_bind (wpAny_askSetting (wpAny_pure (wpAny_pure q)))
theorem setNext_tab {o : Obj} {es : Array (Int × Value)} {ep : Nat} {t : SetTable} {sl i : Nat} {Q : Option (Value × Nat) → Shared → Prop} (b : setBy w = false) (ho : s.heap.get? a = some o) (hd : o.data = .set es ep t) (hf : t.fits es.size = true) (hl : t.led = !setBy w) (l : es.size ≤ 1)
    (q : Q (match es[SetTable.below t.place sl]?, t.place[SetTable.below t.place sl]? with | some (_, x), some j => some (x, j + 1) | _, _ => none) s) : wpAny (model prog w) A (setNext a sl i ep) Q E s := by
  have hb : w.params.followText "set-order" = false := b
  unfold setNext
  refine wpAny_bind (wpAny_setState_of ho hd hf ?_)
  refine wpAny_bind (m := setsByText) (wpAny_bind (wpAny_askSetting (wpAny_pure ?_)))
  show wpAny _ _ (if w.params.followText "set-order" = true then _ else _) _ _ s
  rw [if_neg (by rw [hb]; exact Bool.false_ne_true)]
  show wpAny _ _ (if (!t.plain && decide (es.size > 1)) = true then _ else _) _ _ s
  rw [if_neg (by rw [decide_eq_false (by omega), Bool.and_false]; exact Bool.false_ne_true)]
  show wpAny _ _ ((if (!t.led && !es.isEmpty) = true then _ else _) >>= _) _ _ s
  rw [if_neg (by rw [hl, b]; exact Bool.false_ne_true)]
  exact wpAny_bind (wpAny_pure (wpAny_pure q))
/-- the iterator's step, up to where the ways part -/
theorem si_next {ep n i : Nat} {f : Value} {o : Obj} {es : Array (Int × Value)} {t : SetTable} {Q : Option Value → Shared → Prop} (x : TIt s.heap it a ep es.size f i) (ho : s.heap.get? a = some o) (hd : o.data = .set es ep t) (hf : t.fits es.size = true)
    {E1 : Value → Shared → Prop}
    (q : wpAny (model prog w) A.in1 (if let .int slot _ := f then
      (do match ← setNext a slot.toNat i ep with
          | some (x, next) => setField (.ref it) 0 (rawInt next); setField (.ref it) 1 (rawInt ((i : Int) + 1)); ret x
          | none => setField (.ref it) 2 .none; raiseNew (← newExc (.type "StopIteration") []))
      else (do
        let some places ← seqItems? f | unsupported "internal:set_iterator"
        match places[i]? with
        | some (.int place _) => let x ← setNextDrawn a place.toNat ep; setField (.ref it) 1 (rawInt ((i : Int) + 1)); ret x
        | some _ => unsupported "internal:set_iterator"
        | none => setField (.ref it) 0 (rawInt 0); setField (.ref it) 2 .none; raiseNew (← newExc (.type "StopIteration") [])))
      (fun fin s' => ∃ v, fin = .done (.ret v) ∧ Q (some v) s') (fun e s' => Shared.TypeIs s' e "StopIteration" ∧ Q none s') s) :
    wpAny (model prog w) A (pyNext (.ref it)) Q E s := by
  obtain ⟨oi, hoi, hc, hdi⟩ := id x
  unfold pyNext
  refine wpAny_bind (wpAny_attempt (wpAny_callSpecial?_slot (name := Str.ofString "__next__") x.typeIs slot_si_next (wpAny_call_entry slot_si_next x.typeIs entry_si_next ?_ (args_si_next _))))
  unfold Builtin.«set_iterator.__next__»
  refine wpAny_bind (wpAny_pure ?_)
  refine wpAny_bind (wpAny_fieldsOf hoi hdi ?_)
  show wpAny _ _ (setEntries a >>= _) _ _ s
  unfold setEntries
  refine wpAny_bind (wpAny_bind (wpAny_setState_of ho hd hf (wpAny_pure ?_)))
  dsimp only
  rw [if_neg (by simp)]
  refine wpAny_mono q (fun fin s' z => ?_) (fun e s' z => ?_)
  · obtain ⟨v, rfl, z⟩ := z
    exact ⟨v, rfl, wpAny_pure z⟩
  · exact wpAny_bind (wpAny_isInstance (T := "StopIteration") (b := true) z.1 isSubtype_stop (wpAny_pure z.2))
end
end L2

set_option Elab.async false
set_option linter.all false
set_option maxRecDepth 100000
set_option maxHeartbeats 4000000

namespace L2
open PySem PySem.Spec PyProof.Rows
section
variable {prog : Program} {w : World} {A : Around} {E : Value → Shared → Prop} {s : Shared} {a I T : Addr}
theorem Md.keep {h h' : Heap} {es : Array (Int × Value)} {ep : Nat} {t : SetTable} {os : List (Int × Value)} {i : Nat} (x : Md w h I a T es ep t os i) (k : ∀ b, b = I ∨ b = T → ∀ o, h.get? b = some o → h'.get? b = some o) : Md w h' I a T es ep t os i := by
  cases x with
  | text b e x => exact .text b e (x.at' (k I (.inl rfl)))
  | draw pl b e x y z =>
    obtain ⟨o, n, e1, e2⟩ := y
    exact .draw pl b e (x.at' (k I (.inl rfl))) ⟨o, n, k T (.inr rfl) o e1, e2⟩ z
  | tab sl b l e x y => exact .tab sl b l e (x.at' (k I (.inl rfl))) y
theorem twk_item {os : List (Int × Value)} {i : Nat} {e : Int × Value} {Q : Option Value → Shared → Prop} (x : TWk w I a T os i s.heap) (hi : os[i]? = some e) (q : ∀ h', Heap.SameBut I s.heap h' → TWk w I a T os (i + 1) h' → Q (some e.2) { s with heap := h' }) :
    wpAny (model prog w) A (pyNext (.ref I)) Q E s := by
  obtain ⟨o, es, ep, t, xs, ho, X, pm, hIa, m⟩ := x
  have done : ∀ h', Heap.SameBut I s.heap h' → Md w h' I a T es ep t os (i + 1) → Q (some e.2) { s with heap := h' } := fun h' k m' => q h' k ⟨o, es, ep, t, xs, by rw [k.2 a (fun z => hIa z.symm)]; exact ho, X, pm, hIa, m'⟩
  cases m with
  | text b eo x =>
    have hi' : (pickOrder (w.params.setOrder a ep) es)[i]? = some e := by rw [eo, Array.getElem?_toList] at hi; exact hi
    refine si_next (E1 := E) (n := 0) x ho X.dat X.fit ?_
    show wpAny _ _ (setNext a 0 i ep >>= _) _ _ _
    refine wpAny_bind (setNext_text b ho X.dat X.fit ?_)
    rw [hi']
    refine wpAny_bind (tit_set0 x fun h1 k1 x1 => wpAny_bind (tit_set1 (s := { s with heap := h1 }) x1 fun h2 k2 x2 => wpAny_pure ⟨_, rfl, done h2 (k1.trans k2) (.text b eo x2)⟩))
  | draw pl b eo x y z =>
    obtain ⟨oT, nT, hT, hTd⟩ := y
    have hlt : i < pl.length := by
      rw [← eo.1]
      exact (List.getElem?_eq_some_iff.mp hi).1
    have hpl : pl[i]? = some pl[i] := List.getElem?_eq_getElem hlt
    have he : es[pl[i]]? = some e := (eo.2 i _ hpl).symm.trans hi
    refine si_next (E1 := E) (n := 0) x ho X.dat X.fit ?_
    show wpAny _ _ (seqItems? (.ref T) >>= _) _ _ _
    refine wpAny_bind (wpAny_seqItems hT hTd ?_)
    have hpi : (pl.map fun j => rawInt (j : Nat)).toArray[i]? = some (rawInt (pl[i] : Nat)) := by simp [hlt]
    dsimp only
    rw [hpi]
    show wpAny _ _ (setNextDrawn a pl[i] ep >>= _) _ _ _
    refine wpAny_bind ?_
    unfold setNextDrawn
    refine wpAny_bind (wpAny_setState_of ho X.dat X.fit ?_)
    dsimp only
    rw [if_neg (show ¬ ((ep != ep) = true) by simp), he]
    refine wpAny_pure ?_
    refine wpAny_bind (tit_set1 x fun h2 k2 x2 => wpAny_pure ⟨_, rfl, done h2 k2 (.draw pl b eo x2 ⟨oT, nT, by rw [k2.2 T (fun q => z q.symm)]; exact hT, hTd⟩ z)⟩)
  | tab sl b l eo x y =>
    have hz : es.size = 1 ∧ i = 0 := by
      rw [eo] at hi
      have := (List.getElem?_eq_some_iff.mp hi).1
      rw [Array.length_toList] at this
      omega
    have hei : es[i]? = some e := by rw [eo, Array.getElem?_toList] at hi; exact hi
    have hps : t.place.size = 1 := by
      have := X.fit
      unfold SetTable.fits at this
      simp only [Bool.and_eq_true, beq_iff_eq] at this
      omega
    obtain ⟨j, hj⟩ : ∃ j, t.place = #[j] := by
      rcases hp : t.place with ⟨l⟩
      rw [hp] at hps
      match l, hps with
      | [j], _ => exact ⟨j, rfl⟩
    refine si_next (E1 := E) (n := 0) x ho X.dat X.fit ?_
    show wpAny _ _ (setNext a sl i ep >>= _) _ _ _
    refine wpAny_bind (setNext_tab b ho X.dat X.fit X.led l ?_)
    have hpj : t.place[i]? = some j := by rw [hj, hz.2]; rfl
    rw [y, hei, hpj]
    refine wpAny_bind (tit_set0 x fun h1 k1 x1 => wpAny_bind (tit_set1 (s := { s with heap := h1 }) x1 fun h2 k2 x2 => wpAny_pure ⟨_, rfl, done h2 (k1.trans k2) (.tab (j + 1) b l eo x2 (by rw [hj, (below_one j).2, hz.2]))⟩))
theorem twk_done {os : List (Int × Value)} {Q : Option Value → Shared → Prop} (hh : A.handled = none) (x : TWk w I a T os os.length s.heap) (q : ∀ h', Heap.ExtBut I s.heap h' → Q none { s with heap := h' }) : wpAny (model prog w) A (pyNext (.ref I)) Q E s := by
  obtain ⟨o, es, ep, t, xs, ho, X, pm, hIa, m⟩ := x
  have hn : os.length = es.size := by rw [pm.length_eq, Array.length_toList]
  have hq : ∀ h' e, Heap.ExtBut I s.heap h' → Shared.TypeIs { s with heap := h' } e "StopIteration" → Shared.TypeIs { s with heap := h' } e "StopIteration" ∧ Q none { s with heap := h' } := fun h' e k z => ⟨z, q h' k⟩
  cases m with
  | text b eo x =>
    refine si_next (E1 := E) (n := 0) x ho X.dat X.fit ?_
    show wpAny _ _ (setNext a 0 os.length ep >>= _) _ _ _
    refine wpAny_bind (setNext_text b ho X.dat X.fit ?_)
    have hi' : (pickOrder (w.params.setOrder a ep) es)[os.length]? = none := by
      have : (pickOrder (w.params.setOrder a ep) es).toList[os.length]? = none := by rw [← eo]; simp
      rwa [Array.getElem?_toList] at this
    rw [hi']
    exact si_stop hh x hq
  | draw pl b eo x y z =>
    obtain ⟨oT, nT, hT, hTd⟩ := y
    refine si_next (E1 := E) (n := 0) x ho X.dat X.fit ?_
    show wpAny _ _ (seqItems? (.ref T) >>= _) _ _ _
    refine wpAny_bind (wpAny_seqItems hT hTd ?_)
    have hpi : (pl.map fun j => rawInt (j : Nat)).toArray[os.length]? = none := by simp [eo.1]
    dsimp only
    rw [hpi]
    refine wpAny_bind (tit_set0 x fun h1 k1 x1 => ?_)
    refine si_stop (s := { s with heap := h1 }) hh x1 fun h' e k z => hq h' e (k1.extBut.trans k) z
  | tab sl b l eo x y =>
    refine si_next (E1 := E) (n := 0) x ho X.dat X.fit ?_
    show wpAny _ _ (setNext a sl os.length ep >>= _) _ _ _
    refine wpAny_bind (setNext_tab b ho X.dat X.fit X.led l ?_)
    have hei : es[os.length]? = none := by rw [hn]; simp
    rw [y, hei]
    exact si_stop hh x hq
theorem walks_tset (hh : A.handled = none) (I a T : Addr) (os : List (Int × Value)) : Walks prog w A I [I, a, T] [I] os.length (fun i v => ∃ e, os[i]? = some e ∧ v = e.2) (fun i h => TWk w I a T os i h) where
  sub := fun b hb => by simp at hb; simp [hb]
  frame := fun i h h' st hk => by
    obtain ⟨o, es, ep, t, xs, ho, X, pm, hIa, m⟩ := st
    exact ⟨o, es, ep, t, xs, hk a (by simp) o ho, X, pm, hIa, m.keep fun b hb o e => hk b (by rcases hb with rfl | rfl <;> simp) o e⟩
  item := fun i s Q E hi st hQ => by
    refine twk_item st (List.getElem?_eq_getElem hi) fun h' k st' => ?_
    exact hQ _ h' s.toks ⟨_, List.getElem?_eq_getElem hi, rfl⟩ st' fun b o hb e => k.extBut b o (fun h => hb (by simp [h])) e
  done := fun s Q E st hQ => twk_done hh st fun h' he' => hQ h' s.toks fun b o hb e => he' b o (fun h => hb (by simp [h])) e
  self := fun i s Q E st hQ => by
    obtain ⟨o, es, ep, t, xs, ho, X, pm, hIa, m⟩ := st
    have hT : s.TypeIs (.ref I) "set_iterator" := by
      cases m with
      | text b e x => exact x.typeIs
      | draw pl b e x y z => exact x.typeIs
      | tab sl b l e x y => exact x.typeIs
    refine wpAny_pyIter_slot hT slot_si_iter (wpAny_call_entry slot_si_iter hT entry_si_iter ?_ (args_si_iter _))
    show wpAny _ _ (ret (.ref I)) _ _ s
    exact wpAny_pure ⟨_, rfl, "set_iterator", _, hT, slot_si_next.lookup, hQ⟩
theorem pl_get {es : Array (Int × Value)} : ∀ {pl : List Nat}, (∀ j ∈ pl, j < es.size) → (pl.filterMap (es[·]?)).length = pl.length ∧ ∀ (k j : Nat), pl[k]? = some j → (pl.filterMap (es[·]?))[k]? = es[j]?
  | [], _ => ⟨rfl, fun k j h => by cases h⟩
  | p :: r, h => by
    have hps : p < es.size := h p (by simp)
    have hp : es[p]? = some es[p] := Array.getElem?_eq_getElem hps
    obtain ⟨h1, h2⟩ := pl_get (pl := r) fun j hj => h j (List.mem_cons_of_mem _ hj)
    rw [List.filterMap_cons_some hp]
    refine ⟨by simp [h1], fun k j hk => ?_⟩
    cases k with
    | zero => cases hk; exact hp.symm
    | succ k => exact h2 k j hk
/-- iter of a set of texts -/
theorem pyIter_tset {xs : List Str} {Q : Value → Shared → Prop} (x : TxS w s.heap a xs) (hQ : ∀ I T d h' os, s.heap.objs.size ≤ I → (∀ b o, s.heap.get? b = some o → h'.get? b = some o) → (T = a ∨ s.heap.objs.size ≤ T) → TWk w I a T os 0 h' → (os.map keyE).Perm xs → (∀ e ∈ os, GoodE w e) → Q (.ref I) { s with heap := h', drawn := d }) :
    wpAny (model prog w) A (pyIter (.ref a)) Q E s := by
  obtain ⟨o, es, ep, t, ho, X⟩ := id x
  have hlt := Heap.lt_size ho
  refine wpAny_pyIter_slot x.typeIs PySem.F.slot_set_iter (wpAny_call_entry PySem.F.slot_set_iter x.typeIs entry_set_iter' ?_ (PySem.F.args_set_iter_1 _))
  unfold Builtin.«frozenset.__iter__»
  refine wpAny_bind (m := Builtin.Frozenset.slot0 _ _) (wpAny_pure ?_)
  refine wpAny_bind ?_
  unfold Builtin.Frozenset.sizeOf setEntries
  refine wpAny_bind (wpAny_bind (wpAny_setState_of ho X.dat X.fit (wpAny_pure (wpAny_pure ?_))))
  refine wpAny_bind ?_
  unfold setDrawn
  refine wpAny_bind (wpAny_setState_of ho X.dat X.fit ?_)
  refine wpAny_bind (m := setsByText) (wpAny_bind (wpAny_askSetting (wpAny_pure ?_)))
  show wpAny _ _ (pure (!setBy w && (!t.plain && decide (es.size > 1)))) _ _ _
  refine wpAny_pure ?_
  have fin : ∀ (f : Value) (d : _) (h1 : Heap), (∀ b o, s.heap.get? b = some o → h1.get? b = some o) → s.heap.objs.size ≤ h1.objs.size →
      (∀ h', (∀ b o, h1.get? b = some o → h'.get? b = some o) → TIt h' h1.objs.size a ep es.size f 0 → h1.objs.size < h'.objs.size → ∃ T os, (T = a ∨ s.heap.objs.size ≤ T) ∧ os.Perm es.toList ∧ Md w h' h1.objs.size a T es ep t os 0) →
      wpAny (model prog w) A.in1 (setEpoch a >>= fun e => newFields "set_iterator" [f, rawInt 0, .ref a, rawInt es.size, rawInt e] >>= fun v => ret v) (fun fin s' => ∃ v, fin = .done (.ret v) ∧ ∃ T r, s'.TypeIs v T ∧ typeLookup (.type T) "__next__" = pure (some r) ∧ Q v s') E { s with heap := h1, drawn := d } := by
    intro f d h1 k1 hz hm
    refine wpAny_bind ?_
    unfold setEpoch
    refine wpAny_bind (wpAny_setState_of (s := { s with heap := h1, drawn := d }) (k1 a o ho) X.dat X.fit (wpAny_pure ?_))
    refine wpAny_bind (wpAny_newObj_type ?_)
    have ht : TIt (h1.push { cls := .type "set_iterator", data := .fields #[f, rawInt 0, .ref a, rawInt es.size, rawInt ep] }) h1.objs.size a ep es.size f 0 := ⟨_, Heap.get?_push_size _ rfl, rfl, rfl⟩
    obtain ⟨T, os, hT, pm, m⟩ := hm _ (fun b o e => Heap.get?_push_of_some _ e) ht (by rw [Heap.size_push]; exact Nat.lt_succ_self _)
    refine wpAny_pure ⟨_, rfl, "set_iterator", _, ht.typeIs (s := { s with heap := _, drawn := d }), slot_si_next.lookup, ?_⟩
    refine hQ h1.objs.size T d _ os hz (fun b o e => Heap.get?_push_of_some _ (k1 b o e)) hT ⟨o, es, ep, t, xs, Heap.get?_push_of_some _ (k1 a o ho), X, pm, Nat.ne_of_gt (Nat.lt_of_lt_of_le hlt hz), m⟩ ((pm.map keyE).trans X.perm) fun e he => X.good e (pm.mem_iff.mp he)
  cases hb : (!setBy w && (!t.plain && decide (es.size > 1))) with
  | false =>
    rw [if_neg Bool.false_ne_true]
    refine wpAny_bind (m := pure (rawInt 0)) (wpAny_pure ?_)
    refine fin (rawInt 0) s.drawn s.heap (fun b o e => e) (Nat.le_refl _) fun h' k ht hl => ?_
    cases hw : setBy w with
    | true => exact ⟨a, _, .inl rfl, pickOrder_perm _ _, .text hw rfl ht⟩
    | false =>
      have hs : es.size ≤ 1 := by
        refine Nat.le_of_not_lt fun z => ?_
        rw [hw, X.pl (by omega), decide_eq_true (by omega : es.size > 1)] at hb
        cases hb
      refine ⟨a, _, .inl rfl, .refl _, .tab 0 hw hs rfl ht ?_⟩
      have hps : t.place.size = es.size := by
        have := X.fit
        unfold SetTable.fits at this
        simp only [Bool.and_eq_true, beq_iff_eq] at this
        exact this.1
      rcases hp : t.place with ⟨l⟩
      rw [hp] at hps
      match l, hps with
      | [], _ => rfl
      | [j], _ => exact (below_one j).1
      | _ :: _ :: _, z => simp at z; omega
  | true =>
    have hw : setBy w = false := by cases hw : setBy w with | false => rfl | true => rw [hw] at hb; cases hb
    rw [if_pos rfl]
    refine wpAny_bind (wp_drawOrder es.size (List.range es.size) s _ (by simp) fun pl d hp => ?_)
    have hsz : es.size ≤ sizeLine := fits_of_scanBound X.bnd
    refine wpAny_bind (wpAny_newTuple ?_ (by rw [List.length_map, hp.length_eq, List.length_range]; exact hsz))
    have hpl : ∀ j ∈ pl, j < es.size := fun j hj => List.mem_range.mp (hp.mem_iff.mp hj)
    obtain ⟨g1, g2⟩ := pl_get hpl
    refine fin (.ref s.heap.objs.size) d (s.heap.push { cls := .type "tuple", data := .seq (pl.map fun (i : Nat) => rawInt i).toArray }) (fun b o e => Heap.get?_push_of_some _ e) (by rw [Heap.size_push]; exact Nat.le_succ _) fun h' k ht hl => ?_
    refine ⟨s.heap.objs.size, pl.filterMap (es[·]?), .inr (Nat.le_refl _), ?_, .draw pl hw ⟨g1, g2⟩ ht ⟨_, 0, k _ _ (Heap.get?_push_size _ rfl), rfl⟩ (Nat.ne_of_gt (by rw [Heap.size_push]; exact Nat.lt_succ_self _))⟩
    exact (hp.filterMap _).trans (by rw [filterMap_getElem?_range])
end
end L2

set_option Elab.async false
set_option linter.all false
set_option maxRecDepth 100000
set_option maxHeartbeats 4000000

namespace L2
open PySem PySem.Spec PyProof.Rows
/-! ### a set of texts, collected and sorted -/
theorem strs_of {w : World} : ∀ {os : List (Int × Value)}, (∀ e ∈ os, GoodE w e) → StrsAre (os.map (·.2)) (os.map keyE)
  | [], _ => .nil
  | e :: r, h => by
    obtain ⟨y, tk, rfl⟩ := h e (by simp)
    exact .cons y tk (strs_of fun e he => h e (List.mem_cons_of_mem _ he))
section
variable {prog : Program} {w : World} {A : Around} {E : Value → Shared → Prop} {s : Shared} {a : Addr}
theorem tset_extend {xs : List Str} {R : Result → Shared → Prop} (hh : A.handled = none) (x : TxS w s.heap a xs) (S : Addr) (hSa : S ≠ a) (res : Value) (c₀ : Nat) (hS : s.heap.get? S = some { cls := .type "list", data := .seq #[] c₀ })
    (hR : ∀ (h' : Heap) (tk : Nat) (d : Drawn) (os : List (Int × Value)) (acc : Array Value) (c' : Nat), (∀ b o, b ≠ S → s.heap.get? b = some o → h'.get? b = some o) → h'.get? S = some { cls := .type "list", dict := none, data := .seq acc c', slots := #[] } → acc.toList = os.map (·.2) → (os.map keyE).Perm xs → (∀ e ∈ os, GoodE w e) → R (.ok (.ret res)) { s with heap := h', toks := tk, drawn := d }) (hn : xs.length ≤ sizeLine) :
    wpAny (model prog w) A.in1 (Builtin.List.listExtendWith (.ref S) (.ref a) res) (fun fin s' => match fin with | .done f => R (.ok f) s' | .again c' => c'.quiet = true ∧ codeAny (model prog w) A c' R s') (fun e s' => R (.error e) s') s := by
  unfold Builtin.List.listExtendWith
  refine wpAny_bind (wpAny_typeOf (T := "set") x.typeIs ?_)
  have h1 : Builtin.List.listSameRef (.ref S) (.ref a) = false := by simp [Builtin.List.listSameRef, hSa]
  have h2 : (Value.type "set" == Value.type "list") = false := by decide
  have h3 : (Value.type "set" == Value.type "tuple") = false := by decide
  simp only [h1, h2, h3, Bool.or_false, Bool.false_eq_true, if_false]
  refine wpAny_bind (pyIter_tset x fun I T d hp os hI kp hT st pm gd => ?_)
  have hlS := Heap.lt_size hS
  have ln : os.length = xs.length := by have := pm.length_eq; rwa [List.length_map] at this
  have hST : S ≠ T := fun z => hT.elim (fun q => hSa (z.trans q)) fun q => absurd (Nat.lt_of_lt_of_le (z ▸ hlS) q) (Nat.lt_irrefl _)
  have hSf : S ∉ [I, a, T] := by
    simp only [List.mem_cons, List.not_mem_nil, or_false, not_or]
    exact ⟨Nat.ne_of_lt (Nat.lt_of_lt_of_le hlS hI), hSa, hST⟩
  have W := walks_tset (prog := prog) (w := w) (A := A.in1) hh I a T os
  have key : ∀ (h : Heap) (c₁ tk : Nat), TWk w I a T os 0 h → (∀ b o, b ≠ S → s.heap.get? b = some o → h.get? b = some o) → h.get? S = some { cls := .type "list", data := .seq #[] c₁ } →
      codeAny (model prog w) A (.builtin "list.extend.loop" ⟨[.ref S, .ref I, res], []⟩) R { s with heap := h, toks := tk, drawn := d } := by
    intro h c₁ tk hst hk hS₁
    refine codeAny_extend_loopS W.toS (by omega) S hSf res os.length 0 _ #[] c₁ rfl (Nat.zero_le _) hst hS₁ (ItemsOf.nil _) fun s' acc' c' hm hS' hacc => ?_
    rw [Moved.eq_with hm]
    refine hR s'.heap s'.toks d os acc' c' (fun b o hb e => hm.heap b o (fun hmem => ?_) (hk b o hb e)) hS' ?_ pm gd
    · rcases List.mem_cons.mp hmem with e' | hmem
      · exact hb e'
      · have hlt := Heap.lt_size e
        rw [List.mem_singleton.mp hmem] at hlt
        exact absurd (Nat.lt_of_lt_of_le hlt hI) (Nat.lt_irrefl _)
    · refine List.ext_getElem? fun j => ?_
      rw [Array.getElem?_toList, List.getElem?_map]
      by_cases hj : j < os.length
      · have hja : j < acc'.size := by rw [hacc.1]; exact hj
        obtain ⟨e, he, hv⟩ := hacc.2 j _ (Array.getElem?_eq_getElem hja)
        rw [he, Array.getElem?_eq_getElem hja, hv]
        rfl
      · rw [Array.getElem?_eq_none (by rw [hacc.1]; omega), List.getElem?_eq_none (by omega)]
        rfl
  have hS₁ := kp _ _ hS
  refine wpAny_bind (wpAny_holding (hint_set (TxS.typeIs (s := { s with heap := hp, drawn := d }) (x.at' fun o e => kp a o e)) ?_))
  refine wpAny_ite_split (fun _ => ?_) (fun _ => wpAny_pure ⟨plainId_quiet PySem.F.plain_extend_loop _, key _ c₀ _ st (fun b o _ e => kp b o e) hS₁⟩)
  refine wpAny_bind (wpAny_rule (wpAny_bind ?_))
  show wpAny _ _ (updateSeq S (·.push .none) >>= fun _ => updateSeq S (·.pop)) _ _ _
  refine wpAny_bind (wpAny_updateSeq (s := { s with heap := hp, drawn := d }) hS₁ rfl ?_)
  have hS₂ := Heap.get?_update_self (Obj.mapSeq (·.push Value.none)) hS₁ rfl
  refine wpAny_updateSeq (hz := by seq_fits) hS₂ rfl ?_
  have hS₃ := Heap.get?_update_self (Obj.mapSeq (·.pop)) hS₂ rfl
  refine wpAny_pure ⟨plainId_quiet PySem.F.plain_extend_loop _, key _ _ _ (W.frame 0 _ _ st fun b hb o e => ?_) (fun b o hb e => ?_) hS₃⟩
  · have hbS : b ≠ S := fun h => hSf (h ▸ hb)
    exact (Heap.get?_update_other _ _ (Ne.symm hbS)).trans ((Heap.get?_update_other _ _ (Ne.symm hbS)).trans e)
  · exact (Heap.get?_update_other _ _ (Ne.symm hb)).trans ((Heap.get?_update_other _ _ (Ne.symm hb)).trans (kp b o e))
theorem tset_collect {xs : List Str} {R : List Value → Shared → Prop} (hh : A.handled = none) (x : TxS w s.heap a xs)
    (h : ∀ (h' : Heap) (tk : Nat) (d : Drawn) (us : List Value) (ys : List Str), (∀ b o, s.heap.get? b = some o → h'.get? b = some o) → StrsAre us ys → ys.Perm xs → R us { s with heap := h', toks := tk, drawn := d }) (hn : xs.length ≤ sizeLine) : wpAny (model prog w) A (collect (.ref a)) R E s := by
  obtain ⟨o, _, _, _, ho, _⟩ := id x
  have hlt := Heap.lt_size ho
  unfold collect
  refine wpAny_bind (wpAny_runValue (codeAny_builtin PyProof.Rows.entry_proto_collect' ?_))
  rw [Around.under_plainId PySem.F.plain_proto_collect _]
  show wpAny _ A.in1 (newList [] >>= fun l => again (.builtin "list.__iadd__" ⟨[l, .ref a], []⟩)) _ _ s
  refine wpAny_bind (wpAny_newObj_type (wpAny_pure ⟨plainId_quiet PySem.F.plain_list_iadd _, codeAny_builtin PyProof.Rows.entry_list_iadd' ?_⟩))
  rw [Around.under_plainId PySem.F.plain_list_iadd _]
  show wpAny _ A.in1 (Builtin.List.listExtendWith (.ref s.heap.objs.size) (.ref a) (.ref s.heap.objs.size)) _ _ _
  have key := tset_extend (prog := prog) (A := A) (s := { s with heap := s.heap.push { cls := .type "list", data := .seq ([] : List Value).toArray } })
    (R := fun (q : Result) (s' : Shared) => ∃ (h' : Heap) (tk : Nat) (d : Drawn) (os : List (Int × Value)) (acc : Array Value) (c' : Nat), q = .ok (.ret (.ref s.heap.objs.size)) ∧ s' = { s with heap := h', toks := tk, drawn := d } ∧ (∀ b o, s.heap.get? b = some o → h'.get? b = some o) ∧
      h'.get? s.heap.objs.size = some { cls := .type "list", dict := none, data := .seq acc c', slots := #[] } ∧ acc.toList = os.map (·.2) ∧ (os.map keyE).Perm xs ∧ ∀ e ∈ os, GoodE w e)
    hh (x.at' fun o e => Heap.get?_push_of_some _ e) s.heap.objs.size (Nat.ne_of_gt hlt) (.ref s.heap.objs.size) 0 (Heap.get?_push_size _ rfl)
    (fun h' tk d os acc c' hk hS' e1 e2 e3 => ⟨h', tk, d, os, acc, c', rfl, rfl, fun b o e => hk b o (Nat.ne_of_lt (Heap.lt_size e)) (Heap.get?_push_of_some _ e), hS', e1, e2, e3⟩) hn
  refine wpAny_mono key (fun fin s' z => ?_) fun e s' z => ?_
  · cases fin with
    | done f =>
      obtain ⟨h', tk, d, os, acc, c', e, rfl, hk, hS', e1, e2, e3⟩ := z
      cases e
      show wpAny _ A (load s.heap.objs.size >>= _) _ _ _
      refine wpAny_bind (wpAny_load (s := { s with heap := h', toks := tk, drawn := d }) hS' (wpAny_pure ?_))
      exact h h' tk d _ _ hk (by rw [e1]; exact strs_of e3) e2
    | again c₁ =>
      refine ⟨z.1, codeAny_mono z.2 fun q s₂ y => ?_⟩
      obtain ⟨h', tk, d, os, acc, c', rfl, rfl, hk, hS', e1, e2, e3⟩ := y
      show wpAny _ A (load s.heap.objs.size >>= _) _ _ _
      refine wpAny_bind (wpAny_load (s := { s with heap := h', toks := tk, drawn := d }) hS' (wpAny_pure ?_))
      exact h h' tk d _ _ hk (by rw [e1]; exact strs_of e3) e2
  · obtain ⟨_, _, _, _, _, _, e', _⟩ := z
    cases e'
/-- sorted of what collects to texts, with draws -/
theorem sorted_collectsD {r : Addr} {Q : Value → Shared → Prop} (hcol : wpAny (model prog w) A.in1 (collect (.ref r)) (fun us s' => ∃ (ys : List Str) (h' : Heap) (tk : Nat) (d : Drawn), s' = { s with heap := h', toks := tk, drawn := d } ∧ StrsAre us ys ∧ us.length < 64 ∧
      ∀ (h2 : Heap) (out : List Value) (ys' : List Str) (e : Nat), (∀ b o, h'.get? b = some o → h2.get? b = some o) → h2.get? h'.objs.size = some (seqObj "list" out.toArray e) → StrsAre out ys' → ys'.Perm ys → sortedS ys' = true → Q (.ref h'.objs.size) { s with heap := h2, toks := tk, drawn := d }) E s) :
    wpAny (model prog w) A (call (.builtin "sorted") [.ref r]) Q E s := by
  refine Calls.call_function_entry kind_sorted plain_sorted entry_sorted (args_sorted1 _) ?_
  unfold Builtin.«sorted»
  refine wpAny_bind (m := checkCount "sorted" 1 1 _) (wpAny_pure ?_)
  refine wpAny_bind (wpAny_mono hcol (fun us s' zq392 => zq392.elim fun ys zq393 => zq393.elim fun h' zq394 => zq394.elim fun tk zq395 => zq395.elim fun d zq396 => zq396.elim fun es zq397 => zq397.elim fun hS zq398 => zq398.elim fun h64 fin => ?_) fun _ _ e => e)
  subst es
  refine wpAny_bind (wpAny_newList ?_ (by rw [sizeLine_eq]; omega))
  have hoL : (h'.push (seqObj "list" us.toArray 0)).get? h'.objs.size = some (seqObj "list" us.toArray 0) := Heap.get?_push_size _ rfl
  show wpAny _ _ _ _ _ { s with heap := h'.push (seqObj "list" us.toArray 0), toks := tk, drawn := d }
  refine wpAny_bind (wpAny_holding (wpAny_call_entry slot_list_sort ⟨_, hoL, rfl⟩ entry_list_sort (list_sort_treeK strKind_oneLt hoL hS.keysOf (fun v₁ v₂ rest e => keyKind_strs (by rw [← e]; exact hS)) h64 fun st' a1 a2 => ⟨_, rfl, ?_⟩) (args_list_sort _)))
  obtain ⟨ys', h1, h2, h3⟩ := sorted_out_str hS a1 a2
  obtain ⟨e, he⟩ := sortedHeap_at (vs := us) (out := (arrOf st').map (·.2)) hoL
  refine wpAny_pure ⟨_, rfl, fin _ ((arrOf st').map (·.2)).toList ys' e (fun b o q => ?_) (by rw [Array.toArray_toList]; exact he) h1 h2 h3⟩
  have hb := Heap.lt_size q
  rw [sortedHeap_old (Nat.ne_of_lt hb) (by rw [Heap.size_push]; exact Nat.lt_succ_of_lt hb)]
  exact Heap.get?_push_of_some _ q
end
/-- a set of texts, in the tracked heap -/
noncomputable def tset (w : World) (a : Addr) (xs : List Str) : HO := .ext fun h => TxS w h a xs
theorem tset_ok {P : Program} {w : World} {H : Hp} {h : Heap} {a : Addr} {xs : List Str} (x : TxS w h a xs) : ObjOk P w H h a (tset w a xs) :=
  ⟨x, x.elim fun o zq477 => zq477.elim fun _ zq478 => zq478.elim fun _ zq479 => zq479.elim fun _ zq480 => zq480.elim fun e _ => ⟨o, e⟩, fun _ _ z k => z.at' k⟩
theorem tset_rd {P : Program} {w : World} {H : Hp} {h : Heap} {a : Addr} {xs : List Str} (ok : HOk P w H h) (e : H a = some (tset w a xs)) : TxS w h a xs := (show ObjOk P w H h a (tset w a xs) from ok a _ e).1
section
variable {X : Cx} {pins : List (Addr × Obj)} {σ : List (Option V)} {H : Hp} {s : Shared}
theorem Inv.drew {d : Drawn} (I : Inv X pins σ H s) : Inv X pins σ H { s with drawn := d } := ⟨I.ok, I.os, I.bare, I.base, I.loc, I.cell, I.free, I.freeC, I.pin, I.hok, I.len⟩
/-- sorted of a set of texts -/
theorem call_sortedY (hc : X.calm = true) : CallR X (.builtin "sorted") (fun vs H Q => ∃ p xs, vs = [.ref p] ∧ H p = some (tset X.w p xs) ∧ xs.length < 64 ∧ ∀ ys, ys.Perm xs → sortedS ys = true → New H (.lst (ys.map V.str)) Q) := by
  intro pins s σ H xs us Q I r h
  obtain ⟨p, zs, rfl, e, h64, q⟩ := h
  obtain ⟨u, rfl, ru⟩ := vals1 r
  cases ru
  refine sorted_collectsD (tset_collect (I.ok.hd hc) (tset_rd I.hok e) (fun h' tk d us ys k hs hp => ?_) (smallL (by omega)))
  have hl := hp.length_eq
  have hl2 := StrsAre.length hs
  have I' : Inv X pins σ H { s with heap := h', toks := tk, drawn := d } := (I.kept (t' := tk) k).drew
  refine ⟨ys, h', tk, d, rfl, hs, by omega, fun h2 out ys' e' k2 he hS' hp' hs' => ?_⟩
  have hl3 := hp'.length_eq
  exact ⟨.ref h'.objs.size, _, inv_sorted (s := { s with drawn := d }) I' k2 he hS' (smallL (by omega)), rfl, (q ys' (hp'.trans hp) hs').at _ (I'.hok.fresh (Nat.le_refl _))⟩
end
end L2

set_option Elab.async false
set_option linter.all false
set_option maxRecDepth 100000
set_option maxHeartbeats 4000000

namespace L2
open PySem PySem.Spec PyProof.Rows
/-! ### sets of texts, laid anew, filled of one another -/
section
variable {prog : Program} {w : World} {A : Around} {E : Value → Shared → Prop} {s : Shared} {a : Addr}
theorem tset_fresh : TObj w { cls := .type "set", dict := none, data := .set #[] 0 (.fresh 0 0 (!setBy w)) } #[] 0 (.fresh 0 0 (!setBy w)) [] :=
  ⟨⟨rfl, rfl, rfl⟩, rfl, (fun e he => by cases he), .nil, .nil, by decide, rfl, rfl, fun h => absurd rfl h, fun _ => .inl rfl⟩
end
end L2

set_option Elab.async false
set_option linter.all false
set_option maxRecDepth 100000
set_option maxHeartbeats 4000000

namespace L2
open PySem PySem.Spec PyProof.Rows
section
variable {prog : Program} {w : World} {A : Around} {E : Value → Shared → Prop} {s : Shared} {a f : Addr}
end
end L2

set_option Elab.async false
set_option linter.all false
set_option maxRecDepth 100000
set_option maxHeartbeats 4000000

namespace L2
open PySem PySem.Spec PyProof.Rows
theorem nodup_len {α : Type} [DecidableEq α] : ∀ {xs ys : List α}, xs.Nodup → (∀ z ∈ xs, z ∈ ys) → xs.length ≤ ys.length
  | [], ys, _, _ => Nat.zero_le _
  | x :: xs, ys, hn, h => by
    have hx := h x (by simp)
    have hn' := List.nodup_cons.mp hn
    have := nodup_len (xs := xs) (ys := ys.erase x) hn'.2 fun z hz => (List.mem_erase_of_ne (fun e => hn'.1 (by rw [← e]; exact hz))).mpr (h z (List.mem_cons_of_mem _ hz))
    rw [List.length_erase_of_mem hx] at this
    have hp : 0 < ys.length := List.length_pos_of_mem hx
    rw [List.length_cons]
    omega
section
variable {prog : Program} {w : World} {A : Around} {E : Value → Shared → Prop} {s : Shared} {a f : Addr}
end
end L2

set_option Elab.async false
set_option linter.all false
set_option maxRecDepth 100000
set_option maxHeartbeats 4000000

namespace L2
open PySem PySem.Spec PyProof.Rows
section
variable {prog : Program} {w : World} {A : Around} {E : Value → Shared → Prop} {s : Shared} {a f : Addr}
/-- an empty set, as it is laid -/
noncomputable def newS (w : World) : Obj := { cls := .type "set", dict := none, data := .set #[] 0 (.fresh 0 0 (!setBy w)) }
theorem code_set_newT (v : Value) {Q₁ : Value → Shared → Prop} (h : Q₁ (.ref s.heap.objs.size) { s with heap := s.heap.push (newS w) }) : codeAny (model prog w) A (.call (.builtin "set.__new__") ⟨[.type "set", v], []⟩) (wants Q₁ E) s := by
  refine codeAny_of_tree ?_
  show wpAny _ A.in1 (do { checkBuiltinCall "set.__new__" ⟨[.type "set", v], []⟩; again (.builtin "set.__new__" ⟨[.type "set", v], []⟩) }) _ _ s
  refine wpAny_bind (wpAny_of_eq (PySem.F.newCall_set_1 v) (wpAny_pure ⟨plainId_quiet PySem.F.plain_set_new _, codeAny_builtin PySem.F.entry_set_new ?_⟩))
  rw [Around.under_plainId PySem.F.plain_set_new _]; unfold Builtin.«set.__new__» Builtin.Frozenset.newClass
  have hsub := sub_set_self; obtain ⟨hp, g, d, tk, os⟩ := s; dsimp only
  wp_walk
  refine wpAny_askSetting (wpAny_pure ?_); dsimp only; simp only [newObj]
  exact wpAny_bind (wpAny_alloc (wpAny_pure (wpAny_pure h)))
/-- set(v), by what it is filled with -/
theorem call_set_by {v : Value} {Q : Value → Shared → Prop} (hq : ∀ A' : Around, A'.handled = A.handled → wpAny (model prog w) A' (Builtin.Frozenset.updateFrom "set.__init__" s.heap.objs.size v) (fun _ s' => Q (.ref s.heap.objs.size) s') E { s with heap := s.heap.push (newS w) }) :
    wpAny (model prog w) A (call (.type "set") [v]) Q E s := by
  obtain ⟨c, tl, hmro⟩ := PySem.F.called_set.mro; have hmade := PySem.F.called_set.made; have hsub := PySem.F.called_set.sub
  refine wpAny_call (codeAny_of_tree ?_)
  show wpAny _ _ (callAny (.type "set") _) _ _ _
  refine wpAny_pure ⟨Code.quiet_builtin _ (by decide +kernel), codeAny_builtin PySem.F.entry_type_call ?_⟩
  rw [Around.under_plain (weight_type_call_type "set" [v] []) rfl]
  have h1 := PySem.F.called_set.notType; have h2 := PySem.F.called_set.canCreate; have hct := PySem.F.typeCall_set_1 v
  repeat (any_goals (first | assumption | wp_step))
  refine codeAny_mono (code_set_newT v (E := E) (Q₁ := fun obj s₁ => obj = .ref s.heap.objs.size ∧ s₁ = { s with heap := s.heap.push (newS w) }) ⟨rfl, rfl⟩) fun r s₁ hr => ?_
  cases r with
  | error e => exact hr
  | ok fl =>
    cases fl with
    | ret obj =>
      obtain ⟨rfl, rfl⟩ := hr
      have hS : (s.heap.push (newS w)).get? s.heap.objs.size = some (newS w) := Heap.get?_push_size _ rfl
      have hT : Shared.TypeIs { s with heap := s.heap.push (newS w) } (.ref s.heap.objs.size) "set" := ⟨_, hS, rfl⟩
      have hli := PySem.F.called_set.init.lookup; have hbi := PySem.F.called_set.init.bind (.ref s.heap.objs.size)
      repeat (any_goals (first | assumption | wp_step))
      refine codeAny_mono (codeAny_call_builtin (R := wants (fun r s₂ => r = .none ∧ Q (.ref s.heap.objs.size) s₂) E) PySem.F.called_set.init.plain PySem.F.entry_set_init (check_set_init_1 hT ?_)) fun r₂ s₂ hr₂ => ?_
      · unfold Builtin.«set.__init__» noKeywords
        have hq' := hq
        generalize hUF : Builtin.Frozenset.updateFrom = UF at hq' ⊢
        have hS' : (s.heap.push (newS w)).get? s.heap.objs.size = some { cls := .type "set", dict := none, data := .set #[] 0 (.fresh 0 0 (!setBy w)) } := hS
        wp_walk
        exact wpAny_mono (hq' _ rfl) (fun _ s' z => wpAny_pure ⟨rfl, z⟩) fun _ _ e => e
      · cases r₂ with
        | error e => exact hr₂
        | ok fl₂ =>
          cases fl₂ with
          | ret r =>
            obtain ⟨rfl, z⟩ := hr₂
            repeat (any_goals (first | assumption | wp_step))
          | _ => exact hr₂.elim
    | _ => exact hr.elim
theorem any_list {v : Value} {Q : Bool → Shared → Prop} (hT : s.TypeIs v "list") (q : Q false s) : wpAny (model prog w) A (Builtin.Frozenset.isAnySet v) Q E s := by
  unfold Builtin.Frozenset.isAnySet
  show wpAny _ _ (isInstance v (.type "set") >>= _) _ _ _
  refine wpAny_bind (wpAny_isInstance (T := "list") (b := false) hT PySem.F.sub_list_set ?_)
  exact wpAny_isInstance (T := "list") (b := false) hT PySem.F.sub_list_frozenset q
/-- the loop that fills a set -/
theorem tset_loop {R : Result → Shared → Prop} {I S : Addr} {fp wr : List Addr} {n : Nat} {P : Nat → Value → Prop} {St : Nat → Heap → Prop} (W : Walks prog w A.in1 I fp wr n P St) (hSf : S ∉ fp) {ys : List Str} (hv : ∀ i v, P i v → ∃ y tk, ys[i]? = some y ∧ v = .str y tk) (hb : n ≤ 500) (hn : ys.length = n) :
    ∀ (k i : Nat) (s : Shared) (xs : List Str), n - i = k → i ≤ n → St i s.heap → TxS w s.heap S xs → xs.length ≤ i → (∀ h' tk zs, (∀ b o, b ≠ S → b ∉ wr → s.heap.get? b = some o → h'.get? b = some o) → TxS w h' S zs → (∀ z, z ∈ zs ↔ z ∈ xs ∨ z ∈ ys.drop i) → R (.ok (.ret .none)) { s with heap := h', toks := tk }) →
      codeAny (model prog w) A (.builtin "set.update.loop" ⟨[.ref S, .ref I], []⟩) R s := by
  have hSw : S ∉ wr := fun h => hSf (W.sub _ h)
  intro k
  induction k with
  | zero =>
    intro i s xs hk hi hst hS hl hR
    have hin : i = n := by omega
    subst hin
    refine codeAny_builtin PyProof.Rows.F.entry_set_update_loop ?_
    rw [Around.under_plainId PyProof.Rows.F.plain_set_update_loop _]; show wpAny _ A.in1 (pyNext (.ref I) >>= _) _ _ s
    refine wpAny_bind (W.done s _ _ hst fun h' tk hm => ?_)
    show wpAny _ A.in1 (ret Value.none) _ _ _
    exact wpAny_pure (hR h' tk xs (fun b o _ hb e => hm b o hb e) (hS.at' fun o e => hm S o hSw e) fun z => by rw [List.drop_eq_nil_of_le (by omega)]; simp)
  | succ k ih =>
    intro i s xs hk hi hst hS hl hR
    have hlt : i < n := by omega
    refine codeAny_builtin PyProof.Rows.F.entry_set_update_loop ?_
    rw [Around.under_plainId PyProof.Rows.F.plain_set_update_loop _]; show wpAny _ A.in1 (pyNext (.ref I) >>= _) _ _ s
    refine wpAny_bind (W.item i s _ _ hlt hst fun v h1 tk1 hP hst' hm => ?_)
    obtain ⟨y, tk, hy, rfl⟩ := hv i v hP
    have hS' : TxS w h1 S xs := hS.at' fun o e => hm S o hSw e
    show wpAny _ A.in1 (holding [Value.str y tk] (setAdd S (.str y tk)) >>= _) _ _ _
    refine wpAny_bind (wpAny_holding ?_)
    unfold setAdd
    refine wpAny_holding (wpAny_bind ((mixKind prog w).pyHash (k := .inr y) (mixKind_str prog w y tk) ?_))
    refine tset_add (s := { s with heap := h1, toks := tk1 + 1 }) hS' (by omega) fun b h2 k2 S2 => ?_
    have ld := addS_len xs y
    have hd : ys.drop i = y :: ys.drop (i + 1) := by
      obtain ⟨hi', e⟩ := List.getElem?_eq_some_iff.mp hy
      rw [← e]
      exact List.drop_eq_getElem_cons hi'
    refine wpAny_pure ⟨plainId_quiet PyProof.Rows.F.plain_set_update_loop _, ih (i + 1) { s with heap := h2, toks := tk1 + 1 } (addS xs y) (by omega) hlt (W.frame _ h1 _ hst' fun b hb o e => ?_) S2 (by omega) fun h' tk' zs kk Z mem => ?_⟩
    · rw [k2.2 b (fun h : b = S => hSf (by rw [← h]; exact hb))]; exact e
    · refine hR h' tk' zs (fun b o hb hw e => kk b o hb hw ?_) Z fun z => ?_
      · rw [k2.2 b hb]; exact hm b o hw e
      · rw [mem z, addS_mem, hd, List.mem_cons]
        constructor
        · rintro ((p | p) | p)
          · exact .inl p
          · exact .inr (.inl p)
          · exact .inr (.inr p)
        · rintro (p | p | p)
          · exact .inl (.inl p)
          · exact .inl (.inr p)
          · exact .inr p
/-- set(l), l a list of texts -/
theorem call_set_listT {l : Addr} {items : Array Value} {ys : List Str} {Q : Value → Shared → Prop} (hh : A.handled = none) (hl : s.heap.IsList l items) (hv : ∀ (i : Nat) (v : Value), items[i]? = some v → ∃ y tk, ys[i]? = some y ∧ v = Value.str y tk) (hb : items.size ≤ 500) (hn : ys.length = items.size)
    (q : ∀ h' tk zs, (∀ b o, s.heap.get? b = some o → h'.get? b = some o) → TxS w h' s.heap.objs.size zs → (∀ z, z ∈ zs ↔ z ∈ ys) → Q (.ref s.heap.objs.size) { s with heap := h', toks := tk }) : wpAny (model prog w) A (call (.type "set") [.ref l]) Q E s := by
  refine call_set_by fun A' hA => ?_
  have hl1 : (s.heap.push (newS w)).IsList l items := hl.push _
  obtain ⟨ol, hol, hcl, nl, hdl⟩ := id hl
  have hlS : l < s.heap.objs.size := Heap.lt_size hol
  unfold Builtin.Frozenset.updateFrom
  refine wpAny_bind (any_list (s := { s with heap := _ }) hl1.typeIs ?_)
  rw [if_neg Bool.false_ne_true]
  refine wpAny_bind (wpAny_typeOf (s := { s with heap := _ }) hl1.typeIs ?_)
  rw [if_neg (by decide)]
  refine wpAny_bind (wpAny_pyIter_list (s := { s with heap := _ }) hl1 ?_)
  refine wpAny_bind (wpAny_runValue ?_)
  have hz : (s.heap.push (newS w)).objs.size = s.heap.objs.size + 1 := Heap.size_push _ _
  have hneI : l ≠ (s.heap.push (newS w)).objs.size := by rw [hz]; exact Nat.ne_of_lt (Nat.lt_succ_of_lt hlS)
  refine tset_loop (Walks.list (A := A'.in1) (by rw [show A'.in1.handled = A'.handled from rfl, hA, hh]) _ l hneI items) (S := s.heap.objs.size) ?_ hv hb hn (items.size - 0) 0 _ [] (by omega) (Nat.zero_le _) ⟨⟨_, Heap.get?_push_size _ rfl, rfl, rfl⟩, hl1.push _⟩
    ⟨_, _, _, _, Heap.get?_push_of_some _ (Heap.get?_push_size _ rfl), tset_fresh⟩ (Nat.zero_le _) fun h' tk zs k Z m => ?_
  · simp only [List.mem_cons, List.not_mem_nil, or_false, not_or]
    exact ⟨by rw [hz]; exact Nat.ne_of_lt (Nat.lt_succ_self _), Nat.ne_of_gt hlS⟩
  · show wpAny _ _ _ _ _ _
    refine wpAny_pure (q h' tk zs (fun b o e => k b o (Nat.ne_of_lt (Heap.lt_size e)) (fun hb => ?_) (Heap.get?_push_of_some _ (Heap.get?_push_of_some _ e))) Z fun z => by rw [m z]; simp)
    have := Heap.lt_size e
    rw [List.mem_singleton.mp hb, hz] at this
    exact absurd (Nat.lt_of_succ_lt this) (Nat.lt_irrefl _)
end
end L2

set_option Elab.async false
set_option linter.all false
set_option maxRecDepth 100000
set_option maxHeartbeats 4000000

namespace L2
open PySem PySem.Spec PyProof.Rows
section
variable {prog : Program} {w : World} {A : Around} {E : Value → Shared → Prop} {s : Shared}
end
end L2

set_option Elab.async false
set_option linter.all false
set_option maxRecDepth 100000
set_option maxHeartbeats 4000000

namespace L2
open PySem PySem.Spec PyProof.Rows
/-! ### sets of texts, as rules -/
/-- a new set of texts that has just these -/
noncomputable def NewS (w : World) (H : Hp) (ys : List Str) (Q : VK) : Prop := ∀ r xs H', H r = none → Same H H' → H' r = some (tset w r xs) → xs.Nodup → (∀ z, z ∈ xs ↔ z ∈ ys) → Q (.ref r) H'
theorem TxS.nd {w : World} {h : Heap} {a : Addr} {xs : List Str} (x : TxS w h a xs) : xs.Nodup := x.elim fun _ zq481 => zq481.elim fun _ zq482 => zq482.elim fun _ zq483 => zq483.elim fun _ zq484 => zq484.elim fun _ X => X.nd
theorem strs_at {us : List Value} {ys : List Str} (h : StrsAre us ys) : us.length = ys.length ∧ ∀ (i : Nat) (v : Value), us[i]? = some v → ∃ y tk, ys[i]? = some y ∧ v = Value.str y tk := by
  induction h with
  | nil => exact ⟨rfl, fun i v e => by cases e⟩
  | cons y t _ ih =>
    refine ⟨by simp [ih.1], fun i v e => ?_⟩
    cases i with
    | zero => cases e; exact ⟨y, t, rfl, rfl⟩
    | succ i => exact ih.2 i v e
theorem vals_strs' : ∀ {ys : List Str} {us : List Value}, Vals (ys.map V.str) us → StrsAre us ys
  | [], us, r => by cases r; exact .nil
  | y :: ys, us, r => by
    cases r with
    | cons a b =>
      obtain ⟨t, rfl⟩ := a
      exact .cons y t (vals_strs' b)
section
variable {X : Cx}
theorem call_setL (hc : X.calm = true) : CallR X (.type "set") (fun vs H Q => ∃ p ys, vs = [.ref p] ∧ SqL X.K H p (ys.map V.str) ∧ ys.length ≤ 500 ∧ NewS X.w H ys Q) := by
  intro pins s σ H xs us Q I r h
  obtain ⟨p, ys, rfl, hp, hz, q⟩ := h
  obtain ⟨u, rfl, ru⟩ := vals1 r
  cases ru
  obtain ⟨its, rv, ht, hz'⟩ := I.list hp
  have hs := strs_at (vals_strs' rv)
  refine call_set_listT (I.ok.hd hc) ht.isList (ys := ys) (fun i v e => hs.2 i v (by simpa using e)) (by simp; omega) (by simp [hs.1]) fun h' tk zs k Z m => ?_
  have hn := I.hok.fresh (Nat.le_refl s.heap.objs.size)
  exact ⟨.ref s.heap.objs.size, _, I.laid (t' := tk) (a := s.heap.objs.size) (o := tset X.w s.heap.objs.size zs) k (Nat.le_refl _) (tset_ok Z), rfl, q _ zs _ hn (same_upd hn) upd_same Z.nd m⟩
end
end L2

set_option Elab.async false
set_option linter.all false
set_option maxRecDepth 100000
set_option maxHeartbeats 4000000

namespace L2
open PySem PySem.Spec PyProof.Rows
/-- a lambda's function object called -/
theorem lam_run {P : Program} {w : World} {K : PySem.W.Frag} {mg : Str → Option Value} {base : Heap} {k : Nat} {q c' : Addr} {qual : Str} {params : Arguments} {body : Expr} {scope : Scope} {pm ctv : Value} {N ps : List Str} {A : Around} {outer : List Env} {s : Shared} {H : Hp} {us : List Value} {vs : List V} {Q : VK} {E : XK} {t : TE}
    (S : FnScope N ps scope) (hr : Room (k + 1) A) (e0 : Env0 P w K mg base A outer s H) (ho : s.heap.get? q = some (PySem.W.kla_obj "<lambda>" qual params body scope [] pm c' ctv)) (hcr : s.heap.CodeRec (.ref c') qual)
    (hb : bindArgs (PySem.W.kla_fn "<lambda>" qual params body scope [] pm (.ref c') ctv) ⟨us, []⟩ = pure (ps.zip us)) (hl : vs.length = ps.length) (r : Vals vs us)
    (ht : PE (cxOf CX0 P w K mg base N qual scope q (.ref c') A outer s H E) body t) (hq : t (start N vs) H Q) :
    codeAny (model P w) A (.call (.ref q) ⟨us, []⟩) (CR CX0 outer P w H s Q E) s := by
  have lim : s.heap.NoLimit := e0.mod.nolimit.keeps fun b o e => (e0.bs b o e).1
  have hkind : ∀ y ∈ ps.zip us, scope.names.lookup y.1 = some .local ∨ (scope.names.lookup y.1 = some .cell ∧ ((cellsFrom (s.heap.objs.size + 1) scope.names []).lookup y.1).isSome = true) := fun ⟨n, v⟩ hy => by
    rcases S.par n (List.of_mem_zip hy).1 with q | q
    · exact .inl q
    · exact .inr ⟨q, PySem.W.cellsFrom_some _ _ _ (.inl q)⟩
  refine PySem.W.kla_callFunE hr.depth ho rfl S.co S.gen rfl hcr ?_
  rw [hb]
  refine wpAny_pure ?_
  refine wpAny_newFunctionEnv_cells S.kind hkind fun env he s1 x => ?_
  subst he
  refine ⟨lim.keeps x.toInCall.keep, PySem.W.kla_codeExpr ?_⟩
  have I : Inv (cxOf CX0 P w K mg base N qual scope q (.ref c') A outer s H E) [] (start N vs) H s1 := inv_start S hr.hd e0 hl r x
  refine wpAny_mono (ht [] s1 (start N vs) H _ I hq) (fun u s' hs => ?_) fun e s' hs => hs
  obtain ⟨v, H', J, rv, q⟩ := hs
  exact ⟨v, H', J.os, J.bare, J.base, J.hok, rv, q⟩
end L2
namespace L2
open PySem PySem.Spec PyProof.Rows
open PySem.W (tabObj)
/-! ### a lambda made: the table of the code around it grows once -/
noncomputable def tabO (P : Addr) (ps : Array Value) : HO := .ext fun h => h.get? P = some (tabObj ps)
noncomputable def codO (c' : Addr) (qual : Str) : HO := .ext fun h => h.CodeRec (.ref c') qual
noncomputable def lamO (q c' : Addr) (qual : Str) (params : Arguments) (body : Expr) (scope : Scope) : HO := .ext fun h => ∃ pm ctv, h.get? q = some (PySem.W.kla_obj "<lambda>" qual params body scope [] pm c' ctv)
noncomputable def TabSt (H : Hp) (P : Addr) (pos : Pos) (qual : Str) : Prop := H P = some (tabO P #[]) ∨ ∃ c', H P = some (tabO P #[rawInt pos.line, rawInt pos.col, .ref c']) ∧ H c' = some (codO c' qual)
noncomputable def tLam (P : Addr) (qual : Str) (params : Arguments) (body : Expr) (scope : Scope) (pos : Pos) : TE := fun σ H Q => TabSt H P pos qual ∧ ∀ q c' H', H q = none → H' P ≠ none → (∀ b o, H b = some o → b ≠ P → H' b = some o) → TabSt H' P pos qual → H' c' = some (codO c' qual) → H' q = some (lamO q c' qual params body scope) → Q (.ref q) H'
theorem ext_new {Pr : Program} {w : World} {H : Hp} {h : Heap} {a : Addr} {p : Heap → Prop} {o : Obj} (e : h.get? a = some o) (hp : p h) (hk : ∀ h1 h2 : Heap, p h1 → (∀ o, h1.get? a = some o → h2.get? a = some o) → p h2) : ObjOk Pr w H h a (.ext p) := ⟨hp, ⟨_, e⟩, hk⟩
theorem codeRec_keep {c' : Addr} {qual : Str} {h1 h2 : Heap} (h : h1.CodeRec (.ref c') qual) (k : ∀ o, h1.get? c' = some o → h2.get? c' = some o) : h2.CodeRec (.ref c') qual := by
  obtain ⟨c, oc, vs, t, e, h2', h3, h4⟩ := h
  cases e
  exact ⟨c', oc, vs, t, rfl, k _ h2', h3, h4⟩
section
variable {X : Cx} {c P : Addr} {params : Arguments} {body : Expr} {scope : Scope} {pos : Pos} {qual : Str}
theorem pe_lam (hcode : X.env.code = .ref c) (hd : PySem.W.codeHdIn X.K c P = true) (hb : X.base.BuiltinsAt X.mg P) (hq : X.env.qual ++ "<lambda>" = qual := by rfl) (hge0 : X.env.globals = mainGlobals := by rfl) (hcl : closureFor scope X.env = pure [] := by rfl) (hdef : defaultsOf params X.env = ([], []) := by rfl) :
    PE X (.Lambda params body scope pos) (tLam P qual params body scope pos) := by
  intro pins s σ H Q I h
  obtain ⟨tb, q⟩ := h
  subst hq
  refine PySem.W.kla_eval hdef ?_
  have hg : s.heap.Ns mainGlobals X.mg := I.mod.glob.keeps I.bk
  obtain ⟨bm, ob, b1, b2, b3, b4, b5, b6⟩ := hb
  have hb' : s.heap.BuiltinsAt X.mg P := ⟨bm, ob, b1, b2, b3, b4, I.bk _ _ b5, b6⟩
  have C := PySem.W.codeHd_of_K I.kIn hd
  have hgP : ∀ ps, s.heap.get? P = some (tabObj ps) → mainGlobals ≠ P := fun ps e z => by
    obtain ⟨o, es, ep, e', d', _⟩ := hg
    rw [z, e] at e'
    cases e'
    cases d'
  have hlt : ∀ b o, s.heap.get? b = some o → b < s.heap.objs.size := fun b o e => Heap.lt_size e
  rcases tb with e | ⟨c', e1, e2⟩
  · have hP : s.heap.get? P = some (tabObj #[]) := (show ObjOk X.prog X.w H s.heap P (tabO P #[]) from I.hok P _ e).1
    refine PySem.W.kla_makeFunction hcl hge0 hg hcode C hP trivial rfl (hgP _ hP) hb' fun c' ctv h' tk hx hge hl hrec htb => ?_
    have I1 : Inv X pins σ (upd H P (tabO P (#[] ++ #[rawInt pos.line, rawInt pos.col, .ref c']))) { s with heap := h', toks := tk } :=
      I.write (x := P) (e := P) (by rw [e]; exact True.intro) (.inl rfl) (fun b u hb e => hx b u hb e) ⟨_, htb⟩ (ext_new htb htb fun h1 h2 a k => k _ a)
    have nc : H c' = none := I.hok.fresh hge
    have cP : c' ≠ P := fun z => absurd (hlt _ _ hP) (Nat.not_lt.mpr (z ▸ hge))
    have nc1 : upd H P (tabO P (#[] ++ #[rawInt pos.line, rawInt pos.col, .ref c'])) c' = none := by rw [upd_ne cP]; exact nc
    have hrec' := hrec
    obtain ⟨c2, oc, vs, t, ec, hoc, hod, hov⟩ := hrec'
    cases ec
    have I2 := I1.track (o := codO c' (X.env.qual ++ "<lambda>")) nc1 (Nat.le_trans I.sz hge) (Nat.ne_of_gt (Nat.lt_of_lt_of_le I.lt hge)) (fun x cc ex z => by
        obtain ⟨v, oo, hv, _⟩ := I.cell x cc ex
        exact absurd (hlt _ _ hv) (Nat.not_lt.mpr (z ▸ hge))) (fun p hp z => absurd (hlt _ _ (I.pin p hp).1) (Nat.not_lt.mpr (z ▸ hge))) (ext_new hoc hrec fun h1 h2 a k => codeRec_keep a k)
    have gq : (h'.push (PySem.W.kla_obj "<lambda>" (X.env.qual ++ "<lambda>") params body scope [] ((X.mg "__name__").getD .none) c' ctv)).get? h'.objs.size = some (PySem.W.kla_obj "<lambda>" (X.env.qual ++ "<lambda>") params body scope [] ((X.mg "__name__").getD .none) c' ctv) := Heap.get?_push_size _ rfl
    have I3 := I2.laid (t' := tk) (h' := h'.push (PySem.W.kla_obj "<lambda>" (X.env.qual ++ "<lambda>") params body scope [] ((X.mg "__name__").getD .none) c' ctv)) (a := h'.objs.size) (o := lamO h'.objs.size c' (X.env.qual ++ "<lambda>") params body scope)
      (fun b u e => Heap.get?_push_of_some _ e) (Nat.le_refl _) (ext_new gq ⟨_, _, gq⟩ fun h1 h2 zq400 k => zq400.elim fun pm zq401 => zq401.elim fun cv a => ⟨pm, cv, k _ a⟩)
    have hsz : s.heap.objs.size ≤ h'.objs.size := Nat.le_trans hge (Nat.le_of_lt hl)
    have nq : H h'.objs.size = none := I.hok.fresh hsz
    have qP : h'.objs.size ≠ P := fun z => absurd (hlt _ _ hP) (Nat.not_lt.mpr (z ▸ hsz))
    have qc : h'.objs.size ≠ c' := (Nat.ne_of_lt hl).symm
    refine ⟨.ref h'.objs.size, _, I3, rfl, q _ c' _ nq ?_ (fun b o eb nb => ?_) (.inr ⟨c', ?_, ?_⟩) ?_ upd_same⟩
    · rw [upd_ne qP.symm, upd_ne cP.symm, upd_same]
      exact fun z => nomatch z
    · rw [upd_ne (ne_of_none eb nq), upd_ne (ne_of_none eb nc), upd_ne nb]
      exact eb
    · rw [upd_ne qP.symm, upd_ne cP.symm, upd_same]
      rfl
    · rw [upd_ne qc.symm, upd_same]
    · rw [upd_ne qc.symm, upd_same]
  · have hP : s.heap.get? P = some (tabObj #[rawInt pos.line, rawInt pos.col, .ref c']) := (show ObjOk X.prog X.w H s.heap P (tabO P _) from I.hok P _ e1).1
    have hf : codeAmong pos (#[rawInt pos.line, rawInt pos.col, .ref c'] : Array Value).toList = some (.ref c') := by
      show (if ((pos.line : Int) == pos.line && (pos.col : Int) == pos.col) = true then _ else _) = _
      rw [if_pos (by simp)]
    refine PySem.W.kla_makeFunctionHit hcl hge0 hg hcode C hP trivial hf hb' fun ctv h' tk hk hsz => ?_
    have gq : (h'.push (PySem.W.kla_obj "<lambda>" (X.env.qual ++ "<lambda>") params body scope [] ((X.mg "__name__").getD .none) c' ctv)).get? h'.objs.size = some (PySem.W.kla_obj "<lambda>" (X.env.qual ++ "<lambda>") params body scope [] ((X.mg "__name__").getD .none) c' ctv) := Heap.get?_push_size _ rfl
    have I3 := I.laid (t' := tk) (h' := h'.push (PySem.W.kla_obj "<lambda>" (X.env.qual ++ "<lambda>") params body scope [] ((X.mg "__name__").getD .none) c' ctv)) (a := h'.objs.size) (o := lamO h'.objs.size c' (X.env.qual ++ "<lambda>") params body scope)
      (fun b u e => Heap.get?_push_of_some _ (hk b u e)) hsz (ext_new gq ⟨_, _, gq⟩ fun h1 h2 zq402 k => zq402.elim fun pm zq403 => zq403.elim fun cv a => ⟨pm, cv, k _ a⟩)
    have nq : H h'.objs.size = none := I.hok.fresh hsz
    refine ⟨.ref h'.objs.size, _, I3, rfl, q _ c' _ nq ?_ (fun b o eb nb => ?_) (.inr ⟨c', ?_, ?_⟩) ?_ upd_same⟩
    · rw [upd_ne (ne_of_none e1 nq), e1]
      exact fun z => nomatch z
    · rw [upd_ne (ne_of_none eb nq)]
      exact eb
    · rw [upd_ne (ne_of_none e1 nq)]
      exact e1
    · rw [upd_ne (ne_of_none e2 nq)]
      exact e2
    · rw [upd_ne (ne_of_none e2 nq)]
      exact e2
end
end L2

set_option Elab.async false
set_option linter.all false
set_option maxRecDepth 100000
set_option maxHeartbeats 4000000
namespace HT
open PySem PyProof.Rows
/-- ints and texts -/
noncomputable abbrev At := Int ⊕ Str
noncomputable def aLt : At → At → Bool
  | .inl a, .inl b => decide (a < b)
  | .inr x, .inr y => decide (x.cps.toList < y.cps.toList)
  | _, _ => false
noncomputable def kin : At → At → Prop
  | .inl _, .inl _ => True
  | .inr _, .inr _ => True
  | _, _ => False
noncomputable def lexK : List At → List At → Bool
  | [], [] => false
  | [], _ :: _ => true
  | _ :: _, [] => false
  | x :: xs, y :: ys => if x = y then lexK xs ys else aLt x y
noncomputable def okK : List At → List At → Prop
  | x :: xs, y :: ys => if x = y then okK xs ys else kin x y
  | _, _ => True
theorem lexK_cons (x y : At) (xs ys : List At) : lexK (x :: xs) (y :: ys) = if x = y then lexK xs ys else aLt x y := rfl
theorem okK_cons (x y : At) (xs ys : List At) : okK (x :: xs) (y :: ys) = if x = y then okK xs ys else kin x y := rfl
inductive AtsAre : List Value → List At → Prop
  | nil : AtsAre [] []
  | int (n : Int) (t : Tok) {vs : List Value} {as : List At} : AtsAre vs as → AtsAre (.int n t :: vs) (.inl n :: as)
  | str (x : Str) (t : Tok) {vs : List Value} {as : List At} : AtsAre vs as → AtsAre (.str x t :: vs) (.inr x :: as)
theorem AtsAre.length {vs : List Value} {as : List At} (h : AtsAre vs as) : vs.length = as.length := by
  induction h with
  | nil => rfl
  | int _ _ _ ih => exact congrArg (· + 1) ih
  | str _ _ _ ih => exact congrArg (· + 1) ih
theorem eqAt_str (A : Around) (s : Shared) (a : Str) (t : Tok) (c : Str) (u : Tok) : ∃ e, SeqAt.EqAt A s (.str a t) (.str c u) e ∧ (e = true ↔ a = c) :=
  ⟨(a == c), SeqAt.EqAt.str_str a t c u, by simp⟩
theorem rcLt_str (A : Around) (s : Shared) (a : Str) (t : Tok) (c : Str) (u : Tok) (prog : Program) (w : World) (E : Value → Shared → Prop) (Q : Value → Shared → Prop) (h : Q (.bool (decide (a.cps.toList < c.cps.toList))) s) :
    wpAny (model prog w) A (richCompare .Lt (.str a t) (.str c u)) Q E s :=
  (PyProof.Rows.lt_str h : wpAny (model prog w) A (compareOp .Lt (.str a t) (.str c u)) Q E s)
/-- heads that are compared -/
theorem heads {vs ws : List Value} {as bs : List At} (hv : AtsAre vs as) (hw : AtsAre ws bs) (ok : okK as bs) (A : Around) (s : Shared) : (vs = [] ∨ ws = []) ∨ ∃ v vs' a as' w ws' b bs', vs = v :: vs' ∧ as = a :: as' ∧ ws = w :: ws' ∧ bs = b :: bs' ∧ AtsAre vs' as' ∧ AtsAre ws' bs' ∧
    (∃ e, SeqAt.EqAt A s v w e ∧ (e = true ↔ a = b)) ∧ (a = b → okK as' bs') ∧ ∀ (prog : Program) (w' : World) (E : Value → Shared → Prop) (Q : Value → Shared → Prop), Q (.bool (aLt a b)) s → wpAny (model prog w') A (richCompare .Lt v w) Q E s := by
  cases hv with
  | nil => exact .inl (.inl rfl)
  | int a t hv =>
    cases hw with
    | nil => exact .inl (.inr rfl)
    | int b u hw =>
      obtain ⟨e, he, hi⟩ := eqAt_int A s a t b u
      refine .inr ⟨_, _, _, _, _, _, _, _, rfl, rfl, rfl, rfl, hv, hw, ⟨e, he, hi.trans ⟨fun z => by rw [z], fun z => by injection z⟩⟩, fun z => ?_, fun prog w' E Q h => rcLt_int A s a t b u prog w' E Q h⟩
      rw [okK_cons, if_pos z] at ok
      exact ok
    | str b u hw =>
      rw [okK_cons, if_neg (by intro z; cases z)] at ok
      exact ok.elim
  | str a t hv =>
    cases hw with
    | nil => exact .inl (.inr rfl)
    | int b u hw =>
      rw [okK_cons, if_neg (by intro z; cases z)] at ok
      exact ok.elim
    | str b u hw =>
      obtain ⟨e, he, hi⟩ := eqAt_str A s a t b u
      refine .inr ⟨_, _, _, _, _, _, _, _, rfl, rfl, rfl, rfl, hv, hw, ⟨e, he, hi.trans ⟨fun z => by rw [z], fun z => by injection z⟩⟩, fun z => ?_, fun prog w' E Q h => rcLt_str A s a t b u prog w' E Q h⟩
      rw [okK_cons, if_pos z] at ok
      exact ok
section
open PySem.SeqAt
open PySem.AutoSeq1 (wpAny_loadPart')
open PySem.MeetsSeq PySem.MeetsSeq2 PySem.MeetsSeq3
theorem tuple_lt_ats (l b : Addr) (items items2 : Array Value) (n n2 : Nat) (dd dd2 : Option Addr) (sl sl2 : Array (Option Value)) (ns ms : List At) (hi : AtsAre items.toList ns) (hj : AtsAre items2.toList ms) (ok : okK ns ms) :
    Meets (Builtin.«tuple.__lt__» ⟨[.ref l, .ref b], []⟩)
      (fun _ R s => s.heap.get? l = some { cls := .type "tuple", dict := dd, data := .seq items n, slots := sl } ∧ s.heap.get? b = some { cls := .type "tuple", dict := dd2, data := .seq items2 n2, slots := sl2 } ∧
        R (.ok (.ret (.bool (lexK ns ms)))) s) :=
  .of_wp fun prog w A R s h => by
    obtain ⟨hp, g, d, tk, os⟩ := s; obtain ⟨hl, hb, h⟩ := h
    have f2 := AutoSeq1.sub_tuple_tuple
    have z1 : items.size = ns.length := by rw [← hi.length]; simp
    have z2 : items2.size = ms.length := by rw [← hj.length]; simp
    wp_walk using wpAny_loadPart' hl, wpAny_loadPart' hb, wpAny_forIn_list _ (fun rest b s' => b.1 = none ∧ s' = ⟨hp, g, d, tk, os⟩ ∧ ∃ (vs ws : List Value) (ns' ms' : List At), rest = vs.zip ws ∧
      AtsAre vs ns' ∧ AtsAre ws ms' ∧ okK ns' ms' ∧ ns'.length + items2.size = ms'.length + items.size ∧ R (.ok (.ret (.bool (lexK ns' ms')))) ⟨hp, g, d, tk, os⟩) _
    case turn =>
      rintro ⟨y, x⟩ rest b s' ⟨hb', rfl, vs, ws, ns', ms', hz, hvi, hwi, hok, hlen, hR⟩
      rcases heads hvi hwi hok A.in1 ⟨hp, g, d, tk, os⟩ with h0 | ⟨v, vs', a, as', w1, ws', b1, bs', rfl, rfl, rfl, rfl, hvi', hwi', ⟨e, he, hiff⟩, hok', hlt⟩
      · rcases h0 with h0 | h0
        · rw [h0, List.zip_nil_left] at hz; cases hz
        · rw [h0, List.zip_nil_right] at hz; cases hz
      · rw [List.zip_cons_cons] at hz
        injection hz with hyx hrest
        injection hyx with hy hx
        subst hy hx
        rw [lexK_cons] at hR
        simp only [List.length_cons] at hlen
        refine wpAny_bind (he prog w _ _ ?_)
        cases e with
        | true =>
          rw [if_pos (hiff.mp rfl)] at hR
          wp_walk
          exact ⟨rfl, rfl, _, _, _, _, hrest, hvi', hwi', hok' (hiff.mp rfl), by omega, hR⟩
        | false =>
          rw [if_neg (fun q => absurd (hiff.mpr q) Bool.false_ne_true)] at hR
          have hri := hlt prog w
          wp_walk using hri
          exact ⟨_, rfl, by simpa using hR⟩
    case fin =>
      rintro ⟨b1, b2⟩ s' ⟨hb', rfl, vs, ws, ns', ms', hz, hvi, hwi, hok, hlen, hR⟩
      simp only at hb'
      subst hb'
      have h1 := hvi.length
      have h2 := hwi.length
      have hv : lexK ns' ms' = decide (items.size < items2.size) := by
        cases ns' with
        | nil =>
          cases ms' with
          | nil =>
            simp only [List.length_nil] at hlen
            exact (decide_eq_false (by omega)).symm
          | cons c u =>
            simp only [List.length_nil, List.length_cons] at hlen
            exact (decide_eq_true (by omega)).symm
        | cons a t =>
          cases ms' with
          | nil =>
            simp only [List.length_nil, List.length_cons] at hlen
            exact (decide_eq_false (by omega)).symm
          | cons c u =>
            cases vs with
            | nil => cases h1
            | cons v vs =>
              cases ws with
              | nil => cases h2
              | cons w1 ws => rw [List.zip_cons_cons] at hz; cases hz
      rw [hv] at hR
      wp_walk
      exact ⟨_, rfl, by simpa [Builtin.Tuple.tupleCompareSizes] using hR⟩
    case h =>
      exact ⟨rfl, rfl, items.toList, items2.toList, ns, ms, rfl, hi, hj, ok, by omega, h⟩
end
section
variable {prog : Program} {w : World} {A : Around} {E : Value → Shared → Prop} {s : Shared}
theorem lt_tupAts {l b : Addr} {items items2 : Array Value} {ns ms : List At} {Q : Value → Shared → Prop} (hl : IsTup s.heap l items) (hb : IsTup s.heap b items2) (hi : AtsAre items.toList ns) (hj : AtsAre items2.toList ms) (ok : okK ns ms)
    (hu : A.units < cLine) (h : Q (.bool (lexK ns ms)) s) : wpAny (model prog w) A (compareOp .Lt (.ref l) (.ref b)) Q E s := by
  obtain ⟨⟨cls, dd, data, sl⟩, ho, hc, n, hd⟩ := id hl
  obtain ⟨⟨cls2, dd2, data2, sl2⟩, ho2, hc2, n2, hd2⟩ := id hb
  simp only at hc hd hc2 hd2
  subst hc hd hc2 hd2
  exact richCompare_meets_room (op := .Lt) ⟨_, ho, rfl⟩ ⟨_, ho2, rfl⟩ PySem.F.slot_tuple_lt PySem.F.entry_tuple_lt (PySem.F.args_tuple_lt_2 _ _) (tuple_lt_ats l b items items2 n n2 dd dd2 sl sl2 ns ms hi hj ok)
    ⟨ho, ho2, show Value.bool (lexK ns ms) ≠ Value.notImplemented ∧ Q (.bool (lexK ns ms)) s from ⟨(fun x => nomatch x), h⟩⟩ hu
end
end HT

set_option Elab.async false
set_option linter.all false
set_option maxRecDepth 100000
set_option maxHeartbeats 4000000

namespace L2
open PySem PySem.Spec PyProof.Rows
open HT (At lexK okK)
noncomputable def atV : At → V
  | .inl n => .int n
  | .inr x => .str x
theorem ats_of : ∀ {as : List At} {us : List Value}, Vals (as.map atV) us → HT.AtsAre us as
  | [], us, h => by cases h; exact .nil
  | .inl n :: as, us, h => by
    cases h with
    | cons r t =>
      obtain ⟨tk, rfl⟩ := (show ∃ tk, _ = Value.int n tk from r)
      exact .int n tk (ats_of t)
  | .inr x :: as, us, h => by
    cases h with
    | cons r t =>
      obtain ⟨tk, rfl⟩ := (show ∃ tk, _ = Value.str x tk from r)
      exact .str x tk (ats_of t)
section
variable {X : Cx} {pins : List (Addr × Obj)} {σ : St} {H0 : Hp} {l q I S : Addr} {as : List Addr} {ks : Nat → List At} {R : Result → Shared → Prop} {Q : Value → Shared → Prop} {E : Value → Shared → Prop}
/-- what a call of the key tells -/
noncomputable def KeyTurn (X : Cx) (q : Addr) (as : List Addr) (ks : Nat → List At) (H0 : Hp) : Prop := ∀ (i : Nat) (a : Addr), as[i]? = some a → ∀ (pins : List (Addr × Obj)) (σ : St) (H : Hp) (s : Shared), Inv X pins σ H s → Same H0 H →
  wpAny (model X.prog X.w) X.A.in1 (call (.ref q) [.ref a]) (fun u s' => ∃ kt H', Inv X pins σ H' s' ∧ u = .ref kt ∧ Same H H' ∧ H' kt = some (.tup ((ks i).map atV))) (fun _ _ => False) s
theorem Inv.isL {H : Hp} {s : Shared} (I : Inv X pins σ H s) (h : H l = some (.lst (as.map V.ref))) : s.heap.IsList l (as.map Value.ref).toArray := by
  obtain ⟨its, r, p, _⟩ := I.list (SqL.of (K := X.K) h)
  rw [vals_refs r] at p
  exact p.isList
theorem FpOk.of {H H' : Hp} {b : Addr} (f : FpOk X pins H b) (n : H' b = none) : FpOk X pins H' b := ⟨n, f.2⟩
theorem Inv.turnF {H : Hp} {s : Shared} {h' : Heap} {t' : Nat} {b : Addr} (I : Inv X pins σ H s) (f : FpOk X pins H b) (k : ∀ c o, c ≠ b → s.heap.get? c = some o → h'.get? c = some o) : Inv X pins σ H { s with heap := h', toks := t' } :=
  I.turned k f.1 f.2.1 f.2.2.2.1 f.2.2.2.2.1 f.2.2.2.2.2
theorem min_loop (hc : X.calm = true) (hu : X.A.in1.units < cLine) (hlI : l ≠ I) (hSI : S ≠ I) (hl0 : H0 l = some (.lst (as.map V.ref))) (ok : ∀ i j, okK (ks i) (ks j)) (tr : ∀ a b c, lexK (ks a) (ks b) = true → lexK (ks b) (ks c) = true → lexK (ks a) (ks c) = true) (irr : ∀ a, lexK (ks a) (ks a) = false)
    (turn : KeyTurn X q as ks H0) (hR : ∀ i a H' s', as[i]? = some a → (∀ j, j < as.length → lexK (ks j) (ks i) = false) → Inv X pins σ H' s' → Same H0 H' → R (.ok (.ret (.ref a))) s') :
    ∀ (r j i : Nat) (H : Hp) (s : Shared) (ab kb : Addr) (c : Nat), as.length - (j + 1) = r → j + 1 ≤ as.length → Inv X pins σ H s → Same H0 H → FpOk X pins H I → FpOk X pins H S → s.heap.get? S = some (seqObj "list" #[.ref ab, .ref kb] c) → s.heap.IsListIter I l (j + 1) →
      as[i]? = some ab → H kb = some (.tup ((ks i).map atV)) → (∀ j', j' ≤ j → lexK (ks j') (ks i) = false) → codeAny (model X.prog X.w) X.A (.builtin "min.loop" ⟨[.ref I, .ref q, .ref S], []⟩) R s := by
  have hname : (toString "min" ++ toString ".loop" : String) = "min.loop" := by decide
  have hsz : (as.map Value.ref).toArray.size = as.length := by simp
  intro r
  induction r with
  | zero =>
    intro j i H s ab kb c hr hj Iv sm fI fS hS hit hab hkb best
    have W := Walks.list (prog := X.prog) (w := X.w) (A := X.A.in1) (Iv.ok.hd hc) I l hlI (as.map Value.ref).toArray
    have hin : j + 1 = as.length := by omega
    refine codeAny_builtin PySem.F.entry_min_loop ?_
    rw [Around.under_plainId PySem.F.plain_min_loop _]
    show wpAny _ X.A.in1 (seqItems? (.ref S) >>= _) _ _ _
    refine wpAny_bind (wpAny_seqItems hS rfl ?_)
    show wpAny _ X.A.in1 (tryCatch (pyNext (.ref I)) _ >>= _) _ _ _
    refine wpAny_bind (wpAny_tryCatch (W.done _ _ _ ⟨by rw [hsz, ← hin]; exact hit, Iv.isL (sm _ _ hl0)⟩ fun h' tk' hk' => ?_))
    have I1 : Inv X pins σ H { s with heap := h', toks := tk' } := Iv.turnF fI fun b o hb e => hk' b o (by simpa using hb) e
    have hS' := hk' S _ (by simpa using hSI) hS
    have s1 := Heap.SameBut.update h' S (Obj.mapSeq fun _ => (#[] : Array Value))
    show wpAny _ X.A.in1 (updateSeq S (fun _ => #[]) >>= _) _ _ _
    refine wpAny_bind ?_
    refine wpAny_updateSeq hS' rfl (wpAny_bind (wpAny_letGo (wpAny_pure ?_)))
    exact hR i ab H _ hab (fun j' hj' => best j' (by omega)) (I1.turnF (t' := tk') fS fun b o hb e => (s1.2 b hb).trans e) sm
  | succ r ih =>
    intro j i H s ab kb c hr hj Iv sm fI fS hS hit hab hkb best
    have W := Walks.list (prog := X.prog) (w := X.w) (A := X.A.in1) (Iv.ok.hd hc) I l hlI (as.map Value.ref).toArray
    have hlt : j + 1 < as.length := by omega
    refine codeAny_builtin PySem.F.entry_min_loop ?_
    rw [Around.under_plainId PySem.F.plain_min_loop _]
    show wpAny _ X.A.in1 (seqItems? (.ref S) >>= _) _ _ _
    refine wpAny_bind (wpAny_seqItems hS rfl ?_)
    show wpAny _ X.A.in1 (tryCatch (pyNext (.ref I)) _ >>= _) _ _ _
    refine wpAny_bind (wpAny_tryCatch (W.item (j + 1) _ _ _ (by rw [hsz]; exact hlt) ⟨hit, Iv.isL (sm _ _ hl0)⟩ fun v h' tk' hP hst' hk' => ?_))
    have hv0 : (as.map Value.ref)[j + 1]? = some v := by simpa using hP
    obtain ⟨a, ha, rfl⟩ : ∃ a, as[j + 1]? = some a ∧ v = .ref a := by
      rw [List.getElem?_map] at hv0
      cases e : as[j + 1]? with
      | none => rw [e] at hv0; cases hv0
      | some a => rw [e] at hv0; cases hv0; exact ⟨a, rfl, rfl⟩
    obtain ⟨oI', hoI', hoc, hod⟩ := id hst'.1
    have I1 : Inv X pins σ H { s with heap := h', toks := tk' } := Iv.turnF fI fun b o hb e => hk' b o (by simpa using hb) e
    have hS1 : h'.get? S = some (seqObj "list" #[.ref ab, .ref kb] c) := hk' S _ (by simpa using hSI) hS
    have Ip : Inv X (pins ++ pinsAt [I, S] h') σ H { s with heap := h', toks := tk' } := I1.pinned (fp := [I, S]) (fun b hb => by
        rcases List.mem_cons.mp hb with e | e
        · rw [e]; exact fI
        · rw [List.mem_singleton.mp e]; exact fS) (fun b hb => by
        rcases List.mem_cons.mp hb with e | e
        · rw [e]; exact ⟨oI', hoI', fun v z => by rw [hod] at z; cases z⟩
        · rw [List.mem_singleton.mp e]; exact ⟨_, hS1, fun v z => nomatch z⟩)
    show wpAny _ X.A.in1 (tryCatch (holding [.ref a] (call (.ref q) [.ref a])) _ >>= _) _ _ _
    refine wpAny_bind (wpAny_tryCatch (wpAny_holding (wpAny_mono (turn (j + 1) a ha _ σ H _ Ip sm) (fun x s2 he => ?_) fun _ _ hF => hF.elim)))
    obtain ⟨kt, H2, I2p, rfl, s12, hkt⟩ := he
    have pI := I2p.pin (I, oI') (List.mem_append_right _ (List.mem_append_right _ (mem_pinsAt (by simp) hoI')))
    have pS := I2p.pin (S, seqObj "list" #[.ref ab, .ref kb] c) (List.mem_append_right _ (List.mem_append_right _ (mem_pinsAt (by simp) hS1)))
    have I2 := I2p.unpinned
    have sm2 := sm.trans s12
    have fI2 : FpOk X pins H2 I := fI.of pI.2.1
    have fS2 : FpOk X pins H2 S := fS.of pS.2.1
    have hit2 : s2.heap.IsListIter I l (j + 1 + 1) := ⟨oI', pI.1, hoc, hod⟩
    obtain ⟨it1, r1, p1, _⟩ := I2.tuple (SqT.of (K := X.K) hkt)
    obtain ⟨it2, r2, p2, _⟩ := I2.tuple (SqT.of (K := X.K) (s12 _ _ hkb))
    show wpAny _ X.A.in1 (tryCatch (holding [.ref a, .ref kt] (richCompare .Lt (.ref kt) (.ref kb) >>= _)) _ >>= _) _ _ _
    refine wpAny_bind (wpAny_tryCatch (wpAny_holding (wpAny_bind (HT.lt_tupAts p1 p2 (ats_of r1) (ats_of r2) (ok _ _) hu ?_))))
    refine wpAny_bind (wpAny_holding (wpAny_truthy_bool ?_))
    refine wpAny_bind (wpAny_letGo (wpAny_pure ?_))
    by_cases hb' : lexK (ks (j + 1)) (ks i) = true
    · have s1 := Heap.SameBut.update s2.heap S (Obj.mapSeq fun _ => #[.ref a, .ref kt])
      obtain ⟨c2, hc2⟩ : ∃ c2, (s2.heap.update S (Obj.mapSeq fun _ => #[.ref a, .ref kt])).get? S = some (seqObj "list" #[.ref a, .ref kt] c2) := ⟨_, get?_update_seq pS.1 fun _ => #[.ref a, .ref kt]⟩
      simp only [hb', if_true]
      refine wpAny_bind ?_
      refine wpAny_updateSeq pS.1 rfl (wpAny_bind (wpAny_letGo ?_))
      rw [hname]
      refine wpAny_pure ⟨plainId_quiet PySem.F.plain_min_loop _, ih (j + 1) (j + 1) H2 _ a kt c2 (by omega) hlt (I2.turnF (t' := s2.toks) fS2 fun b o hb e => (s1.2 b hb).trans e) sm2 fI2 fS2 hc2 ⟨oI', (s1.2 I hSI.symm).trans pI.1, hoc, hod⟩ ha hkt fun j' hj' => ?_⟩
      by_cases e : j' = j + 1
      · subst e; exact irr _
      · cases z : lexK (ks j') (ks (j + 1)) with
        | false => rfl
        | true => have := tr _ _ _ z hb'; rw [best j' (by omega)] at this; cases this
    · have hb2 : lexK (ks (j + 1)) (ks i) = false := by simpa using hb'
      simp only [hb2, Bool.false_eq_true, if_false]
      refine wpAny_bind (wpAny_letGo ?_)
      rw [hname]
      refine wpAny_pure ⟨plainId_quiet PySem.F.plain_min_loop _, ih (j + 1) i H2 _ ab kb c (by omega) hlt I2 sm2 fI2 fS2 pS.1 hit2 hab (s12 _ _ hkb) fun j' hj' => ?_⟩
      by_cases e : j' = j + 1
      · subst e; exact hb2
      · exact best j' (by omega)
/-- min(l, key = q) -/
theorem min_key {H : Hp} {s : Shared} (Iv : Inv X pins σ H s) (hc : X.calm = true) (hu : X.A.in1.units < cLine) (hl : H l = some (.lst (as.map V.ref))) (hne : 0 < as.length) (ok : ∀ i j, okK (ks i) (ks j)) (tr : ∀ a b c, lexK (ks a) (ks b) = true → lexK (ks b) (ks c) = true → lexK (ks a) (ks c) = true) (irr : ∀ a, lexK (ks a) (ks a) = false)
    (turn : KeyTurn X q as ks H) (hQ : ∀ i a H' s', as[i]? = some a → (∀ j, j < as.length → lexK (ks j) (ks i) = false) → Inv X pins σ H' s' → Same H H' → Q (.ref a) s') :
    wpAny (model X.prog X.w) X.A (call (.builtin "min") [.ref l] [(Str.ofString "key", .ref q)]) Q E s := by
  have hname : (toString "min" ++ toString ".loop" : String) = "min.loop" := by decide
  have hls := Iv.isL hl
  obtain ⟨ol, hol, _⟩ := id hls
  have hll : l < s.heap.objs.size := Heap.lt_size hol
  have hsz : (as.map Value.ref).toArray.size = as.length := by simp
  refine kmk_tree PySem.F.kind_min PySem.F.plain_min PySem.F.entry_min (kmk_min_key _ _) ?_
  show wpAny _ X.A.in1 (Builtin.Builtins.bindParams "min" ["key", "default"] 0 ⟨[], [(Str.ofString "key", .ref q)]⟩ >>= _) _ _ s
  refine wpAny_bind (wpAny_of_eq (show Builtin.Builtins.bindParams "min" ["key", "default"] 0 ⟨[], [(Str.ofString "key", .ref q)]⟩ = pure [some (.ref q), none] from rfl) ?_)
  refine wpAny_bind (wpAny_pure ?_)
  refine wpAny_bind (wpAny_pyIter_list hls ?_)
  refine wpAny_bind (wpAny_newList ?_ (Nat.zero_le _))
  rw [hname]
  refine wpAny_pure ⟨plainId_quiet PySem.F.plain_min_loop _, ?_⟩
  have hS : (s.heap.push { cls := .type "list_iterator", data := .fields #[.ref l, .int 0 0] }).objs.size = s.heap.objs.size + 1 := size_push' ..
  have hlI : l ≠ s.heap.objs.size := Nat.ne_of_lt hll
  have hSI : (s.heap.push { cls := .type "list_iterator", data := .fields #[.ref l, .int 0 0] }).objs.size ≠ s.heap.objs.size := by rw [hS]; exact Nat.ne_of_gt (Nat.lt_succ_self _)
  have fI : FpOk X pins H s.heap.objs.size := Iv.fpOk (Nat.le_refl _) (Iv.hok.fresh (Nat.le_refl _))
  have fS : FpOk X pins H (s.heap.push { cls := .type "list_iterator", data := .fields #[.ref l, .int 0 0] }).objs.size := Iv.fpOk (by rw [hS]; exact Nat.le_succ _) (Iv.hok.fresh (by rw [hS]; exact Nat.le_succ _))
  have gI : ((s.heap.push { cls := .type "list_iterator", data := .fields #[.ref l, .int 0 0] }).push (seqObj "list" #[] 0)).get? s.heap.objs.size = some { cls := .type "list_iterator", data := .fields #[.ref l, .int 0 0] } :=
    Heap.get?_push_of_some _ (Heap.get?_push_size _ rfl)
  have gS : ((s.heap.push { cls := .type "list_iterator", data := .fields #[.ref l, .int 0 0] }).push (seqObj "list" #[] 0)).get? (s.heap.push { cls := .type "list_iterator", data := .fields #[.ref l, .int 0 0] }).objs.size = some (seqObj "list" #[] 0) := Heap.get?_push_size _ rfl
  have I0 : Inv X pins σ H { s with heap := (s.heap.push { cls := .type "list_iterator", data := .fields #[.ref l, .int 0 0] }).push (seqObj "list" #[] 0) } := Iv.kept (t' := s.toks) fun b o e => Heap.get?_push_of_some _ (Heap.get?_push_of_some _ e)
  generalize (s.heap.push { cls := .type "list_iterator", data := .fields #[.ref l, .int 0 0] }).objs.size = S at *
  generalize s.heap.objs.size = I at *
  generalize (s.heap.push { cls := .type "list_iterator", data := .fields #[.ref l, .int 0 0] }).push (seqObj "list" #[] 0) = h0 at *
  have W := Walks.list (prog := X.prog) (w := X.w) (A := X.A.in1) (Iv.ok.hd hc) I l hlI (as.map Value.ref).toArray
  refine codeAny_builtin PySem.F.entry_min_loop ?_
  rw [Around.under_plainId PySem.F.plain_min_loop _]
  show wpAny _ X.A.in1 (seqItems? (.ref S) >>= _) _ _ _
  refine wpAny_bind (wpAny_seqItems gS rfl ?_)
  show wpAny _ X.A.in1 (tryCatch (pyNext (.ref I)) _ >>= _) _ _ _
  refine wpAny_bind (wpAny_tryCatch (W.item 0 _ _ _ (by rw [hsz]; exact hne) ⟨⟨_, gI, rfl, rfl⟩, I0.isL hl⟩ fun v h' tk' hP hst' hk' => ?_))
  have hv0 : (as.map Value.ref)[0]? = some v := by simpa using hP
  obtain ⟨a, ha, rfl⟩ : ∃ a, as[0]? = some a ∧ v = .ref a := by
    rw [List.getElem?_map] at hv0
    cases e : as[0]? with
    | none => rw [e] at hv0; cases hv0
    | some a => rw [e] at hv0; cases hv0; exact ⟨a, rfl, rfl⟩
  obtain ⟨oI', hoI', hoc, hod⟩ := id hst'.1
  have I1 : Inv X pins σ H { s with heap := h', toks := tk' } := I0.turnF fI fun b o hb e => hk' b o (by simpa using hb) e
  have hS1 : h'.get? S = some (seqObj "list" #[] 0) := hk' S _ (by simpa using hSI) gS
  have Ip : Inv X (pins ++ pinsAt [I, S] h') σ H { s with heap := h', toks := tk' } := I1.pinned (fp := [I, S]) (fun b hb => by
      rcases List.mem_cons.mp hb with e | e
      · rw [e]; exact fI
      · rw [List.mem_singleton.mp e]; exact fS) (fun b hb => by
      rcases List.mem_cons.mp hb with e | e
      · rw [e]; exact ⟨oI', hoI', fun v z => by rw [hod] at z; cases z⟩
      · rw [List.mem_singleton.mp e]; exact ⟨_, hS1, fun v z => nomatch z⟩)
  show wpAny _ X.A.in1 (tryCatch (holding [.ref a] (call (.ref q) [.ref a])) _ >>= _) _ _ _
  refine wpAny_bind (wpAny_tryCatch (wpAny_holding (wpAny_mono (turn 0 a ha _ σ H _ Ip (Same.refl H)) (fun x s2 he => ?_) fun _ _ hF => hF.elim)))
  obtain ⟨kt, H2, I2p, rfl, s12, hkt⟩ := he
  have pI := I2p.pin (I, oI') (List.mem_append_right _ (List.mem_append_right _ (mem_pinsAt (by simp) hoI')))
  have pS := I2p.pin (S, seqObj "list" #[] 0) (List.mem_append_right _ (List.mem_append_right _ (mem_pinsAt (by simp) hS1)))
  have I2 := I2p.unpinned
  have fI2 : FpOk X pins H2 I := fI.of pI.2.1
  have fS2 : FpOk X pins H2 S := fS.of pS.2.1
  have s1 := Heap.SameBut.update s2.heap S (Obj.mapSeq fun _ => #[.ref a, .ref kt])
  obtain ⟨c2, hc2⟩ : ∃ c2, (s2.heap.update S (Obj.mapSeq fun _ => #[.ref a, .ref kt])).get? S = some (seqObj "list" #[.ref a, .ref kt] c2) := ⟨_, get?_update_seq pS.1 fun _ => #[.ref a, .ref kt]⟩
  show wpAny _ X.A.in1 (updateSeq S (fun _ => #[.ref a, .ref kt]) >>= _) _ _ _
  refine wpAny_bind ?_
  refine wpAny_updateSeq pS.1 rfl ?_
  rw [hname]
  refine wpAny_pure ⟨plainId_quiet PySem.F.plain_min_loop _, min_loop (H0 := H) hc hu hlI hSI hl ok tr irr turn (fun i a H' s' e b I' sm => hQ i a H' s' e b I' sm) _ 0 0 H2 _ a kt c2 rfl hne (I2.turnF (t' := s2.toks) fS2 fun b o hb e => (s1.2 b hb).trans e) s12 fI2 fS2 hc2 ⟨oI', (s1.2 I hSI.symm).trans pI.1, hoc, hod⟩ ha hkt fun j' hj' => ?_⟩
  have e : j' = 0 := by omega
  subst e
  exact irr _
end
end L2

set_option Elab.async false
set_option linter.all false
set_option maxRecDepth 100000
set_option maxHeartbeats 4000000

namespace L2
open PySem PySem.Spec PyProof.Rows
open HT (At lexK okK)
/-- all but the table at P stays -/
noncomputable def KeepT (P : Addr) (H H' : Hp) : Prop := ∀ b o, H b = some o → b ≠ P → H' b = some o
noncomputable def tMinLam (P : Addr) (qual : Str) (lpos : Pos) (x : Str) (te tb : TE) : TE := fun σ H Q => tCons te tNil σ H fun us H1 => ∃ (l : Addr) (as : List Addr) (ks : Nat → List At), us = [.ref l] ∧ l ≠ P ∧ H1 l = some (.lst (as.map V.ref)) ∧ 0 < as.length ∧ (∀ i j, okK (ks i) (ks j)) ∧
  (∀ a b c, lexK (ks a) (ks b) = true → lexK (ks b) (ks c) = true → lexK (ks a) (ks c) = true) ∧ (∀ a, lexK (ks a) (ks a) = false) ∧ TabSt H1 P lpos qual ∧
  (∀ i a, as[i]? = some a → ∀ H2, KeepT P H1 H2 → tb [some (.ref a)] H2 fun v H3 => ∃ kt, v = .ref kt ∧ Same H2 H3 ∧ H3 kt = some (.tup ((ks i).map atV))) ∧
  ∀ i a H', as[i]? = some a → (∀ j, j < as.length → lexK (ks j) (ks i) = false) → KeepT P H1 H' → TabSt H' P lpos qual → Q (.ref a) H'
section
variable {X : Cx} {c P : Addr} {params : Arguments} {body e : Expr} {scope : Scope} {p pos lpos kpos : Pos} {qual x : Str} {k : Nat} {te tb : TE}
theorem TabSt.same {H H' : Hp} (s : Same H H') (h : TabSt H P lpos qual) : TabSt H' P lpos qual := by
  rcases h with h | ⟨c', h1, h2⟩
  · exact .inl (s _ _ h)
  · exact .inr ⟨c', s _ _ h1, s _ _ h2⟩
theorem pe_minLam (he : PE X e te) (S : FnScope [x] [x] scope) (hr : Room (k + 1) X.A.in1) (hc : X.calm = true) (hcode : X.env.code = .ref c) (hd : PySem.W.codeHdIn X.K c P = true) (hb : X.base.BuiltinsAt X.mg P) (hg : Gl X "min") (hm : X.mg "min" = none)
    (hbody : ∀ (q c' : Addr) (A : Around) (outer : List Env) (s : Shared) (H : Hp) (E : XK), PE (cxOf CX0 X.prog X.w X.K X.mg X.base [x] qual scope q (.ref c') A outer s H E) body tb)
    (hbind : ∀ (pm ctv u : Value) (c' : Addr), bindArgs (PySem.W.kla_fn "<lambda>" qual params body scope [] pm (.ref c') ctv) ⟨[u], []⟩ = pure ([x].zip [u]))
    (hq : X.env.qual ++ "<lambda>" = qual := by rfl) (hge0 : X.env.globals = mainGlobals := by rfl) (hcl : closureFor scope X.env = pure [] := by rfl) (hdef : defaultsOf params X.env = ([], []) := by rfl)
    (h1 : backTo pos (starEach [e] X.env) = (false, eval e X.env) :: backTo pos (starEach [] X.env) := by rfl) (h2 : starEach [e] X.env = [(false, eval e X.env)] := by rfl) (h3 : (backTo pos (starEach [e] X.env)).any (·.1) = false := by rfl) :
    PE X (.Call (.Name "min" p) [e] [⟨some "key", .Lambda params body scope lpos, kpos⟩] pos) (tMinLam P qual lpos x te tb) := by
  intro pins s σ H Q I h
  have hu : X.A.in1.units < cLine := by have := hr.un; omega
  refine wpAny_Call_Name_kw (ld_blt I hg hm boot_min ?_ (by decide) (by decide))
  have ha : PA X [e] (tCons te tNil) := pa_cons he pa_nil h2
  refine callWith_kw (thn (ha pos pins s σ H _ I h) fun us s1 zq404 => zq404.elim fun vs zq405 => zq405.elim fun H1 zq406 => zq406.elim fun I1 zq407 => zq407.elim fun r zq408 => zq408.elim fun l zq409 => zq409.elim fun as zq410 => zq410.elim fun ks zq411 => zq411.elim fun e1 zq412 => zq412.elim fun lP zq413 => zq413.elim fun hl zq414 => zq414.elim fun hne zq415 => zq415.elim fun ok zq416 => zq416.elim fun tr zq417 => zq417.elim fun irr zq418 => zq418.elim fun tb1 zq419 => zq419.elim fun kask fin => ?_) h1 h3
  subst e1
  obtain ⟨u1, rfl, ru⟩ := vals1 r
  cases ru
  have hk : PK X [⟨some "key", .Lambda params body scope lpos, kpos⟩] (tCons (tLam P qual params body scope lpos) tNil) := pk_cons (pe_lam hcode hd hb hq hge0 hcl hdef) pk_nil
  refine thn (hk pos pins s1 σ H1 (fun zs H2 => ∃ q c', zs = [.ref q] ∧ KeepT P H1 H2 ∧ TabSt H2 P lpos qual ∧ H2 c' = some (codO c' qual) ∧ H2 q = some (lamO q c' qual params body scope)) I1 ⟨tb1, fun q c' H2 nq nP kp tb2 hc' hq' => ⟨q, c', rfl, kp, tb2, hc', hq'⟩⟩) fun ws s2 zq420 => zq420.elim fun zs zq421 => zq421.elim fun H2 zq422 => zq422.elim fun I2 zq423 => zq423.elim fun rz zq424 => zq424.elim fun q zq425 => zq425.elim fun c' zq426 => zq426.elim fun ez zq427 => zq427.elim fun kp zq428 => zq428.elim fun tb2 zq429 => zq429.elim fun hc2 hq2 => ?_
  subst ez
  obtain ⟨w1, rfl, rw1⟩ := vals1 rz
  cases rw1
  have turn : KeyTurn X q as ks H2 := by
    intro i a ha pins' σ' H3 s3 I3 sm
    obtain ⟨pm, ctv, ho⟩ := (show ObjOk X.prog X.w H3 s3.heap q (lamO q c' qual params body scope) from I3.hok q _ (sm _ _ hq2)).1
    have hcr : s3.heap.CodeRec (.ref c') qual := (show ObjOk X.prog X.w H3 s3.heap c' (codO c' qual) from I3.hok c' _ (sm _ _ hc2)).1
    refine wpAny_call (codeAny_mono (lam_run (E := E0) (vs := [.ref a]) (us := [.ref a]) S hr I3.env0.in1 ho hcr (hbind pm ctv _ c') rfl (.cons rfl .nil) (hbody q c' _ _ _ _ _) (kask i a ha H3 fun b o e n => sm _ _ (kp b o e n))) fun r s' hr' => ?_)
    cases r with
    | error e => exact (show False from hr').elim
    | ok fl =>
      cases fl with
      | ret u =>
        obtain ⟨v, H', I', rv, kt, ev, sm', hkt⟩ := I3.after hr'
        subst ev
        cases rv
        exact ⟨kt, H', I', rfl, sm', hkt⟩
      | next => exact False.elim hr'
      | brk => exact False.elim hr'
      | cont => exact False.elim hr'
  refine min_key I2 hc hu (kp _ _ hl lP) hne ok tr irr turn fun i a H' s' ha best I' sm => ?_
  exact ⟨.ref a, H', I', rfl, fin i a H' ha best (fun b o e n => sm _ _ (kp b o e n)) (tb2.same sm)⟩
end
end L2

set_option Elab.async false
set_option linter.all false
set_option maxRecDepth 100000
set_option maxHeartbeats 4000000

namespace L2
open PySem PySem.Spec PyProof.Rows
open PySem.W (tabObj CodeHd)
/-- the head, where a code's table may grow -/
theorem law_callT {P : Program} {w : World} {K : PySem.W.Frag} {mg mb : Str → Option Value} {CX : CXT} {k : Nat} {fa a Pt c : Addr} {fd : FuncData} {x qual : Str} {lpos : Pos} {sp : Sp} {s₁ : Shared} {vs : List Value} {ns : List Int}
    (KX : K.In s₁.heap) (hns : s₁.heap.Ns mainGlobals mg) (hb : s₁.heap.Ns builtinsNs mb) (hbb : ∀ x : Str, x ≠ "__name__" → mb x = bootBuiltins x) (hlim : s₁.heap.NoLimit) (hg : s₁.gens = #[])
    (bmain : ∃ bm ob, mg "__builtins__" = some (.ref bm) ∧ bm ≠ builtinsNs ∧ s₁.heap.get? bm = some ob ∧ ob.cls = .type "module" ∧ ob.dict = some builtinsNs ∧ ob.data = .plain)
    (hP : s₁.heap.get? Pt = some (tabObj #[])) (hC : CodeHd s₁.heap c Pt) (hKP : K.lookup Pt = none)
    (ha : s₁.heap.get? a = some { cls := .type "list", data := .seq vs.toArray }) (hi : IntsAre vs ns) (hl : ns.length ≤ sizeLine) (hr : Room k callerA)
    (F : ∀ base : Heap, K.In base → base.Ns mainGlobals mg → base.BuiltinsAt mg Pt → FnOk P w K mg base CX k fa fd [x] sp) (hbind : ∀ (s : Shared) (u : Value), BindsTo s fd ⟨[u], []⟩ [(x, u)])
    (hsp : ∀ H : Hp, H Pt = some (tabO Pt #[]) → SqL K H a (ns.map V.int) → sp [.ref a] H (fun v H' => v = .bl true ∧ TabSt H' Pt lpos qual) fun _ _ _ => False)
    (hCX : ∀ H e s', CX [] H s₁ (fun _ _ _ => False) e s' → False) :
    codeAny (model P w) callerA (.call (.ref fa) ⟨[.ref a], []⟩) (fun r s' => r = .ok (.ret (.bool true)) ∧ OldK s₁.heap s'.heap ∧ s'.os = s₁.os ∧ AllBare s'.gens) s₁ := by
  have rv := vals_ints hi
  have lenV := hi.length
  have haP : a ≠ Pt := fun z => by rw [z, hP] at ha; cases ha
  have core : ∀ H : Hp, H Pt = some (tabO Pt #[]) → (∀ b, b ≠ Pt → H b = none ∨ ∃ o xs, H b = some (.frz o (.lst xs))) → SqL K H a (ns.map V.int) → HOk P w H s₁.heap → (∀ b, H b ≠ none → b = a ∨ b = Pt) → (H a ≠ none → K.lookup a = none) →
      codeAny (model P w) callerA (.call (.ref fa) ⟨[.ref a], []⟩) (fun r s' => r = .ok (.ret (.bool true)) ∧ OldK s₁.heap s'.heap ∧ s'.os = s₁.os ∧ AllBare s'.gens) s₁ := by
    intro H hT hO hS hok hA hK
    have base_of : ∀ {b : Addr} {o : Obj}, s₁.heap.get? b = some o → H b = none → (hidT s₁.heap H).get? b = some o := fun e n => hidT_get e n
    have noB : ∀ {b : Addr} {o : Obj}, s₁.heap.get? b = some o → (∀ it n, o.data ≠ .seq it n) → (∀ ps, o.data ≠ .fields ps) → H b = none := fun {b o} e d1 d2 => by
      cases q : H b with
      | none => rfl
      | some u =>
        rcases hA b (by rw [q]; simp) with e' | e'
        · subst e'
          rw [ha] at e; cases e
          exact absurd rfl (d1 _ _)
        · subst e'
          rw [hP] at e; cases e
          exact absurd rfl (d2 _)
    have nsK : ∀ {b : Addr} {m : Str → Option Value}, s₁.heap.Ns b m → (hidT s₁.heap H).Ns b m := fun {b m} ⟨o, es, ep, e, d, r⟩ => ⟨o, es, ep, base_of e (noB e (fun it n z => by rw [d] at z; cases z) fun ps z => by rw [d] at z; cases z), d, r⟩
    have hKb : K.In (hidT s₁.heap H) := fun b o e => base_of (KX b o e) (by
      cases q : H b with
      | none => rfl
      | some u =>
        rcases hA b (by rw [q]; simp) with e' | e'
        · subst e'
          rw [hK (by rw [q]; simp)] at e; cases e
        · subst e'
          rw [hKP] at e; cases e)
    have hM : Mod K mg (hidT s₁.heap H) := ⟨hKb, nsK hns, ⟨mb, nsK hb, hbb⟩, hlim.elim fun mc zq485 => zq485.elim fun h1 h2 => ⟨mc, nsK h1, h2⟩⟩
    have e0 : Env0 P w K mg (hidT s₁.heap H) callerA [] s₁ H := ⟨rfl, hM, fun b o e => of_hidT e, Nat.le_of_eq (hidT_size _ _), trivial, fun b hb => absurd (show b ∈ ([] : List Addr) from hb) (by simp), hok, .of_eq hg⟩
    have hBt : (hidT s₁.heap H).BuiltinsAt mg Pt := by
      obtain ⟨bm, ob', b1, b2, b3, b4, b5, b6⟩ := bmain
      refine ⟨bm, ob', b1, b2, fun z => ?_, fun z => ?_, base_of b3 (noB b3 (fun it n z => by rw [b6] at z; cases z) fun ps z => by rw [b6] at z; cases z), b4, b5, b6⟩
      · obtain ⟨o, es, ep, e, d, _⟩ := hns
        rw [z, e] at b3; cases b3; rw [d] at b6; cases b6
      · rw [z, hP] at b3; cases b3; cases b6
    refine codeAny_mono ((F _ hKb (nsK hns) hBt).run callerA [] s₁ H ⟨[.ref a], []⟩ [.ref a] [.ref a] _ _ hr e0 (hbind s₁ (.ref a)) (.cons rfl .nil) (hsp H hT hS)) fun r s' h => ?_
    cases r with
    | error e => exact (hCX H e s' h).elim
    | ok fl =>
      cases fl with
      | next => exact False.elim h
      | brk => exact False.elim h
      | cont => exact False.elim h
      | ret u =>
        obtain ⟨v, H', os, bare, un, hok', r', q', tb⟩ := h
        subst q'
        obtain rfl : u = Value.bool true := r'
        have old : ∀ b o, s₁.heap.get? b = some o → b ≠ Pt → s'.heap.get? b = some o := fun b o e nb => by
          cases q : H b with
          | none => exact un.keep b o e q (by intro z; exact absurd (show b ∈ ([] : List Addr) from z) (by simp)) (by simp)
          | some u =>
            rcases hO b nb with z | ⟨ob, xs, z⟩
            · rw [q] at z; cases z
            · have z2 := un.frzs b ob _ z
              obtain ⟨e1, _⟩ := hok b _ z
              obtain ⟨e2, _⟩ := hok' b _ z2
              rw [e] at e1; cases e1
              exact e2
        have tab : s'.heap.get? Pt = some (tabObj #[]) ∨ ∃ more, s'.heap.get? Pt = some (tabObj (#[] ++ more)) := by
          rcases tb with z | ⟨c', z, _⟩
          · exact .inl (show ObjOk P w H' s'.heap Pt (tabO Pt #[]) from hok' Pt _ z).1
          · exact .inr ⟨_, by rw [Array.empty_append]; exact (show ObjOk P w H' s'.heap Pt (tabO Pt _) from hok' Pt _ z).1⟩
        refine ⟨rfl, ⟨fun b o e => ?_, fun b o e => ?_⟩, os, bare⟩
        · by_cases nb : b = Pt
          · subst nb
            rw [hP] at e; cases e
            rcases tab with z | ⟨more, z⟩
            · exact .inl z
            · exact .inr (.inl ⟨(hC.tab hP).isCodeTable, rfl, #[], more, rfl, z⟩)
          · exact .inl (old b o e nb)
        · by_cases nb : b = Pt
          · subst nb
            rcases tab with z | ⟨more, z⟩
            · exact ⟨_, z⟩
            · exact ⟨_, z⟩
          · exact ⟨o, old b o e nb⟩
  have okT : ∀ H : Hp, H Pt = some (tabO Pt #[]) → ObjOk P w H s₁.heap Pt (tabO Pt #[]) := fun H _ => ext_new hP hP fun h1 h2 z k => k _ z
  cases hk : K.lookup a with
  | some o =>
    have e := KX a o hk
    rw [ha] at e
    cases e
    refine core (fun b => if b = Pt then some (tabO Pt #[]) else none) (if_pos rfl) (fun b nb => .inl (if_neg nb)) (.inr ⟨_, vs.toArray, _, hk, rfl, rfl, rfl, by rw [List.size_toArray, lenV]; exact hl, by simpa using rv⟩) (fun b u z => ?_) (fun b z => ?_) fun z => absurd (if_neg haP) z
    · by_cases hb : b = Pt
      · have z' := (if_pos hb).symm.trans z
        cases z'
        subst hb
        exact okT _ (if_pos rfl)
      · have z' := (if_neg hb).symm.trans z
        cases z'
    · by_cases hb : b = Pt
      · exact .inr hb
      · exact absurd (if_neg hb) z
  | none =>
    refine core (fun b => if b = Pt then some (tabO Pt #[]) else if b = a then some (.frz { cls := .type "list", data := .seq vs.toArray } (.lst (ns.map V.int))) else none) (if_pos rfl) (fun b nb => ?_) (.inl (.inr ⟨{ cls := .type "list", data := .seq vs.toArray }, by show (if a = Pt then _ else if a = a then _ else _) = _; rw [if_neg haP, if_pos rfl]⟩)) (fun b u z => ?_) (fun b z => ?_) fun _ => hk
    · show (if b = Pt then _ else if b = a then _ else _) = _ ∨ ∃ o xs, (if b = Pt then _ else if b = a then _ else _) = _
      rw [if_neg nb]
      by_cases hb : b = a
      · exact .inr ⟨_, _, if_pos hb⟩
      · exact .inl (if_neg hb)
    · have z : (if b = Pt then some (tabO Pt #[]) else if b = a then some (.frz { cls := .type "list", data := .seq vs.toArray } (.lst (ns.map V.int))) else none) = some u := z
      by_cases hb : b = Pt
      · rw [if_pos hb] at z
        cases z
        subst hb
        exact okT _ (if_pos rfl)
      · rw [if_neg hb] at z
        by_cases hb2 : b = a
        · rw [if_pos hb2] at z
          cases z
          subst hb2
          exact ⟨ha, by rw [List.length_map]; exact hl, vs, _, rv, ha⟩
        · rw [if_neg hb2] at z
          cases z
    · have z : (if b = Pt then some (tabO Pt #[]) else if b = a then some (HO.frz { cls := .type "list", data := .seq vs.toArray } (.lst (ns.map V.int))) else none) ≠ none := z
      by_cases hb : b = Pt
      · exact .inr hb
      · rw [if_neg hb] at z
        by_cases hb2 : b = a
        · exact .inl hb2
        · rw [if_neg hb2] at z
          exact absurd rfl z
theorem walk_ofT {l : PySem.W.OpenLaw} {n k : Nat} {q : Program} {loose : List Str} {XP : (Str → Option Value) → Heap → Prop} {YP : World → Heap → Prop} {d : DefRec} {K : Params → PySem.W.Frag} {CX : World → CXT} {sp : World → Sp} {x qual : Str} {lpos : Pos} {Pt : Addr}
    (hn : l.most = some n) (hn2 : n ≤ sizeLine) (hdf : d.params.defaults = []) (hr : Room k callerA)
    (hY : ∀ (w : World) (h : Heap), YP w h → (K w.params).In h ∧ h.get? Pt = some (tabObj #[]))
    (F : ∀ (w : World) (mg : Str → Option Value) (fa : Addr) (h : Heap), (K w.params).In h → h.Ns mainGlobals mg → mg d.name = some (.ref fa) →
      ∃ (fd : FuncData) (c : Addr), (∀ (s : Shared) (u : Value), BindsTo s fd ⟨[u], []⟩ [(x, u)]) ∧ PySem.W.codeHdIn (K w.params) c Pt = true ∧ (K w.params).lookup Pt = none ∧
        ∀ base : Heap, (K w.params).In base → base.Ns mainGlobals mg → base.BuiltinsAt mg Pt → FnOk l.prog w (K w.params) mg base (CX w) k fa fd [x] (sp w))
    (hsp : ∀ (w : World) (H : Hp) (a : Addr) (ns : List Int), ns.length ≤ n → H Pt = some (tabO Pt #[]) → SqL (K w.params) H a (ns.map V.int) → sp w [.ref a] H (fun v H' => v = .bl true ∧ TabSt H' Pt lpos qual) fun _ _ _ => False)
    (hCX : ∀ (w : World) (H : Hp) (s : Shared) (e : Value) (s' : Shared), CX w [] H s (fun _ _ _ => False) e s' → False) :
    PySem.W.WalkO q loose XP YP l.row.toRowW d [] (fun f vs => PySem.call f vs) := by
  refine Att.attach_call hn hdf fun w s₀ s₁ mg mb fa o pm cd doc a vs ns G Y ho hd hcd hmg hobj hints hlen hg => ?_
  obtain ⟨KX, hP⟩ := hY w _ Y
  obtain ⟨fd, c, hb, hC, hKP, hF⟩ := F w mg fa _ KX G.T.g hmg
  exact law_callT KX G.T.g G.T.b G.T.builtins G.T.nolimit hg G.T.bmain hP (PySem.W.codeHd_of_K KX hC) hKP hobj hints (Nat.le_trans hlen hn2) hr hF hb (fun H hO hS => hsp w H a ns hlen hO hS) fun H e s' => hCX w H s₁ e s'
end L2

set_option linter.all false
namespace L2
theorem lets2 {t1 t2 : TS} {D : Ends} {σ : St} {H : Hp} (h : let d := D; let s := σ; let u2 := t2; tSeq t1 u2 d s H) : tSeq t1 (t2) D σ H := h
theorem lets3 {t1 t2 t3 : TS} {D : Ends} {σ : St} {H : Hp} (h : let d := D; let s := σ; let u3 := t3; let u2 := tSeq t2 u3; tSeq t1 u2 d s H) : tSeq t1 (tSeq t2 (t3)) D σ H := h
theorem lets4 {t1 t2 t3 t4 : TS} {D : Ends} {σ : St} {H : Hp} (h : let d := D; let s := σ; let u4 := t4; let u3 := tSeq t3 u4; let u2 := tSeq t2 u3; tSeq t1 u2 d s H) : tSeq t1 (tSeq t2 (tSeq t3 (t4))) D σ H := h
theorem lets5 {t1 t2 t3 t4 t5 : TS} {D : Ends} {σ : St} {H : Hp} (h : let d := D; let s := σ; let u5 := t5; let u4 := tSeq t4 u5; let u3 := tSeq t3 u4; let u2 := tSeq t2 u3; tSeq t1 u2 d s H) : tSeq t1 (tSeq t2 (tSeq t3 (tSeq t4 (t5)))) D σ H := h
theorem lets6 {t1 t2 t3 t4 t5 t6 : TS} {D : Ends} {σ : St} {H : Hp} (h : let d := D; let s := σ; let u6 := t6; let u5 := tSeq t5 u6; let u4 := tSeq t4 u5; let u3 := tSeq t3 u4; let u2 := tSeq t2 u3; tSeq t1 u2 d s H) : tSeq t1 (tSeq t2 (tSeq t3 (tSeq t4 (tSeq t5 (t6))))) D σ H := h
theorem lets7 {t1 t2 t3 t4 t5 t6 t7 : TS} {D : Ends} {σ : St} {H : Hp} (h : let d := D; let s := σ; let u7 := t7; let u6 := tSeq t6 u7; let u5 := tSeq t5 u6; let u4 := tSeq t4 u5; let u3 := tSeq t3 u4; let u2 := tSeq t2 u3; tSeq t1 u2 d s H) : tSeq t1 (tSeq t2 (tSeq t3 (tSeq t4 (tSeq t5 (tSeq t6 (t7)))))) D σ H := h
theorem lets8 {t1 t2 t3 t4 t5 t6 t7 t8 : TS} {D : Ends} {σ : St} {H : Hp} (h : let d := D; let s := σ; let u8 := t8; let u7 := tSeq t7 u8; let u6 := tSeq t6 u7; let u5 := tSeq t5 u6; let u4 := tSeq t4 u5; let u3 := tSeq t3 u4; let u2 := tSeq t2 u3; tSeq t1 u2 d s H) : tSeq t1 (tSeq t2 (tSeq t3 (tSeq t4 (tSeq t5 (tSeq t6 (tSeq t7 (t8))))))) D σ H := h
theorem lets9 {t1 t2 t3 t4 t5 t6 t7 t8 t9 : TS} {D : Ends} {σ : St} {H : Hp} (h : let d := D; let s := σ; let u9 := t9; let u8 := tSeq t8 u9; let u7 := tSeq t7 u8; let u6 := tSeq t6 u7; let u5 := tSeq t5 u6; let u4 := tSeq t4 u5; let u3 := tSeq t3 u4; let u2 := tSeq t2 u3; tSeq t1 u2 d s H) : tSeq t1 (tSeq t2 (tSeq t3 (tSeq t4 (tSeq t5 (tSeq t6 (tSeq t7 (tSeq t8 (t9)))))))) D σ H := h
theorem lets10 {t1 t2 t3 t4 t5 t6 t7 t8 t9 t10 : TS} {D : Ends} {σ : St} {H : Hp} (h : let d := D; let s := σ; let u10 := t10; let u9 := tSeq t9 u10; let u8 := tSeq t8 u9; let u7 := tSeq t7 u8; let u6 := tSeq t6 u7; let u5 := tSeq t5 u6; let u4 := tSeq t4 u5; let u3 := tSeq t3 u4; let u2 := tSeq t2 u3; tSeq t1 u2 d s H) : tSeq t1 (tSeq t2 (tSeq t3 (tSeq t4 (tSeq t5 (tSeq t6 (tSeq t7 (tSeq t8 (tSeq t9 (t10))))))))) D σ H := h
theorem lets11 {t1 t2 t3 t4 t5 t6 t7 t8 t9 t10 t11 : TS} {D : Ends} {σ : St} {H : Hp} (h : let d := D; let s := σ; let u11 := t11; let u10 := tSeq t10 u11; let u9 := tSeq t9 u10; let u8 := tSeq t8 u9; let u7 := tSeq t7 u8; let u6 := tSeq t6 u7; let u5 := tSeq t5 u6; let u4 := tSeq t4 u5; let u3 := tSeq t3 u4; let u2 := tSeq t2 u3; tSeq t1 u2 d s H) : tSeq t1 (tSeq t2 (tSeq t3 (tSeq t4 (tSeq t5 (tSeq t6 (tSeq t7 (tSeq t8 (tSeq t9 (tSeq t10 (t11)))))))))) D σ H := h
theorem lets12 {t1 t2 t3 t4 t5 t6 t7 t8 t9 t10 t11 t12 : TS} {D : Ends} {σ : St} {H : Hp} (h : let d := D; let s := σ; let u12 := t12; let u11 := tSeq t11 u12; let u10 := tSeq t10 u11; let u9 := tSeq t9 u10; let u8 := tSeq t8 u9; let u7 := tSeq t7 u8; let u6 := tSeq t6 u7; let u5 := tSeq t5 u6; let u4 := tSeq t4 u5; let u3 := tSeq t3 u4; let u2 := tSeq t2 u3; tSeq t1 u2 d s H) : tSeq t1 (tSeq t2 (tSeq t3 (tSeq t4 (tSeq t5 (tSeq t6 (tSeq t7 (tSeq t8 (tSeq t9 (tSeq t10 (tSeq t11 (t12))))))))))) D σ H := h
theorem letX {X : Cx} {b : List PySem.Stmt} {D : Ends} {σ : St} {H : Hp} (h : let x := X; let d := D; ∃ t, PSs x b t ∧ t d σ H) : ∃ t, PSs X b t ∧ t D σ H := h
theorem letG {p : Prop} (h : let T := p; T) : p := h
theorem letB {g : TG} {tb : TS} {E : Ends} {x : V} {σ : St} {H : Hp} (h : let e := E; let s := σ; g x s H fun σ2 H2 => tb e σ2 H2) : g x σ H fun σ2 H2 => tb E σ2 H2 := h
end L2

set_option Elab.async false
set_option linter.all false
set_option maxRecDepth 100000
set_option maxHeartbeats 4000000
namespace K33
open PySem L2
noncomputable def top (i : Nat) : Stmt := PySem.Challenge.pw_parcelmend_k33_offers_and_choices.main.body.getD i (.Pass ⟨0, 0, 0, 0⟩)
noncomputable abbrev sPIn : Stmt := inClass (top 13) 0
noncomputable abbrev sSIn : Stmt := inClass (top 14) 0
noncomputable abbrev sSPa : Stmt := inClass (top 14) 3
noncomputable abbrev sPsO : Stmt := top 16
noncomputable abbrev sTIn : Stmt := inClass (top 18) 0
noncomputable abbrev sCCo : Stmt := top 19
noncomputable abbrev sTre : Stmt := top 20
noncomputable abbrev sBro : Stmt := top 21
noncomputable abbrev sCom : Stmt := top 23
noncomputable abbrev sCel : Stmt := top 26
noncomputable abbrev sMix : Stmt := top 27
noncomputable abbrev sNam : Stmt := top 28
noncomputable abbrev sLin : Stmt := top 29
noncomputable abbrev sLis : Stmt := top 30
noncomputable abbrev sPat : Stmt := top 31
noncomputable abbrev sMak : Stmt := top 32
noncomputable abbrev sPAp : Stmt := top 33
noncomputable abbrev sCho : Stmt := top 34
noncomputable abbrev sRow : Stmt := top 35
noncomputable abbrev sFir : Stmt := top 36
noncomputable abbrev sDue : Stmt := top 37
noncomputable abbrev sNBe : Stmt := top 24
noncomputable abbrev sLaw : Stmt := top 38
/-- the names of the built-ins are free at the top -/
structure Blt (mg : Str → Option Value) : Prop where
  range : mg "range" = none
  len : mg "len" = none
  min : mg "min" = none
  list : mg "list" = none
  dict : mg "dict" = none
  set : mg "set" = none
  sorted : mg "sorted" = none
  isinstance : mg "isinstance" = none
  str : mg "str" = none
theorem str_at {x : Str} (ok : TxtOk x) {r : Int} (h0 : 0 ≤ r) (h1 : r < x.length) : ∃ c, atI x.cps.toList r = some c ∧ c < 0x110000 := by
  obtain ⟨n, rfl⟩ : ∃ n : Nat, r = n := ⟨r.toNat, by omega⟩
  have hn : n < x.cps.toList.length := by
    have : x.cps.toList.length = x.length := by simp [Str.length]
    omega
  exact ⟨_, atI_nat (List.getElem?_eq_getElem hn), txtOk_iff.mp ok _ (List.getElem_mem hn)⟩
noncomputable def abcS : Str := "abcdefghijklmnopqrstuvwxyz"
theorem abc_ok : TxtOk abcS := by decide +kernel
theorem abc_len : abcS.length = 26 := by decide +kernel
theorem abc_at (n : Int) : ∃ c, atI abcS.cps.toList (n % 26) = some c ∧ c < 0x110000 := str_at abc_ok (by omega) (by rw [abc_len]; omega)
noncomputable def someS : Str := " !\"#$&'()*+,-./0123456789:;<=>?@ABCDEFGHIJKLMNOPQRSTUVWXYZ[\\]^_`"
noncomputable def restS : Str := "abcdefghijklmnopqrstuvwxyz{|}~"
theorem some_ok : TxtOk (someS ++ restS) := by decide +kernel
theorem some_len : (someS ++ restS).length = 94 := by decide +kernel
section
variable {P : Program} {w : World} {K : PySem.W.Frag} {mg : Str → Option Value} {base : Heap}

noncomputable def spMix : Sp := fun vs H Q _ => ∃ c k : Int, vs = [.int c, .int k] ∧ ∀ n : Int, Q (.int n) H
theorem scMix : FnScope ["_law_cell", "_law_k", "_law_number"] ["_law_cell", "_law_k"] (defScope sMix) := ⟨rfl, rfl, rfl, by decide +kernel, rfl, by decide +kernel, by decide +kernel⟩
theorem okMix {f : Addr} {fd : FuncData} (F : Fun K "_law_mixed" "_law_mixed" sMix f fd) : FnOk P w K mg base CX0 1 f fd ["_law_cell", "_law_k"] spMix := by
  refine F.ok scMix (fun vs H Q E h => ?_) (fun cdv A outer s H vs Q E hr h => ?_)
  · obtain ⟨c, k, rfl, _⟩ := h
    rfl
  · refine letX ?_
    intro xX dX
    obtain ⟨c, k, rfl, q⟩ := h
    refine ⟨_, (pss_cons (ps_set (i := 2) scMix.nd rfl (Or.inl rfl) (pe_op op_mod (pe_op op_mul (pe_op op_add (pe_op op_add (pe_op op_mod (pv 0) pe_int) (pe_op op_mul pe_int (pv 1))) pe_int) pe_int) pe_int))
        (pss_one (ps_ret (pe_op op_mod (pe_op op_mul (pv 2) (pe_op op_add (pe_op op_fdiv (pv 2) pe_int) pe_int)) pe_int)))), ?_⟩
    refine lets2 ?_
    intro dD sS uU2
    refine ⟨_, rfl, _, _, rfl, rfl, (by show (0 : Int) < 2147483647; decide), _, rfl, _, _, rfl, rfl, .inl ⟨by omega, by omega⟩, _, _, rfl, rfl, _, _, rfl, rfl, _, _, rfl, rfl, .inr ⟨by omega, by omega⟩, _, _, rfl, rfl, (by show (0 : Int) < 2147483647; decide), ?_⟩
    refine ⟨_, rfl, _, rfl, _, _, rfl, rfl, ⟨by omega, by omega⟩, _, _, rfl, rfl, _, _, rfl, rfl, .inl ⟨by omega, by omega⟩, _, _, rfl, rfl, (by show (0 : Int) < 2147483647; decide), ?_⟩
    exact q _

noncomputable def spCel (K : PySem.W.Frag) : Sp := fun vs H Q _ => ∃ (a : Addr) (k : Int) (ns : List Int), vs = [.ref a, .int k] ∧ 0 ≤ k ∧ SqL K H a (ns.map V.int) ∧ ∀ n : Int, Q (.int n) H
theorem scCel : FnScope ["_law_script", "_law_k"] ["_law_script", "_law_k"] (defScope sCel) := ⟨rfl, rfl, rfl, by decide +kernel, rfl, by decide +kernel, by decide +kernel⟩
theorem okCel {f : Addr} {fd : FuncData} (F : Fun K "_law_cell_at" "_law_cell_at" sCel f fd) (B : Blt mg) : FnOk P w K mg base CX0 1 f fd ["_law_script", "_law_k"] (spCel K) := by
  refine F.ok scCel (fun vs H Q E h => ?_) (fun cdv A outer s H vs Q E hr h => ?_)
  · obtain ⟨a, k, ns, rfl, _⟩ := h
    rfl
  · refine letX ?_
    intro xX dX
    obtain ⟨a, k, ns, rfl, k0, hA, q⟩ := h
    refine ⟨_, (pss_cons (ps_if (pt_cmpR op_lt (pv 1) (pe_callB call_len_seq (by rfl) B.len PySem.boot_len (pa_cons (pv 0) pa_nil)) (nomark _))
        (pss_one (ps_ret (pe_ix ix_list (pv 0) (pv 1) (fun _ _ => rfl)))) pss_nil)
        (pss_one (ps_ret pe_int))), ?_⟩
    refine lets2 ?_
    intro dD sS uU2
    refine ⟨_, rfl, _, rfl, a, _, rfl, .inl hA, _, _, rfl, rfl, _, rfl, ?_⟩
    refine ite2 (fun h => ?_) (fun h => ?_)
    · have h' := of_decide_eq_true h
      rw [List.length_map] at h'
      obtain ⟨z, hz, _⟩ := atI_ints (ns := ns) (r := k) k0 h'
      exact ⟨_, rfl, _, rfl, a, _, _, _, rfl, rfl, hA, hz, q z⟩
    · exact q 0

noncomputable def spNam : Sp := fun vs H Q _ => ∃ c p : Int, vs = [.int c, .int p] ∧ ∀ x H', Ln x → (1 ≤ x.length ∧ x.length ≤ 20) → Same H H' → Q (.str x) H'
theorem scNam : FnScope ["_law_cell", "_law_p", "_law_some", "_law_body", "_law_at"] ["_law_cell", "_law_p"] (defScope sNam) := ⟨rfl, rfl, rfl, by decide +kernel, rfl, by decide +kernel, by decide +kernel⟩
theorem okNam {f : Addr} {fd : FuncData} (F : Fun K "_law_name" "_law_name" sNam f fd) (B : Blt mg) : FnOk P w K mg base CX0 1 f fd ["_law_cell", "_law_p"] spNam := by
  refine F.ok scNam (fun vs H Q E h => ?_) (fun cdv A outer s H vs Q E hr h => ?_)
  · obtain ⟨c, p, rfl, _⟩ := h
    rfl
  · refine letX ?_
    intro xX dX
    obtain ⟨c, p, rfl, q⟩ := h
    refine ⟨_, (pss_cons (ps_set (i := 2) scNam.nd rfl (Or.inr rfl) pe_str)
        (pss_cut (fun σ H2 => ∃ x : Str, σ = [some (.int c), some (.int p), some (.str abcS), some (.str x), none] ∧ Same H H2 ∧ TxtOk x ∧ x.length ≤ 8) (ps_set (i := 3) scNam.nd rfl (Or.inl rfl) (pe_bm PySem.F.plainAttrs_str PySem.F.slot_str_join PySem.F.type_str_join mt_join pe_str (pa_cons (pe_compF ["_law_k"] ["_law_some", "_law_cell"] [2, 0] ⟨rfl, by decide +kernel, by decide +kernel, by decide +kernel, by decide +kernel, rfl, rfl, rfl⟩ rfl (pi_range1 rfl B.range (pa_cons (pe_op op_mod (pe_op op_fdiv (pv 0) pe_int) pe_int) pa_nil)) (fun _ _ _ _ => (pg_name (i := 0) (show List.Nodup (["_law_k", "_law_some", "_law_cell"] : List Str) by decide +kernel) rfl (Or.inl rfl))) (fun _ _ _ _ => pts_nil) (fun _ _ _ _ => (pe_ix ix_str (pv 1) (pe_op op_mod (pe_op op_fdiv (pv 2) (pe_op op_add pe_int (pe_op op_mul pe_int (pv 0)))) pe_int) (fun _ _ => rfl)))) pa_nil)))
        (pss_cons (ps_set (i := 4) scNam.nd rfl (Or.inl rfl) (pe_op op_mod (pe_op op_fdiv (pv 0) pe_int) (pe_op op_add (pe_callB call_len_str (by rfl) B.len PySem.boot_len (pa_cons (pv 3) pa_nil)) pe_int)))
        (pss_one (ps_ret (pe_op op_add_str (pe_op op_add_str (pe_slice sl_str (pv 3) po_none (po_some (pv 4))) (pe_ix ix_str (pv 2) (pe_op op_mod (pe_op op_add (pv 0) (pv 1)) pe_int) (fun _ _ => rfl))) (pe_slice sl_str (pv 3) (po_some (pv 4)) po_none))))))), ?_⟩
    refine lets2 ?_
    intro dD sS uU2
    refine ⟨?_, ?_⟩
    · refine ⟨rfl, _, rfl, _, _, rfl, rfl, ⟨by omega, by omega⟩, _, _, rfl, rfl, (by show (0 : Int) < 8; decide), c / 3 % 8, rfl, by omega, by omega, ?_⟩
      refine comp_range0 (σ0 := [none, some (.str abcS), some (.int c)]) (fun σ => ∃ v, σ = [v, some (.str abcS), some (.int c)]) (fun i ys _ => ∃ xs : List Str, ys = xs.map V.str ∧ xs.length = i ∧ ∀ x ∈ xs, TxtOk x ∧ x.length ≤ 1) ⟨_, rfl⟩ (fun _ _ => ⟨[], rfl, rfl, fun _ h => nomatch h⟩) ?_ ?_
      · intro D i ys σ H2 k hD hi hQ1 hd hs hQ2 hk
        refine letG ?_
        intro tT
        obtain ⟨v, rfl⟩ := hQ1
        obtain ⟨xs, rfl, hx, hl⟩ := hQ2
        first | (refine lets12 ?_; intros) | (refine lets11 ?_; intros) | (refine lets10 ?_; intros) | (refine lets9 ?_; intros) | (refine lets8 ?_; intros) | (refine lets7 ?_; intros) | (refine lets6 ?_; intros) | (refine lets5 ?_; intros) | (refine lets4 ?_; intros) | (refine lets3 ?_; intros) | (refine lets2 ?_; intros) | (refine letB (g := gName _) ?_; intros) | (refine letB (g := gTup _ _ _) ?_; intros) | skip
        obtain ⟨z, hz, zb⟩ := abc_at (c / (16 + 5 * (0 + (i : Int))))
        refine ⟨_, rfl, _, rfl, _, rfl, _, _, rfl, rfl, .inl ⟨by omega, by omega⟩, _, _, rfl, rfl, _, _, rfl, rfl, ⟨by omega, by omega⟩, _, _, rfl, rfl, (by show (0 : Int) < 26; decide), _, _, z, rfl, rfl, fit1 (by rw [abc_len]; decide), hz, ?_⟩
        refine hk _ _ _ ⟨_, rfl⟩ (Same.refl _) (small1000 (by rw [List.length_map]; omega)) ⟨xs ++ [_], strs_snoc xs _, by rw [List.length_append, hx]; rfl, fun y hy => ?_⟩
        rcases List.mem_append.mp hy with hy | hy
        · exact hl y hy
        · rw [List.mem_singleton.mp hy]
          exact ⟨txtOk_one zb, Nat.le_of_eq (len_one z)⟩
      · intro D ys H2 hD hd hs hQ3
        refine letG ?_
        intro tT
        obtain ⟨xs, rfl, hx, hl⟩ := hQ3
        first | (refine lets12 ?_; intros) | (refine lets11 ?_; intros) | (refine lets10 ?_; intros) | (refine lets9 ?_; intros) | (refine lets8 ?_; intros) | (refine lets7 ?_; intros) | (refine lets6 ?_; intros) | (refine lets5 ?_; intros) | (refine lets4 ?_; intros) | (refine lets3 ?_; intros) | (refine lets2 ?_; intros) | (refine letB (g := gName _) ?_; intros) | (refine letB (g := gTup _ _ _) ?_; intros) | skip
        have hsum := sum_le (b := 1) fun y hy => (hl y hy).2
        have e0 : (Str.ofString "").length = 0 := by decide +kernel
        refine ⟨_, D, xs, rfl, rfl, SqL.of hd, by rw [e0]; omega, ?_⟩
        refine ⟨_, rfl, hs, txtOk_join (by decide +kernel) fun y hy => (hl y hy).1, ?_⟩
        refine Nat.le_trans join_len ?_
        rw [e0]
        omega
    · intro σ' H' hQ4
      refine letG ?_
      intro tT
      obtain ⟨x, rfl, s1, xt, x8⟩ := hQ4
      first | (refine lets12 ?_; intros) | (refine lets11 ?_; intros) | (refine lets10 ?_; intros) | (refine lets9 ?_; intros) | (refine lets8 ?_; intros) | (refine lets7 ?_; intros) | (refine lets6 ?_; intros) | (refine lets5 ?_; intros) | (refine lets4 ?_; intros) | (refine lets3 ?_; intros) | (refine lets2 ?_; intros) | (refine letB (g := gName _) ?_; intros) | (refine letB (g := gTup _ _ _) ?_; intros) | skip
      refine ⟨_, rfl, _, _, rfl, rfl, ⟨by omega, by omega⟩, _, rfl, _, rfl, fit1 (by omega), _, _, rfl, rfl, _, _, rfl, rfl, (by show (0 : Int) < (x.length : Int) + 1; omega), ?_⟩
      obtain ⟨z, hz, zb⟩ := abc_at (c + p)
      have l1 := Txt.slice_le x none (some (c / 7 % ((x.length : Int) + 1)))
      have l2 := Txt.slice_le x (some (c / 7 % ((x.length : Int) + 1))) none
      have l3 : (⟨#[z]⟩ : Str).length = 1 := len_one z
      refine ⟨_, rfl, _, rfl, _, rfl, _, rfl, fit1 (by omega), _, rfl, _, rfl, _, rfl, _, _, rfl, rfl, _, _, rfl, rfl, (by show (0 : Int) < 26; decide), _, _, z, rfl, rfl, fit1 (by rw [abc_len]; decide), hz, _, _, rfl, rfl, fit (by omega) (by omega), _, rfl, _, rfl, _, rfl, _, rfl, fit1 (by omega), _, _, rfl, rfl, fit (by rw [len_app]; omega) (by omega), ?_⟩
      refine q _ _ ⟨txtOk_app (txtOk_app (txtOk_slice xt _ _) (txtOk_one zb)) (txtOk_slice xt _ _), ?_⟩ ?_ s1
      · rw [len_app, len_app]
        omega
      · rw [len_app, len_app]
        omega

noncomputable def spLin : Sp := fun vs H Q _ => ∃ c : Int, vs = [.int c] ∧ ∀ x H', Ln x → Same H H' → Q (.str x) H'
theorem scLin : FnScope ["_law_number", "_law_some", "_law_many"] ["_law_number"] (defScope sLin) := ⟨rfl, rfl, rfl, by decide +kernel, rfl, by decide +kernel, by decide +kernel⟩
theorem okLin {f : Addr} {fd : FuncData} (F : Fun K "_law_line" "_law_line" sLin f fd) (B : Blt mg) : FnOk P w K mg base CX0 1 f fd ["_law_number"] spLin := by
  refine F.ok scLin (fun vs H Q E h => ?_) (fun cdv A outer s H vs Q E hr h => ?_)
  · obtain ⟨c, rfl, _⟩ := h
    rfl
  · refine letX ?_
    intro xX dX
    obtain ⟨c, rfl, q⟩ := h
    refine ⟨_, (pss_cons (ps_set (i := 1) scLin.nd rfl (Or.inr rfl) pe_str)
        (pss_cons (ps_set (i := 1) scLin.nd rfl (Or.inr rfl) (pe_op op_add_str (pv 1) pe_str))
        (pss_cons (ps_set (i := 2) scLin.nd rfl (Or.inl rfl) (pe_op op_mod (pv 0) pe_int))
        (pss_one (ps_ret (pe_bm PySem.F.plainAttrs_str PySem.F.slot_str_join PySem.F.type_str_join mt_join pe_str (pa_cons (pe_compF ["_law_k"] ["_law_some", "_law_number"] [1, 0] ⟨rfl, by decide +kernel, by decide +kernel, by decide +kernel, by decide +kernel, rfl, rfl, rfl⟩ rfl (pi_range1 rfl B.range (pa_cons (pv 2) pa_nil)) (fun _ _ _ _ => (pg_name (i := 0) (show List.Nodup (["_law_k", "_law_some", "_law_number"] : List Str) by decide +kernel) rfl (Or.inl rfl))) (fun _ _ _ _ => pts_nil) (fun _ _ _ _ => (pe_ix ix_str (pv 1) (pe_op op_mod (pe_op op_fdiv (pv 2) (pe_op op_add pe_int (pe_op op_mul pe_int (pv 0)))) (pe_callB call_len_str (by rfl) B.len PySem.boot_len (pa_cons (pv 1) pa_nil))) (fun _ _ => rfl)))) pa_nil))))))), ?_⟩
    refine lets4 ?_
    intro dD sS uU4 uU3 uU2
    refine ⟨_, rfl, _, _, rfl, rfl, (by show someS.length + restS.length ≤ sizeLine; rw [← len_app, some_len]; decide), ?_⟩
    refine ⟨_, rfl, _, _, rfl, rfl, (by show (0 : Int) < 5; decide), ?_⟩
    refine ⟨rfl, _, rfl, c % 5, rfl, by omega, by omega, ?_⟩
    have e1 : ∀ i : Nat, ∃ z, atI (someS ++ restS).cps.toList (c / (5 + 11 * (0 + (i : Int))) % ((someS ++ restS).length : Int)) = some z ∧ z < 0x110000 := fun i => str_at some_ok (Int.emod_nonneg _ (by rw [some_len]; decide)) (Int.emod_lt_of_pos _ (by rw [some_len]; decide))
    refine comp_range0 (σ0 := [none, some (.str (someS ++ restS)), some (.int c)]) (fun σ => ∃ v, σ = [v, some (.str (someS ++ restS)), some (.int c)]) (fun i ys _ => ∃ xs : List Str, ys = xs.map V.str ∧ xs.length = i ∧ ∀ x ∈ xs, TxtOk x ∧ x.length ≤ 1) ⟨_, rfl⟩ (fun _ _ => ⟨[], rfl, rfl, fun _ h => nomatch h⟩) ?_ ?_
    · intro D i ys σ H2 k hD hi hQ5 hd hs hQ6 hk
      refine letG ?_
      intro tT
      obtain ⟨v, rfl⟩ := hQ5
      obtain ⟨xs, rfl, hx, hl⟩ := hQ6
      first | (refine lets12 ?_; intros) | (refine lets11 ?_; intros) | (refine lets10 ?_; intros) | (refine lets9 ?_; intros) | (refine lets8 ?_; intros) | (refine lets7 ?_; intros) | (refine lets6 ?_; intros) | (refine lets5 ?_; intros) | (refine lets4 ?_; intros) | (refine lets3 ?_; intros) | (refine lets2 ?_; intros) | (refine letB (g := gName _) ?_; intros) | (refine letB (g := gTup _ _ _) ?_; intros) | skip
      obtain ⟨z, hz, zb⟩ := e1 i
      refine ⟨_, rfl, _, rfl, _, rfl, _, _, rfl, rfl, .inl ⟨by omega, by omega⟩, _, _, rfl, rfl, _, _, rfl, rfl, ⟨by omega, by omega⟩, _, rfl, _, rfl, fit1 (by rw [some_len]; decide), _, _, rfl, rfl, (by show (0 : Int) < ((someS ++ restS).length : Int); rw [some_len]; decide), _, _, z, rfl, rfl, fit1 (by rw [some_len]; decide), hz, ?_⟩
      refine hk _ _ _ ⟨_, rfl⟩ (Same.refl _) (small1000 (by rw [List.length_map]; omega)) ⟨xs ++ [_], strs_snoc xs _, by rw [List.length_append, hx]; rfl, fun y hy => ?_⟩
      rcases List.mem_append.mp hy with hy | hy
      · exact hl y hy
      · rw [List.mem_singleton.mp hy]
        exact ⟨txtOk_one zb, Nat.le_of_eq (len_one z)⟩
    · intro D ys H2 hD hd hs hQ7
      refine letG ?_
      intro tT
      obtain ⟨xs, rfl, hx, hl⟩ := hQ7
      first | (refine lets12 ?_; intros) | (refine lets11 ?_; intros) | (refine lets10 ?_; intros) | (refine lets9 ?_; intros) | (refine lets8 ?_; intros) | (refine lets7 ?_; intros) | (refine lets6 ?_; intros) | (refine lets5 ?_; intros) | (refine lets4 ?_; intros) | (refine lets3 ?_; intros) | (refine lets2 ?_; intros) | (refine letB (g := gName _) ?_; intros) | (refine letB (g := gTup _ _ _) ?_; intros) | skip
      have hsum := sum_le (b := 1) fun y hy => (hl y hy).2
      have e0 : (Str.ofString "").length = 0 := by decide +kernel
      refine ⟨_, D, xs, rfl, rfl, SqL.of hd, by rw [e0]; omega, ?_⟩
      refine q _ _ ⟨txtOk_join (by decide +kernel) fun y hy => (hl y hy).1, ?_⟩ hs
      refine Nat.le_trans join_len ?_
      rw [e0]
      omega

noncomputable def spLis : Sp := fun vs H Q _ => ∃ c : Int, vs = [.int c] ∧ LinesNew H Q
theorem scLis : FnScope ["_law_number", "_law_some"] ["_law_number"] (defScope sLis) := ⟨rfl, rfl, rfl, by decide +kernel, rfl, by decide +kernel, by decide +kernel⟩
theorem okLis {f fMix fLin : Addr} {fd fdMix fdLin : FuncData} (F : Fun K "_law_lines" "_law_lines" sLis f fd) (B : Blt mg) (FMix : Fun K "_law_mixed" "_law_mixed" sMix fMix fdMix) (mMix : mg "_law_mixed" = some (.ref fMix)) (FLin : Fun K "_law_line" "_law_line" sLin fLin fdLin) (mLin : mg "_law_line" = some (.ref fLin)) :
    FnOk P w K mg base CX0 2 f fd ["_law_number"] spLis := by
  have GMix : FnOk P w K mg base CX0 1 fMix fdMix ["_law_cell", "_law_k"] spMix := okMix FMix
  have bMix := FMix.binds2 (l := ["_law_cell", "_law_k"]) (fun _ _ _ _ _ _ _ _ => rfl)
  have GLin : FnOk P w K mg base CX0 1 fLin fdLin ["_law_number"] spLin := okLin FLin B
  have bLin := FLin.binds1 (l := ["_law_number"]) (fun _ _ _ _ _ _ _ => rfl)
  refine F.ok scLis (fun vs H Q E h => ?_) (fun cdv A outer s H vs Q E hr h => ?_)
  · obtain ⟨c, rfl, _⟩ := h
    rfl
  · refine letX ?_
    intro xX dX
    obtain ⟨c, rfl, q⟩ := h
    refine ⟨_, (pss_cons (ps_set (i := 1) scLis.nd rfl (Or.inr rfl) (pe_op op_add pe_int (pe_op op_mul pe_int (pe_op op_mod (pv 0) pe_int))))
        (pss_one (ps_ret (pe_compF ["_law_k"] ["_law_some", "_law_number"] [1, 0] ⟨rfl, by decide +kernel, by decide +kernel, by decide +kernel, by decide +kernel, rfl, rfl, rfl⟩ rfl (pi_range1 rfl B.range (pa_cons (pe_op op_mod (pv 0) pe_int) pa_nil)) (fun _ _ _ _ => (pg_name (i := 0) (show List.Nodup (["_law_k", "_law_some", "_law_number"] : List Str) by decide +kernel) rfl (Or.inl rfl))) (fun _ _ _ _ => pts_nil) (fun _ _ _ _ => (pe_call GLin hr rfl mLin FLin.kp bLin .nil pass0 (pa_cons (pe_op op_mod (pe_call GMix hr rfl mMix FMix.kp bMix .nil pass0 (pa_cons (pe_op op_fdiv (pv 2) pe_int) (pa_cons (pv 0) pa_nil))) (pv 1)) pa_nil))))))), ?_⟩
    refine lets2 ?_
    intro dD sS uU2
    refine ⟨_, rfl, _, _, rfl, rfl, (by show (0 : Int) < 3; decide), _, _, rfl, rfl, .inl ⟨by omega, by omega⟩, _, _, rfl, rfl, ?_⟩
    refine ⟨_, rfl, _, _, rfl, rfl, (by show (0 : Int) < 5; decide), c % 5, rfl, by omega, by omega, ?_⟩
    refine comp_range0 (σ0 := [none, some (.int (40 + 900 * (c % 3))), some (.int c)]) (fun σ => ∃ v, σ = [v, some (.int (40 + 900 * (c % 3))), some (.int c)]) (fun i ys _ => ∃ xs : List Str, ys = xs.map V.str ∧ xs.length = i ∧ ∀ x ∈ xs, Ln x) ⟨_, rfl⟩ (fun _ _ => ⟨[], rfl, rfl, fun _ h => nomatch h⟩) ?_ ?_
    · intro D i ys σ H2 k hD hi hQ8 hd hs hQ9 hk
      refine letG ?_
      intro tT
      obtain ⟨v, rfl⟩ := hQ8
      obtain ⟨xs, rfl, hx, hl⟩ := hQ9
      first | (refine lets12 ?_; intros) | (refine lets11 ?_; intros) | (refine lets10 ?_; intros) | (refine lets9 ?_; intros) | (refine lets8 ?_; intros) | (refine lets7 ?_; intros) | (refine lets6 ?_; intros) | (refine lets5 ?_; intros) | (refine lets4 ?_; intros) | (refine lets3 ?_; intros) | (refine lets2 ?_; intros) | (refine letB (g := gName _) ?_; intros) | (refine letB (g := gTup _ _ _) ?_; intros) | skip
      refine ⟨_, rfl, _, _, rfl, rfl, ⟨by omega, by omega⟩, _, rfl, _, _, rfl, fun n => ?_⟩
      refine ⟨_, rfl, _, _, rfl, rfl, (by show (0 : Int) < 40 + 900 * (c % 3); omega), _, rfl, fun x H3 lx s3 => ?_⟩
      exact hk _ _ _ ⟨_, rfl⟩ s3 (small1000 (by rw [List.length_map]; omega)) ⟨xs ++ [x], strs_snoc xs x, by rw [List.length_append, hx]; rfl, Lns.app_mem hl (fun y hy => by rw [List.mem_singleton.mp hy]; exact lx)⟩
    · intro D ys H2 hD hd hs hQ10
      refine letG ?_
      intro tT
      obtain ⟨xs, rfl, hx, hl⟩ := hQ10
      exact q D H2 xs hD hs hd ⟨by omega, hl⟩

noncomputable def spPat : Sp := fun vs H Q _ => ∃ c : Int, vs = [.int c] ∧ ∀ x H', Ln x → Same H H' → Q (.str x) H'
theorem scPat : FnScope ["_law_number", "_law_some", "_law_way"] ["_law_number"] (defScope sPat) := ⟨rfl, rfl, rfl, by decide +kernel, rfl, by decide +kernel, by decide +kernel⟩
noncomputable def fourS : List Str := ["a", "a/b", "conf/ed/three/four", "zz"]
theorem four_ok : ∀ x ∈ fourS, Ln x := by
  have h : fourS.all (fun x => PyData.strOk x && decide (x.length ≤ 60)) = true := by decide +kernel
  exact fun x hx => lnOk_of (List.all_eq_true.mp h x hx)
theorem okPat {f : Addr} {fd : FuncData} (F : Fun K "_law_path" "_law_path" sPat f fd) : FnOk P w K mg base CX0 1 f fd ["_law_number"] spPat := by
  refine F.ok scPat (fun vs H Q E h => ?_) (fun cdv A outer s H vs Q E hr h => ?_)
  · obtain ⟨c, rfl, _⟩ := h
    rfl
  · refine letX ?_
    intro xX dX
    obtain ⟨c, rfl, q⟩ := h
    refine ⟨_, (pss_cons (ps_set (i := 1) scPat.nd rfl (Or.inl rfl) pe_str)
        (pss_cons (ps_set (i := 2) scPat.nd rfl (Or.inl rfl) (pe_op op_mod (pv 0) pe_int))
        (pss_cons (ps_if (pt_cmpR op_eq (pv 2) pe_int (nomark _))
        (pss_one (ps_ret (pe_op op_add_str (pe_op op_add_str (pe_ix ix_str (pv 1) (pe_op op_mod (pe_op op_fdiv (pv 0) pe_int) pe_int) (fun _ _ => rfl)) pe_str) (pe_ix ix_str (pv 1) (pe_op op_mod (pe_op op_fdiv (pv 0) pe_int) pe_int) (fun _ _ => rfl))))) pss_nil)
        (pss_one (ps_ret (pe_ix ix_list (pe_lstN (pa_cons pe_str (pa_cons pe_str (pa_cons pe_str (pa_cons pe_str pa_nil))))) (pv 2) (fun _ _ => rfl))))))), ?_⟩
    refine lets4 ?_
    intro dD sS uU4 uU3 uU2
    refine ⟨_, rfl, _, _, rfl, rfl, (by show (0 : Int) < 5; decide), ?_⟩
    refine ⟨_, rfl, rfl, _, rfl, ?_⟩
    refine ite2 (fun h => ?_) (fun h => ?_)
    · obtain ⟨z, hz, zb⟩ := abc_at (c / 5)
      obtain ⟨y, hy, yb⟩ := abc_at (c / 130)
      have lz : (⟨#[z]⟩ : Str).length = 1 := len_one z
      have ly : (⟨#[y]⟩ : Str).length = 1 := len_one y
      have ls : (Str.ofString "/").length = 1 := by decide +kernel
      refine ⟨_, rfl, _, rfl, _, _, rfl, rfl, ⟨by omega, by omega⟩, _, _, rfl, rfl, (by show (0 : Int) < 26; decide), _, _, z, rfl, rfl, fit1 (by rw [show (Str.ofString "abcdefghijklmnopqrstuvwxyz").length = 26 from abc_len]; decide), hz, _, _, rfl, rfl, fit (by omega) (by omega), _, rfl, _, rfl, _, _, rfl, rfl, ⟨by omega, by omega⟩, _, _, rfl, rfl, (by show (0 : Int) < 26; decide), _, _, y, rfl, rfl, fit1 (by rw [show (Str.ofString "abcdefghijklmnopqrstuvwxyz").length = 26 from abc_len]; decide), hy, _, _, rfl, rfl, fit (by rw [len_app]; omega) (by omega), ?_⟩
      refine q _ _ ⟨txtOk_app (txtOk_app (txtOk_one zb) (by decide +kernel)) (txtOk_one yb), ?_⟩ (Same.refl _)
      rw [len_app, len_app]
      omega
    · have h4 : c % 5 ≠ 4 := fun z => h (by show decide (V.int (c % 5) = V.int 4) = true; rw [z]; rfl)
      refine ⟨(by show 4 ≤ sizeLine; decide), fun p1 H1 n1 s1 e1 => ?_⟩
      obtain ⟨z, hz, zm⟩ := atI_strs (xs := fourS) (r := c % 5) (by omega) (by show c % 5 < (4 : Nat); omega)
      exact ⟨_, rfl, p1, _, _, _, rfl, rfl, SqL.of e1, hz, q z H1 (four_ok z (List.mem_of_getElem? zm)) s1⟩

noncomputable def MakNew (H : Hp) (Q : VK) : Prop := ∀ p H' (ms : List Int), H p = none → Same H H' → H' p = some (.tup (ms.map V.int)) → Q (.ref p) H'
noncomputable def spMak : Sp := fun vs H Q _ => ∃ c : Int, vs = [.int c] ∧ MakNew H Q
theorem scMak : FnScope ["_law_number"] ["_law_number"] (defScope sMak) := ⟨rfl, rfl, rfl, by decide +kernel, rfl, by decide +kernel, by decide +kernel⟩
theorem okMak {f : Addr} {fd : FuncData} (F : Fun K "_law_make" "_law_make" sMak f fd) : FnOk P w K mg base CX0 1 f fd ["_law_number"] spMak := by
  refine F.ok scMak (fun vs H Q E h => ?_) (fun cdv A outer s H vs Q E hr h => ?_)
  · obtain ⟨c, rfl, _⟩ := h
    rfl
  · refine letX ?_
    intro xX dX
    obtain ⟨c, rfl, q⟩ := h
    refine ⟨_, (pss_cons (ps_if (pt_cmpR op_eq (pe_op op_mod (pv 0) pe_int) pe_int (nomark _))
        (pss_one (ps_ret (pe_tupN (pa_cons (pe_op op_add pe_int (pe_op op_mod (pe_op op_fdiv (pv 0) pe_int) pe_int)) pa_nil)))) pss_nil)
        (pss_cons (ps_if (pt_cmpR op_eq (pe_op op_mod (pv 0) pe_int) pe_int (nomark _))
        (pss_one (ps_ret (pe_tupN (pa_cons pe_int (pa_cons (pe_op op_mod (pe_op op_fdiv (pv 0) pe_int) pe_int) pa_nil))))) pss_nil)
        (pss_cons (ps_if (pt_cmpR op_eq (pe_op op_mod (pv 0) pe_int) pe_int (nomark _))
        (pss_one (ps_ret (pe_tupN (pa_cons pe_int (pa_cons pe_int (pa_cons (pe_op op_mod (pe_op op_fdiv (pv 0) pe_int) (pe_op op_pow pe_int pe_int)) pa_nil)))))) pss_nil)
        (pss_one (ps_ret (pe_tupN (pa_cons (pe_op op_mod (pe_op op_fdiv (pv 0) pe_int) (pe_op op_pow pe_int pe_int)) pa_nil))))))), ?_⟩
    refine lets4 ?_
    intro dD sS uU4 uU3 uU2
    refine ⟨_, rfl, _, _, rfl, rfl, (by show (0 : Int) < 4; decide), rfl, _, rfl, ?_⟩
    refine ite2 (fun h => ?_) (fun h => ?_)
    · refine ⟨_, rfl, _, _, rfl, rfl, ⟨by omega, by omega⟩, _, _, rfl, rfl, (by show (0 : Int) < 3; decide), _, _, rfl, rfl, (by show 1 ≤ sizeLine; decide), fun p1 H1 n1 s1 e1 => ?_⟩
      exact q p1 H1 [_] n1 s1 e1
    refine ⟨_, rfl, _, _, rfl, rfl, (by show (0 : Int) < 4; decide), rfl, _, rfl, ?_⟩
    refine ite2 (fun h => ?_) (fun h => ?_)
    · refine ⟨_, rfl, _, _, rfl, rfl, ⟨by omega, by omega⟩, _, _, rfl, rfl, (by show (0 : Int) < 3; decide), (by show 2 ≤ sizeLine; decide), fun p2 H2 n2 s2 e2 => ?_⟩
      exact q p2 H2 [_, _] n2 s2 e2
    refine ⟨_, rfl, _, _, rfl, rfl, (by show (0 : Int) < 4; decide), rfl, _, rfl, ?_⟩
    refine ite2 (fun h => ?_) (fun h => ?_)
    · refine ⟨_, rfl, _, _, rfl, rfl, ⟨by omega, by omega⟩, _, _, rfl, rfl, ⟨by decide, by decide, by decide⟩, _, _, rfl, rfl, (by show (0 : Int) < 10 ^ (9 : Int).toNat; decide), (by show 3 ≤ sizeLine; decide), fun p3 H3 n3 s3 e3 => ?_⟩
      exact q p3 H3 [_, _, _] n3 s3 e3
    refine ⟨_, rfl, _, _, rfl, rfl, ⟨by omega, by omega⟩, _, _, rfl, rfl, ⟨by decide, by decide, by decide⟩, _, _, rfl, rfl, (by show (0 : Int) < 10 ^ (9 : Int).toNat; decide), (by show 1 ≤ sizeLine; decide), fun p4 H4 n4 s4 e4 => ?_⟩
    exact q p4 H4 [_] n4 s4 e4
end
end K33

set_option Elab.async false
set_option linter.all false
set_option maxRecDepth 100000
set_option maxHeartbeats 4000000
namespace K33
open PySem L2
/-- what the walk asks of the class -/
structure Txt (K : PySem.W.Frag) (mg : Str → Option Value) (C : Addr) : Prop where
  cl : Cls K C
  nN : NoAttr K C "name"
  nM : NoAttr K C "make"
  nR : NoAttr K C "rank"
  nF : NoAttr K C "files"
  nE : NoAttr K C "needs"
  nS : NoAttr K C "shuts"
  nO : NoAttr K C "offers"
  mgC : mg "Parcel" = some (.ref C)
/-- the fields of a parcel -/
structure Flds (fl : List (Str × V)) (nm mk rk : V) (pf pn ps po : Addr) : Prop where
  name : fl.lookup ("name" : Str) = some nm
  make : fl.lookup ("make" : Str) = some mk
  rank : fl.lookup ("rank" : Str) = some rk
  files : fl.lookup ("files" : Str) = some (.ref pf)
  needs : fl.lookup ("needs" : Str) = some (.ref pn)
  shuts : fl.lookup ("shuts" : Str) = some (.ref ps)
  offers : fl.lookup ("offers" : Str) = some (.ref po)
noncomputable def fl7 (nm mk rk : V) (pf pn ps po : Addr) : List (Str × V) := putF "offers" (.ref po) (putF "shuts" (.ref ps) (putF "needs" (.ref pn) (putF "files" (.ref pf) (putF "rank" rk (putF "make" mk (putF "name" nm []))))))
theorem flds7 (nm mk rk : V) (pf pn ps po : Addr) : Flds (fl7 nm mk rk pf pn ps po) nm mk rk pf pn ps po := by
  unfold fl7
  constructor
  · rw [lookup_putF, if_neg (by decide +kernel), lookup_putF, if_neg (by decide +kernel), lookup_putF, if_neg (by decide +kernel), lookup_putF, if_neg (by decide +kernel), lookup_putF, if_neg (by decide +kernel), lookup_putF, if_neg (by decide +kernel), lookup_putF, if_pos rfl]
  · rw [lookup_putF, if_neg (by decide +kernel), lookup_putF, if_neg (by decide +kernel), lookup_putF, if_neg (by decide +kernel), lookup_putF, if_neg (by decide +kernel), lookup_putF, if_neg (by decide +kernel), lookup_putF, if_pos rfl]
  · rw [lookup_putF, if_neg (by decide +kernel), lookup_putF, if_neg (by decide +kernel), lookup_putF, if_neg (by decide +kernel), lookup_putF, if_neg (by decide +kernel), lookup_putF, if_pos rfl]
  · rw [lookup_putF, if_neg (by decide +kernel), lookup_putF, if_neg (by decide +kernel), lookup_putF, if_neg (by decide +kernel), lookup_putF, if_pos rfl]
  · rw [lookup_putF, if_neg (by decide +kernel), lookup_putF, if_neg (by decide +kernel), lookup_putF, if_pos rfl]
  · rw [lookup_putF, if_neg (by decide +kernel), lookup_putF, if_pos rfl]
  · rw [lookup_putF, if_pos rfl]
section
variable {P : Program} {w : World} {K : PySem.W.Frag} {mg : Str → Option Value} {base : Heap}
/-! ### a parcel is made -/
/-- the files handed in: each a path and lines -/
structure FilesAt (K : PySem.W.Frag) (H : Hp) (xs : List V) (fs : List (V × List V)) : Prop where
  len : xs.length = fs.length
  item : ∀ (i : Nat) (p : V) (ls : List V), fs[i]? = some (p, ls) → ∃ t l, xs[i]? = some (.ref t) ∧ SqT K H t [p, .ref l] ∧ SqL K H l ls
/-- the parcel's own: new things of the same content -/
structure FilesNew (H H' : Hp) (D : Addr) (xs : List V) (fs : List (V × List V)) (k : Nat) : Prop where
  len : xs.length = k
  item : ∀ (i : Nat) (p : V) (ls : List V), i < k → fs[i]? = some (p, ls) → ∃ t l, xs[i]? = some (.ref t) ∧ H t = none ∧ H l = none ∧ t ≠ D ∧ l ≠ D ∧ H' t = some (.tup [p, .ref l]) ∧ H' l = some (.lst ls)
noncomputable def filesComp : Expr := match (defBody sPIn).getD 3 (.Pass ⟨0, 0, 0, 0⟩) with
  | .Assign _ e _ => e
  | _ => .Constant .none 0 ⟨0, 0, 0, 0⟩
noncomputable def filesScope : Scope := match filesComp with
  | .ListComp _ _ sc _ => sc
  | _ => { kind := .function, names := [], isGenerator := false, isCoroutine := false }
noncomputable def filesElt : Expr := match filesComp with
  | .ListComp e _ _ _ => e
  | _ => .Constant .none 0 ⟨0, 0, 0, 0⟩
noncomputable def filesTg : Expr := match filesComp with
  | .ListComp _ [⟨t, _, _, _⟩] _ _ => t
  | _ => .Constant .none 0 ⟨0, 0, 0, 0⟩
noncomputable def filesIter : Expr := match filesComp with
  | .ListComp _ [⟨_, t, _, _⟩] _ _ => t
  | _ => .Constant .none 0 ⟨0, 0, 0, 0⟩
theorem scFiles (X : Cx) : CompScopeF X ["path", "lines"] [] [] filesScope := ⟨rfl, by decide +kernel, by decide +kernel, by decide +kernel, by decide +kernel, rfl, rfl, rfl⟩
noncomputable def rListOf (K : PySem.W.Frag) : List V → Hp → VK → Prop := fun xs H Q => ∃ p ys, xs = [.ref p] ∧ (SqL K H p ys ∨ SqT K H p ys) ∧ ∀ l, H l = none → Q (.ref l) (upd H l (.lst ys))
theorem filesG {X : Cx} (hc : X.calm = true) (s₀ : Shared) (H₀ : Hp) (C₀ : Addr) (ex : List Addr) : PG (cxCompF X ((["path", "lines"] : List Str) ++ ([] : List Str)) filesScope s₀ H₀ C₀ ex) filesTg (gTup X.K 2 (gCons (gName 0) (gCons (gName 1) gNil))) :=
  pg_tup (X := cxCompF X ((["path", "lines"] : List Str) ++ ([] : List Str)) filesScope s₀ H₀ C₀ ex) hc (pgs_cons (pg_name (i := 0) (scFiles X).nd rfl (Or.inl rfl)) (pgs_cons (pg_name (i := 1) (scFiles X).nd rfl (Or.inl rfl)) pgs_nil))
theorem filesE {X : Cx} (ti : X.mg "list" = none) (s₀ : Shared) (H₀ : Hp) (C₀ : Addr) (ex : List Addr) : PE (cxCompF X ((["path", "lines"] : List Str) ++ ([] : List Str)) filesScope s₀ H₀ C₀ ex) filesElt (tTup (tCons (tVar 0) (tCons (tCB (rListOf X.K) (tCons (tVar 1) tNil)) tNil))) :=
  pe_tup (X := cxCompF X ((["path", "lines"] : List Str) ++ ([] : List Str)) filesScope s₀ H₀ C₀ ex) (pa_cons (pv 0) (pa_cons (pe_callTy (call_list_of (X := cxCompF X ((["path", "lines"] : List Str) ++ ([] : List Str)) filesScope s₀ H₀ C₀ ex)) (by rfl) ti PyProof.Rows.boot_list (pa_cons (pv 1) pa_nil)) pa_nil))
theorem filesPE {X : Cx} {wi : TI} (hc : X.calm = true) (ti : X.mg "list" = none) (hi : PI X filesTg filesIter wi) : PE X filesComp (tCompF wi 2 [] (gTup X.K 2 (gCons (gName 0) (gCons (gName 1) gNil))) tTrue (tTup (tCons (tVar 0) (tCons (tCB (rListOf X.K) (tCons (tVar 1) tNil)) tNil)))) :=
  pe_compF ["path", "lines"] [] [] (elt := filesElt) (tg := filesTg) (iter := filesIter) (ifs := []) (sc := filesScope) (scFiles X) hc hi (filesG hc) (fun _ _ _ _ => pts_nil) (filesE ti)
theorem scPIn : FnScope ["self", "name", "make", "rank", "files", "needs", "shuts", "offers"] ["self", "name", "make", "rank", "files", "needs", "shuts", "offers"] (defScope sPIn) := ⟨rfl, rfl, rfl, by decide +kernel, rfl, by decide +kernel, by decide +kernel⟩
noncomputable def spPIn (K : PySem.W.Frag) (C : Addr) : Sp := fun vs H Q _ => ∃ (x dx fa na sa oa : Addr) (nm mk rk : V) (xs ns ss os : List V) (fs : List (V × List V)), vs = [.ref x, nm, mk, rk, .ref fa, .ref na, .ref sa, .ref oa] ∧ H x = some (.ins C dx []) ∧
  SqL K H fa xs ∧ FilesAt K H xs fs ∧ SqL K H na ns ∧ SqL K H sa ss ∧ SqL K H oa os ∧ fs.length ≤ 1000 ∧
  ∀ (fl : List (Str × V)) (pf pn ps po : Addr) (xs' : List V) (H' : Hp), Flds fl nm mk rk pf pn ps po → H' x = some (.ins C dx fl) → H pf = none → H pn = none → H ps = none → H po = none →
    H' pf = some (.lst xs') → FilesNew H H' pf xs' fs fs.length → H' pn = some (.lst ns) → H' ps = some (.lst ss) → H' po = some (.lst os) → (∀ b o, H b = some o → b ≠ x → H' b = some o) → Q .non H'
/-- all but the object at x is as it was; what is free was free -/
structure Stage (C dx x : Addr) (H Hk : Hp) (fl : List (Str × V)) : Prop where
  same : ∀ b o, H b = some o → b ≠ x → Hk b = some o
  free : ∀ b, Hk b = none → H b = none
  ob : Hk x = some (.ins C dx fl)
section
variable {C dx x p a : Addr} {H Hk : Hp} {fl fl' : List (Str × V)} {o o' : HO} {xs : List V}
theorem Stage.put (S : Stage C dx x H Hk fl) : Stage C dx x H (upd Hk x (.ins C dx fl')) fl' :=
  ⟨fun b o e hb => by rw [upd_ne hb]; exact S.same b o e hb, fun b e => S.free b (free_upd e).2, upd_same⟩
theorem Stage.lay (S : Stage C dx x H Hk fl) (hp : Hk p = none) : Stage C dx x H (upd Hk p o) fl :=
  ⟨fun b u e hb => by rw [upd_ne (ne_of_none (S.same b u e hb) hp)]; exact S.same b u e hb, fun b e => S.free b (free_upd e).2, by rw [upd_ne (ne_of_none S.ob hp)]; exact S.ob⟩
theorem Stage.sqL (S : Stage C dx x H Hk fl) (hx : H x = some (.ins C dx fl')) (h : SqL K H a xs) : SqL K Hk a xs := by
  rcases h with (h | ⟨o, h⟩) | h
  · exact .inl (.inl (S.same _ _ h (ne_of h hx (by intro z; cases z))))
  · exact .inl (.inr ⟨o, S.same _ _ h (ne_of h hx (by intro z; cases z))⟩)
  · exact .inr h
theorem Stage.sqT (S : Stage C dx x H Hk fl) (hx : H x = some (.ins C dx fl')) (h : SqT K H a xs) : SqT K Hk a xs := by
  rcases h with (h | ⟨o, h⟩) | h
  · exact .inl (.inl (S.same _ _ h (ne_of h hx (by intro z; cases z))))
  · exact .inl (.inr ⟨o, S.same _ _ h (ne_of h hx (by intro z; cases z))⟩)
  · exact .inr h
theorem keep_upd (h : Hk a = some o) (n : a ≠ p) : upd Hk p o' a = some o := by rw [upd_ne n]; exact h
theorem lp {f : Str} {v : V} {n : Nat} (h : fl.length ≤ n) : (putF f v fl).length ≤ n + 1 := Nat.le_trans (length_putF _ _ _) (by omega)
theorem few {n : Nat} (h : fl.length ≤ n) (h2 : n < 1000) : fl.length < 1000 := by omega
theorem len0 : ([] : List (Str × V)).length ≤ 0 := Nat.le_refl _
end
theorem filesNew_keep {H Hk Hj : Hp} {D : Addr} {xs : List V} {fs : List (V × List V)} {k : Nat} (fn : FilesNew H Hk D xs fs k) (h : ∀ b o, Hk b = some o → b ≠ D → H b = none → Hj b = some o) : FilesNew H Hj D xs fs k := by
  refine ⟨fn.len, fun i p ls hi hp => ?_⟩
  obtain ⟨t, l, e1, e2, e3, e4, e5, e6, e7⟩ := fn.item i p ls hi hp
  exact ⟨t, l, e1, e2, e3, e4, e5, h t _ e6 e4 e2, h l _ e7 e5 e3⟩
theorem okPIn {f C : Addr} {fd : FuncData} (F : Fun K "__init__" "Parcel.__init__" sPIn f fd) (T : Txt K mg C) (ti : mg "list" = none) :
    FnOk P w K mg base CX0 1 f fd ["self", "name", "make", "rank", "files", "needs", "shuts", "offers"] (spPIn K C) := by
  refine F.ok scPIn (fun vs H Q E h => ?_) (fun cdv A outer s H vs Q E hr h => ?_)
  · obtain ⟨x, dx, fa, na, sa, oa, nm, mk, rk, xs, ns, ss, os, fs, rfl, _⟩ := h
    rfl
  · refine letX ?_
    intro xX dX
    obtain ⟨x, dx, fa, na, sa, oa, nm, mk, rk, xs, ns, ss, os, fs, rfl, hx, hfa, hfs, hna, hsa, hoa, h1000, k⟩ := h
    refine ⟨_, pss_cons (ps_fld (pv 0) (pv 1) rfl) (pss_cons (ps_fld (pv 0) (pv 2) rfl) (pss_cons (ps_fld (pv 0) (pv 3) rfl)
      (pss_cons (ps_fld (pv 0) (filesPE rfl ti (pi_list (pv 4))) rfl)
      (pss_cons (ps_fld (pv 0) (pe_callTy call_list_of (by rfl) ti PyProof.Rows.boot_list (pa_cons (pv 5) pa_nil)) rfl)
      (pss_cons (ps_fld (pv 0) (pe_callTy call_list_of (by rfl) ti PyProof.Rows.boot_list (pa_cons (pv 6) pa_nil)) rfl)
      (pss_one (ps_fld (pv 0) (pe_callTy call_list_of (by rfl) ti PyProof.Rows.boot_list (pa_cons (pv 7) pa_nil)) rfl))))))), ?_⟩
    refine lets7 ?_
    intro dD sS uU7 uU6 uU5 uU4 uU3 uU2
    have S0 : Stage C dx x H H [] := ⟨fun _ _ e _ => e, fun _ e => e, hx⟩
    refine ⟨_, rfl, _, rfl, x, C, dx, _, rfl, S0.ob, T.cl, T.nN, few len0 (by decide), ?_⟩
    have S1 : Stage C dx x H _ (putF "name" nm []) := S0.put
    refine ⟨_, rfl, _, rfl, x, C, dx, _, rfl, S1.ob, T.cl, T.nM, few (lp len0) (by decide), ?_⟩
    have S2 : Stage C dx x H _ (putF "make" mk (putF "name" nm [])) := S1.put
    refine ⟨_, rfl, _, rfl, x, C, dx, _, rfl, S2.ob, T.cl, T.nR, few (lp (lp len0)) (by decide), ?_⟩
    have S3 : Stage C dx x H _ (putF "rank" rk (putF "make" mk (putF "name" nm []))) := S2.put
    generalize upd (upd (upd H x (.ins C dx (putF "name" nm []))) x (.ins C dx (putF "make" mk (putF "name" nm [])))) x (.ins C dx (putF "rank" rk (putF "make" mk (putF "name" nm [])))) = H1 at S3 ⊢
    refine ⟨_, rfl, fa, rfl, ⟨xs, S3.sqL hx hfa⟩, fun D hD => ?_⟩
    refine ⟨fun i m σ H2 => m = xs.length - i ∧ i ≤ xs.length ∧ ∃ (u v : Option V) (ys : List V), σ = [u, v] ∧ H2 D = some (.lst ys) ∧ Same H1 H2 ∧ FilesNew H H2 D ys fs i, ⟨xs.length, by simp, Nat.zero_le _, none, none, [], rfl, upd_same, same_upd hD, rfl, fun i p ls hi => absurd hi (Nat.not_lt_zero _)⟩, ?_⟩
    intro i m σ H2 hQ1
    refine letG ?_
    intro tT
    obtain ⟨rfl, hi, u, v, ys, rfl, hys, s2, fn⟩ := hQ1
    first | (refine lets12 ?_; intros) | (refine lets11 ?_; intros) | (refine lets10 ?_; intros) | (refine lets9 ?_; intros) | (refine lets8 ?_; intros) | (refine lets7 ?_; intros) | (refine lets6 ?_; intros) | (refine lets5 ?_; intros) | (refine lets4 ?_; intros) | (refine lets3 ?_; intros) | (refine lets2 ?_; intros) | (refine letB (g := gName _) ?_; intros) | (refine letB (g := gTup _ _ _) ?_; intros) | skip
    have fa2 : SqL K H2 fa xs := s2.seq (S3.sqL hx hfa)
    by_cases hlt : i < xs.length
    · refine .inr ⟨⟨xs, xs[i], fa2, by simp [hlt]⟩, fun z H3 y => ?_⟩
      obtain ⟨e, y⟩ := y
      subst e
      have ez := y xs fa2
      have hif : i < fs.length := by rw [← hfs.len]; exact hlt
      obtain ⟨⟨p, ls⟩, hpl⟩ : ∃ q, fs[i]? = some q := ⟨fs[i], by simp [hif]⟩
      obtain ⟨t, l, e1, e2, e3⟩ := hfs.item i p ls hpl
      rw [ez] at e1
      cases e1
      have t2 := same_sqT s2 (S3.sqT hx e2)
      have l2 := s2.seq (S3.sqL hx e3)
      refine ⟨t, _, rfl, t2, rfl, _, _, rfl, _, _, rfl, rfl, ?_⟩
      refine ⟨_, rfl, _, rfl, l, _, rfl, .inl l2, fun l' hl' => ⟨(by show 2 ≤ sizeLine; decide), fun t' ht' => ?_⟩⟩
      obtain ⟨n1, n2⟩ := free_upd ht'
      have dl : D ≠ l' := ne_of_none hys hl'
      have dt : D ≠ t' := ne_of_none hys n2
      refine ⟨ys, keep_upd (keep_upd hys dl) dt, small1000 (by rw [fn.len]; omega), xs.length - (i + 1), by omega, rfl, hlt, _, _, ys ++ [.ref t'], rfl, upd_same, ?_, ⟨by rw [List.length_append, fn.len]; rfl, fun j p' ls' hj hp' => ?_⟩⟩
      · exact same_upd' (same_upd' (same_upd' s2 (s2.free hl')) (s2.free n2)) hD
      · by_cases hji : j = i
        · subst hji
          rw [hpl] at hp'
          cases hp'
          refine ⟨t', l', by rw [List.getElem?_append_right (by rw [fn.len]; omega), fn.len]; simp, S3.free _ (s2.free n2), S3.free _ (s2.free hl'), dt.symm, dl.symm, keep_upd upd_same dt.symm, keep_upd (keep_upd upd_same n1.symm) dl.symm⟩
        · have hj' : j < i := by omega
          obtain ⟨t0, l0, g1, g2, g3, g4, g5, g6, g7⟩ := fn.item j p' ls' hj' hp'
          exact ⟨t0, l0, by rw [List.getElem?_append_left (by rw [fn.len]; exact hj')]; exact g1, g2, g3, g4, g5, keep_upd (keep_upd (keep_upd g6 (ne_of_none g6 hl')) (ne_of_none g6 n2)) g4, keep_upd (keep_upd (keep_upd g7 (ne_of_none g7 hl')) (ne_of_none g7 n2)) g5⟩
    · have ei : i = xs.length := by omega
      subst ei
      refine .inl ⟨⟨xs, fa2, Nat.le_refl _⟩, ?_⟩
      have S4 : Stage C dx x H H2 (putF "rank" rk (putF "make" mk (putF "name" nm []))) := ⟨fun b o e hb => s2 b o (S3.same b o e hb), fun b e => S3.free b (s2.free e), s2 _ _ S3.ob⟩
      have dx1 : D ≠ x := ne_of hys S4.ob (by intro z; cases z)
      have hD0 : H D = none := S3.free _ hD
      refine ⟨_, rfl, x, C, dx, _, rfl, S4.ob, T.cl, T.nF, few (lp (lp (lp len0))) (by decide), ?_⟩
      have S5 : Stage C dx x H _ (putF "files" (.ref D) (putF "rank" rk (putF "make" mk (putF "name" nm [])))) := S4.put
      refine ⟨_, rfl, na, _, rfl, .inl (S5.sqL hx hna), fun pn hpn => ?_⟩
      have S6 := S5.lay (o := .lst ns) hpn
      have xpn : pn ≠ x := (ne_of_none S5.ob hpn).symm
      refine ⟨_, rfl, x, C, dx, _, rfl, S6.ob, T.cl, T.nE, few (lp (lp (lp (lp len0)))) (by decide), ?_⟩
      have S7 : Stage C dx x H _ (putF "needs" (.ref pn) (putF "files" (.ref D) (putF "rank" rk (putF "make" mk (putF "name" nm []))))) := S6.put
      refine ⟨_, rfl, sa, _, rfl, .inl (S7.sqL hx hsa), fun ps hps => ?_⟩
      have S8 := S7.lay (o := .lst ss) hps
      have xps : ps ≠ x := (ne_of_none S7.ob hps).symm
      refine ⟨_, rfl, x, C, dx, _, rfl, S8.ob, T.cl, T.nS, few (lp (lp (lp (lp (lp len0))))) (by decide), ?_⟩
      have S9 : Stage C dx x H _ (putF "shuts" (.ref ps) (putF "needs" (.ref pn) (putF "files" (.ref D) (putF "rank" rk (putF "make" mk (putF "name" nm [])))))) := S8.put
      refine ⟨_, rfl, oa, _, rfl, .inl (S9.sqL hx hoa), fun po hpo => ?_⟩
      have S10 := S9.lay (o := .lst os) hpo
      have xpo : po ≠ x := (ne_of_none S9.ob hpo).symm
      refine ⟨_, rfl, x, C, dx, _, rfl, S10.ob, T.cl, T.nO, few (lp (lp (lp (lp (lp (lp len0)))))) (by decide), ?_⟩
      have S11 : Stage C dx x H _ (fl7 nm mk rk D pn ps po) := S10.put
      -- what stood ahead, at another place than x
      have k5 : ∀ b o, H2 b = some o → b ≠ x → (upd H2 x (.ins C dx (putF "files" (.ref D) (putF "rank" rk (putF "make" mk (putF "name" nm [])))))) b = some o := fun b o e hb => keep_upd e hb
      have kp := fun b o (e : H2 b = some o) (hb : b ≠ x) => keep_upd (p := x) (o' := .ins C dx (putF "needs" (.ref pn) (putF "files" (.ref D) (putF "rank" rk (putF "make" mk (putF "name" nm [])))))) (keep_upd (p := pn) (o' := .lst ns) (k5 b o e hb) (ne_of_none (k5 b o e hb) hpn)) hb
      have kq := fun b o (e : H2 b = some o) (hb : b ≠ x) => keep_upd (p := x) (o' := .ins C dx (putF "shuts" (.ref ps) (putF "needs" (.ref pn) (putF "files" (.ref D) (putF "rank" rk (putF "make" mk (putF "name" nm []))))))) (keep_upd (p := ps) (o' := .lst ss) (kp b o e hb) (ne_of_none (kp b o e hb) hps)) hb
      have kr := fun b o (e : H2 b = some o) (hb : b ≠ x) => keep_upd (p := x) (o' := .ins C dx (fl7 nm mk rk D pn ps po)) (keep_upd (p := po) (o' := .lst os) (kq b o e hb) (ne_of_none (kq b o e hb) hpo)) hb
      have pn1 : (upd (upd (upd H2 x (.ins C dx (putF "files" (.ref D) (putF "rank" rk (putF "make" mk (putF "name" nm [])))))) pn (.lst ns)) x (.ins C dx (putF "needs" (.ref pn) (putF "files" (.ref D) (putF "rank" rk (putF "make" mk (putF "name" nm []))))))) pn = some (.lst ns) := keep_upd upd_same xpn
      have pn2 := keep_upd (p := x) (o' := .ins C dx (putF "shuts" (.ref ps) (putF "needs" (.ref pn) (putF "files" (.ref D) (putF "rank" rk (putF "make" mk (putF "name" nm []))))))) (keep_upd (p := ps) (o' := .lst ss) pn1 (ne_of_none pn1 hps)) xpn
      have pn3 := keep_upd (p := x) (o' := .ins C dx (fl7 nm mk rk D pn ps po)) (keep_upd (p := po) (o' := .lst os) pn2 (ne_of_none pn2 hpo)) xpn
      have ps1 := keep_upd (p := x) (o' := .ins C dx (putF "shuts" (.ref ps) (putF "needs" (.ref pn) (putF "files" (.ref D) (putF "rank" rk (putF "make" mk (putF "name" nm []))))))) (upd_same (H := upd (upd (upd H2 x (.ins C dx (putF "files" (.ref D) (putF "rank" rk (putF "make" mk (putF "name" nm [])))))) pn (.lst ns)) x (.ins C dx (putF "needs" (.ref pn) (putF "files" (.ref D) (putF "rank" rk (putF "make" mk (putF "name" nm []))))))) (a := ps) (o := .lst ss)) xps
      have ps2 := keep_upd (p := x) (o' := .ins C dx (fl7 nm mk rk D pn ps po)) (keep_upd (p := po) (o' := .lst os) ps1 (ne_of_none ps1 hpo)) xps
      refine k (fl7 nm mk rk D pn ps po) D pn ps po ys _ (flds7 nm mk rk D pn ps po) S11.ob hD0 (S5.free _ hpn) (S7.free _ hps) (S9.free _ hpo) (kr D _ hys dx1) ?_ pn3 ps2 (keep_upd upd_same xpo) S11.same
      rw [hfs.len] at fn
      exact filesNew_keep fn fun b o e hb hn => kr b o e fun z => by rw [z, hx] at hn; cases hn

/-! ### parcels as they stand in the heap -/
end
structure Pcl where
  nm : Str
  ms : List Int
  fs : List (Str × List Str)
  os : List Str
  rk : Int
noncomputable def FileH (H : Hp) (v : V) (f : Str × List Str) : Prop := ∃ t l, v = .ref t ∧ H t = some (.tup [.str f.1, .ref l]) ∧ H l = some (.lst (f.2.map V.str))
noncomputable def PclAt (C : Addr) (H : Hp) (v : V) (p : Pcl) : Prop := ∃ a dx fl rk m pf pn ps po xs, v = .ref a ∧ H a = some (.ins C dx fl) ∧ Flds fl (.str p.nm) (.ref m) rk pf pn ps po ∧ H m = some (.tup (p.ms.map V.int)) ∧
  H pf = some (.lst xs) ∧ Paired (FileH H) xs p.fs ∧ H po = some (.lst (p.os.map V.str)) ∧ rk = .int p.rk
theorem FileH.same {H H' : Hp} {v : V} {f : Str × List Str} (s : Same H H') (h : FileH H v f) : FileH H' v f := by
  obtain ⟨t, l, e, a, b⟩ := h
  exact ⟨t, l, e, s _ _ a, s _ _ b⟩
theorem PclAt.same {C : Addr} {H H' : Hp} {v : V} {p : Pcl} (s : Same H H') (h : PclAt C H v p) : PclAt C H' v p := by
  obtain ⟨a, dx, fl, rk, m, pf, pn, ps, po, xs, e, h1, h2, h3, h4, h5, h6⟩ := h
  exact ⟨a, dx, fl, rk, m, pf, pn, ps, po, xs, e, s _ _ h1, h2, s _ _ h3, s _ _ h4, paired_mapP h5 (fun _ _ => FileH.same s), s _ _ h6.1, h6.2⟩
noncomputable abbrev PclsAt (C : Addr) (H : Hp) : List V → List Pcl → Prop := Paired (PclAt C H)
theorem PclsAt.same {C : Addr} {H H' : Hp} {vs : List V} {ps : List Pcl} (s : Same H H') (h : PclsAt C H vs ps) : PclsAt C H' vs ps := paired_mapP h fun _ _ => PclAt.same s
/-- the heap without some places -/
noncomputable def msk (L : List Addr) (H : Hp) : Hp := fun b => if b ∈ L then none else H b
theorem msk_same {L : List Addr} {H : Hp} : Same (msk L H) H := fun b o e => by
  unfold msk at e
  split at e
  · cases e
  · exact e
theorem msk_mono {L : List Addr} {H H' : Hp} (s : Same H H') : Same (msk L H) (msk L H') := fun b o e => by
  unfold msk at e ⊢
  split at e
  · cases e
  · rw [if_neg ‹_›]; exact s _ _ e
theorem msk_upd {L : List Addr} {H : Hp} {p : Addr} {o : HO} (h : p ∈ L) : msk L (upd H p o) = msk L H := by
  funext b
  unfold msk
  split
  · rfl
  · have hb : ¬ b ∈ L := ‹_›
    rw [upd_ne (fun z => hb (by rw [z]; exact h))]
theorem msk_at {L : List Addr} {H : Hp} {b : Addr} {o : HO} (n : b ∉ L) (h : H b = some o) : msk L H b = some o := by
  unfold msk
  rw [if_neg n]
  exact h
theorem msk_less {L L' : List Addr} {H : Hp} (h : ∀ b ∈ L', b ∈ L) : Same (msk L H) (msk L' H) := fun b o e => by
  unfold msk at e ⊢
  split at e
  · cases e
  · rw [if_neg (fun z => ‹¬ b ∈ L› (h b z))]; exact e
/-- places that stand, and are no tuples -/
noncomputable def Busy (H : Hp) (L : List Addr) : Prop := ∀ b ∈ L, ∃ o, H b = some o ∧ ∀ vs, o ≠ .tup vs
theorem Busy.free {H : Hp} {L : List Addr} (h : Busy H L) {b : Addr} (n : H b = none) : b ∉ L := fun z => by
  obtain ⟨o, e, _⟩ := h b z
  rw [n] at e
  cases e
theorem Busy.tup {H : Hp} {L : List Addr} (h : Busy H L) {b : Addr} {vs : List V} (n : H b = some (.tup vs)) : b ∉ L := fun z => by
  obtain ⟨o, e, q⟩ := h b z
  rw [n] at e
  cases e
  exact q _ rfl
theorem paired_get {α β : Type} {F : α → β → Prop} : ∀ {xs : List α} {ys : List β}, Paired F xs ys → ∀ {i : Nat} {y : β}, ys[i]? = some y → ∃ x, xs[i]? = some x ∧ F x y
  | _, _, .nil, i, y, h => by cases h
  | _, _, .cons r t, 0, y, h => by cases h; exact ⟨_, rfl, r⟩
  | _, _, .cons r t, i + 1, y, h => paired_get t (i := i) h
theorem paired_get' {α β : Type} {F : α → β → Prop} : ∀ {xs : List α} {ys : List β}, Paired F xs ys → ∀ {i : Nat} {x : α}, xs[i]? = some x → ∃ y, ys[i]? = some y ∧ F x y
  | _, _, .nil, i, y, h => by cases h
  | _, _, .cons r t, 0, y, h => by cases h; exact ⟨_, rfl, r⟩
  | _, _, .cons r t, i + 1, y, h => paired_get' t (i := i) h
theorem paired_len {α β : Type} {F : α → β → Prop} : ∀ {xs : List α} {ys : List β}, Paired F xs ys → xs.length = ys.length
  | _, _, .nil => rfl
  | _, _, .cons _ t => congrArg (· + 1) (paired_len t)
theorem paired_snoc {α β : Type} {F : α → β → Prop} {x : α} {y : β} (h : F x y) : ∀ {xs : List α} {ys : List β}, Paired F xs ys → Paired F (xs ++ [x]) (ys ++ [y])
  | _, _, .nil => .cons h .nil
  | _, _, .cons r t => .cons r (paired_snoc h t)
theorem paired_of {α β : Type} {F : α → β → Prop} : ∀ {xs : List α} {ys : List β}, xs.length = ys.length → (∀ (i : Nat) (y : β), ys[i]? = some y → ∃ x, xs[i]? = some x ∧ F x y) → Paired F xs ys
  | [], [], _, _ => .nil
  | [], _ :: _, h, _ => nomatch h
  | _ :: _, [], h, _ => nomatch h
  | x :: xs, y :: ys, h, k => by
    obtain ⟨x', e, r⟩ := k 0 y rfl
    cases e
    exact .cons r (paired_of (Nat.succ.inj h) fun i z hz => k (i + 1) z hz)
noncomputable def fsV (fs : List (Str × List Str)) : List (V × List V) := fs.map fun f => (.str f.1, f.2.map V.str)
section
variable {P : Program} {w : World} {K : PySem.W.Frag} {mg : Str → Option Value} {base : Heap}
theorem filesAt_of {H : Hp} {xs : List V} {fs : List (Str × List Str)} (h : Paired (FileH H) xs fs) : FilesAt K H xs (fsV fs) := by
  refine ⟨by rw [fsV, List.length_map]; exact paired_len h, fun i p ls e => ?_⟩
  rw [fsV, List.getElem?_map] at e
  cases hf : fs[i]? with
  | none => rw [hf] at e; cases e
  | some f =>
    rw [hf] at e
    cases e
    obtain ⟨x, hx, t, l, rfl, a, b⟩ := paired_get h hf
    exact ⟨t, l, hx, SqT.of a, SqL.of b⟩
/-- what the maker of a parcel asks, and what it tells -/
theorem make_pcl {C : Addr} {H : Hp} {Q : VK} {E : XK} {nm : Str} {m fa na sa oa : Addr} {mk : List Int} {rk : Int} {xs ns ss : List V} {os : List Str} {fs : List (Str × List Str)} (hm : H m = some (.tup (mk.map V.int))) (hf : H fa = some (.lst xs)) (hfs : Paired (FileH H) xs fs)
    (hn : H na = some (.lst ns)) (hs : H sa = some (.lst ss)) (ho : H oa = some (.lst (os.map V.str))) (h1000 : fs.length ≤ 1000) (q : ∀ x H', H x = none → Same H H' → (∀ L, Busy H L → PclAt C (msk L H') (.ref x) ⟨nm, mk, fs, os, rk⟩) → Q (.ref x) H') :
    ∀ x dx, H x = none → H dx = none → dx ≠ x → spPIn K C (.ref x :: ([.str nm, .ref m, .int rk, .ref fa, .ref na, .ref sa, .ref oa] ++ [])) (upd (upd H dx (.own x)) x (.ins C dx [])) (fun v H2 => v = .non ∧ Q (.ref x) H2) E := by
  intro x dx hx hdx nx
  have s1 : Same H (upd (upd H dx (.own x)) x (.ins C dx [])) := same_upd' (same_upd hdx) hx
  have fl_ : fsV fs = fsV fs := rfl
  have lfs : (fsV fs).length = fs.length := by rw [fsV, List.length_map]
  refine ⟨x, dx, fa, na, sa, oa, .str nm, .ref m, .int rk, xs, ns, ss, os.map V.str, fsV fs, rfl, upd_same, SqL.of (s1 _ _ hf), ?_, SqL.of (s1 _ _ hn), SqL.of (s1 _ _ hs), SqL.of (s1 _ _ ho), by rw [lfs]; exact h1000, ?_⟩
  · exact filesAt_of (paired_mapP hfs fun _ _ => FileH.same s1)
  intro fl pf pn ps po xs' H' hF hob n1 n2 n3 n4 hpf hfn hpn hps hpo keep
  have s2 : Same H H' := fun b o e => keep b o (s1 _ _ e) (ne_of_none e hx)
  have fr : ∀ b, (upd (upd H dx (.own x)) x (.ins C dx [])) b = none → H b = none := fun b z => s1.free z
  refine ⟨rfl, q x H' hx s2 fun L hL => ⟨x, dx, fl, .int rk, m, pf, pn, ps, po, xs', rfl, msk_at (hL.free hx) hob, hF, msk_at (hL.tup hm) (s2 _ _ hm), msk_at (hL.free (fr _ n1)) hpf, ?_, msk_at (hL.free (fr _ n4)) hpo, rfl⟩⟩
  refine paired_of (by rw [hfn.len, lfs]) fun i f hi => ?_
  obtain ⟨t, l, e1, e2, e3, e4, e5, e6, e7⟩ := hfn.item i (.str f.1) (f.2.map V.str) (by rw [lfs]; exact (List.getElem?_eq_some_iff.mp hi).1) (by rw [fsV, List.getElem?_map, hi]; rfl)
  exact ⟨_, e1, t, l, rfl, msk_at (hL.free (fr _ e2)) e6, msk_at (hL.free (fr _ e3)) e7⟩

/-! ### the shelf -/
structure TxtS (K : PySem.W.Frag) (mg : Str → Option Value) (S fP : Addr) : Prop where
  cl : Cls K S
  nS : NoAttr K S "shelved"
  mP : Meth K S "parcel" fP
  mgC : mg "Shelf" = some (.ref S)
noncomputable def keyOf (p : Pcl) : List NI := [.inl (.inr p.nm), .inr (p.ms.map Sum.inl)]
theorem nat_key {H : Hp} {b m : Addr} {nm : Str} {mk : List Int} (hb : H b = some (.tup [.str nm, .ref m])) (hm : H m = some (.tup (mk.map V.int))) : NAt H [.inl (.inr nm), .inr (mk.map Sum.inl)] b :=
  ⟨_, hb, .cons rfl (.cons ⟨m, rfl, by rw [hm, List.map_map]; rfl⟩ .nil)⟩
noncomputable def Shelved (kvs : List (List NI × V)) (vs : List V) (ps : List Pcl) (i : Nat) : Prop := kvs.length ≤ i ∧ ∀ (j : Nat) (p : Pcl) (v : V), j < i → ps[j]? = some p → vs[j]? = some v → valV kvs (keyOf p) = some v
noncomputable def ShelfAt (S : Addr) (H : Hp) (v : V) (vs : List V) (ps : List Pcl) : Prop := ∃ a dx fl d kvs, v = .ref a ∧ H a = some (.ins S dx fl) ∧ fl.lookup ("shelved" : Str) = some (.ref d) ∧ fl.lookup ("parcel" : Str) = none ∧ H d = some (.dT kvs) ∧ Shelved kvs vs ps ps.length
theorem ShelfAt.same {S : Addr} {H H' : Hp} {v : V} {vs : List V} {ps : List Pcl} (s : Same H H') (h : ShelfAt S H v vs ps) : ShelfAt S H' v vs ps := by
  obtain ⟨a, dx, fl, d, kvs, e, h1, h2, h3, h4, h5⟩ := h
  exact ⟨a, dx, fl, d, kvs, e, s _ _ h1, h2, h3, s _ _ h4, h5⟩
noncomputable def spSIn (K : PySem.W.Frag) (C S : Addr) : Sp := fun vs H Q _ => ∃ (x dx a : Addr) (xs : List V) (ps : List Pcl), vs = [.ref x, .ref a] ∧ H x = some (.ins S dx []) ∧ H a = some (.lst xs) ∧ PclsAt C H xs ps ∧ ps.length ≤ 100 ∧ (ps.map keyOf).Nodup ∧
  ∀ H', (∀ b o, H b = some o → b ≠ x → H' b = some o) → ShelfAt S H' (.ref x) xs ps → Q .non H'
theorem scSIn : FnScope ["self", "parcels", "parcel"] ["self", "parcels"] (defScope sSIn) := ⟨rfl, rfl, rfl, by decide +kernel, rfl, by decide +kernel, by decide +kernel⟩
theorem okSIn {f C S fP : Addr} {fd : FuncData} (F : Fun K "__init__" "Shelf.__init__" sSIn f fd) (T : Txt K mg C) (U : TxtS K mg S fP) : FnOk P w K mg base CX0 1 f fd ["self", "parcels"] (spSIn K C S) := by
  refine F.ok scSIn (fun vs H Q E h => ?_) (fun cdv A outer s H vs Q E hr h => ?_)
  · obtain ⟨x, dx, a, xs, ps, rfl, _⟩ := h
    rfl
  · refine letX ?_
    intro xX dX
    obtain ⟨x, dx, a, xs, ps, rfl, hx, ha, hps, h100, hnd, q⟩ := h
    have hu := hr.units
    refine ⟨_, (pss_cons (ps_fld (pv 0) pe_dnewTN rfl)
        (pss_one (ps_for PassesOwn.never rfl (pi_list (pv 1)) (pg_name (i := 2) scSIn.nd rfl (Or.inl rfl))
        (pss_one (ps_dput hu (pe_fld (pv 0) rfl) (pe_tupN (pa_cons (pe_fld (pv 2) rfl) (pa_cons (pe_fld (pv 2) rfl) pa_nil))) (pv 2) rfl))))), ?_⟩
    refine lets2 ?_
    intro dD sS uU2
    refine fun d H1 n1 s1 e1 => ?_
    refine ⟨_, rfl, x, S, dx, _, rfl, s1 _ _ hx, U.cl, U.nS, (by decide), ?_⟩
    have dx1 : d ≠ x := (ne_of_none hx n1).symm
    have ax : a ≠ x := ne_of ha hx (by intro z; cases z)
    have nl := paired_len hps
    refine ⟨_, rfl, a, rfl, ⟨_, SqL.of (by rw [upd_ne ax]; exact s1 _ _ ha)⟩, ?_⟩
    refine for_list (xs := xs) (fun i σ H2 => ∃ u kvs, σ = [some (.ref x), some (.ref a), u] ∧ (∀ b o, H b = some o → b ≠ x → H2 b = some o) ∧ H2 x = some (.ins S dx (putF "shelved" (.ref d) [])) ∧ H2 d = some (.dT kvs) ∧ Shelved kvs xs ps i)
      ⟨none, [], rfl, fun b o e hb => by rw [upd_ne hb]; exact s1 _ _ e, upd_same, by rw [upd_ne dx1]; exact e1, Nat.le_refl _, fun j p v hj => absurd hj (Nat.not_lt_zero _)⟩ ?_ ?_ ?_
    · intro i σ H2 hi hQ2
      refine letG ?_
      intro tT
      obtain ⟨u, kvs, rfl, k2, _⟩ := hQ2
      exact SqL.of (k2 _ _ ha ax)
    · intro i v σ H2 hv hQ3
      refine letG ?_
      intro tT
      obtain ⟨u, kvs, rfl, k2, hx2, hd2, hk⟩ := hQ3
      first | (refine lets12 ?_; intros) | (refine lets11 ?_; intros) | (refine lets10 ?_; intros) | (refine lets9 ?_; intros) | (refine lets8 ?_; intros) | (refine lets7 ?_; intros) | (refine lets6 ?_; intros) | (refine lets5 ?_; intros) | (refine lets4 ?_; intros) | (refine lets3 ?_; intros) | (refine lets2 ?_; intros) | (refine letB (g := gName _) ?_; intros) | (refine letB (g := gTup _ _ _) ?_; intros) | skip
      obtain ⟨p, hp, b, dy, fl, rk, m, pf, pn, pss, po, ys, rfl, h1, h2, h3, h4, h5, h6⟩ := paired_get' hps hv
      have bx : b ≠ x := ne_of h1 hx (by intro z; injection z with _ _ z; subst z; have := h2.name; cases this)
      have b2 := k2 _ _ h1 bx
      have m2 := k2 _ _ h3 (ne_of h3 hx (by intro z; cases z))
      have hlk : (putF ("shelved" : Str) (V.ref d) []).lookup ("shelved" : Str) = some (.ref d) := by rw [lookup_putF, if_pos rfl]
      refine ⟨_, rfl, _, rfl, x, S, dx, _, _, rfl, hx2, U.cl, U.nS, hlk, _, rfl, b, C, dy, _, _, rfl, b2, T.cl, T.nN, h2.name, _, rfl, b, C, dy, _, _, rfl, b2, T.cl, T.nM, h2.make, (by show 2 ≤ sizeLine; decide), fun t H3 n3 s3 e3 => ?_⟩
      have hlt := (List.getElem?_eq_some_iff.mp hv).1
      refine ⟨d, _, rfl, DPut.t (s3 _ _ hd2) (nat_key e3 (s3 _ _ m2)) (small1000 (by have := hk.1; omega)), ?_⟩
      refine ⟨_, _, rfl, fun c o e hc => ?_, ?_, upd_same, ?_, fun j p' v' hj hp' hv' => ?_⟩
      · rw [upd_ne (fun z => by rw [z, n1] at e; cases e)]
        exact s3 _ _ (k2 _ _ e hc)
      · rw [upd_ne dx1.symm]
        exact s3 _ _ hx2
      · exact Nat.le_trans (length_putK _ _ _) (Nat.succ_le_succ hk.1)
      · rw [valV_put]
        by_cases hji : j = i
        · subst hji
          rw [hp] at hp'
          rw [hv] at hv'
          cases hp'
          cases hv'
          exact if_pos rfl
        · have hj' : j < i := by omega
          rw [if_neg]
          · exact hk.2 j p' v' hj' hp' hv'
          · intro z
            have z : keyOf p' = keyOf p := z
            refine hji ((List.getElem?_inj (l := ps.map keyOf) (i := j) (j := i) ?_ hnd).mp ?_)
            · rw [List.length_map]; have := (List.getElem?_eq_some_iff.mp hp').1; omega
            · rw [List.getElem?_map, List.getElem?_map, hp, hp', Option.map_some, Option.map_some, z]
    · intro σ H2 hQ4
      refine letG ?_
      intro tT
      obtain ⟨u, kvs, rfl, k2, hx2, hd2, hk⟩ := hQ4
      first | (refine lets12 ?_; intros) | (refine lets11 ?_; intros) | (refine lets10 ?_; intros) | (refine lets9 ?_; intros) | (refine lets8 ?_; intros) | (refine lets7 ?_; intros) | (refine lets6 ?_; intros) | (refine lets5 ?_; intros) | (refine lets4 ?_; intros) | (refine lets3 ?_; intros) | (refine lets2 ?_; intros) | (refine letB (g := gName _) ?_; intros) | (refine letB (g := gTup _ _ _) ?_; intros) | skip
      rw [nl] at hk
      exact q H2 k2 ⟨x, dx, _, d, kvs, rfl, hx2, by rw [lookup_putF, if_pos rfl], by rw [lookup_putF, if_neg (by decide +kernel)]; rfl, hd2, hk⟩
noncomputable def spSPa (K : PySem.W.Frag) (S : Addr) : Sp := fun vs H Q _ => ∃ (sv v : V) (m : Addr) (xs : List V) (ps : List Pcl) (j : Nat) (p : Pcl), vs = [sv, .str p.nm, .ref m] ∧ ShelfAt S H sv xs ps ∧ ps[j]? = some p ∧ xs[j]? = some v ∧ H m = some (.tup (p.ms.map V.int)) ∧ ∀ H', Same H H' → Q v H'
theorem scSPa : FnScope ["self", "name", "make"] ["self", "name", "make"] (defScope sSPa) := ⟨rfl, rfl, rfl, by decide +kernel, rfl, by decide +kernel, by decide +kernel⟩
theorem okSPa {f S fP : Addr} {fd : FuncData} (F : Fun K "parcel" "Shelf.parcel" sSPa f fd) (U : TxtS K mg S fP) : FnOk P w K mg base CX0 1 f fd ["self", "name", "make"] (spSPa K S) := by
  refine F.ok scSPa (fun vs H Q E h => ?_) (fun cdv A outer s H vs Q E hr h => ?_)
  · obtain ⟨sv, v, m, xs, ps, j, p, rfl, _⟩ := h
    rfl
  · refine letX ?_
    intro xX dX
    obtain ⟨sv, v, m, xs, ps, j, p, rfl, ⟨a, dx, fl, d, kvs, rfl, h1, h2, h3, h4, h5⟩, hp, hv, hm, q⟩ := h
    have hu := hr.units
    have hval := h5.2 j p v (List.getElem?_eq_some_iff.mp hp).1 hp hv
    refine ⟨_, (pss_cons (ps_if (pt_cmp (pc_dnotin hu (pe_tupN (pa_cons (pv 1) (pa_cons (pv 2) pa_nil))) (pe_fld (pv 0) rfl)) (by rfl))
        (pss_one ps_never) pss_nil)
        (pss_one (ps_ret (pe_dget hu (pe_fld (pv 0) rfl) (pe_tupN (pa_cons (pv 1) (pa_cons (pv 2) pa_nil))) (fun _ _ => rfl))))), ?_⟩
    refine lets2 ?_
    intro dD sS uU2
    refine ⟨_, rfl, _, rfl, (by show 2 ≤ sizeLine; decide), fun t H1 n1 s1 e1 => ?_⟩
    have g1 : DGet H1 d (.ref t) (valV kvs (keyOf p)) := DGet.t (s1 _ _ h4) (nat_key e1 (s1 _ _ hm))
    refine ⟨_, rfl, a, S, dx, _, _, rfl, s1 _ _ h1, U.cl, U.nS, h2, d, _, rfl, g1, _, rfl, ?_⟩
    rw [hval]
    refine ite2 (fun h => absurd h (by show ¬ ((!true) = true); decide)) (fun h => ?_)
    refine ⟨_, rfl, a, S, dx, _, _, rfl, s1 _ _ h1, U.cl, U.nS, h2, _, rfl, _, rfl, (by show 2 ≤ sizeLine; decide), fun t2 H2 n2 s2 e2 => ?_⟩
    have s12 := s1.trans s2
    have g2 : DGet H2 d (.ref t2) (valV kvs (keyOf p)) := DGet.t (s12 _ _ h4) (nat_key e2 (s12 _ _ hm))
    rw [hval] at g2
    exact ⟨d, v, rfl, g2, q H2 s12⟩
end
end K33

set_option Elab.async false
set_option linter.all false
set_option maxRecDepth 100000
set_option maxHeartbeats 4000000
namespace K33
open PySem L2 PySem.Spec PyProof.Rows
theorem rising_pw : ∀ (p : Str) (l : List Str), risingS p l = true → (p :: l).Pairwise (fun a b => a.cps.toList ≤ b.cps.toList)
  | p, [], _ => List.pairwise_singleton _ _
  | p, x :: r, h => by
    have h : (!ltCps x.cps.toList p.cps.toList && risingS x r) = true := h
    obtain ⟨h1, h2⟩ := Bool.and_eq_true_iff.mp h
    have ih := rising_pw x r h2
    have le : p.cps.toList ≤ x.cps.toList := by
      rw [PyProof.Rows.ltCps_eq] at h1
      intro z
      rw [decide_eq_true z] at h1
      cases h1
    refine List.pairwise_cons.mpr ⟨fun y hy => ?_, ih⟩
    rcases List.mem_cons.mp hy with e | hy
    · rw [e]; exact le
    · exact List.le_trans le (List.rel_of_pairwise_cons ih hy)
theorem sorted_pw : ∀ {l : List Str}, sortedS l = true → l.Pairwise (fun a b => a.cps.toList ≤ b.cps.toList)
  | [], _ => .nil
  | x :: r, h => rising_pw x r h
theorem sorted_eq {a b : List Str} (p : a.Perm b) (h1 : sortedS a = true) (h2 : sortedS b = true) : a = b := by
  refine List.Perm.eq_of_pairwise (fun x y _ _ h h' => ?_) (sorted_pw h1) (sorted_pw h2) p
  have e := List.le_antisymm h h'
  obtain ⟨⟨x⟩⟩ := x
  obtain ⟨⟨y⟩⟩ := y
  have e : x = y := e
  rw [e]

/-! ### a table of files, pure -/
noncomputable abbrev Tr := List (Str × List Str)
section
variable {β : Type}
noncomputable def putP (tr : List (Str × β)) (x : Str) (ls : β) : List (Str × β) := if (tr.any fun f => decide (f.1 = x)) = true then tr.map (fun f => if f.1 = x then (f.1, ls) else f) else tr ++ [(x, ls)]
theorem putP_mem {tr : List (Str × β)} {x : Str} {ls : β} {f : Str × β} (h : f ∈ putP tr x ls) : f = (x, ls) ∨ f ∈ tr := by
  unfold putP at h
  split at h
  · obtain ⟨g, hg, e⟩ := List.mem_map.mp h
    split at e
    · rename_i hx
      left; rw [← e, hx]
    · right; rw [← e]; exact hg
  · rcases List.mem_append.mp h with h | h
    · exact .inr h
    · exact .inl (List.mem_singleton.mp h)
theorem putP_keys (tr : List (Str × β)) (x : Str) (ls : β) : (putP tr x ls).map (·.1) = if (tr.any fun f => decide (f.1 = x)) = true then tr.map (·.1) else tr.map (·.1) ++ [x] := by
  unfold putP
  split
  · rw [List.map_map]
    refine List.map_congr_left fun f _ => ?_
    show (if f.1 = x then (f.1, ls) else f).1 = f.1
    split <;> rfl
  · rw [List.map_append]; rfl
theorem any_key {tr : List (Str × β)} {x : Str} : (tr.any fun f => decide (f.1 = x)) = true ↔ x ∈ tr.map (·.1) := by
  rw [List.any_eq_true, List.mem_map]
  constructor
  · rintro ⟨f, hf, e⟩
    exact ⟨f, hf, of_decide_eq_true e⟩
  · rintro ⟨f, hf, e⟩
    exact ⟨f, hf, decide_eq_true e⟩
theorem putP_nodup {tr : List (Str × β)} {x : Str} {ls : β} (h : (tr.map (·.1)).Nodup) : ((putP tr x ls).map (·.1)).Nodup := by
  rw [putP_keys]
  split
  · exact h
  · rename_i hx
    rw [List.nodup_append]
    refine ⟨h, by simp, fun a ha b hb => ?_⟩
    rw [List.mem_singleton.mp hb]
    intro e
    exact hx (any_key.mpr (e ▸ ha))
theorem putP_key {tr : List (Str × β)} {x y : Str} {ls : β} (h : y = x ∨ y ∈ tr.map (·.1)) : y ∈ (putP tr x ls).map (·.1) := by
  rw [putP_keys]
  split
  · rename_i hx
    rcases h with h | h
    · rw [h]; exact any_key.mp hx
    · exact h
  · rcases h with h | h
    · rw [h]; exact List.mem_append_right _ (List.mem_singleton.mpr rfl)
    · exact List.mem_append_left _ h
theorem putP_len (tr : List (Str × β)) (x : Str) (ls : β) : (putP tr x ls).length ≤ tr.length + 1 := by
  unfold putP
  split
  · rw [List.length_map]; omega
  · rw [List.length_append, List.length_singleton]; omega
/-- a dict's entries beside a table -/
theorem paired_put {F : Key × V → Str × β → Prop} (hk : ∀ kv f, F kv f → kv.1 = Sum.inr f.1) {x : Str} {ls : β} {v : V} (hv : F (.inr x, v) (x, ls)) {kvs : List (Key × V)} {tr : List (Str × β)} (h : Paired F kvs tr) : Paired F (putK kvs (.inr x) v) (putP tr x ls) := by
  have e : (kvs.any fun kv => decide (kv.1 = Sum.inr x)) = (tr.any fun f => decide (f.1 = x)) := by
    induction h with
    | nil => rfl
    | cons r t ih =>
      rw [List.any_cons, List.any_cons, ih, hk _ _ r]
      congr 1
      exact decide_eq_decide.mpr ⟨fun z => Sum.inr.inj z, fun z => by rw [z]⟩
  unfold putK putP
  rw [e]
  split
  · clear e
    rename_i hh
    clear hh
    induction h with
    | nil => exact .nil
    | @cons kv f kvs tr r t ih =>
      refine .cons ?_ ih
      have hr := hk _ _ r
      dsimp only
      by_cases hx : f.1 = x
      · have hkx : kv.1 = Sum.inr x := by rw [hr, hx]
        rw [if_pos hkx, if_pos hx, hkx, hx]
        exact hv
      · rw [if_neg (fun z => hx (Sum.inr.inj (hr.symm.trans z))), if_neg hx]
        exact r
  · exact paired_snoc hv h
end
theorem keysS_of {β : Type} {F : Key × V → Str × β → Prop} (hk : ∀ kv f, F kv f → kv.1 = Sum.inr f.1) {kvs : List (Key × V)} {tr : List (Str × β)} (h : Paired F kvs tr) : KeysS kvs (tr.map (·.1)) := by
  unfold KeysS
  induction h with
  | nil => rfl
  | cons r t ih => rw [List.map_cons, List.map_cons, List.map_cons, ih, hk _ _ r]
/-- what is found at a key -/
theorem paired_val {β : Type} {F : Key × V → Str × β → Prop} (hk : ∀ kv f, F kv f → kv.1 = Sum.inr f.1) {kvs : List (Key × V)} {tr : List (Str × β)} (h : Paired F kvs tr) {x : Str} (hx : x ∈ tr.map (·.1)) : ∃ v ls, valV kvs (.inr x) = some v ∧ (x, ls) ∈ tr ∧ F (.inr x, v) (x, ls) := by
  induction h with
  | nil => cases hx
  | @cons kv f kvs tr r t ih =>
    have hr := hk _ _ r
    by_cases e : f.1 = x
    · refine ⟨kv.2, f.2, by rw [valV_pos (hr.trans (by rw [e]))], ?_, ?_⟩
      · rw [← e]; exact List.mem_cons_self
      · rw [← e, ← hr]; exact r
    · rcases List.mem_cons.mp hx with z | z
      · exact absurd z.symm e
      · obtain ⟨v, ls, a, b, c⟩ := ih z
        exact ⟨v, ls, by rw [valV_neg (fun q => e (Sum.inr.inj (hr.symm.trans q)))]; exact a, List.mem_cons_of_mem _ b, c⟩
theorem paired_none {β : Type} {F : Key × V → Str × β → Prop} (hk : ∀ kv f, F kv f → kv.1 = Sum.inr f.1) {kvs : List (Key × V)} {tr : List (Str × β)} (h : Paired F kvs tr) {x : Str} (hx : x ∉ tr.map (·.1)) : valV kvs (.inr x) = none := by
  induction h with
  | nil => rfl
  | @cons kv f kvs tr r t ih =>
    have hr := hk _ _ r
    rw [List.map_cons, List.mem_cons, not_or] at hx
    rw [valV_neg (fun q => hx.1 (Sum.inr.inj (hr.symm.trans q)).symm)]
    exact ih hx.2
theorem nodup_fun {β : Type} {tr : List (Str × β)} (h : (tr.map (·.1)).Nodup) {x : Str} {a b : β} (ha : (x, a) ∈ tr) (hb : (x, b) ∈ tr) : a = b := by
  induction tr with
  | nil => cases ha
  | cons f tr ih =>
    rw [List.map_cons, List.nodup_cons] at h
    rcases List.mem_cons.mp ha with ea | ha
    · rcases List.mem_cons.mp hb with eb | hb
      · rw [← ea] at eb; exact (Prod.mk.inj eb).2.symm
      · exact absurd (List.mem_map_of_mem (f := (·.1)) hb) (by rw [← ea] at h; exact h.1)
    · rcases List.mem_cons.mp hb with eb | hb
      · exact absurd (List.mem_map_of_mem (f := (·.1)) ha) (by rw [← eb] at h; exact h.1)
      · exact ih h.2 ha hb
structure Gath (done tr : Tr) : Prop where
  nd : (tr.map (·.1)).Nodup
  sub : ∀ f ∈ tr, f ∈ done
  key : ∀ f ∈ done, f.1 ∈ tr.map (·.1)
  len : tr.length ≤ done.length
theorem gath0 : Gath [] [] := ⟨List.nodup_nil, fun _ h => h, (fun _ h => nomatch h), Nat.le_refl _⟩
theorem Gath.step {done tr : Tr} (g : Gath done tr) (x : Str) (ls : List Str) : Gath (done ++ [(x, ls)]) (putP tr x ls) := by
  refine ⟨putP_nodup g.nd, fun f hf => ?_, fun f hf => ?_, ?_⟩
  · rcases putP_mem hf with e | hf
    · rw [e]; exact List.mem_append_right _ (List.mem_singleton.mpr rfl)
    · exact List.mem_append_left _ (g.sub f hf)
  · rcases List.mem_append.mp hf with hf | hf
    · exact putP_key (.inr (g.key f hf))
    · rw [List.mem_singleton.mp hf]; exact putP_key (.inl rfl)
  · have := putP_len tr x ls
    have := g.len
    rw [List.length_append, List.length_singleton]
    omega
end K33

set_option Elab.async false
set_option linter.all false
set_option maxRecDepth 100000
set_option maxHeartbeats 4000000
namespace K33
open PySem L2 PySem.Spec
theorem upd_back {H : Hp} {d : Addr} {o o' : HO} (e : H d = some o') : upd (upd H d o) d o' = H := by
  funext b
  by_cases h : b = d
  · subst h; rw [upd_same, e]
  · rw [upd_ne h, upd_ne h]
/-- a loop over no items -/
theorem for_items0 {g : TG} {tb : TS} {D : Ends} {σ : St} {H1 : Hp} {d : Addr} (e : H1 d = some (.dK [])) (h : D.nx σ H1) : ∀ ob, ∃ W : Nat → Nat → St → Hp → Prop, (∃ m, W 0 m σ (upd H1 d (.frz ob (.dK [])))) ∧ ∀ i m σ H, W i m σ H →
  H d = some (.frz ob (.dK [])) ∧ ((([] : List (Key × V)).length ≤ i ∧ D.nx σ (upd H d (.dK []))) ∨ (i < ([] : List (Key × V)).length ∧ ∃ N : St → Hp → Prop, (∀ σ' H', N σ' H' → ∃ m', m' < m ∧ W (i + 1) m' σ' H') ∧
    ∀ k v p, ([] : List (Key × V))[i]? = some (k, v) → H p = none → g (.ref p) σ (upd H p (.tup [kV k, v])) fun σ2 H2 =>
      tb { nx := N, ct := N, bk := fun σ' H' => H' d = some (.frz ob (.dK [])) ∧ D.nx σ' (upd H' d (.dK [])), rt := fun v' H' => H' d = some (.frz ob (.dK [])) ∧ D.rt v' (upd H' d (.dK [])) } σ2 H2)) := by
  intro ob
  refine ⟨fun i m σ' H' => σ' = σ ∧ H' = upd H1 d (.frz ob (.dK [])), ⟨0, rfl, rfl⟩, ?_⟩
  rintro i m σ' H' ⟨rfl, rfl⟩
  exact ⟨upd_same, .inl ⟨Nat.zero_le _, by rw [upd_back e]; exact h⟩⟩

/-! ### what is chosen; the stand -/
noncomputable abbrev Ch := List (Str × List Int)
noncomputable def ChV (H : Hp) (kv : Key × V) (e : Str × List Int) : Prop := kv.1 = .inr e.1 ∧ ∃ m, kv.2 = .ref m ∧ H m = some (.tup (e.2.map V.int))
theorem ChV.same {H H' : Hp} (s : Same H H') {kv : Key × V} {e : Str × List Int} (h : ChV H kv e) : ChV H' kv e := h.elim fun a zq486 => zq486.elim fun m zq487 => zq487.elim fun b c => ⟨a, m, b, s _ _ c⟩
noncomputable def ChoAt (H : Hp) (c : Addr) (ch : Ch) : Prop := ∃ kvs, H c = some (.dK kvs) ∧ Paired (ChV H) kvs ch
theorem ChoAt.same {H H' : Hp} (s : Same H H') {c : Addr} {ch : Ch} (h : ChoAt H c ch) : ChoAt H' c ch := h.elim fun kvs zq488 => zq488.elim fun a b => ⟨kvs, s _ _ a, paired_mapP b fun _ _ => ChV.same s⟩
structure TxtT (K : PySem.W.Frag) (mg : Str → Option Value) (T : Addr) : Prop where
  cl : Cls K T
  nC : NoAttr K T "chosen"
  nH : NoAttr K T "choices"
  nO : NoAttr K T "own"
  mgC : mg "Stand" = some (.ref T)
noncomputable def StandAt (T : Addr) (H : Hp) (v : V) (ch : Ch) (hk : List (Key × V)) : Prop := ∃ a dx fl c h o, v = .ref a ∧ H a = some (.ins T dx fl) ∧ fl.lookup ("chosen" : Str) = some (.ref c) ∧ fl.lookup ("choices" : Str) = some (.ref h) ∧ fl.lookup ("own" : Str) = some (.ref o) ∧
  ChoAt H c ch ∧ H h = some (.dK hk) ∧ H o = some (.dK [])
theorem StandAt.same {T : Addr} {H H' : Hp} {v : V} {ch : Ch} {hk : List (Key × V)} (s : Same H H') (x : StandAt T H v ch hk) : StandAt T H' v ch hk := by
  obtain ⟨a, dx, fl, c, h, o, e, h1, h2, h3, h4, h5, h6, h7⟩ := x
  exact ⟨a, dx, fl, c, h, o, e, s _ _ h1, h2, h3, h4, h5.same s, s _ _ h6, s _ _ h7⟩
section
variable {P : Program} {w : World} {K : PySem.W.Frag} {mg : Str → Option Value} {base : Heap}
noncomputable def spCCo : Sp := fun vs H Q _ => ∃ o : Addr, vs = [.ref o] ∧ H o = some (.dK []) ∧ New H (.dK []) Q
theorem scCCo : FnScope ["own", "copied", "path", "change"] ["own"] (defScope sCCo) := ⟨rfl, rfl, rfl, by decide +kernel, rfl, by decide +kernel, by decide +kernel⟩
theorem okCCo {f : Addr} {fd : FuncData} (F : Fun K "changes_copied" "changes_copied" sCCo f fd) : FnOk P w K mg base CX0 1 f fd ["own"] spCCo := by
  refine F.ok scCCo (fun vs H Q E h => ?_) (fun cdv A outer s H vs Q E hr h => ?_)
  · obtain ⟨o, rfl, _⟩ := h
    rfl
  · refine letX ?_
    intro xX dX
    obtain ⟨o, rfl, ho, q⟩ := h
    refine ⟨_, (pss_cons (ps_set (i := 1) scCCo.nd rfl (Or.inl rfl) pe_dnewN)
        (pss_cons (ps_forItems PassesOwn.never rfl (pv 0) (pg_tup rfl (pgs_cons (pg_name (i := 2) scCCo.nd rfl (Or.inl rfl)) (pgs_cons (pg_name (i := 3) scCCo.nd rfl (Or.inl rfl)) pgs_nil)))
        pss_never)
        (pss_one (ps_ret (pv 1))))), ?_⟩
    refine lets3 ?_
    intro dD sS uU3 uU2
    refine fun d H1 n1 s1 e1 => ?_
    refine ⟨_, rfl, o, [], rfl, s1 _ _ ho, for_items0 (s1 _ _ ho) ?_⟩
    exact ⟨_, rfl, q d H1 n1 s1 e1⟩
theorem Stage.over {C dx x : Addr} {H Hk Hj : Hp} {fl : List (Str × V)} (S : Stage C dx x H Hk fl) (s : Same Hk Hj) : Stage C dx x H Hj fl := ⟨fun b o e hb => s _ _ (S.same b o e hb), fun b e => S.free b (s.free e), s _ _ S.ob⟩
noncomputable def spTIn (T : Addr) : Sp := fun vs H Q _ => ∃ (x dx c h o : Addr) (kvs hk : List (Key × V)), vs = [.ref x, .ref c, .ref h, .ref o] ∧ H x = some (.ins T dx []) ∧ H c = some (.dK kvs) ∧ H h = some (.dK hk) ∧ H o = some (.dK []) ∧
  ∀ (H' : Hp) (fl : List (Str × V)) (c' h' o' : Addr), (∀ b o, H b = some o → b ≠ x → H' b = some o) → H' x = some (.ins T dx fl) → fl.lookup ("chosen" : Str) = some (.ref c') → fl.lookup ("choices" : Str) = some (.ref h') → fl.lookup ("own" : Str) = some (.ref o') →
    H c' = none → H h' = none → H o' = none → H' c' = some (.dK kvs) → H' h' = some (.dK hk) → H' o' = some (.dK []) → Q .non H'
theorem scTIn : FnScope ["self", "chosen", "choices", "own"] ["self", "chosen", "choices", "own"] (defScope sTIn) := ⟨rfl, rfl, rfl, by decide +kernel, rfl, by decide +kernel, by decide +kernel⟩
theorem okTIn {f T fCCo : Addr} {fd fdCCo : FuncData} (F : Fun K "__init__" "Stand.__init__" sTIn f fd) (U : TxtT K mg T) (B : Blt mg) (FCCo : Fun K "changes_copied" "changes_copied" sCCo fCCo fdCCo) (mCCo : mg "changes_copied" = some (.ref fCCo)) :
    FnOk P w K mg base CX0 2 f fd ["self", "chosen", "choices", "own"] (spTIn T) := by
  have GCCo : FnOk P w K mg base CX0 1 fCCo fdCCo ["own"] spCCo := okCCo FCCo
  have bCCo := FCCo.binds1 (l := ["own"]) (fun _ _ _ _ _ _ _ => rfl)
  refine F.ok scTIn (fun vs H Q E h => ?_) (fun cdv A outer s H vs Q E hr h => ?_)
  · obtain ⟨x, dx, c, h, o, kvs, hk, rfl, _⟩ := h
    rfl
  · refine letX ?_
    intro xX dX
    obtain ⟨x, dx, c, h, o, kvs, hk, rfl, hx, hc, hh, ho, q⟩ := h
    refine ⟨_, (pss_cons (ps_fld (pv 0) (pe_callTy call_dictN (by rfl) B.dict PyProof.Rows.boot_dict (pa_cons (pv 1) pa_nil)) rfl)
        (pss_cons (ps_fld (pv 0) (pe_callTy call_dictN (by rfl) B.dict PyProof.Rows.boot_dict (pa_cons (pv 2) pa_nil)) rfl)
        (pss_one (ps_fld (pv 0) (pe_call GCCo hr rfl mCCo FCCo.kp bCCo .nil pass0 (pa_cons (pv 3) pa_nil)) rfl)))), ?_⟩
    refine lets3 ?_
    intro dD sS uU3 uU2
    have S0 : Stage T dx x H H [] := ⟨fun _ _ e _ => e, fun _ e => e, hx⟩
    have ch : ∀ {b : Addr} {ks : List (Key × V)}, H b = some (.dK ks) → b ≠ x := fun e => ne_of e hx (by intro z; cases z)
    refine ⟨_, rfl, c, _, rfl, hc, fun c1 H1 n1 s1 e1 => ?_⟩
    have S1 := S0.over s1
    refine ⟨_, rfl, x, T, dx, _, rfl, S1.ob, U.cl, U.nC, (by decide), ?_⟩
    have S2 : Stage T dx x H _ (putF "chosen" (.ref c1) []) := S1.put
    have c1x : c1 ≠ x := (ne_of_none hx n1).symm
    have c2 : (upd H1 x (.ins T dx (putF "chosen" (.ref c1) []))) c1 = some (.dK kvs) := keep_upd e1 c1x
    refine ⟨_, rfl, h, _, rfl, S2.same _ _ hh (ch hh), fun h1 H3 n3 s3 e3 => ?_⟩
    have S3 := S2.over s3
    have hn3 := S2.free _ n3
    refine ⟨_, rfl, x, T, dx, _, rfl, S3.ob, U.cl, U.nH, few (lp len0) (by decide), ?_⟩
    have S4 : Stage T dx x H _ (putF "choices" (.ref h1) (putF "chosen" (.ref c1) [])) := S3.put
    have h1x : h1 ≠ x := (ne_of_none hx hn3).symm
    refine ⟨_, rfl, o, rfl, S4.same _ _ ho (ch ho), fun o1 H5 n5 s5 e5 => ?_⟩
    have S5 := S4.over s5
    have hn5 := S4.free _ n5
    refine ⟨_, rfl, x, T, dx, _, rfl, S5.ob, U.cl, U.nO, few (lp (lp len0)) (by decide), ?_⟩
    have o1x : o1 ≠ x := (ne_of_none hx hn5).symm
    have S6 : Stage T dx x H _ (putF "own" (.ref o1) (putF "choices" (.ref h1) (putF "chosen" (.ref c1) []))) := S5.put
    refine q _ _ c1 h1 o1 S6.same S6.ob ?_ ?_ ?_ n1 hn3 hn5 (keep_upd (s5 _ _ (keep_upd (s3 _ _ c2) c1x)) c1x) (keep_upd (s5 _ _ (keep_upd e3 h1x)) h1x) (keep_upd e5 o1x)
    · rw [lookup_putF, if_neg (by decide +kernel), lookup_putF, if_neg (by decide +kernel), lookup_putF, if_pos rfl]
    · rw [lookup_putF, if_neg (by decide +kernel), lookup_putF, if_pos rfl]
    · rw [lookup_putF, if_pos rfl]
theorem make_stand {T : Addr} {H : Hp} {Q : VK} {E : XK} {c h o : Addr} {ch : Ch} {hk : List (Key × V)} (hc : ChoAt H c ch) (hh : H h = some (.dK hk)) (ho : H o = some (.dK [])) (q : ∀ x H', H x = none → Same H H' → (∀ L, Busy H L → StandAt T (msk L H') (.ref x) ch hk) → Q (.ref x) H') :
    ∀ x dx, H x = none → H dx = none → dx ≠ x → spTIn T (.ref x :: ([.ref c, .ref h, .ref o] ++ [])) (upd (upd H dx (.own x)) x (.ins T dx [])) (fun v H2 => v = .non ∧ Q (.ref x) H2) E := by
  intro x dx hx hdx nx
  have s1 : Same H (upd (upd H dx (.own x)) x (.ins T dx [])) := same_upd' (same_upd hdx) hx
  obtain ⟨kvs, e1, e2⟩ := hc
  refine ⟨x, dx, c, h, o, kvs, hk, rfl, upd_same, s1 _ _ e1, s1 _ _ hh, s1 _ _ ho, fun H' fl c' h' o' keep hob l1 l2 l3 n1 n2 n3 g1 g2 g3 => ?_⟩
  have s2 : Same H H' := fun b o e => keep b o (s1 _ _ e) (ne_of_none e hx)
  refine ⟨rfl, q x H' hx s2 fun L hL => ⟨x, dx, fl, c', h', o', rfl, msk_at (hL.free hx) hob, l1, l2, l3, ⟨kvs, msk_at (hL.free (s1.free n1)) g1, paired_mapP e2 fun kv e z => ?_⟩, msk_at (hL.free (s1.free n2)) g2, msk_at (hL.free (s1.free n3)) g3⟩⟩
  obtain ⟨a, m, b, c⟩ := z
  exact ⟨a, m, b, msk_at (hL.tup c) (s2 _ _ c)⟩

/-! ### the parcels of a set -/
noncomputable def Inn (xs : List V) (ps : List Pcl) (v : V) (p : Pcl) : Prop := ∃ j : Nat, ps[j]? = some p ∧ xs[j]? = some v
noncomputable def Valid (xs : List V) (ps : List Pcl) (ch : Ch) : Prop := ∀ e ∈ ch, ∃ v p, Inn xs ps v p ∧ p.nm = e.1 ∧ p.ms = e.2
noncomputable def spPsO (S : Addr) : Sp := fun vs H Q _ => ∃ (sv : V) (c : Addr) (xs : List V) (ps : List Pcl) (ch : Ch), vs = [sv, .ref c] ∧ ShelfAt S H sv xs ps ∧ ChoAt H c ch ∧ Valid xs ps ch ∧ ch.length < 64 ∧
  ∀ D H' vs' ps', H D = none → Same H H' → H' D = some (.lst vs') → Paired (Inn xs ps) vs' ps' → (ps'.map (·.nm)).Perm (ch.map (·.1)) → (∀ p ∈ ps', (p.nm, p.ms) ∈ ch) → Q (.ref D) H'
theorem scPsO : FnScope ["shelf", "chosen"] ["shelf", "chosen"] (defScope sPsO) := ⟨rfl, rfl, rfl, by decide +kernel, rfl, by decide +kernel, by decide +kernel⟩
theorem okPsO {f S fSPa : Addr} {fd fdSPa : FuncData} (F : Fun K "parcels_of" "parcels_of" sPsO f fd) (B : Blt mg) (U : TxtS K mg S fSPa) (FSPa : Fun K "parcel" "Shelf.parcel" sSPa fSPa fdSPa) : FnOk P w K mg base CX0 2 f fd ["shelf", "chosen"] (spPsO S) := by
  have GSPa : FnOk P w K mg base CX0 1 fSPa fdSPa ["self", "name", "make"] (spSPa K S) := okSPa FSPa U
  have bSPa := FSPa.binds3 (l := ["self", "name", "make"]) (fun _ _ _ _ _ _ _ _ _ => rfl)
  refine F.ok scPsO (fun vs H Q E h => ?_) (fun cdv A outer s H vs Q E hr h => ?_)
  · obtain ⟨sv, c, xs, ps, ch, rfl, _⟩ := h
    rfl
  · refine letX ?_
    intro xX dX
    obtain ⟨sv, c, xs, ps, ch, rfl, hS, hC, hV, h64, q⟩ := h
    have hu := hr.units
    obtain ⟨kvs, e1, e2⟩ := id hC
    have hk : ∀ kv f, ChV H kv f → kv.1 = Sum.inr f.1 := fun kv f z => z.1
    have kl := paired_len e2
    refine ⟨_, (pss_one (ps_ret (pe_compF ["name"] ["shelf", "chosen"] [0, 1] ⟨rfl, by decide +kernel, by decide +kernel, by decide +kernel, by decide +kernel, rfl, rfl, rfl⟩ rfl (pi_list (pe_callB (call_sortedD rfl) (by rfl) B.sorted PyProof.Rows.boot_sorted (pa_cons (pv 1) pa_nil))) (fun _ _ _ _ => (pg_name (i := 0) (show List.Nodup (["name", "shelf", "chosen"] : List Str) by decide +kernel) rfl (Or.inl rfl))) (fun _ _ _ _ => pts_nil) (fun _ _ _ _ => (pe_meth (pv 1) U.cl U.mP GSPa hr bSPa .nil pass0 (pa_cons (pv 0) (pa_cons (pe_dget hu (pv 2) (pv 0) (fun _ _ => rfl)) pa_nil))))))), ?_⟩
    refine ⟨_, rfl, c, kvs, _, rfl, e1, keysS_of hk e2, by omega, fun ys hp hs a H1 n1 s1 a1 => ?_⟩
    refine ⟨a, rfl, ⟨_, SqL.of a1⟩, ?_⟩
    refine comp_list0 (σ0 := [none, some sv, some (.ref c)]) (SqL.of a1) (fun σ => ∃ v, σ = [v, some sv, some (.ref c)]) (fun i zs _ => ∃ ps', Paired (Inn xs ps) zs ps' ∧ ps'.map (·.nm) = ys.take i ∧ ∀ p ∈ ps', (p.nm, p.ms) ∈ ch) ⟨_, rfl⟩ (fun _ _ => ⟨[], .nil, rfl, fun _ h => nomatch h⟩) ?_ ?_
    · intro D i x zs σ H2 k hD hi hQ1 hd h2 hQ2 hk'
      refine letG ?_
      intro tT
      obtain ⟨v, rfl⟩ := hQ1
      obtain ⟨ps', pr, pn, pc⟩ := hQ2
      first | (refine lets12 ?_; intros) | (refine lets11 ?_; intros) | (refine lets10 ?_; intros) | (refine lets9 ?_; intros) | (refine lets8 ?_; intros) | (refine lets7 ?_; intros) | (refine lets6 ?_; intros) | (refine lets5 ?_; intros) | (refine lets4 ?_; intros) | (refine lets3 ?_; intros) | (refine lets2 ?_; intros) | (refine letB (g := gName _) ?_; intros) | (refine letB (g := gTup _ _ _) ?_; intros) | skip
      rw [List.getElem?_map] at hi
      cases hy : ys[i]? with
      | none => rw [hy] at hi; cases hi
      | some y =>
        rw [hy] at hi
        cases hi
        have hym : y ∈ ch.map (·.1) := hp.mem_iff.mp (List.mem_of_getElem? hy)
        obtain ⟨u, ms, g1, g2, _, m, rfl, g3⟩ := paired_val hk e2 hym
        obtain ⟨v2, p, hin, en, em⟩ := hV _ g2
        obtain ⟨j, j1, j2⟩ := id hin
        have en : p.nm = y := en
        have em : p.ms = ms := em
        subst en em
        obtain ⟨sa, dx, fl, d, kk, rfl, b1, b2, b3, b4, b5⟩ := hS.same (s1.trans h2)
        have s12 := s1.trans h2
        refine ⟨_, rfl, sa, dx, fl, rfl, b1, b3, _, rfl, _, rfl, _, rfl, c, _, rfl, (by rw [← g1]; exact DGet.k (k := .inr p.nm) (s12 _ _ e1)), ?_⟩
        refine ⟨_, v2, m, xs, ps, j, p, rfl, ⟨sa, dx, fl, d, kk, rfl, b1, b2, b3, b4, b5⟩, j1, j2, s12 _ _ g3, fun H3 s3 => ?_⟩
        have hl : zs.length ≤ 64 := by
          have e := congrArg List.length pn
          rw [List.length_map, List.length_take] at e
          have := paired_len pr
          have := hp.length_eq
          rw [List.length_map] at this
          omega
        refine hk' _ _ _ ⟨_, rfl⟩ s3 (small1000 (by omega)) ⟨ps' ++ [p], paired_snoc hin pr, ?_, fun p' hp' => ?_⟩
        · rw [List.map_append, pn, List.take_add_one, hy]
          rfl
        · rcases List.mem_append.mp hp' with z | z
          · exact pc p' z
          · rw [List.mem_singleton.mp z]; exact g2
    · intro D zs H2 hD hd h2 hQ3
      refine letG ?_
      intro tT
      obtain ⟨ps', pr, pn, pc⟩ := hQ3
      first | (refine lets12 ?_; intros) | (refine lets11 ?_; intros) | (refine lets10 ?_; intros) | (refine lets9 ?_; intros) | (refine lets8 ?_; intros) | (refine lets7 ?_; intros) | (refine lets6 ?_; intros) | (refine lets5 ?_; intros) | (refine lets4 ?_; intros) | (refine lets3 ?_; intros) | (refine lets2 ?_; intros) | (refine letB (g := gName _) ?_; intros) | (refine letB (g := gTup _ _ _) ?_; intros) | skip
      rw [List.length_map, List.take_length] at pn
      refine q D H2 zs ps' (s1.free hD) (s1.trans h2) hd pr ?_ pc
      rw [pn]
      exact hp

/-! ### what is brought -/
noncomputable def TrV (H H' : Hp) (kv : Key × V) (f : Str × List Str) : Prop := kv.1 = .inr f.1 ∧ ∃ l, kv.2 = .ref l ∧ H l = none ∧ H' l = some (.lst (f.2.map V.str))
theorem TrV.same {H H1 H2 : Hp} (s : Same H1 H2) {kv : Key × V} {f : Str × List Str} (h : TrV H H1 kv f) : TrV H H2 kv f := h.elim fun a zq489 => zq489.elim fun l zq490 => zq490.elim fun b zq491 => zq491.elim fun c d => ⟨a, l, b, c, s _ _ d⟩
theorem TrV.put {H H1 : Hp} {d : Addr} {ks ks' : List (Key × V)} (hd : H1 d = some (.dK ks)) {kv : Key × V} {f : Str × List Str} (h : TrV H H1 kv f) : TrV H (upd H1 d (.dK ks')) kv f := h.elim fun a zq492 => zq492.elim fun l zq493 => zq493.elim fun b zq494 => zq494.elim fun c e => ⟨a, l, b, c, keep_upd e (ne_of e hd (by intro z; cases z))⟩
noncomputable def filesOf (ps : List Pcl) : Tr := ps.flatMap (·.fs)
noncomputable def spBro (C : Addr) : Sp := fun vs H Q _ => ∃ (a : Addr) (xs : List V) (ps : List Pcl), vs = [.ref a] ∧ H a = some (.lst xs) ∧ PclsAt C H xs ps ∧ (filesOf ps).length ≤ 60 ∧
  ∀ d H' kvs tr, H d = none → Same H H' → H' d = some (.dK kvs) → Paired (TrV H H') kvs tr → Gath (filesOf ps) tr → Q (.ref d) H'
theorem scBro : FnScope ["parcels", "brought", "parcel", "path", "lines"] ["parcels"] (defScope sBro) := ⟨rfl, rfl, rfl, by decide +kernel, rfl, by decide +kernel, by decide +kernel⟩
theorem files_take {ps : List Pcl} {i : Nat} {p : Pcl} (h : ps[i]? = some p) : filesOf (ps.take (i + 1)) = filesOf (ps.take i) ++ p.fs := by
  unfold filesOf
  rw [List.take_add_one, h, List.flatMap_append]
  simp
theorem files_le {ps : List Pcl} {i : Nat} {p : Pcl} (h : ps[i]? = some p) (j : Nat) : (filesOf (ps.take i) ++ p.fs.take j).length ≤ (filesOf ps).length := by
  have e : filesOf ps = filesOf (ps.take (i + 1)) ++ filesOf (ps.drop (i + 1)) := by
    unfold filesOf
    rw [← List.flatMap_append, List.take_append_drop]
  rw [e, files_take h]
  simp only [List.length_append, List.length_take]
  omega
theorem okBro {f C : Addr} {fd : FuncData} (F : Fun K "brought_by" "brought_by" sBro f fd) (B : Blt mg) (T : Txt K mg C) : FnOk P w K mg base CX0 1 f fd ["parcels"] (spBro C) := by
  refine F.ok scBro (fun vs H Q E h => ?_) (fun cdv A outer s H vs Q E hr h => ?_)
  · obtain ⟨a, xs, ps, rfl, _⟩ := h
    rfl
  · refine letX ?_
    intro xX dX
    obtain ⟨a, xs, ps, rfl, ha, hps, h60, q⟩ := h
    have hu := hr.units
    refine ⟨_, (pss_cons (ps_set (i := 1) scBro.nd rfl (Or.inl rfl) pe_dnewN)
        (pss_cons (ps_for PassesOwn.never rfl (pi_list (pv 0)) (pg_name (i := 2) scBro.nd rfl (Or.inl rfl))
        (pss_one (ps_for PassesOwn.never rfl (pi_list (pe_fld (pv 2) rfl)) (pg_tup rfl (pgs_cons (pg_name (i := 3) scBro.nd rfl (Or.inl rfl)) (pgs_cons (pg_name (i := 4) scBro.nd rfl (Or.inl rfl)) pgs_nil)))
          (pss_one (ps_dput hu (pv 1) (pv 3) (pe_callTy call_listN (by rfl) B.list PyProof.Rows.boot_list (pa_cons (pv 4) pa_nil)) rfl)))))
        (pss_one (ps_ret (pv 1))))), ?_⟩
    refine lets3 ?_
    intro dD sS uU3 uU2
    have hk : ∀ (H' : Hp) kv f, TrV H H' kv f → kv.1 = Sum.inr f.1 := fun _ kv f z => z.1
    refine fun d H1 n1 s1 e1 => ?_
    refine ⟨_, rfl, a, rfl, ⟨_, SqL.of (s1 _ _ ha)⟩, ?_⟩
    refine for_list (xs := xs) (fun i σ H2 => ∃ u v z kvs tr, σ = [some (.ref a), some (.ref d), u, v, z] ∧ Same H H2 ∧ H2 d = some (.dK kvs) ∧ Paired (TrV H H2) kvs tr ∧ Gath (filesOf (ps.take i)) tr) ⟨none, none, none, [], [], rfl, s1, e1, .nil, gath0⟩ ?_ ?_ ?_
    · intro i σ H2 hi hQ4
      refine letG ?_
      intro tT
      obtain ⟨u, v, z, kvs, tr, rfl, s2, _⟩ := hQ4
      exact SqL.of (s2 _ _ ha)
    · intro i x σ H2 hx hQ5
      refine letG ?_
      intro tT
      obtain ⟨u, v, z, kvs, tr, rfl, s2, hd, hpr, g⟩ := hQ5
      first | (refine lets12 ?_; intros) | (refine lets11 ?_; intros) | (refine lets10 ?_; intros) | (refine lets9 ?_; intros) | (refine lets8 ?_; intros) | (refine lets7 ?_; intros) | (refine lets6 ?_; intros) | (refine lets5 ?_; intros) | (refine lets4 ?_; intros) | (refine lets3 ?_; intros) | (refine lets2 ?_; intros) | (refine letB (g := gName _) ?_; intros) | (refine letB (g := gTup _ _ _) ?_; intros) | skip
      obtain ⟨p, hp, b, dy, fl, rk, m, pf, pn, pss, po, ys, rfl, h1, h2, h3, h4, h5, h6⟩ := paired_get' hps hx
      refine ⟨_, rfl, b, C, dy, _, _, rfl, s2 _ _ h1, T.cl, T.nF, h2.files, pf, rfl, ⟨_, SqL.of (s2 _ _ h4)⟩, ?_⟩
      refine for_list (xs := ys) (fun j σ H3 => ∃ v z kvs tr, σ = [some (.ref a), some (.ref d), some (.ref b), v, z] ∧ Same H H3 ∧ H3 d = some (.dK kvs) ∧ Paired (TrV H H3) kvs tr ∧ Gath (filesOf (ps.take i) ++ p.fs.take j) tr) ⟨v, z, kvs, tr, rfl, s2, hd, hpr, by rw [List.take_zero, List.append_nil]; exact g⟩ ?_ ?_ ?_
      · intro j σ H3 hj hQ6
        refine letG ?_
        intro tT
        obtain ⟨v, z, kvs, tr, rfl, s3, _⟩ := hQ6
        exact SqL.of (s3 _ _ h4)
      · intro j y σ H3 hy hQ7
        refine letG ?_
        intro tT
        obtain ⟨v, z, kvs, tr, rfl, s3, hd3, hpr3, g3⟩ := hQ7
        first | (refine lets12 ?_; intros) | (refine lets11 ?_; intros) | (refine lets10 ?_; intros) | (refine lets9 ?_; intros) | (refine lets8 ?_; intros) | (refine lets7 ?_; intros) | (refine lets6 ?_; intros) | (refine lets5 ?_; intros) | (refine lets4 ?_; intros) | (refine lets3 ?_; intros) | (refine lets2 ?_; intros) | (refine letB (g := gName _) ?_; intros) | (refine letB (g := gTup _ _ _) ?_; intros) | skip
        obtain ⟨⟨px, ls⟩, hfj, t, l, rfl, t1, t2⟩ := paired_get' h5 hy
        refine ⟨t, _, rfl, SqT.of (s3 _ _ t1), rfl, _, _, rfl, _, _, rfl, rfl, ?_⟩
        refine ⟨_, rfl, l, _, rfl, .inl (SqL.of (s3 _ _ t2)), fun l' H4 n4 s4 e4 => ?_⟩
        have hlen := files_le hp j
        have glen := g3.len
        have plen := paired_len hpr3
        refine ⟨_, rfl, _, rfl, d, _, rfl, DPut.k (k := .inr px) (s4 _ _ hd3) (small1000 (by omega)), ?_⟩
        refine ⟨_, _, _, putP tr px ls, rfl, same_upd' (s3.trans s4) n1, upd_same, ?_, ?_⟩
        · refine paired_mapP (paired_put (F := TrV H H4) (hk H4) ⟨rfl, l', rfl, s3.free n4, e4⟩ (paired_mapP hpr3 fun _ _ => TrV.same s4)) fun kv f => TrV.put (s4 _ _ hd3)
        · rw [List.take_add_one, hfj]
          have := g3.step px ls
          rw [List.append_assoc] at this
          exact this
      · intro σ H3 hQ8
        refine letG ?_
        intro tT
        obtain ⟨v, z, kvs, tr, rfl, s3, hd3, hpr3, g3⟩ := hQ8
        first | (refine lets12 ?_; intros) | (refine lets11 ?_; intros) | (refine lets10 ?_; intros) | (refine lets9 ?_; intros) | (refine lets8 ?_; intros) | (refine lets7 ?_; intros) | (refine lets6 ?_; intros) | (refine lets5 ?_; intros) | (refine lets4 ?_; intros) | (refine lets3 ?_; intros) | (refine lets2 ?_; intros) | (refine letB (g := gName _) ?_; intros) | (refine letB (g := gTup _ _ _) ?_; intros) | skip
        refine ⟨_, _, _, kvs, tr, rfl, s3, hd3, hpr3, ?_⟩
        rw [files_take hp]
        rw [paired_len h5, List.take_length] at g3
        exact g3
    · intro σ H2 hQ9
      refine letG ?_
      intro tT
      obtain ⟨u, v, z, kvs, tr, rfl, s2, hd, hpr, g⟩ := hQ9
      first | (refine lets12 ?_; intros) | (refine lets11 ?_; intros) | (refine lets10 ?_; intros) | (refine lets9 ?_; intros) | (refine lets8 ?_; intros) | (refine lets7 ?_; intros) | (refine lets6 ?_; intros) | (refine lets5 ?_; intros) | (refine lets4 ?_; intros) | (refine lets3 ?_; intros) | (refine lets2 ?_; intros) | (refine letB (g := gName _) ?_; intros) | (refine letB (g := gTup _ _ _) ?_; intros) | skip
      rw [paired_len hps, List.take_length] at g
      exact ⟨_, rfl, q d H2 kvs tr n1 s2 hd hpr g⟩

end
end K33

set_option Elab.async false
set_option linter.all false
set_option maxRecDepth 100000
set_option maxHeartbeats 4000000
namespace K33
open PySem L2 PySem.Spec
theorem for_itemsG {g : TG} {tb : TS} {D : Ends} {σ : St} {H1 : Hp} {d : Addr} {kvs : List (Key × V)} {ob : Obj} (Pv : Nat → St → Hp → Prop) (h0 : Pv 0 σ (upd H1 d (.frz ob (.dK kvs)))) (hf : ∀ i σ H, Pv i σ H → H d = some (.frz ob (.dK kvs)))
    (hs : ∀ i k v p σ H, kvs[i]? = some (k, v) → Pv i σ H → H p = none → g (.ref p) σ (upd H p (.tup [kV k, v])) fun σ2 H2 =>
      tb { nx := Pv (i + 1), ct := Pv (i + 1), bk := fun σ' H' => H' d = some (.frz ob (.dK kvs)) ∧ D.nx σ' (upd H' d (.dK kvs)), rt := fun v' H' => H' d = some (.frz ob (.dK kvs)) ∧ D.rt v' (upd H' d (.dK kvs)) } σ2 H2)
    (hd : ∀ σ H, Pv kvs.length σ H → D.nx σ (upd H d (.dK kvs))) : ∃ W : Nat → Nat → St → Hp → Prop, (∃ m, W 0 m σ (upd H1 d (.frz ob (.dK kvs)))) ∧ ∀ i m σ H, W i m σ H →
  H d = some (.frz ob (.dK kvs)) ∧ ((kvs.length ≤ i ∧ D.nx σ (upd H d (.dK kvs))) ∨ (i < kvs.length ∧ ∃ N : St → Hp → Prop, (∀ σ' H', N σ' H' → ∃ m', m' < m ∧ W (i + 1) m' σ' H') ∧
    ∀ k v p, kvs[i]? = some (k, v) → H p = none → g (.ref p) σ (upd H p (.tup [kV k, v])) fun σ2 H2 =>
      tb { nx := N, ct := N, bk := fun σ' H' => H' d = some (.frz ob (.dK kvs)) ∧ D.nx σ' (upd H' d (.dK kvs)), rt := fun v' H' => H' d = some (.frz ob (.dK kvs)) ∧ D.rt v' (upd H' d (.dK kvs)) } σ2 H2)) := by
  refine ⟨fun i m σ H => m = kvs.length - i ∧ i ≤ kvs.length ∧ Pv i σ H, ⟨kvs.length, by simp, Nat.zero_le _, h0⟩, ?_⟩
  rintro i m σ H ⟨rfl, hi, p⟩
  refine ⟨hf i σ H p, ?_⟩
  by_cases hlt : i < kvs.length
  · exact .inr ⟨hlt, Pv (i + 1), fun σ' H' p' => ⟨kvs.length - (i + 1), by omega, rfl, hlt, p'⟩, fun k v q hk hq => hs i k v q σ H hk p hq⟩
  · have e : i = kvs.length := by omega
    subst e
    exact .inl ⟨Nat.le_refl _, hd σ H p⟩
theorem inn_at {C : Addr} {H : Hp} {xs vs : List V} {ps ps' : List Pcl} (h : PclsAt C H xs ps) (r : Paired (Inn xs ps) vs ps') : PclsAt C H vs ps' := paired_mapP r fun v p zq430 => zq430.elim fun j zq431 => zq431.elim fun a b => by
  obtain ⟨x, hx, q⟩ := paired_get h a
  rw [b] at hx
  cases hx
  exact q
theorem inn_mem {xs vs : List V} {ps ps' : List Pcl} (r : Paired (Inn xs ps) vs ps') : ∀ p ∈ ps', p ∈ ps := by
  induction r with
  | nil => exact fun _ h => nomatch h
  | cons q t ih =>
    intro p hp
    rcases List.mem_cons.mp hp with e | hp
    · obtain ⟨j, a, b⟩ := q
      rw [e]; exact List.mem_of_getElem? a
    · exact ih p hp
section
variable {P : Program} {w : World} {K : PySem.W.Frag} {mg : Str → Option Value} {base : Heap}
/-! ### the law's own: what is due, and whether it is told -/
noncomputable def DuV (H : Hp) (kv : Key × V) (f : Str × List Str) : Prop := kv.1 = .inr f.1 ∧ ∃ l, kv.2 = .ref l ∧ H l = some (.lst (f.2.map V.str))
theorem DuV.same {H H' : Hp} (s : Same H H') {kv : Key × V} {f : Str × List Str} (h : DuV H kv f) : DuV H' kv f := h.elim fun a zq495 => zq495.elim fun l zq496 => zq496.elim fun b c => ⟨a, l, b, s _ _ c⟩
noncomputable def OkF (tr : Tr) : Prop := ∀ f ∈ tr, Ln f.1 ∧ (∀ x ∈ f.2, Ln x) ∧ f.2.length ≤ 20
noncomputable def spRow : Sp := fun vs H Q _ => ∃ (dt du : Addr) (kvs kvs' : List (Key × V)) (tr tr' : Tr), vs = [.ref dt, .ref du] ∧ dt ≠ du ∧ H dt = some (.dK kvs) ∧ H du = some (.dK kvs') ∧ Paired (DuV H) kvs tr ∧ Paired (DuV H) kvs' tr' ∧ (tr.map (·.1)).Perm (tr'.map (·.1)) ∧
  (∀ x l l', (x, l) ∈ tr → (x, l') ∈ tr' → l = l') ∧ OkF tr ∧ OkF tr' ∧ tr.length < 64 ∧ ∀ H', Same H H' → Q (.bl true) H'
theorem scRow : FnScope ["_law_tree", "_law_due_here", "_law_path_here", "_law_lines_here"] ["_law_tree", "_law_due_here"] (defScope sRow) := ⟨rfl, rfl, rfl, by decide +kernel, rfl, by decide +kernel, by decide +kernel⟩
theorem okRow {f : Addr} {fd : FuncData} (F : Fun K "_law_rows" "_law_rows" sRow f fd) (B : Blt mg) : FnOk P w K mg base CX0 1 f fd ["_law_tree", "_law_due_here"] spRow := by
  refine F.ok scRow (fun vs H Q E h => ?_) (fun cdv A outer s H vs Q E hr h => ?_)
  · obtain ⟨dt, du, kvs, kvs', tr, tr', rfl, _⟩ := h
    rfl
  · refine letX ?_
    intro xX dX
    obtain ⟨dt, du, kvs, kvs', tr, tr', rfl, ne, ht, hd, pt, pd, pp, ag, o1, o2, h64, q⟩ := h
    have hu := hr.units
    have hk : ∀ (H' : Hp) kv f, DuV H' kv f → kv.1 = Sum.inr f.1 := fun _ kv f z => z.1
    have l1 := paired_len pt
    have l2 := paired_len pd
    have l3 := pp.length_eq
    rw [List.length_map, List.length_map] at l3
    refine ⟨_, (pss_cons (ps_if (PW.pt (pw_or (pt_not (pt_val (pe_callB call_isi (by rfl) B.isinstance PyProof.Rows.boot_isinstance (pa_cons (pv 0) (pa_cons (pe_bltn (v := .ty "dict") rfl B.dict PyProof.Rows.boot_dict rfl) pa_nil))))) (pw_or1 (pt_cmpR (op_neD hu) (pe_callB (call_sortedK rfl) (by rfl) B.sorted PyProof.Rows.boot_sorted (pa_cons (pe_bm0 PySem.F.plainAttrs_dict PySem.F.slot_dict_keys PySem.F.type_dict_keys mt_keys (pv 0)) pa_nil)) (pe_callB (call_sortedK rfl) (by rfl) B.sorted PyProof.Rows.boot_sorted (pa_cons (pe_bm0 PySem.F.plainAttrs_dict PySem.F.slot_dict_keys PySem.F.type_dict_keys mt_keys (pv 1)) pa_nil)) (nomark _)))))
        (pss_one (ps_ret pe_bl)) pss_nil)
        (pss_cons (ps_forItems PassesOwn.never rfl (pv 0) (pg_tup rfl (pgs_cons (pg_name (i := 2) scRow.nd rfl (Or.inl rfl)) (pgs_cons (pg_name (i := 3) scRow.nd rfl (Or.inl rfl)) pgs_nil)))
        (pss_one (ps_if (PW.pt (pw_or (pt_not (pt_val (pe_callB call_isi (by rfl) B.isinstance PyProof.Rows.boot_isinstance (pa_cons (pv 2) (pa_cons (pe_bltn (v := .ty "str") rfl B.str PyProof.Rows.boot_str rfl) pa_nil))))) (pw_or (pt_not (pt_val (pe_callB call_isi (by rfl) B.isinstance PyProof.Rows.boot_isinstance (pa_cons (pv 3) (pa_cons (pe_bltn (v := .ty "list") rfl B.list PyProof.Rows.boot_list rfl) pa_nil))))) (pw_or1 (pt_cmpR (op_neD hu) (pv 3) (pe_dget hu (pv 1) (pv 2) (fun _ _ => rfl)) (nomark _))))))
          (pss_one (ps_ret pe_bl)) pss_nil)))
        (pss_one (ps_ret pe_bl)))), ?_⟩
    refine lets3 ?_
    intro dD sS uU3 uU2
    refine ⟨_, rfl, .ref dt, .type "dict", "dict", true, rfl, .dK ht, rfl, _, rfl, iteF ?_⟩
    refine ⟨_, rfl, .inr (.inr (.inl ⟨rfl, .inl ⟨_, ht⟩⟩)), dt, _, rfl, rfl, ht, fun p1 H1 n1 s1 e1 => ?_⟩
    refine ⟨p1, dt, kvs, _, rfl, e1, s1 _ _ ht, keysS_of (hk H) pt, by omega, fun ys yp ysrt a1 H2 n2 s2 a2 => ?_⟩
    have s12 := s1.trans s2
    refine ⟨_, rfl, .inr (.inr (.inl ⟨rfl, .inl ⟨_, s12 _ _ hd⟩⟩)), du, _, rfl, rfl, s12 _ _ hd, fun p3 H3 n3 s3 e3 => ?_⟩
    have s13 := s12.trans s3
    refine ⟨p3, du, kvs', _, rfl, e3, s13 _ _ hd, keysS_of (hk H) pd, by omega, fun zs zp zsrt a4 H4 n4 s4 b4 => ?_⟩
    have s14 := s13.trans s4
    have eyz : ys = zs := sorted_eq (yp.trans (pp.trans zp.symm)) ysrt zsrt
    subst eyz
    have lny : ∀ x ∈ ys, Ln x := fun x hx => by
      obtain ⟨f, hf, e⟩ := List.mem_map.mp (yp.mem_iff.mp hx)
      rw [← e]; exact (o1 f hf).1
    refine ⟨_, _, dS_dv (SqL.of (s4 _ _ (s3 _ _ a2))), dS_dv (SqL.of b4), dS_ok 8 lny, dS_ok 8 lny, fun b hb => ⟨_, rfl, ?_⟩⟩
    have hb : b = true := hb.mpr rfl
    subst hb
    refine iteF ?_
    refine ⟨_, rfl, dt, kvs, rfl, s14 _ _ ht, fun ob => ?_⟩
    refine for_itemsG (fun i σ H5 => ∃ u v, σ = [some (.ref dt), some (.ref du), u, v] ∧ (∀ b o, H b = some o → b ≠ dt → H5 b = some o) ∧ H5 dt = some (.frz ob (.dK kvs))) ⟨none, none, rfl, fun b o e hb => keep_upd (s14 _ _ e) hb, upd_same⟩ ?_ ?_ ?_
    · intro i σ H5 hQ1
      refine letG ?_
      intro tT
      obtain ⟨u, v, rfl, _, h⟩ := hQ1
      exact h
    · intro i k v p σ H5 hi hQ2 hp
      refine letG ?_
      intro tT
      obtain ⟨u, v', rfl, k5, h5⟩ := hQ2
      first | (refine lets12 ?_; intros) | (refine lets11 ?_; intros) | (refine lets10 ?_; intros) | (refine lets9 ?_; intros) | (refine lets8 ?_; intros) | (refine lets7 ?_; intros) | (refine lets6 ?_; intros) | (refine lets5 ?_; intros) | (refine lets4 ?_; intros) | (refine lets3 ?_; intros) | (refine lets2 ?_; intros) | (refine letB (g := gName _) ?_; intros) | (refine letB (g := gTup _ _ _) ?_; intros) | skip
      obtain ⟨⟨x, ls⟩, hf, e1, l, e2, e3⟩ := paired_get' pt hi
      have e1 : k = .inr x := e1
      have e2 : v = .ref l := e2
      subst e1 e2
      have hm := List.mem_of_getElem? hf
      have hxd : x ∈ tr'.map (·.1) := pp.mem_iff.mp (List.mem_map_of_mem hm)
      obtain ⟨v2, ls2, g1, g2, _, l2', rfl, g3⟩ := paired_val (hk H) pd hxd
      have els := ag x ls ls2 hm g2
      subst els
      have K5 : ∀ b o, H b = some o → b ≠ dt → (upd H5 p (.tup [kV (.inr x), .ref l])) b = some o := fun b o e hb => keep_upd (k5 b o e hb) (ne_of_none (k5 b o e hb) hp)
      have hl5 := K5 _ _ e3 (ne_of e3 ht (by intro z; cases z))
      have hl6 := K5 _ _ g3 (ne_of g3 ht (by intro z; cases z))
      refine ⟨p, _, rfl, SqT.of upd_same, rfl, _, _, rfl, _, _, rfl, rfl, ?_⟩
      refine ⟨_, rfl, .str x, .type "str", "str", true, rfl, .str x, rfl, _, rfl, iteF ?_⟩
      refine ⟨_, rfl, .ref l, .type "list", "list", true, rfl, .lst hl5, rfl, _, rfl, iteF ?_⟩
      refine ⟨_, rfl, _, rfl, _, rfl, du, .ref l2', rfl, (by rw [← g1]; exact DGet.k (k := .inr x) (K5 _ _ hd ne.symm)), ?_⟩
      refine ⟨_, _, dS_dv (SqL.of hl5), dS_dv (SqL.of hl6), dS_ok 8 (o1 _ hm).2.1, dS_ok 8 (o1 _ hm).2.1, fun b hb => ⟨_, rfl, ?_⟩⟩
      have hb : b = true := hb.mpr rfl
      subst hb
      exact iteF ⟨_, _, rfl, K5, keep_upd h5 (ne_of_none h5 hp)⟩
    · intro σ H5 hQ3
      refine letG ?_
      intro tT
      obtain ⟨u, v, rfl, k5, h5⟩ := hQ3
      first | (refine lets12 ?_; intros) | (refine lets11 ?_; intros) | (refine lets10 ?_; intros) | (refine lets9 ?_; intros) | (refine lets8 ?_; intros) | (refine lets7 ?_; intros) | (refine lets6 ?_; intros) | (refine lets5 ?_; intros) | (refine lets4 ?_; intros) | (refine lets3 ?_; intros) | (refine lets2 ?_; intros) | (refine letB (g := gName _) ?_; intros) | (refine letB (g := gTup _ _ _) ?_; intros) | skip
      refine q _ fun b o e => ?_
      by_cases hb : b = dt
      · subst hb
        rw [ht] at e
        cases e
        exact upd_same
      · exact keep_upd (k5 b o e hb) hb
end
end K33

set_option Elab.async false
set_option linter.all false
set_option maxRecDepth 100000
set_option maxHeartbeats 4000000
namespace K33
open PySem L2 PySem.Spec
section
variable {g : TG} {tt : TT} {te : TE} {H1 : Hp} {Q : Hp → Prop}
/-- a comprehension's loop, its new list named -/
theorem comp_listD {K : PySem.W.Frag} {a D : Addr} {xs : List V} {σ0 : St} (hD : H1 D = none) (hx : SqL K H1 a xs) (S : St → Prop) (P : Nat → List V → Hp → Prop) (s0 : S σ0) (st : P 0 [] (upd H1 D (.lst [])))
    (turn : ∀ i x ys σ H (k : St → V → Hp → Prop) (k' : St → Hp → Prop), xs[i]? = some x → S σ → H D = some (.lst ys) → Same H1 H → P i ys H →
      (∀ σ3 y H5, S σ3 → Same H H5 → ys.length < sizeLine → P (i + 1) (ys ++ [y]) (upd H5 D (.lst (ys ++ [y]))) → k σ3 y H5) → (∀ σ3 H4, S σ3 → Same H H4 → P (i + 1) ys H4 → k' σ3 H4) →
      g x σ H fun σ3 H3 => tt σ3 H3 fun ok H4 => if ok = true then te σ3 H4 (k σ3) else k' σ3 H4)
    (done : ∀ ys H, H D = some (.lst ys) → Same H1 H → P xs.length ys H → Q H) :
    ∃ W : Nat → Nat → St → Hp → Prop, (∃ m, W 0 m σ0 (upd H1 D (.lst []))) ∧ CompAsk (Itl K a) g tt te D (fun H' => Q H') W := by
  refine ⟨fun i m σ H => m = xs.length - i ∧ i ≤ xs.length ∧ S σ ∧ ∃ ys, H D = some (.lst ys) ∧ Same H1 H ∧ P i ys H, ⟨xs.length, by simp, Nat.zero_le _, s0, [], upd_same, same_upd hD, st⟩, ?_⟩
  intro i m σ H hQ1
  refine letG ?_
  intro tT
  obtain ⟨rfl, hi, hS, ys, hd, hs, hp⟩ := hQ1
  first | (refine lets12 ?_; intros) | (refine lets11 ?_; intros) | (refine lets10 ?_; intros) | (refine lets9 ?_; intros) | (refine lets8 ?_; intros) | (refine lets7 ?_; intros) | (refine lets6 ?_; intros) | (refine lets5 ?_; intros) | (refine lets4 ?_; intros) | (refine lets3 ?_; intros) | (refine lets2 ?_; intros) | (refine letB (g := gName _) ?_; intros) | (refine letB (g := gTup _ _ _) ?_; intros) | skip
  have q : SqL K H a xs := Same.seq hs hx
  by_cases hlt : i < xs.length
  · refine .inr ⟨⟨xs, xs[i], q, by simp [hlt]⟩, fun x H2 hy => ?_⟩
    obtain ⟨e1, e2⟩ := hy
    subst e1
    exact turn i x ys σ _ (fun σ3 y H5 => ∃ ys, H5 D = some (.lst ys) ∧ ys.length < sizeLine ∧ ∃ m', m' < xs.length - i ∧ (m' = xs.length - (i + 1) ∧ i + 1 ≤ xs.length ∧ S σ3 ∧ ∃ zs, upd H5 D (.lst (ys ++ [y])) D = some (.lst zs) ∧ Same H1 (upd H5 D (.lst (ys ++ [y]))) ∧ P (i + 1) zs (upd H5 D (.lst (ys ++ [y])))))
      (fun σ3 H4 => ∃ m', m' < xs.length - i ∧ (m' = xs.length - (i + 1) ∧ i + 1 ≤ xs.length ∧ S σ3 ∧ ∃ zs, H4 D = some (.lst zs) ∧ Same H1 H4 ∧ P (i + 1) zs H4)) (e2 xs q) hS hd hs hp
      (fun σ3 y H5 a1 a2 a3 a4 => ⟨ys, a2 _ _ hd, a3, xs.length - (i + 1), by omega, rfl, hlt, a1, ys ++ [y], upd_same, same_upd' (hs.trans a2) hD, a4⟩)
      (fun σ3 H4 a1 a2 a3 => ⟨xs.length - (i + 1), by omega, rfl, hlt, a1, ys, a2 _ _ hd, hs.trans a2, a3⟩)
  · have e : i = xs.length := by omega
    subst e
    exact .inl ⟨⟨xs, q, Nat.le_refl _⟩, done ys H hd hs hp⟩
theorem comp_listD0 {K : PySem.W.Frag} {a D : Addr} {xs : List V} {σ0 : St} (hD : H1 D = none) (hx : SqL K H1 a xs) (S : St → Prop) (P : Nat → List V → Hp → Prop) (s0 : S σ0) (st : P 0 [] (upd H1 D (.lst [])))
    (turn : ∀ i x ys σ H (k : St → V → Hp → Prop), xs[i]? = some x → S σ → H D = some (.lst ys) → Same H1 H → P i ys H →
      (∀ σ3 y H5, S σ3 → Same H H5 → ys.length < sizeLine → P (i + 1) (ys ++ [y]) (upd H5 D (.lst (ys ++ [y]))) → k σ3 y H5) → g x σ H fun σ3 H3 => te σ3 H3 (k σ3))
    (done : ∀ ys H, H D = some (.lst ys) → Same H1 H → P xs.length ys H → Q H) :
    ∃ W : Nat → Nat → St → Hp → Prop, (∃ m, W 0 m σ0 (upd H1 D (.lst []))) ∧ CompAsk (Itl K a) g tTrue te D (fun H' => Q H') W :=
  comp_listD hD hx S P s0 st (fun i x ys σ H k k' a1 a2 a3 a4 a5 a6 _ => turn i x ys σ H k a1 a2 a3 a4 a5 a6) done
end
noncomputable abbrev dI (ms : List Int) : PySem.W.Dat := .tuple (ms.map PySem.W.Dat.int)
theorem dI_inj {a b : List Int} : dI a = dI b ↔ a = b := ⟨fun h => (List.map_inj_right fun x y z => PySem.W.Dat.int.inj z).mp (PySem.W.Dat.tuple.inj h), fun h => by rw [h]⟩
theorem dI_ok (n : Nat) (ms : List Int) : PySem.W.kqdOk (n + 1) (dI ms) = true := by
  simp only [dI, PySem.W.kqdOk, List.all_eq_true, List.mem_map]
  rintro d ⟨i, _, rfl⟩
  simp [PySem.W.kqdOk]
theorem dI_dv {K : PySem.W.Frag} {H : Hp} {m : Addr} {ms : List Int} (h : H m = some (.tup (ms.map V.int))) : DV K H (.ref m) (dI ms) := .tup (SqT.of h) (dvs_ints ms)
/-- makes -/
noncomputable def MkV (H : Hp) (v : V) (ms : List Int) : Prop := ∃ m, v = .ref m ∧ H m = some (.tup (ms.map V.int))
theorem MkV.same {H H' : Hp} (s : Same H H') {v : V} {ms : List Int} (h : MkV H v ms) : MkV H' v ms := h.elim fun m zq497 => zq497.elim fun a b => ⟨m, a, s _ _ b⟩
theorem mks_dv {K : PySem.W.Frag} {H : Hp} {vs : List V} {mss : List (List Int)} (h : Paired (MkV H) vs mss) : DVs K H vs (mss.map dI) := by
  induction h with
  | nil => exact .nil
  | cons r t ih =>
    obtain ⟨m, rfl, e⟩ := r
    exact .cons (dI_dv e) ih
theorem mks_ok (n : Nat) (mss : List (List Int)) : PySem.W.kqdOk (n + 2) (.list (mss.map dI)) = true := by
  rw [PySem.W.kqdOk, List.all_eq_true]
  intro d hd
  obtain ⟨ms, _, rfl⟩ := List.mem_map.mp hd
  exact dI_ok n ms
theorem filter_take {ps : List Pcl} {i : Nat} {p : Pcl} (h : ps[i]? = some p) (sel : Pcl → Bool) : (ps.take (i + 1)).filter sel = (ps.take i).filter sel ++ (if sel p = true then [p] else []) := by
  rw [List.take_add_one, h, List.filter_append]
  congr 1
  show List.filter sel [p] = _
  rw [List.filter_cons]
  rfl
section
variable {P : Program} {w : World} {K : PySem.W.Frag} {mg : Str → Option Value} {base : Heap}
noncomputable def sel (ch : Ch) (p : Pcl) : Bool := decide ((p.nm, p.ms) ∈ ch)
/-! ### what is chosen -/
noncomputable def spCho (K : PySem.W.Frag) (C : Addr) : Sp := fun vs H Q _ => ∃ (a n : Addr) (cell : Int) (xs : List V) (ps : List Pcl) (ns : List Str), vs = [.ref a, .ref n, .int cell] ∧ H a = some (.lst xs) ∧ PclsAt C H xs ps ∧ ps.length ≤ 100 ∧ H n = some (.lst (ns.map V.str)) ∧ ns.length ≤ 4 ∧
  ∀ c H' ch, H c = none → Same H H' → ChoAt H' c ch → Valid xs ps ch → (ch.map (·.1)).Nodup → ch.length ≤ 4 → Q (.ref c) H'
theorem scCho : FnScope ["_law_parcels", "_law_names", "_law_cell", "_law_chosen_here", "_law_k", "_law_makes", "_law_number"] ["_law_parcels", "_law_names", "_law_cell"] (defScope sCho) := ⟨rfl, rfl, rfl, by decide +kernel, rfl, by decide +kernel, by decide +kernel⟩
theorem okCho {f C fMix : Addr} {fd fdMix : FuncData} (F : Fun K "_law_chosen" "_law_chosen" sCho f fd) (B : Blt mg) (T : Txt K mg C) (FMix : Fun K "_law_mixed" "_law_mixed" sMix fMix fdMix) (mMix : mg "_law_mixed" = some (.ref fMix)) : FnOk P w K mg base CX0 2 f fd ["_law_parcels", "_law_names", "_law_cell"] (spCho K C) := by
  have GMix : FnOk P w K mg base CX0 1 fMix fdMix ["_law_cell", "_law_k"] spMix := okMix FMix
  have bMix := FMix.binds2 (l := ["_law_cell", "_law_k"]) (fun _ _ _ _ _ _ _ _ => rfl)
  refine F.ok scCho (fun vs H Q E h => ?_) (fun cdv A outer s H vs Q E hr h => ?_)
  · obtain ⟨a, n, cell, xs, ps, ns, rfl, _⟩ := h
    rfl
  · refine letX ?_
    intro xX dX
    obtain ⟨a, n, cell, xs, ps, ns, rfl, ha, hps, h100, hn, n4, q⟩ := h
    have hu := hr.units
    have hk : ∀ (H' : Hp) kv f, ChV H' kv f → kv.1 = Sum.inr f.1 := fun _ kv f z => z.1
    refine ⟨_, (pss_cons (ps_set (i := 3) scCho.nd rfl (Or.inl rfl) pe_dnewN)
        (pss_cons (ps_for PassesOwn.never rfl (pi_range1 rfl B.range (pa_cons (pe_callB call_len_seq (by rfl) B.len PySem.boot_len (pa_cons (pv 1) pa_nil)) pa_nil)) (pg_name (i := 4) scCho.nd rfl (Or.inr rfl))
        (pss_cons (ps_setComp (i := 5) ["_law_one"] ["_law_names", "_law_k"] [1, 4] scCho.nd rfl rfl ⟨rfl, by decide +kernel, by decide +kernel, by decide +kernel, by decide +kernel, rfl, rfl, rfl⟩ rfl (pi_list (pv 0)) (fun _ _ _ _ => (pg_name (i := 0) (show List.Nodup (["_law_one", "_law_names", "_law_k"] : List Str) by decide +kernel) rfl (Or.inl rfl))) (fun _ _ _ _ => pts_one (pt_cmpR op_eq (pe_fldK K (pv 0) rfl) (pe_ix (ix_listK K) (pv 1) (pv 2) (fun _ _ => rfl)) (nomark _))) (fun _ _ _ _ => (pe_fldK K (pv 0) rfl)))
          (pss_cons (ps_set (i := 6) scCho.nd rfl (Or.inl rfl) (pe_call GMix hr rfl mMix FMix.kp bMix .nil pass0 (pa_cons (pv 2) (pa_cons (pe_op op_add pe_int (pv 4)) pa_nil))))
          (pss_one (ps_if (PW.pt (pw_and (pt_cmpR (op_neD hu) (pv 5) (pe_lstN pa_nil) (nomark _)) (pw_and1 (pt_cmpR op_gt (pe_op op_mod (pv 6) pe_int) pe_int (nomark _)))))
          (pss_one (ps_dput hu (pv 3) (pe_ix ix_list (pv 1) (pv 4) (fun _ _ => rfl)) (pe_ix ix_list (pv 5) (pe_op op_mod (pe_op op_fdiv (pv 6) pe_int) (pe_callB call_len_seq (by rfl) B.len PySem.boot_len (pa_cons (pv 5) pa_nil))) (fun _ _ => rfl)) rfl)) pss_nil)))))
        (pss_one (ps_ret (pv 3))))), ?_⟩
    refine lets3 ?_
    intro dD sS uU3 uU2
    refine fun c H1 n1 s1 e1 => ?_
    refine ⟨_, rfl, n, _, rfl, .inl (SqL.of (s1 _ _ hn)), _, rfl, by omega, by rw [List.length_map]; omega, ?_⟩
    refine for_range (n := (ns.map V.str).length) (fun i σ H2 => ∃ (u v z : Option V) (kvs : List (Key × V)) (ch : Ch), σ = [some (.ref a), some (.ref n), some (.int cell), some (.ref c), u, v, z] ∧ Same H H2 ∧ H2 c = some (.dK kvs) ∧ Paired (ChV H2) kvs ch ∧ Valid xs ps ch ∧ (ch.map (·.1)).Nodup ∧ ch.length ≤ i) ⟨none, none, none, [], [], rfl, s1, e1, .nil, (fun _ h => nomatch h), List.nodup_nil, Nat.le_refl _⟩ ?_ ?_
    · intro i σ H2 hi hQ2
      refine letG ?_
      intro tT
      obtain ⟨u, v, z, kvs, ch, rfl, s2, hc, hpr, hV, hnd, hcl⟩ := hQ2
      first | (refine lets12 ?_; intros) | (refine lets11 ?_; intros) | (refine lets10 ?_; intros) | (refine lets9 ?_; intros) | (refine lets8 ?_; intros) | (refine lets7 ?_; intros) | (refine lets6 ?_; intros) | (refine lets5 ?_; intros) | (refine lets4 ?_; intros) | (refine lets3 ?_; intros) | (refine lets2 ?_; intros) | (refine letB (g := gName _) ?_; intros) | (refine letB (g := gTup _ _ _) ?_; intros) | skip
      rw [List.length_map] at hi
      obtain ⟨x, hx⟩ : ∃ x, ns[i]? = some x := ⟨ns[i], by simp [hi]⟩
      have hat : atI (ns.map V.str) (0 + (i : Int)) = some (V.str x) := by
        rw [Int.zero_add]
        exact atI_nat (by rw [List.getElem?_map, hx]; rfl)
      · refine ⟨_, rfl, a, rfl, ⟨_, SqL.of (s2 _ _ ha)⟩, ?_⟩
        intro D hD
        refine comp_listD (σ0 := [none, some (.ref n), some (.int (0 + (i : Int)))]) hD (SqL.of (s2 _ _ ha)) (fun σ => ∃ v, σ = [v, some (.ref n), some (.int (0 + (i : Int)))]) (fun j zs H3 => zs.length ≤ j ∧ ∃ mss, Paired (MkV H) zs mss ∧ ∀ ms ∈ mss, ∃ v p, Inn xs ps v p ∧ p.nm = x ∧ p.ms = ms) ⟨_, rfl⟩ ⟨Nat.le_refl _, [], .nil, fun _ h => nomatch h⟩ ?_ ?_
        · intro j y zs σ H3 k k' hy hQ3 hd h3 hQ4 hk1 hk2
          refine letG ?_
          intro tT
          obtain ⟨v, rfl⟩ := hQ3
          obtain ⟨zl, mss, pr, pm⟩ := hQ4
          first | (refine lets12 ?_; intros) | (refine lets11 ?_; intros) | (refine lets10 ?_; intros) | (refine lets9 ?_; intros) | (refine lets8 ?_; intros) | (refine lets7 ?_; intros) | (refine lets6 ?_; intros) | (refine lets5 ?_; intros) | (refine lets4 ?_; intros) | (refine lets3 ?_; intros) | (refine lets2 ?_; intros) | (refine letB (g := gName _) ?_; intros) | (refine letB (g := gTup _ _ _) ?_; intros) | skip
          obtain ⟨p, hp, b, dy, fl, rk, m, pf, pn, pss, po, ys, rfl, b1, b2, b3, b4, b5, b6⟩ := paired_get' hps hy
          have s3 := s2.trans h3
          have hlt := (List.getElem?_eq_some_iff.mp hp).1
          refine ⟨_, rfl, b, C, dy, _, _, rfl, s3 _ _ b1, T.cl, T.nN, b2.name, _, rfl, _, rfl, n, _, _, _, rfl, rfl, SqL.of (s3 _ _ hn), hat, rfl, _, rfl, ?_⟩
          refine ite2 (fun h => ?_) (fun h => ?_)
          · have en : p.nm = x := by
              have h := of_decide_eq_true h
              injection h
            refine ⟨_, rfl, b, C, dy, _, _, rfl, s3 _ _ b1, T.cl, T.nM, b2.make, ?_⟩
            refine hk1 _ _ _ ⟨_, rfl⟩ (Same.refl _) (small1000 (by omega)) ⟨by rw [List.length_append, List.length_singleton]; omega, mss ++ [p.ms], paired_snoc ⟨m, rfl, b3⟩ pr, fun ms hm => ?_⟩
            rcases List.mem_append.mp hm with z | z
            · exact pm ms z
            · exact ⟨_, p, ⟨j, hp, hy⟩, en, (List.mem_singleton.mp z).symm⟩
          · exact hk2 _ _ ⟨_, rfl⟩ (Same.refl _) ⟨by omega, mss, pr, pm⟩
        · intro zs H3 hd h3 hQ5
          refine letG ?_
          intro tT
          obtain ⟨zl, mss, pr, pm⟩ := hQ5
          first | (refine lets12 ?_; intros) | (refine lets11 ?_; intros) | (refine lets10 ?_; intros) | (refine lets9 ?_; intros) | (refine lets8 ?_; intros) | (refine lets7 ?_; intros) | (refine lets6 ?_; intros) | (refine lets5 ?_; intros) | (refine lets4 ?_; intros) | (refine lets3 ?_; intros) | (refine lets2 ?_; intros) | (refine letB (g := gName _) ?_; intros) | (refine letB (g := gTup _ _ _) ?_; intros) | skip
          have s3 := s2.trans h3
          have ll := paired_len hps
          have hc3 := h3 _ _ hc
          have pr3 := paired_mapP pr fun _ _ => MkV.same s3
          have cp3 := paired_mapP hpr fun _ _ => ChV.same h3
          refine ⟨_, rfl, _, rfl, _, _, rfl, rfl, _, _, rfl, fun num => ?_⟩
          refine ⟨_, rfl, (by show 0 ≤ sizeLine; decide), fun e H4 n4 s4 e4 => ?_⟩
          refine ⟨.list (mss.map dI), .list [], .lst (SqL.of (s4 _ _ hd)) (mks_dv (paired_mapP pr3 fun _ _ => MkV.same s4)), .lst (SqL.of e4) .nil, mks_ok 7 _, mks_ok 7 [], fun bb hb => ⟨_, rfl, ?_⟩⟩
          have keep : ∀ u v z, ∃ (u' v' z' : Option V) (kvs : List (Key × V)) (ch : Ch), [some (V.ref a), some (V.ref n), some (V.int cell), some (V.ref c), u, v, z] = [some (V.ref a), some (.ref n), some (.int cell), some (.ref c), u', v', z'] ∧ Same H H4 ∧ H4 c = some (.dK kvs) ∧ Paired (ChV H4) kvs ch ∧ Valid xs ps ch ∧ (ch.map (·.1)).Nodup ∧ ch.length ≤ i + 1 :=
            fun u v z => ⟨u, v, z, kvs, ch, rfl, s3.trans s4, s4 _ _ hc3, paired_mapP cp3 fun _ _ => ChV.same s4, hV, hnd, by omega⟩
          refine ite2 (fun hne => ?_) (fun hne => ?_)
          · refine ⟨_, rfl, _, _, rfl, rfl, (by show (0 : Int) < 4; decide), _, _, rfl, rfl, _, rfl, ?_⟩
            refine ite2 (fun hgt => ?_) (fun hgt => keep _ _ _)
            have hpos : 0 < zs.length := by
              cases zs with
              | nil =>
                cases pr
                have hb : bb = true := hb.mpr rfl
                rw [hb] at hne
                cases hne
              | cons y ys => simp
            obtain ⟨y, hy, hym⟩ := atI_in (xs := zs) (r := num / 4 % (zs.length : Int)) (Int.emod_nonneg _ (by omega)) (Int.emod_lt_of_pos _ (by omega))
            obtain ⟨ms, hms, m, rfl, em⟩ := paired_get' pr3 hym
            obtain ⟨v0, p0, hin, en, em2⟩ := pm ms (List.mem_of_getElem? hms)
            refine ⟨_, rfl, _, rfl, _, _, rfl, rfl, ⟨by omega, by omega⟩, _, rfl, D, _, rfl, .inl (SqL.of (s4 _ _ hd)), _, _, rfl, rfl, (by show (0 : Int) < (zs.length : Int); omega), D, _, _, _, rfl, rfl, SqL.of (s4 _ _ hd), hy, ?_⟩
            refine ⟨_, rfl, _, rfl, _, rfl, n, _, _, _, rfl, rfl, SqL.of (s4 _ _ (s3 _ _ hn)), hat, ?_⟩
            have pl := paired_len hpr
            refine ⟨c, _, rfl, DPut.k (k := .inr x) (s4 _ _ hc3) (small1000 (by omega)), ?_⟩
            refine ⟨_, _, _, _, putP ch x ms, rfl, same_upd' (s3.trans s4) n1, upd_same, ?_, fun e he => ?_, putP_nodup hnd, Nat.le_trans (putP_len ch x ms) (by omega)⟩
            · refine paired_mapP (paired_put (F := ChV H4) (hk H4) ⟨rfl, m, rfl, s4 _ _ em⟩ (paired_mapP cp3 fun _ _ => ChV.same s4)) fun kv f z => ?_
              obtain ⟨z1, m', z2, z3⟩ := z
              exact ⟨z1, m', z2, keep_upd z3 (ne_of z3 (s4 _ _ hc3) (by intro z; cases z))⟩
            · rcases putP_mem he with e' | he
              · rw [e']; exact ⟨v0, p0, hin, en, em2⟩
              · exact hV e he
          · exact iteF (keep _ _ _)
    · intro σ H2 hQ6
      refine letG ?_
      intro tT
      obtain ⟨u, v, z, kvs, ch, rfl, s2, hc, hpr, hV, hnd, hcl⟩ := hQ6
      first | (refine lets12 ?_; intros) | (refine lets11 ?_; intros) | (refine lets10 ?_; intros) | (refine lets9 ?_; intros) | (refine lets8 ?_; intros) | (refine lets7 ?_; intros) | (refine lets6 ?_; intros) | (refine lets5 ?_; intros) | (refine lets4 ?_; intros) | (refine lets3 ?_; intros) | (refine lets2 ?_; intros) | (refine letB (g := gName _) ?_; intros) | (refine letB (g := gTup _ _ _) ?_; intros) | skip
      rw [List.length_map] at hcl
      exact ⟨_, rfl, q c H2 ch n1 s2 ⟨kvs, hc, hpr⟩ hV hnd (by omega)⟩
end
end K33

set_option Elab.async false
set_option linter.all false
set_option maxRecDepth 100000
set_option maxHeartbeats 4000000
namespace K33
open PySem L2 PySem.Spec
noncomputable def rSetD2 : V → List V → Hp → VK → Prop := fun x vs H Q => ∃ a kvs k y, x = .ref a ∧ vs = [kV k, y] ∧ H a = some (.dK kvs) ∧ kvs.length < sizeLine ∧ ∀ z kvs' H', valV kvs' k = some z → ((kvs' = kvs) ∨ (valV kvs k = none ∧ z = y ∧ kvs' = putK kvs k y)) → H' a = some (.dK kvs') → (∀ b o, H b = some o → b ≠ a → H' b = some o) → Q z H'
theorem mt_setdef2 {X : Cx} : MtM X "dict.setdefault" rSetD2 := by
  intro pins s σ H x xs v us Q I rx rs h
  obtain ⟨a, kvs, k, y, rfl, rfl, e, hl, q⟩ := h
  refine mt_setdef pins s σ H _ _ v us Q I rx rs ⟨a, kvs, k, y, rfl, rfl, e, hl, fun z hz => q z kvs H hz (.inl rfl) e fun _ _ e _ => e, fun hn => q y _ _ ?_ (.inr ⟨hn, rfl, rfl⟩) upd_same fun b o e hb => keep_upd e hb⟩
  rw [valV_put, if_pos rfl]
theorem flat_strs (xs : List Str) : (xs.map V.str).all flatV = true := by
  rw [List.all_eq_true]
  intro v hv
  obtain ⟨z, _, rfl⟩ := List.mem_map.mp hv
  rfl
theorem inV_strs {z : Str} {xs : List Str} (h : z ∈ xs) : inV (.str z) (xs.map V.str) = true := by
  unfold inV
  rw [List.any_eq_true]
  exact ⟨_, List.mem_map.mpr ⟨z, h, rfl⟩, by simp [eqV]⟩
theorem atI_neg {α : Type} {xs : List α} {j : Nat} (h : j < xs.length) : ∃ v, atI xs (-1 - (0 + (j : Int))) = some v := by
  unfold atI ixN
  rw [if_neg (by omega), if_pos (by omega), Option.bind_some]
  have : ((-1 - (0 + (j : Int)) + (xs.length : Int)).toNat) < xs.length := by omega
  exact ⟨_, List.getElem?_eq_getElem this⟩
theorem msk_add {L : List Addr} {H H' : Hp} {p : Addr} (hp : H p = none) (s : Same H H') : Same (msk L H) (msk (p :: L) H') := fun b o e => by
  unfold msk at e
  split at e
  · cases e
  · rename_i hb
    refine msk_at ?_ (s _ _ e)
    rw [List.mem_cons, not_or]
    exact ⟨fun z => (by rw [z, hp] at e; cases e), hb⟩
/-- what stands but for some places is kept -/
theorem msk_keep {L : List Addr} {H H' : Hp} (s : ∀ b o, H b = some o → b ∉ L → H' b = some o) : Same (msk L H) (msk L H') := fun b o e => by
  unfold msk at e
  split at e
  · cases e
  · exact msk_at ‹_› (s _ _ e ‹_›)
/-- .. with the place named -/
noncomputable def atRef (Q : Addr → Hp → Prop) : VK := fun v H => match v with | .ref x => Q x H | _ => False
theorem make_pclA {K : PySem.W.Frag} {C : Addr} {H : Hp} {Q : Addr → Hp → Prop} {E : XK} {nm : Str} {m fa na sa oa : Addr} {mk : List Int} {rk : Int} {xs ns ss : List V} {os : List Str} {fs : List (Str × List Str)} (hm : H m = some (.tup (mk.map V.int))) (hf : H fa = some (.lst xs)) (hfs : Paired (FileH H) xs fs)
    (hn : H na = some (.lst ns)) (hs : H sa = some (.lst ss)) (ho : H oa = some (.lst (os.map V.str))) (h1000 : fs.length ≤ 1000) (q : ∀ x H', H x = none → Same H H' → (∀ L, Busy H L → PclAt C (msk L H') (.ref x) ⟨nm, mk, fs, os, rk⟩) → Q x H') :
    ∀ x dx, H x = none → H dx = none → dx ≠ x → spPIn K C (.ref x :: ([.str nm, .ref m, .int rk, .ref fa, .ref na, .ref sa, .ref oa] ++ [])) (upd (upd H dx (.own x)) x (.ins C dx [])) (fun v H2 => v = .non ∧ Q x H2) E :=
  make_pcl (Q := atRef Q) hm hf hfs hn hs ho h1000 q
structure InvP (ns : List Str) (ps : List Pcl) (uk : List (Key × V)) (i : Nat) : Prop where
  nd : (ps.map keyOf).Nodup
  ok : ∀ p ∈ ps, p.fs.length ≤ 3 ∧ OkF p.fs ∧ (p.fs.map (·.1)).Nodup
  used : ∀ p ∈ ps, ∀ x ∈ p.fs.map (·.1), valV uk (.inr x) = some (.str p.nm)
  txts : ∀ k v, valV uk k = some v → ∃ y, v = .str y
  len : ps.length ≤ i
  nms : ∀ p ∈ ps, p.nm ∈ ns
  offs : ∀ p ∈ ps, p.os.length ≤ 2 ∧ ∀ t ∈ p.os, t ∈ ns
structure Apart (ns : List Str) (ps : List Pcl) : Prop where
  nd : (ps.map keyOf).Nodup
  ok : ∀ p ∈ ps, p.fs.length ≤ 3 ∧ OkF p.fs ∧ (p.fs.map (·.1)).Nodup
  one : ∀ p ∈ ps, ∀ p' ∈ ps, ∀ x, x ∈ p.fs.map (·.1) → x ∈ p'.fs.map (·.1) → p.nm = p'.nm
  len : ps.length ≤ 6
  nms : ∀ p ∈ ps, p.nm ∈ ns
  offs : ∀ p ∈ ps, p.os.length ≤ 2 ∧ ∀ t ∈ p.os, t ∈ ns
theorem InvP.apart {ns : List Str} {ps : List Pcl} {uk : List (Key × V)} (h : InvP ns ps uk 6) : Apart ns ps := by
  refine ⟨h.nd, h.ok, fun p hp p' hp' x hx hx' => ?_, h.len, h.nms, h.offs⟩
  have a := h.used p hp x hx
  have b := h.used p' hp' x hx'
  rw [a] at b
  injection b with b
  injection b
/-- the files drawn so far -/
structure InvF (fs : Tr) (uk : List (Key × V)) (nm : Str) (j : Nat) : Prop where
  nd : (fs.map (·.1)).Nodup
  used : ∀ x ∈ fs.map (·.1), valV uk (.inr x) = some (.str nm)
  ok : OkF fs
  len : fs.length ≤ j
section
variable {P : Program} {w : World} {K : PySem.W.Frag} {mg : Str → Option Value} {base : Heap}
noncomputable def spPAp (K : PySem.W.Frag) (C : Addr) : Sp := fun vs H Q _ => ∃ (sc n : Addr) (is : List Int) (ns : List Str), vs = [.ref sc, .ref n, .int 3] ∧ SqL K H sc (is.map V.int) ∧ H n = some (.lst (ns.map V.str)) ∧ 1 ≤ ns.length ∧ ns.length ≤ 4 ∧
  ∀ fa H' vs ps, H fa = none → Same H H' → H' fa = some (.lst vs) → PclsAt C H' vs ps → Apart ns ps → Q (.ref fa) H'
theorem scPAp : FnScope ["_law_script", "_law_names", "_law_start", "_law_found", "_law_used", "_law_k", "_law_cell", "_law_name_here", "_law_files", "_law_j", "_law_path_here", "_law_offers", "_law_rank", "_law_parcel", "_law_mine"] ["_law_script", "_law_names", "_law_start"] (defScope sPAp) := ⟨rfl, rfl, rfl, by decide +kernel, rfl, by decide +kernel, by decide +kernel⟩
theorem okPAp {f C fPIn fMix fCel fPat fLis fMak : Addr} {fd fdPIn fdMix fdCel fdPat fdLis fdMak : FuncData} (F : Fun K "_law_parcels_apart" "_law_parcels_apart" sPAp f fd) (B : Blt mg) (T : Txt K mg C) (M : Mk K C fPIn) (FPIn : Fun K "__init__" "Parcel.__init__" sPIn fPIn fdPIn)
    (FMix : Fun K "_law_mixed" "_law_mixed" sMix fMix fdMix) (mMix : mg "_law_mixed" = some (.ref fMix)) (FCel : Fun K "_law_cell_at" "_law_cell_at" sCel fCel fdCel) (mCel : mg "_law_cell_at" = some (.ref fCel))
    (FPat : Fun K "_law_path" "_law_path" sPat fPat fdPat) (mPat : mg "_law_path" = some (.ref fPat)) (FLis : Fun K "_law_lines" "_law_lines" sLis fLis fdLis) (mLis : mg "_law_lines" = some (.ref fLis)) (GLis : FnOk P w K mg base CX0 2 fLis fdLis ["_law_number"] spLis)
    (FMak : Fun K "_law_make" "_law_make" sMak fMak fdMak) (mMak : mg "_law_make" = some (.ref fMak)) : FnOk P w K mg base CX0 3 f fd ["_law_script", "_law_names", "_law_start"] (spPAp K C) := by
  have GPIn : FnOk P w K mg base CX0 1 fPIn fdPIn ["self", "name", "make", "rank", "files", "needs", "shuts", "offers"] (spPIn K C) := okPIn FPIn T B.list
  have bPIn := FPIn.binds8 (l := ["self", "name", "make", "rank", "files", "needs", "shuts", "offers"]) (fun _ _ _ _ _ _ _ _ _ _ _ _ _ _ => rfl)
  have GMix : FnOk P w K mg base CX0 1 fMix fdMix ["_law_cell", "_law_k"] spMix := okMix FMix
  have bMix := FMix.binds2 (l := ["_law_cell", "_law_k"]) (fun _ _ _ _ _ _ _ _ => rfl)
  have GCel : FnOk P w K mg base CX0 1 fCel fdCel ["_law_script", "_law_k"] (spCel K) := okCel FCel B
  have bCel := FCel.binds2 (l := ["_law_script", "_law_k"]) (fun _ _ _ _ _ _ _ _ => rfl)
  have GPat : FnOk P w K mg base CX0 1 fPat fdPat ["_law_number"] spPat := okPat FPat
  have bPat := FPat.binds1 (l := ["_law_number"]) (fun _ _ _ _ _ _ _ => rfl)
  have bLis := FLis.binds1 (l := ["_law_number"]) (fun _ _ _ _ _ _ _ => rfl)
  have GMak : FnOk P w K mg base CX0 1 fMak fdMak ["_law_number"] spMak := okMak FMak
  have bMak := FMak.binds1 (l := ["_law_number"]) (fun _ _ _ _ _ _ _ => rfl)
  refine F.ok scPAp (fun vs H Q E h => ?_) (fun cdv A outer s H vs Q E hr h => ?_)
  · obtain ⟨sc, n, is, ns, rfl, _⟩ := h
    rfl
  · refine letX ?_
    intro xX dX
    obtain ⟨sc, n, is, ns, rfl, hsc, hn, n1', n4', q⟩ := h
    have hu := hr.units
    have hu2 : (A.deeper (PyProof.Rows.envOfC "_law_parcels_apart" (defScope sPAp) s.heap.objs.size f cdv)).units + 65 < cLine := by have := hr.un; omega
    have hr1 : Room 1 (A.deeper (PyProof.Rows.envOfC "_law_parcels_apart" (defScope sPAp) s.heap.objs.size f cdv)) := hr.mono (by decide)
    refine ⟨_, (pss_cons (ps_set (i := 3) scPAp.nd rfl (Or.inl rfl) (pe_lstN pa_nil))
        (pss_cons (ps_set (i := 4) scPAp.nd rfl (Or.inl rfl) pe_dnewN)
        (pss_cons (ps_for PassesOwn.never rfl (pi_range2 rfl B.range (pa_cons (pv 2) (pa_cons (pe_op op_add (pv 2) pe_int) pa_nil))) (pg_name (i := 5) scPAp.nd rfl (Or.inl rfl))
        (pss_cons (ps_set (i := 6) scPAp.nd rfl (Or.inl rfl) (pe_call GCel hr1 rfl mCel FCel.kp bCel .nil pass0 (pa_cons (pv 0) (pa_cons (pv 5) pa_nil))))
          (pss_cons (ps_set (i := 7) scPAp.nd rfl (Or.inr rfl) (pe_ix ix_list (pv 1) (pe_op op_mod (pe_op op_add (pv 6) (pv 5)) (pe_callB call_len_seq (by rfl) B.len PySem.boot_len (pa_cons (pv 1) pa_nil))) (fun _ _ => rfl)))
          (pss_cons (ps_set (i := 8) scPAp.nd rfl (Or.inl rfl) (pe_lstN pa_nil))
          (pss_cons (ps_for PassesOwn.never rfl (pi_range1 rfl B.range (pa_cons (pe_op op_mod (pe_call GMix hr1 rfl mMix FMix.kp bMix .nil pass0 (pa_cons (pv 6) (pa_cons pe_int pa_nil))) pe_int) pa_nil)) (pg_name (i := 9) scPAp.nd rfl (Or.inl rfl))
          (pss_cons (ps_set (i := 10) scPAp.nd rfl (Or.inl rfl) (pe_call GPat hr1 rfl mPat FPat.kp bPat .nil pass0 (pa_cons (pe_call GMix hr1 rfl mMix FMix.kp bMix .nil pass0 (pa_cons (pv 6) (pa_cons (pe_op op_add pe_int (pv 9)) pa_nil))) pa_nil)))
            (pss_one (ps_if (PW.pt (pw_and (pt_cmpR op_eq (pe_bm PySem.F.plainAttrs_dict PySem.F.slot_dict_setdefault PySem.F.type_dict_setdefault mt_setdef2 (pv 4) (pa_cons (pv 10) (pa_cons (pv 7) pa_nil))) (pv 7) (nomark _)) (pw_and1 (pt_cmpR op_notIn_seq (pv 10) (pe_compF ["_law_one"] [] [] ⟨rfl, by decide +kernel, by decide +kernel, by decide +kernel, by decide +kernel, rfl, rfl, rfl⟩ rfl (pi_list (pv 8)) (fun _ _ _ _ => (pg_name (i := 0) (show List.Nodup (["_law_one"] : List Str) by decide +kernel) rfl (Or.inl rfl))) (fun _ _ _ _ => pts_nil) (fun _ _ _ _ => (pe_ix (ix_tupK K) (pv 0) pe_int (fun _ _ => rfl)))) (by rfl)))))
            (pss_one (ps_expr (pe_bm PySem.F.plainAttrs_list PySem.F.slot_list_append PySem.F.type_list_append mt_append (pv 8) (pa_cons (pe_tupN (pa_cons (pv 10) (pa_cons (pe_call GLis hr rfl mLis FLis.kp bLis .nil pass0 (pa_cons (pe_call GMix hr1 rfl mMix FMix.kp bMix .nil pass0 (pa_cons (pv 6) (pa_cons (pe_op op_add pe_int (pv 9)) pa_nil))) pa_nil)) pa_nil))) pa_nil)))) pss_nil))))
          (pss_cons (ps_setComp (i := 11) ["_law_j"] ["_law_names"] [1] scPAp.nd rfl rfl ⟨rfl, by decide +kernel, by decide +kernel, by decide +kernel, by decide +kernel, rfl, rfl, rfl⟩ rfl (pi_range1 rfl B.range (pa_cons (pe_callB (call_min2 rfl) (by rfl) B.min PyProof.Rows.boot_min (pa_cons (pe_callB call_len_seq (by rfl) B.len PySem.boot_len (pa_cons (pv 1) pa_nil)) (pa_cons (pe_op op_fdiv (pe_op op_mod (pe_call GMix hr1 rfl mMix FMix.kp bMix .nil pass0 (pa_cons (pv 6) (pa_cons pe_int pa_nil))) pe_int) pe_int) pa_nil))) pa_nil)) (fun _ _ _ _ => (pg_name (i := 0) (show List.Nodup (["_law_j", "_law_names"] : List Str) by decide +kernel) rfl (Or.inl rfl))) (fun _ _ _ _ => pts_nil) (fun _ _ _ _ => (pe_ix (ix_listK K) (pv 1) (pe_op op_sub (pe_un un_neg pe_int) (pv 0)) (fun _ _ => rfl))))
          (pss_cons (ps_set (i := 12) scPAp.nd rfl (Or.inl rfl) (pe_ix ix_list (pe_lstN (pa_cons (pe_op op_mod (pe_call GMix hr1 rfl mMix FMix.kp bMix .nil pass0 (pa_cons (pv 6) (pa_cons pe_int pa_nil))) pe_int) (pa_cons (pe_op op_mod (pv 6) (pe_op op_pow pe_int pe_int)) pa_nil))) (pe_op op_mod (pe_call GMix hr1 rfl mMix FMix.kp bMix .nil pass0 (pa_cons (pv 6) (pa_cons pe_int pa_nil))) pe_int) (fun _ _ => rfl)))
          (pss_cons (ps_set (i := 13) scPAp.nd rfl (Or.inl rfl) (pe_make M GPIn hr rfl T.mgC bPIn .nil pass0 (pa_cons (pv 7) (pa_cons (pe_call GMak hr1 rfl mMak FMak.kp bMak .nil pass0 (pa_cons (pe_call GMix hr1 rfl mMix FMix.kp bMix .nil pass0 (pa_cons (pv 6) (pa_cons pe_int pa_nil))) pa_nil)) (pa_cons (pv 12) (pa_cons (pv 8) (pa_cons (pe_lstN pa_nil) (pa_cons (pe_lstN pa_nil) (pa_cons (pv 11) pa_nil)))))))))
          (pss_cons (ps_setComp (i := 14) ["_law_one"] ["_law_name_here"] [7] scPAp.nd rfl rfl ⟨rfl, by decide +kernel, by decide +kernel, by decide +kernel, by decide +kernel, rfl, rfl, rfl⟩ rfl (pi_list (pv 3)) (fun _ _ _ _ => (pg_name (i := 0) (show List.Nodup (["_law_one", "_law_name_here"] : List Str) by decide +kernel) rfl (Or.inl rfl))) (fun _ _ _ _ => pts_one (pt_cmpR op_eq (pe_fldK K (pv 0) rfl) (pv 1) (nomark _))) (fun _ _ _ _ => (pe_fldK K (pv 0) rfl)))
          (pss_one (ps_if (PW.pt (pw_and (pt_cmpR op_lt (pe_callB call_len_seq (by rfl) B.len PySem.boot_len (pa_cons (pv 14) pa_nil)) pe_int (nomark _)) (pw_and1 (pt_cmpR (op_notInD hu2) (pe_fld (pv 13) rfl) (pv 14) (by rfl)))))
          (pss_one (ps_expr (pe_bm PySem.F.plainAttrs_list PySem.F.slot_list_append PySem.F.type_list_append mt_append (pv 3) (pa_cons (pv 13) pa_nil)))) pss_nil)))))))))))
        (pss_one (ps_ret (pv 3)))))), ?_⟩
    refine lets4 ?_
    intro dD sS uU4 uU3 uU2
    refine ⟨(by show 0 ≤ sizeLine; decide), fun fa Ha na sa ea => ?_⟩
    refine fun ua Hb nb sb eb => ?_
    have fu : fa ≠ ua := ne_of_none ea nb
    have nb' : H ua = none := sa.free nb
    refine ⟨_, rfl, _, rfl, _, _, rfl, rfl, 3, 3 + 6, rfl, ⟨by omega, by omega, by omega, by omega⟩, ?_⟩
    refine for_range (lo := 3) (n := 6) (fun i σ H2 => ∃ (t5 t6 t7 t8 t9 t10 t11 t12 t13 t14 : Option V) (vs : List V) (ps : List Pcl) (uk : List (Key × V)), σ = [some (.ref sc), some (.ref n), some (.int 3), some (.ref fa), some (.ref ua), t5, t6, t7, t8, t9, t10, t11, t12, t13, t14] ∧ Same H H2 ∧ H2 fa = some (.lst vs) ∧ H2 ua = some (.dK uk) ∧ PclsAt C (msk [fa, ua] H2) vs ps ∧ InvP ns ps uk i ∧ uk.length ≤ 3 * i)
      ⟨none, none, none, none, none, none, none, none, none, none, [], [], [], rfl, sa.trans sb, sb _ _ ea, eb, .nil, ⟨List.nodup_nil, (fun _ h => nomatch h), (fun _ h => nomatch h), (fun _ _ h => nomatch h), Nat.le_refl _, (fun _ h => nomatch h), (fun _ h => nomatch h)⟩, Nat.le_refl _⟩ ?_ ?_
    · intro i σ H2 hi hQ1
      refine letG ?_
      intro tT
      obtain ⟨t5, t6, t7, t8, t9, t10, t11, t12, t13, t14, vs, ps, uk, rfl, s2, hfa, hua, hps, inv, ul⟩ := hQ1
      first | (refine lets12 ?_; intros) | (refine lets11 ?_; intros) | (refine lets10 ?_; intros) | (refine lets9 ?_; intros) | (refine lets8 ?_; intros) | (refine lets7 ?_; intros) | (refine lets6 ?_; intros) | (refine lets5 ?_; intros) | (refine lets4 ?_; intros) | (refine lets3 ?_; intros) | (refine lets2 ?_; intros) | (refine letB (g := gName _) ?_; intros) | (refine letB (g := gTup _ _ _) ?_; intros) | skip
      refine ⟨_, rfl, _, rfl, sc, _, is, rfl, by omega, s2.seq hsc, fun cell => ?_⟩
      have hpos : (0 : Int) < ((ns.map V.str).length : Int) := by rw [List.length_map]; omega
      obtain ⟨nm, hnm, hnmi⟩ := atI_strs (xs := ns) (r := (cell + (3 + (i : Int))) % ((ns.map V.str).length : Int)) (Int.emod_nonneg _ (by omega)) (by have := Int.emod_lt_of_pos (cell + (3 + (i : Int))) hpos; rw [List.length_map] at *; exact this)
      refine ⟨_, rfl, _, rfl, _, rfl, _, _, rfl, rfl, _, rfl, n, _, rfl, .inl (SqL.of (s2 _ _ hn)), _, _, rfl, rfl, hpos, n, _, _, _, rfl, rfl, SqL.of (s2 _ _ hn), hnm, ?_⟩
      refine ⟨(by show 0 ≤ sizeLine; decide), fun la H3 n3 s3 e3 => ?_⟩
      have lf : la ≠ fa := (ne_of_none hfa n3).symm
      have lu : la ≠ ua := (ne_of_none hua n3).symm
      refine ⟨_, rfl, _, _, rfl, fun m1 => ?_⟩
      refine ⟨_, _, rfl, rfl, (by show (0 : Int) < 4; decide), m1 % 4, rfl, by omega, by omega, ?_⟩
      refine for_range (n := (m1 % 4).toNat) (fun j σ H3 => ∃ (t9 t10 : Option V) (fvs : List V) (fs : Tr) (uk : List (Key × V)), σ = [some (.ref sc), some (.ref n), some (.int 3), some (.ref fa), some (.ref ua), some (.int (3 + (i : Int))), some (.int cell), some (.str nm), some (.ref la), t9, t10, t11, t12, t13, t14] ∧ Same H H3 ∧ H3 fa = some (.lst vs) ∧ H3 ua = some (.dK uk) ∧ H3 la = some (.lst fvs) ∧
          PclsAt C (msk [la, fa, ua] H3) vs ps ∧ Paired (FileH (msk [la, fa, ua] H3)) fvs fs ∧ InvP ns ps uk i ∧ InvF fs uk nm j ∧ uk.length ≤ 3 * i + j)
        ⟨_, _, [], [], uk, rfl, s2.trans s3, s3 _ _ hfa, s3 _ _ hua, e3, hps.same (msk_add n3 s3), .nil, inv, ⟨List.nodup_nil, (fun _ h => nomatch h), (fun _ h => nomatch h), Nat.le_refl _⟩, ul⟩ ?_ ?_
      · intro j σ H4 hj hQ2
        refine letG ?_
        intro tT
        obtain ⟨t9', t10', fvs, fs, uk1, rfl, s4, hfa4, hua4, hla4, hps4, hfs4, inv4, invf, ul4⟩ := hQ2
        first | (refine lets12 ?_; intros) | (refine lets11 ?_; intros) | (refine lets10 ?_; intros) | (refine lets9 ?_; intros) | (refine lets8 ?_; intros) | (refine lets7 ?_; intros) | (refine lets6 ?_; intros) | (refine lets5 ?_; intros) | (refine lets4 ?_; intros) | (refine lets3 ?_; intros) | (refine lets2 ?_; intros) | (refine letB (g := gName _) ?_; intros) | (refine letB (g := gTup _ _ _) ?_; intros) | skip
        have j3 : j < 3 := by omega
        refine ⟨_, rfl, _, rfl, _, _, rfl, rfl, _, _, rfl, fun m2 => ?_⟩
        refine ⟨_, rfl, fun x H5 lx s5 => ?_⟩
        refine ⟨_, rfl, .inr (.inr (.inl ⟨rfl, .inl ⟨_, s5 _ _ hua4⟩⟩)), _, rfl, _, rfl, ua, uk1, .inr x, .str nm, rfl, rfl, s5 _ _ hua4, small1000 (by omega), fun z uk2 H6 hz hor hua6 k6 => ?_⟩
        have mono : ∀ key v, valV uk1 key = some v → valV uk2 key = some v := by
          rcases hor with rfl | ⟨h1, _, rfl⟩
          · exact fun _ _ h => h
          · intro key v hv
            rw [valV_put]
            split
            · rename_i e
              rw [e, h1] at hv
              cases hv
            · exact hv
        have ulen : uk2.length ≤ 3 * i + (j + 1) := by
          rcases hor with rfl | ⟨_, _, rfl⟩
          · omega
          · have := length_putK uk1 (.inr x) (.str nm)
            omega
        have txts2 : ∀ k v, valV uk2 k = some v → ∃ y, v = .str y := by
          rcases hor with rfl | ⟨_, _, rfl⟩
          · exact inv4.txts
          · intro k v hv
            rw [valV_put] at hv
            split at hv
            · cases hv; exact ⟨nm, rfl⟩
            · exact inv4.txts k v hv
        obtain ⟨z', rfl⟩ := txts2 _ _ hz
        have hS6 : Same H H6 := fun b o e => k6 _ _ (s5 _ _ (s4 _ _ e)) (fun z => by rw [z, nb'] at e; cases e)
        have hfa6 := k6 _ _ (s5 _ _ hfa4) fu
        have hla6 := k6 _ _ (s5 _ _ hla4) lu
        have sm6 : Same (msk [la, fa, ua] H4) (msk [la, fa, ua] H6) := (msk_mono s5).trans (msk_keep fun b o e hb => k6 _ _ e (fun z => hb (by rw [z]; simp)))
        have hfs6 := paired_mapP hfs4 fun _ _ => FileH.same sm6
        have inv6 : InvP ns ps uk2 i := ⟨inv4.nd, inv4.ok, fun p hp y hy => mono _ _ (inv4.used p hp y hy), txts2, inv4.len, inv4.nms, inv4.offs⟩
        have keep : ∀ (t9 t10 : Option V) (H7 : Hp), Same H6 H7 → ∃ (t9' t10' : Option V) (fvs : List V) (fs : Tr) (uk : List (Key × V)), [some (V.ref sc), some (.ref n), some (.int 3), some (.ref fa), some (.ref ua), some (.int (3 + (i : Int))), some (.int cell), some (.str nm), some (.ref la), t9, t10, t11, t12, t13, t14] = [some (V.ref sc), some (.ref n), some (.int 3), some (.ref fa), some (.ref ua), some (.int (3 + (i : Int))), some (.int cell), some (.str nm), some (.ref la), t9', t10', t11, t12, t13, t14] ∧ Same H H7 ∧ H7 fa = some (.lst vs) ∧ H7 ua = some (.dK uk) ∧ H7 la = some (.lst fvs) ∧
          PclsAt C (msk [la, fa, ua] H7) vs ps ∧ Paired (FileH (msk [la, fa, ua] H7)) fvs fs ∧ InvP ns ps uk i ∧ InvF fs uk nm (j + 1) ∧ uk.length ≤ 3 * i + (j + 1) :=
          fun t9 t10 H7 s7 => ⟨t9, t10, fvs, fs, uk2, rfl, hS6.trans s7, s7 _ _ hfa6, s7 _ _ hua6, s7 _ _ hla6, hps4.same (sm6.trans (msk_mono s7)), paired_mapP hfs6 (fun _ _ => FileH.same (msk_mono s7)), inv6, ⟨invf.nd, fun y hy => mono _ _ (invf.used y hy), invf.ok, Nat.le_succ_of_le invf.len⟩, ulen⟩
        refine ⟨_, rfl, rfl, _, rfl, ite2 (fun hz1 => ?_) (fun hz1 => iteF (keep _ _ H6 (Same.refl _)))⟩
        have ez : z' = nm := by
          have h := of_decide_eq_true hz1
          injection h
        subst ez
        refine ⟨_, rfl, _, rfl, la, rfl, ⟨_, SqL.of hla6⟩, ?_⟩
        refine comp_list0 (σ0 := [none]) (SqL.of hla6) (fun σ => ∃ v, σ = [v]) (fun i zs _ => zs = ((fs.map (·.1)).take i).map V.str) ⟨_, rfl⟩ (fun _ _ => rfl) ?_ ?_
        · rintro D i' y zs σ H7 k hD hy ⟨v, rfl⟩ hd h7 rfl hk
          obtain ⟨⟨px, ls⟩, hfj, t, l, rfl, t1, t2⟩ := paired_get' hfs6 hy
          have a0 : atI [V.str px, V.ref l] 0 = some (V.str px) := rfl
          refine ⟨_, rfl, t, _, _, _, rfl, rfl, SqT.of (h7 _ _ (msk_same _ _ t1)), a0, ?_⟩
          have fl3 := invf.len
          refine hk _ _ _ ⟨_, rfl⟩ (Same.refl _) (small1000 (by rw [List.length_map, List.length_take, List.length_map]; omega)) ?_
          rw [List.take_add_one, List.getElem?_map, hfj, List.map_append]
          rfl
        · rintro D zs H7 hD hd h7 rfl
          have fl := paired_len hfs6
          rw [fl, ← List.length_map (f := (·.1)), List.take_length] at hd
          refine ⟨D, _, rfl, .inl (SqL.of hd), rfl, flat_strs _, _, rfl, ite2 (fun hni => ?_) (fun hni => keep _ _ H7 h7)⟩
          have hnx : x ∉ fs.map (·.1) := fun hm => by
            have h : (!inV (.str x) ((fs.map (·.1)).map V.str)) = true := hni
            rw [inV_strs hm] at h
            cases h
          refine ⟨_, rfl, .inl ⟨rfl, _, SqL.of (h7 _ _ hla6)⟩, _, rfl, _, rfl, _, rfl, _, _, rfl, rfl, _, _, rfl, fun m3 => ?_⟩
          refine ⟨_, rfl, fun l H8 ls n8 s8 e8 lns => ?_⟩
          refine ⟨(by show 2 ≤ sizeLine; decide), fun t H9 n9 s9 e9 => ?_⟩
          have s69 : Same H6 H9 := h7.trans (s8.trans s9)
          have fl3 := invf.len
          have fvl := paired_len hfs4
          refine ⟨la, _, _, rfl, rfl, s69 _ _ hla6, small1000 (by omega), ?_⟩
          have busy : ∀ Hx, Same H6 Hx → Busy Hx [la, fa, ua] := fun Hx sx b hb => by
            simp only [List.mem_cons, List.not_mem_nil, or_false] at hb
            rcases hb with rfl | rfl | rfl
            · exact ⟨_, sx _ _ hla6, by intro vs z; cases z⟩
            · exact ⟨_, sx _ _ hfa6, by intro vs z; cases z⟩
            · exact ⟨_, sx _ _ hua6, by intro vs z; cases z⟩
          have hl0 : H la = none := s2.free n3
          refine ⟨_, _, fvs ++ [.ref t], fs ++ [(x, ls)], uk2, rfl, same_upd' (hS6.trans s69) hl0, keep_upd (s69 _ _ hfa6) lf.symm, keep_upd (s69 _ _ hua6) lu.symm, upd_same, ?_, ?_, inv6, ⟨?_, ?_, ?_, ?_⟩, ulen⟩
          · rw [msk_upd List.mem_cons_self]
            exact hps4.same (sm6.trans (msk_mono s69))
          · rw [msk_upd List.mem_cons_self]
            exact paired_snoc ⟨t, l, rfl, msk_at ((busy H8 (h7.trans s8)).free n9) e9, msk_at ((busy H7 h7).free n8) (s9 _ _ e8)⟩ (paired_mapP hfs6 fun _ _ => FileH.same (msk_mono s69))
          · rw [List.map_append, List.nodup_append]
            refine ⟨invf.nd, by simp, fun a ha b hb => ?_⟩
            have hb : b = x := List.mem_singleton.mp hb
            rw [hb]
            exact fun e => hnx (e ▸ ha)
          · intro y hy
            rw [List.map_append] at hy
            rcases List.mem_append.mp hy with hy | hy
            · exact mono _ _ (invf.used y hy)
            · have hy : y = x := List.mem_singleton.mp hy
              rw [hy]; exact hz
          · intro f' hf'
            rcases List.mem_append.mp hf' with h' | h'
            · exact invf.ok f' h'
            · rw [List.mem_singleton.mp h']; exact ⟨lx, lns.all, lns.len⟩
          · rw [List.length_append, List.length_singleton]; omega
      · intro σ H4 hQ3
        refine letG ?_
        intro tT
        obtain ⟨t9', t10', fvs, fs, uk1, rfl, s4, hfa4, hua4, hla4, hps4, hfs4, inv4, invf, ul4⟩ := hQ3
        first | (refine lets12 ?_; intros) | (refine lets11 ?_; intros) | (refine lets10 ?_; intros) | (refine lets9 ?_; intros) | (refine lets8 ?_; intros) | (refine lets7 ?_; intros) | (refine lets6 ?_; intros) | (refine lets5 ?_; intros) | (refine lets4 ?_; intros) | (refine lets3 ?_; intros) | (refine lets2 ?_; intros) | (refine letB (g := gName _) ?_; intros) | (refine letB (g := gTup _ _ _) ?_; intros) | skip
        have fl3 : fs.length ≤ 3 := by have := invf.len; omega
        refine ⟨_, rfl, n, _, rfl, .inl (SqL.of (s4 _ _ hn)), _, rfl, _, _, rfl, fun m4 => ?_⟩
        obtain ⟨r, hr', r0, r4, r2⟩ : ∃ r : Int, (if m4 % 6 / 2 < ((ns.map V.str).length : Int) then m4 % 6 / 2 else ((ns.map V.str).length : Int)) = r ∧ 0 ≤ r ∧ r ≤ ns.length ∧ r ≤ 2 := by
          refine ⟨_, rfl, ?_⟩
          rw [List.length_map]
          split <;> omega
        refine ⟨_, _, rfl, rfl, (by show (0 : Int) < 6; decide), _, _, rfl, rfl, ⟨by omega, by omega⟩, _, _, rfl, r, congrArg (fun z => [V.int z]) hr', by omega, by omega, ?_⟩
        refine comp_range0 (σ0 := [none, some (.ref n)]) (fun σ => ∃ v, σ = [v, some (.ref n)]) (fun i ys _ => ∃ ts : List Str, ys = ts.map V.str ∧ ts.length = i ∧ ∀ t ∈ ts, t ∈ ns) ⟨_, rfl⟩ (fun _ _ => ⟨[], rfl, rfl, fun _ h => nomatch h⟩) ?_ ?_
        · rintro D i' ys σ H5 k hD hi' ⟨v, rfl⟩ hd h5 hl hk
          obtain ⟨ts, rfl, htl, htm⟩ := hl
          obtain ⟨y, hy⟩ := atI_neg (xs := ns.map V.str) (j := i') (by rw [List.length_map]; omega)
          obtain ⟨y', hy', rfl⟩ : ∃ y', y' ∈ ns ∧ y = .str y' := by
            obtain ⟨jj, _, hj, _⟩ := atI_get hy
            obtain ⟨y', m', e'⟩ := List.mem_map.mp (List.mem_of_getElem? hj)
            exact ⟨y', m', e'.symm⟩
          refine ⟨_, rfl, _, rfl, _, rfl, _, _, rfl, rfl, n, _, _, _, rfl, rfl, SqL.of (h5 _ _ (s4 _ _ hn)), hy, ?_⟩
          exact hk _ _ _ ⟨_, rfl⟩ (Same.refl _) (small1000 (by rw [List.length_map]; omega)) ⟨ts ++ [y'], strs_snoc ts y', by rw [List.length_append, htl]; rfl, fun t ht => (List.mem_append.mp ht).elim (htm t) fun z => by rw [List.mem_singleton.mp z]; exact hy'⟩
        · intro oa osV H5 hD hd h5 hQ4
          refine letG ?_
          intro tT
          obtain ⟨os, rfl, hol, hom⟩ := hQ4
          first | (refine lets12 ?_; intros) | (refine lets11 ?_; intros) | (refine lets10 ?_; intros) | (refine lets9 ?_; intros) | (refine lets8 ?_; intros) | (refine lets7 ?_; intros) | (refine lets6 ?_; intros) | (refine lets5 ?_; intros) | (refine lets4 ?_; intros) | (refine lets3 ?_; intros) | (refine lets2 ?_; intros) | (refine letB (g := gName _) ?_; intros) | (refine letB (g := gTup _ _ _) ?_; intros) | skip
          refine ⟨_, rfl, _, _, rfl, fun m5 => ?_⟩
          refine ⟨_, _, rfl, rfl, (by show (0 : Int) < 3; decide), _, rfl, _, _, rfl, rfl, ⟨by decide, by decide, by decide⟩, _, _, rfl, rfl, (by show (0 : Int) < 10 ^ (9 : Int).toNat; decide), (by show 2 ≤ sizeLine; decide), fun q0 H6 n6 s6 e6 => ?_⟩
          refine ⟨_, rfl, _, _, rfl, fun m6 => ?_⟩
          obtain ⟨rk, hrk, _⟩ := atI_ints (ns := [m5 % 3, cell % 10 ^ (9 : Int).toNat]) (r := m6 % 2) (Int.emod_nonneg _ (by omega)) (by show m6 % 2 < 2; omega)
          refine ⟨_, _, rfl, rfl, (by show (0 : Int) < 2; decide), q0, _, _, _, rfl, rfl, SqL.of e6, hrk, ?_⟩
          refine ⟨_, rfl, _, rfl, _, _, rfl, fun m7 => ?_⟩
          refine ⟨_, rfl, fun m H7 ms n7 s7 e7 => ?_⟩
          refine ⟨_, rfl, _, rfl, (by show 0 ≤ sizeLine; decide), fun q1 H8 n8 s8 e8 => ?_⟩
          refine ⟨(by show 0 ≤ sizeLine; decide), fun q2 H9 n9 s9 e9 => ?_⟩
          have s49 : Same H4 H9 := h5.trans (s6.trans (s7.trans (s8.trans s9)))
          refine ⟨_, rfl, ?_⟩
          dsimp only [List.set, tNil]
          refine make_pclA (K := K) (C := C) (rk := rk) (nm := nm) (mk := ms) (fs := fs) (s9 _ _ (s8 _ _ e7)) (s49 _ _ hla4) (paired_mapP hfs4 fun _ _ z => (z.same msk_same).same s49) (s9 _ _ e8) e9 (s9 _ _ (s8 _ _ (s7 _ _ (s6 _ _ hd)))) (by omega) fun x H10 n10 s10 hpc => ?_
          have s410 := s49.trans s10
          have hfa10 := s410 _ _ hfa4
          have hps10 : PclsAt C H10 vs ps := (hps4.same (msk_mono s410)).same msk_same
          refine ⟨_, rfl, fa, rfl, ⟨_, SqL.of hfa10⟩, ?_⟩
          refine comp_listG (σ0 := [none, some (.str nm)]) (SqL.of hfa10) (fun σ => ∃ v, σ = [v, some (.str nm)]) (fun j zs _ => zs.length ≤ j ∧ ∃ mss, Paired (MkV H10) zs mss ∧ ∀ p ∈ ps.take j, p.nm = nm → p.ms ∈ mss) ⟨_, rfl⟩ (fun _ _ => ⟨Nat.le_refl _, [], .nil, fun _ h => nomatch h⟩) ?_ ?_
          · intro D j y zs σ H11 k k' hD hy hQ5 hd11 h11 hQ6 hk1 hk2
            refine letG ?_
            intro tT
            obtain ⟨v, rfl⟩ := hQ5
            obtain ⟨zl, mss, pr, pm⟩ := hQ6
            first | (refine lets12 ?_; intros) | (refine lets11 ?_; intros) | (refine lets10 ?_; intros) | (refine lets9 ?_; intros) | (refine lets8 ?_; intros) | (refine lets7 ?_; intros) | (refine lets6 ?_; intros) | (refine lets5 ?_; intros) | (refine lets4 ?_; intros) | (refine lets3 ?_; intros) | (refine lets2 ?_; intros) | (refine letB (g := gName _) ?_; intros) | (refine letB (g := gTup _ _ _) ?_; intros) | skip
            obtain ⟨p, hp, b, dy, fl, rk', m', pf, pn, pss, po, ys, rfl, b1, b2, b3, b4, b5, b6⟩ := paired_get' hps10 hy
            have hlt := (List.getElem?_eq_some_iff.mp hp).1
            have il := inv4.len
            refine ⟨_, rfl, b, C, dy, _, _, rfl, h11 _ _ b1, T.cl, T.nN, b2.name, _, rfl, rfl, _, rfl, ?_⟩
            refine ite2 (fun h => ?_) (fun h => ?_)
            · refine ⟨_, rfl, b, C, dy, _, _, rfl, h11 _ _ b1, T.cl, T.nM, b2.make, ?_⟩
              refine hk1 _ _ _ ⟨_, rfl⟩ (Same.refl _) (small1000 (by omega)) ⟨by rw [List.length_append, List.length_singleton]; omega, mss ++ [p.ms], paired_snoc ⟨m', rfl, b3⟩ pr, fun p' hp' e => ?_⟩
              rw [List.take_add_one, hp] at hp'
              rcases List.mem_append.mp hp' with z | z
              · exact List.mem_append_left _ (pm p' z e)
              · have z : p' = p := List.mem_singleton.mp z
                rw [z]; exact List.mem_append_right _ (List.mem_singleton.mpr rfl)
            · refine hk2 _ _ ⟨_, rfl⟩ (Same.refl _) ⟨by omega, mss, pr, fun p' hp' e => ?_⟩
              rw [List.take_add_one, hp] at hp'
              rcases List.mem_append.mp hp' with z | z
              · exact pm p' z e
              · have z : p' = p := List.mem_singleton.mp z
                rw [z] at e
                exact absurd (by rw [e]; exact decide_eq_true rfl) h
          · intro D zs H11 hD hd11 h11 hQ7
            refine letG ?_
            intro tT
            obtain ⟨zl, mss, pr, pm⟩ := hQ7
            first | (refine lets12 ?_; intros) | (refine lets11 ?_; intros) | (refine lets10 ?_; intros) | (refine lets9 ?_; intros) | (refine lets8 ?_; intros) | (refine lets7 ?_; intros) | (refine lets6 ?_; intros) | (refine lets5 ?_; intros) | (refine lets4 ?_; intros) | (refine lets3 ?_; intros) | (refine lets2 ?_; intros) | (refine letB (g := gName _) ?_; intros) | (refine letB (g := gTup _ _ _) ?_; intros) | skip
            rw [paired_len hps10, List.take_length] at pm
            have s411 := s410.trans h11
            have il := inv4.len
            have hvl := paired_len hps10
            have keep : ∀ (a5 a6 a7 a8 a9 a10 a11 a12 a13 a14 : Option V), ∃ (t5 t6 t7 t8 t9 t10 t11 t12 t13 t14 : Option V) (vs : List V) (ps : List Pcl) (uk : List (Key × V)), [some (V.ref sc), some (.ref n), some (.int 3), some (.ref fa), some (.ref ua), a5, a6, a7, a8, a9, a10, a11, a12, a13, a14] = [some (V.ref sc), some (.ref n), some (.int 3), some (.ref fa), some (.ref ua), t5, t6, t7, t8, t9, t10, t11, t12, t13, t14] ∧ Same H H11 ∧ H11 fa = some (.lst vs) ∧ H11 ua = some (.dK uk) ∧ PclsAt C (msk [fa, ua] H11) vs ps ∧ InvP ns ps uk (i + 1) ∧ uk.length ≤ 3 * (i + 1) :=
              fun a5 a6 a7 a8 a9 a10 a11 a12 a13 a14 => ⟨a5, a6, a7, a8, a9, a10, a11, a12, a13, a14, vs, ps, uk1, rfl, s4.trans s411, s411 _ _ hfa4, s411 _ _ hua4, hps4.same ((msk_mono s411).trans (msk_less fun b hb => List.mem_cons_of_mem _ hb)), ⟨inv4.nd, inv4.ok, inv4.used, inv4.txts, Nat.le_succ_of_le inv4.len, inv4.nms, inv4.offs⟩, by omega⟩
            refine ⟨_, rfl, D, _, rfl, .inl (SqL.of hd11), _, _, rfl, rfl, _, rfl, ite2 (fun _ => ?_) (fun _ => iteF (keep _ _ _ _ _ _ _ _ _ _))⟩
            obtain ⟨x', dx, fl, rk', m', pf, pn, pss, po, ys, ex, b1, b2, b3, b4, b5, b6⟩ := (hpc [] fun _ h => nomatch h).same (msk_same.trans h11)
            cases ex
            refine ⟨_, rfl, x, C, dx, _, _, rfl, b1, T.cl, T.nM, b2.make, _, rfl, ?_⟩
            refine ⟨D, zs, dI ms, mss.map dI, rfl, SqL.of hd11, dI_dv b3, mks_dv (paired_mapP pr fun _ _ => MkV.same h11), dI_ok 8 _, (fun e he => ?_), fun bb hb => ⟨_, rfl, ite2 (fun hbt => ?_) (fun _ => keep _ _ _ _ _ _ _ _ _ _)⟩⟩
            · obtain ⟨ms', _, rfl⟩ := List.mem_map.mp he
              exact dI_ok 8 _
            · have hms : ms ∉ mss := fun hm => by
                have : bb = true := hb.mpr (List.mem_map_of_mem hm)
                rw [this] at hbt
                cases hbt
              refine ⟨_, rfl, .inl ⟨rfl, _, SqL.of (s411 _ _ hfa4)⟩, _, rfl, fa, _, _, rfl, rfl, s411 _ _ hfa4, small1000 (by omega), ?_⟩
              refine ⟨_, _, _, _, _, _, _, _, _, _, vs ++ [.ref x], ps ++ [⟨nm, ms, fs, os, rk⟩], uk1, rfl, same_upd' (s4.trans s411) na, upd_same, keep_upd (s411 _ _ hua4) fu.symm, ?_, ⟨?_, ?_, ?_, inv4.txts, ?_, ?_, ?_⟩, by omega⟩
              · rw [msk_upd List.mem_cons_self]
                refine paired_snoc ((hpc [fa, ua] fun b hb => ?_).same (msk_mono h11)) (hps4.same ((msk_mono s411).trans (msk_less fun b hb => List.mem_cons_of_mem _ hb)))
                simp only [List.mem_cons, List.not_mem_nil, or_false] at hb
                rcases hb with rfl | rfl
                · exact ⟨_, s49 _ _ hfa4, by intro vs z; cases z⟩
                · exact ⟨_, s49 _ _ hua4, by intro vs z; cases z⟩
              · rw [List.map_append, List.nodup_append]
                refine ⟨inv4.nd, by simp, fun a ha b hb => ?_⟩
                have hb : b = keyOf ⟨nm, ms, fs, os, rk⟩ := List.mem_singleton.mp hb
                rw [hb]
                intro e
                obtain ⟨p', hp', ep⟩ := List.mem_map.mp ha
                rw [e] at ep
                unfold keyOf at ep
                injection ep with ep1 ep2
                injection ep1 with ep1
                injection ep1 with ep1
                injection ep2 with ep2 _
                injection ep2 with ep2
                have ep2 : p'.ms = ms := (List.map_inj_right fun x y z => Sum.inl.inj z).mp ep2
                exact hms (ep2 ▸ pm p' hp' ep1)
              · intro p' hp'
                rcases List.mem_append.mp hp' with z | z
                · exact inv4.ok p' z
                · rw [List.mem_singleton.mp z]; exact ⟨fl3, invf.ok, invf.nd⟩
              · intro p' hp'
                rcases List.mem_append.mp hp' with z | z
                · exact inv4.used p' z
                · rw [List.mem_singleton.mp z]; exact invf.used
              · rw [List.length_append, List.length_singleton]; omega
              · intro p' hp'
                rcases List.mem_append.mp hp' with z | z
                · exact inv4.nms p' z
                · rw [List.mem_singleton.mp z]; exact List.mem_of_getElem? hnmi
              · intro p' hp'
                rcases List.mem_append.mp hp' with z | z
                · exact inv4.offs p' z
                · rw [List.mem_singleton.mp z]; exact ⟨by show os.length ≤ 2; omega, hom⟩
    · intro σ H2 hQ8
      refine letG ?_
      intro tT
      obtain ⟨t5, t6, t7, t8, t9, t10, t11, t12, t13, t14, vs, ps, uk, rfl, s2, hfa, hua, hps, inv, ul⟩ := hQ8
      exact ⟨_, rfl, q fa H2 vs ps na s2 hfa (hps.same msk_same) inv.apart⟩
end
end K33

set_option Elab.async false
set_option linter.all false
set_option maxRecDepth 100000
set_option maxHeartbeats 4000000
namespace K33
open PySem L2 PySem.Spec PyProof.Rows
open HT (At lexK okK aLt kin lexK_cons okK_cons)
/-! ### the best of some parcels -/
noncomputable def kk (p : Pcl) : List At := [.inl (-p.rk), .inr p.nm]
theorem kk_lex (a b : Pcl) : lexK (kk a) (kk b) = true ↔ b.rk < a.rk ∨ (a.rk = b.rk ∧ a.nm.cps.toList < b.nm.cps.toList) := by
  unfold kk
  rw [lexK_cons]
  by_cases h : (Sum.inl (-a.rk) : At) = Sum.inl (-b.rk)
  · have h' : a.rk = b.rk := by injection h with h; omega
    rw [if_pos h, lexK_cons]
    by_cases n : (Sum.inr a.nm : At) = Sum.inr b.nm
    · rw [if_pos n]
      injection n with n
      constructor
      · intro z; cases z
      · rintro (z | ⟨_, z⟩)
        · omega
        · rw [n] at z; exact absurd z (List.lt_irrefl _)
    · rw [if_neg n]
      show decide (a.nm.cps.toList < b.nm.cps.toList) = true ↔ _
      rw [decide_eq_true_iff]
      constructor
      · exact fun z => .inr ⟨h', z⟩
      · rintro (z | ⟨_, z⟩)
        · omega
        · exact z
  · rw [if_neg h]
    have h' : a.rk ≠ b.rk := fun z => h (by rw [z])
    show decide (-a.rk < -b.rk) = true ↔ _
    rw [decide_eq_true_iff]
    constructor
    · intro z; exact .inl (by omega)
    · rintro (z | ⟨z, _⟩)
      · omega
      · exact absurd z h'
theorem kk_ok (a b : Pcl) : okK (kk a) (kk b) := by
  unfold kk
  rw [okK_cons]
  split
  · rw [okK_cons]
    split
    · exact True.intro
    · exact True.intro
  · exact True.intro
theorem kk_irr (a : Pcl) : lexK (kk a) (kk a) = false := by
  cases z : lexK (kk a) (kk a) with
  | false => rfl
  | true =>
    rcases (kk_lex a a).mp z with h | ⟨_, h⟩
    · omega
    · exact absurd h (List.lt_irrefl _)
theorem kk_tr (a b c : Pcl) (h1 : lexK (kk a) (kk b) = true) (h2 : lexK (kk b) (kk c) = true) : lexK (kk a) (kk c) = true := by
  rw [kk_lex] at *
  rcases h1 with h1 | ⟨e1, h1⟩
  · rcases h2 with h2 | ⟨e2, h2⟩
    · exact .inl (by omega)
    · exact .inl (by omega)
  · rcases h2 with h2 | ⟨e2, h2⟩
    · exact .inl (by omega)
    · exact .inr ⟨e1.trans e2, List.lt_trans h1 h2⟩
theorem kk_tot (a b : Pcl) (h1 : lexK (kk a) (kk b) = false) (h2 : lexK (kk b) (kk a) = false) : a.nm = b.nm := by
  have n1 : ¬ (b.rk < a.rk ∨ (a.rk = b.rk ∧ a.nm.cps.toList < b.nm.cps.toList)) := fun z => by rw [← kk_lex, h1] at z; cases z
  have n2 : ¬ (a.rk < b.rk ∨ (b.rk = a.rk ∧ b.nm.cps.toList < a.nm.cps.toList)) := fun z => by rw [← kk_lex, h2] at z; cases z
  have e : a.rk = b.rk := by
    have x1 : ¬ b.rk < a.rk := fun z => n1 (.inl z)
    have x2 : ¬ a.rk < b.rk := fun z => n2 (.inl z)
    omega
  have l1 : ¬ a.nm.cps.toList < b.nm.cps.toList := fun z => n1 (.inr ⟨e, z⟩)
  have l2 : ¬ b.nm.cps.toList < a.nm.cps.toList := fun z => n2 (.inr ⟨e.symm, z⟩)
  have eq : a.nm.cps.toList = b.nm.cps.toList := List.le_antisymm l2 l1
  have ext : ∀ x y : Str, x.cps.toList = y.cps.toList → x = y := fun ⟨⟨x⟩⟩ ⟨⟨y⟩⟩ h => by
    have h : x = y := h
    rw [h]
  exact ext _ _ eq
noncomputable def Best (off : List Pcl) (p : Pcl) : Prop := p ∈ off ∧ ∀ q ∈ off, lexK (kk q) (kk p) = false
theorem Best.eq {off off' : List Pcl} {p p' : Pcl} (h : Best off p) (h' : Best off' p') (m : ∀ q, q ∈ off ↔ q ∈ off') : p.nm = p'.nm :=
  kk_tot p p' (h'.2 p ((m p).mp h.1)) (h.2 p' ((m p').mpr h'.1))
/-- the name behind a common -/
noncomputable def NB (off : List Pcl) (told : Option Str) (r : Str) : Prop := (told = some r ∧ r ∈ off.map Pcl.nm) ∨ ((∀ x, told = some x → x ∉ off.map Pcl.nm) ∧ ∃ p, Best off p ∧ r = p.nm)
theorem NB.eq {off off' : List Pcl} {told : Option Str} {r r' : Str} (h : NB off told r) (h' : NB off' told r') (m : ∀ q, q ∈ off ↔ q ∈ off') : r = r' := by
  have mm : ∀ x, x ∈ off.map Pcl.nm ↔ x ∈ off'.map Pcl.nm := fun x => by
    rw [List.mem_map, List.mem_map]
    exact ⟨fun zq432 => zq432.elim fun p zq433 => zq433.elim fun a b => ⟨p, (m p).mp a, b⟩, fun zq434 => zq434.elim fun p zq435 => zq435.elim fun a b => ⟨p, (m p).mpr a, b⟩⟩
  rcases h with ⟨a, b⟩ | ⟨a, p, bp, e⟩
  · rcases h' with ⟨a', b'⟩ | ⟨a', p', bp', e'⟩
    · rw [a] at a'; exact Option.some.inj a'
    · exact absurd ((mm _).mp b) (a' _ a)
  · rcases h' with ⟨a', b'⟩ | ⟨a', p', bp', e'⟩
    · exact absurd ((mm _).mpr b') (a _ a')
    · rw [e, e']; exact bp.eq bp' m
/-! ### a def whose code is told -/
structure FunC (K : PySem.W.Frag) (x qual : Str) (st : Stmt) (f c : Addr) (fd : FuncData) : Prop where
  ex : ∃ (oc : Value) (od : Option Addr) (kV doc pm : Value) (an : Option Addr) (ct : Value) (osl : Array (Option Value)), fd = PySem.W.fnOf x qual (defArgs st) (defBody st) (defScope st) .none kV doc pm an (.ref c) ct ∧
    K.lookup f = some ⟨oc, od, .func (PySem.W.fnOf x qual (defArgs st) (defBody st) (defScope st) .none kV doc pm an (.ref c) ct), osl⟩ ∧ PySem.W.codeIn K (.ref c) qual = true
  kp : PySem.W.keepIn K (.ref f) = true
theorem FunC.fn {K : PySem.W.Frag} {x qual : Str} {st : Stmt} {f c : Addr} {fd : FuncData} (F : FunC K x qual st f c fd) : Fun K x qual st f fd := by
  obtain ⟨⟨oc, od, kV, doc, pm, an, ct, osl, e, l, h⟩, k⟩ := F
  subst e
  exact ⟨⟨oc, od, kV, doc, pm, an, .ref c, ct, osl, rfl, l, h⟩, k⟩
theorem FunC.ok {P : Program} {w : World} {K : PySem.W.Frag} {mg : Str → Option Value} {base : Heap} {x qual : Str} {st : Stmt} {f c : Addr} {fd : FuncData} {N ps : List Str} {k : Nat} {sp : Sp} (F : FunC K x qual st f c fd) (S : FnScope N ps (defScope st)) (len : ∀ vs H Q E, sp vs H Q E → vs.length = ps.length)
    (hbody : ∀ (A : Around) (outer : List Env) (s : Shared) (H : Hp) (vs : List V) (Q : VK) (E : XK), Room k (A.deeper (envOfC qual (defScope st) s.heap.objs.size f (.ref c))) → sp vs H Q E →
      ∃ t, PSs (cxOf CX0 P w K mg base N qual (defScope st) f (.ref c) A outer s H E).nox (defBody st) t ∧ t { nx := fun _ H' => Q .non H', rt := Q } (start N vs) H) : FnOk P w K mg base CX0 (k + 1) f fd ps sp := by
  obtain ⟨oc, od, kV, doc, pm, an, ct, osl, rfl, lk, hcd⟩ := F.ex
  refine fn_of lk hcd S len fun A outer s H vs Q E hr hsp => ?_
  obtain ⟨t, h, q⟩ := hbody A outer s H vs Q E hr hsp
  exact ⟨t, h.nox, q⟩
section
variable {P : Program} {w : World} {K : PySem.W.Frag} {mg : Str → Option Value} {base : Heap}
/-! ### the commons -/
noncomputable def spCom (C : Addr) : Sp := fun vs H Q _ => ∃ (a : Addr) (xs : List V) (ps : List Pcl), vs = [.ref a] ∧ H a = some (.lst xs) ∧ PclsAt C H xs ps ∧ ps.length ≤ 6 ∧ (∀ p ∈ ps, p.os.length ≤ 2) ∧
  ∀ r H' (cs : List Str), H r = none → Same H H' → H' r = some (.lst (cs.map V.str)) → cs.Nodup → (∀ c, c ∈ cs ↔ ∃ p ∈ ps, c ∈ p.os) → cs.length ≤ 12 → Q (.ref r) H'
theorem scCom : FnScope ["parcels", "commons", "parcel"] ["parcels"] (defScope sCom) := ⟨rfl, rfl, rfl, by decide +kernel, rfl, by decide +kernel, by decide +kernel⟩
theorem okCom {f C : Addr} {fd : FuncData} (F : Fun K "commons_of" "commons_of" sCom f fd) (B : Blt mg) (T : Txt K mg C) : FnOk P w K mg base CX0 1 f fd ["parcels"] (spCom C) := by
  refine F.ok scCom (fun vs H Q E h => ?_) (fun cdv A outer s H vs Q E hr h => ?_)
  · obtain ⟨a, xs, ps, rfl, _⟩ := h
    rfl
  · refine letX ?_
    intro xX dX
    obtain ⟨a, xs, ps, rfl, ha, hps, h6, h2', q⟩ := h
    refine ⟨_, (pss_cons (ps_set (i := 1) scCom.nd rfl (Or.inl rfl) (pe_lstN pa_nil))
        (pss_cons (ps_for PassesOwn.never rfl (pi_list (pv 0)) (pg_name (i := 2) scCom.nd rfl (Or.inl rfl))
        (pss_one (ps_expr (pe_bm PySem.F.plainAttrs_list PySem.F.slot_list_extend PySem.F.type_list_extend mt_extend (pv 1) (pa_cons (pe_fld (pv 2) rfl) pa_nil)))))
        (pss_one (ps_ret (pe_callB (call_sortedY rfl) (by rfl) B.sorted PyProof.Rows.boot_sorted (pa_cons (pe_callTy (call_setL rfl) (by rfl) B.set PyProof.Rows.boot_set (pa_cons (pv 1) pa_nil)) pa_nil)))))), ?_⟩
    refine lets3 ?_
    intro dD sS uU3 uU2
    refine ⟨(by show 0 ≤ sizeLine; decide), fun c H1 n1 s1 e1 => ?_⟩
    refine ⟨_, rfl, a, rfl, ⟨_, SqL.of (s1 _ _ ha)⟩, ?_⟩
    refine for_list (xs := xs) (fun i σ H2 => ∃ u, σ = [some (.ref a), some (.ref c), u] ∧ Same H H2 ∧ H2 c = some (.lst (((ps.take i).flatMap Pcl.os).map V.str)) ∧ ((ps.take i).flatMap Pcl.os).length ≤ 2 * i) ⟨none, rfl, s1, e1, Nat.le_refl _⟩ ?_ ?_ ?_
    · intro i σ H2 hi hQ1
      refine letG ?_
      intro tT
      obtain ⟨u, rfl, s2, _⟩ := hQ1
      exact SqL.of (s2 _ _ ha)
    · intro i x σ H2 hx hQ2
      refine letG ?_
      intro tT
      obtain ⟨u, rfl, s2, hc, hl⟩ := hQ2
      first | (refine lets12 ?_; intros) | (refine lets11 ?_; intros) | (refine lets10 ?_; intros) | (refine lets9 ?_; intros) | (refine lets8 ?_; intros) | (refine lets7 ?_; intros) | (refine lets6 ?_; intros) | (refine lets5 ?_; intros) | (refine lets4 ?_; intros) | (refine lets3 ?_; intros) | (refine lets2 ?_; intros) | (refine letB (g := gName _) ?_; intros) | (refine letB (g := gTup _ _ _) ?_; intros) | skip
      obtain ⟨p, hp, b, dy, fl, rk, m, pf, pn, pss, po, ys, rfl, h1, h2, h3, h4, h5, h6', _⟩ := paired_get' hps hx
      have hi := (List.getElem?_eq_some_iff.mp hp).1
      have ho := h2' p (List.mem_of_getElem? hp)
      refine ⟨_, rfl, .inl ⟨rfl, _, SqL.of hc⟩, _, rfl, b, C, dy, _, _, rfl, s2 _ _ h1, T.cl, T.nO, h2.offers, c, po, _, _, rfl, rfl, hc, s2 _ _ h6', smallL (by rw [List.length_map, List.length_map]; omega), ?_⟩
      refine ⟨_, rfl, same_upd' s2 n1, ?_, ?_⟩
      · rw [upd_same, List.take_add_one, hp, List.flatMap_append, List.map_append]
        simp
      · have e2 : (List.flatMap Pcl.os (some p).toList) = p.os := by simp
        rw [List.take_add_one, hp, List.flatMap_append, List.length_append, e2]
        omega
    · intro σ H2 hQ3
      refine letG ?_
      intro tT
      obtain ⟨u, rfl, s2, hc, hl⟩ := hQ3
      first | (refine lets12 ?_; intros) | (refine lets11 ?_; intros) | (refine lets10 ?_; intros) | (refine lets9 ?_; intros) | (refine lets8 ?_; intros) | (refine lets7 ?_; intros) | (refine lets6 ?_; intros) | (refine lets5 ?_; intros) | (refine lets4 ?_; intros) | (refine lets3 ?_; intros) | (refine lets2 ?_; intros) | (refine letB (g := gName _) ?_; intros) | (refine letB (g := gTup _ _ _) ?_; intros) | skip
      rw [paired_len hps, List.take_length] at hc hl
      refine ⟨_, rfl, c, _, rfl, SqL.of hc, by omega, fun r zs H3 n3 s3 e3 nd mem => ?_⟩
      have lz := nodup_len nd fun z hz => (mem z).mp hz
      refine ⟨r, zs, rfl, e3, by omega, fun ys' hp hs => fun l H4 n4 s4 e4 => ?_⟩
      refine q l H4 ys' (s2.free (s3.free n4)) (s2.trans (s3.trans s4)) e4 (hp.nodup_iff.mpr nd) (fun z => ?_) (by rw [hp.length_eq]; omega)
      rw [hp.mem_iff, mem z, List.mem_flatMap]
end
end K33

set_option Elab.async false
set_option linter.all false
set_option maxRecDepth 100000
set_option maxHeartbeats 4000000
namespace K33
open PySem L2 PySem.Spec PyProof.Rows
open HT (At lexK okK)
theorem inV_str {z : Str} {xs : List Str} : inV (.str z) (xs.map V.str) = true ↔ z ∈ xs := by
  unfold inV
  rw [List.any_eq_true]
  constructor
  · rintro ⟨v, hv, e⟩
    obtain ⟨y, hy, rfl⟩ := List.mem_map.mp hv
    have : y = z := by simpa [eqV] using e
    rw [← this]; exact hy
  · intro h
    exact ⟨.str z, List.mem_map_of_mem h, by simp [eqV]⟩
theorem inV_non {xs : List Str} : inV .non (xs.map V.str) = false := by
  unfold inV
  rw [List.any_eq_false]
  intro v hv
  obtain ⟨y, hy, rfl⟩ := List.mem_map.mp hv
  simp [eqV]
/-- what is told of a common -/
noncomputable def toldOf (hk : List (Key × V)) (c : Str) : Option Str := match valV hk (.inr c) with | some (.str y) => some y | _ => none
noncomputable def HkOk (hk : List (Key × V)) : Prop := ∀ k v, valV hk k = some v → ∃ y, v = .str y ∧ Ln y
theorem told_val {hk : List (Key × V)} (h : HkOk hk) (c : Str) : ((valV hk (.inr c)).getD .non = .non ∧ toldOf hk c = none) ∨ ∃ y, (valV hk (.inr c)).getD .non = .str y ∧ toldOf hk c = some y ∧ Ln y := by
  unfold toldOf
  cases e : valV hk (.inr c) with
  | none => exact .inl ⟨rfl, rfl⟩
  | some v =>
    obtain ⟨y, rfl, hy⟩ := h _ _ e
    exact .inr ⟨y, rfl, rfl, hy⟩
noncomputable def offer (c : Str) (ps : List Pcl) : List Pcl := ps.filter fun p => decide (c ∈ p.os)
theorem offer_take {ps : List Pcl} {i : Nat} {p : Pcl} (h : ps[i]? = some p) (c : Str) : offer c (ps.take (i + 1)) = offer c (ps.take i) ++ (if c ∈ p.os then [p] else []) := by
  unfold offer
  rw [filter_take h]
  by_cases z : c ∈ p.os
  · simp [z]
  · simp [z]
/-- the parcels' places -/
theorem pcls_refs {C : Addr} {H : Hp} : ∀ {vs : List V} {ps : List Pcl}, PclsAt C H vs ps → ∃ as : List Addr, vs = as.map V.ref
  | _, _, .nil => ⟨[], rfl⟩
  | _, _, .cons r t => by
    obtain ⟨a, _, _, _, _, _, _, _, _, _, rfl, _⟩ := r
    obtain ⟨as, rfl⟩ := pcls_refs t
    exact ⟨a :: as, rfl⟩
noncomputable def pz : Pcl := ⟨Str.empty, [], [], [], 0⟩
theorem TabSt.at {H : Hp} {Pt : Addr} {lp : Pos} {qu : Str} (h : TabSt H Pt lp qu) : ∃ φ, H Pt = some (.ext φ) := by
  rcases h with z | ⟨c', z, _⟩
  · exact ⟨_, z⟩
  · exact ⟨_, z⟩
theorem TabSt.ne {H : Hp} {Pt b : Addr} {lp : Pos} {qu : Str} (h : TabSt H Pt lp qu) {o : HO} (e : H b = some o) (n : ∀ φ, o ≠ .ext φ) : b ≠ Pt := fun z => by
  obtain ⟨φ, w⟩ := TabSt.at h
  rw [z, w] at e
  cases e
  exact n _ rfl
theorem TabSt.new {H : Hp} {Pt b : Addr} {lp : Pos} {qu : Str} (h : TabSt H Pt lp qu) (e : H b = none) : b ≠ Pt := fun z => by
  obtain ⟨φ, w⟩ := TabSt.at h
  rw [z, w] at e
  cases e
noncomputable def lamPos : Pos := match defBody sNBe with
  | [_, _, _, .Return (some (.Attribute (.Call _ _ [⟨_, .Lambda _ _ _ p, _⟩] _) _ _)) _] => p
  | _ => ⟨0, 0, 0, 0⟩
noncomputable def lamQual : Str := "name_behind.<locals>.<lambda>"
section
variable {P : Program} {w : World} {K : PySem.W.Frag} {mg : Str → Option Value} {base : Heap}
noncomputable def spNBe (C Pt : Addr) : Sp := fun vs H Q _ => ∃ (a h : Addr) (c : Str) (xs : List V) (px : List Pcl) (hk : List (Key × V)), vs = [.str c, .ref a, .ref h] ∧ H a = some (.lst xs) ∧ PclsAt C H xs px ∧ px.length ≤ 6 ∧ (∃ p ∈ px, c ∈ p.os) ∧ H h = some (.dK hk) ∧ HkOk hk ∧ (∀ p ∈ px, Ln p.nm) ∧ TabSt H Pt lamPos lamQual ∧
  ∀ r H', KeepT Pt H H' → TabSt H' Pt lamPos lamQual → Ln r → NB (offer c px) (toldOf hk c) r → Q (.str r) H'
theorem scNBe : FnScope ["common", "parcels", "choices", "offering", "told"] ["common", "parcels", "choices"] (defScope sNBe) := ⟨rfl, rfl, rfl, by decide +kernel, rfl, by decide +kernel, by decide +kernel⟩
theorem okNBe {f C c Pt : Addr} {fd : FuncData} (F : FunC K "name_behind" "name_behind" sNBe f c fd) (B : Blt mg) (T : Txt K mg C) (hd : PySem.W.codeHdIn K c Pt = true) (hb : base.BuiltinsAt mg Pt) : FnOk P w K mg base CX0 3 f fd ["common", "parcels", "choices"] (spNBe C Pt) := by
  refine F.ok scNBe (fun vs H Q E h => ?_) (fun A outer s H vs Q E hr h => ?_)
  · obtain ⟨a, h, cm, xs, px, hk, rfl, _⟩ := h
    rfl
  · refine letX ?_
    intro xX dX
    obtain ⟨a, h, cm, xs, px, hk, rfl, ha, hps, h6, hex, hh, hok, hln, tab, q⟩ := h
    have hu := hr.units
    have hr1 : Room 1 (A.deeper (envOfC "name_behind" (defScope sNBe) s.heap.objs.size f (.ref c))).in1 := hr.in1
    refine ⟨_, (pss_cons (ps_setComp (i := 3) ["parcel"] ["common"] [0] scNBe.nd rfl rfl ⟨rfl, by decide +kernel, by decide +kernel, by decide +kernel, by decide +kernel, rfl, rfl, rfl⟩ rfl (pi_list (pv 1)) (fun _ _ _ _ => (pg_name (i := 0) (show List.Nodup (["parcel", "common"] : List Str) by decide +kernel) rfl (Or.inl rfl))) (fun _ _ _ _ => pts_one (pt_cmpR (op_inK K) (pv 1) (pe_fldK K (pv 0) rfl) (by rfl))) (fun _ _ _ _ => (pv 0)))
        (pss_cons (ps_set (i := 4) scNBe.nd rfl (Or.inl rfl) (pe_dget1 hu (pv 2) (pv 0) ⟨rfl, rfl, rfl, rfl⟩))
        (pss_cutE (ps_if (pt_cmpR op_in_seq (pv 4) (pe_compF ["parcel"] [] [] ⟨rfl, by decide +kernel, by decide +kernel, by decide +kernel, by decide +kernel, rfl, rfl, rfl⟩ rfl (pi_list (pv 3)) (fun _ _ _ _ => (pg_name (i := 0) (show List.Nodup (["parcel"] : List Str) by decide +kernel) rfl (Or.inl rfl))) (fun _ _ _ _ => pts_nil) (fun _ _ _ _ => (pe_fldK K (pv 0) rfl))) (by rfl))
        (pss_one (ps_ret (pv 4))) pss_nil)
        (pss_one (ps_ret (pe_fld (pe_minLam (c := c) (P := Pt) (x := "parcel") (qual := lamQual) (pv 3) ⟨rfl, rfl, rfl, by decide +kernel, rfl, by decide +kernel, by decide +kernel⟩ hr1 rfl rfl hd hb rfl B.min
          (fun _ _ _ _ _ _ _ => pe_tupN (pa_cons (pe_un un_neg (pe_fldK K (pv 0) rfl)) (pa_cons (pe_fldK K (pv 0) rfl) pa_nil))) (fun _ _ _ _ => rfl)) rfl)))))), ?_⟩
    refine lets3 ?_
    intro dD sS uU3 uU2
    refine ⟨_, rfl, a, rfl, ⟨_, SqL.of ha⟩, ?_⟩
    intro D hD
    refine comp_listD (σ0 := [none, some (.str cm)]) hD (SqL.of ha) (fun σ => ∃ v, σ = [v, some (.str cm)]) (fun j zs H3 => zs.length ≤ j ∧ PclsAt C H zs (offer cm (px.take j))) ⟨_, rfl⟩ ⟨Nat.le_refl _, .nil⟩ ?_ ?_
    · rintro j y zs σ H3 k k' hy ⟨v, rfl⟩ hd3 h3 ⟨zl, zp⟩ hk1 hk2
      obtain ⟨p, hp, hE⟩ := paired_get' hps hy
      obtain ⟨b, dy, fl, rk, m, pf, pn, pss, po, ys, rfl, b1, b2, b3, b4, b5, b6, b7⟩ := id hE
      have hlt := (List.getElem?_eq_some_iff.mp hp).1
      refine ⟨_, rfl, _, rfl, b, C, dy, _, _, rfl, h3 _ _ b1, T.cl, T.nO, b2.offers, po, _, rfl, .inl (SqL.of (h3 _ _ b6)), rfl, flat_strs _, _, rfl, ?_⟩
      refine ite2 (fun h => ?_) (fun h => ?_)
      · have hin : cm ∈ p.os := inV_str.mp h
        refine ⟨_, rfl, hk1 _ _ _ ⟨_, rfl⟩ (Same.refl _) (small1000 (by omega)) ⟨by rw [List.length_append, List.length_singleton]; omega, ?_⟩⟩
        rw [offer_take hp, if_pos hin]
        exact paired_snoc hE zp
      · have hin : cm ∉ p.os := fun z => h (inV_str.mpr z)
        refine hk2 _ _ ⟨_, rfl⟩ (Same.refl _) ⟨by omega, ?_⟩
        rw [offer_take hp, if_neg hin, List.append_nil]
        exact zp
    · rintro zs H3 hd3 h3 ⟨zl, zp⟩
      rw [paired_len hps, List.take_length] at zp
      have zl6 : zs.length ≤ 6 := by have := paired_len hps; omega
      have hoff : 0 < (offer cm px).length := by
        obtain ⟨p, hp, hc⟩ := hex
        exact List.length_pos_of_mem (List.mem_filter.mpr ⟨hp, decide_eq_true hc⟩)
      have hln' : ∀ p ∈ offer cm px, Ln p.nm := fun p hp => hln p (List.mem_filter.mp hp).1
      refine ⟨_, rfl, h, rfl, .inl ⟨_, .inl (h3 _ _ hh)⟩, _, rfl, _, DGet.k (k := .inr cm) (h3 _ _ hh), ?_⟩
      refine ⟨fun σ5 H5 => (∃ v, σ5 = [some (.str cm), some (.ref a), some (.ref h), some (.ref D), some v]) ∧ Same H3 H5 ∧ ∀ x, toldOf hk cm = some x → x ∉ (offer cm px).map Pcl.nm, ?_, ?_⟩
      · rcases told_val hok cm with ⟨e, et⟩ | ⟨y, e, et, hy⟩
        · rw [e]
          refine ⟨_, rfl, _, rfl, D, rfl, ⟨_, SqL.of hd3⟩, ?_⟩
          refine comp_list0 (σ0 := [none]) (SqL.of hd3) (fun σ => ∃ v, σ = [v]) (fun j zs' _ => zs' = (((offer cm px).take j).map Pcl.nm).map V.str) ⟨_, rfl⟩ (fun _ _ => rfl) ?_ ?_
          · rintro D2 j y' zs' σ H4 k hD2 hy' ⟨v, rfl⟩ hd4 h4 rfl hk'
            obtain ⟨p, hp, b, dy, fl, rk, m, pf, pn, pss, po, ys, rfl, b1, b2, b3, b4, b5, b6, b7⟩ := paired_get' zp hy'
            have hlt := (List.getElem?_eq_some_iff.mp hy').1
            refine ⟨_, rfl, b, C, dy, _, _, rfl, h4 _ _ (h3 _ _ b1), T.cl, T.nN, b2.name, hk' _ _ _ ⟨_, rfl⟩ (Same.refl _) (small1000 (by rw [List.length_map, List.length_map, List.length_take]; omega)) ?_⟩
            rw [List.take_add_one, hp, List.map_append, List.map_append]
            rfl
          · rintro D2 zs' H4 hD2 hd4 h4 rfl
            rw [paired_len zp, List.take_length] at hd4
            refine ⟨D2, _, rfl, .inl (SqL.of hd4), rfl, flat_strs _, _, rfl, ?_⟩
            refine ite2 (fun h => ?_) (fun _ => ⟨⟨_, rfl⟩, h4, fun x z => by rw [et] at z; cases z⟩)
            have h : inV .non (((offer cm px).map Pcl.nm).map V.str) = true := h
            rw [inV_non] at h
            cases h
        · rw [e]
          refine ⟨_, rfl, _, rfl, D, rfl, ⟨_, SqL.of hd3⟩, ?_⟩
          refine comp_list0 (σ0 := [none]) (SqL.of hd3) (fun σ => ∃ v, σ = [v]) (fun j zs' _ => zs' = (((offer cm px).take j).map Pcl.nm).map V.str) ⟨_, rfl⟩ (fun _ _ => rfl) ?_ ?_
          · rintro D2 j y' zs' σ H4 k hD2 hy' ⟨v, rfl⟩ hd4 h4 rfl hk'
            obtain ⟨p, hp, b, dy, fl, rk, m, pf, pn, pss, po, ys, rfl, b1, b2, b3, b4, b5, b6, b7⟩ := paired_get' zp hy'
            have hlt := (List.getElem?_eq_some_iff.mp hy').1
            refine ⟨_, rfl, b, C, dy, _, _, rfl, h4 _ _ (h3 _ _ b1), T.cl, T.nN, b2.name, hk' _ _ _ ⟨_, rfl⟩ (Same.refl _) (small1000 (by rw [List.length_map, List.length_map, List.length_take]; omega)) ?_⟩
            rw [List.take_add_one, hp, List.map_append, List.map_append]
            rfl
          · rintro D2 zs' H4 hD2 hd4 h4 rfl
            rw [paired_len zp, List.take_length] at hd4
            refine ⟨D2, _, rfl, .inl (SqL.of hd4), rfl, flat_strs _, _, rfl, ?_⟩
            have s04 := h3.trans h4
            refine ite2 (fun h => ?_) (fun h => ⟨⟨_, rfl⟩, h4, fun x z => by
              rw [et] at z
              cases z
              exact fun m => h (inV_str.mpr m)⟩)
            exact ⟨_, rfl, q y H4 (fun x o ex _ => s04 _ _ ex) (tab.same s04) hy (.inl ⟨et, inV_str.mp h⟩)⟩
      · intro σ5 H5 hQ1
        refine letG ?_
        intro tT
        obtain ⟨⟨v, rfl⟩, s5, hno⟩ := hQ1
        first | (refine lets12 ?_; intros) | (refine lets11 ?_; intros) | (refine lets10 ?_; intros) | (refine lets9 ?_; intros) | (refine lets8 ?_; intros) | (refine lets7 ?_; intros) | (refine lets6 ?_; intros) | (refine lets5 ?_; intros) | (refine lets4 ?_; intros) | (refine lets3 ?_; intros) | (refine lets2 ?_; intros) | (refine letB (g := gName _) ?_; intros) | (refine letB (g := gTup _ _ _) ?_; intros) | skip
        obtain ⟨as, eas⟩ := pcls_refs zp
        have s05 : Same H H5 := h3.trans s5
        have zp5 := zp.same s05
        have tab5 : TabSt H5 Pt lamPos lamQual := tab.same s05
        have hD5 : H5 D = some (.lst (as.map V.ref)) := by rw [← eas]; exact s5 _ _ hd3
        have hlen := paired_len zp
        rw [eas, List.length_map] at hlen
        have at_ : ∀ (i : Nat) (b : Addr), as[i]? = some b → ∃ p, (offer cm px)[i]? = some p ∧ PclAt C H5 (.ref b) p := fun i b hi => by
          have : zs[i]? = some (V.ref b) := by rw [eas, List.getElem?_map, hi]; rfl
          exact paired_get' zp5 this
        have gd : ∀ (i : Nat) (p : Pcl), (offer cm px)[i]? = some p → (offer cm px).getD i pz = p := fun i p hi => by
          rw [List.getD_eq_getElem?_getD, hi]; rfl
        refine ⟨_, rfl, D, as, fun i => kk ((offer cm px).getD i pz), rfl, TabSt.ne tab5 hD5 (by intro φ z; cases z), hD5, by omega, fun i j => kk_ok _ _, fun i j l => kk_tr _ _ _, fun i => kk_irr _, tab5, fun i b hi H2 kp => ?_, fun i b H' hi bst kp tb' => ?_⟩
        · obtain ⟨p, hp, hE⟩ := at_ i b hi
          obtain ⟨b', dy, fl, rk, m, pf, pn, pss, po, ys, eb, b1, b2, b3, b4, b5, b6, b7⟩ := hE
          cases eb
          have b1' := kp _ _ b1 (TabSt.ne tab5 b1 (by intro φ z; cases z))
          have b2r := b2.rank
          rw [b7] at b2r
          refine ⟨_, rfl, b, C, dy, _, _, rfl, b1', T.cl, T.nR, b2r, _, rfl, _, rfl, b, C, dy, _, _, rfl, b1', T.cl, T.nN, b2.name, (by show 2 ≤ sizeLine; decide), fun kt H3' n3 s3 e3 => ⟨kt, rfl, s3, ?_⟩⟩
          rw [e3]
          dsimp only
          rw [gd i p hp]
          rfl
        · obtain ⟨p, hp, hE⟩ := at_ i b hi
          obtain ⟨b', dy, fl, rk, m, pf, pn, pss, po, ys, eb, b1, b2, b3, b4, b5, b6, b7⟩ := hE
          cases eb
          have b1' := kp _ _ b1 (TabSt.ne tab5 b1 (by intro φ z; cases z))
          have pm : p ∈ offer cm px := List.mem_of_getElem? hp
          refine ⟨b, C, dy, _, _, rfl, b1', T.cl, T.nN, b2.name, q p.nm H' (fun x o ex nx => kp _ _ (s05 _ _ ex) nx) tb' (hln' p pm) (.inr ⟨hno, p, ⟨pm, fun q' hq' => ?_⟩, rfl⟩)⟩
          obtain ⟨j, hj⟩ := List.getElem?_of_mem hq'
          have := bst j (by have := (List.getElem?_eq_some_iff.mp hj).1; omega)
          dsimp only at this
          rw [gd j q' hj, gd i p hp] at this
          exact this
end
end K33

set_option Elab.async false
set_option linter.all false
set_option maxRecDepth 100000
set_option maxHeartbeats 4000000
namespace K33
open PySem L2 PySem.Spec PyProof.Rows
open HT (At lexK okK)
/-! ### the tree -/
noncomputable def eqS (c : Str) : Str := Str.ofString "=" ++ c
theorem eqS_inj {a b : Str} (h : eqS a = eqS b) : a = b := by
  have e := congrArg (fun z : Str => z.cps.toList) h
  have e1 : ∀ x : Str, (eqS x).cps.toList = (Str.ofString "=").cps.toList ++ x.cps.toList := fun x => by
    show ((Str.ofString "=").cps ++ x.cps).toList = _
    simp
  simp only [e1] at e
  have e2 := List.append_cancel_left e
  have ext : ∀ x y : Str, x.cps.toList = y.cps.toList → x = y := fun ⟨⟨x⟩⟩ ⟨⟨y⟩⟩ h => by
    have h : x = y := h
    rw [h]
  exact ext _ _ e2
theorem eqS_ln {c : Str} (h : Ln c) (h20 : c.length ≤ 20) : Ln (eqS c) := by
  refine ⟨txtOk_app (by decide +kernel) h.ok, ?_⟩
  unfold eqS
  rw [len_app]
  have : (Str.ofString "=").length = 1 := by decide +kernel
  omega
theorem PclAt.off {C : Addr} {H : Hp} {v : V} {p : Pcl} {L : List Addr} (hL : ∀ b ∈ L, ∀ o, H b = some o → (∀ c d f, o ≠ .ins c d f) ∧ (∀ vs, o ≠ .tup vs) ∧ ∀ vs, o ≠ .lst vs) (h : PclAt C H v p) : PclAt C (msk L H) v p := by
  obtain ⟨a, dx, fl, rk, m, pf, pn, ps, po, xs, e, h1, h2, h3, h4, h5, h6, h7⟩ := h
  have t : ∀ {b : Addr} {vs : List V}, H b = some (.tup vs) → msk L H b = some (.tup vs) := fun e => msk_at (fun z => (hL _ z _ e).2.1 _ rfl) e
  have l : ∀ {b : Addr} {vs : List V}, H b = some (.lst vs) → msk L H b = some (.lst vs) := fun e => msk_at (fun z => (hL _ z _ e).2.2 _ rfl) e
  exact ⟨a, dx, fl, rk, m, pf, pn, ps, po, xs, e, msk_at (fun z => (hL _ z _ h1).1 _ _ _ rfl) h1, h2, t h3, l h4, paired_mapP h5 fun _ _ zq436 => zq436.elim fun t' zq437 => zq437.elim fun l' zq438 => zq438.elim fun x1 zq439 => zq439.elim fun x2 x3 => ⟨t', l', x1, t x2, l x3⟩, l h6, h7⟩
theorem TabSt.put {H : Hp} {Pt d : Addr} {lp : Pos} {qu : Str} {ks : List (Key × V)} {o : HO} (hd : H d = some (.dK ks)) (h : TabSt H Pt lp qu) : TabSt (upd H d o) Pt lp qu := by
  have k : ∀ {b : Addr} {φ : Heap → Prop}, H b = some (.ext φ) → upd H d o b = some (.ext φ) := fun e => keep_upd e (ne_of e hd (by intro z; cases z))
  rcases h with z | ⟨c', z1, z2⟩
  · exact .inl (k z)
  · exact .inr ⟨c', k z1, k z2⟩
theorem putP_new {β : Type} {tr : List (Str × β)} {x : Str} {y : β} (h : x ∉ tr.map (·.1)) : putP tr x y = tr ++ [(x, y)] := by
  unfold putP
  rw [if_neg (fun z => h (any_key.mp z))]
/-- one entry of the tree -/
noncomputable def Ent (px : List Pcl) (hk : List (Key × V)) (f : Str × List Str) : Prop := ∃ c r, f = (eqS c, [r]) ∧ Ln (eqS c) ∧ Ln r ∧ (∃ p ∈ px, c ∈ p.os) ∧ NB (offer c px) (toldOf hk c) r
section
variable {P : Program} {w : World} {K : PySem.W.Frag} {mg : Str → Option Value} {base : Heap}
noncomputable def spTre (C S T Pt : Addr) : Sp := fun vs H Q _ => ∃ (sv tv : V) (xs : List V) (ps : List Pcl) (ch : Ch) (hk : List (Key × V)), vs = [sv, tv] ∧ ShelfAt S H sv xs ps ∧ PclsAt C H xs ps ∧ (∀ p ∈ ps, p.fs = [] ∧ p.os.length ≤ 2 ∧ Ln p.nm ∧ ∀ t ∈ p.os, Ln t ∧ t.length ≤ 20) ∧ StandAt T H tv ch hk ∧ HkOk hk ∧ Valid xs ps ch ∧ ch.length ≤ 6 ∧ TabSt H Pt lamPos lamQual ∧
  ∀ d H' kvs (tr : Tr) px, H d = none → KeepT Pt H H' → TabSt H' Pt lamPos lamQual → H' d = some (.dK kvs) → Paired (DuV H') kvs tr → (tr.map (·.1)).Nodup → tr.length ≤ 12 → (∀ f ∈ tr, Ent px hk f) → (∀ c, (∃ p ∈ px, c ∈ p.os) → eqS c ∈ tr.map (·.1)) → (px.map (·.nm)).Perm (ch.map (·.1)) → (∀ p ∈ px, p ∈ ps ∧ (p.nm, p.ms) ∈ ch) → Q (.ref d) H'
theorem scTre : FnScope ["shelf", "stand", "parcels", "brought", "tree", "path", "change", "common"] ["shelf", "stand"] (defScope sTre) := ⟨rfl, rfl, rfl, by decide +kernel, rfl, by decide +kernel, by decide +kernel⟩
theorem okTre {f C S T Pt fSPa fPsO fBro fCom fNBe : Addr} {fd fdSPa fdPsO fdBro fdCom fdNBe : FuncData} (F : Fun K "tree_of" "tree_of" sTre f fd) (B : Blt mg) (TC : Txt K mg C) (US : TxtS K mg S fSPa) (UT : TxtT K mg T) (FSPa : Fun K "parcel" "Shelf.parcel" sSPa fSPa fdSPa)
    (FPsO : Fun K "parcels_of" "parcels_of" sPsO fPsO fdPsO) (mPsO : mg "parcels_of" = some (.ref fPsO)) (FBro : Fun K "brought_by" "brought_by" sBro fBro fdBro) (mBro : mg "brought_by" = some (.ref fBro)) (FCom : Fun K "commons_of" "commons_of" sCom fCom fdCom) (mCom : mg "commons_of" = some (.ref fCom))
    (FNBe : Fun K "name_behind" "name_behind" sNBe fNBe fdNBe) (mNBe : mg "name_behind" = some (.ref fNBe)) (GNBe : FnOk P w K mg base CX0 3 fNBe fdNBe ["common", "parcels", "choices"] (spNBe C Pt)) :
    FnOk P w K mg base CX0 4 f fd ["shelf", "stand"] (spTre C S T Pt) := by
  have GPsO : FnOk P w K mg base CX0 2 fPsO fdPsO ["shelf", "chosen"] (spPsO S) := okPsO FPsO B US FSPa
  have bPsO := FPsO.binds2 (l := ["shelf", "chosen"]) (fun _ _ _ _ _ _ _ _ => rfl)
  have GBro : FnOk P w K mg base CX0 1 fBro fdBro ["parcels"] (spBro C) := okBro FBro B TC
  have bBro := FBro.binds1 (l := ["parcels"]) (fun _ _ _ _ _ _ _ => rfl)
  have GCom : FnOk P w K mg base CX0 1 fCom fdCom ["parcels"] (spCom C) := okCom FCom B TC
  have bCom := FCom.binds1 (l := ["parcels"]) (fun _ _ _ _ _ _ _ => rfl)
  have bNBe := FNBe.binds3 (l := ["common", "parcels", "choices"]) (fun _ _ _ _ _ _ _ _ _ => rfl)
  refine F.ok scTre (fun vs H Q E h => ?_) (fun cdv A outer s H vs Q E hr h => ?_)
  · obtain ⟨sv, tv, xs, ps, ch, hk, rfl, _⟩ := h
    rfl
  · refine letX ?_
    intro xX dX
    obtain ⟨sv, tv, xs, ps, ch, hk, rfl, hS, hP, h3, hT, hok, hV, h6, tab, q⟩ := h
    have hu := hr.units
    have hr1 : Room 1 (A.deeper (PyProof.Rows.envOfC "tree_of" (defScope sTre) s.heap.objs.size f cdv)) := hr.mono (by decide)
    have hr2 : Room 2 (A.deeper (PyProof.Rows.envOfC "tree_of" (defScope sTre) s.heap.objs.size f cdv)) := hr.mono (by decide)
    refine ⟨_, (pss_cons (ps_set (i := 2) scTre.nd rfl (Or.inl rfl) (pe_call GPsO hr2 rfl mPsO FPsO.kp bPsO .nil pass0 (pa_cons (pv 0) (pa_cons (pe_fld (pv 1) rfl) pa_nil))))
        (pss_cons (ps_set (i := 3) scTre.nd rfl (Or.inl rfl) (pe_call GBro hr1 rfl mBro FBro.kp bBro .nil pass0 (pa_cons (pv 2) pa_nil)))
        (pss_cons (ps_set (i := 4) scTre.nd rfl (Or.inl rfl) (pe_callTy call_dictN (by rfl) B.dict PyProof.Rows.boot_dict (pa_cons (pv 3) pa_nil)))
        (pss_cons (ps_forItems PassesOwn.never rfl (pe_fld (pv 1) rfl) (pg_tup rfl (pgs_cons (pg_name (i := 5) scTre.nd rfl (Or.inl rfl)) (pgs_cons (pg_name (i := 6) scTre.nd rfl (Or.inl rfl)) pgs_nil)))
        pss_never)
        (pss_cons (ps_for PassesOwn.never rfl (pi_list (pe_call GCom hr1 rfl mCom FCom.kp bCom .nil pass0 (pa_cons (pv 2) pa_nil))) (pg_name (i := 7) scTre.nd rfl (Or.inl rfl))
        (pss_one (ps_dput hu (pv 4) (pe_join2 pe_str (pe_fmt (pv 7))) (pe_lstN (pa_cons (pe_call GNBe hr rfl mNBe FNBe.kp bNBe .nil pass0 (pa_cons (pv 7) (pa_cons (pv 2) (pa_cons (pe_fld (pv 1) rfl) pa_nil)))) pa_nil)) rfl)))
        (pss_one (ps_ret (pv 4)))))))), ?_⟩
    refine lets6 ?_
    intro dD sS uU6 uU5 uU4 uU3 uU2
    obtain ⟨a, dx, fl, c, h, o, rfl, t1, t2, t3, t4, t5, t6, t7⟩ := hT
    refine ⟨_, rfl, _, rfl, a, T, dx, _, _, rfl, t1, UT.cl, UT.nC, t2, ?_⟩
    refine ⟨sv, c, xs, ps, ch, rfl, hS, t5, hV, by omega, fun D H1 vs' px n1 s1 e1 pr pn pc => ?_⟩
    have hP1 := inn_at (hP.same s1) pr
    have pm := inn_mem pr
    have hpl : px.length ≤ 6 := by
      have e := pn.length_eq
      rw [List.length_map, List.length_map] at e
      omega
    have h0 : filesOf px = [] := by
      unfold filesOf
      rw [List.flatMap_eq_nil_iff]
      exact fun p hp => (h3 p (pm p hp)).1
    refine ⟨_, rfl, D, vs', px, rfl, e1, hP1, by rw [h0]; decide, fun d H2 kvs tr n2 s2 e2 pr2 g2 => ?_⟩
    rw [h0] at g2
    have htr : tr = [] := List.length_eq_zero_iff.mp (Nat.le_zero.mp g2.len)
    subst htr
    cases pr2
    refine ⟨_, rfl, d, _, rfl, e2, fun d3 H3 n3 s3 e3 => ?_⟩
    have s13 := s1.trans (s2.trans s3)
    refine ⟨_, rfl, a, T, dx, _, _, rfl, s13 _ _ t1, UT.cl, UT.nO, t4, o, [], rfl, s13 _ _ t7, for_items0 (s13 _ _ t7) ?_⟩
    refine ⟨_, rfl, D, vs', px, rfl, s3 _ _ (s2 _ _ e1), hP1.same (s2.trans s3), hpl, fun p hp => (h3 p (pm p hp)).2.1, fun r H4 cs n4 s4 e4 cnd cmem cl => ?_⟩
    refine ⟨r, rfl, ⟨_, SqL.of e4⟩, ?_⟩
    have s04 := s13.trans s4
    have n03 : H d3 = none := s1.free (s2.free n3)
    have d3P : d3 ≠ Pt := TabSt.new tab n03
    have tab4 : TabSt H4 Pt lamPos lamQual := tab.same s04
    have rP : r ≠ Pt := TabSt.ne tab4 e4 (by intro φ z; cases z)
    have cln : ∀ x ∈ cs, Ln x ∧ x.length ≤ 20 := fun x hx => by
      obtain ⟨p, hp, hx⟩ := (cmem x).mp hx
      exact (h3 p (pm p hp)).2.2.2 x hx
    have hk1 : ∀ (H' : Hp) kv f, DuV H' kv f → kv.1 = Sum.inr f.1 := fun _ kv f z => z.1
    have dd : ∀ {b : Addr} {o : HO}, H4 b = some o → b ≠ Pt → b ≠ d3 → msk [Pt, d3] H4 b = some o := fun e n1 n2 => msk_at (by simp [n1, n2]) e
    have e34 := s4 _ _ e3
    have hP4 : PclsAt C (msk [Pt, d3] H4) vs' px := paired_mapP (hP1.same (s2.trans (s3.trans s4))) fun _ _ z => z.off fun b hb o eo => by
      rcases List.mem_cons.mp hb with e | e
      · obtain ⟨φ, w⟩ := TabSt.at tab4
        rw [e, w] at eo
        cases eo
        exact ⟨(by intro _ _ _ z; cases z), (by intro _ z; cases z), (by intro _ z; cases z)⟩
      · rw [List.mem_singleton.mp e, e34] at eo
        cases eo
        exact ⟨(by intro _ _ _ z; cases z), (by intro _ z; cases z), (by intro _ z; cases z)⟩
    have inH : ∀ {b : Addr} {o : HO}, H b = some o → (∀ φ, o ≠ .ext φ) → msk [Pt, d3] H4 b = some o := fun e n => dd (s04 _ _ e) (TabSt.ne tab e n) (ne_of_none e n03)
    have a4 := inH t1 (by intro φ z; cases z)
    have h4' := inH t6 (by intro φ z; cases z)
    have D4 : msk [Pt, d3] H4 D = some (.lst vs') := dd (s4 _ _ (s3 _ _ (s2 _ _ e1))) (TabSt.new tab n1) (ne_of_none (s2 _ _ e1) n3)
    have r4 : msk [Pt, d3] H4 r = some (.lst (cs.map V.str)) := dd e4 rP (ne_of e4 e34 (by intro z; cases z))
    refine for_list (xs := cs.map V.str) (fun i σ H5 => ∃ u kvs tr, σ = [some sv, some (.ref a), some (.ref D), some (.ref d), some (.ref d3), none, none, u] ∧ Same (msk [Pt, d3] H4) H5 ∧ TabSt H5 Pt lamPos lamQual ∧ H5 d3 = some (.dK kvs) ∧ Paired (DuV H5) kvs tr ∧ tr.map (·.1) = (cs.take i).map eqS ∧ ∀ f ∈ tr, Ent px hk f)
      ⟨none, [], [], rfl, msk_same, tab4, e34, .nil, rfl, fun f hf => nomatch hf⟩ ?_ ?_ ?_
    · intro i σ H5 hi hQ1
      refine letG ?_
      intro tT
      obtain ⟨u, kvs, tr, rfl, sm, _⟩ := hQ1
      exact SqL.of (sm _ _ r4)
    · intro i v σ H5 hv hQ2
      refine letG ?_
      intro tT
      obtain ⟨u, kvs, tr, rfl, sm, tb5, hd5, pr5, ek, en⟩ := hQ2
      first | (refine lets12 ?_; intros) | (refine lets11 ?_; intros) | (refine lets10 ?_; intros) | (refine lets9 ?_; intros) | (refine lets8 ?_; intros) | (refine lets7 ?_; intros) | (refine lets6 ?_; intros) | (refine lets5 ?_; intros) | (refine lets4 ?_; intros) | (refine lets3 ?_; intros) | (refine lets2 ?_; intros) | (refine letB (g := gName _) ?_; intros) | (refine letB (g := gTup _ _ _) ?_; intros) | skip
      obtain ⟨x, hx, rfl⟩ : ∃ x, cs[i]? = some x ∧ v = .str x := by
        rw [List.getElem?_map] at hv
        cases e : cs[i]? with
        | none => rw [e] at hv; cases hv
        | some x => rw [e] at hv; cases hv; exact ⟨x, rfl, rfl⟩
      have xm := List.mem_of_getElem? hx
      obtain ⟨xl, x20⟩ := cln x xm
      have hlen : kvs.length ≤ i := by
        have h1 := paired_len pr5
        have h2 := congrArg List.length ek
        rw [List.length_map, List.length_map, List.length_take] at h2
        omega
      have hi12 : i < cs.length := (List.getElem?_eq_some_iff.mp hx).1
      refine ⟨_, rfl, _, rfl, _, rfl, a, T, dx, _, _, rfl, sm _ _ a4, UT.cl, UT.nH, t3, ?_⟩
      refine ⟨D, h, x, vs', px, hk, rfl, sm _ _ D4, hP4.same sm, hpl, (cmem x).mp xm, sm _ _ h4', hok, fun p hp => (h3 p (pm p hp)).2.2.1, tb5, fun r' H6 kp tb6 lr nb => ?_⟩
      refine ⟨(by show 1 ≤ sizeLine; decide), fun l H7 n7 s7 e7 => ?_⟩
      have d3P' := d3P
      have hd7 := s7 _ _ (kp _ _ hd5 d3P)
      have tb7 : TabSt H7 Pt lamPos lamQual := tb6.same s7
      have e1' : (Str.ofString "=").length ≤ sizeLine := fit1 (by decide +kernel)
      refine ⟨_, rfl, _, rfl, e1', _, rfl, x, rfl, fit1 (by omega), x, rfl, fit (by decide +kernel) (by omega), ?_⟩
      refine ⟨d3, _, rfl, DPut.k (k := .inr (eqS x)) hd7 (small1000 (by omega)), ?_⟩
      have hnew : eqS x ∉ tr.map (·.1) := by
        rw [ek]
        intro hm
        obtain ⟨y, hy, e⟩ := List.mem_map.mp hm
        rw [eqS_inj e] at hy
        obtain ⟨j, hj⟩ := List.getElem?_of_mem hy
        rw [List.getElem?_take] at hj
        split at hj
        · have : j = i := (List.getElem?_inj (by omega) cnd).mp (hj.trans hx.symm)
          omega
        · cases hj
      have l7 : l ≠ d3 := (ne_of_none (kp _ _ hd5 d3P) n7).symm
      refine ⟨_, putK kvs (.inr (eqS x)) (.ref l), tr ++ [(eqS x, [r'])], rfl, fun b o eb => ?_, TabSt.put hd7 tb7, upd_same, ?_, ?_, fun f hf => ?_⟩
      · have nb' : b ∉ [Pt, d3] := fun z => by
          unfold msk at eb
          rw [if_pos z] at eb
          cases eb
        simp only [List.mem_cons, List.not_mem_nil, or_false, not_or] at nb'
        exact keep_upd (s7 _ _ (kp _ _ (sm _ _ eb) nb'.1)) nb'.2
      · rw [← putP_new (y := [r']) hnew]
        refine paired_put (hk1 _) ⟨rfl, l, rfl, keep_upd e7 l7⟩ (paired_mapP pr5 fun kv f z => ?_)
        obtain ⟨z1, l', z2, z3⟩ := z
        exact ⟨z1, l', z2, keep_upd (s7 _ _ (kp _ _ z3 (TabSt.ne tb5 z3 (by intro φ z; cases z)))) (ne_of z3 hd5 (by intro z; cases z))⟩
      · rw [List.map_append, ek, List.take_add_one, hx, List.map_append]
        rfl
      · rcases List.mem_append.mp hf with z | z
        · exact en f z
        · rw [List.mem_singleton.mp z]
          exact ⟨x, r', rfl, eqS_ln xl x20, lr, (cmem x).mp xm, nb⟩
    · intro σ H5 hQ3
      refine letG ?_
      intro tT
      obtain ⟨u, kvs, tr, rfl, sm, tb5, hd5, pr5, ek, en⟩ := hQ3
      first | (refine lets12 ?_; intros) | (refine lets11 ?_; intros) | (refine lets10 ?_; intros) | (refine lets9 ?_; intros) | (refine lets8 ?_; intros) | (refine lets7 ?_; intros) | (refine lets6 ?_; intros) | (refine lets5 ?_; intros) | (refine lets4 ?_; intros) | (refine lets3 ?_; intros) | (refine lets2 ?_; intros) | (refine letB (g := gName _) ?_; intros) | (refine letB (g := gTup _ _ _) ?_; intros) | skip
      rw [List.length_map, List.take_length] at ek
      refine ⟨_, rfl, q d3 H5 kvs tr px n03 (fun b o eb nb => sm _ _ (dd (s04 _ _ eb) nb (ne_of_none eb n03))) tb5 hd5 pr5 ?_ ?_ en (fun c hc => ?_) pn fun p hp => ⟨pm p hp, pc p hp⟩⟩
      · rw [ek]
        exact List.Pairwise.map (R := fun a b : Str => a ≠ b) _ (fun a b ne z => ne (eqS_inj z)) cnd
      · have := congrArg List.length ek
        rw [List.length_map, List.length_map] at this
        omega
      · rw [ek]
        exact List.mem_map_of_mem ((cmem c).mpr hc)
end
end K33

set_option Elab.async false
set_option linter.all false
set_option maxRecDepth 100000
set_option maxHeartbeats 4000000
namespace K33
open PySem L2 PySem.Spec PyProof.Rows
open HT (At lexK okK)
section
variable {P : Program} {w : World} {K : PySem.W.Frag} {mg : Str → Option Value} {base : Heap}
/-! ### the first -/
noncomputable def spFir (C : Addr) : Sp := fun vs H Q _ => ∃ (l : Addr) (x : Str) (xs : List V) (off : List Pcl) (told : Option Str), vs = [.ref l, .str x] ∧ H l = some (.lst xs) ∧ PclsAt C H xs off ∧ 0 < off.length ∧ (∀ p ∈ off, p.nm = x → told = some x) ∧ (∀ y, told = some y → y = x) ∧ ∀ r, NB off told r → (∃ p ∈ off, r = p.nm) → Q (.str r) H
theorem scFir : FnScope ["_law_some", "_law_choice", "_law_best", "_law_one"] ["_law_some", "_law_choice"] (defScope sFir) := ⟨rfl, rfl, rfl, by decide +kernel, rfl, by decide +kernel, by decide +kernel⟩
theorem okFir {f C : Addr} {fd : FuncData} (F : Fun K "_law_first" "_law_first" sFir f fd) (T : Txt K mg C) : FnOk P w K mg base CX0 1 f fd ["_law_some", "_law_choice"] (spFir C) := by
  refine F.ok scFir (fun vs H Q E h => ?_) (fun cdv A outer s H vs Q E hr h => ?_)
  · obtain ⟨l, x, xs, off, told, rfl, _⟩ := h
    rfl
  · refine letX ?_
    intro xX dX
    obtain ⟨l, x, xs, off, told, rfl, hl, hps, h0, ht1, ht2, q⟩ := h
    refine ⟨_, (pss_cons (ps_set (i := 2) scFir.nd rfl (Or.inl rfl) (pe_ix ix_list (pv 0) pe_int (fun _ _ => rfl)))
        (pss_cons (ps_for PassesOwn.never rfl (pi_list (pv 0)) (pg_name (i := 3) scFir.nd rfl (Or.inl rfl))
        (pss_cons (ps_if (pt_cmpR op_eq (pe_fld (pv 3) rfl) (pv 1) (nomark _))
          (pss_one (ps_ret (pe_fld (pv 3) rfl))) pss_nil)
          (pss_one (ps_if (PW.pt (pw_or (pt_cmpR op_gt (pe_fld (pv 3) rfl) (pe_fld (pv 2) rfl) (nomark _)) (pw_or1 (PW.pt (pw_and (pt_cmpR op_eq (pe_fld (pv 3) rfl) (pe_fld (pv 2) rfl) (nomark _)) (pw_and1 (pt_cmpR op_lt_str (pe_fld (pv 3) rfl) (pe_fld (pv 2) rfl) (nomark _))))))))
          (pss_one (ps_set (i := 2) scFir.nd rfl (Or.inl rfl) (pv 3))) pss_nil))))
        (pss_one (ps_ret (pe_fld (pv 2) rfl))))), ?_⟩
    refine lets3 ?_
    intro dD sS uU3 uU2
    have hlen := paired_len hps
    obtain ⟨v0, hv0⟩ : ∃ v, xs[0]? = some v := ⟨_, List.getElem?_eq_getElem (by omega)⟩
    obtain ⟨p0, hp0, hE0⟩ := paired_get' hps hv0
    refine ⟨_, rfl, l, _, _, _, rfl, rfl, SqL.of hl, atI_nat (j := 0) hv0, ?_⟩
    refine ⟨_, rfl, l, rfl, ⟨_, SqL.of hl⟩, ?_⟩
    refine for_list (xs := xs) (fun i σ H2 => ∃ (vb : V) (pb : Pcl) (u : Option V), σ = [some (.ref l), some (.str x), some vb, u] ∧ H2 = H ∧ pb ∈ off ∧ PclAt C H vb pb ∧ (∀ p ∈ off.take i, p.nm ≠ x) ∧ ∀ p ∈ off.take i, lexK (kk p) (kk pb) = false)
      ⟨v0, p0, none, rfl, rfl, List.mem_of_getElem? hp0, hE0, (fun p hp => nomatch hp), fun p hp => nomatch hp⟩ ?_ ?_ ?_
    · intro i σ H2 hi hQ1
      refine letG ?_
      intro tT
      obtain ⟨vb, pb, u, rfl, rfl, _⟩ := hQ1
      exact SqL.of hl
    · intro i v σ H2 hv hQ2
      refine letG ?_
      intro tT
      obtain ⟨vb, pb, u, rfl, rfl, hpb, hEb, hne, hbest⟩ := hQ2
      first | (refine lets12 ?_; intros) | (refine lets11 ?_; intros) | (refine lets10 ?_; intros) | (refine lets9 ?_; intros) | (refine lets8 ?_; intros) | (refine lets7 ?_; intros) | (refine lets6 ?_; intros) | (refine lets5 ?_; intros) | (refine lets4 ?_; intros) | (refine lets3 ?_; intros) | (refine lets2 ?_; intros) | (refine letB (g := gName _) ?_; intros) | (refine letB (g := gTup _ _ _) ?_; intros) | skip
      obtain ⟨p, hp, hE⟩ := paired_get' hps hv
      have hpm := List.mem_of_getElem? hp
      obtain ⟨b, dy, fl, rk, m, pf, pn, pss, po, ys, rfl, b1, b2, b3, b4, b5, b6, b7⟩ := id hE
      obtain ⟨b', dy', fl', rk', m', pf', pn', pss', po', ys', rfl, c1, c2, c3, c4, c5, c6, c7⟩ := id hEb
      have b2r := b2.rank
      rw [b7] at b2r
      have c2r := c2.rank
      rw [c7] at c2r
      refine ⟨_, rfl, b, C, dy, _, _, rfl, b1, T.cl, T.nN, b2.name, _, rfl, rfl, _, rfl, ?_⟩
      refine ite2 (fun h => ?_) (fun h => ?_)
      · have hx : p.nm = x := by
          have := of_decide_eq_true h
          injection this
        refine ⟨_, rfl, b, C, dy, _, _, rfl, b1, T.cl, T.nN, b2.name, q p.nm (.inl ⟨by rw [hx]; exact ht1 p hpm hx, List.mem_map_of_mem hpm⟩) ⟨p, hpm, rfl⟩⟩
      · have hx : p.nm ≠ x := fun z => h (decide_eq_true (by rw [z]))
        have ne' : ∀ q' ∈ off.take (i + 1), q'.nm ≠ x := fun q' hq' => by
          rw [List.take_add_one, hp] at hq'
          rcases List.mem_append.mp hq' with z | z
          · exact hne q' z
          · have z : q' = p := List.mem_singleton.mp z
            rw [z]; exact hx
        have upT : lexK (kk p) (kk pb) = true → ∀ q' ∈ off.take (i + 1), lexK (kk q') (kk p) = false := fun hlt q' hq' => by
          rw [List.take_add_one, hp] at hq'
          rcases List.mem_append.mp hq' with z | z
          · cases e : lexK (kk q') (kk p) with
            | false => rfl
            | true => have := kk_tr _ _ _ e hlt; rw [hbest q' z] at this; cases this
          · have z : q' = p := List.mem_singleton.mp z
            rw [z]; exact kk_irr p
        have upF : lexK (kk p) (kk pb) = false → ∀ q' ∈ off.take (i + 1), lexK (kk q') (kk pb) = false := fun hlt q' hq' => by
          rw [List.take_add_one, hp] at hq'
          rcases List.mem_append.mp hq' with z | z
          · exact hbest q' z
          · have z : q' = p := List.mem_singleton.mp z
            rw [z]; exact hlt
        have no : ¬ (pb.rk < p.rk ∨ (p.rk = pb.rk ∧ p.nm.cps.toList < pb.nm.cps.toList)) → lexK (kk p) (kk pb) = false := fun z => by
          cases e : lexK (kk p) (kk pb) with
          | false => rfl
          | true => exact absurd ((kk_lex p pb).mp e) z
        refine ⟨_, rfl, b, C, dy, _, _, rfl, b1, T.cl, T.nR, b2r, _, rfl, b', C, dy', _, _, rfl, c1, T.cl, T.nR, c2r, _, _, rfl, rfl, _, rfl, ?_⟩
        refine ite2 (fun h1 => ?_) (fun h1 => ?_)
        · have h1 := of_decide_eq_true h1
          refine iteT ⟨_, rfl, _, p, _, rfl, rfl, hpm, hE, ne', upT ((kk_lex p pb).mpr (.inl (by omega)))⟩
        · have h1 : ¬ pb.rk < p.rk := fun z => h1 (decide_eq_true (by omega))
          refine ⟨_, rfl, b, C, dy, _, _, rfl, b1, T.cl, T.nR, b2r, _, rfl, b', C, dy', _, _, rfl, c1, T.cl, T.nR, c2r, rfl, _, rfl, ?_⟩
          refine ite2 (fun h2 => ?_) (fun h2 => ?_)
          · have h2 : p.rk = pb.rk := by
              have := of_decide_eq_true h2
              injection this
            refine ⟨_, rfl, b, C, dy, _, _, rfl, b1, T.cl, T.nN, b2.name, _, rfl, b', C, dy', _, _, rfl, c1, T.cl, T.nN, c2.name, _, _, rfl, rfl, _, rfl, ?_⟩
            refine ite2 (fun h3 => ?_) (fun h3 => ?_)
            · have h3 := of_decide_eq_true h3
              exact ⟨_, rfl, _, p, _, rfl, rfl, hpm, hE, ne', upT ((kk_lex p pb).mpr (.inr ⟨h2, h3⟩))⟩
            · have h3 : ¬ p.nm.cps.toList < pb.nm.cps.toList := fun z => h3 (decide_eq_true z)
              exact ⟨_, pb, _, rfl, rfl, hpb, hEb, ne', upF (no fun z => z.elim h1 fun z => h3 z.2)⟩
          · have h2 : p.rk ≠ pb.rk := fun z => h2 (decide_eq_true (by rw [z]))
            refine iteF ?_
            exact ⟨_, pb, _, rfl, rfl, hpb, hEb, ne', upF (no fun z => z.elim h1 fun z => h2 z.1)⟩
    · intro σ H2 hQ3
      refine letG ?_
      intro tT
      obtain ⟨vb, pb, u, rfl, rfl, hpb, hEb, hne, hbest⟩ := hQ3
      first | (refine lets12 ?_; intros) | (refine lets11 ?_; intros) | (refine lets10 ?_; intros) | (refine lets9 ?_; intros) | (refine lets8 ?_; intros) | (refine lets7 ?_; intros) | (refine lets6 ?_; intros) | (refine lets5 ?_; intros) | (refine lets4 ?_; intros) | (refine lets3 ?_; intros) | (refine lets2 ?_; intros) | (refine letB (g := gName _) ?_; intros) | (refine letB (g := gTup _ _ _) ?_; intros) | skip
      rw [hlen, List.take_length] at hne hbest
      obtain ⟨b', dy', fl', rk', m', pf', pn', pss', po', ys', rfl, c1, c2, c3, c4, c5, c6, c7⟩ := id hEb
      refine ⟨_, rfl, b', C, dy', _, _, rfl, c1, T.cl, T.nN, c2.name, q pb.nm (.inr ⟨fun y hy hm => ?_, pb, ⟨hpb, hbest⟩, rfl⟩) ⟨pb, hpb, rfl⟩⟩
      obtain ⟨p, hp, e⟩ := List.mem_map.mp hm
      exact hne p hp (e.trans (ht2 y hy))
end
end K33

set_option Elab.async false
set_option linter.all false
set_option maxRecDepth 100000
set_option maxHeartbeats 4000000
namespace K33
open PySem L2 PySem.Spec PyProof.Rows
open HT (At lexK okK)
section
variable {X : Cx}
noncomputable def rEqDK (K : PySem.W.Frag) : V → V → Hp → VK → Prop := fun x y H Q => ∃ d e, DV K H x d ∧ DV K H y e ∧ PySem.W.kqdOk 9 d = true ∧ PySem.W.kqdOk 9 e = true ∧ ∀ b : Bool, (b = true ↔ d = e) → Q (.bl b) H
theorem op_eqDK (K : PySem.W.Frag) (hu : X.A.units + 64 < cLine) (h : X.K = K := by rfl) : OpR X (compareOp .Eq) (rEqDK K) := h ▸ op_eqD hu
end
theorem told_val2 {hk : List (Key × V)} (h : HkOk hk) (c : Str) : ((valV hk (.inr c)).getD (.str (Str.ofString "")) = .str (Str.ofString "") ∧ toldOf hk c = none) ∨ ∃ y, (valV hk (.inr c)).getD (.str (Str.ofString "")) = .str y ∧ toldOf hk c = some y := by
  unfold toldOf
  cases e : valV hk (.inr c) with
  | none => exact .inl ⟨rfl, rfl⟩
  | some v =>
    obtain ⟨y, rfl, hy⟩ := h _ _ e
    exact .inr ⟨y, rfl, rfl⟩
/-- what is known of the parcels -/
noncomputable def PsG (ps : List Pcl) : Prop := ∀ p ∈ ps, p.os.length ≤ 2 ∧ (Ln p.nm ∧ 1 ≤ p.nm.length) ∧ ∀ t ∈ p.os, Ln t ∧ t.length ≤ 20
section
variable {P : Program} {w : World} {K : PySem.W.Frag} {mg : Str → Option Value} {base : Heap}
noncomputable def spDue (C : Addr) : Sp := fun vs H Q _ => ∃ (a c h : Addr) (xs : List V) (ps : List Pcl) (ch : Ch) (hk : List (Key × V)), vs = [.ref a, .ref c, .ref h] ∧ H a = some (.lst xs) ∧ PclsAt C H xs ps ∧ ps.length ≤ 6 ∧ ChoAt H c ch ∧ (ch.map (·.1)).Nodup ∧ H h = some (.dK hk) ∧ HkOk hk ∧ PsG ps ∧
  ∀ d H' kvs (tr : Tr), H d = none → Same H H' → H' d = some (.dK kvs) → Paired (DuV H') kvs tr → (tr.map (·.1)).Nodup → (∀ f ∈ tr, Ent (ps.filter (sel ch)) hk f) → (∀ c, (∃ p ∈ ps.filter (sel ch), c ∈ p.os) → eqS c ∈ tr.map (·.1)) → Q (.ref d) H'
theorem scDue : FnScope ["_law_parcels", "_law_chosen_here", "_law_choices", "_law_there", "_law_due_here", "_law_one", "_law_common", "_law_some"] ["_law_parcels", "_law_chosen_here", "_law_choices"] (defScope sDue) := ⟨rfl, rfl, rfl, by decide +kernel, rfl, by decide +kernel, by decide +kernel⟩
theorem okDue {f C fFir : Addr} {fd fdFir : FuncData} (F : Fun K "_law_due" "_law_due" sDue f fd) (T : Txt K mg C) (FFir : Fun K "_law_first" "_law_first" sFir fFir fdFir) (mFir : mg "_law_first" = some (.ref fFir)) : FnOk P w K mg base CX0 2 f fd ["_law_parcels", "_law_chosen_here", "_law_choices"] (spDue C) := by
  have GFir : FnOk P w K mg base CX0 1 fFir fdFir ["_law_some", "_law_choice"] (spFir C) := okFir FFir T
  have bFir := FFir.binds2 (l := ["_law_some", "_law_choice"]) (fun _ _ _ _ _ _ _ _ => rfl)
  refine F.ok scDue (fun vs H Q E h => ?_) (fun cdv A outer s H vs Q E hr h => ?_)
  · obtain ⟨a, c, h, xs, ps, ch, hk, rfl, _⟩ := h
    rfl
  · refine letX ?_
    intro xX dX
    obtain ⟨a, c, h, xs, ps, ch, hk, rfl, ha, hps, h6, hC, cnd, hh, hok, hg, q⟩ := h
    have hu := hr.units
    refine ⟨_, (pss_cons (ps_setComp (i := 3) ["_law_one"] ["_law_chosen_here"] [1] scDue.nd rfl rfl ⟨rfl, by decide +kernel, by decide +kernel, by decide +kernel, by decide +kernel, rfl, rfl, rfl⟩ rfl (pi_list (pv 0)) (fun _ _ _ _ => (pg_name (i := 0) (show List.Nodup (["_law_one", "_law_chosen_here"] : List Str) by decide +kernel) rfl (Or.inl rfl)))
          (fun _ _ _ _ => pts_one (PW.pt (pw_and (pt_cmp (pc_din hu (pe_fldK K (pv 0) rfl) (pv 1)) (by rfl)) (pw_and1 (pt_cmpR (op_eqDK K hu) (pe_dget hu (pv 1) (pe_fldK K (pv 0) rfl) (fun _ _ => rfl)) (pe_fldK K (pv 0) rfl) (nomark _)))))) (fun _ _ _ _ => (pv 0)))
        (pss_cons (ps_set (i := 4) scDue.nd rfl (Or.inl rfl) pe_dnewN)
        (pss_cons (ps_for PassesOwn.never rfl (pi_list (pv 3)) (pg_name (i := 5) scDue.nd rfl (Or.inl rfl))
        (pss_one (ps_for PassesOwn.never rfl (pi_list (pe_fld (pv 5) rfl)) (pg_name (i := 6) scDue.nd rfl (Or.inr rfl))
          (pss_cons (ps_setComp (i := 7) ["_law_other"] ["_law_common"] [6] scDue.nd rfl rfl ⟨rfl, by decide +kernel, by decide +kernel, by decide +kernel, by decide +kernel, rfl, rfl, rfl⟩ rfl (pi_list (pv 3)) (fun _ _ _ _ => (pg_name (i := 0) (show List.Nodup (["_law_other", "_law_common"] : List Str) by decide +kernel) rfl (Or.inl rfl))) (fun _ _ _ _ => pts_one (pt_cmpR (op_inK K) (pv 1) (pe_fldK K (pv 0) rfl) (by rfl))) (fun _ _ _ _ => (pv 0)))
            (pss_one (ps_dput hu (pv 4) (pe_op op_add_str pe_str (pv 6)) (pe_lstN (pa_cons (pe_call GFir hr rfl mFir FFir.kp bFir .nil pass0 (pa_cons (pv 7) (pa_cons (pe_dget2 hu (pv 2) (pv 6) pe_str ⟨rfl, rfl, rfl, rfl⟩) pa_nil))) pa_nil)) rfl))))))
        (pss_one (ps_ret (pv 4)))))), ?_⟩
    refine lets4 ?_
    intro dD sS uU4 uU3 uU2
    obtain ⟨kvs, e1, e2⟩ := hC
    have hkC : ∀ kv f, ChV H kv f → kv.1 = Sum.inr f.1 := fun kv f z => z.1
    have hkD : ∀ (H' : Hp) kv f, DuV H' kv f → kv.1 = Sum.inr f.1 := fun _ kv f z => z.1
    have hlen := paired_len hps
    refine ⟨_, rfl, a, rfl, ⟨_, SqL.of ha⟩, ?_⟩
    intro D hD
    refine comp_listD (σ0 := [none, some (.ref c)]) hD (SqL.of ha) (fun σ => ∃ v, σ = [v, some (.ref c)]) (fun j zs _ => zs.length ≤ j ∧ PclsAt C H zs ((ps.take j).filter (sel ch))) ⟨_, rfl⟩ ⟨Nat.le_refl _, .nil⟩ ?_ ?_
    · rintro j y zs σ H3 k k' hy ⟨v, rfl⟩ hd3 h3 ⟨zl, zp⟩ hk1 hk2
      obtain ⟨p, hp, hE⟩ := paired_get' hps hy
      obtain ⟨b, dy, fl, rk, m, pf, pn, pss, po, ys, rfl, b1, b2, b3, b4, b5, b6, b7⟩ := id hE
      have hlt := (List.getElem?_eq_some_iff.mp hp).1
      have skip : sel ch p = false → k' [some (.ref b), some (.ref c)] H3 := fun hz => by
        refine hk2 _ _ ⟨_, rfl⟩ (Same.refl _) ⟨by omega, ?_⟩
        rw [filter_take hp, if_neg (by rw [hz]; decide), List.append_nil]
        exact zp
      refine ⟨_, rfl, b, C, dy, _, _, rfl, h3 _ _ b1, T.cl, T.nN, b2.name, _, rfl, c, _, rfl, DGet.k (k := .inr p.nm) (h3 _ _ e1), _, rfl, ?_⟩
      by_cases hm : p.nm ∈ ch.map (·.1)
      · obtain ⟨u, ms, g1, g2, _, m2, rfl, g3⟩ := paired_val hkC e2 hm
        rw [g1]
        refine iteT ?_
        refine ⟨_, rfl, _, rfl, b, C, dy, _, _, rfl, h3 _ _ b1, T.cl, T.nN, b2.name, c, _, rfl, (by rw [← g1]; exact DGet.k (k := .inr p.nm) (h3 _ _ e1)), _, rfl, b, C, dy, _, _, rfl, h3 _ _ b1, T.cl, T.nM, b2.make, dI ms, dI p.ms, dI_dv (h3 _ _ g3), dI_dv (h3 _ _ b3), dI_ok 8 _, dI_ok 8 _, fun bb hb => ⟨_, rfl, ?_⟩⟩
        rw [dI_inj] at hb
        refine ite2 (fun h => ?_) (fun h => ?_)
        · have hms : ms = p.ms := hb.mp h
          have hsel : sel ch p = true := by unfold sel; rw [← hms]; exact decide_eq_true g2
          refine ⟨_, rfl, hk1 _ _ _ ⟨_, rfl⟩ (Same.refl _) (small1000 (by omega)) ⟨by rw [List.length_append, List.length_singleton]; omega, ?_⟩⟩
          rw [filter_take hp, if_pos hsel]
          exact paired_snoc hE zp
        · refine skip ?_
          unfold sel
          exact decide_eq_false fun z => h (hb.mpr (nodup_fun cnd g2 z))
      · rw [paired_none hkC e2 hm]
        refine iteF (iteF (skip ?_))
        unfold sel
        exact decide_eq_false fun z => hm (List.mem_map.mpr ⟨_, z, rfl⟩)
    · rintro zs H3 hd3 h3 ⟨zl, zp⟩
      rw [hlen, List.take_length] at zp
      obtain ⟨th, eth⟩ : ∃ th, th = ps.filter (sel ch) := ⟨_, rfl⟩
      rw [← eth] at zp q
      have tg : ∀ p ∈ th, p.os.length ≤ 2 ∧ (Ln p.nm ∧ 1 ≤ p.nm.length) ∧ ∀ t ∈ p.os, Ln t ∧ t.length ≤ 20 := fun p hp => by
        rw [eth] at hp
        exact hg p (List.mem_filter.mp hp).1
      have tl : th.length ≤ 6 := by
        have := paired_len zp
        omega
      refine fun d H4 n4 s4 e4 => ?_
      have s34 := h3.trans s4
      have nd0 : H d = none := h3.free n4
      refine ⟨_, rfl, D, rfl, ⟨_, SqL.of (s4 _ _ hd3)⟩, ?_⟩
      refine for_list (xs := zs) (fun i σ H5 => ∃ u5 u6 u7 kv' tr, σ = [some (.ref a), some (.ref c), some (.ref h), some (.ref D), some (.ref d), u5, u6, u7] ∧ Same H3 H5 ∧ H5 d = some (.dK kv') ∧ Paired (DuV H5) kv' tr ∧ (tr.map (·.1)).Nodup ∧ (∀ f ∈ tr, Ent th hk f) ∧ (∀ p ∈ th.take i, ∀ x ∈ p.os, eqS x ∈ tr.map (·.1)) ∧ tr.length ≤ 2 * i)
        ⟨none, none, none, [], [], rfl, s4, e4, .nil, List.nodup_nil, (fun f hf => nomatch hf), (fun p hp => nomatch hp), Nat.le_refl _⟩ ?_ ?_ ?_
      · intro i σ H5 hi hQ1
        refine letG ?_
        intro tT
        obtain ⟨u5, u6, u7, kv', tr, rfl, s5, _⟩ := hQ1
        exact SqL.of (s5 _ _ hd3)
      · intro i v σ H5 hv hQ2
        refine letG ?_
        intro tT
        obtain ⟨u5, u6, u7, kv', tr, rfl, s5, hd5, pr5, nd5, en5, al5, ln5⟩ := hQ2
        first | (refine lets12 ?_; intros) | (refine lets11 ?_; intros) | (refine lets10 ?_; intros) | (refine lets9 ?_; intros) | (refine lets8 ?_; intros) | (refine lets7 ?_; intros) | (refine lets6 ?_; intros) | (refine lets5 ?_; intros) | (refine lets4 ?_; intros) | (refine lets3 ?_; intros) | (refine lets2 ?_; intros) | (refine letB (g := gName _) ?_; intros) | (refine letB (g := gTup _ _ _) ?_; intros) | skip
        obtain ⟨p, hp, hE⟩ := paired_get' zp hv
        have hpm := List.mem_of_getElem? hp
        have hil := (List.getElem?_eq_some_iff.mp hp).1
        obtain ⟨b, dy, fl, rk, m, pf, pn, pss, po, ys, rfl, b1, b2, b3, b4, b5, b6, b7⟩ := id hE
        obtain ⟨o2, _, oln⟩ := tg p hpm
        refine ⟨_, rfl, b, C, dy, _, _, rfl, s5 _ _ (h3 _ _ b1), T.cl, T.nO, b2.offers, po, rfl, ⟨_, SqL.of (s5 _ _ (h3 _ _ b6))⟩, ?_⟩
        refine for_list (xs := p.os.map V.str) (fun j σ H6 => ∃ u6 u7 kv' tr, σ = [some (.ref a), some (.ref c), some (.ref h), some (.ref D), some (.ref d), some (.ref b), u6, u7] ∧ Same H3 H6 ∧ H6 d = some (.dK kv') ∧ Paired (DuV H6) kv' tr ∧ (tr.map (·.1)).Nodup ∧ (∀ f ∈ tr, Ent th hk f) ∧ (∀ p ∈ th.take i, ∀ x ∈ p.os, eqS x ∈ tr.map (·.1)) ∧ (∀ x ∈ p.os.take j, eqS x ∈ tr.map (·.1)) ∧ tr.length ≤ 2 * i + j)
          ⟨_, _, kv', tr, rfl, s5, hd5, pr5, nd5, en5, al5, (fun x hx => nomatch hx), ln5⟩ ?_ ?_ ?_
        · intro j σ H6 hj hQ3
          refine letG ?_
          intro tT
          obtain ⟨u6, u7, kv', tr, rfl, s6, _⟩ := hQ3
          exact SqL.of (s6 _ _ (h3 _ _ b6))
        · intro j v σ H6 hv6 hQ4
          refine letG ?_
          intro tT
          obtain ⟨u6, u7, kv', tr, rfl, s6, hd6, pr6, nd6, en6, al6, os6, ln6⟩ := hQ4
          first | (refine lets12 ?_; intros) | (refine lets11 ?_; intros) | (refine lets10 ?_; intros) | (refine lets9 ?_; intros) | (refine lets8 ?_; intros) | (refine lets7 ?_; intros) | (refine lets6 ?_; intros) | (refine lets5 ?_; intros) | (refine lets4 ?_; intros) | (refine lets3 ?_; intros) | (refine lets2 ?_; intros) | (refine letB (g := gName _) ?_; intros) | (refine letB (g := gTup _ _ _) ?_; intros) | skip
          obtain ⟨x, hx, rfl⟩ : ∃ x, p.os[j]? = some x ∧ v = .str x := by
            rw [List.getElem?_map] at hv6
            cases e : p.os[j]? with
            | none => rw [e] at hv6; cases hv6
            | some x => rw [e] at hv6; cases hv6; exact ⟨x, rfl, rfl⟩
          have xm := List.mem_of_getElem? hx
          have hjl := (List.getElem?_eq_some_iff.mp hx).1
          obtain ⟨xl, x20⟩ := oln x xm
          refine ⟨_, rfl, D, rfl, ⟨_, SqL.of (s6 _ _ hd3)⟩, ?_⟩
          intro D2 hD2
          refine comp_listD (σ0 := [none, some (.str x)]) hD2 (SqL.of (s6 _ _ hd3)) (fun σ => ∃ v, σ = [v, some (.str x)]) (fun j zs' _ => zs'.length ≤ j ∧ PclsAt C H zs' (offer x (th.take j))) ⟨_, rfl⟩ ⟨Nat.le_refl _, .nil⟩ ?_ ?_
          · rintro jj y zs' σ H7 k k' hy ⟨v, rfl⟩ hd7 h7 ⟨zl', zp'⟩ hk1 hk2
            obtain ⟨p', hp', hE'⟩ := paired_get' zp hy
            obtain ⟨b', dy', fl', rk', m', pf', pn', pss', po', ys', rfl, c1, c2, c3, c4, c5, c6, c7⟩ := id hE'
            have hlt' := (List.getElem?_eq_some_iff.mp hp').1
            have s07 := h3.trans (s6.trans h7)
            refine ⟨_, rfl, _, rfl, b', C, dy', _, _, rfl, s07 _ _ c1, T.cl, T.nO, c2.offers, po', _, rfl, .inl (SqL.of (s07 _ _ c6)), rfl, flat_strs _, _, rfl, ?_⟩
            refine ite2 (fun h => ?_) (fun h => ?_)
            · have hin : x ∈ p'.os := inV_str.mp h
              refine ⟨_, rfl, hk1 _ _ _ ⟨_, rfl⟩ (Same.refl _) (small1000 (by omega)) ⟨by rw [List.length_append, List.length_singleton]; omega, ?_⟩⟩
              rw [offer_take hp', if_pos hin]
              exact paired_snoc hE' zp'
            · have hin : x ∉ p'.os := fun z => h (inV_str.mpr z)
              refine hk2 _ _ ⟨_, rfl⟩ (Same.refl _) ⟨by omega, ?_⟩
              rw [offer_take hp', if_neg hin, List.append_nil]
              exact zp'
          · rintro zs' H7 hd7 h7 ⟨zl', zp'⟩
            rw [paired_len zp, List.take_length] at zp'
            have s07 := h3.trans (s6.trans h7)
            have s37 := s6.trans h7
            have hoff : 0 < (offer x th).length := List.length_pos_of_mem (List.mem_filter.mpr ⟨hpm, decide_eq_true xm⟩)
            have hd7d := h7 _ _ hd6
            have lln : ∀ r, (∃ p ∈ offer x th, r = p.nm) → Ln r := fun r zq440 => zq440.elim fun p' zq441 => zq441.elim fun hp' e => by
              rw [e]
              exact (tg p' (List.mem_filter.mp hp').1).2.1.1
            have e1' : (Str.ofString "=").length ≤ 100 := by decide +kernel
            have tail : ∀ (l : Addr) (H8 : Hp) (r : Str), H7 l = none → Same H7 H8 → H8 l = some (.lst [V.str r]) → NB (offer x th) (toldOf hk x) r → (∃ p ∈ offer x th, r = p.nm) →
                Same H3 (upd H8 d (.dK (putK kv' (.inr (eqS x)) (.ref l)))) ∧ Paired (DuV (upd H8 d (.dK (putK kv' (.inr (eqS x)) (.ref l))))) (putK kv' (.inr (eqS x)) (.ref l)) (putP tr (eqS x) [r]) ∧ (∀ f ∈ putP tr (eqS x) [r], Ent th hk f) := by
              intro l H8 r n8 s8 e8 nb hr'
              have ld : l ≠ d := (ne_of_none hd7d n8).symm
              refine ⟨fun b' o' e' => keep_upd (s8 _ _ (s37 _ _ e')) (ne_of_none e' n4), ?_, fun f hf => ?_⟩
              · refine paired_put (hkD _) ⟨rfl, l, rfl, keep_upd e8 ld⟩ (paired_mapP pr6 fun kv f z => ?_)
                obtain ⟨z1, l', z2, z3⟩ := z
                exact ⟨z1, l', z2, keep_upd (s8 _ _ (h7 _ _ z3)) (ne_of z3 hd6 (by intro z; cases z))⟩
              · rcases putP_mem hf with z | z
                · rw [z]
                  exact ⟨x, r, rfl, eqS_ln xl x20, lln r hr', ⟨p, hpm, xm⟩, nb⟩
                · exact en6 f z
            have kvl : kv'.length < sizeLine := small1000 (by have := paired_len pr6; omega)
            refine ⟨_, rfl, _, rfl, h, rfl, .inl ⟨_, .inl (s07 _ _ hh)⟩, _, rfl, _, DGet.k (k := .inr x) (s07 _ _ hh), ?_⟩
            rcases told_val2 hok x with ⟨e, et⟩ | ⟨y, e, et⟩
            · rw [e]
              refine ⟨D2, Str.ofString "", zs', offer x th, toldOf hk x, rfl, hd7, zp'.same s07, hoff, fun p' hp' e' => ?_, fun z hz => (by rw [et] at hz; cases hz), fun r nb hr' => ?_⟩
              · have h1 := (tg p' (List.mem_filter.mp hp').1).2.1.2
                rw [e'] at h1
                exact absurd h1 (by decide +kernel)
              refine ⟨(by show 1 ≤ sizeLine; decide), fun l H8 n8 s8 e8 => ?_⟩
              obtain ⟨t1, t2, t3⟩ := tail l H8 r n8 s8 e8 nb hr'
              refine ⟨_, rfl, _, rfl, _, _, rfl, rfl, fit e1' (by omega), d, _, rfl, DPut.k (k := .inr (eqS x)) (s8 _ _ hd7d) kvl, ?_⟩
              refine ⟨_, _, _, _, rfl, t1, upd_same, t2, putP_nodup nd6, t3, fun p' hp' y' hy' => putP_key (.inr (al6 p' hp' y' hy')), fun y' hy' => ?_, ?_⟩
              · rw [List.take_add_one, hx] at hy'
                rcases List.mem_append.mp hy' with z | z
                · exact putP_key (.inr (os6 y' z))
                · have z : y' = x := List.mem_singleton.mp z
                  exact putP_key (.inl (by rw [z]))
              · have := putP_len tr (eqS x) [r]
                omega
            · rw [e]
              refine ⟨D2, y, zs', offer x th, toldOf hk x, rfl, hd7, zp'.same s07, hoff, fun p' hp' e' => et, fun z hz => (by rw [et] at hz; exact (Option.some.inj hz).symm), fun r nb hr' => ?_⟩
              refine ⟨(by show 1 ≤ sizeLine; decide), fun l H8 n8 s8 e8 => ?_⟩
              obtain ⟨t1, t2, t3⟩ := tail l H8 r n8 s8 e8 nb hr'
              refine ⟨_, rfl, _, rfl, _, _, rfl, rfl, fit e1' (by omega), d, _, rfl, DPut.k (k := .inr (eqS x)) (s8 _ _ hd7d) kvl, ?_⟩
              refine ⟨_, _, _, _, rfl, t1, upd_same, t2, putP_nodup nd6, t3, fun p' hp' y' hy' => putP_key (.inr (al6 p' hp' y' hy')), fun y' hy' => ?_, ?_⟩
              · rw [List.take_add_one, hx] at hy'
                rcases List.mem_append.mp hy' with z | z
                · exact putP_key (.inr (os6 y' z))
                · have z : y' = x := List.mem_singleton.mp z
                  exact putP_key (.inl (by rw [z]))
              · have := putP_len tr (eqS x) [r]
                omega
        · intro σ H6 hQ5
          refine letG ?_
          intro tT
          obtain ⟨u6, u7, kv', tr, rfl, s6, hd6, pr6, nd6, en6, al6, os6, ln6⟩ := hQ5
          first | (refine lets12 ?_; intros) | (refine lets11 ?_; intros) | (refine lets10 ?_; intros) | (refine lets9 ?_; intros) | (refine lets8 ?_; intros) | (refine lets7 ?_; intros) | (refine lets6 ?_; intros) | (refine lets5 ?_; intros) | (refine lets4 ?_; intros) | (refine lets3 ?_; intros) | (refine lets2 ?_; intros) | (refine letB (g := gName _) ?_; intros) | (refine letB (g := gTup _ _ _) ?_; intros) | skip
          rw [List.length_map, List.take_length] at os6
          rw [List.length_map] at ln6
          refine ⟨_, _, _, kv', tr, rfl, s6, hd6, pr6, nd6, en6, fun p' hp' x hx => ?_, by omega⟩
          rw [List.take_add_one, hp] at hp'
          rcases List.mem_append.mp hp' with z | z
          · exact al6 p' z x hx
          · have z : p' = p := List.mem_singleton.mp z
            rw [z] at hx
            exact os6 x hx
      · intro σ H5 hQ6
        refine letG ?_
        intro tT
        obtain ⟨u5, u6, u7, kv', tr, rfl, s5, hd5, pr5, nd5, en5, al5, ln5⟩ := hQ6
        first | (refine lets12 ?_; intros) | (refine lets11 ?_; intros) | (refine lets10 ?_; intros) | (refine lets9 ?_; intros) | (refine lets8 ?_; intros) | (refine lets7 ?_; intros) | (refine lets6 ?_; intros) | (refine lets5 ?_; intros) | (refine lets4 ?_; intros) | (refine lets3 ?_; intros) | (refine lets2 ?_; intros) | (refine letB (g := gName _) ?_; intros) | (refine letB (g := gTup _ _ _) ?_; intros) | skip
        rw [paired_len zp, List.take_length] at al5
        exact ⟨_, rfl, q d H5 kv' tr nd0 (h3.trans s5) hd5 pr5 nd5 en5 fun cc zq442 => zq442.elim fun p zq443 => zq443.elim fun hp hcc => al5 p hp cc hcc⟩
end
end K33

set_option Elab.async false
set_option linter.all false
set_option maxRecDepth 100000
set_option maxHeartbeats 4000000
namespace K33
open PySem L2 PySem.Spec PyProof.Rows
open HT (At lexK okK)
theorem nodup_key {ps : List Pcl} (h : (ps.map keyOf).Nodup) {p q : Pcl} (hp : p ∈ ps) (hq : q ∈ ps) (e : keyOf p = keyOf q) : p = q := by
  induction ps with
  | nil => cases hp
  | cons r ps ih =>
    rw [List.map_cons, List.nodup_cons] at h
    rcases List.mem_cons.mp hp with ep | hp
    · rcases List.mem_cons.mp hq with eq | hq
      · rw [ep, eq]
      · exact absurd (List.mem_map_of_mem (f := keyOf) hq) (by rw [← e, ep]; exact h.1)
    · rcases List.mem_cons.mp hq with eq | hq
      · exact absurd (List.mem_map_of_mem (f := keyOf) hp) (by rw [e, eq]; exact h.1)
      · exact ih h.2 hp hq
theorem sel_mem {ps : List Pcl} {ch : Ch} {p : Pcl} : p ∈ ps.filter (sel ch) ↔ p ∈ ps ∧ (p.nm, p.ms) ∈ ch := by
  rw [List.mem_filter]
  unfold sel
  rw [decide_eq_true_iff]
/-- the parcels of the set, in both orders -/
theorem same_set {ps px : List Pcl} {ch : Ch} (hn : (ps.map keyOf).Nodup) (hnd : (ch.map (·.1)).Nodup) (pn : (px.map (·.nm)).Perm (ch.map (·.1))) (pm : ∀ p ∈ px, p ∈ ps ∧ (p.nm, p.ms) ∈ ch) (p : Pcl) : p ∈ px ↔ p ∈ ps.filter (sel ch) := by
  constructor
  · exact fun hp => sel_mem.mpr (pm p hp)
  · intro hp
    obtain ⟨h1, h2⟩ := sel_mem.mp hp
    have : p.nm ∈ px.map (·.nm) := pn.mem_iff.mpr (List.mem_map_of_mem (f := (·.1)) h2)
    obtain ⟨r, hr, er⟩ := List.mem_map.mp this
    obtain ⟨h3, h4⟩ := pm r hr
    rw [er] at h4
    have em := nodup_fun hnd h4 h2
    have : r = p := nodup_key hn h3 h1 (by unfold keyOf; rw [er, em])
    rw [← this]
    exact hr
theorem offer_same {px th : List Pcl} (h : ∀ p, p ∈ px ↔ p ∈ th) (c : Str) (p : Pcl) : p ∈ offer c px ↔ p ∈ offer c th := by
  unfold offer
  rw [List.mem_filter, List.mem_filter, h p]
/-- a parcel without files -/
noncomputable def bare (p : Pcl) : Pcl := ⟨p.nm, p.ms, [], p.os, p.rk⟩
theorem ent_ok {px : List Pcl} {hk : List (Key × V)} {tr : Tr} (h : ∀ f ∈ tr, Ent px hk f) : OkF tr := fun f hf => by
  obtain ⟨c, r, rfl, h1, h2, _⟩ := h f hf
  exact ⟨h1, fun x hx => by rw [List.mem_singleton.mp hx]; exact h2, by show 1 ≤ 20; decide⟩
theorem ent_keys {px th : List Pcl} {hk : List (Key × V)} {tr tr' : Tr} (hs : ∀ p, p ∈ px ↔ p ∈ th) (n : (tr.map (·.1)).Nodup) (n' : (tr'.map (·.1)).Nodup) (e : ∀ f ∈ tr, Ent px hk f) (e' : ∀ f ∈ tr', Ent th hk f)
    (a : ∀ c, (∃ p ∈ px, c ∈ p.os) → eqS c ∈ tr.map (·.1)) (a' : ∀ c, (∃ p ∈ th, c ∈ p.os) → eqS c ∈ tr'.map (·.1)) : (tr.map (·.1)).Perm (tr'.map (·.1)) := by
  refine (List.perm_ext_iff_of_nodup n n').mpr fun z => ⟨fun hz => ?_, fun hz => ?_⟩
  · obtain ⟨f, hf, rfl⟩ := List.mem_map.mp hz
    obtain ⟨c, r, rfl, _, _, ⟨p, hp, hc⟩, _⟩ := e f hf
    exact a' c ⟨p, (hs p).mp hp, hc⟩
  · obtain ⟨f, hf, rfl⟩ := List.mem_map.mp hz
    obtain ⟨c, r, rfl, _, _, ⟨p, hp, hc⟩, _⟩ := e' f hf
    exact a c ⟨p, (hs p).mpr hp, hc⟩
theorem ent_same {px th : List Pcl} {hk : List (Key × V)} {tr tr' : Tr} (hs : ∀ p, p ∈ px ↔ p ∈ th) (e : ∀ f ∈ tr, Ent px hk f) (e' : ∀ f ∈ tr', Ent th hk f) (x : Str) (l l' : List Str) (h : (x, l) ∈ tr) (h' : (x, l') ∈ tr') : l = l' := by
  obtain ⟨c, r, e1, _, _, _, nb⟩ := e _ h
  obtain ⟨c', r', e2, _, _, _, nb'⟩ := e' _ h'
  injection e1 with e1 e3
  injection e2 with e2 e4
  have : c = c' := eqS_inj (e1.symm.trans e2)
  subst this
  rw [e3, e4, nb.eq nb' (offer_same hs c)]
section
variable {P : Program} {w : World} {K : PySem.W.Frag} {mg : Str → Option Value} {base : Heap}
theorem make_shelfA {C S : Addr} {H : Hp} {Q : Addr → Hp → Prop} {E : XK} {a : Addr} {xs : List V} {ps : List Pcl} (ha : H a = some (.lst xs)) (hps : PclsAt C H xs ps) (h100 : ps.length ≤ 100) (hnd : (ps.map keyOf).Nodup) (q : ∀ x H', H x = none → Same H H' → ShelfAt S H' (.ref x) xs ps → Q x H') :
    ∀ x dx, H x = none → H dx = none → dx ≠ x → spSIn K C S (.ref x :: ([.ref a] ++ [])) (upd (upd H dx (.own x)) x (.ins S dx [])) (fun v H2 => v = .non ∧ Q x H2) E := by
  intro x dx hx hdx nx
  have s1 : Same H (upd (upd H dx (.own x)) x (.ins S dx [])) := same_upd' (same_upd hdx) hx
  refine ⟨x, dx, a, xs, ps, rfl, upd_same, s1 _ _ ha, hps.same s1, h100, hnd, fun H' keep hS => ⟨rfl, q x H' hx (fun b o e => keep b o (s1 _ _ e) (ne_of_none e hx)) hS⟩⟩
theorem make_standA {T : Addr} {H : Hp} {Q : Addr → Hp → Prop} {E : XK} {c h o : Addr} {ch : Ch} {hk : List (Key × V)} (hc : ChoAt H c ch) (hh : H h = some (.dK hk)) (ho : H o = some (.dK [])) (q : ∀ x H', H x = none → Same H H' → (∀ L, Busy H L → StandAt T (msk L H') (.ref x) ch hk) → Q x H') :
    ∀ x dx, H x = none → H dx = none → dx ≠ x → spTIn T (.ref x :: ([.ref c, .ref h, .ref o] ++ [])) (upd (upd H dx (.own x)) x (.ins T dx [])) (fun v H2 => v = .non ∧ Q x H2) E := make_stand (Q := atRef Q) hc hh ho q
noncomputable def spLaw (K : PySem.W.Frag) (Pt : Addr) : Sp := fun vs H Q _ => ∃ (a : Addr) (ns : List Int), vs = [.ref a] ∧ SqL K H a (ns.map V.int) ∧ ns.length ≤ 63 ∧ TabSt H Pt lamPos lamQual ∧ ∀ H', TabSt H' Pt lamPos lamQual → Q (.bl true) H'
theorem scLaw : FnScope ["_law_script", "_law_names", "_law_parcels", "_law_chosen_here", "_law_choices", "_law_cell", "_law_common", "_law_shelf", "_law_handed", "_law_stand"] ["_law_script"] (defScope sLaw) := ⟨rfl, rfl, rfl, by decide +kernel, rfl, by decide +kernel, by decide +kernel⟩
theorem okLaw {f C S T Pt fP fPIn fSIn fTIn fCel fNam fPAp fCho fTre fDue fRow : Addr} {fd fdPIn fdSIn fdTIn fdCel fdNam fdPAp fdCho fdTre fdDue fdRow : FuncData} (F : Fun K "law" "law" sLaw f fd) (B : Blt mg) (TC : Txt K mg C) (US : TxtS K mg S fP) (UT : TxtT K mg T) (MC : Mk K C fPIn) (MS : Mk K S fSIn) (MT : Mk K T fTIn)
    (FPIn : Fun K "__init__" "Parcel.__init__" sPIn fPIn fdPIn)
    (FSIn : Fun K "__init__" "Shelf.__init__" sSIn fSIn fdSIn) (GSIn : FnOk P w K mg base CX0 1 fSIn fdSIn ["self", "parcels"] (spSIn K C S)) (FTIn : Fun K "__init__" "Stand.__init__" sTIn fTIn fdTIn) (GTIn : FnOk P w K mg base CX0 2 fTIn fdTIn ["self", "chosen", "choices", "own"] (spTIn T))
    (FCel : Fun K "_law_cell_at" "_law_cell_at" sCel fCel fdCel) (mCel : mg "_law_cell_at" = some (.ref fCel)) (FNam : Fun K "_law_name" "_law_name" sNam fNam fdNam) (mNam : mg "_law_name" = some (.ref fNam))
    (FPAp : Fun K "_law_parcels_apart" "_law_parcels_apart" sPAp fPAp fdPAp) (mPAp : mg "_law_parcels_apart" = some (.ref fPAp)) (GPAp : FnOk P w K mg base CX0 3 fPAp fdPAp ["_law_script", "_law_names", "_law_start"] (spPAp K C))
    (FCho : Fun K "_law_chosen" "_law_chosen" sCho fCho fdCho) (mCho : mg "_law_chosen" = some (.ref fCho)) (GCho : FnOk P w K mg base CX0 2 fCho fdCho ["_law_parcels", "_law_names", "_law_cell"] (spCho K C))
    (FTre : Fun K "tree_of" "tree_of" sTre fTre fdTre) (mTre : mg "tree_of" = some (.ref fTre)) (GTre : FnOk P w K mg base CX0 4 fTre fdTre ["shelf", "stand"] (spTre C S T Pt))
    (FDue : Fun K "_law_due" "_law_due" sDue fDue fdDue) (mDue : mg "_law_due" = some (.ref fDue)) (GDue : FnOk P w K mg base CX0 2 fDue fdDue ["_law_parcels", "_law_chosen_here", "_law_choices"] (spDue C))
    (FRow : Fun K "_law_rows" "_law_rows" sRow fRow fdRow) (mRow : mg "_law_rows" = some (.ref fRow)) (GRow : FnOk P w K mg base CX0 1 fRow fdRow ["_law_tree", "_law_due_here"] spRow) : FnOk P w K mg base CX0 5 f fd ["_law_script"] (spLaw K Pt) := by
  have GPIn : FnOk P w K mg base CX0 1 fPIn fdPIn ["self", "name", "make", "rank", "files", "needs", "shuts", "offers"] (spPIn K C) := okPIn FPIn TC B.list
  have bPIn := FPIn.binds8 (l := ["self", "name", "make", "rank", "files", "needs", "shuts", "offers"]) (fun _ _ _ _ _ _ _ _ _ _ _ _ _ _ => rfl)
  have bSIn := FSIn.binds2 (l := ["self", "parcels"]) (fun _ _ _ _ _ _ _ _ => rfl)
  have bTIn := FTIn.binds4 (l := ["self", "chosen", "choices", "own"]) (fun _ _ _ _ _ _ _ _ _ _ => rfl)
  have GCel : FnOk P w K mg base CX0 1 fCel fdCel ["_law_script", "_law_k"] (spCel K) := okCel FCel B
  have bCel := FCel.binds2 (l := ["_law_script", "_law_k"]) (fun _ _ _ _ _ _ _ _ => rfl)
  have GNam : FnOk P w K mg base CX0 1 fNam fdNam ["_law_cell", "_law_p"] spNam := okNam FNam B
  have bNam := FNam.binds2 (l := ["_law_cell", "_law_p"]) (fun _ _ _ _ _ _ _ _ => rfl)
  have bPAp := FPAp.binds3 (l := ["_law_script", "_law_names", "_law_start"]) (fun _ _ _ _ _ _ _ _ _ => rfl)
  have bCho := FCho.binds3 (l := ["_law_parcels", "_law_names", "_law_cell"]) (fun _ _ _ _ _ _ _ _ _ => rfl)
  have bTre := FTre.binds2 (l := ["shelf", "stand"]) (fun _ _ _ _ _ _ _ _ => rfl)
  have bDue := FDue.binds3 (l := ["_law_parcels", "_law_chosen_here", "_law_choices"]) (fun _ _ _ _ _ _ _ _ _ => rfl)
  have bRow := FRow.binds2 (l := ["_law_tree", "_law_due_here"]) (fun _ _ _ _ _ _ _ _ => rfl)
  refine F.ok scLaw (fun vs H Q E h => ?_) (fun cdv A outer s H vs Q E hr h => ?_)
  · obtain ⟨a, is, rfl, _⟩ := h
    rfl
  · refine letX ?_
    intro xX dX
    obtain ⟨a, is, rfl, hS, h63, tab, q⟩ := h
    have hu := hr.units
    have hr3 : Room 3 (A.deeper (PyProof.Rows.envOfC "law" (defScope sLaw) s.heap.objs.size f cdv)) := hr.mono (by decide)
    have hr2 : Room 2 (A.deeper (PyProof.Rows.envOfC "law" (defScope sLaw) s.heap.objs.size f cdv)) := hr.mono (by decide)
    have hr1 : Room 1 (A.deeper (PyProof.Rows.envOfC "law" (defScope sLaw) s.heap.objs.size f cdv)) := hr.mono (by decide)
    refine ⟨_, (pss_cons (ps_setComp (i := 1) ["_law_p"] ["_law_script"] [0] scLaw.nd rfl rfl ⟨rfl, by decide +kernel, by decide +kernel, by decide +kernel, by decide +kernel, rfl, rfl, rfl⟩ rfl (pi_range1 rfl B.range (pa_cons (pe_op op_add pe_int (pe_op op_mod (pe_call GCel hr1 rfl mCel FCel.kp bCel .nil pass0 (pa_cons (pv 0) (pa_cons pe_int pa_nil))) pe_int)) pa_nil)) (fun _ _ _ _ => (pg_name (i := 0) (show List.Nodup (["_law_p", "_law_script"] : List Str) by decide +kernel) rfl (Or.inl rfl))) (fun _ _ _ _ => pts_nil) (fun _ _ _ _ => (pe_call GNam hr1 rfl mNam FNam.kp bNam .nil pass0 (pa_cons (pe_call GCel hr1 rfl mCel FCel.kp bCel .nil pass0 (pa_cons (pv 1) (pa_cons pe_int pa_nil))) (pa_cons (pv 0) pa_nil)))))
        (pss_cons (ps_set (i := 2) scLaw.nd rfl (Or.inl rfl) (pe_call GPAp hr3 rfl mPAp FPAp.kp bPAp .nil pass0 (pa_cons (pv 0) (pa_cons (pv 1) (pa_cons pe_int pa_nil)))))
        (pss_cons (ps_setComp (i := 2) ["_law_one"] [] [] scLaw.nd rfl rfl ⟨rfl, by decide +kernel, by decide +kernel, by decide +kernel, by decide +kernel, rfl, rfl, rfl⟩ rfl (pi_list (pv 2)) (fun _ _ _ _ => (pg_name (i := 0) (show List.Nodup (["_law_one"] : List Str) by decide +kernel) rfl (Or.inl rfl))) (fun _ _ _ _ => pts_nil) (fun _ _ _ _ => (pe_make MC GPIn hr2 rfl TC.mgC bPIn .nil pass0 (pa_cons (pe_fldK K (pv 0) rfl) (pa_cons (pe_fldK K (pv 0) rfl) (pa_cons (pe_fldK K (pv 0) rfl) (pa_cons (pe_lstN pa_nil) (pa_cons (pe_lstN pa_nil) (pa_cons (pe_lstN pa_nil) (pa_cons (pe_fldK K (pv 0) rfl) pa_nil))))))))))
        (pss_cons (ps_set (i := 3) scLaw.nd rfl (Or.inl rfl) (pe_call GCho hr2 rfl mCho FCho.kp bCho .nil pass0 (pa_cons (pv 2) (pa_cons (pv 1) (pa_cons (pe_call GCel hr1 rfl mCel FCel.kp bCel .nil pass0 (pa_cons (pv 0) (pa_cons pe_int pa_nil))) pa_nil)))))
        (pss_cons (ps_set (i := 4) scLaw.nd rfl (Or.inl rfl) pe_dnewN)
        (pss_cutE (ps_for PassesOwn.never rfl (pi_list (pe_compF ["_law_k"] ["_law_script"] [0] ⟨rfl, by decide +kernel, by decide +kernel, by decide +kernel, by decide +kernel, rfl, rfl, rfl⟩ rfl (pi_range2 rfl B.range (pa_cons pe_int (pa_cons pe_int pa_nil))) (fun _ _ _ _ => (pg_name (i := 0) (show List.Nodup (["_law_k", "_law_script"] : List Str) by decide +kernel) rfl (Or.inl rfl))) (fun _ _ _ _ => pts_nil) (fun _ _ _ _ => (pe_call GCel hr1 rfl mCel FCel.kp bCel .nil pass0 (pa_cons (pv 1) (pa_cons (pv 0) pa_nil)))))) (pg_name (i := 5) scLaw.nd rfl (Or.inl rfl))
        (pss_cons (ps_set (i := 6) scLaw.nd rfl (Or.inl rfl) (pe_ix ix_list (pv 1) (pe_op op_sub (pe_un un_neg pe_int) (pe_op op_mod (pv 5) pe_int)) (fun _ _ => rfl)))
          (pss_cutE (ps_if (pt_cmpR op_eq (pe_op op_mod (pe_op op_fdiv (pv 5) pe_int) pe_int) pe_int (nomark _))
          (pss_one (ps_set (i := 6) scLaw.nd rfl (Or.inl rfl) pe_str)) pss_nil)
          (pss_one (ps_if (pt_cmpR op_gt (pe_op op_mod (pe_op op_fdiv (pv 5) pe_int) pe_int) pe_int (nomark _))
          (pss_one (ps_dput hu (pv 4) (pv 6) (pe_ix ix_list (pe_op op_catN (pv 1) (pe_lstN (pa_cons pe_str pa_nil))) (pe_op op_mod (pe_op op_fdiv (pv 5) pe_int) (pe_op op_add (pe_callB call_len_seq (by rfl) B.len PySem.boot_len (pa_cons (pv 1) pa_nil)) pe_int)) (fun _ _ => rfl)) rfl)) pss_nil)))))
        (pss_cons (ps_set (i := 7) scLaw.nd rfl (Or.inl rfl) (pe_make MS GSIn hr2 rfl US.mgC bSIn .nil pass0 (pa_cons (pv 2) pa_nil)))
        (pss_cons (ps_set (i := 8) scLaw.nd rfl (Or.inl rfl) (pe_callTy call_dictN (by rfl) B.dict PyProof.Rows.boot_dict (pa_cons (pv 4) pa_nil)))
        (pss_cons (ps_set (i := 9) scLaw.nd rfl (Or.inl rfl) (pe_make MT GTIn hr3 rfl UT.mgC bTIn .nil pass0 (pa_cons (pv 3) (pa_cons (pv 8) (pa_cons pe_dnewN pa_nil)))))
        (pss_cons (ps_expr (pe_bm0 PySem.F.plainAttrs_dict PySem.F.slot_dict_clear PySem.F.type_dict_clear mt_dclear (pv 8)))
        (pss_one (ps_ret (pe_call GRow hr1 rfl mRow FRow.kp bRow .nil pass0 (pa_cons (pe_call GTre hr rfl mTre FTre.kp bTre .nil pass0 (pa_cons (pv 7) (pa_cons (pv 9) pa_nil))) (pa_cons (pe_call GDue hr2 rfl mDue FDue.kp bDue .nil pass0 (pa_cons (pv 2) (pa_cons (pv 3) (pa_cons (pv 4) pa_nil)))) pa_nil))))))))))))))), ?_⟩
    refine lets6 ?_
    intro dD sS uU6 uU5 uU4 uU3 uU2
    refine ⟨_, rfl, a, 0, is, rfl, by omega, hS, fun c0 => ?_⟩
    refine ⟨_, _, rfl, rfl, (by show (0 : Int) < 3; decide), _, _, rfl, rfl, 2 + c0 % 3, rfl, by omega, by omega, ?_⟩
    refine comp_range0 (σ0 := [none, some (.ref a)]) (fun σ => ∃ v, σ = [v, some (.ref a)]) (fun i ys _ => ∃ xs : List Str, ys = xs.map V.str ∧ xs.length = i ∧ ∀ x ∈ xs, Ln x ∧ 1 ≤ x.length ∧ x.length ≤ 20) ⟨_, rfl⟩ (fun _ _ => ⟨[], rfl, rfl, fun x hx => nomatch hx⟩) ?_ ?_
    · intro D i ys σ H2 k hD hi hQ1 hd hs hQ2 hk
      refine letG ?_
      intro tT
      obtain ⟨v, rfl⟩ := hQ1
      obtain ⟨xs, rfl, hx, hxs⟩ := hQ2
      first | (refine lets12 ?_; intros) | (refine lets11 ?_; intros) | (refine lets10 ?_; intros) | (refine lets9 ?_; intros) | (refine lets8 ?_; intros) | (refine lets7 ?_; intros) | (refine lets6 ?_; intros) | (refine lets5 ?_; intros) | (refine lets4 ?_; intros) | (refine lets3 ?_; intros) | (refine lets2 ?_; intros) | (refine letB (g := gName _) ?_; intros) | (refine letB (g := gTup _ _ _) ?_; intros) | skip
      refine ⟨_, rfl, a, 1, is, rfl, by omega, hs.seq hS, fun c1 => ⟨_, rfl, _, _, rfl, fun x H3 lx lr s3 => ?_⟩⟩
      refine hk _ _ _ ⟨_, rfl⟩ s3 (small1000 (by rw [List.length_map]; omega)) ⟨xs ++ [x], strs_snoc xs x, by rw [List.length_append, hx]; rfl, fun y hy => ?_⟩
      rcases List.mem_append.mp hy with z | z
      · exact hxs y z
      · rw [List.mem_singleton.mp z]; exact ⟨lx, lr⟩
    intro nA ys H1 nD hn s1 hQ3
    refine letG ?_
    intro tT
    obtain ⟨ns, rfl, nl, hns⟩ := hQ3
    first | (refine lets12 ?_; intros) | (refine lets11 ?_; intros) | (refine lets10 ?_; intros) | (refine lets9 ?_; intros) | (refine lets8 ?_; intros) | (refine lets7 ?_; intros) | (refine lets6 ?_; intros) | (refine lets5 ?_; intros) | (refine lets4 ?_; intros) | (refine lets3 ?_; intros) | (refine lets2 ?_; intros) | (refine letB (g := gName _) ?_; intros) | (refine letB (g := gTup _ _ _) ?_; intros) | skip
    have n2 : 2 ≤ ns.length := by omega
    have n4 : ns.length ≤ 4 := by omega
    refine ⟨_, rfl, _, rfl, a, nA, is, ns, rfl, s1.seq hS, hn, by omega, n4, fun fa H2 vs ps _ s2 e2 hps ap => ?_⟩
    have p6 := ap.len
    refine ⟨_, rfl, fa, rfl, ⟨_, SqL.of e2⟩, ?_⟩
    intro b hD
    refine comp_listD0 (σ0 := [none]) hD (SqL.of e2) (fun σ => ∃ v, σ = [v]) (fun i zs H3 => PclsAt C (msk [b] H3) zs ((ps.take i).map bare)) ⟨_, rfl⟩ .nil ?_ ?_
    · rintro i x zs σ H3 k hx ⟨v, rfl⟩ hd h2 pr hk
      obtain ⟨p, hp, o, dy, fl, rk, m, pf, pn, pss, po, ys, rfl, h1, h2', h3, h4, h5, h6, h7⟩ := paired_get' hps hx
      have hb := h2 _ _ h1
      have rr := h2'.rank
      rw [h7] at rr
      refine ⟨_, rfl, o, C, dy, _, _, rfl, hb, TC.cl, TC.nN, h2'.name, _, rfl, o, C, dy, _, _, rfl, hb, TC.cl, TC.nM, h2'.make, _, rfl, o, C, dy, _, _, rfl, hb, TC.cl, TC.nR, rr, (by show 0 ≤ sizeLine; decide), fun q1 H4 n4' s4 e4 => ?_⟩
      refine ⟨(by show 0 ≤ sizeLine; decide), fun q2 H5 n5 s5 e5 => ?_⟩
      refine ⟨(by show 0 ≤ sizeLine; decide), fun q3 H6 n6 s6 e6 => ?_⟩
      have s36 := s4.trans (s5.trans s6)
      have t6 := h2.trans s36
      refine ⟨_, rfl, o, C, dy, _, _, rfl, s36 _ _ hb, TC.cl, TC.nO, h2'.offers, ?_⟩
      refine make_pcl (fs := []) (os := p.os) (rk := p.rk) (t6 _ _ h3) (s6 _ _ (s5 _ _ e4)) .nil (s6 _ _ e5) e6 (t6 _ _ h6) (Nat.zero_le _) fun x H7 n7 s7 hpc => ?_
      have zl := paired_len pr
      rw [List.length_map, List.length_take] at zl
      refine hk _ _ _ ⟨_, rfl⟩ (s36.trans s7) (small1000 (by omega)) ?_
      rw [msk_upd List.mem_cons_self, List.take_add_one, hp, List.map_append]
      refine paired_snoc (hpc [b] fun c hc => ?_) (pr.same (msk_mono (s36.trans s7)))
      rw [List.mem_singleton.mp hc]
      exact ⟨_, s36 _ _ hd, by intro vs z; cases z⟩
    rintro vs' H3 e3 s3 pr
    rw [paired_len hps, List.take_length] at pr
    have hps' : PclsAt C H3 vs' (ps.map bare) := pr.same msk_same
    have nd' : ((ps.map bare).map keyOf).Nodup := by rw [List.map_map]; exact ap.nd
    have l6 : (ps.map bare).length ≤ 6 := by rw [List.length_map]; exact p6
    have hg : PsG (ps.map bare) := fun p hp => by
      obtain ⟨r, hr', rfl⟩ := List.mem_map.mp hp
      have h1 := hns _ (ap.nms r hr')
      obtain ⟨h2, h3⟩ := ap.offs r hr'
      exact ⟨h2, ⟨h1.1, h1.2.1⟩, fun t ht => ⟨(hns _ (h3 t ht)).1, (hns _ (h3 t ht)).2.2⟩⟩
    have hf0 : ∀ p ∈ ps.map bare, p.fs = [] := fun p hp => by
      obtain ⟨r, _, rfl⟩ := List.mem_map.mp hp
      rfl
    generalize ps.map bare = ps' at hps' nd' l6 hg hf0
    refine ⟨_, rfl, _, rfl, _, rfl, a, 2, is, rfl, by omega, (s1.trans (s2.trans s3)).seq hS, fun c2 => ?_⟩
    refine ⟨b, nA, c2, vs', ps', ns, rfl, e3, hps', by omega, s3 _ _ (s2 _ _ hn), n4, fun c H4 ch _ s4 hC hV hnd hcl => ?_⟩
    refine fun p1 H5 n5 s5 e5 => ?_
    have s05 := s1.trans (s2.trans (s3.trans (s4.trans s5)))
    have hn5 : H5 nA = some (.lst (ns.map V.str)) := s5 _ _ (s4 _ _ (s3 _ _ (s2 _ _ hn)))
    refine ⟨fun σ6 H6 => ∃ u5 u6 hk, σ6 = [some (.ref a), some (.ref nA), some (.ref b), some (.ref c), some (.ref p1), u5, u6, none, none, none] ∧ Same H4 H6 ∧ H6 p1 = some (.dK hk) ∧ HkOk hk, ?_, ?_⟩
    · refine ⟨9, 13, rfl, ⟨by omega, by omega, by omega, by omega⟩, ?_⟩
      refine comp_range0 (lo := 9) (σ0 := [none, some (.ref a)]) (fun σ => ∃ v, σ = [v, some (.ref a)]) (fun i ys _ => ∃ ms : List Int, ys = ms.map V.int ∧ ms.length = i) ⟨_, rfl⟩ (fun _ _ => ⟨[], rfl, rfl⟩) ?_ ?_
      · intro D i ys σ H6 k hD' hi hQ4 hd hs hQ5 hk
        refine letG ?_
        intro tT
        obtain ⟨v, rfl⟩ := hQ4
        obtain ⟨ms, rfl, hm⟩ := hQ5
        first | (refine lets12 ?_; intros) | (refine lets11 ?_; intros) | (refine lets10 ?_; intros) | (refine lets9 ?_; intros) | (refine lets8 ?_; intros) | (refine lets7 ?_; intros) | (refine lets6 ?_; intros) | (refine lets5 ?_; intros) | (refine lets4 ?_; intros) | (refine lets3 ?_; intros) | (refine lets2 ?_; intros) | (refine letB (g := gName _) ?_; intros) | (refine letB (g := gTup _ _ _) ?_; intros) | skip
        refine ⟨_, rfl, _, rfl, a, 9 + (i : Int), is, rfl, by omega, (s05.trans hs).seq hS, fun cc => ?_⟩
        exact hk _ _ _ ⟨_, rfl⟩ (Same.refl _) (small1000 (by rw [List.length_map]; omega)) ⟨ms ++ [cc], by rw [List.map_append]; rfl, by rw [List.length_append, hm]; rfl⟩
      · rintro lc ys H6 nlc hlc h6 ⟨ms, rfl, hm⟩
        refine ⟨lc, rfl, ⟨_, SqL.of hlc⟩, ?_⟩
        have e56 := h6 _ _ e5
        have lcp : lc ≠ p1 := ne_of hlc e56 (by intro z; cases z)
        have nAp : nA ≠ p1 := ne_of hn5 e5 (by intro z; cases z)
        refine for_list (xs := ms.map V.int) (fun i σ H7 => ∃ u5 u6 hk, σ = [some (.ref a), some (.ref nA), some (.ref b), some (.ref c), some (.ref p1), u5, u6, none, none, none] ∧ (∀ b' o, H6 b' = some o → b' ≠ p1 → H7 b' = some o) ∧ H7 p1 = some (.dK hk) ∧ HkOk hk ∧ hk.length ≤ i)
          ⟨none, none, [], rfl, fun _ _ e _ => e, e56, (fun k v z => nomatch z), Nat.le_refl _⟩ ?_ ?_ ?_
        · intro i σ H7 hi hQ6
          refine letG ?_
          intro tT
          obtain ⟨u5, u6, hk, rfl, kp, _⟩ := hQ6
          exact SqL.of (kp _ _ hlc lcp)
        · intro i v σ H7 hv hQ7
          refine letG ?_
          intro tT
          obtain ⟨u5, u6, hk, rfl, kp, hp7, hok7, hl7⟩ := hQ7
          first | (refine lets12 ?_; intros) | (refine lets11 ?_; intros) | (refine lets10 ?_; intros) | (refine lets9 ?_; intros) | (refine lets8 ?_; intros) | (refine lets7 ?_; intros) | (refine lets6 ?_; intros) | (refine lets5 ?_; intros) | (refine lets4 ?_; intros) | (refine lets3 ?_; intros) | (refine lets2 ?_; intros) | (refine letB (g := gName _) ?_; intros) | (refine letB (g := gTup _ _ _) ?_; intros) | skip
          obtain ⟨cell, hcell, rfl⟩ := List.mem_map.mp (List.mem_of_getElem? hv)
          have hi4 : i < ms.length := by have := (List.getElem?_eq_some_iff.mp hv).1; rw [List.length_map] at this; exact this
          have nA7 := kp _ _ (h6 _ _ hn5) nAp
          obtain ⟨v, hv', hvs⟩ : ∃ v, atI (ns.map V.str) (-1 - cell % 2) = some v ∧ ∃ y, v = .str y := by
            obtain ⟨v, hv⟩ := atI_neg (xs := ns.map V.str) (j := (cell % 2).toNat) (by rw [List.length_map]; omega)
            rw [show (-1 - (0 + ((cell % 2).toNat : Int))) = -1 - cell % 2 by omega] at hv
            obtain ⟨j, _, hj, _⟩ := atI_get hv
            obtain ⟨y, _, e⟩ := List.mem_map.mp (List.mem_of_getElem? hj)
            exact ⟨v, hv, y, e.symm⟩
          obtain ⟨y0, rfl⟩ := hvs
          refine ⟨_, rfl, _, rfl, _, rfl, _, _, rfl, rfl, (by show (0 : Int) < 2; decide), _, _, rfl, rfl, nA, _, _, _, rfl, rfl, SqL.of nA7, hv', ?_⟩
          refine ⟨fun σ8 H8 => ∃ y, σ8 = [some (.ref a), some (.ref nA), some (.ref b), some (.ref c), some (.ref p1), some (.int cell), some (.str y), none, none, none] ∧ H8 = H7, ?_, ?_⟩
          · refine ⟨_, rfl, _, _, rfl, rfl, ⟨by omega, by omega⟩, _, _, rfl, rfl, (by show (0 : Int) < 5; decide), rfl, _, rfl, ite2 (fun _ => ⟨_, rfl, rfl⟩) (fun _ => ⟨_, rfl, rfl⟩)⟩
          · rintro σ8 H8 ⟨y, rfl, rfl⟩
            refine ⟨_, rfl, _, _, rfl, rfl, ⟨by omega, by omega⟩, _, _, rfl, rfl, (by show (0 : Int) < 5; decide), _, _, rfl, rfl, _, rfl, ite2 (fun _ => ?_) (fun _ => ⟨_, _, hk, rfl, kp, hp7, hok7, by omega⟩)⟩
            refine ⟨_, rfl, (by show 1 ≤ sizeLine; decide), fun p2 H9 n9 s9 e9 => ?_⟩
            refine ⟨nA, p2, _, _, rfl, rfl, s9 _ _ nA7, e9, smallL (by rw [List.length_map]; show ns.length + 1 ≤ 1000; omega), fun p3 H10 n10 s10 e10 => ?_⟩
            have s910 := s9.trans s10
            have pos : (0 : Int) < ((ns.map V.str).length : Int) + 1 := by omega
            obtain ⟨z, hz, zl⟩ : ∃ z, atI (ns.map V.str ++ [V.str (Str.ofString "strange")]) (cell / 10 % (((ns.map V.str).length : Int) + 1)) = some (.str z) ∧ Ln z := by
              obtain ⟨v, hv, hv2⟩ := atI_in (xs := ns.map V.str ++ [V.str (Str.ofString "strange")]) (r := cell / 10 % (((ns.map V.str).length : Int) + 1)) (Int.emod_nonneg _ (by omega)) (by
                have := Int.emod_lt_of_pos (cell / 10) pos
                rw [List.length_append]
                show _ < ((List.length _ + 1 : Nat) : Int)
                omega)
              rcases List.mem_append.mp (List.mem_of_getElem? hv2) with w | w
              · obtain ⟨x, hx, rfl⟩ := List.mem_map.mp w
                exact ⟨x, hv, (hns x hx).1⟩
              · rw [List.mem_singleton.mp w] at hv
                exact ⟨_, hv, lnOk_of (by decide +kernel)⟩
            refine ⟨_, rfl, _, _, rfl, rfl, ⟨by omega, by omega⟩, _, rfl, nA, _, rfl, .inl (SqL.of (s910 _ _ nA7)), _, _, rfl, rfl, _, _, rfl, rfl, pos, p3, _, _, _, rfl, rfl, SqL.of e10, hz, _, rfl, _, rfl, p1, _, rfl, DPut.k (k := .inr y) (s910 _ _ hp7) (small1000 (by omega)), ?_⟩
            refine ⟨_, _, _, rfl, fun b' o e nb => keep_upd (s910 _ _ (kp _ _ e nb)) nb, upd_same, fun k v hv => ?_, Nat.le_trans (length_putK _ _ _) (by omega)⟩
            rw [valV_put] at hv
            by_cases ek : k = .inr y
            · rw [if_pos ek] at hv
              cases hv
              exact ⟨z, rfl, zl⟩
            · rw [if_neg ek] at hv
              exact hok7 k v hv
        · intro σ H7 hQ8
          refine letG ?_
          intro tT
          obtain ⟨u5, u6, hk, rfl, kp, hp7, hok7, hl7⟩ := hQ8
          exact ⟨_, _, hk, rfl, fun b' o e => kp _ _ (h6 _ _ (s5 _ _ e)) (ne_of_none e n5), hp7, hok7⟩
    intro σ6 H6 hQ9
    refine letG ?_
    intro tT
    obtain ⟨u5, u6, hk, rfl, s46, hp6, hok⟩ := hQ9
    first | (refine lets12 ?_; intros) | (refine lets11 ?_; intros) | (refine lets10 ?_; intros) | (refine lets9 ?_; intros) | (refine lets8 ?_; intros) | (refine lets7 ?_; intros) | (refine lets6 ?_; intros) | (refine lets5 ?_; intros) | (refine lets4 ?_; intros) | (refine lets3 ?_; intros) | (refine lets2 ?_; intros) | (refine letB (g := gName _) ?_; intros) | (refine letB (g := gTup _ _ _) ?_; intros) | skip
    refine ⟨_, rfl, ?_⟩
    dsimp only [List.set, tNil]
    refine make_shelfA (K := K) (C := C) (S := S) (s46 _ _ (s4 _ _ e3)) (hps'.same (s4.trans s46)) (by omega) nd' fun sh H7 n7 s7 hSh => ?_
    have hp7 := s7 _ _ hp6
    refine ⟨_, rfl, p1, hk, rfl, hp7, fun hd H8 n8 s8 e8 => ?_⟩
    refine ⟨_, rfl, _, rfl, fun p9 H9 n9 s9 e9 => ?_⟩
    have s49 := s46.trans (s7.trans (s8.trans s9))
    have hC9 := hC.same s49
    dsimp only [List.set, tNil]
    refine make_standA (T := T) (ch := ch) (hk := hk) hC9 (s9 _ _ e8) e9 fun st H10 n10 s10 hst => ?_
    have e10 := s10 _ _ (s9 _ _ e8)
    refine ⟨_, rfl, .inr (.inr (.inl ⟨rfl, .inl ⟨_, e10⟩⟩)), hd, _, rfl, rfl, e10, ?_⟩
    have sC : Same H7 (upd H10 hd (.dK [])) := same_upd' (s8.trans (s9.trans s10)) n8
    have hSt : StandAt T (upd H10 hd (.dK [])) (.ref st) ch hk := by
      have := hst [hd] fun b hb => by
        have hb := List.mem_singleton.mp hb
        subst hb
        exact ⟨_, s9 _ _ e8, by intro vs z; cases z⟩
      rw [← msk_upd (o := .dK []) (List.mem_singleton.mpr rfl)] at this
      exact this.same msk_same
    generalize upd H10 hd (.dK []) = HC at sC hSt
    have s4C : Same H4 HC := s46.trans (s7.trans sC)
    have s0C : Same H HC := s1.trans (s2.trans (s3.trans (s4.trans s4C)))
    have tabC : TabSt HC Pt lamPos lamQual := tab.same s0C
    have psC := hps'.same (s4.trans s4C)
    refine ⟨_, rfl, _, rfl, .ref sh, .ref st, vs', ps', ch, hk, rfl, hSh.same sC, psC, fun p hp => ⟨hf0 p hp, (hg p hp).1, (hg p hp).2.1.1, (hg p hp).2.2⟩, hSt, hok, hV, by omega, tabC, fun d HD kvs tr px nd kp tbD hdD prD ndD lnD enD alD pn pm => ?_⟩
    have off : ∀ {v : V} {p : Pcl}, PclAt C HC v p → PclAt C (msk [Pt] HC) v p := fun z => z.off fun b' hb o eo => by
      obtain ⟨φ, w⟩ := TabSt.at tabC
      rw [List.mem_singleton.mp hb, w] at eo
      cases eo
      exact ⟨(by intro _ _ _ z; cases z), (by intro _ z; cases z), (by intro _ z; cases z)⟩
    have sD : Same (msk [Pt] HC) HD := fun b' o e => by
      have nb : b' ∉ [Pt] := fun z => by unfold msk at e; rw [if_pos z] at e; cases e
      exact kp _ _ (msk_same _ _ e) (by simpa using nb)
    have psD : PclsAt C HD vs' ps' := PclsAt.same sD (paired_mapP psC fun _ _ => off)
    have cD : ChoAt HD c ch := by
      obtain ⟨kc, g1, g2⟩ := hC.same s4C
      exact ⟨kc, kp _ _ g1 (TabSt.ne tabC g1 (by intro φ z; cases z)), paired_mapP g2 fun kv e zq444 => zq444.elim fun a1 zq445 => zq445.elim fun m zq446 => zq446.elim fun a2 a3 => ⟨a1, m, a2, kp _ _ a3 (TabSt.ne tabC a3 (by intro φ z; cases z))⟩⟩
    have bD : HD b = some (.lst vs') := by
      have z := s4C _ _ (s4 _ _ e3)
      exact kp _ _ z (TabSt.ne tabC z (by intro φ z; cases z))
    have p1D : HD p1 = some (.dK hk) := by
      have z := sC _ _ hp7
      exact kp _ _ z (TabSt.ne tabC z (by intro φ z; cases z))
    refine ⟨_, rfl, _, rfl, _, rfl, b, c, p1, vs', ps', ch, hk, rfl, bD, psD, l6, cD, hnd, p1D, hok, hg, fun du HE kvs' tr' nE sE hdE prE ndE enE alE => ?_⟩
    have hs := same_set nd' hnd pn pm
    refine ⟨d, du, kvs, kvs', tr, tr', rfl, ne_of_none hdD nE, sE _ _ hdD, hdE, paired_mapP prD fun _ _ => DuV.same sE, prE, ent_keys hs ndD ndE enD enE alD alE, ent_same hs enD enE, ent_ok enD, ent_ok enE, by omega, fun HF sF => ?_⟩
    exact q HF (tbD.same (sE.trans sF))
end
end K33

set_option Elab.async false
set_option linter.all false
set_option maxRecDepth 100000
set_option maxHeartbeats 8000000
namespace K33
open PySem L2
noncomputable def ClsC (K : PySem.W.Frag) (mg : Str → Option Value) : Prop := ∃ C fPIn fdPIn, Txt K mg C ∧ Mk K C fPIn ∧ Fun K "__init__" "Parcel.__init__" sPIn fPIn fdPIn
theorem clsC_mk {K : PySem.W.Frag} {h : Heap} {mg : Str → Option Value} {C f0 : Addr} {od0 an0 : Option Addr} {sl0 : Array (Option Value)} {oc0 kV0 dc0 pm0 cd0 ct0 : Value} (X : K.In h) (G : h.Ns mainGlobals mg)
    (aC : PySem.W.nsIn K mainGlobals "Parcel" = some (some (.ref C))) (a0 : PySem.W.findIn K (.ref C) "__init__" = some (some (.ref f0))) (i0 : PySem.W.isFn K (.ref f0) = true)
    (l0 : K.lookup f0 = some ⟨oc0, od0, .func (PySem.W.fnOf "__init__" "Parcel.__init__" (defArgs sPIn) (defBody sPIn) (defScope sPIn) .none kV0 dc0 pm0 an0 cd0 ct0), sl0⟩) (c0 : PySem.W.codeIn K cd0 "Parcel.__init__" = true) (k0 : PySem.W.keepIn K (.ref f0) = true)
    (pg : PySem.W.plainGet K C Str.empty = true) (hd : PySem.W.hasDictIn K C = true) (po : PySem.W.plainOver K C = true) (sa : PySem.W.findIn K (.ref C) "__setattr__" = some (some (.builtin "object.__setattr__"))) (mk : PySem.W.makesIn K C = true) (kc : PySem.W.keepIn K (.ref C) = true) (n0 : PySem.W.findIn K (.ref C) "name" = some none) (n1 : PySem.W.findIn K (.ref C) "make" = some none) (n2 : PySem.W.findIn K (.ref C) "rank" = some none) (n3 : PySem.W.findIn K (.ref C) "files" = some none) (n4 : PySem.W.findIn K (.ref C) "needs" = some none) (n5 : PySem.W.findIn K (.ref C) "shuts" = some none) (n6 : PySem.W.findIn K (.ref C) "offers" = some none) : ClsC K mg :=
  ⟨C, f0, _, ⟨⟨pg, hd, po, sa⟩, n0, n1, n2, n3, n4, n5, n6, PySem.W.mg_of X G aC⟩, ⟨mk, a0, i0, kc⟩, fun_mk l0 c0 k0⟩
noncomputable def ClsS (K : PySem.W.Frag) (mg : Str → Option Value) : Prop := ∃ S fSIn fdSIn fSPa fdSPa, TxtS K mg S fSPa ∧ Mk K S fSIn ∧ Fun K "__init__" "Shelf.__init__" sSIn fSIn fdSIn ∧ Fun K "parcel" "Shelf.parcel" sSPa fSPa fdSPa
theorem clsS_mk {K : PySem.W.Frag} {h : Heap} {mg : Str → Option Value} {S f0 f1 : Addr} {od0 an0 : Option Addr} {sl0 : Array (Option Value)} {oc0 kV0 dc0 pm0 cd0 ct0 : Value} {od1 an1 : Option Addr} {sl1 : Array (Option Value)} {oc1 kV1 dc1 pm1 cd1 ct1 : Value} (X : K.In h) (G : h.Ns mainGlobals mg)
    (aC : PySem.W.nsIn K mainGlobals "Shelf" = some (some (.ref S))) (a0 : PySem.W.findIn K (.ref S) "__init__" = some (some (.ref f0))) (i0 : PySem.W.isFn K (.ref f0) = true)
    (l0 : K.lookup f0 = some ⟨oc0, od0, .func (PySem.W.fnOf "__init__" "Shelf.__init__" (defArgs sSIn) (defBody sSIn) (defScope sSIn) .none kV0 dc0 pm0 an0 cd0 ct0), sl0⟩) (c0 : PySem.W.codeIn K cd0 "Shelf.__init__" = true) (k0 : PySem.W.keepIn K (.ref f0) = true) (a1 : PySem.W.findIn K (.ref S) "parcel" = some (some (.ref f1))) (i1 : PySem.W.isFn K (.ref f1) = true)
    (l1 : K.lookup f1 = some ⟨oc1, od1, .func (PySem.W.fnOf "parcel" "Shelf.parcel" (defArgs sSPa) (defBody sSPa) (defScope sSPa) .none kV1 dc1 pm1 an1 cd1 ct1), sl1⟩) (c1 : PySem.W.codeIn K cd1 "Shelf.parcel" = true) (k1 : PySem.W.keepIn K (.ref f1) = true)
    (pg : PySem.W.plainGet K S Str.empty = true) (hd : PySem.W.hasDictIn K S = true) (po : PySem.W.plainOver K S = true) (sa : PySem.W.findIn K (.ref S) "__setattr__" = some (some (.builtin "object.__setattr__"))) (mk : PySem.W.makesIn K S = true) (kc : PySem.W.keepIn K (.ref S) = true) (n0 : PySem.W.findIn K (.ref S) "shelved" = some none) : ClsS K mg :=
  ⟨S, f0, _, f1, _, ⟨⟨pg, hd, po, sa⟩, n0, ⟨a1, i1, k1⟩, PySem.W.mg_of X G aC⟩, ⟨mk, a0, i0, kc⟩, fun_mk l0 c0 k0, fun_mk l1 c1 k1⟩
noncomputable def ClsT (K : PySem.W.Frag) (mg : Str → Option Value) : Prop := ∃ T fTIn fdTIn, TxtT K mg T ∧ Mk K T fTIn ∧ Fun K "__init__" "Stand.__init__" sTIn fTIn fdTIn
theorem clsT_mk {K : PySem.W.Frag} {h : Heap} {mg : Str → Option Value} {T f0 : Addr} {od0 an0 : Option Addr} {sl0 : Array (Option Value)} {oc0 kV0 dc0 pm0 cd0 ct0 : Value} (X : K.In h) (G : h.Ns mainGlobals mg)
    (aC : PySem.W.nsIn K mainGlobals "Stand" = some (some (.ref T))) (a0 : PySem.W.findIn K (.ref T) "__init__" = some (some (.ref f0))) (i0 : PySem.W.isFn K (.ref f0) = true)
    (l0 : K.lookup f0 = some ⟨oc0, od0, .func (PySem.W.fnOf "__init__" "Stand.__init__" (defArgs sTIn) (defBody sTIn) (defScope sTIn) .none kV0 dc0 pm0 an0 cd0 ct0), sl0⟩) (c0 : PySem.W.codeIn K cd0 "Stand.__init__" = true) (k0 : PySem.W.keepIn K (.ref f0) = true)
    (pg : PySem.W.plainGet K T Str.empty = true) (hd : PySem.W.hasDictIn K T = true) (po : PySem.W.plainOver K T = true) (sa : PySem.W.findIn K (.ref T) "__setattr__" = some (some (.builtin "object.__setattr__"))) (mk : PySem.W.makesIn K T = true) (kc : PySem.W.keepIn K (.ref T) = true) (n0 : PySem.W.findIn K (.ref T) "chosen" = some none) (n1 : PySem.W.findIn K (.ref T) "choices" = some none) (n2 : PySem.W.findIn K (.ref T) "own" = some none) : ClsT K mg :=
  ⟨T, f0, _, ⟨⟨pg, hd, po, sa⟩, n0, n1, n2, PySem.W.mg_of X G aC⟩, ⟨mk, a0, i0, kc⟩, fun_mk l0 c0 k0⟩
noncomputable def DefC (K : PySem.W.Frag) (mg : Str → Option Value) (x : Str) (st : Stmt) (Pt : Addr) : Prop := ∃ f c fd, mg x = some (.ref f) ∧ FunC K x x st f c fd ∧ PySem.W.codeHdIn K c Pt = true ∧ K.lookup Pt = none
theorem defC_mk {K : PySem.W.Frag} {h : Heap} {mg : Str → Option Value} {x : Str} {st : Stmt} {f c Pt : Addr} {od an : Option Addr} {sl : Array (Option Value)} {oc kV dc pm ct : Value} (X : K.In h) (G : h.Ns mainGlobals mg)
    (a : PySem.W.nsIn K mainGlobals x = some (some (.ref f))) (l : K.lookup f = some ⟨oc, od, .func (PySem.W.fnOf x x (defArgs st) (defBody st) (defScope st) .none kV dc pm an (.ref c) ct), sl⟩) (cc : PySem.W.codeIn K (.ref c) x = true) (k : PySem.W.keepIn K (.ref f) = true) (hd : PySem.W.codeHdIn K c Pt = true) (hn : K.lookup Pt = none) :
    DefC K mg x st Pt := ⟨f, c, _, PySem.W.mg_of X G a, ⟨⟨_, _, _, _, _, _, _, _, rfl, l, cc⟩, k⟩, hd, hn⟩
theorem bltAt_mk {K : PySem.W.Frag} {h : Heap} {mg : Str → Option Value} (X : K.In h) (G : h.Ns mainGlobals mg) (z0 : PySem.W.nsIn K mainGlobals "range" = some none) (z1 : PySem.W.nsIn K mainGlobals "len" = some none) (z2 : PySem.W.nsIn K mainGlobals "min" = some none) (z3 : PySem.W.nsIn K mainGlobals "list" = some none) (z4 : PySem.W.nsIn K mainGlobals "dict" = some none) (z5 : PySem.W.nsIn K mainGlobals "set" = some none) (z6 : PySem.W.nsIn K mainGlobals "sorted" = some none) (z7 : PySem.W.nsIn K mainGlobals "isinstance" = some none) (z8 : PySem.W.nsIn K mainGlobals "str" = some none) : Blt mg :=
  ⟨PySem.W.mg_none_of X G z0, PySem.W.mg_none_of X G z1, PySem.W.mg_none_of X G z2, PySem.W.mg_none_of X G z3, PySem.W.mg_none_of X G z4, PySem.W.mg_none_of X G z5, PySem.W.mg_none_of X G z6, PySem.W.mg_none_of X G z7, PySem.W.mg_none_of X G z8⟩
theorem all_mk {P : Program} {w : World} {K : PySem.W.Frag} {mg : Str → Option Value} {fa Pt : Addr} (hfa : mg "law" = some (.ref fa)) (B : Blt mg) (CC : ClsC K mg) (CS : ClsS K mg) (CT : ClsT K mg) (DN : DefC K mg "name_behind" sNBe Pt) (dPsO : DefAt K mg "parcels_of" sPsO) (dCCo : DefAt K mg "changes_copied" sCCo) (dTre : DefAt K mg "tree_of" sTre) (dBro : DefAt K mg "brought_by" sBro) (dCom : DefAt K mg "commons_of" sCom) (dCel : DefAt K mg "_law_cell_at" sCel) (dMix : DefAt K mg "_law_mixed" sMix) (dNam : DefAt K mg "_law_name" sNam) (dLin : DefAt K mg "_law_line" sLin) (dLis : DefAt K mg "_law_lines" sLis) (dPat : DefAt K mg "_law_path" sPat) (dMak : DefAt K mg "_law_make" sMak) (dPAp : DefAt K mg "_law_parcels_apart" sPAp) (dCho : DefAt K mg "_law_chosen" sCho) (dRow : DefAt K mg "_law_rows" sRow) (dFir : DefAt K mg "_law_first" sFir) (dDue : DefAt K mg "_law_due" sDue) (dLaw : DefAt K mg "law" sLaw) :
    ∃ (fd : FuncData) (c : Addr), (∀ (s : Shared) (v : Value), BindsTo s fd ⟨[v], []⟩ [("_law_script", v)]) ∧ PySem.W.codeHdIn K c Pt = true ∧ K.lookup Pt = none ∧ ∀ base : Heap, K.In base → base.Ns mainGlobals mg → base.BuiltinsAt mg Pt → FnOk P w K mg base CX0 5 fa fd ["_law_script"] (spLaw K Pt) := by
  obtain ⟨C, fPIn, fdPIn, TC, MC, FPIn⟩ := CC
  obtain ⟨S, fSIn, fdSIn, fSPa, fdSPa, US, MS, FSIn, FSPa⟩ := CS
  obtain ⟨T, fTIn, fdTIn, UT, MT, FTIn⟩ := CT
  obtain ⟨fNBe, cN, fdNBe, mNBe, FNBe, hNBe, hPt⟩ := DN
  obtain ⟨fPsO, fdPsO, mPsO, FPsO, _⟩ := dPsO
  obtain ⟨fCCo, fdCCo, mCCo, FCCo, _⟩ := dCCo
  obtain ⟨fTre, fdTre, mTre, FTre, _⟩ := dTre
  obtain ⟨fBro, fdBro, mBro, FBro, _⟩ := dBro
  obtain ⟨fCom, fdCom, mCom, FCom, _⟩ := dCom
  obtain ⟨fCel, fdCel, mCel, FCel, _⟩ := dCel
  obtain ⟨fMix, fdMix, mMix, FMix, _⟩ := dMix
  obtain ⟨fNam, fdNam, mNam, FNam, _⟩ := dNam
  obtain ⟨fLin, fdLin, mLin, FLin, _⟩ := dLin
  obtain ⟨fLis, fdLis, mLis, FLis, _⟩ := dLis
  obtain ⟨fPat, fdPat, mPat, FPat, _⟩ := dPat
  obtain ⟨fMak, fdMak, mMak, FMak, _⟩ := dMak
  obtain ⟨fPAp, fdPAp, mPAp, FPAp, _⟩ := dPAp
  obtain ⟨fCho, fdCho, mCho, FCho, _⟩ := dCho
  obtain ⟨fRow, fdRow, mRow, FRow, _⟩ := dRow
  obtain ⟨fFir, fdFir, mFir, FFir, _⟩ := dFir
  obtain ⟨fDue, fdDue, mDue, FDue, _⟩ := dDue
  obtain ⟨fLaw, fdLaw, mLaw, FLaw, _⟩ := dLaw
  have e := hfa.symm.trans mLaw
  cases e
  obtain ⟨oc, od, kV, doc, pm, an, cdv, ct, osl, rfl, lk, hcd⟩ := id FLaw.ex
  refine ⟨PySem.W.fnOf "law" "law" (defArgs sLaw) (defBody sLaw) (defScope sLaw) .none kV doc pm an cdv ct, cN, fun s v => .of_eq rfl, hNBe, hPt, fun base _ _ hB => ?_⟩
  exact okLaw FLaw B TC US UT MC MS MT FPIn FSIn (okSIn FSIn TC US) FTIn (okTIn FTIn UT B FCCo mCCo) FCel mCel FNam mNam FPAp mPAp (okPAp FPAp B TC MC FPIn FMix mMix FCel mCel FPat mPat FLis mLis (okLis FLis B FMix mMix FLin mLin) FMak mMak) FCho mCho (okCho FCho B TC FMix mMix) FTre mTre (okTre FTre B TC US UT FSPa FPsO mPsO FBro mBro FCom mCom FNBe.fn mNBe (okNBe FNBe B TC hNBe hB)) FDue mDue (okDue FDue TC FFir mFir) FRow mRow (okRow FRow B)
theorem walk {l : PySem.W.OpenLaw} {q : Program} {loose : List Str} {XP : (Str → Option Value) → Heap → Prop} {YP : World → Heap → Prop} {d : DefRec} {K : Params → PySem.W.Frag} {Pt : Addr} (hn : l.most = some 63) (hdf : d.params.defaults = [])
    (hY : ∀ (w : World) (h : Heap), YP w h → (K w.params).In h ∧ h.get? Pt = some (PySem.W.tabObj #[]))
    (F : ∀ (w : World) (mg : Str → Option Value) (fa : Addr) (h : Heap), (K w.params).In h → h.Ns mainGlobals mg → mg d.name = some (.ref fa) →
      ∃ (fd : FuncData) (c : Addr), (∀ (s : Shared) (u : Value), BindsTo s fd ⟨[u], []⟩ [("_law_script", u)]) ∧ PySem.W.codeHdIn (K w.params) c Pt = true ∧ (K w.params).lookup Pt = none ∧ ∀ base : Heap, (K w.params).In base → base.Ns mainGlobals mg → base.BuiltinsAt mg Pt → FnOk l.prog w (K w.params) mg base CX0 5 fa fd ["_law_script"] (spLaw (K w.params) Pt)) :
    PySem.W.WalkO q loose XP YP l.row.toRowW d [] (fun f vs => PySem.call f vs) :=
  L2.walk_ofT (n := 63) (k := 5) (x := "_law_script") (qual := lamQual) (lpos := lamPos) (Pt := Pt) (CX := fun _ => CX0) (sp := fun w => spLaw (K w.params) Pt) hn (by decide) hdf ⟨rfl, by decide, by decide, rfl⟩ hY F (fun _ _ a ns hl hT hS => ⟨a, ns, rfl, hS, hl, .inl hT, fun _ t => ⟨rfl, t⟩⟩) fun _ _ _ _ _ z => z
end K33
open PySem PySem.W PyProof.Rows
set_option maxRecDepth 100000 in
set_option maxHeartbeats 0 in
theorem PySem.Challenge.cw_parcelmend_k33_offers_and_choices_holds : PySem.Challenge.rw_parcelmend_k33_offers_and_choices.Holds := by
  w_on; o_law; k_head; (case hw => w_witness2)
  k_fill
  refine K33.walk (l := PySem.Challenge.rw_parcelmend_k33_offers_and_choices) rfl rfl (fun w h Y => ⟨PySem.W.km_in_of Y, PySem.W.km_tabs_of Y _ List.mem_cons_self⟩) ?F
  case F =>
    intro w mg fa h KX G hmg
    refine' K33.all_mk hmg (K33.bltAt_mk KX G ?kk_z0 ?kk_z1 ?kk_z2 ?kk_z3 ?kk_z4 ?kk_z5 ?kk_z6 ?kk_z7 ?kk_z8) (K33.clsC_mk KX G ?kk_CaC ?kk_Ca0 ?kk_Ci0 ?kk_Cl0 ?kk_Cc0 ?kk_Ck0 ?kk_Cpg ?kk_Chd ?kk_Cpo ?kk_Csa ?kk_Cmk ?kk_Ckc ?kk_Cn0 ?kk_Cn1 ?kk_Cn2 ?kk_Cn3 ?kk_Cn4 ?kk_Cn5 ?kk_Cn6) (K33.clsS_mk KX G ?kk_SaC ?kk_Sa0 ?kk_Si0 ?kk_Sl0 ?kk_Sc0 ?kk_Sk0 ?kk_Sa1 ?kk_Si1 ?kk_Sl1 ?kk_Sc1 ?kk_Sk1 ?kk_Spg ?kk_Shd ?kk_Spo ?kk_Ssa ?kk_Smk ?kk_Skc ?kk_Sn0) (K33.clsT_mk KX G ?kk_TaC ?kk_Ta0 ?kk_Ti0 ?kk_Tl0 ?kk_Tc0 ?kk_Tk0 ?kk_Tpg ?kk_Thd ?kk_Tpo ?kk_Tsa ?kk_Tmk ?kk_Tkc ?kk_Tn0 ?kk_Tn1 ?kk_Tn2) (K33.defC_mk KX G ?kk_Na ?kk_Nl ?kk_Nc ?kk_Nk ?kk_Nh ?kk_Nn)
      (L2.defAt_mk KX G ?kk_a0 ?kk_l0 ?kk_c0 ?kk_k0)
      (L2.defAt_mk KX G ?kk_a1 ?kk_l1 ?kk_c1 ?kk_k1)
      (L2.defAt_mk KX G ?kk_a2 ?kk_l2 ?kk_c2 ?kk_k2)
      (L2.defAt_mk KX G ?kk_a3 ?kk_l3 ?kk_c3 ?kk_k3)
      (L2.defAt_mk KX G ?kk_a4 ?kk_l4 ?kk_c4 ?kk_k4)
      (L2.defAt_mk KX G ?kk_a5 ?kk_l5 ?kk_c5 ?kk_k5)
      (L2.defAt_mk KX G ?kk_a6 ?kk_l6 ?kk_c6 ?kk_k6)
      (L2.defAt_mk KX G ?kk_a7 ?kk_l7 ?kk_c7 ?kk_k7)
      (L2.defAt_mk KX G ?kk_a8 ?kk_l8 ?kk_c8 ?kk_k8)
      (L2.defAt_mk KX G ?kk_a9 ?kk_l9 ?kk_c9 ?kk_k9)
      (L2.defAt_mk KX G ?kk_a10 ?kk_l10 ?kk_c10 ?kk_k10)
      (L2.defAt_mk KX G ?kk_a11 ?kk_l11 ?kk_c11 ?kk_k11)
      (L2.defAt_mk KX G ?kk_a12 ?kk_l12 ?kk_c12 ?kk_k12)
      (L2.defAt_mk KX G ?kk_a13 ?kk_l13 ?kk_c13 ?kk_k13)
      (L2.defAt_mk KX G ?kk_a14 ?kk_l14 ?kk_c14 ?kk_k14)
      (L2.defAt_mk KX G ?kk_a15 ?kk_l15 ?kk_c15 ?kk_k15)
      (L2.defAt_mk KX G ?kk_a16 ?kk_l16 ?kk_c16 ?kk_k16)
      (L2.defAt_mk KX G ?kk_a17 ?kk_l17 ?kk_c17 ?kk_k17)
    (case kk_z0 => k_is); (case kk_z1 => k_is); (case kk_z2 => k_is); (case kk_z3 => k_is); (case kk_z4 => k_is); (case kk_z5 => k_is); (case kk_z6 => k_is); (case kk_z7 => k_is); (case kk_z8 => k_is)
    (case kk_CaC => k_is); (case kk_Ca0 => k_is); (case kk_Ci0 => k_is); (case kk_Cl0 => k_is); (case kk_Cc0 => k_is); (case kk_Ck0 => k_is); (case kk_Cpg => k_is); (case kk_Chd => k_is); (case kk_Cpo => k_is); (case kk_Csa => k_is); (case kk_Cmk => k_is); (case kk_Ckc => k_is); (case kk_Cn0 => k_is); (case kk_Cn1 => k_is); (case kk_Cn2 => k_is); (case kk_Cn3 => k_is); (case kk_Cn4 => k_is); (case kk_Cn5 => k_is); (case kk_Cn6 => k_is)
    (case kk_SaC => k_is); (case kk_Sa0 => k_is); (case kk_Si0 => k_is); (case kk_Sl0 => k_is); (case kk_Sc0 => k_is); (case kk_Sk0 => k_is); (case kk_Sa1 => k_is); (case kk_Si1 => k_is); (case kk_Sl1 => k_is); (case kk_Sc1 => k_is); (case kk_Sk1 => k_is); (case kk_Spg => k_is); (case kk_Shd => k_is); (case kk_Spo => k_is); (case kk_Ssa => k_is); (case kk_Smk => k_is); (case kk_Skc => k_is); (case kk_Sn0 => k_is)
    (case kk_TaC => k_is); (case kk_Ta0 => k_is); (case kk_Ti0 => k_is); (case kk_Tl0 => k_is); (case kk_Tc0 => k_is); (case kk_Tk0 => k_is); (case kk_Tpg => k_is); (case kk_Thd => k_is); (case kk_Tpo => k_is); (case kk_Tsa => k_is); (case kk_Tmk => k_is); (case kk_Tkc => k_is); (case kk_Tn0 => k_is); (case kk_Tn1 => k_is); (case kk_Tn2 => k_is)
    (case kk_Na => k_is); (case kk_Nl => k_is); (case kk_Nc => k_is); (case kk_Nk => k_is); (case kk_Nh => (first | k_is | kernel_rfl)); (case kk_Nn => (first | k_is | kernel_rfl))
    (case kk_a0 => k_is); (case kk_l0 => k_is); (case kk_c0 => k_is); (case kk_k0 => k_is)
    (case kk_a1 => k_is); (case kk_l1 => k_is); (case kk_c1 => k_is); (case kk_k1 => k_is)
    (case kk_a2 => k_is); (case kk_l2 => k_is); (case kk_c2 => k_is); (case kk_k2 => k_is)
    (case kk_a3 => k_is); (case kk_l3 => k_is); (case kk_c3 => k_is); (case kk_k3 => k_is)
    (case kk_a4 => k_is); (case kk_l4 => k_is); (case kk_c4 => k_is); (case kk_k4 => k_is)
    (case kk_a5 => k_is); (case kk_l5 => k_is); (case kk_c5 => k_is); (case kk_k5 => k_is)
    (case kk_a6 => k_is); (case kk_l6 => k_is); (case kk_c6 => k_is); (case kk_k6 => k_is)
    (case kk_a7 => k_is); (case kk_l7 => k_is); (case kk_c7 => k_is); (case kk_k7 => k_is)
    (case kk_a8 => k_is); (case kk_l8 => k_is); (case kk_c8 => k_is); (case kk_k8 => k_is)
    (case kk_a9 => k_is); (case kk_l9 => k_is); (case kk_c9 => k_is); (case kk_k9 => k_is)
    (case kk_a10 => k_is); (case kk_l10 => k_is); (case kk_c10 => k_is); (case kk_k10 => k_is)
    (case kk_a11 => k_is); (case kk_l11 => k_is); (case kk_c11 => k_is); (case kk_k11 => k_is)
    (case kk_a12 => k_is); (case kk_l12 => k_is); (case kk_c12 => k_is); (case kk_k12 => k_is)
    (case kk_a13 => k_is); (case kk_l13 => k_is); (case kk_c13 => k_is); (case kk_k13 => k_is)
    (case kk_a14 => k_is); (case kk_l14 => k_is); (case kk_c14 => k_is); (case kk_k14 => k_is)
    (case kk_a15 => k_is); (case kk_l15 => k_is); (case kk_c15 => k_is); (case kk_k15 => k_is)
    (case kk_a16 => k_is); (case kk_l16 => k_is); (case kk_c16 => k_is); (case kk_k16 => k_is)
    (case kk_a17 => k_is); (case kk_l17 => k_is); (case kk_c17 => k_is); (case kk_k17 => k_is)
