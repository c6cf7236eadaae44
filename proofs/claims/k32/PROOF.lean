import PyProof.Rows.All
import Wide.All
import OpenK.AllK
import Wide.FinOn
import Lean
import PyProof.EqAt
import PyProof.EqKinds
import PyProof.TupleCall
import KE.KRevSl
import KE.KDictSum
import KE.KEqDict
import PyProof.P3Eq
import PySem.Challenge.RW_parcelmend_k32_own_changes


set_option Elab.async false
set_option linter.all false
set_option genInjectivity false
set_option genSizeOf false
set_option genSizeOfSpec false
set_option maxRecDepth 100000
namespace L2
open PySem PySem.Spec PyProof.Rows
noncomputable abbrev Key := Sum Int Str
noncomputable def keyIs : Key → Value → Bool
  | .inl k, v => Value.isInt k v
  | .inr x, v => Value.isStrOf x v
noncomputable def keyH (w : World) : Key → Int
  | .inl k => hashInt k
  | .inr x => hashStr w x
theorem keyIs_shape : ∀ {k : Key} {v : Value}, keyIs k v = true → (∃ i t, k = Sum.inl i ∧ v = Value.int i t) ∨ (∃ x t, k = Sum.inr x ∧ v = Value.str x t)
  | .inl i, v, h => by
    obtain ⟨t, e⟩ := Value.isInt_shape (k := i) (v := v) h
    exact .inl ⟨i, t, rfl, e⟩
  | .inr x, v, h => by
    obtain ⟨t, e⟩ := Value.isStrOf_shape (x := x) (v := v) h
    exact .inr ⟨x, t, rfl, e⟩
theorem keyIs_int (i : Int) (t : Tok) : keyIs (.inl i) (.int i t) = true := by simp [keyIs, Value.isInt]
theorem keyIs_str (x : Str) (t : Tok) : keyIs (.inr x) (.str x t) = true := by simp [keyIs, Value.isStrOf]
theorem key_ll (a b : Int) : decide ((Sum.inl a : Key) = Sum.inl b) = (a == b) := by
  by_cases e : a = b
  · subst e; simp
  · have h : ¬ (Sum.inl a : Key) = Sum.inl b := fun q => e (Sum.inl.inj q)
    rw [decide_eq_false h]
    exact (beq_eq_false_iff_ne.mpr e).symm
theorem key_rr (a b : Str) : decide ((Sum.inr a : Key) = Sum.inr b) = decide (a = b) := by
  by_cases e : a = b
  · subst e; simp
  · have h : ¬ (Sum.inr a : Key) = Sum.inr b := fun q => e (Sum.inr.inj q)
    rw [decide_eq_false h, decide_eq_false e]
theorem key_lr (a : Int) (b : Str) : decide ((Sum.inl a : Key) = Sum.inr b) = false := decide_eq_false (fun q => nomatch q)
theorem key_rl (a : Str) (b : Int) : decide ((Sum.inr a : Key) = Sum.inl b) = false := decide_eq_false (fun q => nomatch q)
noncomputable def mixKind (prog : Program) (w : World) : PySem.KeyKind prog w Key where
  is := keyIs
  hash := keyH w
  inj := fun v a b ha hb => by
    rcases keyIs_shape ha with ⟨i, t, rfl, rfl⟩ | ⟨x, t, rfl, rfl⟩
    · rcases keyIs_shape hb with ⟨j, u, rfl, e⟩ | ⟨y, u, rfl, e⟩
      · injection e with e1 _; rw [e1]
      · exact nomatch e
    · rcases keyIs_shape hb with ⟨j, u, rfl, e⟩ | ⟨y, u, rfl, e⟩
      · exact nomatch e
      · injection e with e1 _; rw [e1]
  byValue := fun k v h => by
    rcases keyIs_shape h with ⟨i, t, rfl, rfl⟩ | ⟨x, t, rfl, rfl⟩ <;> rfl
  pyHash := fun hv h => by
    rcases keyIs_shape hv with ⟨i, t, rfl, rfl⟩ | ⟨x, t, rfl, rfl⟩
    · exact wpAny_pyHash_int h
    · exact wpAny_pyHash_str h
  eqBool := fun hu hv h => by
    rcases keyIs_shape hu with ⟨i, t, rfl, rfl⟩ | ⟨x, t, rfl, rfl⟩
    · rcases keyIs_shape hv with ⟨j, u, rfl, rfl⟩ | ⟨y, u, rfl, rfl⟩
      · rw [key_ll] at h; exact wpAny_eqBool_int h
      · rw [key_lr] at h; exact SeqAt.EqAt.int_str i t y u _ _ _ _ h
    · rcases keyIs_shape hv with ⟨j, u, rfl, rfl⟩ | ⟨y, u, rfl, rfl⟩
      · rw [key_rl] at h; exact SeqAt.EqAt.str_int x t j u _ _ _ _ h
      · rw [key_rr] at h; exact wpAny_eqBool_str h
  «strs» := fun k x t v h => by
    rcases keyIs_shape h with ⟨i, u, rfl, e⟩ | ⟨y, u, rfl, e⟩
    · exact nomatch e
    · injection e with e1 _
      subst e1
      cases v <;> rfl
theorem mixKind_int (prog : Program) (w : World) (i : Int) (t : Tok) : (mixKind prog w).is (.inl i) (.int i t) = true := keyIs_int i t
theorem mixKind_str (prog : Program) (w : World) (x : Str) (t : Tok) : (mixKind prog w).is (.inr x) (.str x t) = true := keyIs_str x t
end L2
namespace L2
open PySem PySem.Spec PyProof.Rows
noncomputable abbrev NI := Sum Key (List Key)
section
variable {P : Program} {w : World}
noncomputable def NItem (P : Program) (w : World) (h : Heap) : NI → Value → Prop
  | .inl k, v => keyIs k v = true
  | .inr ls, v => ∃ b, v = .ref b ∧ IsTupleKey (mixKind P w) h ls b
inductive NItems (P : Program) (w : World) (h : Heap) : List NI → List Value → Prop
  | nil : NItems P w h [] []
  | cons {i : NI} {v : Value} {ks : List NI} {vs : List Value} : NItem P w h i v → NItems P w h ks vs → NItems P w h (i :: ks) (v :: vs)
noncomputable def NKey (P : Program) (w : World) (h : Heap) (ks : List NI) (a : Addr) : Prop := ∃ o items n, h.get? a = some o ∧ o.cls = .type "tuple" ∧ o.data = .seq items n ∧ NItems P w h ks items.toList
noncomputable def niHash (P : Program) (w : World) : NI → Int
  | .inl k => keyH w k
  | .inr ls => tupleKeyHash (mixKind P w) ls
noncomputable def niDraws : NI → Nat
  | .inl _ => 1
  | .inr ls => ls.length + 1
noncomputable def nkHash (P : Program) (w : World) (ks : List NI) : Int := reduceHash (Builtin.Tuple.tupleHashOf (ks.map (niHash P w)))
noncomputable def nkDraws (ks : List NI) : Nat := (ks.map niDraws).sum + 1
theorem NItem.inj {h : Heap} {i j : NI} {v : Value} (a : NItem P w h i v) (b : NItem P w h j v) : i = j := by
  cases i with
  | inl k =>
    cases j with
    | inl l => rw [(mixKind P w).inj v k l a b]
    | inr l =>
      obtain ⟨c, rfl, _⟩ := b
      rcases keyIs_shape a with ⟨_, _, _, e⟩ | ⟨_, _, _, e⟩ <;> cases e
  | inr k =>
    obtain ⟨c, rfl, hc⟩ := a
    cases j with
    | inl l => rcases keyIs_shape b with ⟨_, _, _, e⟩ | ⟨_, _, _, e⟩ <;> cases e
    | inr l =>
      obtain ⟨d, e, hd⟩ := b
      cases e
      rw [hc.inj hd]
theorem NItems.inj {h : Heap} {x y : List NI} {vs : List Value} (a : NItems P w h x vs) (b : NItems P w h y vs) : x = y := by
  induction a generalizing y with
  | nil => cases b; rfl
  | cons p _ ih =>
    cases b with
    | cons q r => rw [p.inj q, ih r]
theorem NKey.typeIs {s : Shared} {ks : List NI} {a : Addr} (x : NKey P w s.heap ks a) : s.TypeIs (.ref a) "tuple" := x.elim fun o zq427 => zq427.elim fun _ zq428 => zq428.elim fun _ zq429 => zq429.elim fun ho zq430 => zq430.elim fun hc _ => ⟨o, ho, hc⟩
theorem NKey.inj {h : Heap} {a : Addr} {x y : List NI} (p : NKey P w h x a) (q : NKey P w h y a) : x = y := by
  obtain ⟨o, its, n, e, _, d, i⟩ := p
  obtain ⟨o', its', n', e', _, d', i'⟩ := q
  rw [e] at e'; cases e'
  rw [d] at d'
  injection d' with d1 _
  subst d1
  exact i.inj i'
theorem NItems.keeps {h h' : Heap} {ks : List NI} {vs : List Value} (k : ∀ ls b, IsTupleKey (mixKind P w) h ls b → IsTupleKey (mixKind P w) h' ls b) (x : NItems P w h ks vs) : NItems P w h' ks vs := by
  induction x with
  | nil => exact .nil
  | @cons i v ks vs p _ ih =>
    refine .cons ?_ ih
    cases i with
    | inl l => exact p
    | inr l =>
      obtain ⟨b, e, hb⟩ := p
      exact ⟨b, e, k _ _ hb⟩
theorem NKey.keeps {h h' : Heap} {ks : List NI} {a d : Addr} {o : Obj} {es : Array DictEntry} {ep : Nat} (x : NKey P w h ks a) (ho : h.get? d = some o) (hd : o.data = .dict es ep) (hs : Heap.SameBut d h h') : NKey P w h' ks a := by
  obtain ⟨oa, its, n, e, c, e2, i⟩ := x
  have ne : a ≠ d := by
    intro z
    rw [z, ho] at e
    cases e
    rw [hd] at e2
    cases e2
  exact ⟨oa, its, n, (hs.2 a ne).trans e, c, e2, i.keeps fun ls b hb => hb.keeps ho hd hs⟩
variable {A : Around} {E : Value → Shared → Prop} {s : Shared}
theorem NItem.hash {i : NI} {v : Value} {Q : Int → Shared → Prop} (hu : A.units < cLine) (x : NItem P w s.heap i v) (h : Q (niHash P w i) { s with toks := s.toks + niDraws i }) : wpAny (model P w) A (pyHash v) Q E s := by
  cases i with
  | inl k => exact (mixKind P w).pyHash (k := k) x h
  | inr ls =>
    obtain ⟨b, rfl, hb⟩ := x
    exact wpAny_pyHash_tuple hu hb h
theorem NItem.eq {i j : NI} {u v : Value} {Q : Bool → Shared → Prop} (hu : A.units < cLine) (x : NItem P w s.heap i u) (y : NItem P w s.heap j v) (h : Q (decide (i = j)) s) : wpAny (model P w) A (eqBool u v) Q E s := by
  cases i with
  | inl k =>
    cases j with
    | inl l =>
      have e : decide ((Sum.inl k : NI) = Sum.inl l) = decide (k = l) := by
        by_cases q : k = l
        · rw [q]; simp
        · rw [decide_eq_false q, decide_eq_false (fun z => q (Sum.inl.inj z))]
      rw [e] at h
      exact (mixKind P w).eqBool (a := k) (b := l) x y h
    | inr l =>
      rw [decide_eq_false (fun z => nomatch z)] at h
      obtain ⟨b, rfl, o, its, n, e, c, d, _⟩ := y
      rcases keyIs_shape x with ⟨a, t, _, rfl⟩ | ⟨a, t, _, rfl⟩
      · exact SeqAt.EqAt.int_tuple a t ⟨o, e, c, n, d⟩ hu _ _ _ _ h
      · exact SeqAt.EqAt.str_tuple a t ⟨o, e, c, n, d⟩ hu _ _ _ _ h
  | inr k =>
    obtain ⟨a, rfl, ha⟩ := x
    cases j with
    | inl l =>
      rw [decide_eq_false (fun z => nomatch z)] at h
      obtain ⟨o, its, n, e, c, d, _⟩ := ha
      rcases keyIs_shape y with ⟨b, t, _, rfl⟩ | ⟨b, t, _, rfl⟩
      · exact SeqAt.EqAt.tuple_int b t ⟨o, e, c, n, d⟩ hu _ _ _ _ h
      · exact SeqAt.EqAt.tuple_str b t ⟨o, e, c, n, d⟩ hu _ _ _ _ h
    | inr l =>
      obtain ⟨b, rfl, hb⟩ := y
      have e : decide ((Sum.inr k : NI) = Sum.inr l) = decide (k = l) := by
        by_cases q : k = l
        · rw [q]; simp
        · rw [decide_eq_false q, decide_eq_false (fun z => q (Sum.inr.inj z))]
      rw [e] at h
      exact wpAny_eqBool_tuple hu ha hb h
theorem nest_hash {ks : List NI} {a : Addr} {Q : Int → Shared → Prop} (hu : A.units + 8 < cLine) (hk : NKey P w s.heap ks a) (h : Q (nkHash P w ks) { s with toks := s.toks + nkDraws ks }) : wpAny (model P w) A (pyHash (.ref a)) Q E s := by
  have hT := hk.typeIs
  obtain ⟨o, its, n, ho, _, hd, hi⟩ := hk
  have hu0 : A.units < cLine := by omega
  unfold pyHash
  first | unfold pyHashByItsType | skip
  first | refine wpAny_bind (wpAny_cRoomFor_or (.inr hu0) ?_) | skip
  refine wpAny_bind (wpAny_specialOf hT F.slot_tuple_hash.lookup ?_)
  show wpAny _ _ (if (some (Value.builtin "tuple.__hash__") == some Value.none) = true then _ else _) Q E s
  rw [if_neg (by rw [beq_builtin_none]; exact Bool.false_ne_true)]
  refine wpAny_bind (wpAny_specialOf hT F.slot_tuple_hash.lookup ?_)
  show wpAny _ _ (callSpecialIfBoundUnlessNone? (.ref a) "__hash__" _ >>= _) Q E s
  refine wpAny_bind (wpAny_callSpecialIfBoundUnlessNone?_slot hT F.slot_tuple_hash (wpAny_call_entry F.slot_tuple_hash hT F.entry_tuple_hash ?_ (F.args_tuple_hash_1 _)))
  show wpAny _ _ (Builtin.Tuple.tupleItemsOf (.ref a) >>= _) _ _ s
  refine wpAny_bind (wpAny_tupleItemsOf ho hd ?_)
  refine wpAny_bind ?_
  rw [← Array.forIn_toList]
  refine wpAny_forIn_list _
    (fun rest (b : Array Int) s' => ∃ done left, ks = done ++ left ∧ NItems P w s.heap left rest ∧ b.toList = done.map (niHash P w) ∧ s' = { s with toks := s.toks + (done.map niDraws).sum })
    _ ?_ ?_ _ _ ⟨[], ks, rfl, hi, rfl, rfl⟩
  · rintro x rest b s' ⟨done, left, rfl, hl, hb, rfl⟩
    cases hl with
    | @cons k _ ks' _ h1 hl' =>
      refine wpAny_bind (NItem.hash (i := k) (show A.units + 1 < cLine by omega) h1 ?_)
      first
        | exact wpAny_pure ⟨done ++ [k], ks', by simp, hl', by simp [hb], by simp [Nat.add_assoc]⟩
        | exact wpAny_bind (wpAny_pure (wpAny_pure ⟨done ++ [k], ks', by simp, hl', by simp [hb], by simp [Nat.add_assoc]⟩))
  · rintro b s' ⟨done, left, rfl, hl, hb, rfl⟩
    cases hl
    rw [List.append_nil] at h
    show wpAny _ _ (retInt (Builtin.Tuple.tupleHashOf b.toList)) _ _ _
    rw [hb]
    refine wpAny_ret_mkInt ?_
    generalize hz : Builtin.Tuple.tupleHashOf (done.map (niHash P w)) = z at h ⊢
    show wpAny _ _ (if (decide (-(2 : Int) ^ 63 ≤ z) && decide (z < 2 ^ 63)) = true then _ else _) Q E _
    unfold nkHash reduceHash at h
    rw [hz] at h
    by_cases hr : (decide (-(2 : Int) ^ 63 ≤ z) && decide (z < 2 ^ 63)) = true
    · rw [if_pos hr]
      rw [if_pos hr] at h
      exact wpAny_pure (by simpa [Nat.add_assoc, nkDraws] using h)
    · rw [if_neg hr]
      rw [if_neg hr] at h
      exact wpAny_bind (wpAny_rule (wpAny_pure (by simpa [Nat.add_assoc, nkDraws] using h)))
theorem nest_eqTree {x y : List NI} {a b : Addr} {R : PySem.Fin → Shared → Prop} (hu : A.units < cLine) (hx : NKey P w s.heap x a) (hy : NKey P w s.heap y b) (h : R (.done (.ret (.bool (decide (x = y))))) s) :
    wpAny (model P w) A (Builtin.«tuple.__eq__» ⟨[.ref a, .ref b], []⟩) R E s := by
  have hTb := hy.typeIs
  obtain ⟨oa, xs, na, hoa, _, hda, hia⟩ := hx
  obtain ⟨ob, ys, nb, hob, _, hdb, hib⟩ := hy
  show wpAny _ _ (isInstance (.ref b) (.type "tuple") >>= _) _ _ s
  refine wpAny_bind (wpAny_isInstance hTb isSubtype_tuple_tuple ?_)
  simp only [Bool.not_true, Bool.false_eq_true, if_false]
  refine wpAny_bind (wpAny_tupleItemsOf hoa hda ?_)
  refine wpAny_bind (wpAny_tupleItemsOf hob hdb ?_)
  refine wpAny_bind ?_
  refine wpAny_forIn_list _
    (fun rest r s' => r.1 = none ∧ s' = s ∧ ∃ x' y' xs' ys', rest = List.zip xs' ys' ∧ NItems P w s.heap x' xs' ∧ NItems P w s.heap y' ys' ∧ decide (x' = y') = decide (x = y) ∧ (xs'.length == ys'.length) = (xs.size == ys.size))
    _ ?_ ?_ _ _ ⟨rfl, rfl, x, y, xs.toList, ys.toList, rfl, hia, hib, rfl, by simp⟩
  · rintro ⟨u, v⟩ rest r s' ⟨hr, rfl, x', y', xs', ys', hz, hx', hy', hdec, hlen⟩
    cases hx' with
    | nil => simp at hz
    | @cons k1 u' x'' xs'' h1 hx'' =>
      cases hy' with
      | nil => simp at hz
      | @cons k2 v' y'' ys'' h2 hy'' =>
        simp only [List.zip_cons_cons, List.cons.injEq, Prod.mk.injEq] at hz
        obtain ⟨⟨rfl, rfl⟩, rfl⟩ := hz
        refine wpAny_bind (NItem.eq (i := k1) (j := k2) hu h1 h2 ?_)
        by_cases hk : k1 = k2
        · subst hk
          rw [decide_eq_true rfl]
          simp only [Bool.not_true, Bool.false_eq_true, if_false]
          refine wpAny_pure ⟨rfl, rfl, x'', y'', xs'', ys'', rfl, hx'', hy'', ?_, by simpa using hlen⟩
          rw [← hdec]
          by_cases hxy : x'' = y''
          · simp [hxy]
          · simp [hxy]
        · rw [decide_eq_false hk]
          simp only [Bool.not_false, if_true]
          have hf : decide (x = y) = false := by rw [← hdec]; simp [hk]
          rw [hf] at h
          exact wpAny_bind (wpAny_pure (wpAny_pure (wpAny_pure h)))
  · rintro ⟨r1, r2⟩ s' ⟨hr, rfl, x', y', xs', ys', hz, hx', hy', hdec, hlen⟩
    simp only at hr
    subst hr
    refine wpAny_pure ?_
    have hfin : (xs.size == ys.size) = decide (x = y) := by
      rw [← hdec, ← hlen]
      cases hx' with
      | nil =>
        cases hy' with
        | nil => simp
        | cons _ _ => simp
      | cons _ _ =>
        cases hy' with
        | nil => simp
        | cons _ _ => simp at hz
    show R (.done (.ret (.bool (xs.size == ys.size)))) s'
    rw [hfin]; exact h
theorem nest_eqBool {x y : List NI} {a b : Addr} {Q : Bool → Shared → Prop} (hu : A.units + 8 < cLine) (hx : NKey P w s.heap x a) (hy : NKey P w s.heap y b) (h : Q (decide (x = y)) s) :
    wpAny (model P w) A (eqBool (.ref a) (.ref b)) Q E s := by
  unfold eqBool
  try with_reducible refine wpAny_holding ?_
  show wpAny _ _ (if (Value.ref a == Value.ref b) = true then _ else _) Q E s
  by_cases hab : (Value.ref a == Value.ref b) = true
  · rw [if_pos hab]
    have e : a = b := by have := eq_of_beq hab; injection this
    subst e
    obtain rfl := hx.inj hy
    exact wpAny_bind (wpAny_rule (wpAny_pure (by simpa using h)))
  · rw [if_neg hab]
    exact wpAny_bind (wpAny_richCompare_same_room (op := .Eq) hx.typeIs hy.typeIs F.slot_tuple_eq
      (wpAny_call_entry F.slot_tuple_eq hx.typeIs F.entry_tuple_eq (nest_eqTree (show A.units + 1 < cLine by omega) hx hy ⟨_, rfl, (fun e => nomatch e), wpAny_truthy_bool h⟩) (F.args_tuple_eq_2 _ _)) (by omega))
theorem nest_quiet0 {M : Model} {ls : List Key} {a : Addr} {n : Nat} {Q : Bool → Shared → Prop} (hk : IsTupleKey (mixKind P w) s.heap ls a) (h : Q true s) : wpAny M A (eqIsQuiet (n + 1) (.ref a)) Q E s := by
  have hT := hk.typeIs
  obtain ⟨o, its, m, ho, _, hd, hi⟩ := hk
  unfold eqIsQuiet
  refine wpAny_bind (wpAny_specialOf hT F.slot_tuple_eq.lookup ?_)
  show wpAny _ _ (isInstance (.ref a) (.type "tuple") >>= _) _ _ s
  refine wpAny_bind (wpAny_isInstance hT isSubtype_tuple_tuple ?_)
  simp only [Bool.not_true, Bool.false_eq_true, if_false]
  refine wpAny_bind (wpAny_seqItems ho hd ?_)
  refine wpAny_bind ?_
  show wpAny _ _ (forIn its _ _) _ _ s
  rw [← Array.forIn_toList]
  refine wpAny_forIn_list _ (fun rest r s' => r.1 = none ∧ s' = s ∧ ∀ v ∈ rest, carriedByValue v = true) _ ?_ ?_ _ _ ⟨rfl, rfl, hi.byValue⟩
  · rintro v rest r s' ⟨hr, rfl, hall⟩
    rw [eqIsQuiet_byValue _ (hall v List.mem_cons_self)]
    refine wpAny_bind (wpAny_pure ?_)
    simp only [Bool.not_true, Bool.false_eq_true, if_false]
    exact wpAny_pure ⟨rfl, rfl, fun u hu' => hall u (List.mem_cons_of_mem _ hu')⟩
  · rintro ⟨r1, r2⟩ s' ⟨hr, rfl, _⟩
    simp only at hr
    subst hr
    exact wpAny_pure h
theorem nest_quiet {M : Model} {ks : List NI} {a : Addr} {Q : Bool → Shared → Prop} (hk : NKey P w s.heap ks a) (h : Q true s) : wpAny M A (eqIsQuiet 8 (.ref a)) Q E s := by
  have hT := hk.typeIs
  obtain ⟨o, its, m, ho, _, hd, hi⟩ := hk
  unfold eqIsQuiet
  refine wpAny_bind (wpAny_specialOf hT F.slot_tuple_eq.lookup ?_)
  show wpAny _ _ (isInstance (.ref a) (.type "tuple") >>= _) _ _ s
  refine wpAny_bind (wpAny_isInstance hT isSubtype_tuple_tuple ?_)
  simp only [Bool.not_true, Bool.false_eq_true, if_false]
  refine wpAny_bind (wpAny_seqItems ho hd ?_)
  refine wpAny_bind ?_
  show wpAny _ _ (forIn its _ _) _ _ s
  rw [← Array.forIn_toList]
  refine wpAny_forIn_list _ (fun rest r s' => r.1 = none ∧ s' = s ∧ ∃ ls, NItems P w s.heap ls rest) _ ?_ ?_ _ _ ⟨rfl, rfl, ks, hi⟩
  · rintro v rest r s' ⟨hr, rfl, ls, hls⟩
    cases hls with
    | @cons i _ ls' _ h1 h2 =>
      have fin : ∀ {R : Bool → Shared → Prop}, R true s' → wpAny M A (eqIsQuiet 7 v) R E s' := fun {R} q => by
        cases i with
        | inl k =>
          rw [eqIsQuiet_byValue _ ((mixKind P w).byValue k v h1)]
          exact wpAny_pure q
        | inr l =>
          obtain ⟨b, rfl, hb⟩ := h1
          exact nest_quiet0 hb q
      refine wpAny_bind (fin ?_)
      simp only [Bool.not_true, Bool.false_eq_true, if_false]
      exact wpAny_pure ⟨rfl, rfl, ls', h2⟩
  · rintro ⟨r1, r2⟩ s' ⟨hr, rfl, _⟩
    simp only at hr
    subst hr
    exact wpAny_pure h
end
noncomputable def nestKind (P : Program) (w : World) : HeapKind P w (List NI) where
  is := NKey P w
  hash := nkHash P w
  draws := nkDraws
  room := fun A => A.units + 8 < cLine
  inj := fun a b => a.inj b
  keeps := fun x ho hd hs => x.keeps ho hd hs
  pyHash := fun hu hk h => nest_hash hu hk h
  eqBool := fun hu hx hy h => nest_eqBool hu hx hy h
  quiet := fun hk h => nest_quiet hk h
theorem nestKind_room {P : Program} {w : World} {A : Around} (hu : A.units + 64 < cLine) : (nestKind P w).room A.in1 := show A.units + 1 + 8 < cLine by omega
end L2
namespace L2
open PySem PySem.Spec PyProof.Rows
set_option genInjectivity true in
inductive V where
  | non | bl (b : Bool) | int (i : Int) | str (x : Str) | byt (b : Array UInt8) | flt (b : UInt64) | ref (a : Addr) | ty (n : String)
  deriving DecidableEq
noncomputable def RelV : V → Value → Prop
  | .non, u => u = Value.none
  | .bl b, u => u = Value.bool b
  | .int i, u => ∃ t, u = Value.int i t
  | .str x, u => ∃ t, u = Value.str x t
  | .byt b, u => ∃ t, u = Value.bytes b t
  | .flt b, u => ∃ t, u = Value.float b t
  | .ref a, u => u = Value.ref a
  | .ty n, u => u = Value.type n
noncomputable abbrev Vals : List V → List Value → Prop := Paired RelV
theorem Vals.length {xs : List V} {us : List Value} (r : Vals xs us) : xs.length = us.length := Paired.length r
theorem Vals.get : ∀ {xs : List V} {us : List Value} {i : Nat} {x : V}, Vals xs us → xs[i]? = some x → ∃ u, us[i]? = some u ∧ RelV x u
  | _, _, _, _, .nil, e => by simp at e
  | _, _, 0, _, .cons r _, e => by simp at e; subst e; exact ⟨_, rfl, r⟩
  | _, _, i + 1, x, .cons _ t, e => by
    obtain ⟨u, h1, h2⟩ := Vals.get (i := i) (x := x) t (by simpa using e)
    exact ⟨u, by simpa using h1, h2⟩
theorem Vals.append : ∀ {xs ys : List V} {us ws : List Value}, Vals xs us → Vals ys ws → Vals (xs ++ ys) (us ++ ws)
  | _, _, _, _, .nil, s => s
  | _, _, _, _, .cons r t, s => .cons r (Vals.append t s)
theorem Vals.take : ∀ {xs : List V} {us : List Value} (n : Nat), Vals xs us → Vals (xs.take n) (us.take n)
  | _, _, 0, _ => .nil
  | _, _, _ + 1, .nil => .nil
  | _, _, n + 1, .cons r t => .cons r (Vals.take n t)
theorem Vals.drop : ∀ {xs : List V} {us : List Value} (n : Nat), Vals xs us → Vals (xs.drop n) (us.drop n)
  | _, _, 0, r => r
  | _, _, _ + 1, .nil => .nil
  | _, _, n + 1, .cons _ t => Vals.drop n t
noncomputable def RelO : Option V → Option Value → Prop
  | some v, some u => RelV v u
  | none, none => True
  | _, _ => False
noncomputable def KV {κ : Type} : List (κ × V) → List (κ × Value) → Prop := Paired fun (p : κ × V) (q : κ × Value) => p.1 = q.1 ∧ RelV p.2 q.2
noncomputable def kV : Key → V
  | .inl i => .int i
  | .inr x => .str x
inductive HO where
  | lst (xs : List V)
  | tup (xs : List V)
  | dK (kvs : List (Key × V)) | dT (kvs : List (List NI × V))
  | set (S : Int → Bool) (n : Nat)
  | ins (C dx : Addr) (fs : List (Str × V))
  | own (x : Addr)
  | xd (fs : List (Str × V))
  | met (f x : Addr)
  | rng (lo hi : Int)
  | frz (o : Obj) (u : HO)
  | tbl (ps : Array Value)
  | ext (φ : Heap → Prop)
noncomputable abbrev Hp := Addr → Option HO
noncomputable def upd (H : Hp) (a : Addr) (o : HO) : Hp := fun b => if b = a then some o else H b
theorem upd_same {H : Hp} {a : Addr} {o : HO} : upd H a o a = some o := by unfold upd; rw [if_pos rfl]
theorem upd_ne {H : Hp} {a b : Addr} {o : HO} (h : b ≠ a) : upd H a o b = H b := by unfold upd; rw [if_neg h]
theorem ne_of {H : Hp} {a b : Addr} {o u : HO} (h : H a = some o) (h' : H b = some u) (d : o ≠ u) : a ≠ b := by
  intro e; subst e; rw [h] at h'; exact d (Option.some.inj h')
theorem ne_of_none {H : Hp} {a b : Addr} {o : HO} (h : H a = some o) (h' : H b = none) : a ≠ b := by
  intro e; subst e; rw [h] at h'; cases h'
noncomputable def NV (H : Hp) : NI → V → Prop
  | .inl k, v => v = kV k
  | .inr ls, v => ∃ b, v = .ref b ∧ H b = some (.tup (ls.map kV))
noncomputable abbrev NVs (H : Hp) : List NI → List V → Prop := Paired (NV H)
noncomputable def NAt (H : Hp) (ks : List NI) (a : Addr) : Prop := ∃ vs, H a = some (.tup vs) ∧ NVs H ks vs
theorem paired_mapP {α β : Type} {F G : α → β → Prop} : ∀ {l₁ : List α} {l₂ : List β}, Paired F l₁ l₂ → (∀ a b, F a b → G a b) → Paired G l₁ l₂
  | _, _, .nil, _ => .nil
  | _, _, .cons r t, f => .cons (f _ _ r) (paired_mapP t f)
theorem NAt.keeps {H H' : Hp} {ks : List NI} {a : Addr} (x : NAt H ks a) (ht : ∀ b xs, H b = some (.tup xs) → H' b = some (.tup xs)) : NAt H' ks a := by
  obtain ⟨vs, e, r⟩ := x
  refine ⟨vs, ht _ _ e, paired_mapP r fun i v z => ?_⟩
  cases i with
  | inl k => exact z
  | inr l =>
    obtain ⟨b, e1, e2⟩ := z
    exact ⟨b, e1, ht _ _ e2⟩
section
variable (P : Program) (w : World)
noncomputable def ObjOk (H : Hp) (h : Heap) (a : Addr) : HO → Prop
  | .lst xs => xs.length ≤ sizeLine ∧ ∃ (its : List Value) (n : Nat), Vals xs its ∧ h.get? a = some { cls := .type "list", data := .seq its.toArray n }
  | .tup xs => xs.length ≤ sizeLine ∧ ∃ its : List Value, Vals xs its ∧ IsTup h a its.toArray
  | .dK kvs => kvs.length ≤ sizeLine ∧ (a == sysModules) = false ∧ ∃ vs, KV kvs vs ∧ h.DictOf (mixKind P w) a vs
  | .dT kvs => kvs.length ≤ sizeLine ∧ (a == sysModules) = false ∧ ∃ xs : List (List NI × Addr × Value),
      Paired (fun (p : List NI × V) (q : List NI × Addr × Value) => p.1 = q.1 ∧ NAt H p.1 q.2.1 ∧ RelV p.2 q.2.2) kvs xs ∧
      ∃ o es ep, h.get? a = some o ∧ o.ExactDict ∧ o.data = .dict es ep ∧ es.toList = xs.map (entryOfKey (nestKind P w)) ∧ (xs.map (·.1)).Nodup
  | .set S n => h.SetOf (intKind P w) a S n
  | .ins C dx fs => H dx = some (.own a) ∧ fs.length ≤ 1000 ∧ dx ≠ a ∧ h.get? a = some (PySem.W.instObj C dx) ∧
      ∃ mA, h.Ns1 dx mA ∧ (∀ f, RelO (fs.lookup f) (mA f)) ∧ PySem.Within mA (fs.map (·.1))
  | .own _ => ∃ o, h.get? a = some o
  | .xd fs => ∃ mA, h.Ns1 a mA ∧ ∀ f, RelO (fs.lookup f) (mA f)
  | .rng lo hi => ∃ t u v, h.get? a = some { cls := .type "range", data := .fields #[.int lo t, .int hi u, .int 1 v] }
  | .frz o u => h.get? a = some o ∧ ObjOk H h a u
  | .tbl ps => h.get? a = some { cls := .none, data := .fields ps }
  | .met f x => h.get? a = some (PySem.W.methodObj (.ref f) (.ref x))
  | .ext φ => φ h ∧ (∃ o, h.get? a = some o) ∧ ∀ h1 h2 : Heap, φ h1 → (∀ o, h1.get? a = some o → h2.get? a = some o) → φ h2
noncomputable def HOk (H : Hp) (h : Heap) : Prop := ∀ a o, H a = some o → ObjOk P w H h a o
end
section
variable {P : Program} {w : World} {H H' : Hp} {h h' : Heap} {a : Addr} {o : HO}
theorem ObjOk.lt (x : ObjOk P w H h a o) : a < h.objs.size := by
  cases o with
  | lst xs => obtain ⟨_, _, _, _, e⟩ := x; exact Heap.lt_size e
  | tup xs => obtain ⟨_, _, _, p⟩ := x; exact p.lt
  | dK kvs => obtain ⟨_, _, _, _, o, _, _, e, _⟩ := x; exact Heap.lt_size e
  | dT kvs => obtain ⟨_, _, _, _, o, _, _, e, _⟩ := x; exact Heap.lt_size e
  | set S n => obtain ⟨o, _, _, _, e, _⟩ := x; exact Heap.lt_size e
  | ins C dx fs => obtain ⟨_, _, _, e, _⟩ := x; exact Heap.lt_size e
  | own y => obtain ⟨_, e⟩ := x; exact Heap.lt_size e
  | xd fs => obtain ⟨_, ⟨_, _, _, e, _⟩, _⟩ := x; exact Heap.lt_size e
  | rng lo hi => obtain ⟨_, _, _, e⟩ := x; exact Heap.lt_size e
  | frz ob u => obtain ⟨e, _⟩ := x; exact Heap.lt_size e
  | tbl ps => exact Heap.lt_size (show h.get? a = some _ from x)
  | met f y => exact Heap.lt_size (show h.get? a = some _ from x)
  | ext φ => obtain ⟨_, ⟨_, e⟩, _⟩ := x; exact Heap.lt_size e
theorem Paired.mapP {α β : Type} {F G : α → β → Prop} : ∀ {l₁ : List α} {l₂ : List β}, Paired F l₁ l₂ → (∀ a b, F a b → G a b) → Paired G l₁ l₂
  | _, _, .nil, _ => .nil
  | _, _, .cons r t, f => .cons (f _ _ r) (Paired.mapP t f)
theorem ObjOk.stay (x : ObjOk P w H h a o) (k : ∀ b u, (b = a ∨ H b = some (.own a)) → h.get? b = some u → h'.get? b = some u)
    (ho : ∀ b, H b = some (.own a) → H' b = some (.own a)) (ht : ∀ b xs, H b = some (.tup xs) → H' b = some (.tup xs)) : ObjOk P w H' h' a o := by
  induction o with
  | lst xs => obtain ⟨z, its, n, r, e⟩ := x; exact ⟨z, its, n, r, k _ _ (.inl rfl) e⟩
  | tup xs => obtain ⟨z, its, r, ob, e, c⟩ := x; exact ⟨z, its, r, ob, k _ _ (.inl rfl) e, c⟩
  | dK kvs => obtain ⟨z, y, vs, r, ob, es, ep, e, c⟩ := x; exact ⟨z, y, vs, r, ob, es, ep, k _ _ (.inl rfl) e, c⟩
  | dT kvs =>
    obtain ⟨z, y, xs, r, ob, es, ep, e, c⟩ := x
    exact ⟨z, y, xs, Paired.mapP r fun p q z => ⟨z.1, z.2.1.keeps ht, z.2.2⟩, ob, es, ep, k _ _ (.inl rfl) e, c⟩
  | set S n => obtain ⟨ob, es, ep, t, e, c⟩ := x; exact ⟨ob, es, ep, t, k _ _ (.inl rfl) e, c⟩
  | ins C dx fs =>
    obtain ⟨d, z, ne, e, mA, ⟨od, es, ep, e2, c⟩, r⟩ := x
    exact ⟨ho _ d, z, ne, k _ _ (.inl rfl) e, mA, ⟨od, es, ep, k _ _ (.inr d) e2, c⟩, r⟩
  | own y => obtain ⟨ob, e⟩ := x; exact ⟨ob, k _ _ (.inl rfl) e⟩
  | xd fs => obtain ⟨mA, ⟨od, es, ep, e, c⟩, r⟩ := x; exact ⟨mA, ⟨od, es, ep, k _ _ (.inl rfl) e, c⟩, r⟩
  | rng lo hi => obtain ⟨t, u, v, e⟩ := x; exact ⟨t, u, v, k _ _ (.inl rfl) e⟩
  | frz ob u ih => obtain ⟨e, q⟩ := x; exact ⟨k _ _ (.inl rfl) e, ih q⟩
  | tbl ps =>
    have e : h.get? a = some { cls := .none, data := .fields ps } := x
    show h'.get? a = some { cls := .none, data := .fields ps }
    exact k a _ (.inl rfl) e
  | met f y =>
    have e : h.get? a = some (PySem.W.methodObj (.ref f) (.ref y)) := x
    show h'.get? a = some (PySem.W.methodObj (.ref f) (.ref y))
    exact k a _ (.inl rfl) e
  | ext φ => obtain ⟨p, ⟨o, e⟩, st⟩ := x; exact ⟨st _ _ p fun o q => k _ _ (.inl rfl) q, ⟨o, k _ _ (.inl rfl) e⟩, st⟩
theorem HOk.lt (x : HOk P w H h) (e : H a = some o) : a < h.objs.size := (x a o e).lt
theorem HOk.fresh (x : HOk P w H h) (e : h.objs.size ≤ a) : H a = none := by
  cases q : H a with
  | none => rfl
  | some u => exact absurd (Nat.lt_of_lt_of_le (x.lt q) e) (Nat.lt_irrefl _)
theorem HOk.kept (x : HOk P w H h) (k : ∀ b u, h.get? b = some u → h'.get? b = some u) : HOk P w H h' := fun a o e =>
  (x a o e).stay (fun b u _ q => k b u q) (fun _ q => q) fun _ _ q => q
theorem HOk.laid (x : HOk P w H h) (k : ∀ b u, h.get? b = some u → h'.get? b = some u) (hp : h.objs.size ≤ a) (new : ObjOk P w (upd H a o) h' a o) : HOk P w (upd H a o) h' := fun b u e => by
  have hn := x.fresh hp
  by_cases hb : b = a
  · subst hb; rw [upd_same] at e; cases e; exact new
  · rw [upd_ne hb] at e
    exact (x b u e).stay (fun c v _ q => k c v q) (fun c q => by rw [upd_ne (ne_of_none q hn)]; exact q) fun c xs q => by rw [upd_ne (ne_of_none q hn)]; exact q
end
noncomputable def Rd (H : Hp) (a : Addr) (u : HO) : Prop := H a = some u ∨ ∃ o, H a = some (.frz o u)
theorem Rd.ok {P : Program} {w : World} {H : Hp} {h : Heap} {a : Addr} {u : HO} (r : Rd H a u) (x : HOk P w H h) : ObjOk P w H h a u := by
  rcases r with r | ⟨o, r⟩
  · exact x a u r
  · obtain ⟨_, q⟩ := x a _ r
    exact q
noncomputable def Mut : Option HO → Prop
  | some (.lst _) => True
  | some (.dK _) => True
  | some (.dT _) => True
  | some (.set _ _) => True
  | some (.ins _ _ _) => True
  | some (.ext _) => True
  | _ => False
section
variable {P : Program} {w : World} {H : Hp} {h h' : Heap} {x e : Addr} {o' : HO}
theorem HOk.write (ok : HOk P w H h) (mu : Mut (H x)) (he : e = x ∨ H e = some (.own x)) (k : ∀ b u, b ≠ e → h.get? b = some u → h'.get? b = some u) (heo : ∃ u, h'.get? e = some u)
    (new : ObjOk P w (upd H x o') h' x o') : HOk P w (upd H x o') h' := fun b u q => by
  have nown : ∀ c y, H c = some (.own y) → c ≠ x := fun c y r z => by subst z; rw [r] at mu; exact mu
  have ntup : ∀ c xs, H c = some (.tup xs) → c ≠ x := fun c xs r z => by subst z; rw [r] at mu; exact mu
  by_cases hb : b = x
  · subst hb; rw [upd_same] at q; cases q; exact new
  · rw [upd_ne hb] at q
    by_cases hbe : b = e
    · have q' : H b = some (.own x) := by
        rcases he with z | z
        · exact absurd (hbe.trans z) hb
        · rw [hbe]; exact z
      rw [q] at q'; cases q'
      obtain ⟨v, hv⟩ := heo
      exact ⟨v, by rw [hbe]; exact hv⟩
    · refine (ok b u q).stay (fun c v hc r => k c v ?_ r) (fun c r => by rw [upd_ne (nown c b r)]; exact r) fun c xs r => by rw [upd_ne (ntup c xs r)]; exact r
      rcases hc with rfl | hc
      · exact hbe
      · rintro rfl
        rcases he with z | z
        · exact nown c b hc z
        · rw [hc] at z; cases z; exact hb rfl
end
structure Un (fs ex : List Addr) (H H' : Hp) (h h' : Heap) : Prop where
  keep : ∀ b o, h.get? b = some o → H b = none → b ∉ fs → b ∉ ex → h'.get? b = some o
  slot : ∀ b o, h.get? b = some o → H b = none → b ∈ fs → b ∉ ex → ∃ sl, h'.get? b = some { o with slots := sl }
  free : ∀ b o, h.get? b = some o → H b = none → b ∉ ex → H' b = none
  there : ∀ b o, h.get? b = some o → b ∉ ex → ∃ o', h'.get? b = some o'
  tups : ∀ b xs, H b = some (.tup xs) → H' b = some (.tup xs)
  frzs : ∀ b o u, H b = some (.frz o u) → H' b = some (.frz o u)
  tbls : ∀ b ps, H b = some (.tbl ps) → ∃ more, H' b = some (.tbl (ps ++ more))
section
variable {fs fs' ex ex' : List Addr} {H H1 H2 : Hp} {h h1 h2 h' : Heap} {a x e : Addr} {o : HO}
theorem Un.any (u : Un fs ex H H1 h h1) {b : Addr} {ob : Obj} (q : h.get? b = some ob) (n : H b = none) (hx : b ∉ ex) : ∃ sl, h1.get? b = some { ob with slots := sl } := by
  by_cases hb : b ∈ fs
  · exact u.slot b ob q n hb hx
  · exact ⟨ob.slots, u.keep b ob q n hb hx⟩
theorem Un.trans (a : Un fs ex H H1 h h1) (b : Un fs ex H1 H2 h1 h2) : Un fs ex H H2 h h2 where
  keep := fun c ob q n hc hx => b.keep c ob (a.keep c ob q n hc hx) (a.free c ob q n hx) hc hx
  slot := fun c ob q n hc hx => by
    obtain ⟨sl, e1⟩ := a.slot c ob q n hc hx
    obtain ⟨sl', e2⟩ := b.slot c _ e1 (a.free c ob q n hx) hc hx
    exact ⟨sl', e2⟩
  free := fun c ob q n hx => by
    obtain ⟨o', e1⟩ := a.there c ob q hx
    exact b.free c o' e1 (a.free c ob q n hx) hx
  there := fun c ob q hx => by
    obtain ⟨o', e1⟩ := a.there c ob q hx
    exact b.there c o' e1 hx
  tups := fun c xs q => b.tups c xs (a.tups c xs q)
  frzs := fun c ob xs q => b.frzs c ob xs (a.frzs c ob xs q)
  tbls := fun c ps q => by
    obtain ⟨m1, e1⟩ := a.tbls c ps q
    obtain ⟨m2, e2⟩ := b.tbls c _ e1
    exact ⟨m1 ++ m2, by rw [e2, Array.append_assoc]⟩
theorem Un.kept (k : ∀ b u, h.get? b = some u → h'.get? b = some u) : Un fs ex H H h h' :=
  ⟨fun b ob q _ _ _ => k b ob q, fun b ob q _ _ _ => ⟨ob.slots, k b ob q⟩, fun _ _ _ n _ => n, fun b ob q _ => ⟨ob, k b ob q⟩, fun _ _ q => q, fun _ _ _ q => q, fun _ ps q => ⟨#[], by rw [q]; simp⟩⟩
theorem Un.refl : Un fs ex H H h h := Un.kept fun _ _ q => q
theorem Un.laid (k : ∀ b u, h.get? b = some u → h'.get? b = some u) (hp : h.objs.size ≤ a) (hn : H a = none) : Un fs ex H (upd H a o) h h' where
  keep := fun b u q _ _ _ => k b u q
  slot := fun b u q _ _ _ => ⟨u.slots, k b u q⟩
  free := fun b u q n _ => by rw [upd_ne (Nat.ne_of_lt (Nat.lt_of_lt_of_le (Heap.lt_size q) hp))]; exact n
  there := fun b u q _ => ⟨u, k b u q⟩
  tups := fun b xs q => by rw [upd_ne (ne_of_none q hn)]; exact q
  frzs := fun b u xs q => by rw [upd_ne (ne_of_none q hn)]; exact q
  tbls := fun b ps q => ⟨#[], by rw [upd_ne (ne_of_none q hn), q]; simp⟩
theorem Un.write (mu : Mut (H x)) (he : e = x ∨ H e = some (.own x)) (k : ∀ b u, b ≠ e → h.get? b = some u → h'.get? b = some u) (heo : ∃ u, h'.get? e = some u) : Un fs ex H (upd H x o) h h' := by
  have hx : ∀ b, H b = none → b ≠ x := fun b n z => by subst z; rw [n] at mu; exact mu
  have hb : ∀ b, H b = none → b ≠ e := fun b n z => by
    subst z
    rcases he with r | r
    · exact hx b n r
    · rw [n] at r; cases r
  have hm : ∀ b u, H b = some u → ¬ Mut (some u) → b ≠ x := fun b u q nm z => by subst z; rw [q] at mu; exact nm mu
  refine ⟨fun b u q n _ _ => k b u (hb b n) q, fun b u q n _ _ => ⟨u.slots, k b u (hb b n) q⟩, fun b u q n _ => by rw [upd_ne (hx b n)]; exact n, fun b u q _ => ?_,
    fun b xs q => by rw [upd_ne (hm b _ q fun z => z)]; exact q, fun b u xs q => by rw [upd_ne (hm b _ q fun z => z)]; exact q, fun b ps q => ⟨#[], by rw [upd_ne (hm b _ q fun z => z), q]; simp⟩⟩
  by_cases hbe : b = e
  · subst hbe; exact heo
  · exact ⟨u, k b u hbe q⟩
end
noncomputable def trk (h : Heap) (H : Hp) : List Addr := (List.range h.objs.size).filter fun a => (H a).isSome
noncomputable def hidT (h : Heap) (H : Hp) : Heap := PySem.W.hideAll h (trk h H)
theorem hidT_size (h : Heap) (H : Hp) : (hidT h H).objs.size = h.objs.size := PySem.W.hideAll_size _ _
theorem hidT_get {h : Heap} {H : Hp} {b : Addr} {o : Obj} (e : h.get? b = some o) (n : H b = none) : (hidT h H).get? b = some o :=
  PySem.W.hideAll_get _ e fun hm => by
    have q : (H b).isSome = true := (List.mem_filter.mp hm).2
    rw [n] at q; simp at q
theorem of_hidT {h : Heap} {H : Hp} {b : Addr} {o : Obj} (e : (hidT h H).get? b = some o) : h.get? b = some o ∧ H b = none := by
  have e' : h.get? b = some o := PySem.W.of_hideAll (trk h H) e
  refine ⟨e', ?_⟩
  cases q : H b with
  | none => rfl
  | some x =>
    have hm : b ∈ trk h H := List.mem_filter.mpr ⟨List.mem_range.mpr (Heap.lt_size e'), by simp [q]⟩
    have z : (hidT h H).get? b = none := PySem.W.hideAll_none (trk h H) hm
    rw [z] at e; cases e
end L2
namespace L2
open PySem PySem.Spec PyProof.Rows
structure Mod (K : PySem.W.Frag) (mg : Str → Option Value) (base : Heap) : Prop where
  kin : K.In base
  glob : base.Ns mainGlobals mg
  blt : ∃ mb, base.Ns builtinsNs mb ∧ ∀ x : Str, x ≠ "__name__" → mb x = bootBuiltins x
  nolimit : base.NoLimit
structure Cx where
  prog : Program
  w : World
  K : PySem.W.Frag
  mg : Str → Option Value
  base : Heap
  A : Around
  N : List Str
  s₀ : Shared
  H₀ : Hp
  env : Env
  outer : List Env
  stack : List Env
  ex : List Addr
  fn : Str → Bool
  calm : Bool
  pn : List (Addr × Obj)
  xe : Value → Shared → Prop
noncomputable def frs (l : List Env) : List Addr := l.filterMap (·.frame)
noncomputable abbrev Cx.fs (X : Cx) : List Addr := frs X.outer
noncomputable def Vis (sc : Scope) (x : Str) : Prop := sc.names.lookup x = some .local ∨ sc.names.lookup x = some .cell ∨ sc.names.lookup x = some .free
noncomputable def Loc (sc : Scope) (x : Str) : Prop := sc.names.lookup x = some .local ∨ sc.names.lookup x = some .cell
noncomputable def Look (env : Env) (h : Heap) (m : Str → Option Value) (x : Str) (u : Value) : Prop :=
  (env.kindOf x = some .local ∧ m x = some u) ∨ ((env.kindOf x = some .cell ∨ env.kindOf x = some .free) ∧ ∃ c, env.cells.lookup x = some c ∧ h.IsCell c (some u))
structure Cx.Ok (X : Cx) : Prop where
  mod : Mod X.K X.mg X.base
  kind : X.env.scope.kind = .function
  glob : X.env.globals = mainGlobals
  blt : X.env.builtins = builtinsNs
  above : X.s₀.heap.objs.size ≤ X.env.locals
  inj : ∀ x y c, X.env.cells.lookup x = some c → X.env.cells.lookup y = some c → x = y
  has : ∀ x, (X.env.kindOf x = some .cell ∨ X.env.kindOf x = some .free) → ∃ c, X.env.cells.lookup x = some c
  cab : ∀ x c, X.fn x = true → X.env.cells.lookup x = some c → X.s₀.heap.objs.size ≤ c
  hd : X.calm = true → X.A.handled = none
  frames : X.A.frames = some X.stack
  stk : X.stack = X.outer ∨ (X.stack = X.env :: X.outer ∧ X.env.frame = some X.env.locals)
  exf : ∀ b ∈ X.ex, b ≠ X.env.locals ∧ ∀ x c, X.env.cells.lookup x = some c → c ≠ b
  bs : ∀ b o, X.base.get? b = some o → X.s₀.heap.get? b = some o ∧ X.H₀ b = none
  bsz : X.base.objs.size ≤ X.s₀.heap.objs.size
  noex : ∀ b o, X.base.get? b = some o → b ∉ X.ex
  exfs : ∀ b ∈ X.ex, b ∉ X.fs
  funs : X.s₀.heap.FunFrames X.base X.outer
  frf : ∀ b ∈ X.fs, X.H₀ b = none
structure Inv (X : Cx) (pins : List (Addr × Obj)) (σ : List (Option V)) (H : Hp) (s : Shared) : Prop where
  ok : X.Ok
  os : s.os = X.s₀.os
  bare : AllBare s.gens
  base : Un X.fs X.ex X.H₀ H X.s₀.heap s.heap
  loc : ∃ m, s.heap.Ns X.env.locals m ∧ ∀ (i : Nat) (x : Str) (v : V), X.N[i]? = some x → σ[i]? = some (some v) → Vis X.env.scope x → ∃ u, RelV v u ∧ Look X.env s.heap m x u
  cell : ∀ x c, X.env.cells.lookup x = some c → ∃ v, s.heap.IsCell c v
  free : H X.env.locals = none
  freeC : ∀ x c, X.env.cells.lookup x = some c → H c = none
  pin : ∀ p ∈ X.pn ++ pins, s.heap.get? p.1 = some p.2 ∧ H p.1 = none ∧ p.1 ≠ X.env.locals ∧ p.1 ∉ X.fs ∧ ∀ v, p.2.data ≠ .cell v
  hok : HOk X.prog X.w H s.heap
  len : σ.length = X.N.length
section
variable {X : Cx} {pins : List (Addr × Obj)} {σ : List (Option V)} {H H' : Hp} {s : Shared} {h' : Heap}
theorem Cx.Ok.nofr (ok : X.Ok) {b : Addr} {o : Obj} (e : X.base.get? b = some o) : b ∉ X.fs := fun hb => by
  have := (ok.funs.mem hb).1
  rw [e] at this; cases this
theorem Inv.bs (I : Inv X pins σ H s) : ∀ b o, X.base.get? b = some o → s.heap.get? b = some o ∧ H b = none := fun b o e =>
  ⟨I.base.keep b o (I.ok.bs b o e).1 (I.ok.bs b o e).2 (I.ok.nofr e) (I.ok.noex b o e), I.base.free b o (I.ok.bs b o e).1 (I.ok.bs b o e).2 (I.ok.noex b o e)⟩
theorem Inv.bk (I : Inv X pins σ H s) : ∀ b o, X.base.get? b = some o → s.heap.get? b = some o := fun b o e => (I.bs b o e).1
theorem Inv.mod (I : Inv X pins σ H s) : Mod X.K X.mg X.base := I.ok.mod
theorem Inv.kIn (I : Inv X pins σ H s) : X.K.In s.heap := I.ok.mod.kin.keeps I.bk
theorem Inv.lt (I : Inv X pins σ H s) : X.env.locals < s.heap.objs.size := I.loc.elim fun _ zq432 => zq432.elim fun hn _ => hn.lt
theorem Inv.sz (I : Inv X pins σ H s) : X.s₀.heap.objs.size ≤ s.heap.objs.size := Nat.le_trans I.ok.above (Nat.le_of_lt I.lt)
theorem Inv.nofs (I : Inv X pins σ H s) {a : Addr} (h : s.heap.objs.size ≤ a) : a ∉ X.fs := fun hb => by
  obtain ⟨_, o, ho, _⟩ := I.ok.funs.mem hb
  exact absurd (Nat.lt_of_lt_of_le (Heap.lt_size ho) (Nat.le_trans I.sz h)) (Nat.lt_irrefl _)
theorem Inv.cne (I : Inv X pins σ H s) : ∀ x c, X.env.cells.lookup x = some c → c ≠ X.env.locals := fun x c e z => by
  obtain ⟨v, o, ho, hd⟩ := I.cell x c e
  obtain ⟨m, ⟨o', es, ep, ho', hd', _⟩, _⟩ := I.loc
  rw [z, ho'] at ho; cases ho; rw [hd'] at hd; cases hd
theorem Inv.funs (I : Inv X pins σ H s) : s.heap.FunFrames X.base X.outer := by
  have all : ∀ (l : List Env), (∀ b ∈ frs l, b ∈ X.fs) → X.s₀.heap.FunFrames X.base l → s.heap.FunFrames X.base l := by
    intro l
    induction l with
    | nil => intro _ _; trivial
    | cons env r ih =>
      intro hs hl
      obtain ⟨hk, ⟨L, o, hf, hn, ho, hd⟩, hr⟩ := hl
      have hL : L ∈ X.fs := hs L (by unfold frs; rw [List.filterMap_cons, hf]; exact List.mem_cons_self)
      obtain ⟨sl, e⟩ := I.base.slot L o ho (I.ok.frf L hL) hL fun z => I.ok.exfs L z hL
      exact ⟨hk, ⟨L, _, hf, hn, e, hd⟩, ih (fun b hb => hs b (by unfold frs; rw [List.filterMap_cons, hf]; exact List.mem_cons_of_mem _ hb)) hr⟩
  exact all X.outer (fun _ hb => hb) I.ok.funs
theorem Inv.stack (I : Inv X pins σ H s) : s.heap.FunFrames X.base X.stack := by
  rcases I.ok.stk with e | ⟨e, hf⟩
  · rw [e]; exact I.funs
  · rw [e]
    obtain ⟨m, hn, _⟩ := I.loc
    refine .cons (by rw [I.ok.kind]; decide) hf hn ?_ I.funs
    exact Heap.get?_none_of_le (Nat.le_trans I.ok.bsz I.ok.above)
theorem Inv.stkSub (I : Inv X pins σ H s) : ∀ b ∈ frs X.stack, b ∈ X.env.locals :: X.fs := fun b hb => by
  rcases I.ok.stk with e | ⟨e, hf⟩
  · rw [e] at hb; exact List.mem_cons_of_mem _ hb
  · rw [e] at hb
    unfold frs at hb
    rw [List.filterMap_cons, hf] at hb
    exact hb
theorem Inv.stkFree (I : Inv X pins σ H s) : ∀ b ∈ frs X.stack, H b = none := fun b hb => by
  rcases List.mem_cons.mp (I.stkSub b hb) with e | hb
  · rw [e]; exact I.free
  · obtain ⟨_, o, ho, _⟩ := I.ok.funs.mem hb
    exact I.base.free b o ho (I.ok.frf b hb) fun z => I.ok.exfs b z hb
theorem Inv.step {g' : Array GenState} {t' : Nat} {d' : Drawn} {ch : List Addr} (I : Inv X pins σ H s)
    (hch : ∀ b ∈ ch, (b ∈ X.ex ∨ X.s₀.heap.objs.size ≤ b) ∧ b ≠ X.env.locals ∧ (∀ x c, X.env.cells.lookup x = some c → c ≠ b) ∧ ∀ p ∈ X.pn ++ pins, p.1 ≠ b)
    (keep : ∀ b o, b ≠ X.env.locals → b ∉ X.fs → b ∉ ch → s.heap.get? b = some o → H b = none → h'.get? b = some o)
    (slot : ∀ b o, b ≠ X.env.locals → b ∈ X.fs → b ∉ ch → s.heap.get? b = some o → H b = none → ∃ sl, h'.get? b = some { o with slots := sl }) (free : ∀ b o, b ∉ ch → s.heap.get? b = some o → H b = none → H' b = none)
    (there : ∀ b o, b ∉ ch → s.heap.get? b = some o → ∃ o', h'.get? b = some o')
    (tups : ∀ b xs, H b = some (.tup xs) → H' b = some (.tup xs)) (frzs : ∀ b o u, H b = some (.frz o u) → H' b = some (.frz o u)) (tbls : ∀ b ps, H b = some (.tbl ps) → ∃ more, H' b = some (.tbl (ps ++ more)))
    (ns : ∀ m, s.heap.Ns X.env.locals m → h'.Ns X.env.locals m) (hok : HOk X.prog X.w H' h') (hg : AllBare g') :
    Inv X pins σ H' { s with heap := h', gens := g', drawn := d', toks := t' } := by
  have neL : ∀ b o, X.s₀.heap.get? b = some o → b ≠ X.env.locals := fun b o e => Nat.ne_of_lt (Nat.lt_of_lt_of_le (Heap.lt_size e) I.ok.above)
  have neC : ∀ b o, X.s₀.heap.get? b = some o → b ∉ X.ex → b ∉ ch := fun b o e hx hb => by
    rcases (hch b hb).1 with z | z
    · exact hx z
    · exact absurd (Nat.lt_of_lt_of_le (Heap.lt_size e) z) (Nat.lt_irrefl _)
  have cellK : ∀ x c, X.env.cells.lookup x = some c → ∀ v, s.heap.IsCell c v → h'.IsCell c v := fun x c e v zq1 => zq1.elim fun o zq2 => zq2.elim fun ho hd => by
    have nch : c ∉ ch := fun z => (hch c z).2.2.1 x c e rfl
    by_cases hc : c ∈ X.fs
    · obtain ⟨sl, q⟩ := slot c o (I.cne x c e) hc nch ho (I.freeC x c e)
      exact ⟨_, q, hd⟩
    · exact ⟨o, keep c o (I.cne x c e) hc nch ho (I.freeC x c e), hd⟩
  refine ⟨I.ok, I.os, hg, ⟨fun b o e n hb hx => ?_, fun b o e n hb hx => ?_, fun b o e n hx => ?_, fun b o e hx => ?_, fun b xs e => tups b xs (I.base.tups b xs e), fun b o xs e => frzs b o xs (I.base.frzs b o xs e), fun b ps e => ?_⟩, ?_, fun x c e => ?_, ?_, fun x c e => ?_, fun p hp => ?_, hok, I.len⟩
  · exact keep b o (neL b o e) hb (neC b o e hx) (I.base.keep b o e n hb hx) (I.base.free b o e n hx)
  · obtain ⟨sl, e1⟩ := I.base.slot b o e n hb hx
    obtain ⟨sl', e2⟩ := slot b _ (neL b o e) hb (neC b o e hx) e1 (I.base.free b o e n hx)
    exact ⟨sl', e2⟩
  · obtain ⟨o', e1⟩ := I.base.there b o e hx
    exact free b o' (neC b o e hx) e1 (I.base.free b o e n hx)
  · obtain ⟨o', e1⟩ := I.base.there b o e hx
    exact there b o' (neC b o e hx) e1
  · obtain ⟨m1, e1⟩ := I.base.tbls b ps e
    obtain ⟨m2, e2⟩ := tbls b _ e1
    exact ⟨m1 ++ m2, by rw [e2, Array.append_assoc]⟩
  · obtain ⟨m, hn, hl⟩ := I.loc
    refine ⟨m, ns m hn, fun i x v e1 e2 e3 => ?_⟩
    obtain ⟨u, r, l⟩ := hl i x v e1 e2 e3
    refine ⟨u, r, ?_⟩
    rcases l with l | ⟨k, c, e, z⟩
    · exact .inl l
    · exact .inr ⟨k, c, e, cellK x c e _ z⟩
  · obtain ⟨v, z⟩ := I.cell x c e
    exact ⟨v, cellK x c e v z⟩
  · obtain ⟨m, ⟨o, _, _, ho, _⟩, _⟩ := I.loc
    exact free _ o (fun z => (hch _ z).2.1 rfl) ho I.free
  · obtain ⟨v, o, ho, hd⟩ := I.cell x c e
    exact free c o (fun z => (hch c z).2.2.1 x c e rfl) ho (I.freeC x c e)
  · obtain ⟨e, n, ne, nf, d⟩ := I.pin p hp
    have nch : p.1 ∉ ch := fun z => (hch p.1 z).2.2.2 p hp rfl
    exact ⟨keep p.1 p.2 ne nf nch e n, free p.1 p.2 nch e n, ne, nf, d⟩
theorem Inv.un {t' : Nat} (I : Inv X pins σ H s) (u : Un X.fs [] H H' s.heap h') (hok : HOk X.prog X.w H' h') : Inv X pins σ H' { s with heap := h', toks := t' } := by
  obtain ⟨m, ⟨o, es, ep, ho, r⟩, _⟩ := id I.loc
  obtain ⟨sl, hL⟩ := u.any ho I.free (by simp)
  exact I.step (g' := s.gens) (d' := s.drawn) (ch := []) (fun _ z => nomatch z) (fun b o _ hb _ e n => u.keep b o e n hb (by simp)) (fun b o _ hb _ e n => u.slot b o e n hb (by simp)) (fun b o _ e n => u.free b o e n (by simp)) (fun b o _ e => u.there b o e (by simp)) u.tups u.frzs u.tbls (fun m' hm => by
    obtain ⟨o', es', ep', ho', r'⟩ := hm
    rw [ho] at ho'; cases ho'
    exact ⟨_, es', ep', hL, r'⟩) hok I.bare
theorem Inv.call {g' : Array GenState} {t' : Nat} {d' : Drawn} {ch : List Addr} (I : Inv X pins σ H s) (u : Un (frs X.stack) ch H H' s.heap h') (hok : HOk X.prog X.w H' h') (hg : AllBare g')
    (hch : ∀ b ∈ ch, (b ∈ X.ex ∨ X.s₀.heap.objs.size ≤ b) ∧ b ≠ X.env.locals ∧ (∀ x c, X.env.cells.lookup x = some c → c ≠ b) ∧ ∀ p ∈ X.pn ++ pins, p.1 ≠ b) :
    Inv X pins σ H' { s with heap := h', gens := g', drawn := d', toks := t' } := by
  obtain ⟨m, ⟨o, es, ep, ho, r⟩, _⟩ := id I.loc
  obtain ⟨sl, hL⟩ := u.any ho I.free fun z => (hch _ z).2.1 rfl
  exact I.step (ch := ch) hch (fun b o hL hb hc e n => u.keep b o e n (fun z => (List.mem_cons.mp (I.stkSub b z)).elim hL hb) hc) (fun b o _ _ hc e n => u.any e n hc) (fun b o hc e n => u.free b o e n hc) (fun b o hc e => u.there b o e hc) u.tups u.frzs u.tbls (fun m' hm => by
    obtain ⟨o', es', ep', ho', r'⟩ := hm
    rw [ho] at ho'; cases ho'
    exact ⟨_, es', ep', hL, r'⟩) hok hg
theorem Inv.turned {t' : Nat} {it : Addr} (I : Inv X pins σ H s) (k : ∀ b o, b ≠ it → s.heap.get? b = some o → h'.get? b = some o) (hn : H it = none) (hL : it ≠ X.env.locals)
    (h1 : it ∈ X.ex ∨ X.s₀.heap.objs.size ≤ it) (h2 : ∀ x c, X.env.cells.lookup x = some c → c ≠ it) (h3 : ∀ p ∈ X.pn ++ pins, p.1 ≠ it) : Inv X pins σ H { s with heap := h', toks := t' } := by
  have nit : ∀ b u, H b = some u → b ≠ it := fun b u e z => by rw [z, hn] at e; cases e
  refine I.step (g' := s.gens) (d' := s.drawn) (ch := [it]) (fun b hb => ?_) (fun b o _ _ hc e _ => k b o (fun z => hc (by simp [z])) e) (fun b o _ _ hc e _ => ⟨o.slots, k b o (fun z => hc (by simp [z])) e⟩) (fun _ _ _ _ n => n)
    (fun b o hc e => ⟨o, k b o (fun z => hc (by simp [z])) e⟩) (fun _ _ e => e) (fun _ _ _ e => e) (fun b ps e => ⟨#[], by rw [e]; simp⟩) (fun m hm => ?_) (fun b u e => ?_) I.bare
  · have e : b = it := by simpa using hb
    subst e
    exact ⟨h1, hL, h2, h3⟩
  · obtain ⟨o, es, ep, ho, r⟩ := hm
    exact ⟨o, es, ep, k _ o (Ne.symm hL) ho, r⟩
  · refine (I.hok b u e).stay (fun c v hc q => k c v ?_ q) (fun _ q => q) fun _ _ q => q
    rcases hc with z | z
    · rw [z]; exact nit b u e
    · exact nit c _ z
theorem Inv.tok (I : Inv X pins σ H s) (t : Nat) : Inv X pins σ H { s with toks := t } := I.un (h' := s.heap) (t' := t) Un.refl I.hok
theorem Inv.kept {t' : Nat} (I : Inv X pins σ H s) (k : ∀ b u, s.heap.get? b = some u → h'.get? b = some u) : Inv X pins σ H { s with heap := h', toks := t' } := I.un (Un.kept k) (I.hok.kept k)
theorem Inv.laid {a : Addr} {o : HO} {t' : Nat} (I : Inv X pins σ H s) (k : ∀ b u, s.heap.get? b = some u → h'.get? b = some u) (hp : s.heap.objs.size ≤ a) (new : ObjOk X.prog X.w (upd H a o) h' a o) :
    Inv X pins σ (upd H a o) { s with heap := h', toks := t' } := I.un (Un.laid k hp (I.hok.fresh hp)) (I.hok.laid k hp new)
theorem Inv.write {x e : Addr} {o : HO} {t' : Nat} (I : Inv X pins σ H s) (mu : Mut (H x)) (he : e = x ∨ H e = some (.own x)) (k : ∀ b u, b ≠ e → s.heap.get? b = some u → h'.get? b = some u) (heo : ∃ u, h'.get? e = some u)
    (new : ObjOk X.prog X.w (upd H x o) h' x o) : Inv X pins σ (upd H x o) { s with heap := h', toks := t' } := I.un (Un.write mu he k heo) (I.hok.write mu he k heo new)
theorem Inv.pins_of {pins' : List (Addr × Obj)} (I : Inv X pins σ H s) (h : ∀ p ∈ pins', s.heap.get? p.1 = some p.2 ∧ H p.1 = none ∧ p.1 ≠ X.env.locals ∧ p.1 ∉ X.fs ∧ ∀ v, p.2.data ≠ .cell v) : Inv X pins' σ H s :=
  ⟨I.ok, I.os, I.bare, I.base, I.loc, I.cell, I.free, I.freeC, fun p hp => (List.mem_append.mp hp).elim (fun z => I.pin p (List.mem_append_left _ z)) (h p), I.hok, I.len⟩
theorem nodup_ix {N : List Str} (hN : N.Nodup) {i j : Nat} {x : Str} (a : N[i]? = some x) (b : N[j]? = some x) : i = j := by
  obtain ⟨h1, e1⟩ := List.getElem?_eq_some_iff.mp a
  obtain ⟨h2, e2⟩ := List.getElem?_eq_some_iff.mp b
  exact (List.getElem_inj hN).mp (e1.trans e2.symm)
theorem store_ok2 {M : Model} {A : Around} {E : Value → Shared → Prop} {i : Nat} {x : Str} {v : V} {u : Value} {Q : Unit → Shared → Prop} (I : Inv X pins σ H s) (hN : X.N.Nodup) (hi : X.N[i]? = some x) (hx : Loc X.env.scope x) (r : RelV v u)
    (h : ∀ s', Inv X pins (σ.set i (some v)) H s' → (∃ a, Heap.SameBut a s.heap s'.heap ∧ (a = X.env.locals ∨ X.env.cells.lookup x = some a)) → Q () s') (hf : X.fn x = true ∨ X.env.scope.names.lookup x = some .local := by first | exact .inl rfl | exact .inr rfl | assumption) : wpAny M A (storeName X.env x u) Q E s := by
  obtain ⟨m, hn, hl⟩ := id I.loc
  have hcls : (X.env.scope.kind == .class || (X.env.scope.kind == .module && X.env.locals != X.env.globals)) = false := by rw [I.ok.kind]; rfl
  have hiσ : i < σ.length := by rw [I.len]; exact (List.getElem?_eq_some_iff.mp hi).1
  have cne := I.cne
  have tracked : ∀ {a : Addr} {h' : Heap}, (∃ o, s.heap.get? a = some o ∧ H a = none) → Heap.SameBut a s.heap h' → HOk X.prog X.w H h' := fun {a h'} ha hs b ob e => by
    obtain ⟨_, _, hfree⟩ := ha
    refine (I.hok b ob e).stay (fun c w' hc q => (hs.2 c ?_).trans q) (fun _ q => q) fun _ _ q => q
    rintro rfl
    rcases hc with rfl | hc
    · rw [hfree] at e; cases e
    · rw [hfree] at hc; cases hc
  rcases hx with hk | hk
  · refine wpAny_storeName_local hk hn (fun h' hn' hs => ?_) hcls
    obtain ⟨oL, _, _, hoL, _⟩ := id hn
    refine h _ ⟨I.ok, I.os, I.bare, ⟨fun b o e n hb hx => ?_, fun b o e n hb hx => ?_, I.base.free, fun b o e hx => ?_, I.base.tups, I.base.frzs, I.base.tbls⟩, ⟨_, hn', fun j y v' e1 e2 e3 => ?_⟩, fun y c e => ?_, I.free, I.freeC, fun p hp => ?_, tracked ⟨oL, hoL, I.free⟩ hs, by simpa using I.len⟩ ⟨_, hs, .inl rfl⟩
    · exact (hs.2 b (Nat.ne_of_lt (Nat.lt_of_lt_of_le (Heap.lt_size e) I.ok.above))).trans (I.base.keep b o e n hb hx)
    · obtain ⟨sl, e1⟩ := I.base.slot b o e n hb hx
      exact ⟨sl, (hs.2 b (Nat.ne_of_lt (Nat.lt_of_lt_of_le (Heap.lt_size e) I.ok.above))).trans e1⟩
    · obtain ⟨o', e1⟩ := I.base.there b o e hx
      exact ⟨o', (hs.2 b (Nat.ne_of_lt (Nat.lt_of_lt_of_le (Heap.lt_size e) I.ok.above))).trans e1⟩
    · by_cases hj : j = i
      · subst hj
        rw [hi] at e1; cases e1
        rw [List.getElem?_set_self hiσ] at e2
        cases e2
        exact ⟨u, r, .inl ⟨hk, by simp⟩⟩
      · rw [List.getElem?_set_ne (Ne.symm hj)] at e2
        obtain ⟨u', r', q⟩ := hl j y v' e1 e2 e3
        refine ⟨u', r', ?_⟩
        rcases q with ⟨k, e⟩ | ⟨k, c, e, z⟩
        · refine .inl ⟨k, ?_⟩
          have : y ≠ x := fun e => hj (nodup_ix hN e1 (e ▸ hi))
          simp [this, e]
        · exact .inr ⟨k, c, e, z.sameBut hs (cne y c e)⟩
    · obtain ⟨w', z⟩ := I.cell y c e
      exact ⟨w', z.sameBut hs (cne y c e)⟩
    · obtain ⟨e, n, ne, nf, d⟩ := I.pin p hp
      exact ⟨(hs.2 p.1 ne).trans e, n, ne, nf, d⟩
  · have hfn : X.fn x = true := by
      rcases hf with z | z
      · exact z
      · rw [z] at hk; cases hk
    obtain ⟨c, hc⟩ := I.ok.has x (.inl hk)
    obtain ⟨w', z⟩ := I.cell x c hc
    refine wpAny_storeName_cell I.ok.kind hk hc z (fun h' hc' hs => ?_)
    obtain ⟨oc, hoc, hocd⟩ := id z
    refine h { s with heap := h' } ⟨I.ok, I.os, I.bare, ⟨fun b o e n hb hx => ?_, fun b o e n hb hx => ?_, I.base.free, fun b o e hx => ?_, I.base.tups, I.base.frzs, I.base.tbls⟩, ⟨m, hn.sameBut hs (Ne.symm (cne x c hc)), fun j y v' e1 e2 e3 => ?_⟩, fun y c' e => ?_, I.free, I.freeC, fun p hp => ?_, tracked ⟨oc, hoc, I.freeC x c hc⟩ hs, by simpa using I.len⟩ ⟨c, hs, .inr hc⟩
    · exact (hs.2 b (Nat.ne_of_lt (Nat.lt_of_lt_of_le (Heap.lt_size e) (I.ok.cab x c hfn hc)))).trans (I.base.keep b o e n hb hx)
    · obtain ⟨sl, e1⟩ := I.base.slot b o e n hb hx
      exact ⟨sl, (hs.2 b (Nat.ne_of_lt (Nat.lt_of_lt_of_le (Heap.lt_size e) (I.ok.cab x c hfn hc)))).trans e1⟩
    · obtain ⟨o', e1⟩ := I.base.there b o e hx
      exact ⟨o', (hs.2 b (Nat.ne_of_lt (Nat.lt_of_lt_of_le (Heap.lt_size e) (I.ok.cab x c hfn hc)))).trans e1⟩
    · by_cases hj : j = i
      · subst hj
        rw [hi] at e1; cases e1
        rw [List.getElem?_set_self hiσ] at e2
        cases e2
        exact ⟨u, r, .inr ⟨.inl hk, c, hc, hc'⟩⟩
      · rw [List.getElem?_set_ne (Ne.symm hj)] at e2
        obtain ⟨u', r', q⟩ := hl j y v' e1 e2 e3
        refine ⟨u', r', ?_⟩
        rcases q with q | ⟨k, c', e, z'⟩
        · exact .inl q
        · refine .inr ⟨k, c', e, z'.sameBut hs ?_⟩
          rintro rfl
          exact hj (nodup_ix hN e1 (I.ok.inj _ _ _ e hc ▸ hi))
    · by_cases hcc : c' = c
      · subst hcc; exact ⟨_, hc'⟩
      · obtain ⟨w2, z2⟩ := I.cell y c' e
        exact ⟨w2, z2.sameBut hs hcc⟩
    · obtain ⟨e, n, ne, nf, d⟩ := I.pin p hp
      refine ⟨(hs.2 p.1 ?_).trans e, n, ne, nf, d⟩
      intro q
      rw [q, hoc] at e
      have q' : oc = p.2 := Option.some.inj e
      exact d w' (by rw [← q']; exact hocd)
theorem store_ok {M : Model} {A : Around} {E : Value → Shared → Prop} {i : Nat} {x : Str} {v : V} {u : Value} {Q : Unit → Shared → Prop} (I : Inv X pins σ H s) (hN : X.N.Nodup) (hi : X.N[i]? = some x) (hx : Loc X.env.scope x) (r : RelV v u)
    (h : ∀ s', Inv X pins (σ.set i (some v)) H s' → Q () s') (hf : X.fn x = true ∨ X.env.scope.names.lookup x = some .local := by first | exact .inl rfl | exact .inr rfl | assumption) : wpAny M A (storeName X.env x u) Q E s :=
  store_ok2 I hN hi hx r (fun s' I' _ => h s' I') hf
theorem Inv.call' {s' : Shared} {ch : List Addr} (I : Inv X pins σ H s) (ho : s'.os = s.os) (u : Un (frs X.stack) ch H H' s.heap s'.heap) (hok : HOk X.prog X.w H' s'.heap) (hg : AllBare s'.gens)
    (hch : ∀ b ∈ ch, (b ∈ X.ex ∨ X.s₀.heap.objs.size ≤ b) ∧ b ≠ X.env.locals ∧ (∀ x c, X.env.cells.lookup x = some c → c ≠ b) ∧ ∀ p ∈ X.pn ++ pins, p.1 ≠ b) : Inv X pins σ H' s' := by
  obtain ⟨h', g', d', t', o'⟩ := s'
  have e : o' = s.os := ho
  subst e
  exact I.call (g' := g') (t' := t') (d' := d') u hok hg hch
end
noncomputable abbrev XK := Value → Option Addr → Hp → Prop
noncomputable abbrev St := List (Option V)
noncomputable abbrev VK := V → Hp → Prop
noncomputable abbrev TE := St → Hp → VK → Prop
noncomputable abbrev TT := St → Hp → (Bool → Hp → Prop) → Prop
noncomputable abbrev TA := St → Hp → (List V → Hp → Prop) → Prop
structure Ends where
  nx : St → Hp → Prop
  rt : VK
  bk : St → Hp → Prop := fun _ _ => False
  ct : St → Hp → Prop := fun _ _ => False
noncomputable abbrev TS := Ends → St → Hp → Prop
noncomputable def EP (X : Cx) (pins : List (Addr × Obj)) (σ : St) (Q : VK) (u : Value) (s' : Shared) : Prop := ∃ v H', Inv X pins σ H' s' ∧ RelV v u ∧ Q v H'
noncomputable def TP (X : Cx) (pins : List (Addr × Obj)) (σ : St) (Q : Bool → Hp → Prop) (b : Bool) (s' : Shared) : Prop := ∃ H', Inv X pins σ H' s' ∧ Q b H'
noncomputable def AP (X : Cx) (pins : List (Addr × Obj)) (σ : St) (Q : List V → Hp → Prop) (us : List Value) (s' : Shared) : Prop := ∃ vs H', Inv X pins σ H' s' ∧ Vals vs us ∧ Q vs H'
noncomputable def SP (X : Cx) (pins : List (Addr × Obj)) (D : Ends) (f : Flow) (s' : Shared) : Prop :=
  match f with
  | .next => ∃ σ' H', Inv X pins σ' H' s' ∧ D.nx σ' H'
  | .brk => ∃ σ' H', Inv X pins σ' H' s' ∧ D.bk σ' H'
  | .cont => ∃ σ' H', Inv X pins σ' H' s' ∧ D.ct σ' H'
  | .ret u => ∃ v σ' H', Inv X pins σ' H' s' ∧ RelV v u ∧ D.rt v H'
noncomputable def PE (X : Cx) (e : Expr) (t : TE) : Prop :=
  ∀ (pins : List (Addr × Obj)) (s : Shared) (σ : St) (H : Hp) (Q : VK), Inv X pins σ H s → t σ H Q → wpAny (model X.prog X.w) X.A (eval e X.env) (EP X pins σ Q) X.xe s
noncomputable def PT (X : Cx) (e : Expr) (t : TT) : Prop :=
  ∀ (pins : List (Addr × Obj)) (s : Shared) (σ : St) (H : Hp) (Q : Bool → Hp → Prop), Inv X pins σ H s → t σ H Q → wpAny (model X.prog X.w) X.A (isTrue e X.env (eval e X.env)) (TP X pins σ Q) X.xe s
noncomputable def PW (X : Cx) (e : Expr) (t : TT) : Prop :=
  ∀ (whole : Sem Value) (pins : List (Addr × Obj)) (s : Shared) (σ : St) (H : Hp) (Q : Bool → Hp → Prop), Inv X pins σ H s → t σ H Q → wpAny (model X.prog X.w) X.A (isTrue e X.env whole) (TP X pins σ Q) X.xe s
theorem PW.pt {X : Cx} {e : Expr} {t : TT} (h : PW X e t) : PT X e t := h _
noncomputable def PA (X : Cx) (es : List Expr) (t : TA) : Prop :=
  ∀ (pos : Pos) (pins : List (Addr × Obj)) (s : Shared) (σ : St) (H : Hp) (Q : List V → Hp → Prop), Inv X pins σ H s → t σ H Q → wpAny (model X.prog X.w) X.A (spliced (backTo pos (starEach es X.env))) (AP X pins σ Q) X.xe s
noncomputable def PS (X : Cx) (st : Stmt) (t : TS) : Prop :=
  ∀ (pins : List (Addr × Obj)) (s : Shared) (σ : St) (H : Hp) (D : Ends), Inv X pins σ H s → t D σ H → wpAny (model X.prog X.w) X.A (exec st X.env) (SP X pins D) X.xe s
noncomputable def PSs (X : Cx) (st : List Stmt) (t : TS) : Prop :=
  ∀ (pins : List (Addr × Obj)) (s : Shared) (σ : St) (H : Hp) (D : Ends), Inv X pins σ H s → t D σ H → wpAny (model X.prog X.w) X.A (execs st X.env) (SP X pins D) X.xe s
theorem thn {α : Type} {t : Sem α} {Q Q' : α → Shared → Prop} {M : Model} {A : Around} {E : Value → Shared → Prop} {s : Shared} (h : wpAny M A t Q E s) (hQ : ∀ a s, Q a s → Q' a s) : wpAny M A t Q' E s := wpAny_mono h hQ fun _ _ x => x
end L2
namespace L2
open PySem PySem.Spec PyProof.Rows
section
variable {X : Cx}
noncomputable def tVar (i : Nat) : TE := fun σ H Q => ∃ v, σ[i]? = some (some v) ∧ Q v H
noncomputable def tC (v : V) : TE := fun _ H Q => Q v H
theorem pe_var {i : Nat} {x : Str} {pos : Pos} (hN : X.N[i]? = some x) (hv : Vis X.env.scope x) (hd : (x == ("__debug__" : Str)) = false := by decide) (hcd : (x == ("__classdict__" : Str)) = false := by decide) : PE X (.Name x pos) (tVar i) := by
  intro pins s σ H Q I h
  obtain ⟨v, e, h⟩ := h
  obtain ⟨m, hn, hl⟩ := I.loc
  obtain ⟨u, r, l⟩ := hl i x v hN e hv
  have fin : EP X pins σ Q u s := ⟨v, H, I, r, h⟩
  rcases l with ⟨hk, hm⟩ | ⟨hk, c, hc, hcell⟩
  · exact wpAny_Name (wpAny_loadName_local I.ok.kind hk hn hm fin) hd
  · rcases hk with hk | hk
    · exact wpAny_Name (wpAny_loadName_cell I.ok.kind hk hc hcell fin) hd
    · exact wpAny_Name (wpAny_loadName_free I.ok.kind hk hc hcell fin hcd) hd
theorem pe_int {i j pos} : PE X (.Constant (.int i) j pos) (tC (.int i)) := fun _ _ _ H _ I h => wpAny_Constant_int ⟨.int i, H, I.tok _, ⟨_, rfl⟩, h⟩
theorem pe_bl {b j pos} : PE X (.Constant (.bool b) j pos) (tC (.bl b)) := fun _ _ _ H _ I h => Constant_bool ⟨.bl b, H, I, rfl, h⟩
theorem pe_non {j pos} : PE X (.Constant .none j pos) (tC .non) := fun _ _ _ H _ I h => Constant_none ⟨.non, H, I, rfl, h⟩
theorem pe_str {x j pos} : PE X (.Constant (.str x) j pos) (tC (.str x)) := fun _ _ _ H _ I h => Calls.Constant_str ⟨.str x, H, I.tok _, ⟨_, rfl⟩, h⟩
noncomputable def Gl (X : Cx) (x : Str) : Prop := X.env.kindOf x = some .globalImplicit
theorem ld_glob {E : Value → Shared → Prop} {pins : List (Addr × Obj)} {s : Shared} {σ : St} {H : Hp} {x : Str} {u : Value} {pos : Pos} {Q : Value → Shared → Prop} (I : Inv X pins σ H s) (hg : Gl X x) (hm : X.mg x = some u) (h : Q u s)
    (hd : (x == ("__debug__" : Str)) = false := by decide) : wpAny (model X.prog X.w) X.A (eval (.Name x pos) X.env) Q E s :=
  Calls.Name_function_global I.ok.kind hg (Calls.loadGlobal_global (by rw [I.ok.glob]; exact I.mod.glob.keeps I.bk) hm h) hd
theorem ld_blt {E : Value → Shared → Prop} {pins : List (Addr × Obj)} {s : Shared} {σ : St} {H : Hp} {x : Str} {u : Value} {pos : Pos} {Q : Value → Shared → Prop} (I : Inv X pins σ H s) (hg : Gl X x) (hm : X.mg x = none) (hv : bootBuiltins x = some u) (h : Q u s)
    (hn : x ≠ "__name__" := by decide) (hd : (x == ("__debug__" : Str)) = false := by decide) : wpAny (model X.prog X.w) X.A (eval (.Name x pos) X.env) Q E s := by
  obtain ⟨mb, h1, h2⟩ := I.mod.blt
  exact Calls.Name_function_global I.ok.kind hg (Calls.loadGlobal_builtin (by rw [I.ok.glob]; exact I.mod.glob.keeps I.bk) hm (by rw [I.ok.blt]; exact h1.keeps I.bk) ((h2 x hn).trans hv) h) hd
theorem pe_bltn {x : Str} {v : V} {u : Value} {pos : Pos} (hg : Gl X x) (hm : X.mg x = none) (hv : bootBuiltins x = some u) (r : RelV v u) (hn : x ≠ "__name__" := by decide) (hd : (x == ("__debug__" : Str)) = false := by decide) : PE X (.Name x pos) (tC v) :=
  fun _ _ _ H _ I h => ld_blt I hg hm hv ⟨v, H, I, r, h⟩ hn hd
variable {a b : Expr} {ta tb : TE} {pos : Pos}
noncomputable def PC (X : Cx) (op : CmpOp) (a b : Expr) (t : TE) : Prop :=
  ∀ (pins : List (Addr × Obj)) (s : Shared) (σ : St) (H : Hp) (Q : VK), Inv X pins σ H s → t σ H Q →
    wpAny (model X.prog X.w) X.A (eval a X.env) (fun v s₁ => wpAny (model X.prog X.w) X.A (eval b X.env) (fun u s₂ => wpAny (model X.prog X.w) X.A (compareOp op v u) (EP X pins σ Q) X.xe s₂) X.xe s₁) X.xe s
noncomputable def tB (t : TE) : TT := fun σ H Q => t σ H fun x H1 => ∃ c, x = .bl c ∧ Q c H1
theorem pt_cmp {op : CmpOp} {t : TE} (h : PC X op a b t) (h1 : behindInMarks op b = false := by first | exact nobehind _ (by decide) (by decide) | rfl) : PT X (.Compare a [op] [b] pos) (tB t) := by
  intro pins s σ H Q I hw
  refine wpAny_isTrue_Compare1 (thn (h pins s σ H _ I hw) fun v s1 h1 => thn h1 fun u s2 h2 => thn h2 fun c s3 zq3 => zq3.elim fun x zq4 => zq4.elim fun H1 zq5 => zq5.elim fun I1 zq6 => zq6.elim fun r1 q1 => ?_) h1
  obtain ⟨d, rfl, q⟩ := q1
  cases r1
  exact wpAny_truthy_bool ⟨H1, I1, q⟩
theorem pt_val {e : Expr} {t : TE} (h : PE X e t) (he : ∀ whole, isTrue e X.env whole = (do let v ← whole; standAt e.pos; holding [v] (truthy v)) := by intro _; rfl) : PT X e (tB t) := by
  intro pins s σ H Q I hw
  refine isTrue_plain (thn (h pins s σ H _ I hw) fun v s1 zq7 => zq7.elim fun x zq8 => zq8.elim fun H1 zq9 => zq9.elim fun I1 zq10 => zq10.elim fun r1 q1 => ?_) (he _)
  obtain ⟨d, rfl, q⟩ := q1
  cases r1
  exact wpAny_truthy_bool ⟨H1, I1, q⟩
variable {tA tB' : TT} {rest : List Expr}
noncomputable def tAnd (t u : TT) : TT := fun σ H Q => t σ H fun c H1 => if c = true then u σ H1 Q else Q false H1
noncomputable def tOr (t u : TT) : TT := fun σ H Q => t σ H fun c H1 => if c = true then Q true H1 else u σ H1 Q
noncomputable def tNot (t : TT) : TT := fun σ H Q => t σ H fun c H1 => Q (!c) H1
theorem pw_and1 (ha : PT X a tA) : PW X (.BoolOp .And [a] pos) tA := by
  intro wh pins s σ H Q I h
  refine isTrue_and (thn (ha pins s σ H Q I h) fun c s1 e => ?_)
  cases c with
  | true => exact isTrue_and_nil e
  | false => exact e
theorem pw_or1 (ha : PT X a tA) : PW X (.BoolOp .Or [a] pos) tA := by
  intro wh pins s σ H Q I h
  refine isTrue_or (thn (ha pins s σ H Q I h) fun c s1 e => ?_)
  cases c with
  | false => exact isTrue_or_nil e
  | true => exact e
theorem pw_and (ha : PT X a tA) (hb : PW X (.BoolOp .And (b :: rest) pos) tB') : PW X (.BoolOp .And (a :: b :: rest) pos) (tAnd tA tB') := by
  intro wh pins s σ H Q I h
  refine isTrue_and (thn (ha pins s σ H _ I h) fun c s1 zq11 => zq11.elim fun H1 zq12 => zq12.elim fun I1 q1 => ?_)
  cases c with
  | true => exact hb wh pins s1 σ H1 Q I1 q1
  | false => exact ⟨H1, I1, q1⟩
theorem pw_or (ha : PT X a tA) (hb : PW X (.BoolOp .Or (b :: rest) pos) tB') : PW X (.BoolOp .Or (a :: b :: rest) pos) (tOr tA tB') := by
  intro wh pins s σ H Q I h
  refine isTrue_or (thn (ha pins s σ H _ I h) fun c s1 zq13 => zq13.elim fun H1 zq14 => zq14.elim fun I1 q1 => ?_)
  cases c with
  | true => exact ⟨H1, I1, q1⟩
  | false => exact hb wh pins s1 σ H1 Q I1 q1
theorem pt_not (ha : PT X a tA) : PT X (.UnaryOp .Not a pos) (tNot tA) := by
  intro pins s σ H Q I h
  exact isTrue_not (ha pins s σ H (fun c H1 => Q (!c) H1) I h)
noncomputable def tAndV (ta tb : TE) : TE := fun σ H Q => ta σ H fun x H1 => ∃ c, x = .bl c ∧ if c = true then tb σ H1 Q else Q (.bl false) H1
noncomputable def tOrV (ta tb : TE) : TE := fun σ H Q => ta σ H fun x H1 => ∃ c, x = .bl c ∧ if c = true then Q (.bl true) H1 else tb σ H1 Q
theorem pe_one {op} {t : TE} (h : PE X a t) : PE X (.BoolOp op [a] pos) t := fun pins s σ H Q I hw => BoolOp_one (h pins s σ H Q I hw)
theorem pe_and (ha : PE X a ta) (hb : PE X (.BoolOp .And (b :: rest) pos) tb) : PE X (.BoolOp .And (a :: b :: rest) pos) (tAndV ta tb) := by
  intro pins s σ H Q I h
  refine BoolOp_and (thn (ha pins s σ H _ I h) fun v s1 zq15 => zq15.elim fun x zq16 => zq16.elim fun H1 zq17 => zq17.elim fun I1 zq18 => zq18.elim fun r1 q1 => ?_)
  obtain ⟨c, rfl, q1⟩ := q1
  cases r1
  refine wpAny_truthy_bool ?_
  cases c with
  | true => exact hb pins s1 σ H1 Q I1 q1
  | false => exact ⟨.bl false, H1, I1, rfl, q1⟩
theorem pe_or (ha : PE X a ta) (hb : PE X (.BoolOp .Or (b :: rest) pos) tb) : PE X (.BoolOp .Or (a :: b :: rest) pos) (tOrV ta tb) := by
  intro pins s σ H Q I h
  refine BoolOp_or (thn (ha pins s σ H _ I h) fun v s1 zq19 => zq19.elim fun x zq20 => zq20.elim fun H1 zq21 => zq21.elim fun I1 zq22 => zq22.elim fun r1 q1 => ?_)
  obtain ⟨c, rfl, q1⟩ := q1
  cases r1
  refine wpAny_truthy_bool ?_
  cases c with
  | false => exact hb pins s1 σ H1 Q I1 q1
  | true => exact ⟨.bl true, H1, I1, rfl, q1⟩
end
end L2
namespace L2
open PySem PySem.Spec PyProof.Rows
noncomputable def SqL (K : PySem.W.Frag) (H : Hp) (a : Addr) (xs : List V) : Prop :=
  Rd H a (.lst xs) ∨
    ∃ (o : Obj) (its : Array Value) (n : Nat), K.lookup a = some o ∧ o.cls = .type "list" ∧ o.dict = none ∧ o.data = .seq its n ∧ its.size ≤ sizeLine ∧ Vals xs its.toList
noncomputable def SqT (K : PySem.W.Frag) (H : Hp) (a : Addr) (xs : List V) : Prop :=
  Rd H a (.tup xs) ∨
    ∃ (o : Obj) (its : Array Value) (n : Nat), K.lookup a = some o ∧ o.cls = .type "tuple" ∧ o.data = .seq its n ∧ its.size ≤ sizeLine ∧ Vals xs its.toList
noncomputable def absV : Value → Option V
  | .none => some .non
  | .bool b => some (.bl b)
  | .int i _ => some (.int i)
  | .str x _ => some (.str x)
  | .bytes b _ => some (.byt b)
  | .float b _ => some (.flt b)
  | .ref a => some (.ref a)
  | .type n => some (.ty n)
  | _ => none
theorem RelV.abs {x : V} {u : Value} (r : RelV x u) : absV u = some x := by
  cases x with
  | non => cases r; rfl
  | bl _ => cases r; rfl
  | int _ => obtain ⟨t, rfl⟩ := r; rfl
  | str _ => obtain ⟨t, rfl⟩ := r; rfl
  | byt _ => obtain ⟨t, rfl⟩ := r; rfl
  | flt _ => obtain ⟨t, rfl⟩ := r; rfl
  | ref _ => cases r; rfl
  | ty _ => cases r; rfl
theorem RelV.inj {x y : V} {u : Value} (r : RelV x u) (q : RelV y u) : x = y := Option.some.inj (r.abs.symm.trans q.abs)
theorem Vals.inj : ∀ {xs ys : List V} {us : List Value}, Vals xs us → Vals ys us → xs = ys
  | _, _, _, .nil, .nil => rfl
  | _, _, _, .cons r t, .cons r' t' => by rw [r.inj r', Vals.inj t t']
section
variable {X : Cx} {pins : List (Addr × Obj)} {σ : St} {H : Hp} {s : Shared} {a : Addr} {xs ys : List V}
theorem SqL.of {K : PySem.W.Frag} (h : H a = some (.lst xs)) : SqL K H a xs := .inl (.inl h)
theorem SqT.of {K : PySem.W.Frag} (h : H a = some (.tup xs)) : SqT K H a xs := .inl (.inl h)
theorem Inv.list (I : Inv X pins σ H s) (h : SqL X.K H a xs) : ∃ its : List Value, Vals xs its ∧ PlainL s.heap a its.toArray ∧ xs.length ≤ sizeLine := by
  rcases h with h | ⟨o, its, n, hk, hc, hd, hs, hz, r⟩
  · obtain ⟨z, its, n, r, e⟩ := h.ok I.hok
    exact ⟨its, r, ⟨_, n, e, rfl, rfl, rfl⟩, z⟩
  · refine ⟨its.toList, r, ⟨o, n, I.kIn a o hk, hc, hd, by simpa using hs⟩, ?_⟩
    have e := r.length
    simp only [Array.length_toList] at e
    omega
theorem Inv.tuple (I : Inv X pins σ H s) (h : SqT X.K H a xs) : ∃ its : List Value, Vals xs its ∧ IsTup s.heap a its.toArray ∧ xs.length ≤ sizeLine := by
  rcases h with h | ⟨o, its, n, hk, hc, hs, hz, r⟩
  · obtain ⟨z, its, r, p⟩ := h.ok I.hok
    exact ⟨its, r, p, z⟩
  · refine ⟨its.toList, r, ⟨o, I.kIn a o hk, hc, n, by simpa using hs⟩, ?_⟩
    have e := r.length
    simp only [Array.length_toList] at e
    omega
theorem Inv.list_inj (I : Inv X pins σ H s) (h : SqL X.K H a xs) (h' : SqL X.K H a ys) : xs = ys := by
  obtain ⟨its, r, ⟨o, n, e, _, _, d⟩, _⟩ := I.list h
  obtain ⟨its', r', ⟨o', n', e', _, _, d'⟩, _⟩ := I.list h'
  rw [e] at e'; cases e'
  rw [d] at d'
  injection d' with d1 _
  have : its = its' := by simpa using congrArg Array.toList d1
  subst this
  exact r.inj r'
end
noncomputable abbrev Cx.wish (X : Cx) (E : Value → Shared → Prop) : Cx := { X with xe := E }
noncomputable abbrev Cx.nox (X : Cx) : Cx := X.wish fun _ _ => False
theorem Cx.Ok.wish {X : Cx} (ok : X.Ok) (E : Value → Shared → Prop) : (X.wish E).Ok :=
  ⟨ok.mod, ok.kind, ok.glob, ok.blt, ok.above, ok.inj, ok.has, ok.cab, ok.hd, ok.frames, ok.stk, ok.exf, ok.bs, ok.bsz, ok.noex, ok.exfs, ok.funs, ok.frf⟩
theorem Cx.Ok.unwish {X : Cx} {E : Value → Shared → Prop} (ok : (X.wish E).Ok) : X.Ok :=
  ⟨ok.mod, ok.kind, ok.glob, ok.blt, ok.above, ok.inj, ok.has, ok.cab, ok.hd, ok.frames, ok.stk, ok.exf, ok.bs, ok.bsz, ok.noex, ok.exfs, ok.funs, ok.frf⟩
section
variable {X : Cx} {pins : List (Addr × Obj)} {σ : St} {H : Hp} {s : Shared} {E : Value → Shared → Prop}
theorem Inv.wish (I : Inv X pins σ H s) (E : Value → Shared → Prop) : Inv (X.wish E) pins σ H s := ⟨I.ok.wish E, I.os, I.bare, I.base, I.loc, I.cell, I.free, I.freeC, I.pin, I.hok, I.len⟩
theorem Inv.unwish (I : Inv (X.wish E) pins σ H s) : Inv X pins σ H s := ⟨I.ok.unwish, I.os, I.bare, I.base, I.loc, I.cell, I.free, I.freeC, I.pin, I.hok, I.len⟩
theorem SP.unwish {D : Ends} {f : Flow} {s' : Shared} (h : SP (X.wish E) pins D f s') : SP X pins D f s' := by
  cases f with
  | next => obtain ⟨σ', H', I, q⟩ := h; exact ⟨σ', H', I.unwish, q⟩
  | brk => obtain ⟨σ', H', I, q⟩ := h; exact ⟨σ', H', I.unwish, q⟩
  | cont => obtain ⟨σ', H', I, q⟩ := h; exact ⟨σ', H', I.unwish, q⟩
  | ret u => obtain ⟨v, σ', H', I, r, q⟩ := h; exact ⟨v, σ', H', I.unwish, r, q⟩
theorem PSs.nox {st : List Stmt} {t : TS} (h : PSs X.nox st t) : PSs X st t := fun pins s σ H D I hw =>
  wpAny_mono (h pins s σ H D (I.wish _) hw) (fun _ _ q => q.unwish) fun _ _ z => False.elim z
end
section
variable {X : Cx} {st : Stmt} {rest : List Stmt} {t u : TS} {e : Expr} {te : TE} {pos : Pos}
noncomputable def tNext : TS := fun D σ H => D.nx σ H
noncomputable def tSeq (t u : TS) : TS := fun D σ H => t { D with nx := u D } σ H
theorem pss_nil : PSs X [] tNext := fun _ _ σ H _ I h => wpAny_execs_nil ⟨σ, H, I, h⟩
theorem pss_cons (h1 : PS X st t) (h2 : PSs X rest u) : PSs X (st :: rest) (tSeq t u) := by
  intro pins s σ H D I h
  refine wpAny_execs_cons (thn (h1 pins s σ H { D with nx := u D } I h) fun f s1 q => ?_)
  cases f with
  | next =>
    obtain ⟨σ', H', I', q⟩ := q
    exact h2 pins s1 σ' H' D I' q
  | ret v => exact q
  | brk => exact q
  | cont => exact q
theorem pss_one (h1 : PS X st t) : PSs X [st] t := by
  intro pins s σ H D I h
  refine wpAny_execs_cons (thn (h1 pins s σ H D I h) fun f s1 q => ?_)
  cases f with
  | next => exact wpAny_execs_nil q
  | ret v => exact q
  | brk => exact q
  | cont => exact q
theorem Inv.quiet {pins : List (Addr × Obj)} {σ : St} {H : Hp} {s : Shared} (I : Inv X pins σ H s) : interactive X.env = false := by simp [interactive, I.ok.kind]
noncomputable def tDrop (te : TE) : TS := fun D σ H => te σ H fun _ H1 => D.nx σ H1
theorem ps_expr (he : PE X e te) (hs : swapsWith e none pos.line X.env = pure false := by rfl) : PS X (.Expr e pos) (tDrop te) := by
  intro pins s σ H D I h
  exact wpAny_Expr_any (thn (he pins s σ H _ I h) fun v s1 zq23 => zq23.elim fun x zq24 => zq24.elim fun H1 zq25 => zq25.elim fun I1 zq26 => zq26.elim fun r1 q1 => ⟨σ, H1, I1, q1⟩) I.quiet hs
noncomputable def tRet (te : TE) : TS := fun D σ H => te σ H D.rt
theorem ps_ret (he : PE X e te) : PS X (.Return (some e) pos) (tRet te) := by
  intro pins s σ H D I h
  exact wpAny_Return_some (thn (he pins s σ H _ I h) fun v s1 zq27 => zq27.elim fun x zq28 => zq28.elim fun H1 zq29 => zq29.elim fun I1 zq30 => zq30.elim fun r1 q1 => ⟨x, σ, H1, I1, r1, q1⟩)
noncomputable def tIfS (c : TT) (t u : TS) : TS := fun D σ H => c σ H fun b H1 => if b = true then t D σ H1 else u D σ H1
theorem ps_if {c : Expr} {a b : List Stmt} {tc : TT} (hc : PT X c tc) (ha : PSs X a t) (hb : PSs X b u) : PS X (.If c a b pos) (tIfS tc t u) := by
  intro pins s σ H D I h
  refine wpAny_If (thn (hc pins s σ H _ I h) fun d s1 zq31 => zq31.elim fun H1 zq32 => zq32.elim fun I1 q1 => ?_)
  cases d with
  | true => exact ha pins s1 σ H1 D I1 q1
  | false => exact hb pins s1 σ H1 D I1 q1
noncomputable def tNever : TS := fun _ _ _ => False
theorem ps_never : PS X st tNever := fun _ _ _ _ _ _ h => h.elim
theorem pss_never {sts : List Stmt} : PSs X sts tNever := fun _ _ _ _ _ _ h => h.elim
end
noncomputable abbrev TG := V → St → Hp → (St → Hp → Prop) → Prop
noncomputable abbrev TGs := List V → St → Hp → (St → Hp → Prop) → Prop
noncomputable def PG (X : Cx) (target : Expr) (t : TG) : Prop :=
  ∀ (pins : List (Addr × Obj)) (s : Shared) (σ : St) (H : Hp) (v : V) (u : Value) (Q : St → Hp → Prop), Inv X pins σ H s → RelV v u → t v σ H Q →
    wpAny (model X.prog X.w) X.A (assign target X.env u) (fun _ s' => ∃ σ' H', Inv X pins σ' H' s' ∧ Q σ' H') X.xe s
noncomputable def PGs (X : Cx) (ts : List Expr) (t : TGs) : Prop :=
  ∀ (pins : List (Addr × Obj)) (s : Shared) (σ : St) (H : Hp) (vs : List V) (us : List Value) (Q : St → Hp → Prop), Inv X pins σ H s → Vals vs us → t vs σ H Q →
    wpAny (model X.prog X.w) X.A (assignInOrder ((assignEach ts X.env).map (·.2)) us) (fun _ s' => ∃ σ' H', Inv X pins σ' H' s' ∧ Q σ' H') X.xe s
section
variable {X : Cx} {pos : Pos}
noncomputable def gName (i : Nat) : TG := fun v σ H Q => Q (σ.set i (some v)) H
theorem pg_name {i : Nat} {x : Str} (hN : X.N.Nodup) (hi : X.N[i]? = some x) (hx : Loc X.env.scope x) (hf : X.fn x = true ∨ X.env.scope.names.lookup x = some .local := by first | exact .inl rfl | exact .inr rfl | assumption) : PG X (.Name x pos) (gName i) := by
  intro pins s σ H v u Q I r h
  exact wpAny_assign_Name (store_ok I hN hi hx r (fun s' I' => ⟨_, H, I', h⟩) hf)
noncomputable def gNil : TGs := fun vs σ H Q => vs = [] ∧ Q σ H
noncomputable def gCons (t : TG) (u : TGs) : TGs := fun vs σ H Q => ∃ v r, vs = v :: r ∧ t v σ H fun σ' H' => u r σ' H' Q
theorem pgs_nil : PGs X [] gNil := by
  intro pins s σ H vs us Q I r h
  obtain ⟨e, h⟩ := h
  subst e
  cases r
  exact assignInOrder_nil ⟨σ, H, I, h⟩
theorem pgs_cons {e : Expr} {es : List Expr} {t : TG} {u : TGs} (h1 : PG X e t) (h2 : PGs X es u)
    (hs : (assignEach (e :: es) X.env).map (·.2) = assign e X.env :: (assignEach es X.env).map (·.2) := by rfl) : PGs X (e :: es) (gCons t u) := by
  intro pins s σ H vs us Q I r h
  obtain ⟨v, vr, e1, h⟩ := h
  subst e1
  cases r with
  | cons r rr =>
    rw [hs]
    refine assignInOrder_cons (thn (h1 pins s σ H _ _ _ I r h) fun _ s1 zq33 => zq33.elim fun σ1 zq34 => zq34.elim fun H1 zq35 => zq35.elim fun I1 q1 => ?_)
    exact h2 pins s1 σ1 H1 _ _ Q I1 rr q1
noncomputable def gTup (K : PySem.W.Frag) (n : Nat) (t : TGs) : TG := fun v σ H Q => ∃ a xs, v = .ref a ∧ SqT K H a xs ∧ xs.length = n ∧ t xs σ H Q
theorem pg_tup {es : List Expr} {k : Nat} {t : TGs} {n : Nat} (hc : X.calm = true) (h : PGs X es t)
    (hn : (assignEach es X.env).length = n := by rfl) (hst : (assignEach es X.env).findIdx? (·.1) = none := by rfl) : PG X (.Tuple es k pos) (gTup X.K n t) := by
  intro pins s σ H v u Q I r hw
  obtain ⟨a, xs, e1, hq, hl, hw⟩ := hw
  subst e1
  cases r
  obtain ⟨its, rv, ht, hz⟩ := I.tuple hq
  refine assign_Tuple_tuple (I.ok.hd hc) ht (by simp [hn, ← hl, rv.length]) hst fun h' hx => ?_
  have I1 : Inv X pins σ H { s with heap := h' } := I.kept (t' := s.toks) fun b o e => hx b o (Nat.ne_of_lt (Heap.lt_size e)) e
  exact h pins _ σ H xs _ Q I1 (by simpa using rv) hw
noncomputable def tAsg (te : TE) (g : TG) : TS := fun D σ H => te σ H fun x H1 => g x σ H1 D.nx
theorem ps_asg {tg e : Expr} {te : TE} {g : TG} (he : PE X e te) (hg : PG X tg g) (hs : swapsWithSole [tg] e pos.line X.env = pure false := by rfl) (hw : swappedStores [tg] e X.env = pure none := by rfl)
    (h1 : (assignEach [tg] X.env).map (·.2) = [assign tg X.env] := by rfl) : PS X (.Assign [tg] e pos) (tAsg te g) := by
  intro pins s σ H D I h
  refine wpAny_Assign_stores (thn (he pins s σ H _ I h) fun v s1 zq36 => zq36.elim fun x zq37 => zq37.elim fun H1 zq38 => zq38.elim fun I1 zq39 => zq39.elim fun r1 q1 => ?_) hs hw
  rw [h1]
  exact thn (hg pins s1 σ H1 x v _ I1 r1 q1) fun _ s2 q => q
theorem ps_set {i : Nat} {x : Str} {e : Expr} {te : TE} {pos' : Pos} (hN : X.N.Nodup) (hi : X.N[i]? = some x) (hx : Loc X.env.scope x) (he : PE X e te) (hs : swapsWith e (some (.Name x pos')) pos.line X.env = pure false := by rfl) (hf : X.fn x = true ∨ X.env.scope.names.lookup x = some .local := by first | exact .inl rfl | exact .inr rfl | assumption) :
    PS X (.Assign [.Name x pos'] e pos) (tAsg te (gName i)) := by
  intro pins s σ H D I h
  refine wpAny_Assign_Name (thn (he pins s σ H _ I h) fun v s1 zq40 => zq40.elim fun y zq41 => zq41.elim fun H1 zq42 => zq42.elim fun I1 zq43 => zq43.elim fun r1 q1 => ?_) hs
  exact store_ok I1 hN hi hx r1 (fun s2 I2 => ⟨_, H1, I2, q1⟩) hf
end
section
variable {X : Cx} {pos : Pos}
noncomputable def tWhile (c : TT) (tb : TS) : TS := fun D σ H => ∃ W : Nat → St → Hp → Prop, (∃ m, W m σ H) ∧ ∀ m σ H, W m σ H →
  c σ H fun b H1 => if b = true then ∃ N : St → Hp → Prop, (∀ σ' H', N σ' H' → ∃ m', m' < m ∧ W m' σ' H') ∧ tb { D with nx := N, ct := N, bk := D.nx } σ H1 else D.nx σ H1
theorem ps_while {c : Expr} {body : List Stmt} {tc : TT} {tb : TS} (hp : PassesOwn (model X.prog X.w) X.A X.env X.xe) (hc : PT X c tc) (hb : PSs X body tb) : PS X (.While c body [] pos) (tWhile tc tb) := by
  intro pins s σ H D I h
  obtain ⟨W, ⟨m0, w0⟩, turn⟩ := h
  refine wpAny_While (codeAny_whileLoop (fun n s' => ∃ σ' H', Inv X pins σ' H' s' ∧ W n σ' H') ?_ m0 ⟨σ, H, I, w0⟩)
  rintro n s1 ⟨σ1, H1, I1, w1⟩
  refine wpAny_passesOwn hp (thn (hc pins s1 σ1 H1 _ I1 (turn n σ1 H1 w1)) fun b s2 zq44 => zq44.elim fun H2 zq45 => zq45.elim fun I2 q2 => ?_)
  cases b with
  | true =>
    obtain ⟨N, hN, q2⟩ := q2
    rw [if_pos rfl]
    refine wpAny_passesOwn hp (thn (hb pins s2 σ1 H2 _ I2 q2) fun f s3 q3 => ?_)
    cases f with
    | next =>
      obtain ⟨σ3, H3, I3, n3⟩ := q3
      obtain ⟨m', hm, w3⟩ := hN σ3 H3 n3
      exact ⟨m', hm, σ3, H3, I3, w3⟩
    | cont =>
      obtain ⟨σ3, H3, I3, n3⟩ := q3
      obtain ⟨m', hm, w3⟩ := hN σ3 H3 n3
      exact ⟨m', hm, σ3, H3, I3, w3⟩
    | brk => exact q3
    | ret v => exact q3
  | false =>
    rw [if_neg Bool.false_ne_true]
    exact wpAny_execs_nil ⟨σ1, H2, I2, q2⟩
end
structure It where
  go : Nat → Hp → Prop
  yld : Nat → Hp → V → Hp → Prop
  stop : Nat → Hp → Prop
noncomputable def FpOk (X : Cx) (pins : List (Addr × Obj)) (H : Hp) (b : Addr) : Prop :=
  H b = none ∧ b ≠ X.env.locals ∧ b ∉ X.fs ∧ (b ∈ X.ex ∨ X.s₀.heap.objs.size ≤ b) ∧ (∀ x c, X.env.cells.lookup x = some c → c ≠ b) ∧ ∀ p ∈ X.pn ++ pins, p.1 ≠ b
theorem Inv.fpOk {X : Cx} {pins : List (Addr × Obj)} {σ : St} {H H' : Hp} {s : Shared} {b : Addr} (I : Inv X pins σ H s) (hb : s.heap.objs.size ≤ b) (hn : H' b = none) : FpOk X pins H' b := by
  refine ⟨hn, Nat.ne_of_gt (Nat.lt_of_lt_of_le I.lt hb), I.nofs hb, .inr (Nat.le_trans I.sz hb), fun x c e z => ?_, fun p hp z => ?_⟩
  · obtain ⟨v, q⟩ := I.cell x c e
    exact absurd (Nat.lt_of_lt_of_le q.lt (by rw [z]; exact hb)) (Nat.lt_irrefl _)
  · exact absurd (Nat.lt_of_lt_of_le (Heap.lt_size (I.pin p hp).1) (by rw [z]; exact hb)) (Nat.lt_irrefl _)
structure Turn (P : Program) (w : World) (K : PySem.W.Frag) (tg : Expr) (J : It) (fp : List Addr) (it : Addr) (tn : Nat → Heap → Prop) : Prop where
  mem : it ∈ fp
  obj : ∀ i h, tn i h → ∀ b ∈ fp, ∃ o, h.get? b = some o ∧ ∀ v, o.data ≠ .cell v
  keep : ∀ i h h', tn i h → (∀ b ∈ fp, ∀ o, h.get? b = some o → h'.get? b = some o) → tn i h'
  item : ∀ (X : Cx), X.prog = P → X.w = w → X.K = K → X.calm = true → ∀ (i : Nat) (pins : List (Addr × Obj)) (s : Shared) (σ : St) (H : Hp) (E : Value → Shared → Prop), Inv X pins σ H s → (∀ b ∈ fp, FpOk X pins H b) → tn i s.heap → J.go i H →
    wpAny (model P w) X.A (pyNext (.ref it)) (fun r s1 => ∃ u, r = some u ∧
      wpAny (model P w) X.A (letOwnedTupleGo tg (.ref it) u) (fun _ s2 => ∃ x H', Inv X pins σ H' s2 ∧ RelV x u ∧ J.yld i H x H' ∧ tn (i + 1) s2.heap ∧ ∀ b ∈ fp, H' b = none) E s1) E s
  done : ∀ (X : Cx), X.prog = P → X.w = w → X.K = K → X.calm = true → ∀ (i : Nat) (pins : List (Addr × Obj)) (s : Shared) (σ : St) (H : Hp) (E : Value → Shared → Prop), Inv X pins σ H s → (∀ b ∈ fp, FpOk X pins H b) → tn i s.heap → J.stop i H →
    wpAny (model P w) X.A (pyNext (.ref it)) (fun r s1 => r = none ∧ Inv X pins σ H s1) E s
  self : ∀ (A : Around) (i : Nat) (s : Shared) (Q : Value → Shared → Prop) (E : Value → Shared → Prop), tn i s.heap → Q (.ref it) s → wpAny (model P w) A (pyIter (.ref it)) Q E s
noncomputable abbrev TI := St → Hp → (It → Hp → Prop) → Prop
noncomputable def PIE (X : Cx) (pins : List (Addr × Obj)) (σ : St) (tg : Expr) (R : It → Hp → Prop) (itv : Value) (s2 : Shared) : Prop :=
  ∃ (it : Addr) (fp : List Addr) (tn : Nat → Heap → Prop) (J : It) (H' : Hp), itv = .ref it ∧ Inv X pins σ H' s2 ∧ Turn X.prog X.w X.K tg J fp it tn ∧ tn 0 s2.heap ∧ (∀ b ∈ fp, FpOk X pins H' b) ∧ R J H'
noncomputable def PI (X : Cx) (tg iter : Expr) (wi : TI) : Prop :=
  ∀ (pins : List (Addr × Obj)) (s : Shared) (σ : St) (H : Hp) (R : It → Hp → Prop), Inv X pins σ H s → wi σ H R →
    wpAny (model X.prog X.w) X.A (eval iter X.env) (fun v s1 => wpAny (model X.prog X.w) X.A (pyIter v) (PIE X pins σ tg R) X.xe s1) X.xe s
theorem go_of {M : Model} {A : Around} {E : Value → Shared → Prop} {s : Shared} {tg : Expr} {it : Addr} {u : Value} {o : Obj} {n : String} {vs : Array Value} {Q : Unit → Shared → Prop} (ho : s.heap.get? it = some o) (hc : o.cls = .type n) (hd : o.data = .fields vs)
    (hn : ["enumerate", "zip", "dict_itemiterator", "dict_reverseitemiterator", "odict_iterator", "itertools.zip_longest", "itertools.pairwise"].contains n = false) (hQ : Q () s) : wpAny M A (letOwnedTupleGo tg (.ref it) u) Q E s := by
  unfold letOwnedTupleGo
  cases tg <;> first
    | exact wpAny_pure hQ
    | (cases u <;> first
        | exact wpAny_pure hQ
        | (refine wpAny_bind (wpAny_load ho ?_)
           rw [hc, hd]
           show wpAny M A (if (["enumerate", "zip", "dict_itemiterator", "dict_reverseitemiterator", "odict_iterator", "itertools.zip_longest", "itertools.pairwise"].contains n && vs[0]? == some (rawInt _)) = true then _ else _) Q E s
           rw [if_neg (by intro h; rw [hn, Bool.false_and] at h; cases h)]
           exact wpAny_pure hQ))
noncomputable def Itl (K : PySem.W.Frag) (a : Addr) : It :=
  ⟨fun i H => ∃ xs x, SqL K H a xs ∧ xs[i]? = some x, fun i H x H' => H' = H ∧ ∀ xs, SqL K H a xs → xs[i]? = some x, fun i H => ∃ xs, SqL K H a xs ∧ xs.length ≤ i⟩
noncomputable def Itr (lo : Int) (n : Nat) : It := ⟨fun i _ => i < n, fun i H x H' => H' = H ∧ x = .int (lo + i), fun i _ => n ≤ i⟩
theorem turn_list {P : Program} {w : World} {K : PySem.W.Frag} {tg : Expr} (a it : Addr) : Turn P w K tg (Itl K a) [it] it (fun i h => h.IsListIter it a i) where
  mem := by simp
  obj := fun i h st b hb => by
    have e : b = it := by simpa using hb
    subst e
    obtain ⟨o, e, c, d⟩ := st
    exact ⟨o, e, fun v z => by rw [d] at z; cases z⟩
  keep := fun i h h' st k => st.at fun o e => k it (by simp) o e
  item := by
    intro X hP hw hK hc i pins s σ H E I hf st hg
    subst hP hw hK
    obtain ⟨xs, x, hq, hx⟩ := hg
    obtain ⟨its, rv, p, hz⟩ := I.list hq
    obtain ⟨u, hu, ru⟩ := rv.get hx
    obtain ⟨f0, f1, f2, f3, f4, f5⟩ := hf it (by simp)
    refine wpAny_pyNext_list_item st p.isList (x := u) (by simpa using hu) fun h' st' sb => ?_
    have I1 : Inv X pins σ H { s with heap := h' } := I.turned (t' := s.toks) (fun b o hb e => (sb.2 b hb).trans e) f0 f1 f3 f4 f5
    obtain ⟨o, e, c, d⟩ := id st'
    exact ⟨u, rfl, go_of (s := { s with heap := h' }) e c d (by decide) ⟨x, H, I1, ru, ⟨rfl, fun ys hy => by rw [I.list_inj hy hq]; exact hx⟩, st', fun b hb => (hf b hb).1⟩⟩
  done := by
    intro X hP hw hK hc i pins s σ H E I hf st hg
    subst hP hw hK
    obtain ⟨xs, hq, hx⟩ := hg
    obtain ⟨its, rv, p, hz⟩ := I.list hq
    obtain ⟨f0, f1, f2, f3, f4, f5⟩ := hf it (by simp)
    have hl := rv.length
    exact wpAny_pyNext_list_end (I.ok.hd hc) st p.isList (by simp; omega) fun h' eb => ⟨rfl, I.turned (t' := s.toks) (fun b o hb e => eb b o hb e) f0 f1 f3 f4 f5⟩
  self := fun _ _ _ _ _ st h => wpAny_pyIter_listiter st h
theorem turn_range {P : Program} {w : World} {K : PySem.W.Frag} {tg : Expr} (it : Addr) (lo : Int) (n : Nat) : Turn P w K tg (Itr lo n) [it] it (fun i h => IsRangeIter h it (lo + (i : Nat) * 1) ((n : Int) - (i : Nat)) 1) where
  mem := by simp
  obj := fun i h st b hb => by
    have e : b = it := by simpa using hb
    subst e
    exact ⟨_, st, fun v z => by
      have z' : Data.fields _ = Data.cell v := z
      cases z'⟩
  keep := fun i h h' st k => k it (by simp) _ st
  item := by
    intro X hP hw hK hc i pins s σ H E I hf st hg
    subst hP hw hK
    obtain ⟨f0, f1, f2, f3, f4, f5⟩ := hf it (by simp)
    have W := Walks.range (prog := X.prog) (w := X.w) (I.ok.hd hc) it lo 1 n
    refine W.item i s _ _ hg st fun v h' tk hv st' kk => ?_
    obtain ⟨t, rfl⟩ := hv
    have I1 : Inv X pins σ H { s with heap := h', toks := tk } := I.turned (fun b o hb e => kk b o (by simpa using hb) e) f0 f1 f3 f4 f5
    refine ⟨_, rfl, go_of (s := { s with heap := h', toks := tk }) (n := "range_iterator") st' rfl rfl (by decide) ⟨.int (lo + i), H, I1, ⟨t, ?_⟩, ⟨rfl, rfl⟩, st', fun b hb => (hf b hb).1⟩⟩
    rw [Int.mul_one]
  done := by
    intro X hP hw hK hc i pins s σ H E I hf st hg
    subst hP hw hK
    obtain ⟨f0, f1, f2, f3, f4, f5⟩ := hf it (by simp)
    exact wpAny_pyNext_range_end (I.ok.hd hc) st (by have : n ≤ i := hg; omega) fun h' eb => ⟨rfl, I.turned (t' := s.toks) (fun b o hb e => eb b o hb e) f0 f1 f3 f4 f5⟩
  self := fun _ _ _ _ _ st h => wpAny_pyIter_rangeiter st h
end L2
namespace L2
open PySem PySem.Spec PyProof.Rows
section
variable {X : Cx} {tg : Expr}
noncomputable def iList (K : PySem.W.Frag) (tl : TE) : TI := fun σ H R => tl σ H fun x H1 => ∃ a, x = .ref a ∧ (∃ xs, SqL K H1 a xs) ∧ R (Itl K a) H1
theorem pi_list {l : Expr} {tl : TE} (hl : PE X l tl) : PI X tg l (iList X.K tl) := by
  intro pins s σ H R I h
  refine thn (hl pins s σ H _ I h) fun v s1 zq46 => zq46.elim fun x zq47 => zq47.elim fun H1 zq48 => zq48.elim fun I1 zq49 => zq49.elim fun r1 q1 => ?_
  obtain ⟨a, e, ⟨xs, hq⟩, q⟩ := q1
  subst e
  cases r1
  obtain ⟨its, rv, p, hz⟩ := I1.list hq
  refine wpAny_pyIter_list p.isList ?_
  refine ⟨s1.heap.objs.size, [s1.heap.objs.size], _, _, H1, rfl, I1.kept (t' := s1.toks) fun b o e => Heap.get?_push_of_some _ e, turn_list a _, ⟨_, Heap.get?_push_size _ rfl, rfl, rfl⟩, fun b hb => ?_, q⟩
  have e : b = s1.heap.objs.size := by simpa using hb
  subst e
  exact I1.fpOk (Nat.le_refl _) (I1.hok.fresh (Nat.le_refl _))
theorem range_it {pins : List (Addr × Obj)} {σ : St} {H : Hp} {s : Shared} {R : It → Hp → Prop} {E : Value → Shared → Prop} {lo hi : Int} {t u v : Tok} {tk : Nat} (I : Inv X pins σ H s) (h1 : -(2 ^ 62) ≤ lo) (h2 : lo < 2 ^ 62) (h3 : -(2 ^ 62) ≤ hi) (h4 : hi < 2 ^ 62)
    (q : R (Itr lo (hi - lo).toNat) H) : wpAny (model X.prog X.w) X.A (pyIter (.ref s.heap.objs.size)) (PIE X pins σ tg R) E { s with heap := s.heap.push { cls := .type "range", data := .fields #[.int lo t, .int hi u, .int 1 v] }, toks := tk } := by
  refine wpAny_pyIter_range (IsRange.new ..) (small_one h1 h2 h3 h4) ?_
  have I1 : Inv X pins σ H { s with heap := s.heap.push { cls := .type "range", data := .fields #[.int lo t, .int hi u, .int 1 v] }, toks := tk } := I.kept fun b o e => Heap.get?_push_of_some _ e
  refine ⟨(s.heap.push { cls := .type "range", data := .fields #[.int lo t, .int hi u, .int 1 v] }).objs.size, [(s.heap.push { cls := .type "range", data := .fields #[.int lo t, .int hi u, .int 1 v] }).objs.size], _, _, H, rfl,
    I1.kept (t' := tk) fun b o e => Heap.get?_push_of_some _ e, turn_range _ lo (hi - lo).toNat, ?_, fun b hb => ?_, q⟩
  · have e1 : lo + ((0 : Nat) : Int) * 1 = lo := by simp
    have e2 : (((hi - lo).toNat : Nat) : Int) - ((0 : Nat) : Int) = Builtin.Range.rangeSize lo hi 1 := by rw [rangeSize_one]; split <;> omega
    show IsRangeIter _ _ (lo + ((0 : Nat) : Int) * 1) ((((hi - lo).toNat : Nat) : Int) - ((0 : Nat) : Int)) 1
    rw [e1, e2]
    exact Heap.get?_push_size _ rfl
  · have e : b = (s.heap.push { cls := .type "range", data := .fields #[.int lo t, .int hi u, .int 1 v] }).objs.size := by simpa using hb
    subst e
    exact I1.fpOk (Nat.le_refl _) (I1.hok.fresh (Nat.le_refl _))
noncomputable def iRng1 (ta : TA) : TI := fun σ H R => ta σ H fun vs H1 => ∃ j : Int, vs = [.int j] ∧ -(2 ^ 62) ≤ j ∧ j < 2 ^ 62 ∧ R (Itr 0 j.toNat) H1
noncomputable def iRng2 (ta : TA) : TI := fun σ H R => ta σ H fun vs H1 => ∃ i j : Int, vs = [.int i, .int j] ∧ (-(2 ^ 62) ≤ i ∧ i < 2 ^ 62 ∧ -(2 ^ 62) ≤ j ∧ j < 2 ^ 62) ∧ R (Itr i (j - i).toNat) H1
theorem pi_range1 {a : Expr} {ta : TA} {p pos : Pos} (hg : Gl X "range") (hm : X.mg "range" = none) (ha : PA X [a] ta) (hs : starEach [a] X.env = [(false, eval a X.env)] := by rfl) : PI X tg (.Call (.Name "range" p) [a] [] pos) (iRng1 ta) := by
  intro pins s σ H R I h
  refine Call_ (ld_blt I hg hm boot_range (PyProof.Rows.callWith_type1 (thn (ha pos pins s σ H _ I h) fun us s1 zq50 => zq50.elim fun vs zq51 => zq51.elim fun H1 zq52 => zq52.elim fun I1 zq53 => zq53.elim fun r1 q1 => ?_) hs rfl))
  obtain ⟨j, e, q1, q2, q⟩ := q1
  subst e
  cases r1 with
  | cons r rr =>
    cases rr
    obtain ⟨t, rfl⟩ := r
    exact call_range_1 (range_it I1 (by omega) (by omega) q1 q2 (by simpa using q))
theorem pi_range2 {a b : Expr} {ta : TA} {p pos : Pos} (hg : Gl X "range") (hm : X.mg "range" = none) (ha : PA X [a, b] ta) (hs : starEach [a, b] X.env = [(false, eval a X.env), (false, eval b X.env)] := by rfl) (hs2 : starEach [b] X.env = [(false, eval b X.env)] := by rfl) :
    PI X tg (.Call (.Name "range" p) [a, b] [] pos) (iRng2 ta) := by
  intro pins s σ H R I h
  refine Call_ (ld_blt I hg hm boot_range (PyProof.Rows.callWith_type1 (thn (ha pos pins s σ H _ I h) fun us s1 zq54 => zq54.elim fun vs zq55 => zq55.elim fun H1 zq56 => zq56.elim fun I1 zq57 => zq57.elim fun r1 q1 => ?_) (by rw [hs, hs2]) (by rw [hs2]; rfl)))
  obtain ⟨i, j, e, ⟨q1, q2, q3, q4⟩, q⟩ := q1
  subst e
  cases r1 with
  | cons r rr =>
    cases rr with
    | cons r' rr =>
      cases rr
      obtain ⟨t, rfl⟩ := r
      obtain ⟨t', rfl⟩ := r'
      exact call_range_2 (range_it I1 q1 q2 q3 q4 q)
noncomputable def tFor (wi : TI) (g : TG) (tb : TS) : TS := fun D σ H => wi σ H fun J H1 => ∃ W : Nat → Nat → St → Hp → Prop, (∃ m, W 0 m σ H1) ∧ ∀ i m σ H, W i m σ H →
  (J.stop i H ∧ D.nx σ H) ∨ (J.go i H ∧ ∃ N : St → Hp → Prop, (∀ σ' H', N σ' H' → ∃ m', m' < m ∧ W (i + 1) m' σ' H') ∧ ∀ x H', J.yld i H x H' → g x σ H' fun σ2 H2 => tb { D with nx := N, ct := N, bk := D.nx } σ2 H2)
noncomputable def pinsAt (fp : List Addr) (h : Heap) : List (Addr × Obj) := fp.filterMap fun b => (h.get? b).map fun o => (b, o)
theorem mem_pinsAt {fp : List Addr} {h : Heap} {b : Addr} {o : Obj} (hb : b ∈ fp) (e : h.get? b = some o) : (b, o) ∈ pinsAt fp h := List.mem_filterMap.mpr ⟨b, hb, by rw [e]; rfl⟩
theorem of_pinsAt {fp : List Addr} {h : Heap} {p : Addr × Obj} (hp : p ∈ pinsAt fp h) : p.1 ∈ fp ∧ h.get? p.1 = some p.2 := by
  obtain ⟨b, hb, e⟩ := List.mem_filterMap.mp hp
  cases q : h.get? b with
  | none => rw [q] at e; cases e
  | some o =>
    rw [q] at e
    have e' : (b, o) = p := Option.some.inj e
    subst e'
    exact ⟨hb, q⟩
theorem Inv.pinned {pins : List (Addr × Obj)} {σ : St} {H : Hp} {s : Shared} {fp : List Addr} (I : Inv X pins σ H s) (hf : ∀ b ∈ fp, FpOk X pins H b) (ho : ∀ b ∈ fp, ∃ o, s.heap.get? b = some o ∧ ∀ v, o.data ≠ .cell v) : Inv X (pins ++ pinsAt fp s.heap) σ H s :=
  I.pins_of fun p hp => (List.mem_append.mp hp).elim (fun z => I.pin p (List.mem_append_right _ z)) fun z => by
    obtain ⟨hb, e⟩ := of_pinsAt z
    obtain ⟨f0, f1, f2, _⟩ := hf p.1 hb
    obtain ⟨o, e', d⟩ := ho p.1 hb
    rw [e] at e'; cases e'
    exact ⟨e, f0, f1, f2, d⟩
theorem Inv.unpinned {pins pl : List (Addr × Obj)} {σ : St} {H : Hp} {s : Shared} (I : Inv X (pins ++ pl) σ H s) : Inv X pins σ H s := I.pins_of fun p hp => I.pin p (List.mem_append_right _ (List.mem_append_left _ hp))
theorem ps_for {iter : Expr} {body : List Stmt} {wi : TI} {g : TG} {tb : TS} {pos : Pos} (hp : PassesOwn (model X.prog X.w) X.A X.env X.xe) (hc : X.calm = true) (hi : PI X tg iter wi) (hg : PG X tg g) (hb : PSs X body tb)
    (hs : ∀ x, foldedSetIterable iter X.env x = pure x := by intro _; rfl) : PS X (.For tg iter body [] pos) (tFor wi g tb) := by
  intro pins s σ H D I h
  refine wpAny_For (thn (hi pins s σ H _ I h) fun v s1 h1 => thn h1 fun itv s2 h2 => ?_) hs
  obtain ⟨it, fp, tn, J, H2, e, I2, T, st2, f2, W, ⟨m0, w0⟩, turn⟩ := h2
  subst e
  have stat : ∀ {H' : Hp}, (∀ b ∈ fp, H' b = none) → ∀ b ∈ fp, FpOk X pins H' b := fun hn b hb => ⟨hn b hb, (f2 b hb).2⟩
  refine codeAny_forLoop_any (fun n s' => ∃ i σ' H', Inv X pins σ' H' s' ∧ tn i s'.heap ∧ (∀ b ∈ fp, H' b = none) ∧ W i n σ' H') ?_ m0 ⟨0, σ, H2, I2, st2, fun b hb => (f2 b hb).1, w0⟩
  rintro n s3 ⟨i, σ3, H3, I3, st3, fr3, w3⟩
  rcases turn i n σ3 H3 w3 with ⟨stop, qn⟩ | ⟨go, N, hN, step⟩
  · refine wpAny_passesOwn hp (thn (T.done X rfl rfl rfl hc i pins s3 σ3 H3 X.xe I3 (stat fr3) st3 stop) fun r s4 zq58 => zq58.elim fun hr I4 => ?_)
    subst hr
    exact wpAny_execs_nil ⟨σ3, H3, I4, qn⟩
  · refine wpAny_passesOwn hp (thn (T.item X rfl rfl rfl hc i pins s3 σ3 H3 X.xe I3 (stat fr3) st3 go) fun r s4 zq59 => zq59.elim fun u zq60 => zq60.elim fun hr h4 => ?_)
    subst hr
    refine wpAny_passesOwn hp (thn h4 fun _ s5 zq61 => zq61.elim fun x zq62 => zq62.elim fun H5 zq63 => zq63.elim fun I5 zq64 => zq64.elim fun r5 zq65 => zq65.elim fun y5 zq66 => zq66.elim fun st5 fr5 => ?_)
    have I5' := I5.pinned (stat fr5) (T.obj _ _ st5)
    refine wpAny_passesOwn hp (thn (hg _ s5 σ3 H5 x u _ I5' r5 (step x H5 y5)) fun _ s6 zq67 => zq67.elim fun σ6 zq68 => zq68.elim fun H6 zq69 => zq69.elim fun I6 q6 => ?_)
    refine wpAny_passesOwn hp (thn (hb _ s6 σ6 H6 _ I6 q6) fun f s7 q7 => ?_)
    have again : ∀ {σ7 : St} {H7 : Hp}, Inv X (pins ++ pinsAt fp s5.heap) σ7 H7 s7 → N σ7 H7 → ∃ m, m < n ∧ ∃ i σ' H', Inv X pins σ' H' s7 ∧ tn i s7.heap ∧ (∀ b ∈ fp, H' b = none) ∧ W i m σ' H' := fun {σ7 H7} I7 n7 => by
      obtain ⟨m', hm, w7⟩ := hN σ7 H7 n7
      refine ⟨m', hm, i + 1, σ7, H7, I7.unpinned, T.keep _ _ _ st5 fun b hb o e => (I7.pin (b, o) (List.mem_append_right _ (List.mem_append_right _ (mem_pinsAt hb e)))).1, fun b hb => ?_, w7⟩
      obtain ⟨o, e, d⟩ := T.obj _ _ st5 b hb
      exact (I7.pin (b, o) (List.mem_append_right _ (List.mem_append_right _ (mem_pinsAt hb e)))).2.1
    cases f with
    | next => obtain ⟨σ7, H7, I7, n7⟩ := q7; exact again I7 n7
    | cont => obtain ⟨σ7, H7, I7, n7⟩ := q7; exact again I7 n7
    | brk => obtain ⟨σ7, H7, I7, q7⟩ := q7; exact ⟨σ7, H7, I7.unpinned, q7⟩
    | ret v => obtain ⟨x7, σ7, H7, I7, r7, q7⟩ := q7; exact ⟨x7, σ7, H7, I7.unpinned, r7, q7⟩
end
theorem for_list {K : PySem.W.Frag} {a : Addr} {xs : List V} {g : TG} {tb : TS} {D : Ends} {σ : St} {H : Hp} (Pv : Nat → St → Hp → Prop) (h0 : Pv 0 σ H) (hl : ∀ i σ H, i ≤ xs.length → Pv i σ H → SqL K H a xs)
    (hs : ∀ i x σ H, xs[i]? = some x → Pv i σ H → g x σ H fun σ2 H2 => tb { D with nx := Pv (i + 1), ct := Pv (i + 1), bk := D.nx } σ2 H2) (hd : ∀ σ H, Pv xs.length σ H → D.nx σ H) :
    ∃ W : Nat → Nat → St → Hp → Prop, (∃ m, W 0 m σ H) ∧ ∀ i m σ H, W i m σ H →
      ((Itl K a).stop i H ∧ D.nx σ H) ∨ ((Itl K a).go i H ∧ ∃ N : St → Hp → Prop, (∀ σ' H', N σ' H' → ∃ m', m' < m ∧ W (i + 1) m' σ' H') ∧ ∀ x H', (Itl K a).yld i H x H' → g x σ H' fun σ2 H2 => tb { D with nx := N, ct := N, bk := D.nx } σ2 H2) := by
  refine ⟨fun i m σ H => m = xs.length - i ∧ i ≤ xs.length ∧ Pv i σ H, ⟨xs.length, by simp, Nat.zero_le _, h0⟩, ?_⟩
  rintro i m σ H ⟨rfl, hi, p⟩
  have q := hl i σ H hi p
  by_cases hlt : i < xs.length
  · refine .inr ⟨⟨xs, xs[i], q, by simp [hlt]⟩, Pv (i + 1), fun σ' H' p' => ⟨xs.length - (i + 1), by omega, rfl, hlt, p'⟩, fun x H' y => ?_⟩
    obtain ⟨e, y⟩ := y
    subst e
    exact hs i x σ _ (y xs q) p
  · have e : i = xs.length := by omega
    subst e
    exact .inl ⟨⟨xs, q, Nat.le_refl _⟩, hd σ H p⟩
theorem for_range {lo : Int} {n : Nat} {g : TG} {tb : TS} {D : Ends} {σ : St} {H : Hp} (Pv : Nat → St → Hp → Prop) (h0 : Pv 0 σ H)
    (hs : ∀ i σ H, i < n → Pv i σ H → g (.int (lo + i)) σ H fun σ2 H2 => tb { D with nx := Pv (i + 1), ct := Pv (i + 1), bk := D.nx } σ2 H2) (hd : ∀ σ H, Pv n σ H → D.nx σ H) :
    ∃ W : Nat → Nat → St → Hp → Prop, (∃ m, W 0 m σ H) ∧ ∀ i m σ H, W i m σ H →
      ((Itr lo n).stop i H ∧ D.nx σ H) ∨ ((Itr lo n).go i H ∧ ∃ N : St → Hp → Prop, (∀ σ' H', N σ' H' → ∃ m', m' < m ∧ W (i + 1) m' σ' H') ∧ ∀ x H', (Itr lo n).yld i H x H' → g x σ H' fun σ2 H2 => tb { D with nx := N, ct := N, bk := D.nx } σ2 H2) := by
  refine ⟨fun i m σ H => m = n - i ∧ i ≤ n ∧ Pv i σ H, ⟨n, by simp, Nat.zero_le _, h0⟩, ?_⟩
  rintro i m σ H ⟨rfl, hi, p⟩
  by_cases hlt : i < n
  · refine .inr ⟨hlt, Pv (i + 1), fun σ' H' p' => ⟨n - (i + 1), by omega, rfl, hlt, p'⟩, fun x H' y => ?_⟩
    obtain ⟨e, y⟩ := y
    subst e y
    exact hs i σ _ hlt p
  · have e : i = n := by omega
    subst e
    exact .inl ⟨Nat.le_refl _, hd σ H p⟩
end L2
namespace L2
open PySem PySem.Spec PyProof.Rows
noncomputable abbrev R2 := V → V → Hp → VK → Prop
noncomputable def OpR (X : Cx) (f : Value → Value → Sem Value) (r : R2) : Prop :=
  ∀ (pins : List (Addr × Obj)) (s : Shared) (σ : St) (H : Hp) (x y : V) (v u : Value) (Q : VK), Inv X pins σ H s → RelV x v → RelV y u → r x y H Q →
    wpAny (model X.prog X.w) X.A (f v u) (EP X pins σ Q) X.xe s
noncomputable def UnR (X : Cx) (f : Value → Sem Value) (r : V → Hp → VK → Prop) : Prop :=
  ∀ (pins : List (Addr × Obj)) (s : Shared) (σ : St) (H : Hp) (x : V) (v : Value) (Q : VK), Inv X pins σ H s → RelV x v → r x H Q →
    wpAny (model X.prog X.w) X.A (f v) (EP X pins σ Q) X.xe s
noncomputable def CallR (X : Cx) (f : Value) (r : List V → Hp → VK → Prop) : Prop :=
  ∀ (pins : List (Addr × Obj)) (s : Shared) (σ : St) (H : Hp) (xs : List V) (us : List Value) (Q : VK), Inv X pins σ H s → Vals xs us → r xs H Q →
    wpAny (model X.prog X.w) X.A (call f us) (EP X pins σ Q) X.xe s
noncomputable def tOp (r : R2) (ta tb : TE) : TE := fun σ H Q => ta σ H fun x H1 => tb σ H1 fun y H2 => r x y H2 Q
noncomputable def tUn (r : V → Hp → VK → Prop) (ta : TE) : TE := fun σ H Q => ta σ H fun x H1 => r x H1 Q
noncomputable def rI (C : Int → Int → Prop) (g : Int → Int → V) : R2 := fun x y H Q => ∃ i j, x = .int i ∧ y = .int j ∧ C i j ∧ Q (g i j) H
noncomputable def rI0 (g : Int → Int → V) : R2 := fun x y H Q => ∃ i j, x = .int i ∧ y = .int j ∧ Q (g i j) H
noncomputable def rU (g : Int → V) : V → Hp → VK → Prop := fun x H Q => ∃ i, x = .int i ∧ Q (g i) H
section
variable {X : Cx} {a b c : Expr} {ta tb tc : TE} {pos : Pos}
theorem binT (ha : PE X a ta) (hb : PE X b tb) {pins : List (Addr × Obj)} {s : Shared} {σ : St} {H : Hp} {R : V → V → Hp → Prop} (I : Inv X pins σ H s)
    (h : ta σ H fun x H1 => tb σ H1 fun y H2 => R x y H2) {Q : Value → Shared → Prop} {f : Value → Value → Sem Value}
    (hf : ∀ v u s2 x y H2, Inv X pins σ H2 s2 → RelV x v → RelV y u → R x y H2 → wpAny (model X.prog X.w) X.A (f v u) Q X.xe s2) :
    wpAny (model X.prog X.w) X.A (eval a X.env) (fun v s₁ => wpAny (model X.prog X.w) X.A (eval b X.env) (fun u s₂ => wpAny (model X.prog X.w) X.A (f v u) Q X.xe s₂) X.xe s₁) X.xe s := by
  refine thn (ha pins s σ H _ I h) fun v s1 zq70 => zq70.elim fun x zq71 => zq71.elim fun H1 zq72 => zq72.elim fun I1 zq73 => zq73.elim fun r1 q1 => ?_
  refine thn (hb pins s1 σ H1 _ I1 q1) fun u s2 zq74 => zq74.elim fun y zq75 => zq75.elim fun H2 zq76 => zq76.elim fun I2 zq77 => zq77.elim fun r2 q2 => ?_
  exact hf v u s2 x y H2 I2 r1 r2 q2
theorem pe_op {op : Operator} {r : R2} (ho : OpR X (binaryOp op) r) (ha : PE X a ta) (hb : PE X b tb) : PE X (.BinOp a op b pos) (tOp r ta tb) := by
  intro pins s σ H Q I h
  exact wpAny_BinOp (binT ha hb I h fun v u s2 x y H2 I2 rx ry q => ho pins s2 σ H2 x y v u Q I2 rx ry q)
theorem pe_un {op : UnaryOp} {r : V → Hp → VK → Prop} (ho : UnR X (unaryOp op) r) (ha : PE X a ta) : PE X (.UnaryOp op a pos) (tUn r ta) := by
  intro pins s σ H Q I h
  exact UnaryOp_ (thn (ha pins s σ H _ I h) fun v s1 zq78 => zq78.elim fun x zq79 => zq79.elim fun H1 zq80 => zq80.elim fun I1 zq81 => zq81.elim fun r1 q1 => ho pins s1 σ H1 x v Q I1 r1 q1)
theorem opI {f : Value → Value → Sem Value} {C : Int → Int → Prop} {g : Int → Int → Int}
    (rule : ∀ (i j : Int) (t u : Tok) (s : Shared) (Q : Value → Shared → Prop) (E : Value → Shared → Prop), C i j → Q (.int (g i j) s.toks) { s with toks := s.toks + 1 } → wpAny (model X.prog X.w) X.A (f (.int i t) (.int j u)) Q E s) :
    OpR X f (rI C fun i j => .int (g i j)) := by
  intro pins s σ H x y v u Q I rx ry h
  obtain ⟨i, j, rfl, rfl, hc, q⟩ := h
  obtain ⟨t, rfl⟩ := rx
  obtain ⟨t', rfl⟩ := ry
  exact rule i j t t' s _ _ hc ⟨.int (g i j), H, I.tok _, ⟨_, rfl⟩, q⟩
theorem opI0 {f : Value → Value → Sem Value} {g : Int → Int → Int}
    (rule : ∀ (i j : Int) (t u : Tok) (s : Shared) (Q : Value → Shared → Prop) (E : Value → Shared → Prop), Q (.int (g i j) s.toks) { s with toks := s.toks + 1 } → wpAny (model X.prog X.w) X.A (f (.int i t) (.int j u)) Q E s) :
    OpR X f (rI0 fun i j => .int (g i j)) := by
  intro pins s σ H x y v u Q I rx ry h
  obtain ⟨i, j, rfl, rfl, q⟩ := h
  obtain ⟨t, rfl⟩ := rx
  obtain ⟨t', rfl⟩ := ry
  exact rule i j t t' s _ _ ⟨.int (g i j), H, I.tok _, ⟨_, rfl⟩, q⟩
theorem opB0 {f : Value → Value → Sem Value} {g : Int → Int → Bool}
    (rule : ∀ (i j : Int) (t u : Tok) (s : Shared) (Q : Value → Shared → Prop) (E : Value → Shared → Prop), Q (.bool (g i j)) s → wpAny (model X.prog X.w) X.A (f (.int i t) (.int j u)) Q E s) :
    OpR X f (rI0 fun i j => .bl (g i j)) := by
  intro pins s σ H x y v u Q I rx ry h
  obtain ⟨i, j, rfl, rfl, q⟩ := h
  obtain ⟨t, rfl⟩ := rx
  obtain ⟨t', rfl⟩ := ry
  exact rule i j t t' s _ _ ⟨.bl (g i j), H, I, rfl, q⟩
noncomputable def CDiv (i j : Int) : Prop := 0 < j ∧ j < 1073741824
noncomputable def CPow (i j : Int) : Prop := 0 ≤ j ∧ j ≤ 1000000 ∧ i.natAbs < 2 ^ 64
noncomputable def CMul (i j : Int) : Prop := (-(2 ^ 64) < i ∧ i < 2 ^ 64) ∨ (-(2 ^ 64) < j ∧ j < 2 ^ 64)
theorem CMul.ok {i j : Int} (h : CMul i j) : IntMulOk i j := by
  rcases h with ⟨h1, h2⟩ | ⟨h1, h2⟩
  · exact .of_left (intBits_le_64 h1 h2)
  · exact .of_right (intBits_le_64 h1 h2)
theorem op_add : OpR X (binaryOp .Add) (rI0 fun i j => .int (i + j)) := opI0 fun _ _ _ _ _ _ _ q => add_int q
theorem op_sub : OpR X (binaryOp .Sub) (rI0 fun i j => .int (i - j)) := opI0 fun _ _ _ _ _ _ _ q => sub_int q
theorem op_mul : OpR X (binaryOp .Mult) (rI CMul fun i j => .int (i * j)) := opI fun _ _ _ _ _ _ _ hc q => mul_int q hc.ok
theorem op_fdiv : OpR X (binaryOp .FloorDiv) (rI CDiv fun i j => .int (i / j)) := opI fun i j _ _ _ _ _ hc q => by
  have h1 : (0 : Int) < j := hc.1
  have h2 : j < 1073741824 := hc.2
  exact floordiv_int (by omega) (by rw [Int.fdiv_eq_ediv_of_nonneg i (by omega)]; exact q) (.inl (PyProof.noPylong_small (by omega)))
theorem op_mod : OpR X (binaryOp .Mod) (rI (fun _ j => 0 < j) fun i j => .int (i % j)) := opI fun i j _ _ _ _ _ hc q => by
  have h1 : (0 : Int) < j := hc
  exact mod_int' (by omega) (by rw [Int.fmod_eq_emod_of_nonneg i (by omega)]; exact q)
theorem op_pow : OpR X (binaryOp .Pow) (rI CPow fun i j => .int (i ^ j.toNat)) := opI fun _ _ _ _ _ _ _ hc q => pow_int_small hc.1 hc.2.1 hc.2.2 q
theorem unI {f : Value → Sem Value} {g : Int → Int}
    (rule : ∀ (i : Int) (t : Tok) (s : Shared) (Q : Value → Shared → Prop) (E : Value → Shared → Prop), Q (.int (g i) s.toks) { s with toks := s.toks + 1 } → wpAny (model X.prog X.w) X.A (f (.int i t)) Q E s) :
    UnR X f (rU fun i => .int (g i)) := by
  intro pins s σ H x v Q I rx h
  obtain ⟨i, rfl, q⟩ := h
  obtain ⟨t, rfl⟩ := rx
  exact rule i t s _ _ ⟨.int (g i), H, I.tok _, ⟨_, rfl⟩, q⟩
theorem un_neg : UnR X (unaryOp .USub) (rU fun i => .int (-i)) := unI fun _ _ _ _ _ q => neg_int q
end
noncomputable def scal : V → V → Bool
  | .non, .non => true | .non, .int _ => true | .int _, .non => true | .non, .bl _ => true | .bl _, .non => true | .non, .str _ => true | .str _, .non => true
  | .int _, .int _ => true | .bl _, .bl _ => true | .str _, .str _ => true | .byt _, .byt _ => true
  | .int _, .str _ => true | .str _, .int _ => true | .bl _, .str _ => true | .str _, .bl _ => true
  | _, _ => false
noncomputable def rEq : R2 := fun x y H Q => scal x y = true ∧ Q (.bl (decide (x = y))) H
theorem dec_int {i j : Int} : decide (V.int i = V.int j) = (i == j) := by
  rw [Bool.eq_iff_iff]
  simp
theorem dec_bl {i j : Bool} : decide (V.bl i = V.bl j) = (i == j) := by
  rw [Bool.eq_iff_iff]
  simp
theorem dec_str {i j : Str} : decide (V.str i = V.str j) = (i == j) := by
  rw [Bool.eq_iff_iff]
  simp
theorem dec_byt {i j : Array UInt8} : decide (V.byt i = V.byt j) = (i.toList == j.toList) := by
  rw [Bool.eq_iff_iff]
  cases i
  cases j
  simp
section
variable {X : Cx} {a b c : Expr} {ta tb tc : TE} {pos : Pos}
theorem fin_bl {pins : List (Addr × Obj)} {σ : St} {H : Hp} {s : Shared} {Q : VK} {k k' : Bool} (I : Inv X pins σ H s) (q : Q (.bl k) H) (e : k = k') : EP X pins σ Q (.bool k') s := by
  subst e
  exact ⟨.bl k, H, I, rfl, q⟩
theorem op_eq : OpR X (compareOp .Eq) rEq := by
  intro pins s σ H x y v u Q I rx ry h
  obtain ⟨hs, q⟩ := h
  cases x with
  | non =>
    cases rx
    cases y with
    | non => cases ry; exact PySem.EqNone.eq_none_none (fin_bl I q (by simp))
    | bl j => cases ry; exact PySem.EqNone.eq_none_bool (fin_bl I q (by simp))
    | int j => obtain ⟨t', rfl⟩ := ry; exact PySem.EqNone.eq_none_int (fin_bl I q (by simp))
    | str j => obtain ⟨t', rfl⟩ := ry; exact PySem.EqNone.eq_none_str (fin_bl I q (by simp))
    | _ => exact absurd (show false = true from hs) Bool.false_ne_true
  | bl i =>
    cases rx
    cases y with
    | non => cases ry; exact PySem.EqNone.eq_bool_none (fin_bl I q (by simp))
    | bl j => cases ry; exact eq_bool (fin_bl I q dec_bl)
    | str j => obtain ⟨t', rfl⟩ := ry; exact PySem.EqMixed.eq_bool_str (fin_bl I q (by simp))
    | _ => exact absurd (show false = true from hs) Bool.false_ne_true
  | int i =>
    obtain ⟨t, rfl⟩ := rx
    cases y with
    | non => cases ry; exact PySem.EqNone.eq_int_none (fin_bl I q (by simp))
    | int j => obtain ⟨t', rfl⟩ := ry; exact eq_int (fin_bl I q dec_int)
    | str j => obtain ⟨t', rfl⟩ := ry; exact PySem.EqMixed.eq_int_str (fin_bl I q (by simp))
    | _ => exact absurd (show false = true from hs) Bool.false_ne_true
  | str i =>
    obtain ⟨t, rfl⟩ := rx
    cases y with
    | non => cases ry; exact PySem.EqNone.eq_str_none (fin_bl I q (by simp))
    | bl j => cases ry; exact PySem.EqMixed.eq_str_bool (fin_bl I q (by simp))
    | int j => obtain ⟨t', rfl⟩ := ry; exact PySem.EqMixed.eq_str_int (fin_bl I q (by simp))
    | str j => obtain ⟨t', rfl⟩ := ry; exact eq_str (fin_bl I q dec_str)
    | _ => exact absurd (show false = true from hs) Bool.false_ne_true
  | byt i =>
    obtain ⟨t, rfl⟩ := rx
    cases y with
    | byt j => obtain ⟨t', rfl⟩ := ry; exact PySem.W.eq_bytes (fin_bl I q dec_byt)
    | _ => exact absurd (show false = true from hs) Bool.false_ne_true
  | _ => cases y <;> exact absurd (show false = true from hs) Bool.false_ne_true
theorem op_lt : OpR X (compareOp .Lt) (rI0 fun i j => .bl (decide (i < j))) := opB0 fun _ _ _ _ _ _ _ q => lt_int q
theorem op_le : OpR X (compareOp .LtE) (rI0 fun i j => .bl (decide (i ≤ j))) := opB0 fun _ _ _ _ _ _ _ q => le_int q
theorem op_gt : OpR X (compareOp .Gt) (rI0 fun i j => .bl (decide (j < i))) := opB0 fun _ _ _ _ _ _ _ q => gt_int q
theorem op_notN : OpR X (compareOp .IsNot) (fun x y H Q => y = .non ∧ Q (.bl (!decide (x = .non))) H) := by
  intro pins s σ H x y v u Q I rx ry h
  obtain ⟨rfl, q⟩ := h
  cases ry
  refine isnot_none_gen (fin_bl I q ?_)
  cases x <;> first
    | (cases rx; rfl)
    | (obtain ⟨t, rfl⟩ := rx; rfl)
theorem nomark (b : Expr) {op : CmpOp} (h : op ≠ .In := by decide) (h2 : op ≠ .NotIn := by decide) : behindInMarks op b = false := by
  have e1 : (op == CmpOp.In) = false := by cases op <;> first | rfl | exact absurd rfl h
  have e2 : (op == CmpOp.NotIn) = false := by cases op <;> first | rfl | exact absurd rfl h2
  cases b <;> simp [behindInMarks, e1, e2]
theorem pe_cmpR {op : CmpOp} {r : R2} (ho : OpR X (compareOp op) r) (ha : PE X a ta) (hb : PE X b tb) (hm : behindInMarks op b = false) : PE X (.Compare a [op] [b] pos) (tOp r ta tb) := by
  intro pins s σ H Q I h
  exact wpAny_Compare1 (binT ha hb I h fun v u s2 x y H2 I2 rx ry q => ho pins s2 σ H2 x y v u Q I2 rx ry q) hm
noncomputable def tTest (t : TE) : TT := fun σ H Q => t σ H fun x H' => ∃ k, x = .bl k ∧ Q k H'
theorem pt_cmpR {op : CmpOp} {r : R2} (ho : OpR X (compareOp op) r) (ha : PE X a ta) (hb : PE X b tb) (hm : behindInMarks op b = false) : PT X (.Compare a [op] [b] pos) (tTest (tOp r ta tb)) := by
  intro pins s σ H Q I h
  refine wpAny_isTrue_Compare1 (thn (ha pins s σ H _ I h) fun v s1 zq82 => zq82.elim fun x zq83 => zq83.elim fun H1 zq84 => zq84.elim fun I1 zq85 => zq85.elim fun r1 q1 => thn (hb pins s1 σ H1 _ I1 q1) fun u s2 zq86 => zq86.elim fun y zq87 => zq87.elim fun H2 zq88 => zq88.elim fun I2 zq89 => zq89.elim fun r2 q2 => 
    thn (ho pins s2 σ H2 x y v u _ I2 r1 r2 q2) fun c s3 zq90 => zq90.elim fun z zq91 => zq91.elim fun H3 zq92 => zq92.elim fun I3 zq93 => zq93.elim fun r3 zq94 => zq94.elim fun k zq95 => zq95.elim fun e q3 => ?_) hm
  subst e
  cases r3
  exact wpAny_truthy_bool ⟨H3, I3, q3⟩
theorem line63 : (sizeLine : Nat) < 2 ^ 63 := by rw [sizeLine_eq]; decide
theorem op_add_str : OpR X (binaryOp .Add) (fun x y H Q => ∃ i j, x = .str i ∧ y = .str j ∧ i.length + j.length ≤ sizeLine ∧ Q (.str (i ++ j)) H) := by
  intro pins s σ H x y v u Q I rx ry h
  obtain ⟨i, j, rfl, rfl, hz, q⟩ := h
  obtain ⟨t, rfl⟩ := rx
  obtain ⟨t', rfl⟩ := ry
  exact add_str (fun t' tk => ⟨.str (i ++ j), H, I.tok _, ⟨_, rfl⟩, q⟩) hz
theorem vals1 {x : V} {us : List Value} (r : Vals [x] us) : ∃ u, us = [u] ∧ RelV x u := by
  cases r with
  | cons r1 r2 => cases r2; exact ⟨_, rfl, r1⟩
theorem vals2 {x y : V} {us : List Value} (r : Vals [x, y] us) : ∃ u w', us = [u, w'] ∧ RelV x u ∧ RelV y w' := by
  cases r with
  | cons r1 r2 =>
    cases r2 with
    | cons r3 r4 => cases r4; exact ⟨_, _, rfl, r1, r3⟩
theorem call_min2 (hc : X.calm = true) : CallR X (.builtin "min") (fun xs H Q => ∃ i j, xs = [.int i, .int j] ∧ Q (.int (if j < i then j else i)) H) := by
  intro pins s σ H xs us Q I r h
  obtain ⟨i, j, rfl, q⟩ := h
  obtain ⟨u, w', rfl, ⟨t, rfl⟩, ⟨t', rfl⟩⟩ := vals2 r
  refine min_two_ints (I.ok.hd hc) fun h' tk k => ⟨_, H, I.kept k, ?_, q⟩
  by_cases hj : j < i
  · rw [if_pos hj, if_pos hj]; exact ⟨_, rfl⟩
  · rw [if_neg hj, if_neg hj]; exact ⟨_, rfl⟩
end
end L2
namespace L2
open PySem PySem.Spec PyProof.Rows
structure ObjM (h : Heap) (x dx C : Addr) (mA : Str → Option Value) : Prop where
  obj : h.get? x = some (PySem.W.instObj C dx)
  ns : h.Ns1 dx mA
  ne : dx ≠ x
theorem lookIn_ns {h : Heap} {dx : Addr} {mA : Str → Option Value} (n : h.Ns1 dx mA) : ∃ od, h.get? dx = some od ∧ ∀ name, PySem.W.lookIn name od = some (mA name) := by
  obtain ⟨o, es, ep, ho, hd, hk, _, hm⟩ := n
  refine ⟨o, ho, fun name => ?_⟩
  have e := hm name
  unfold nsFind findBy at e
  rw [← Array.find?_toList] at e
  unfold PySem.W.lookIn
  rw [hd]
  dsimp only
  split
  · rename_i y q
    rw [q] at e
    exact congrArg some e
  · rename_i q
    rw [q] at e
    have a : es.toList.any (·.refKey) = false := by
      rw [List.any_eq_false]
      intro y hy
      obtain ⟨z, t, hkey⟩ := hk y (Array.mem_toList_iff.mp hy)
      simp [DictEntry.refKey, hkey]
    have a' : ¬ es.toList.any (·.refKey) = true := by rw [a]; exact Bool.false_ne_true
    rw [if_neg a']
    exact congrArg some e
theorem ObjM.look {h : Heap} {x dx C : Addr} {mA : Str → Option Value} (I : ObjM h x dx C mA) : ∃ od, PySem.W.InstAt h x (PySem.W.instObj C dx) C (some od) ∧ ∀ name, PySem.W.lookIn name od = some (mA name) :=
  (lookIn_ns I.ns).elim fun od zq433 => zq433.elim fun ho hl => ⟨od, ⟨I.obj, rfl, rfl, ho⟩, hl⟩
section
variable {prog : Program} {w : World} {A : Around} {E : Value → Shared → Prop} {s : Shared} {K : PySem.W.Frag} {x dx C f : Addr} {mA : Str → Option Value} {name : Str} {v : Value}
theorem get_map {expr : Bool} {Q : Value → Shared → Prop} (X : K.In s.heap) (I : ObjM s.heap x dx C mA) (hg : PySem.W.plainGet K C name = true) (hh : PySem.W.hasDictIn K C = true)
    (ha : PySem.W.findIn K (.ref C) name = some none) (hv : mA name = some v) (hv' : PySem.W.handedIn v = true) (h : Q v { s with toks := s.toks + 1 }) :
    wpAny (model prog w) A (getAttr (.ref x) name expr) Q E s := by
  obtain ⟨od, J, hl⟩ := I.look
  exact PySem.W.get_value X J (PySem.W.plainGet_of hg).1 (PySem.W.findObj_own hh ha rfl (by rw [hl, hv])) hv' h
theorem get_meth {pl : Sem Bool} {Q : Value × List Value → Shared → Prop} (X : K.In s.heap) (I : ObjM s.heap x dx C mA) (hg : PySem.W.plainGet K C name = true)
    (hf : PySem.W.findIn K (.ref C) name = some (some (.ref f))) (ht : PySem.W.isFn K (.ref f) = true) (hv : mA name = none) (h : Q (.ref f, [.ref x]) s) :
    wpAny (model prog w) A (getMethod (.ref x) name pl) Q E s := by
  obtain ⟨od, J, hl⟩ := I.look
  exact PySem.W.method_fn X J (PySem.W.plainGet_of hg).1 (PySem.W.plainGet_of hg).2 hf (beq_iff_eq.mp ht) (by show (PySem.W.lookIn name od).map (·.isSome) = some false; rw [hl, hv]; rfl) h
theorem set_map {ns : List Str} {Q : Unit → Shared → Prop} (X : K.In s.heap) (I : ObjM s.heap x dx C mA)
    (hs : PySem.W.findIn K (.ref C) "__setattr__" = some (some (.builtin "object.__setattr__"))) (hp : PySem.W.plainOver K C = true) (ht : PySem.W.takerIn K C name = some none) (hh : PySem.W.hasDictIn K C = true)
    (hw : PySem.Within mA ns) (hsz : ns.length ≤ sizeLine)
    (h : ∀ h', ObjM h' x dx C (fun y => if y = name then some v else mA y) → Heap.SameBut dx s.heap h' → Q () { s with heap := h', toks := s.toks + 2 }) :
    wpAny (model prog w) A (setAttr (.ref x) name v) Q E s := by
  obtain ⟨od, J, hl⟩ := I.look
  refine PySem.W.set_plain X J hs (PySem.W.osa_open (s := { s with toks := s.toks + 1 }) (r := none) X J hp ht fun b => ?_)
  obtain ⟨cd, hc, hd'⟩ := PySem.W.any_some hh
  have hx : s.heap.get? x = some ⟨.ref C, some dx, .plain, #[]⟩ := I.obj
  refine wpAny_bind (wpAny_pure (wpAny_bind (wpAny_bind (wpAny_loadPart hx (wpAny_bind (PySem.W.Looks.here (s := { s with toks := s.toks + 1 }) (PySem.W.looks_clsIn X hc) ?_))))))
  rw [hd']
  refine wpAny_pure (a := some dx) (wpAny_bind (wpAny_pure (wpAny_bind ?_)))
  refine wpAny_nsSet1 (s := { s with toks := s.toks + 1 }) I.ns fun h' hn2 hs2 => ?_
  obtain ⟨oD, esD, epD, hoD, hdD, hcD⟩ := hn2.count (PySem.Within.cons name v hw)
  refine wpAny_bind (wpAny_lookBehind hoD (by rw [hdD]; exact pastItsLine_dict (Nat.le_trans hcD (by rw [List.length_cons]; omega))) ?_)
  exact wpAny_pure (h _ ⟨(hs2.2 _ (Ne.symm I.ne)).trans I.obj, hn2, I.ne⟩ hs2)
theorem make_map {R : Result → Shared → Prop} {vs : List Value} {kw : List (Str × Value)} (X : K.In s.heap) (hm : PySem.W.makesIn K C = true)
    (hi : PySem.W.findIn K (.ref C) "__init__" = some (some (.ref f))) (hf : PySem.W.typeIn K (.ref f) = some (.type "function"))
    (h : codeAny (model prog w) (A.under (.builtin "type.__call__" ⟨.ref C :: vs, kw⟩)) (.call (.ref f) ⟨.ref (s.heap.objs.size + 1) :: vs, kw⟩) (PySem.W.InitBack (s.heap.objs.size + 1) R)
      { s with heap := (s.heap.push PySem.W.emptyDict).push (PySem.W.instObj C s.heap.objs.size) }) :
    codeAny (model prog w) A (.call (.ref C) ⟨vs, kw⟩) R s := by
  obtain ⟨hh, g, d, t, os⟩ := s
  exact PySem.W.make_core (PySem.W.makes_of X hm) (PySem.W.looks_findIn X hi) (fun self => PySem.W.bind_fn X self hf) (.inl rfl) h
end
noncomputable def putF (f : Str) (v : V) : List (Str × V) → List (Str × V)
  | [] => [(f, v)]
  | (g, x) :: r => if g = f then (g, v) :: r else (g, x) :: putF f v r
theorem lookup_putF (f g : Str) (v : V) : ∀ fs : List (Str × V), (putF f v fs).lookup g = if g = f then some v else fs.lookup g
  | [] => by
    show List.lookup g [(f, v)] = _
    by_cases h : g = f
    · have hb : (g == f) = true := beq_iff_eq.mpr h
      simp only [List.lookup, hb, if_pos h]
    · have hb : (g == f) = false := beq_eq_false_iff_ne.mpr h
      simp only [List.lookup, hb, if_neg h]
  | (k, x) :: r => by
    have ih := lookup_putF f g v r
    rw [show putF f v ((k, x) :: r) = (if k = f then (k, v) :: r else (k, x) :: putF f v r) from rfl]
    by_cases hk : k = f
    · rw [if_pos hk]
      by_cases h : g = k
      · have hb : (g == k) = true := beq_iff_eq.mpr h
        simp only [List.lookup, hb, if_pos (h.trans hk)]
      · have hb : (g == k) = false := beq_eq_false_iff_ne.mpr h
        simp only [List.lookup, hb, if_neg (fun e : g = f => h (e.trans hk.symm))]
    · rw [if_neg hk]
      by_cases h : g = k
      · have hb : (g == k) = true := beq_iff_eq.mpr h
        simp only [List.lookup, hb, if_neg (fun e : g = f => hk (h.symm.trans e))]
      · have hb : (g == k) = false := beq_eq_false_iff_ne.mpr h
        simp only [List.lookup, hb]
        exact ih
theorem keys_putF (f : Str) (v : V) : ∀ fs : List (Str × V), f ∈ (putF f v fs).map (·.1) ∧ ∀ g, g ∈ fs.map (·.1) → g ∈ (putF f v fs).map (·.1)
  | [] => ⟨by simp [putF], fun g h => by simp at h⟩
  | (k, x) :: r => by
    obtain ⟨i1, i2⟩ := keys_putF f v r
    rw [show putF f v ((k, x) :: r) = (if k = f then (k, v) :: r else (k, x) :: putF f v r) from rfl]
    by_cases hk : k = f
    · rw [if_pos hk]
      subst hk
      exact ⟨by simp, fun g h => by simpa using h⟩
    · rw [if_neg hk]
      refine ⟨?_, fun g h => ?_⟩
      · rw [List.map_cons]
        exact List.mem_cons_of_mem _ i1
      · rw [List.map_cons] at h ⊢
        rcases List.mem_cons.mp h with e | e
        · exact List.mem_cons.mpr (.inl e)
        · exact List.mem_cons_of_mem _ (i2 g e)
theorem length_putF (f : Str) (v : V) : ∀ fs : List (Str × V), (putF f v fs).length ≤ fs.length + 1
  | [] => by simp [putF]
  | (k, x) :: r => by
    have ih := length_putF f v r
    rw [show putF f v ((k, x) :: r) = (if k = f then (k, v) :: r else (k, x) :: putF f v r) from rfl]
    by_cases hk : k = f
    · rw [if_pos hk, List.length_cons, List.length_cons]; omega
    · rw [if_neg hk, List.length_cons, List.length_cons]; omega
theorem RelO.some_of {v : V} {o : Option Value} (r : RelO (some v) o) : ∃ u, o = some u ∧ RelV v u := by
  cases o with
  | none => exact (show False from r).elim
  | some u => exact ⟨u, rfl, r⟩
theorem RelO.none_of {o : Option Value} (r : RelO none o) : o = none := by
  cases o with
  | none => rfl
  | some u => exact (show False from r).elim
theorem handed_of {v : V} {u : Value} (r : RelV v u) : PySem.W.handedIn u = true := by
  cases v with
  | non => cases (show u = Value.none from r); rfl
  | bl b => cases (show u = Value.bool b from r); rfl
  | int i => obtain ⟨t, e⟩ := (show ∃ t, u = Value.int i t from r); cases e; rfl
  | str x => obtain ⟨t, e⟩ := (show ∃ t, u = Value.str x t from r); cases e; rfl
  | byt b => obtain ⟨t, e⟩ := (show ∃ t, u = Value.bytes b t from r); cases e; rfl
  | flt b => obtain ⟨t, e⟩ := (show ∃ t, u = Value.float b t from r); cases e; rfl
  | ref a => cases (show u = Value.ref a from r); rfl
  | ty n => cases (show u = Value.type n from r); rfl
section
variable {P : Program} {w : World} {H H' : Hp} {h h' : Heap} {a C dx : Addr} {fs fs' : List (Str × V)}
theorem ins_get (hok : HOk P w H h) (e : H a = some (.ins C dx fs)) : ∃ mA, ObjM h a dx C mA ∧ (∀ f, RelO (fs.lookup f) (mA f)) ∧ PySem.Within mA (fs.map (·.1)) ∧ fs.length ≤ 1000 ∧ H dx = some (.own a) := by
  obtain ⟨d, z, ne, ob, mA, n, r, q⟩ := (show ObjOk P w H h a (.ins C dx fs) from hok a _ e)
  exact ⟨mA, ⟨ob, n, ne⟩, r, q, z, d⟩
end
structure Cls (K : PySem.W.Frag) (C : Addr) : Prop where
  pg : PySem.W.plainGet K C Str.empty = true
  hd : PySem.W.hasDictIn K C = true
  po : PySem.W.plainOver K C = true
  sa : PySem.W.findIn K (.ref C) "__setattr__" = some (some (.builtin "object.__setattr__"))
theorem Cls.get {K : PySem.W.Frag} {C : Addr} (c : Cls K C) (f : Str) : PySem.W.plainGet K C f = true := c.pg
noncomputable def NoAttr (K : PySem.W.Frag) (C : Addr) (f : Str) : Prop := PySem.W.findIn K (.ref C) f = some none
theorem NoAttr.taker {K : PySem.W.Frag} {C : Addr} {f : Str} (n : NoAttr K C f) : PySem.W.takerIn K C f = some none := by
  unfold PySem.W.takerIn
  rw [show PySem.W.findIn K (.ref C) f = some none from n]
  rfl
structure Meth (K : PySem.W.Frag) (C : Addr) (m : Str) (f : Addr) : Prop where
  at_ : PySem.W.findIn K (.ref C) m = some (some (.ref f))
  fn : PySem.W.isFn K (.ref f) = true
  kp : PySem.W.keepIn K (.ref f) = true
section
variable {X : Cx} {pins : List (Addr × Obj)} {σ : St} {H : Hp} {s : Shared} {a C dx : Addr} {fs : List (Str × V)} {f : Str} {v : V} {A : Around} {E : Value → Shared → Prop}
theorem getattr_ok {b : Bool} {Q : Value → Shared → Prop} (I : Inv X pins σ H s) (e : H a = some (.ins C dx fs)) (c : Cls X.K C) (n : NoAttr X.K C f) (l : fs.lookup f = some v)
    (h : ∀ u s', Inv X pins σ H s' → RelV v u → Q u s') : wpAny (model X.prog X.w) A (getAttr (.ref a) f b) Q E s := by
  obtain ⟨mA, O, r, _, _, _⟩ := ins_get I.hok e
  obtain ⟨u, hu, ru⟩ := RelO.some_of (v := v) (o := mA f) (by rw [← l]; exact r f)
  exact get_map I.kIn O (c.get f) c.hd n hu (handed_of ru) (h u _ (I.tok _) ru)
theorem getmeth_ok {m : Str} {g : Addr} {pl : Sem Bool} {Q : Value × List Value → Shared → Prop} (I : Inv X pins σ H s) (e : H a = some (.ins C dx fs)) (c : Cls X.K C) (k : Meth X.K C m g) (l : fs.lookup m = none)
    (h : Q (.ref g, [.ref a]) s) : wpAny (model X.prog X.w) A (getMethod (.ref a) m pl) Q E s := by
  obtain ⟨mA, O, r, _, _, _⟩ := ins_get I.hok e
  have hn : mA m = none := RelO.none_of (by rw [← l]; exact r m)
  exact get_meth I.kIn O (c.get m) k.at_ k.fn hn h
theorem setattr_ok {y : V} {u : Value} {Q : Unit → Shared → Prop} (I : Inv X pins σ H s) (e : H a = some (.ins C dx fs)) (c : Cls X.K C) (n : NoAttr X.K C f) (hl : fs.length < 1000) (ry : RelV y u)
    (h : ∀ s', Inv X pins σ (upd H a (.ins C dx (putF f y fs))) s' → Q () s') : wpAny (model X.prog X.w) A (setAttr (.ref a) f u) Q E s := by
  obtain ⟨mA, O, r, wi, _, ho⟩ := ins_get I.hok e
  have hz : (fs.map (·.1)).length ≤ sizeLine := by rw [List.length_map, sizeLine_eq]; omega
  refine set_map I.kIn O c.sa c.po n.taker c.hd wi hz fun h' O' sb => h _ ?_
  have hd : ∃ o, h'.get? dx = some o := O'.ns.elim fun o zq434 => zq434.elim fun _ zq435 => zq435.elim fun _ zq436 => zq436.elim fun e' _ => ⟨o, e'⟩
  refine I.write (x := a) (e := dx) (by rw [e]; exact True.intro) (.inr ho) (fun b q hb z => (sb.2 b hb).trans z) hd ?_
  refine ⟨by rw [upd_ne O.ne]; exact ho, ?_, O.ne, O'.obj, _, O'.ns, fun g => ?_, fun g hg => ?_⟩
  · have := length_putF f y fs; omega
  · show RelO ((putF f y fs).lookup g) (if g = f then some u else mA g)
    rw [lookup_putF]
    by_cases q : g = f
    · rw [if_pos q, if_pos q]; exact ry
    · rw [if_neg q, if_neg q]; exact r g
  · by_cases q : g = f
    · rw [q]; exact (keys_putF f y fs).1
    · refine (keys_putF f y fs).2 g (wi g fun z => hg ?_)
      show (if g = f then some u else mA g) = none
      rw [if_neg q]; exact z
theorem Inv.made (I : Inv X pins σ H s) : Inv X pins σ (upd (upd H s.heap.objs.size (.own (s.heap.objs.size + 1))) (s.heap.objs.size + 1) (.ins C s.heap.objs.size []))
    { s with heap := (s.heap.push PySem.W.emptyDict).push (PySem.W.instObj C s.heap.objs.size) } := by
  have e1 : (s.heap.push PySem.W.emptyDict).get? s.heap.objs.size = some PySem.W.emptyDict := Heap.get?_push_size s.heap rfl
  have e2 : ((s.heap.push PySem.W.emptyDict).push (PySem.W.instObj C s.heap.objs.size)).get? (s.heap.objs.size + 1) = some (PySem.W.instObj C s.heap.objs.size) := by
    have := Heap.get?_push_size (s.heap.push PySem.W.emptyDict) (o := PySem.W.instObj C s.heap.objs.size) rfl
    rwa [Heap.size_push] at this
  have e3 : (s.heap.push PySem.W.emptyDict).Ns s.heap.objs.size (fun _ => none) := ⟨PySem.W.emptyDict, #[], _, e1, rfl, (fun e he => absurd he (by simp)), fun _ => rfl⟩
  have I1 := I.laid (a := s.heap.objs.size) (o := .own (s.heap.objs.size + 1)) (h' := s.heap.push PySem.W.emptyDict) (t' := s.toks) (fun b u q => Heap.get?_push_of_some _ q) (Nat.le_refl _) ⟨_, e1⟩
  refine I1.laid (a := s.heap.objs.size + 1) (o := .ins C s.heap.objs.size []) (t' := s.toks) (fun b u q => Heap.get?_push_of_some _ q) (Nat.le_of_eq (Heap.size_push _ _)) ?_
  have ne : s.heap.objs.size ≠ s.heap.objs.size + 1 := Nat.ne_of_lt (Nat.lt_succ_self _)
  refine ⟨by rw [upd_ne ne, upd_same], Nat.zero_le _, ne, e2, fun _ => none, (Heap.Ns1.of_empty e3).at fun o q => Heap.get?_push_of_some _ q, fun _ => True.intro, fun y hy => absurd rfl hy⟩
theorem attr_of {prog : Program} {w : World} {env : Env} {e : Expr} {f : Str} {pos : Pos} {s : Shared} {Q : Value → Shared → Prop} (hb : attributeBase e f env (eval e env) = eval e env)
    (h : wpAny (model prog w) A (eval e env) (fun o s₁ => wpAny (model prog w) A (getAttr o f true) Q E s₁) E s) : wpAny (model prog w) A (eval (.Attribute e f pos) env) Q E s :=
  Attribute_any_ h (by rw [arm_eval_Attribute, hb])
end
noncomputable def tFld (K : PySem.W.Frag) (ta : TE) (f : Str) : TE := fun σ H Q => ta σ H fun x H1 => ∃ a C dx fs v, x = .ref a ∧ H1 a = some (.ins C dx fs) ∧ Cls K C ∧ NoAttr K C f ∧ fs.lookup f = some v ∧ Q v H1
noncomputable def sFld (K : PySem.W.Frag) (ta tv : TE) (f : Str) : TS := fun D σ H => tv σ H fun y H1 => ta σ H1 fun x H2 => ∃ a C dx fs, x = .ref a ∧ H2 a = some (.ins C dx fs) ∧ Cls K C ∧ NoAttr K C f ∧ fs.length < 1000 ∧
  D.nx σ (upd H2 a (.ins C dx (putF f y fs)))
section
variable {X : Cx} {o e value : Expr} {f : Str} {pos pos' tpos : Pos} {ta tv : TE}
theorem pe_fld (he : PE X e ta) (hb : attributeBase e f X.env (eval e X.env) = eval e X.env) : PE X (.Attribute e f pos) (tFld X.K ta f) := by
  intro pins s σ H Q I h
  refine attr_of hb (thn (he pins s σ H _ I h) fun u s1 zq96 => zq96.elim fun x zq97 => zq97.elim fun H1 zq98 => zq98.elim fun I1 zq99 => zq99.elim fun rx zq100 => zq100.elim fun a zq101 => zq101.elim fun C zq102 => zq102.elim fun dx zq103 => zq103.elim fun fs zq104 => zq104.elim fun v zq105 => zq105.elim fun ex zq106 => zq106.elim fun ea zq107 => zq107.elim fun c zq108 => zq108.elim fun n zq109 => zq109.elim fun l q => ?_)
  subst ex
  obtain rfl : u = Value.ref a := rx
  exact getattr_ok I1 ea c n l fun u' s2 I2 ru => ⟨v, H1, I2, ru, q⟩
theorem ps_fld (ha : PE X o ta) (hv : PE X value tv) (hs : swapsWith value (some (.Attribute o f pos')) pos.line X.env = pure false) : PS X (.Assign [.Attribute o f pos'] value pos) (sFld X.K ta tv f) := by
  intro pins s σ H D I h
  refine plainObj_wpAny_Assign_Attribute (thn (hv pins s σ H _ I h) fun u s1 zq110 => zq110.elim fun y zq111 => zq111.elim fun H1 zq112 => zq112.elim fun I1 zq113 => zq113.elim fun ry q => thn (ha pins s1 σ H1 _ I1 q) fun ov s2 zq114 => zq114.elim fun x zq115 => zq115.elim fun H2 zq116 => zq116.elim fun I2 zq117 => zq117.elim fun rx zq118 => zq118.elim fun a zq119 => zq119.elim fun C zq120 => zq120.elim fun dx zq121 => zq121.elim fun fs zq122 => zq122.elim fun ex zq123 => zq123.elim fun ea zq124 => zq124.elim fun c zq125 => zq125.elim fun n zq126 => zq126.elim fun l q2 => ?_) hs
  subst ex
  obtain rfl : ov = Value.ref a := rx
  exact setattr_ok I2 ea c n l ry fun s3 I3 => ⟨σ, _, I3, q2⟩
end
section
variable {X : Cx} {pins : List (Addr × Obj)} {σ : St} {H : Hp} {s : Shared} {A : Around} {E : Value → Shared → Prop} {Q : Value → Shared → Prop} {c : Value} {b : Bool}
inductive TyOf (K : PySem.W.Frag) (H : Hp) : V → Value → Prop where
  | non : TyOf K H .non (.type "NoneType")
  | bl (x : Bool) : TyOf K H (.bl x) (.type "bool")
  | int (i : Int) : TyOf K H (.int i) (.type "int")
  | str (x : Str) : TyOf K H (.str x) (.type "str")
  | flt (x : UInt64) : TyOf K H (.flt x) (.type "float")
  | lst {a : Addr} {xs : List V} (e : H a = some (.lst xs)) : TyOf K H (.ref a) (.type "list")
  | frz {a : Addr} {o : Obj} {xs : List V} (e : H a = some (.frz o (.lst xs))) : TyOf K H (.ref a) (.type "list")
  | tup {a : Addr} {xs : List V} (e : H a = some (.tup xs)) : TyOf K H (.ref a) (.type "tuple")
  | dK {a : Addr} {kvs : List (Key × V)} (e : H a = some (.dK kvs)) : TyOf K H (.ref a) (.type "dict")
  | dT {a : Addr} {kvs : List (List NI × V)} (e : H a = some (.dT kvs)) : TyOf K H (.ref a) (.type "dict")
  | ins {a C dx : Addr} {fs : List (Str × V)} (e : H a = some (.ins C dx fs)) (cl : Cls K C) (ha : PySem.W.findIn K (.ref C) "__class__" = some (some (.builtin "object.__class__")))
      (hn : PySem.W.specialIn K (.builtin "object.__class__") "__get__" = some (some (.builtin "getset_descriptor.__get__"))) (htk : PySem.W.takesIn K (.builtin "object.__class__") = some true)
      (hm : PySem.W.mroIn K C (.type "object") = some true) : TyOf K H (.ref a) (.ref C)
theorem isinst_ok {x : V} {u t : Value} (I : Inv X pins σ H s) (rx : RelV x u) (ty : TyOf X.K H x t) (e : PySem.W.kitOne X.K t c = some b) (h : ∀ tk, Q (.bool b) { s with toks := tk }) :
    wpAny (model X.prog X.w) A (call (.builtin "isinstance") [u, c]) Q E s := by
  cases ty with
  | non => cases (show u = Value.none from rx); exact PySem.W.kia_one PySem.W.kitx_none I.kIn True.intro e (fun z => nomatch z) h
  | bl y => cases (show u = Value.bool y from rx); exact PySem.W.kia_one PySem.W.kitx_bool I.kIn True.intro e (fun z => nomatch z) h
  | int i => obtain ⟨t, q⟩ := (show ∃ t, u = Value.int i t from rx); cases q; exact PySem.W.kia_one PySem.W.kitx_int I.kIn True.intro e (fun z => nomatch z) h
  | str y => obtain ⟨t, q⟩ := (show ∃ t, u = Value.str y t from rx); cases q; exact PySem.W.kia_one PySem.W.kitx_str I.kIn True.intro e (fun z => nomatch z) h
  | flt y => obtain ⟨t, q⟩ := (show ∃ t, u = Value.float y t from rx); cases q; exact PySem.W.kia_one PySem.W.kitx_float I.kIn True.intro e (fun z => nomatch z) h
  | @lst a xs ea =>
    cases (show u = Value.ref a from rx)
    obtain ⟨_, _, n, _, h1⟩ := (show ObjOk X.prog X.w H s.heap a (.lst xs) from I.hok a _ ea)
    exact PySem.W.kia_one PySem.W.kitx_list I.kIn ⟨_, h1, rfl⟩ e (fun z => nomatch z) h
  | @frz a ob xs ea =>
    cases (show u = Value.ref a from rx)
    obtain ⟨_, _, _, n, _, h1⟩ := (show ObjOk X.prog X.w H s.heap a (.frz ob (.lst xs)) from I.hok a _ ea)
    exact PySem.W.kia_one PySem.W.kitx_list I.kIn ⟨_, h1, rfl⟩ e (fun z => nomatch z) h
  | @tup a xs ea =>
    cases (show u = Value.ref a from rx)
    obtain ⟨_, _, _, p⟩ := (show ObjOk X.prog X.w H s.heap a (.tup xs) from I.hok a _ ea)
    obtain ⟨o, h1, h2, _⟩ := p
    exact PySem.W.kia_one PySem.W.kitx_tuple I.kIn ⟨o, h1, h2⟩ e (fun z => nomatch z) h
  | @dK a kvs ea =>
    cases (show u = Value.ref a from rx)
    obtain ⟨_, _, vs, _, p⟩ := (show ObjOk X.prog X.w H s.heap a (.dK kvs) from I.hok a _ ea)
    obtain ⟨o, es, ep, h1, h2, _⟩ := p
    exact PySem.W.kia_one PySem.W.kitx_dict I.kIn ⟨o, h1, h2.1⟩ e (fun z => nomatch z) h
  | @dT a kvs ea =>
    cases (show u = Value.ref a from rx)
    obtain ⟨_, _, xs, _, o, es, ep, h1, h2, _⟩ := (show ObjOk X.prog X.w H s.heap a (.dT kvs) from I.hok a _ ea)
    exact PySem.W.kia_one PySem.W.kitx_dict I.kIn ⟨o, h1, h2.1⟩ e (fun z => nomatch z) h
  | @ins a C dx fs ea cl ha hn htk hm =>
    cases (show u = Value.ref a from rx)
    obtain ⟨mA, O, _⟩ := ins_get I.hok ea
    obtain ⟨od, J, _⟩ := O.look
    exact PySem.W.kia_one (PySem.W.kitx_own (cl.get _) cl.hd ha hn htk hm) I.kIn J e (fun z => nomatch z) h
end
end L2
namespace L2
open PySem PySem.Spec PyProof.Rows
structure Room (k : Nat) (A : Around) : Prop where
  hd : A.handled = none
  dp : A.depth + 3 * k + 5 < recursionLimit
  un : A.units + 16 * k + 200 < cLine
theorem Room.mono {j k : Nat} {A : Around} (r : Room k A) (h : j ≤ k) : Room j A := ⟨r.hd, by have := r.dp; omega, by have := r.un; omega⟩
theorem Room.deeper {k : Nat} {A : Around} (r : Room (k + 1) A) (env : Env) : Room k (A.deeper env) :=
  ⟨r.hd, by have := r.dp; show A.depth + 1 + 3 * k + 5 < _; omega, by have := r.un; show A.units + 3 + 16 * k + 200 < _; omega⟩
theorem make_depth {A : Around} {C : Addr} {us : List Value} {kw : List (Str × Value)} : (A.under (.builtin "type.__call__" ⟨.ref C :: us, kw⟩)).depth = A.depth + 1 := by
  first | rfl | simp [Around.under, Code.weight, Code.isCreation, Code.isGuard, Code.isCaller, Code.frames, Code.isFrame, guardIds]
theorem make_units {A : Around} {C : Addr} {us : List Value} {kw : List (Str × Value)} : (A.under (.builtin "type.__call__" ⟨.ref C :: us, kw⟩)).units = A.units + 1 := by
  first | rfl | simp [Around.under, Code.cUnits, Code.frames, Code.isFrame]
theorem Room.make {k : Nat} {A : Around} (r : Room (k + 1) A) (C : Addr) (us : List Value) (kw : List (Str × Value)) : Room k (A.under (.builtin "type.__call__" ⟨.ref C :: us, kw⟩)) :=
  ⟨r.hd, by have := r.dp; rw [make_depth]; omega, by have := r.un; rw [make_units]; omega⟩
theorem Room.depth {k : Nat} {A : Around} (r : Room k A) : A.depth < recursionLimit := by have := r.dp; omega
theorem Room.units {k : Nat} {A : Around} (r : Room k A) : A.units + 64 < cLine := by have := r.un; omega
theorem Room.units0 {k : Nat} {A : Around} (r : Room k A) : A.units < cLine := by have := r.un; omega
noncomputable def tNil : TA := fun _ H Q => Q [] H
noncomputable def tCons (ta : TE) (tr : TA) : TA := fun σ H Q => ta σ H fun x H1 => tr σ H1 fun xs H2 => Q (x :: xs) H2
section
variable {X : Cx} {e : Expr} {es : List Expr} {te : TE} {t : TA} {pos : Pos}
theorem pa_nil : PA X [] tNil := fun _ _ _ _ H Q I h => Calls.spliced_nil ⟨[], H, I, .nil, h⟩
theorem pa_cons (ha : PE X e te) (hr : PA X es t) (hs : starEach (e :: es) X.env = (false, eval e X.env) :: starEach es X.env := by rfl) : PA X (e :: es) (tCons te t) := by
  intro pos pins s σ H Q I h
  rw [hs]
  show wpAny _ _ (spliced ((false, eval e X.env) :: backTo pos (starEach es X.env))) _ _ s
  refine Calls.spliced_cons (thn (ha pins s σ H _ I h) fun u s1 zq127 => zq127.elim fun x zq128 => zq128.elim fun H1 zq129 => zq129.elim fun I1 zq130 => zq130.elim fun r1 q1 => ?_)
  exact thn (hr pos pins s1 σ H1 _ I1 q1) fun us s2 zq131 => zq131.elim fun xs zq132 => zq132.elim fun H2 zq133 => zq133.elim fun I2 zq134 => zq134.elim fun r2 q2 => ⟨x :: xs, H2, I2, .cons r1 r2, q2⟩
noncomputable def tTup (t : TA) : TE := fun σ H Q => t σ H fun xs H1 => xs.length ≤ sizeLine ∧ ∀ p, H1 p = none → Q (.ref p) (upd H1 p (.tup xs))
noncomputable def tLst (t : TA) : TE := fun σ H Q => t σ H fun xs H1 => xs.length ≤ sizeLine ∧ ∀ p, H1 p = none → Q (.ref p) (upd H1 p (.lst xs))
theorem pe_tup {x1} (h : PA X es t) : PE X (.Tuple es x1 pos) (tTup t) := by
  intro pins s σ H Q I hq
  refine wpAny_Tuple_spliced (thn (h pos pins s σ H _ I hq) fun us s1 zq135 => zq135.elim fun xs zq136 => zq136.elim fun H1 zq137 => zq137.elim fun I1 zq138 => zq138.elim fun r zq139 => zq139.elim fun z q => ⟨by rw [← r.length]; exact z, ?_⟩)
  have hf : H1 s1.heap.objs.size = none := I1.hok.fresh (Nat.le_refl _)
  refine ⟨.ref s1.heap.objs.size, upd H1 s1.heap.objs.size (.tup xs), I1.laid (t' := s1.toks) (fun b u e => Heap.get?_push_of_some _ e) (Nat.le_refl _) ?_, rfl, q _ hf⟩
  exact ⟨z, us, r, ⟨_, Heap.get?_push_size _ rfl, rfl, _, rfl⟩⟩
theorem pe_lst (h : PA X es t) : PE X (.List es pos) (tLst t) := by
  intro pins s σ H Q I hq
  refine wpAny_List_spliced (thn (h pos pins s σ H _ I hq) fun us s1 zq140 => zq140.elim fun xs zq141 => zq141.elim fun H1 zq142 => zq142.elim fun I1 zq143 => zq143.elim fun r zq144 => zq144.elim fun z q => ⟨by rw [← r.length]; exact z, ?_⟩)
  have hf : H1 s1.heap.objs.size = none := I1.hok.fresh (Nat.le_refl _)
  refine ⟨.ref s1.heap.objs.size, upd H1 s1.heap.objs.size (.lst xs), I1.laid (t' := s1.toks) (fun b u e => Heap.get?_push_of_some _ e) (Nat.le_refl _) ?_, rfl, q _ hf⟩
  exact ⟨z, us, 0, r, Heap.get?_push_size _ rfl⟩
end
noncomputable abbrev Sp := List V → Hp → VK → XK → Prop
noncomputable abbrev CXT := List Env → Hp → Shared → XK → Value → Shared → Prop
structure Env0 (P : Program) (w : World) (K : PySem.W.Frag) (mg : Str → Option Value) (base : Heap) (A : Around) (outer : List Env) (s : Shared) (H : Hp) : Prop where
  frames : A.frames = some outer
  mod : Mod K mg base
  bs : ∀ b o, base.get? b = some o → s.heap.get? b = some o ∧ H b = none
  bsz : base.objs.size ≤ s.heap.objs.size
  funs : s.heap.FunFrames base outer
  frf : ∀ b ∈ frs outer, H b = none
  hok : HOk P w H s.heap
  bare : AllBare s.gens
noncomputable def CE (outer : List Env) (P : Program) (w : World) (H : Hp) (s : Shared) (Q : VK) (u : Value) (s' : Shared) : Prop :=
  ∃ v H', s'.os = s.os ∧ AllBare s'.gens ∧ Un (frs outer) [] H H' s.heap s'.heap ∧ HOk P w H' s'.heap ∧ RelV v u ∧ Q v H'
noncomputable def CR (CX : CXT) (outer : List Env) (P : Program) (w : World) (H : Hp) (s : Shared) (Q : VK) (E : XK) (r : Result) (s' : Shared) : Prop :=
  match r with
  | .ok (.ret u) => CE outer P w H s Q u s'
  | .ok _ => False
  | .error e => CX outer H s E e s'
structure FnOk (P : Program) (w : World) (K : PySem.W.Frag) (mg : Str → Option Value) (base : Heap) (CX : CXT) (k : Nat) (f : Addr) (fd : FuncData) (ps : List Str) (sp : Sp) : Prop where
  len : ∀ vs H Q E, sp vs H Q E → vs.length = ps.length
  run : ∀ (A : Around) (outer : List Env) (s : Shared) (H : Hp) (args : Args) (us : List Value) (vs : List V) (Q : VK) (E : XK), Room k A → Env0 P w K mg base A outer s H → BindsTo s fd args (ps.zip us) → Vals vs us → sp vs H Q E →
    codeAny (model P w) A (.call (.ref f) args) (CR CX outer P w H s Q E) s
theorem Env0.make {P : Program} {w : World} {K : PySem.W.Frag} {mg : Str → Option Value} {base : Heap} {A : Around} {outer : List Env} {s : Shared} {H : Hp} (e : Env0 P w K mg base A outer s H) (C : Addr) (us : List Value) (kw : List (Str × Value)) :
    Env0 P w K mg base (A.under (.builtin "type.__call__" ⟨.ref C :: us, kw⟩)) outer s H := ⟨by first | exact e.frames | (simpa [Around.under, Code.envs, Code.isFrame, pushEnvs] using e.frames), e.mod, e.bs, e.bsz, e.funs, e.frf, e.hok, e.bare⟩
section
variable {X : Cx} {pins : List (Addr × Obj)} {σ : St} {H : Hp} {s s' : Shared}
theorem Inv.env0 (I : Inv X pins σ H s) : Env0 X.prog X.w X.K X.mg X.base X.A X.stack s H :=
  ⟨I.ok.frames, I.ok.mod, I.bs, Nat.le_trans I.ok.bsz I.sz, I.stack, I.stkFree, I.hok, I.bare⟩
theorem Inv.after {Q : VK} {u : Value} (I : Inv X pins σ H s) (h : CE X.stack X.prog X.w H s Q u s') : EP X pins σ Q u s' := by
  obtain ⟨v, H', os, bare, un, hok, r, q⟩ := h
  obtain ⟨hh, g, d, t, os'⟩ := s'
  obtain rfl : os' = s.os := os
  exact ⟨v, H', I.call (h' := hh) (g' := g) (d' := d) (t' := t) (ch := []) un hok bare (fun b z => absurd z (by simp)), r, q⟩
end
noncomputable def tCall (sp : Sp) (dvs : List V) (E : XK) (t : TA) : TE := fun σ H Q => t σ H fun vs H1 => sp (vs ++ dvs) H1 Q E
noncomputable def tMeth (C : Addr) (m : Str) (sp : Sp) (dvs : List V) (E : XK) (ta : TE) (t : TA) : TE := fun σ H Q => ta σ H fun x H1 => ∃ a dx fs, x = .ref a ∧ H1 a = some (.ins C dx fs) ∧ fs.lookup m = none ∧
  t σ H1 fun vs H2 => sp (x :: (vs ++ dvs)) H2 Q E
noncomputable def tMake (C : Addr) (sp : Sp) (dvs : List V) (E : XK) (t : TA) : TE := fun σ H Q => t σ H fun vs H1 => ∀ x dx, H1 x = none → H1 dx = none → dx ≠ x →
  sp (.ref x :: (vs ++ dvs)) (upd (upd H1 dx (.own x)) x (.ins C dx [])) (fun v H2 => v = .non ∧ Q (.ref x) H2) E
noncomputable def Binds (K : PySem.W.Frag) (fd : FuncData) (ps : List Str) (ds : List Value) : Prop :=
  ∀ (s : Shared) (us : List Value), K.In s.heap → (us ++ ds).length = ps.length → BindsTo s fd ⟨us, []⟩ (ps.zip (us ++ ds))
theorem Binds.all {K : PySem.W.Frag} {fd : FuncData} {ps : List Str} (h : ∀ us : List Value, us.length = ps.length → bindArgs fd ⟨us, []⟩ = pure (ps.zip us)) : Binds K fd ps [] := fun s us _ hl => by
  rw [List.append_nil] at hl ⊢
  exact .of_eq (h us hl)
noncomputable def Passes (CX : CXT) (X : Cx) (E : XK) : Prop := ∀ (pins : List (Addr × Obj)) (σ : St) (H : Hp) (s : Shared) (e : Value) (s' : Shared), Inv X pins σ H s → CX X.stack H s E e s' → X.xe e s'
section
variable {X : Cx} {CX : CXT} {k : Nat} {f C : Addr} {fd : FuncData} {ps : List Str} {sp : Sp} {dvs : List V} {ds : List Value} {E : XK} {x m : Str} {p pos apos : Pos} {e o : Expr} {es : List Expr} {ta : TE} {t : TA}
theorem run_fn {pins : List (Addr × Obj)} {σ : St} {H : Hp} {s : Shared} {Q : VK} {us : List Value} {vs : List V} (F : FnOk X.prog X.w X.K X.mg X.base CX k f fd ps sp) (hr : Room k X.A) (hb : Binds X.K fd ps ds) (hd : Vals dvs ds) (hx : Passes CX X E)
    (I : Inv X pins σ H s) (r : Vals vs us) (h : sp (vs ++ dvs) H Q E) : wpAny (model X.prog X.w) X.A (call (.ref f) us) (EP X pins σ Q) X.xe s := by
  have r2 : Vals (vs ++ dvs) (us ++ ds) := r.append hd
  have hl : (us ++ ds).length = ps.length := by rw [← r2.length]; exact F.len _ _ _ _ h
  refine wpAny_call (codeAny_mono (F.run X.A X.stack s H ⟨us, []⟩ (us ++ ds) (vs ++ dvs) Q E hr I.env0 (hb s us I.kIn hl) r2 h) fun r s' hq => ?_)
  cases r with
  | error e => exact hx pins σ H s e s' I hq
  | ok fl =>
    cases fl with
    | ret u => exact I.after hq
    | next => exact False.elim hq
    | brk => exact False.elim hq
    | cont => exact False.elim hq
theorem pe_call (F : FnOk X.prog X.w X.K X.mg X.base CX k f fd ps sp) (hr : Room k X.A) (hg : Gl X x) (hm : X.mg x = some (.ref f)) (hk : PySem.W.keepIn X.K (.ref f) = true) (hb : Binds X.K fd ps ds) (hd : Vals dvs ds) (hx : Passes CX X E)
    (ha : PA X (e :: es) t) (hdb : (x == ("__debug__" : Str)) = false := by decide) (he : starEach (e :: es) X.env = (false, eval e X.env) :: starEach es X.env := by rfl) (hpl : (backTo pos (starEach es X.env)).any (·.1) = false := by rfl) :
    PE X (.Call (.Name x p) (e :: es) [] pos) (tCall sp dvs E t) := by
  intro pins s σ H Q I h
  refine wpAny_Call_Name_kw (ld_glob I hg hm ?_ hdb)
  refine PySem.W.callWith_K (h₀ := X.base) I.ok.mod.kin hk (thn (ha pos pins s σ H _ I h) fun us s1 zq145 => zq145.elim fun vs zq146 => zq146.elim fun H1 zq147 => zq147.elim fun I1 zq148 => zq148.elim fun r q => ⟨I1.kIn, ?_⟩) he hpl
  exact run_fn F hr hb hd hx I1 r q
theorem pe_meth {pl : Sem Bool} (he : PE X o ta) (c : Cls X.K C) (hm : Meth X.K C m f) (F : FnOk X.prog X.w X.K X.mg X.base CX k f fd ps sp) (hr : Room k X.A) (hb : Binds X.K fd ps ds) (hd : Vals dvs ds) (hx : Passes CX X E) (ha : PA X (e :: es) t)
    (hst : starEach (e :: es) X.env = (false, eval e X.env) :: starEach es X.env := by rfl) (hpl : (backTo pos (starEach es X.env)).any (·.1) = false := by rfl)
    (ht : eval (.Call (.Attribute o m apos) (e :: es) [] pos) X.env = (do
      let ov ← eval o X.env
      standAt apos.atName
      let (f, first) ← holding [ov] (getMethod ov m pl)
      callWith pos f first (backTo pos (starEach (e :: es) X.env)) (backToKw pos (keywordEach [] X.env))) := by rfl) :
    PE X (.Call (.Attribute o m apos) (e :: es) [] pos) (tMeth C m sp dvs E ta t) := by
  intro pins s σ H Q I h
  refine PySem.W.methodCall_KW (pl := pl) (thn (he pins s σ H _ I h) fun u s1 zq149 => zq149.elim fun x zq150 => zq150.elim fun H1 zq151 => zq151.elim fun I1 zq152 => zq152.elim fun rx zq153 => zq153.elim fun a zq154 => zq154.elim fun dx zq155 => zq155.elim fun fs zq156 => zq156.elim fun ex zq157 => zq157.elim fun ea zq158 => zq158.elim fun l q => ?_) ht
  subst ex
  obtain rfl : u = Value.ref a := rx
  refine getmeth_ok I1 ea c hm l ?_
  refine PySem.W.callWith_K (first := [.ref a]) (h₀ := X.base) I.ok.mod.kin hm.kp (thn (ha pos pins s1 σ H1 _ I1 q) fun us s2 zq159 => zq159.elim fun vs zq160 => zq160.elim fun H2 zq161 => zq161.elim fun I2 zq162 => zq162.elim fun r q2 => ⟨I2.kIn, ?_⟩) hst hpl
  exact run_fn (us := .ref a :: us) (vs := .ref a :: vs) F hr hb hd hx I2 (.cons rfl r) q2
structure Mk (K : PySem.W.Frag) (C f : Addr) : Prop where
  makes : PySem.W.makesIn K C = true
  init : PySem.W.findIn K (.ref C) "__init__" = some (some (.ref f))
  fn : PySem.W.isFn K (.ref f) = true
  kp : PySem.W.keepIn K (.ref C) = true
theorem run_make {pins : List (Addr × Obj)} {σ : St} {H : Hp} {s : Shared} {Q : VK} {us : List Value} {vs : List V} (M : Mk X.K C f) (F : FnOk X.prog X.w X.K X.mg X.base CX k f fd ps sp) (hr : Room (k + 1) X.A) (hb : Binds X.K fd ps ds) (hd : Vals dvs ds)
    (hx : Passes CX X E) (I : Inv X pins σ H s) (r : Vals vs us)
    (h : ∀ x dx, H x = none → H dx = none → dx ≠ x → sp (.ref x :: (vs ++ dvs)) (upd (upd H dx (.own x)) x (.ins C dx [])) (fun v H2 => v = .non ∧ Q (.ref x) H2) E) :
    wpAny (model X.prog X.w) X.A (call (.ref C) us) (EP X pins σ Q) X.xe s := by
  have hq := h (s.heap.objs.size + 1) s.heap.objs.size (I.hok.fresh (Nat.le_succ _)) (I.hok.fresh (Nat.le_refl _)) (Nat.ne_of_lt (Nat.lt_succ_self _))
  have I2 := Inv.made (C := C) I
  have r2 : Vals (V.ref (s.heap.objs.size + 1) :: (vs ++ dvs)) (Value.ref (s.heap.objs.size + 1) :: (us ++ ds)) := .cons rfl (r.append hd)
  have hl : (Value.ref (s.heap.objs.size + 1) :: us ++ ds).length = ps.length := by
    have e := r2.length
    rw [F.len _ _ _ _ hq] at e
    exact e.symm
  refine wpAny_call (make_map (f := f) I.kIn M.makes M.init (beq_iff_eq.mp M.fn) (codeAny_mono (F.run _ X.stack _ _ ⟨Value.ref (s.heap.objs.size + 1) :: us, []⟩ (Value.ref (s.heap.objs.size + 1) :: (us ++ ds)) _ _ E (hr.make C us [])
    (I2.env0.make C us []) (hb _ (Value.ref (s.heap.objs.size + 1) :: us) I2.kIn hl) r2 hq) fun r s' hq' => ?_))
  cases r with
  | error e => exact hx pins σ _ _ e s' I2 hq'
  | ok fl =>
    cases fl with
    | ret u =>
      obtain ⟨v, H', I3, rv, ev, q3⟩ := I2.after hq'
      subst ev
      exact ⟨rv, ⟨V.ref (s.heap.objs.size + 1), H', I3, rfl, q3⟩⟩
    | next => exact False.elim hq'
    | brk => exact False.elim hq'
    | cont => exact False.elim hq'
theorem pe_make (M : Mk X.K C f) (F : FnOk X.prog X.w X.K X.mg X.base CX k f fd ps sp) (hr : Room (k + 1) X.A) (hg : Gl X x) (hm : X.mg x = some (.ref C)) (hb : Binds X.K fd ps ds) (hd : Vals dvs ds) (hx : Passes CX X E)
    (ha : PA X (e :: es) t) (hdb : (x == ("__debug__" : Str)) = false := by decide) (he : starEach (e :: es) X.env = (false, eval e X.env) :: starEach es X.env := by rfl) (hpl : (backTo pos (starEach es X.env)).any (·.1) = false := by rfl) :
    PE X (.Call (.Name x p) (e :: es) [] pos) (tMake C sp dvs E t) := by
  intro pins s σ H Q I h
  refine wpAny_Call_Name_kw (ld_glob I hg hm ?_ hdb)
  refine PySem.W.callWith_K (h₀ := X.base) I.ok.mod.kin M.kp (thn (ha pos pins s σ H _ I h) fun us s1 zq163 => zq163.elim fun vs zq164 => zq164.elim fun H1 zq165 => zq165.elim fun I1 zq166 => zq166.elim fun r q => ⟨I1.kIn, ?_⟩) he hpl
  exact run_make M F hr hb hd hx I1 r q
end
section
variable {X : Cx} {CX : CXT} {k : Nat} {f C : Addr} {fd : FuncData} {ps ks : List Str} {sp : Sp} {E : XK} {x m : Str} {p pos apos kpos : Pos} {e o : Expr} {es : List Expr} {kws : List Keyword} {te ta : TE} {t tk : TA} {nm : Option Str}
variable {g : List Value → List Value → List Value} {gV : List V → List V → List V}
end
structure FnScope (N P : List Str) (sc : Scope) : Prop where
  kind : sc.kind = .function
  co : sc.isCoroutine = false
  gen : sc.isGenerator = false
  nd : N.Nodup
  pre : N.take P.length = P
  par : ∀ x ∈ P, sc.names.lookup x = some .local ∨ sc.names.lookup x = some .cell
  nofree : ∀ y ∈ sc.names, y.2 ≠ .free
theorem bindL_out {kindOf : Str → Option NameKind} {x : Str} : ∀ {binds : List (Str × Value)} {m : Str → Option Value}, (∀ v, (x, v) ∉ binds) → bindL kindOf binds m x = m x
  | [], _, _ => rfl
  | (n, v) :: r, m, h => by
    unfold bindL
    rw [bindL_out fun w hw => h w (List.mem_cons_of_mem _ hw)]
    split
    · have : x ≠ n := by rintro rfl; exact h v List.mem_cons_self
      simp [this]
    · rfl
theorem bindC_out {kindOf : Str → Option NameKind} {x : Str} : ∀ {binds : List (Str × Value)} {m : Str → Option Value}, (∀ v, (x, v) ∉ binds) → bindC kindOf binds m x = m x
  | [], _, _ => rfl
  | (n, v) :: r, m, h => by
    unfold bindC
    rw [bindC_out fun w hw => h w (List.mem_cons_of_mem _ hw)]
    split
    · rfl
    · have : x ≠ n := by rintro rfl; exact h v List.mem_cons_self
      simp [this]
theorem bindL_get {kindOf : Str → Option NameKind} {x : Str} {v : Value} : ∀ {P : List Str} {vs : List Value} {i : Nat} {m : Str → Option Value}, P.Nodup → P[i]? = some x → vs[i]? = some v → kindOf x = some .local →
    bindL kindOf (P.zip vs) m x = some v
  | [], _, _, _, _, h, _, _ => by simp at h
  | _ :: _, [], _, _, _, _, h, _ => by simp at h
  | p :: P, w :: vs, 0, m, nd, h1, h2, hk => by
    simp at h1 h2; subst h1; subst h2
    show bindL kindOf ((p, w) :: P.zip vs) m p = _
    unfold bindL
    rw [bindL_out fun v hv => (List.nodup_cons.mp nd).1 (List.of_mem_zip hv).1, if_pos hk]
    simp
  | p :: P, w :: vs, i + 1, m, nd, h1, h2, hk => by
    show bindL kindOf ((p, w) :: P.zip vs) m x = _
    unfold bindL
    exact bindL_get (i := i) (List.nodup_cons.mp nd).2 (by simpa using h1) (by simpa using h2) hk
theorem bindC_get {kindOf : Str → Option NameKind} {x : Str} {v : Value} : ∀ {P : List Str} {vs : List Value} {i : Nat} {m : Str → Option Value}, P.Nodup → P[i]? = some x → vs[i]? = some v → kindOf x ≠ some .local →
    bindC kindOf (P.zip vs) m x = some v
  | [], _, _, _, _, h, _, _ => by simp at h
  | _ :: _, [], _, _, _, _, h, _ => by simp at h
  | p :: P, w :: vs, 0, m, nd, h1, h2, hk => by
    simp at h1 h2; subst h1; subst h2
    show bindC kindOf ((p, w) :: P.zip vs) m p = _
    unfold bindC
    rw [bindC_out fun v hv => (List.nodup_cons.mp nd).1 (List.of_mem_zip hv).1, if_neg hk]
    simp
  | p :: P, w :: vs, i + 1, m, nd, h1, h2, hk => by
    show bindC kindOf ((p, w) :: P.zip vs) m x = _
    unfold bindC
    exact bindC_get (i := i) (List.nodup_cons.mp nd).2 (by simpa using h1) (by simpa using h2) hk
noncomputable def start (N : List Str) (vs : List V) : St := vs.map some ++ List.replicate (N.length - vs.length) none
noncomputable def cxOf (CX : CXT) (P : Program) (w : World) (K : PySem.W.Frag) (mg : Str → Option Value) (base : Heap) (N : List Str) (qual : Str) (scope : Scope) (f : Addr) (cd : Value) (A : Around) (outer : List Env) (s : Shared) (H : Hp) (E : XK) : Cx where
  prog := P
  w := w
  K := K
  mg := mg
  base := base
  A := A.deeper (envOfC qual scope s.heap.objs.size f cd)
  N := N
  s₀ := s
  H₀ := H
  env := envOfC qual scope s.heap.objs.size f cd
  outer := outer
  stack := envOfC qual scope s.heap.objs.size f cd :: outer
  ex := []
  calm := true
  fn := fun _ => true
  pn := []
  xe := fun e s' => wpAny (model P w) (A.deeper (envOfC qual scope s.heap.objs.size f cd)) (leaving (envOfC qual scope s.heap.objs.size f cd) e) (fun _ s'' => CX outer H s E e s'') (fun e' s'' => CX outer H s E e' s'') s'
theorem cell_has {sc : Scope} {n : Nat} {x : Str} (h : sc.names.lookup x = some .cell) : ∃ c, (cellsFrom n sc.names []).lookup x = some c := by
  have q := PySem.W.cellsFrom_some sc.names n [] (.inl h)
  exact Option.isSome_iff_exists.mp q
theorem inv_start {CX : CXT} {P : Program} {w : World} {K : PySem.W.Frag} {mg : Str → Option Value} {base : Heap} {N ps : List Str} {qual : Str} {scope : Scope} {f : Addr} {cd : Value} {A : Around} {outer : List Env} {s s1 : Shared} {H : Hp} {E : XK} {us : List Value} {vs : List V}
    (S : FnScope N ps scope) (hd : A.handled = none) (e0 : Env0 P w K mg base A outer s H) (hl : vs.length = ps.length) (r : Vals vs us)
    (x : InCallC s s.heap.objs.size (bindL (envOfC qual scope s.heap.objs.size f cd).kindOf (ps.zip us) fun _ => none) (cellsFrom (s.heap.objs.size + 1) scope.names []) (bindC (envOfC qual scope s.heap.objs.size f cd).kindOf (ps.zip us) fun _ => none) s1) :
    Inv (cxOf CX P w K mg base N qual scope f cd A outer s H E) [] (start N vs) H s1 := by
  have hpl : ps.length ≤ N.length := by have := congrArg List.length S.pre; rw [List.length_take] at this; omega
  obtain ⟨h1, tk, rfl, hk⟩ := x.done
  have noA : ∀ b : Addr, b ∉ (cxOf CX P w K mg base N qual scope f cd A outer s H E).ex := fun b z => absurd (show b ∈ ([] : List Addr) from z) (by simp)
  refine ⟨⟨e0.mod, S.kind, rfl, rfl, Nat.le_refl _, fun y z c h1 h2 => ?_, fun y hy => ?_, fun y c _ h => ?_, fun _ => hd, Around.frames_deeper e0.frames, .inr ⟨rfl, rfl⟩, fun b z => absurd z (noA b), e0.bs, e0.bsz, fun b _ _ => noA b, fun b z => absurd z (noA b), e0.funs, e0.frf⟩,
    rfl, e0.bare, Un.kept hk, ⟨_, x.toInCall.ns, fun i y v h1 h2 h3 => ?_⟩, fun y c h => ⟨_, x.cell y c h⟩, e0.hok.fresh (Nat.le_refl _), fun y c h => ?_, fun p hp => absurd (show p ∈ ([] : List (Addr × Obj)) from hp) (by simp), e0.hok.kept hk, ?_⟩
  · exact name_of_addr x.apart (PySem.mem_of_lookup h1) (PySem.mem_of_lookup h2)
  · have hy : scope.names.lookup y = some .cell ∨ scope.names.lookup y = some .free := hy
    rcases hy with hy | hy
    · exact cell_has hy
    · exact absurd rfl (S.nofree _ (PySem.mem_of_lookup hy))
  · exact Nat.le_of_lt (x.above y c (PySem.mem_of_lookup h))
  · have hi : i < vs.length := by
      unfold start at h2
      by_cases hi : i < vs.length
      · exact hi
      · rw [List.getElem?_append_right (by simpa using hi)] at h2
        rw [List.getElem?_replicate] at h2
        split at h2 <;> cases h2
    have ha : vs[i]? = some v := by
      unfold start at h2
      rw [List.getElem?_append_left (by simpa using hi), List.getElem?_map] at h2
      cases e : vs[i]? with
      | none => rw [e] at h2; cases h2
      | some a => rw [e] at h2; cases h2; rfl
    obtain ⟨u, hu, rv⟩ := r.get ha
    have hp : ps[i]? = some y := by
      rw [← S.pre, List.getElem?_take_of_lt (by omega)]; exact h1
    have ndP : ps.Nodup := by rw [← S.pre]; exact S.nd.sublist (List.take_sublist _ _)
    refine ⟨u, rv, ?_⟩
    rcases S.par y (List.mem_of_getElem? hp) with k | k
    · exact .inl ⟨k, bindL_get ndP hp hu k⟩
    · obtain ⟨c, e⟩ := cell_has (n := s.heap.objs.size + 1) k
      refine .inr ⟨.inl k, c, e, ?_⟩
      have q := x.cell y c e
      rw [bindC_get ndP hp hu (by show scope.names.lookup y ≠ _; rw [k]; decide)] at q
      exact q
  · exact e0.hok.fresh (Nat.le_of_lt (x.above y c (PySem.mem_of_lookup h)))
  · unfold start
    show _ = N.length
    rw [List.length_append, List.length_map, List.length_replicate]
    omega
theorem fn_of {CX : CXT} {P : Program} {w : World} {K : PySem.W.Frag} {mg : Str → Option Value} {base : Heap} {k : Nat} {f : Addr} {name qual : Str} {params : Arguments} {body : List Stmt} {scope : Scope} {dV kV doc pm cdv ct oc : Value} {an od : Option Addr}
    {osl : Array (Option Value)} {N ps : List Str} {sp : Sp} (lk : K.lookup f = some ⟨oc, od, .func (PySem.W.fnOf name qual params body scope dV kV doc pm an cdv ct), osl⟩) (hcd : PySem.W.codeIn K cdv qual = true) (S : FnScope N ps scope)
    (len : ∀ vs H Q E, sp vs H Q E → vs.length = ps.length)
    (hbody : ∀ (A : Around) (outer : List Env) (s : Shared) (H : Hp) (vs : List V) (Q : VK) (E : XK), Room k (A.deeper (envOfC qual scope s.heap.objs.size f cdv)) → sp vs H Q E →
      ∃ t, PSs (cxOf CX P w K mg base N qual scope f cdv A outer s H E) body t ∧ t { nx := fun _ H' => Q .non H', rt := Q } (start N vs) H) :
    FnOk P w K mg base CX (k + 1) f (PySem.W.fnOf name qual params body scope dV kV doc pm an cdv ct) ps sp := by
  refine ⟨len, fun A outer s H args us vs Q E hr e0 hb r hsp => ?_⟩
  have hl := len _ _ _ _ hsp
  have KX : K.In s.heap := e0.mod.kin.keeps fun b o e => (e0.bs b o e).1
  have lim : s.heap.NoLimit := e0.mod.nolimit.keeps fun b o e => (e0.bs b o e).1
  have hkind : ∀ y ∈ ps.zip us, scope.names.lookup y.1 = some .local ∨ (scope.names.lookup y.1 = some .cell ∧ ((cellsFrom (s.heap.objs.size + 1) scope.names []).lookup y.1).isSome = true) := fun ⟨n, v⟩ hy => by
    rcases S.par n (List.of_mem_zip hy).1 with q | q
    · exact .inl q
    · exact .inr ⟨q, PySem.W.cellsFrom_some _ _ _ (.inl q)⟩
  refine codeAny_call_function hr.depth (KX _ _ lk) rfl S.co S.gen rfl (PySem.W.codeRec_of KX hcd) (hb _ _ _ _ ?_)
  refine wpAny_newFunctionEnv_cells S.kind hkind fun env he s1 x => ?_
  subst he
  refine ⟨lim.keeps x.toInCall.keep, codeAny_func ?_⟩
  obtain ⟨t, ht, hq⟩ := hbody A outer s H vs Q E (hr.deeper _) hsp
  have I : Inv (cxOf CX P w K mg base N qual scope f cdv A outer s H E) [] (start N vs) H s1 := inv_start S hr.hd e0 hl r x
  refine wpAny_mono (ht [] s1 (start N vs) H _ I hq) (fun fl s' hs => ?_) fun e s' hs => hs
  have fin : ∀ {σ' : St} {H' : Hp} {v : V} {u : Value}, Inv (cxOf CX P w K mg base N qual scope f cdv A outer s H E) [] σ' H' s' → RelV v u → Q v H' → CE outer P w H s Q u s' :=
    fun {σ' H' v u} J rv q => ⟨v, H', J.os, J.bare, J.base, J.hok, rv, q⟩
  cases fl with
  | ret u =>
    obtain ⟨v, σ', H', J, rv, q⟩ := hs
    exact fin J rv q
  | next =>
    obtain ⟨σ', H', J, q⟩ := hs
    exact fin (v := V.non) (u := Value.none) J rfl q
  | brk =>
    obtain ⟨_, _, _, q⟩ := hs
    exact False.elim q
  | cont =>
    obtain ⟨_, _, _, q⟩ := hs
    exact False.elim q
end L2
namespace L2
open PySem PySem.Spec PyProof.Rows
section
variable {X : Cx} {x : Str} {p pos : Pos} {e : Expr} {es : List Expr} {t : TA} {id T : String} {r : List V → Hp → VK → Prop}
noncomputable def tCB (r : List V → Hp → VK → Prop) (t : TA) : TE := fun σ H Q => t σ H fun vs H1 => r vs H1 Q
theorem pe_callB (hc : CallR X (.builtin id) r) (hg : Gl X x) (hm : X.mg x = none) (hv : bootBuiltins x = some (.builtin id)) (ha : PA X (e :: es) t) (hn : x ≠ "__name__" := by decide) (hdb : (x == ("__debug__" : Str)) = false := by decide)
    (he : starEach (e :: es) X.env = (false, eval e X.env) :: starEach es X.env := by rfl) (hpl : (backTo pos (starEach es X.env)).any (·.1) = false := by rfl) : PE X (.Call (.Name x p) (e :: es) [] pos) (tCB r t) := by
  intro pins s σ H Q I h
  refine wpAny_Call_Name_kw (ld_blt I hg hm hv ?_ hn hdb)
  exact PyProof.Rows.callWith_builtin1 (thn (ha pos pins s σ H _ I h) fun us s1 zq168 => zq168.elim fun vs zq169 => zq169.elim fun H1 zq170 => zq170.elim fun I1 zq171 => zq171.elim fun r1 q1 => hc pins s1 σ H1 vs us Q I1 r1 q1) he hpl
theorem pe_callTy (hc : CallR X (.type T) r) (hg : Gl X x) (hm : X.mg x = none) (hv : bootBuiltins x = some (.type T)) (ha : PA X (e :: es) t) (hn : x ≠ "__name__" := by decide) (hdb : (x == ("__debug__" : Str)) = false := by decide)
    (he : starEach (e :: es) X.env = (false, eval e X.env) :: starEach es X.env := by rfl) (hpl : (backTo pos (starEach es X.env)).any (·.1) = false := by rfl) : PE X (.Call (.Name x p) (e :: es) [] pos) (tCB r t) := by
  intro pins s σ H Q I h
  refine wpAny_Call_Name_kw (ld_blt I hg hm hv ?_ hn hdb)
  exact PyProof.Rows.callWith_type1 (thn (ha pos pins s σ H _ I h) fun us s1 zq172 => zq172.elim fun vs zq173 => zq173.elim fun H1 zq174 => zq174.elim fun I1 zq175 => zq175.elim fun r1 q1 => hc pins s1 σ H1 vs us Q I1 r1 q1) he hpl
end
end L2
namespace HT
open PySem PyProof.Rows
section
open PySem.SeqAt
open PySem.AutoSeq1 (wpAny_loadPart')
open PySem.MeetsSeq PySem.MeetsSeq2 PySem.MeetsSeq3
end
section
variable {prog : Program} {w : World} {A : Around} {E : Value → Shared → Prop} {s : Shared}
noncomputable def sIx (n d : Nat) : Option Int → Nat
  | none => d
  | some v => if v < 0 then (v + (n : Int)).toNat else min v.toNat n
theorem sIx_none (n d : Nat) : sIx n d none = d := rfl
theorem sIx_nat (n d k : Nat) : sIx n d (some (k : Int)) = min k n := by
  show (if (k : Int) < 0 then ((k : Int) + (n : Int)).toNat else min (k : Int).toNat n) = min k n
  rw [if_neg (by omega), Int.toNat_natCast]
end
end HT
namespace L2
open PySem PySem.Spec PyProof.Rows
noncomputable abbrev TO := St → Hp → (Option Int → Hp → Prop) → Prop
noncomputable def PO (X : Cx) (e : Option Expr) (t : TO) : Prop :=
  ∀ (pins : List (Addr × Obj)) (s : Shared) (σ : St) (H : Hp) (Q : Option Int → Hp → Prop), Inv X pins σ H s → t σ H Q →
    wpAny (model X.prog X.w) X.A (evalPart e X.env) (fun u s' => ∃ o H', Inv X pins σ H' s' ∧ IsPart u o ∧ Q o H') X.xe s
noncomputable def tNoPart : TO := fun _ H Q => Q none H
noncomputable def tPart (t : TE) : TO := fun σ H Q => t σ H fun x H1 => ∃ i, x = .int i ∧ Q (some i) H1
section
variable {X : Cx} {e : Expr} {te : TE} {lo hi : Option Expr} {tl th : TO} {pos p2 : Pos}
theorem po_none : PO X none tNoPart := by
  intro pins s σ H Q I h
  rw [evalPart_none]
  exact wpAny_pure ⟨none, H, I, .none, h⟩
theorem po_some (h : PE X e te) : PO X (some e) (tPart te) := by
  intro pins s σ H Q I hw
  rw [evalPart_some]
  refine thn (h pins s σ H _ I hw) fun u s1 zq176 => zq176.elim fun x zq177 => zq177.elim fun H1 zq178 => zq178.elim fun I1 zq179 => zq179.elim fun r1 q1 => ?_
  obtain ⟨i, rfl, q⟩ := q1
  obtain ⟨t, rfl⟩ := r1
  exact ⟨some i, H1, I1, .int i t, q⟩
noncomputable def SlR (X : Cx) (r : V → Option Int → Option Int → Hp → VK → Prop) : Prop :=
  ∀ (pins : List (Addr × Obj)) (s : Shared) (σ : St) (H : Hp) (x : V) (v vl vu : Value) (lo hi : Option Int) (sl : Addr) (Q : VK), Inv X pins σ H s → RelV x v → s.heap.IsSliceOf sl vl vu .none → IsPart vl lo → IsPart vu hi → r x lo hi H Q →
    ∃ T id, typeLookup (.type T) "__getitem__" = pure (some (.builtin id)) ∧ s.TypeIs v T ∧ wpAny (model X.prog X.w) X.A (getItem v (.ref sl)) (EP X pins σ Q) X.xe s
noncomputable def tSl (r : V → Option Int → Option Int → Hp → VK → Prop) (te : TE) (tl th : TO) : TE := fun σ H Q => te σ H fun x H1 => tl σ H1 fun l H2 => th σ H2 fun u H3 => r x l u H3 Q
theorem pe_slice {r : V → Option Int → Option Int → Hp → VK → Prop} (hr : SlR X r) (he : PE X e te) (hl : PO X lo tl) (hu : PO X hi th) : PE X (.Subscript e (.Slice lo hi none p2) pos) (tSl r te tl th) := by
  intro pins s σ H Q I h
  refine Subscript_ (thn (he pins s σ H _ I h) fun v s1 zq180 => zq180.elim fun x zq181 => zq181.elim fun H1 zq182 => zq182.elim fun I1 zq183 => zq183.elim fun r1 q1 => ?_)
  refine wpAny_Slice (thn (hl pins s1 σ H1 _ I1 q1) fun vl s2 zq184 => zq184.elim fun l zq185 => zq185.elim fun H2 zq186 => zq186.elim fun I2 zq187 => zq187.elim fun pl q2 => thn (hu pins s2 σ H2 _ I2 q2) fun vu s3 zq188 => zq188.elim fun u zq189 => zq189.elim fun H3 zq190 => zq190.elim fun I3 zq191 => zq191.elim fun pu q3 => ?_)
  rw [evalPart_none]
  refine wpAny_pure ?_
  have I4 : Inv X pins σ H3 { s3 with heap := s3.heap.push { cls := .type "slice", data := .fields #[vl, vu, .none] } } := I3.kept (t' := s3.toks) fun b ob q => Heap.get?_push_of_some _ q
  obtain ⟨T, id, hT, ht, hg⟩ := hr pins { s3 with heap := s3.heap.push { cls := .type "slice", data := .fields #[vl, vu, .none] } } σ H3 x v vl vu l u s3.heap.objs.size Q I4 r1 (Heap.IsSliceOf.new ..) pl pu q3
  show wpAny (model X.prog X.w) X.A (subscriptTail e (.Slice lo hi none p2) v (.ref s3.heap.objs.size)) (EP X pins σ Q) X.xe { s3 with heap := s3.heap.push { cls := .type "slice", data := .fields #[vl, vu, .none] } }
  exact tail_any (ops := [.ref s3.heap.objs.size, v]) ht hT hg (by with_unfolding_all rfl)
noncomputable def cutV (xs : List V) (lo hi : Option Int) : List V := (xs.drop (HT.sIx xs.length 0 lo)).take (HT.sIx xs.length xs.length hi - HT.sIx xs.length 0 lo)
theorem cutV_length (xs : List V) (lo hi : Option Int) : (cutV xs lo hi).length ≤ xs.length := by
  unfold cutV
  rw [List.length_take, List.length_drop]
  omega
end
end L2
namespace L2
open PySem PySem.Spec PyProof.Rows
noncomputable def ixN (n : Nat) (i : Int) : Option Nat := if 0 ≤ i then (if i < n then some i.toNat else none) else if -(n : Int) ≤ i then some (i + n).toNat else none
noncomputable def atI {α : Type} (xs : List α) (i : Int) : Option α := (ixN xs.length i).bind fun j => xs[j]?
theorem ixN_seq {n : Nat} {i : Int} {j : Nat} (h : ixN n i = some j) : seqIndex? i n = some j ∧ j < n ∧ -(n : Int) ≤ i ∧ i < n := by
  unfold ixN at h
  by_cases h0 : 0 ≤ i
  · rw [if_pos h0] at h
    by_cases h1 : i < n
    · rw [if_pos h1] at h
      have e : i.toNat = j := Option.some.inj h
      exact ⟨by rw [seqIndex_of h0 h1, e], by omega, by omega, h1⟩
    · rw [if_neg h1] at h; cases h
  · rw [if_neg h0] at h
    by_cases h1 : -(n : Int) ≤ i
    · rw [if_pos h1] at h
      have e : (i + n).toNat = j := Option.some.inj h
      exact ⟨by rw [seqIndex_neg (by omega) h1, e], by omega, h1, by omega⟩
    · rw [if_neg h1] at h; cases h
theorem atI_get {α : Type} {xs : List α} {i : Int} {v : α} (h : atI xs i = some v) : ∃ j, seqIndex? i xs.length = some j ∧ xs[j]? = some v ∧ j < xs.length ∧ -(xs.length : Int) ≤ i ∧ i < xs.length := by
  unfold atI at h
  cases e : ixN xs.length i with
  | none => rw [e] at h; cases h
  | some j =>
    rw [e] at h
    obtain ⟨h1, h2, h3, h4⟩ := ixN_seq e
    exact ⟨j, h1, h, h2, h3, h4⟩
theorem atI_nat {α : Type} {xs : List α} {j : Nat} {v : α} (h : xs[j]? = some v) : atI xs (j : Int) = some v := by
  have hj : j < xs.length := (List.getElem?_eq_some_iff.mp h).1
  have e : ixN xs.length (j : Int) = some j := by
    unfold ixN
    rw [if_pos (by omega), if_pos (by omega)]; simp
  unfold atI; rw [e]; exact h
noncomputable def PlainIx (b : Expr) : Prop := ∀ o i, subscripted b false o i = operate [o, i] (getItem o i)
noncomputable def IxR (X : Cx) (r : R2) : Prop :=
  ∀ (value slice : Expr) (pins : List (Addr × Obj)) (s : Shared) (σ : St) (H : Hp) (x y : V) (v u : Value) (Q : VK), Inv X pins σ H s → RelV x v → RelV y u → r x y H Q →
    subscripted slice false v u = operate [v, u] (getItem v u) → wpAny (model X.prog X.w) X.A (subscriptTail value slice v u) (EP X pins σ Q) X.xe s
noncomputable def MtR (X : Cx) (id : String) (r : V → List V → Hp → VK → Prop) : Prop :=
  ∀ (pins : List (Addr × Obj)) (s : Shared) (σ : St) (H : Hp) (x : V) (xs : List V) (v : Value) (us : List Value) (Q : VK), Inv X pins σ H s → RelV x v → Vals xs us → r x xs H Q →
    wpAny (model X.prog X.w) X.A (call (.builtin id) (v :: us)) (EP X pins σ Q) X.xe s
section
variable {X : Cx} {a b : Expr} {ta tb : TE} {pos : Pos}
theorem pe_ix {r : R2} (hr : IxR X r) (ha : PE X a ta) (hb : PE X b tb) (hs : PlainIx b) : PE X (.Subscript a b pos) (tOp r ta tb) := by
  intro pins s σ H Q I h
  exact Subscript_ (binT ha hb I h fun v u s2 x y H2 I2 rx ry q => hr a b pins s2 σ H2 x y v u Q I2 rx ry q (hs _ _))
noncomputable def rIxL (K : PySem.W.Frag) : R2 := fun x y H Q => ∃ p xs i v, x = .ref p ∧ y = .int i ∧ SqL K H p xs ∧ atI xs i = some v ∧ Q v H
noncomputable def rIxT (K : PySem.W.Frag) : R2 := fun x y H Q => ∃ p xs i v, x = .ref p ∧ y = .int i ∧ SqT K H p xs ∧ atI xs i = some v ∧ Q v H
noncomputable def rIxS : R2 := fun x y H Q => ∃ z i c, x = .str z ∧ y = .int i ∧ z.length ≤ sizeLine ∧ atI z.cps.toList i = some c ∧ Q (.str ⟨#[c]⟩) H
theorem ix_list : IxR X (rIxL X.K) := by
  intro value slice pins s σ H x y v u Q I rx ry h hs
  obtain ⟨p, xs, i, z, rfl, rfl, hq, he, q⟩ := h
  cases rx
  obtain ⟨t, rfl⟩ := ry
  obtain ⟨its, r, pl, hz⟩ := I.list hq
  obtain ⟨j, h1, h2, h3, h4, h5⟩ := atI_get he
  obtain ⟨w, ew, rw'⟩ := r.get h2
  have hl := r.length
  have hn := line63
  have fin : EP X pins σ Q w s := ⟨z, H, I, rw', q⟩
  by_cases h0 : 0 ≤ i
  · have hj : i.toNat = j := by
      rw [seqIndex_of h0 h5] at h1
      exact Option.some.inj h1
    exact item_listR pl.isList h0 (by omega) (by rw [hj]; simpa using ew) fin hs
  · have hj : (i + (its.toArray.size : Int)).toNat = j := by
      rw [seqIndex_neg (by omega) h4] at h1
      rw [List.size_toArray, ← hl]
      exact Option.some.inj h1
    exact subscriptTail_builtinR (x := w) pl.isList.typeIs slot_list_getitem.lookup
      (wpAny_getItem_list_neg (Q := fun r s' => r = w ∧ EP X pins σ Q r s') pl.isList (by omega) (by rw [List.size_toArray] <;> omega) (by omega) (by rw [hj]; simpa using ew) ⟨rfl, fin⟩) hs
theorem ix_tup : IxR X (rIxT X.K) := by
  intro value slice pins s σ H x y v u Q I rx ry h hs
  obtain ⟨p, xs, i, z, rfl, rfl, hq, he, q⟩ := h
  cases rx
  obtain ⟨t, rfl⟩ := ry
  obtain ⟨its, r, pl, hz⟩ := I.tuple hq
  obtain ⟨j, h1, h2, h3, h4, h5⟩ := atI_get he
  obtain ⟨w, ew, rw'⟩ := r.get h2
  have hl := r.length
  have hn := line63
  have fin : EP X pins σ Q w s := ⟨z, H, I, rw', q⟩
  exact subscriptTail_builtinR (x := w) pl.typeIs slot_tuple_getitem.lookup
    (getItem_tuple (j := j) (Q := fun r s' => r = w ∧ EP X pins σ Q r s') pl (by omega) (by omega) (by rw [List.size_toArray, ← hl]; exact h1) (by simpa using ew) ⟨rfl, fin⟩) hs
theorem ix_str : IxR X rIxS := by
  intro value slice pins s σ H x y v u Q I rx ry h hs
  obtain ⟨z, i, c, rfl, rfl, hz, he, q⟩ := h
  obtain ⟨t, rfl⟩ := rx
  obtain ⟨t', rfl⟩ := ry
  obtain ⟨j, h1, h2, h3, h4, h5⟩ := atI_get he
  have hl : z.cps.toList.length = z.length := by simp [Str.length]
  rw [hl] at h1 h4 h5
  have hn := line63
  exact tail_any (typeIs_str s z t) slot_str_getitem.lookup (getItem_str (c := c) (by
    have e1 : decide (i < -(2 ^ 63 : Int)) = false := decide_eq_false (by omega)
    have e2 : decide (i ≥ 2 ^ 63) = false := decide_eq_false (by omega)
    rw [e1, e2, Bool.or_false]) (by rw [h1]; simpa using h2) ⟨.str ⟨#[c]⟩, H, I.tok _, ⟨_, rfl⟩, q⟩) hs
theorem slice_bounds (lo hi : Option Int) (n : Nat) : (sliceBounds lo hi none n).1 = ((HT.sIx n 0 lo : Nat) : Int) ∧ (sliceBounds lo hi none n).2.1 = ((HT.sIx n n hi : Nat) : Int) ∧ (sliceBounds lo hi none n).2.2 = 1 := by
  refine ⟨?_, ?_, rfl⟩
  · cases lo with
    | none => simp [sliceBounds, HT.sIx]
    | some i =>
      simp only [sliceBounds, HT.sIx, Option.getD_none, show (1 : Int) > 0 by decide, if_true]
      by_cases h : i < 0
      · simp only [h, if_true] <;> omega
      · simp only [h, if_false] <;> omega
  · cases hi with
    | none => simp [sliceBounds, HT.sIx]
    | some i =>
      simp only [sliceBounds, HT.sIx, Option.getD_none, show (1 : Int) > 0 by decide, if_true]
      by_cases h : i < 0
      · simp only [h, if_true] <;> omega
      · simp only [h, if_false] <;> omega
theorem slicePick_cut (its : List Value) (lo hi : Option Int) : slicePick its.toArray lo hi none = ((its.drop (HT.sIx its.length 0 lo)).take (HT.sIx its.length its.length hi - HT.sIx its.length 0 lo)).toArray := by
  obtain ⟨h1, h2, h3⟩ := slice_bounds lo hi its.toArray.size
  unfold slicePick
  rw [h1, h2, h3]
  simp only [sliceRange_one, pick_run, List.size_toArray] <;> rfl
noncomputable def rSlL (K : PySem.W.Frag) : V → Option Int → Option Int → Hp → VK → Prop := fun x lo hi H Q => ∃ a xs, x = .ref a ∧ SqL K H a xs ∧ ∀ p, H p = none → Q (.ref p) (upd H p (.lst (cutV xs lo hi)))
theorem sl_list : SlR X (rSlL X.K) := by
  intro pins s σ H x v vl vu lo hi sl Q I rx hs pl pu h
  obtain ⟨a, xs, rfl, hx, q⟩ := h
  cases rx
  obtain ⟨its, r, ht, hz⟩ := I.list hx
  have hlen := r.length
  refine ⟨"list", _, slot_list_getitem.lookup, ht.isList.typeIs, ?_⟩
  refine wpAny_getItem_list_slice ht.isList hs pl pu .none (by simp) ?_ (by rw [List.size_toArray] <;> omega)
  rw [slicePick_cut, ← hlen]
  refine ⟨.ref s.heap.objs.size, _, I.laid (t' := s.toks) (o := .lst (cutV xs lo hi)) (fun b ob q => Heap.get?_push_of_some _ q) (Nat.le_refl _) ?_, rfl, q _ (I.hok.fresh (Nat.le_refl _))⟩
  exact ⟨Nat.le_trans (cutV_length xs lo hi) hz, _, 0, (r.drop (HT.sIx xs.length 0 lo)).take (HT.sIx xs.length xs.length hi - HT.sIx xs.length 0 lo), Heap.get?_push_size _ rfl⟩
noncomputable def flatV : V → Bool
  | .non => true
  | .bl _ => true
  | .int _ => true
  | .str _ => true
  | _ => false
noncomputable def eqV : V → V → Bool
  | .non, .non => true
  | .bl a, .bl b => a == b
  | .bl a, .int b => (if a then 1 else 0) == b
  | .int a, .bl b => a == (if b then 1 else 0)
  | .int a, .int b => a == b
  | .str a, .str b => a == b
  | _, _ => false
theorem eqAt_V {A : Around} {s : Shared} {y x : V} {u v : Value} (ry : RelV y u) (rx : RelV x v) (fy : flatV y = true) (fx : flatV x = true) : SeqAt.EqAt A s u v (eqV y x) := by
  cases y with
  | non =>
    cases ry
    cases x with
    | non => cases rx; exact SeqAt.EqAt.same _
    | bl b => cases rx; exact SeqAt.EqAt.none_bool b
    | int b => obtain ⟨t, rfl⟩ := rx; exact SeqAt.EqAt.none_int b t
    | str b => obtain ⟨t, rfl⟩ := rx; exact SeqAt.EqAt.none_str b t
    | _ => exact absurd (show false = true from fx) Bool.false_ne_true
  | bl a =>
    cases ry
    cases x with
    | non => cases rx; exact SeqAt.EqAt.bool_none a
    | bl b => cases rx; exact SeqAt.EqAt.bool_bool a b
    | int b => obtain ⟨t, rfl⟩ := rx; exact SeqAt.EqAt.bool_int a b t
    | str b => obtain ⟨t, rfl⟩ := rx; exact SeqAt.EqAt.bool_str a b t
    | _ => exact absurd (show false = true from fx) Bool.false_ne_true
  | int a =>
    obtain ⟨t', rfl⟩ := ry
    cases x with
    | non => cases rx; exact SeqAt.EqAt.int_none a t'
    | bl b => cases rx; exact SeqAt.EqAt.int_bool a t' b
    | int b => obtain ⟨t, rfl⟩ := rx; exact SeqAt.EqAt.int_int a t' b t
    | str b => obtain ⟨t, rfl⟩ := rx; exact SeqAt.EqAt.int_str a t' b t
    | _ => exact absurd (show false = true from fx) Bool.false_ne_true
  | str a =>
    obtain ⟨t', rfl⟩ := ry
    cases x with
    | non => cases rx; exact SeqAt.EqAt.str_none a t'
    | bl b => cases rx; exact SeqAt.EqAt.str_bool a t' b
    | int b => obtain ⟨t, rfl⟩ := rx; exact SeqAt.EqAt.str_int a t' b t
    | str b => obtain ⟨t, rfl⟩ := rx; exact SeqAt.EqAt.str_str a t' b t
    | _ => exact absurd (show false = true from fx) Bool.false_ne_true
  | _ => exact absurd (show false = true from fy) Bool.false_ne_true
noncomputable def eqU (x : V) (u : Value) : Bool := match u with
  | .none => eqV .non x
  | .bool b => eqV (.bl b) x
  | .int i _ => eqV (.int i) x
  | .str z _ => eqV (.str z) x
  | _ => false
theorem eqU_of {x y : V} {u : Value} (r : RelV y u) (f : flatV y = true) : eqU x u = eqV y x := by
  cases y with
  | non => cases r; rfl
  | bl b => cases r; rfl
  | int i => obtain ⟨t, rfl⟩ := r; rfl
  | str z => obtain ⟨t, rfl⟩ := r; rfl
  | _ => exact absurd (show false = true from f) Bool.false_ne_true
theorem any_eqU {x : V} : ∀ {xs : List V} {us : List Value}, Vals xs us → xs.all flatV = true → us.any (eqU x) = xs.any fun y => eqV y x
  | _, _, .nil, _ => rfl
  | y :: xs, u :: us, .cons r t, f => by
    rw [List.all_cons, Bool.and_eq_true] at f
    rw [List.any_cons, List.any_cons, eqU_of r f.1, any_eqU t f.2]
theorem mem_eqAt {A : Around} {s : Shared} {x : V} {v : Value} (rx : RelV x v) (fx : flatV x = true) : ∀ {xs : List V} {us : List Value}, Vals xs us → xs.all flatV = true → ∀ u ∈ us, SeqAt.EqAt A s u v (eqU x u)
  | _, _, .nil, _ => fun u hu => by cases hu
  | y :: xs, u :: us, .cons r t, f => fun u' hu => by
    rw [List.all_cons, Bool.and_eq_true] at f
    rcases List.mem_cons.mp hu with rfl | hu
    · rw [eqU_of r f.1]; exact eqAt_V r rx f.1 fx
    · exact mem_eqAt rx fx t f.2 u' hu
noncomputable def inV (x : V) (xs : List V) : Bool := xs.any fun y => eqV y x
noncomputable def rIn (K : PySem.W.Frag) (neg : Bool) : R2 := fun x y H Q => ∃ p xs, y = .ref p ∧ (SqL K H p xs ∨ SqT K H p xs) ∧ flatV x = true ∧ xs.all flatV = true ∧ Q (.bl (if neg then !inV x xs else inV x xs)) H
theorem op_notIn_seq : OpR X (compareOp .NotIn) (rIn X.K true) := by
  intro pins s σ H x y v u Q I rx ry h
  obtain ⟨p, xs, rfl, hq, fx, fs, q⟩ := h
  cases ry
  rcases hq with hq | hq
  · obtain ⟨its, r, pl, hz⟩ := I.list hq
    refine SeqAt.notIn_listAt (eqU x) pl.isList (fun w hw => mem_eqAt rx fx r fs w (by simpa using hw)) ⟨.bl _, H, I, rfl, ?_⟩
    rw [show its.toArray.any (eqU x) = its.any (eqU x) by simp, any_eqU r fs]
    exact q
  · obtain ⟨its, r, pl, hz⟩ := I.tuple hq
    refine SeqAt.notIn_tupleAt (eqU x) pl (fun w hw => mem_eqAt rx fx r fs w (by simpa using hw)) ⟨.bl _, H, I, rfl, ?_⟩
    rw [show its.toArray.any (eqU x) = its.any (eqU x) by simp, any_eqU r fs]
    exact q
theorem call_len_seq : CallR X (.builtin "len") (fun xs H Q => ∃ p ys, xs = [.ref p] ∧ (SqL X.K H p ys ∨ SqT X.K H p ys) ∧ Q (.int ys.length) H) := by
  intro pins s σ H xs us Q I r h
  obtain ⟨p, ys, rfl, hq, q⟩ := h
  obtain ⟨u, rfl, rx⟩ := vals1 r
  cases rx
  have hn := line63
  rcases hq with hq | hq
  · obtain ⟨its, r', pl, hz⟩ := I.list hq
    have hlen := r'.length
    exact Calls.call_len_list pl.isList (by simp only [List.size_toArray] <;> omega) ⟨.int ys.length, H, I.tok _, ⟨s.toks + 1, by rw [List.size_toArray, hlen]⟩, q⟩
  · obtain ⟨its, r', pl, hz⟩ := I.tuple hq
    have hlen := r'.length
    exact len_tuple pl (by simp only [List.size_toArray] <;> omega) ⟨.int ys.length, H, I.tok _, ⟨s.toks + 1, by rw [List.size_toArray, hlen]⟩, q⟩
theorem call_len_str : CallR X (.builtin "len") (fun xs H Q => ∃ z, xs = [.str z] ∧ z.length ≤ sizeLine ∧ Q (.int z.length) H) := by
  intro pins s σ H xs us Q I r h
  obtain ⟨z, rfl, hz, q⟩ := h
  obtain ⟨u, rfl, t, rfl⟩ := vals1 r
  have hn := line63
  exact len_str (by omega) ⟨.int z.length, H, I.tok _, ⟨_, rfl⟩, q⟩
theorem call_list_of : CallR X (.type "list") (fun xs H Q => ∃ p ys, xs = [.ref p] ∧ (SqL X.K H p ys ∨ SqT X.K H p ys) ∧ ∀ l, H l = none → Q (.ref l) (upd H l (.lst ys))) := by
  intro pins s σ H xs us Q I r h
  obtain ⟨p, ys, rfl, hq, q⟩ := h
  obtain ⟨u, rfl, rx⟩ := vals1 r
  cases rx
  have fin : ∀ (its : List Value), Vals ys its → ys.length ≤ sizeLine → ∀ (h' : Heap) (c' : Nat), (∀ b o', s.heap.get? b = some o' → h'.get? b = some o') →
      h'.get? s.heap.objs.size = some { cls := .type "list", dict := none, data := .seq its.toArray c', slots := #[] } → EP X pins σ Q (.ref s.heap.objs.size) { s with heap := h' } := fun its r' hz h' c' kp e =>
    ⟨.ref s.heap.objs.size, _, I.laid (t' := s.toks) kp (Nat.le_refl _) (show ObjOk X.prog X.w _ h' _ (.lst ys) from ⟨hz, its, c', r', e⟩), rfl, q _ (I.hok.fresh (Nat.le_refl _))⟩
  rcases hq with hq | hq
  · obtain ⟨its, r', pl, hz⟩ := I.list hq
    have hlen := r'.length
    obtain ⟨o, ho, hc, n, hd⟩ := pl.isList
    exact call_list_seq p (.inl rfl) ho hc hd (fun h' c' kp e => fin its r' hz h' c' kp e) (by simp only [List.size_toArray] <;> omega)
  · obtain ⟨its, r', pl, hz⟩ := I.tuple hq
    have hlen := r'.length
    obtain ⟨o, ho, hc, n, hd⟩ := pl
    exact call_list_seq p (.inr rfl) ho hc hd (fun h' c' kp e => fin its r' hz h' c' kp e) (by simp only [List.size_toArray] <;> omega)
noncomputable def tyV (K : PySem.W.Frag) (T : String) (x : V) (H : Hp) : Prop := match x with
  | .str _ => T = "str"
  | .int _ => T = "int"
  | .ref p => (T = "list" ∧ ∃ xs, SqL K H p xs) ∨ (T = "tuple" ∧ ∃ o, K.lookup p = some o ∧ o.cls = .type "tuple" ∧ o.dict = none) ∨
      (T = "dict" ∧ ((∃ kvs, H p = some (.dK kvs)) ∨ ∃ kvs, H p = some (.dT kvs))) ∨ (T = "set" ∧ ∃ S n, H p = some (.set S n))
  | _ => False
theorem tyV_is {pins : List (Addr × Obj)} {σ : St} {H : Hp} {s : Shared} {T : String} {x : V} {v : Value} (I : Inv X pins σ H s) (r : RelV x v) (ty : tyV X.K T x H) :
    s.TypeIs v T ∧ ∀ a, v = .ref a → ∃ ob, s.heap.get? a = some ob ∧ ob.dict = none := by
  cases x with
  | str z =>
    obtain ⟨t, rfl⟩ := r
    cases (show T = "str" from ty)
    exact ⟨typeIs_str s z t, fun _ e => nomatch e⟩
  | int i =>
    obtain ⟨t, rfl⟩ := r
    cases (show T = "int" from ty)
    exact ⟨typeIs_int s i t, fun _ e => nomatch e⟩
  | ref p =>
    cases r
    rcases ty with ⟨rfl, xs, hq⟩ | ⟨rfl, o, hk, hc, hd⟩ | ⟨rfl, hk⟩ | ⟨rfl, S, n, hk⟩
    · obtain ⟨its, _, pl, _⟩ := I.list hq
      refine ⟨pl.isList.typeIs, fun a e => ?_⟩
      cases e
      obtain ⟨o, n, e, c, hd, _⟩ := pl
      exact ⟨o, e, hd⟩
    · refine ⟨⟨o, I.kIn p o hk, hc⟩, fun a e => ?_⟩
      cases e
      exact ⟨o, I.kIn _ o hk, hd⟩
    · have z : ∃ o, s.heap.get? p = some o ∧ o.ExactDict := by
        rcases hk with ⟨kvs, hk⟩ | ⟨kvs, hk⟩
        · obtain ⟨_, _, _, _, o, _, _, e, ex, _⟩ := I.hok p _ hk
          exact ⟨o, e, ex⟩
        · obtain ⟨_, _, _, _, o, _, _, e, ex, _⟩ := I.hok p _ hk
          exact ⟨o, e, ex⟩
      obtain ⟨o, e, ex⟩ := z
      refine ⟨⟨o, e, ex.1⟩, fun a e2 => ?_⟩
      cases e2
      exact ⟨o, e, ex.2.1⟩
    · obtain ⟨o, _, _, _, e, ex, _⟩ := I.hok p _ hk
      refine ⟨⟨o, e, ex.1⟩, fun a e2 => ?_⟩
      cases e2
      exact ⟨o, e, ex.2.1⟩
  | _ => exact False.elim ty
noncomputable def tBM0 (K : PySem.W.Frag) (T : String) (r : V → List V → Hp → VK → Prop) (to : TE) : TE := fun σ H Q => to σ H fun x H1 => tyV K T x H1 ∧ r x [] H1 Q
noncomputable def tBM (K : PySem.W.Frag) (T : String) (r : V → List V → Hp → VK → Prop) (to : TE) (t : TA) : TE := fun σ H Q => to σ H fun x H1 => tyV K T x H1 ∧ t σ H1 fun xs H2 => r x xs H2 Q
variable {o e : Expr} {es : List Expr} {to : TE} {t : TA} {name : Str} {apos cpos : Pos} {T id : String} {r : V → List V → Hp → VK → Prop}
theorem pe_bm0 (pa : PlainAttrs T) (slot : Slot T name id) (hty : typeOf (.builtin id) = pure (.type "method_descriptor")) (hm : MtR X id r) (ho : PE X o to)
    (hbase : attributeBase o name X.env (eval o X.env) = eval o X.env := by rfl) (hline : (apos.endLine == cpos.line) = true := by rfl) : PE X (.Call (.Attribute o name apos) [] [] cpos) (tBM0 X.K T r to) := by
  intro pins s σ H Q I h
  refine wpAny_Call_method0_late hbase hline (thn (ho pins s σ H _ I h) fun v s1 zq192 => zq192.elim fun x zq193 => zq193.elim fun H1 zq194 => zq194.elim fun I1 zq195 => zq195.elim fun r1 zq196 => zq196.elim fun ty q1 => ?_)
  obtain ⟨h1, h2⟩ := tyV_is I1 r1 ty
  exact ⟨T, id, pa, slot, hty, h1, h2, Calls.callWith_builtin rfl (PySem.evalArgs_none (hm pins s1 σ H1 x [] v [] Q I1 r1 .nil q1))⟩
theorem pe_bm (pa : PlainAttrs T) (slot : Slot T name id) (hty : typeOf (.builtin id) = pure (.type "method_descriptor")) (hm : MtR X id r) (ho : PE X o to) (ha : PA X (e :: es) t)
    (hbase : attributeBase o name X.env (eval o X.env) = eval o X.env := by rfl)
    (hfew : ((backTo cpos (starEach (e :: es) X.env)).all (fun x => !x.1) && (backToKw cpos (keywordEach [] X.env)).all (fun x => x.1.isSome)
      && decide ((e :: es).length + ([] : List Keyword).length + (if ([] : List Keyword).isEmpty then 0 else 1) < 30)) = true := by rfl)
    (hline : (apos.endLine == cpos.line) = true := by rfl) (hs : starEach (e :: es) X.env = (false, eval e X.env) :: starEach es X.env := by rfl) (hplain : (backTo cpos (starEach es X.env)).any (·.1) = false := by rfl) :
    PE X (.Call (.Attribute o name apos) (e :: es) [] cpos) (tBM X.K T r to t) := by
  intro pins s σ H Q I h
  refine wpAny_Call_method_late hbase hfew hline rfl (thn (ho pins s σ H _ I h) fun v s1 zq197 => zq197.elim fun x zq198 => zq198.elim fun H1 zq199 => zq199.elim fun I1 zq200 => zq200.elim fun r1 zq201 => zq201.elim fun ty q1 => ?_)
  obtain ⟨h1, h2⟩ := tyV_is I1 r1 ty
  refine ⟨T, id, pa, slot, hty, h1, h2, ?_⟩
  have hA := ha cpos pins s1 σ H1 _ I1 q1
  rw [hs] at hA ⊢
  refine Calls.callWith_builtin (by show (false || (backTo cpos (starEach es X.env)).any (·.1)) = false; rw [hplain] <;> rfl) (Calls.evalArgs_plain ?_)
  exact thn hA fun us s2 zq202 => zq202.elim fun vs zq203 => zq203.elim fun H2 zq204 => zq204.elim fun I2 zq205 => zq205.elim fun r2 q2 => hm pins s2 σ H2 x vs v us Q I2 r1 r2 q2
end
end L2
namespace L2
open PySem PySem.Spec PyProof.Rows
noncomputable def MtM (X : Cx) (id : String) (r : V → List V → Hp → VK → Prop) : Prop :=
  ∀ (pins : List (Addr × Obj)) (s : Shared) (σ : St) (H : Hp) (x : V) (xs : List V) (v : Value) (us : List Value) (Q : VK), Inv X pins σ H s → RelV x v → Vals xs us → r x xs H Q →
    wpAny (model X.prog X.w) X.A (call (.builtin id) (v :: us)) (EP X pins σ Q) X.xe s
theorem Vals.one {x : V} {us : List Value} (h : Vals [x] us) : ∃ u, us = [u] ∧ RelV x u := by
  cases h with
  | cons r t =>
    cases t
    exact ⟨_, rfl, r⟩
theorem Vals.zero : ∀ {us : List Value}, Vals [] us → us = []
  | _, .nil => rfl
section
variable {X : Cx} {pins : List (Addr × Obj)} {σ : St} {H : Hp} {s : Shared} {l b : Addr} {xs ys zs : List V}
theorem Inv.lset {its its' : List Value} {n : Nat} {f : Array Value → Array Value} {t' : Nat} (I : Inv X pins σ H s) (hH : H l = some (.lst xs))
    (e : s.heap.get? l = some { cls := .type "list", data := .seq its.toArray n }) (hf : f its.toArray = its'.toArray) (hv : Vals ys its') (hz : ys.length ≤ sizeLine) :
    Inv X pins σ (upd H l (.lst ys)) { s with heap := s.heap.update l (Obj.mapSeq f), toks := t' } := by
  have q := PySem.IsL.update e f
  rw [hf] at q
  refine I.write (x := l) (e := l) (by rw [hH]; exact trivial) (.inl rfl) (fun b' u hb hu => (Heap.get?_update_other s.heap (Obj.mapSeq f) (Ne.symm hb)).trans hu) ⟨_, q⟩ ?_
  exact ⟨hz, its', _, hv, q⟩
theorem Inv.lnew {its : List Value} {t' : Nat} (I : Inv X pins σ H s) (hv : Vals ys its) (hz : ys.length ≤ sizeLine) :
    Inv X pins σ (upd H s.heap.objs.size (.lst ys)) { s with heap := s.heap.push { cls := .type "list", data := .seq its.toArray }, toks := t' } :=
  I.laid (fun _ _ q => Heap.get?_push_of_some _ q) (Nat.le_refl _) ⟨hz, its, 0, hv, Heap.get?_push_size _ rfl⟩
theorem Inv.fresh (I : Inv X pins σ H s) : H s.heap.objs.size = none := I.hok.fresh (Nat.le_refl _)
theorem Inv.lstM (I : Inv X pins σ H s) (hH : H l = some (.lst xs)) : xs.length ≤ sizeLine ∧ ∃ (its : List Value) (n : Nat), Vals xs its ∧ xs.length = its.length ∧ s.heap.get? l = some { cls := .type "list", data := .seq its.toArray n } := by
  obtain ⟨z, its, n, r, e⟩ := I.hok l _ hH
  exact ⟨z, its, n, r, r.length, e⟩
theorem notLongL {n : Nat} (h : n ≤ sizeLine) : Builtin.List.listTooLong n = false := by
  unfold Builtin.List.listTooLong
  exact decide_eq_false (by omega)
end
section
variable {X : Cx}
noncomputable def rAppend : V → List V → Hp → VK → Prop := fun x vs H Q => ∃ l xs y, x = .ref l ∧ vs = [y] ∧ H l = some (.lst xs) ∧ xs.length < sizeLine ∧ Q .non (upd H l (.lst (xs ++ [y])))
theorem mt_append : MtM X "list.append" rAppend := by
  intro pins s σ H x vs v us Q I rx rv h
  obtain ⟨l, xs, y, rfl, rfl, hH, hz, q⟩ := h
  cases rx
  obtain ⟨u, rfl, ru⟩ := rv.one
  obtain ⟨z, its, n, r, hl, e⟩ := I.lstM hH
  refine call_meets F.slot_list_append ⟨_, e, rfl⟩ F.entry_list_append (F.args_list_append_2 _ _) (PySem.list_append l its.toArray n u (by rw [List.size_toArray]; omega)) ⟨e, ?_⟩
  refine ⟨.non, _, I.lset (its' := its ++ [u]) hH e (by simp) (r.append (.cons ru .nil)) ?_, rfl, q⟩
  rw [List.length_append, List.length_singleton]
  omega
noncomputable def rExtend : V → List V → Hp → VK → Prop := fun x vs H Q => ∃ l b xs zs, x = .ref l ∧ vs = [.ref b] ∧ H l = some (.lst xs) ∧ H b = some (.lst zs) ∧ xs.length + zs.length ≤ sizeLine ∧ Q .non (upd H l (.lst (xs ++ zs)))
theorem mt_extend : MtM X "list.extend" rExtend := by
  intro pins s σ H x vs v us Q I rx rv h
  obtain ⟨l, b, xs, zs, rfl, rfl, hH, hB, hz, q⟩ := h
  cases rx
  obtain ⟨u, rfl, ru⟩ := rv.one
  cases ru
  obtain ⟨z, its, n, r, hl, e⟩ := I.lstM hH
  obtain ⟨z2, its2, n2, r2, hl2, e2⟩ := I.lstM hB
  have hsz : its.toArray.size + its2.toArray.size ≤ sizeLine := by rw [List.size_toArray, List.size_toArray]; omega
  have hlong : ¬ (!its.toArray.isEmpty && Builtin.List.listTooLong (its.toArray.size + its2.toArray.size)) = true := by
    rw [notLongL hsz, Bool.and_false]
    exact Bool.false_ne_true
  refine call_meets F.slot_list_extend ⟨_, e, rfl⟩ F.entry_list_extend (F.args_list_extend_2 _ _)
    (AutoSeq1.list_extend_list_list_0 l its.toArray n b its2.toArray n2 hlong (by rw [List.size_toArray]; omega) (by omega)) ⟨e, e2, ?_⟩
  refine ⟨.non, _, I.lset (its' := its ++ its2) hH e (by simp) (r.append r2) ?_, rfl, q⟩
  rw [List.length_append]
  omega
noncomputable def rClear : V → List V → Hp → VK → Prop := fun x vs H Q => ∃ l xs, x = .ref l ∧ vs = [] ∧ H l = some (.lst xs) ∧ Q .non (upd H l (.lst []))
theorem mt_clear : MtM X "list.clear" rClear := by
  intro pins s σ H x vs v us Q I rx rv h
  obtain ⟨l, xs, rfl, rfl, hH, q⟩ := h
  cases rx
  have hus := rv.zero
  subst hus
  obtain ⟨z, its, n, r, hl, e⟩ := I.lstM hH
  refine call_meets F.slot_list_clear ⟨_, e, rfl⟩ F.entry_list_clear (F.args_list_clear_1 _) (AutoSeq1.list_clear_list_0 l its.toArray n (by rw [List.size_toArray]; omega)) ⟨e, ?_⟩
  exact ⟨.non, _, I.lset (its' := []) (ys := []) hH e rfl .nil (Nat.zero_le _), rfl, q⟩
noncomputable def rCat : R2 := fun x y H Q => ∃ l b xs zs, x = .ref l ∧ y = .ref b ∧ H l = some (.lst xs) ∧ H b = some (.lst zs) ∧ xs.length + zs.length ≤ sizeLine ∧ ∀ p, H p = none → Q (.ref p) (upd H p (.lst (xs ++ zs)))
theorem op_cat : OpR X (binaryOp .Add) rCat := by
  intro pins s σ H x y v u Q I rx ry h
  obtain ⟨l, b, xs, zs, rfl, rfl, hH, hB, hz, q⟩ := h
  cases rx
  cases ry
  obtain ⟨z, its, n, r, hl, e⟩ := I.lstM hH
  obtain ⟨z2, its2, n2, r2, hl2, e2⟩ := I.lstM hB
  refine PySem.P.add_list e e2 ?_ (by rw [List.size_toArray, List.size_toArray]; omega)
  have ea : its.toArray ++ its2.toArray = (its ++ its2).toArray := by simp
  rw [ea]
  exact ⟨.ref _, _, I.lnew (t' := s.toks) (r.append r2) (by rw [List.length_append]; omega), rfl, q _ I.fresh⟩
end
section
variable {prog : Program} {w : World} {A : Around} {E : Value → Shared → Prop} {s : Shared}
set_option maxRecDepth 100000 in
end
section
variable {X : Cx}
end
end L2
namespace L2
open PySem PySem.Spec PyProof.Rows
section
variable {κ : Type} [DecidableEq κ]
noncomputable def valV (kvs : List (κ × V)) (k : κ) : Option V := (kvs.find? fun kv => decide (kv.1 = k)).map (·.2)
noncomputable def putK (kvs : List (κ × V)) (k : κ) (v : V) : List (κ × V) :=
  if (kvs.any fun kv => decide (kv.1 = k)) = true then kvs.map (fun kv => if kv.1 = k then (kv.1, v) else kv) else kvs ++ [(k, v)]
theorem valV_pos {p : κ × V} {r : List (κ × V)} {k : κ} (e : p.1 = k) : valV (p :: r) k = some p.2 := by simp [valV, List.find?_cons, e]
theorem valV_neg {p : κ × V} {r : List (κ × V)} {k : κ} (e : ¬ p.1 = k) : valV (p :: r) k = valV r k := by simp [valV, List.find?_cons, e]
theorem valV_any (k : κ) : ∀ kvs : List (κ × V), (kvs.any fun kv => decide (kv.1 = k)) = (valV kvs k).isSome
  | [] => rfl
  | p :: r => by
    rw [List.any_cons]
    by_cases e : p.1 = k
    · simp only [valV_pos e, decide_eq_true e, Bool.true_or, Option.isSome_some]
    · rw [valV_neg e, decide_eq_false e, Bool.false_or]; exact valV_any k r
theorem valV_map (k j : κ) (y : V) : ∀ kvs : List (κ × V), valV (kvs.map fun kv => if kv.1 = k then (kv.1, y) else kv) j = (valV kvs j).map fun x => if j = k then y else x
  | [] => rfl
  | p :: r => by
    have ih := valV_map k j y r
    rw [List.map_cons]
    by_cases h : p.1 = k
    · rw [if_pos h]
      by_cases e : p.1 = j
      · rw [valV_pos (p := (p.1, y)) e, valV_pos e, Option.map_some, if_pos (e.symm.trans h)]
      · rw [valV_neg (p := (p.1, y)) e, valV_neg e, ih]
    · rw [if_neg h]
      by_cases e : p.1 = j
      · rw [valV_pos (p := p) e, valV_pos e, Option.map_some, if_neg (fun z => h (e.trans z))]
      · rw [valV_neg (p := p) e, valV_neg e, ih]
theorem valV_snoc (k j : κ) (y : V) : ∀ kvs : List (κ × V), valV kvs k = none → valV (kvs ++ [(k, y)]) j = if j = k then some y else valV kvs j
  | [], _ => by
    by_cases e : k = j
    · rw [if_pos e.symm]; exact valV_pos (p := (k, y)) e
    · rw [if_neg (fun z => e z.symm)]; exact valV_neg (p := (k, y)) e
  | p :: r, hn => by
    rw [List.cons_append]
    have hk : ¬ p.1 = k := fun z => by rw [valV_pos z] at hn; cases hn
    rw [valV_neg hk] at hn
    have ih := valV_snoc k j y r hn
    by_cases e : p.1 = j
    · rw [valV_pos e, valV_pos e, if_neg (fun z => hk (e.trans z))]
    · rw [valV_neg e, valV_neg e, ih]
theorem valV_put (kvs : List (κ × V)) (k j : κ) (y : V) : valV (putK kvs k y) j = if j = k then some y else valV kvs j := by
  unfold putK
  by_cases a : (kvs.any fun kv => decide (kv.1 = k)) = true
  · rw [if_pos a, valV_map]
    rw [valV_any] at a
    by_cases e : j = k
    · obtain ⟨x, hx⟩ := Option.isSome_iff_exists.mp a
      rw [if_pos e, e, hx, Option.map_some, if_pos rfl]
    · rw [if_neg e]
      cases valV kvs j with
      | none => rfl
      | some x => rw [Option.map_some, if_neg e]
  · rw [if_neg a]
    refine valV_snoc k j y kvs ?_
    rw [valV_any] at a
    cases q : valV kvs k with
    | none => rfl
    | some x => rw [q] at a; exact (a rfl).elim
theorem length_putK (kvs : List (κ × V)) (k : κ) (v : V) : (putK kvs k v).length ≤ kvs.length + 1 := by
  unfold putK
  split
  · rw [List.length_map]; omega
  · rw [List.length_append, List.length_cons, List.length_nil]; omega
theorem putK_new {kvs : List (κ × V)} {k : κ} (v : V) (h : valV kvs k = none) : putK kvs k v = kvs ++ [(k, v)] := by
  unfold putK
  rw [valV_any, h]
  exact if_neg (by decide)
theorem RelO.isSome_eq {o : Option V} {u : Option Value} (r : RelO o u) : o.isSome = u.isSome := by
  cases o with
  | none => cases u with
    | none => rfl
    | some _ => exact (show False from r).elim
  | some _ => cases u with
    | none => exact (show False from r).elim
    | some _ => rfl
theorem RelO.getD {o : Option V} {u : Option Value} {d : V} {d' : Value} (r : RelO o u) (rd : RelV d d') : RelV (o.getD d) (u.getD d') := by
  cases o with
  | none => cases u with
    | none => exact rd
    | some _ => exact (show False from r).elim
  | some _ => cases u with
    | none => exact (show False from r).elim
    | some _ => exact r
theorem KV.val {kvs : List (κ × V)} {vs : List (κ × Value)} (r : KV kvs vs) (k : κ) : RelO (valV kvs k) (valueAt vs k) := by
  unfold KV at r
  induction r with
  | nil => exact True.intro
  | @cons p q ps qs h t ih =>
    obtain ⟨h1, h2⟩ := h
    by_cases e : p.1 = k
    · have e' : q.1 = k := h1.symm.trans e
      have b : valueAt (q :: qs) k = some q.2 := by simp [valueAt, List.find?_cons, e']
      rw [valV_pos e, b]; exact h2
    · have e' : ¬ q.1 = k := fun z => e (h1.trans z)
      have b : valueAt (q :: qs) k = valueAt qs k := by simp [valueAt, List.find?_cons, e']
      rw [valV_neg e, b]; exact ih
theorem KV.any {kvs : List (κ × V)} {vs : List (κ × Value)} (r : KV kvs vs) (k : κ) : (kvs.any fun kv => decide (kv.1 = k)) = vs.any fun kv => decide (kv.1 = k) := by
  unfold KV at r
  induction r with
  | nil => rfl
  | cons h t ih => rw [List.any_cons, List.any_cons, ih, h.1]
theorem KV.repl {kvs : List (κ × V)} {vs : List (κ × Value)} (r : KV kvs vs) (k : κ) {y : V} {u : Value} (ry : RelV y u) :
    KV (kvs.map fun kv => if kv.1 = k then (kv.1, y) else kv) (vs.map fun kv => if kv.1 = k then (kv.1, u) else kv) := by
  unfold KV at r ⊢
  induction r with
  | nil => exact .nil
  | @cons p q ps qs h t ih =>
    rw [List.map_cons, List.map_cons]
    refine .cons ?_ ih
    obtain ⟨h1, h2⟩ := h
    by_cases e : p.1 = k
    · rw [if_pos e, if_pos (h1.symm.trans e)]; exact ⟨h1, ry⟩
    · rw [if_neg e, if_neg (fun z => e (h1.trans z))]; exact ⟨h1, h2⟩
theorem KV.put {kvs : List (κ × V)} {vs : List (κ × Value)} (r : KV kvs vs) (k : κ) {y : V} {u : Value} (ry : RelV y u) : KV (putK kvs k y) (stored vs k u) := by
  unfold putK stored
  rw [r.any k]
  by_cases e : (vs.any fun kv => decide (kv.1 = k)) = true
  · rw [if_pos e, if_pos e]; exact r.repl k ry
  · rw [if_neg e, if_neg e]; exact Paired.snoc r ⟨rfl, ry⟩
theorem KV.length {kvs : List (κ × V)} {vs : List (κ × Value)} (r : KV kvs vs) : kvs.length = vs.length := Paired.length r
end
theorem kV_is {P : Program} {w : World} {k : Key} {u : Value} (r : RelV (kV k) u) : (mixKind P w).is k u = true := by
  cases k with
  | inl i => obtain ⟨t, e⟩ := (show ∃ t, u = Value.int i t from r); subst e; exact mixKind_int P w i t
  | inr x => obtain ⟨t, e⟩ := (show ∃ t, u = Value.str x t from r); subst e; exact mixKind_str P w x t
theorem items_are {P : Program} {w : World} : ∀ {ks : List Key} {us : List Value}, Vals (ks.map kV) us → ItemsAre (mixKind P w) ks us
  | [], _, r => by rw [List.map_nil] at r; cases r; exact .nil
  | k :: ks, _, r => by
    rw [List.map_cons] at r
    cases r with
    | cons h t => exact .cons (kV_is h) (items_are t)
noncomputable abbrev KT (H : Hp) : List (List NI × V) → List (List NI × Addr × Value) → Prop := Paired fun p q => p.1 = q.1 ∧ NAt H p.1 q.2.1 ∧ RelV p.2 q.2.2
theorem KT.val {H : Hp} {kvs : List (List NI × V)} {xs : List (List NI × Addr × Value)} (r : KT H kvs xs) (k : List NI) : RelO (valV kvs k) ((atKey xs k).map (·.2)) := by
  induction r with
  | nil => exact True.intro
  | @cons p q ps qs h t ih =>
    obtain ⟨h1, _, h2⟩ := h
    by_cases e : p.1 = k
    · have e' : q.1 = k := h1.symm.trans e
      have b : atKey (q :: qs) k = some q.2 := by simp [atKey, List.find?_cons, e']
      rw [valV_pos e, b]; exact h2
    · have e' : ¬ q.1 = k := fun z => e (h1.trans z)
      have b : atKey (q :: qs) k = atKey qs k := by simp [atKey, List.find?_cons, e']
      rw [valV_neg e, b]; exact ih
theorem KT.repl {H : Hp} {kvs : List (List NI × V)} {xs : List (List NI × Addr × Value)} (r : KT H kvs xs) (k : List NI) {y : V} {u : Value} (ry : RelV y u) :
    KT H (kvs.map fun kv => if kv.1 = k then (kv.1, y) else kv) (xs.map (putAt k u)) := by
  induction r with
  | nil => exact .nil
  | @cons p q ps qs h t ih =>
    rw [List.map_cons, List.map_cons]
    refine .cons ?_ ih
    obtain ⟨h1, h2, h3⟩ := h
    unfold putAt
    by_cases e : p.1 = k
    · rw [if_pos e, if_pos (h1.symm.trans e)]; exact ⟨h1, h2, ry⟩
    · rw [if_neg e, if_neg (fun z => e (h1.trans z))]; exact ⟨h1, h2, h3⟩
theorem KT.put {H : Hp} {kvs : List (List NI × V)} {xs : List (List NI × Addr × Value)} (r : KT H kvs xs) (k : List NI) {b : Addr} {y : V} {u : Value} (hb : NAt H k b) (ry : RelV y u) :
    KT H (putK kvs k y) (storedH xs k b u) := by
  have e : (kvs.any fun kv => decide (kv.1 = k)) = (atKey xs k).isSome := by
    rw [valV_any, (r.val k).isSome_eq, Option.isSome_map]
  unfold putK storedH
  rw [e]
  by_cases q : (atKey xs k).isSome = true
  · rw [if_pos q, if_pos q]; exact r.repl k ry
  · rw [if_neg q, if_neg q]; exact Paired.snoc r ⟨rfl, hb, ry⟩
theorem KT.keeps {H H' : Hp} {kvs : List (List NI × V)} {xs : List (List NI × Addr × Value)} (r : KT H kvs xs) (ht : ∀ b ys, H b = some (.tup ys) → H' b = some (.tup ys)) : KT H' kvs xs :=
  Paired.mapP r fun _ _ z => ⟨z.1, z.2.1.keeps ht, z.2.2⟩
section
variable {P : Program} {w : World} {H : Hp} {h : Heap} {a : Addr}
theorem rd_of {u : HO} (ok : HOk P w H h) (e : Rd H a u) : ObjOk P w H h a u := e.ok ok
theorem dk_rd {kvs : List (Key × V)} (ok : HOk P w H h) (e : Rd H a (.dK kvs)) : kvs.length ≤ sizeLine ∧ (a == sysModules) = false ∧ ∃ vs, KV kvs vs ∧ h.DictOf (mixKind P w) a vs :=
  show ObjOk P w H h a (.dK kvs) from rd_of ok e
theorem dk_of {kvs : List (Key × V)} (ok : HOk P w H h) (e : H a = some (.dK kvs)) : kvs.length ≤ sizeLine ∧ (a == sysModules) = false ∧ ∃ vs, KV kvs vs ∧ h.DictOf (mixKind P w) a vs := dk_rd ok (.inl e)
theorem nitems_of {ks : List NI} {vs : List V} {us : List Value} (ok : HOk P w H h) (x : NVs H ks vs) (r : Vals vs us) : NItems P w h ks us := by
  induction x generalizing us with
  | nil => cases r; exact .nil
  | @cons i v ks vs p _ ih =>
    cases r with
    | cons rv rr =>
      refine .cons ?_ (ih rr)
      cases i with
      | inl k =>
        have p : v = kV k := p
        subst p
        exact kV_is (P := P) (w := w) rv
      | inr l =>
        obtain ⟨b, rfl, e⟩ := p
        cases rv
        obtain ⟨_, its, r2, o, h1, h2, n, h3⟩ := (show ObjOk P w H h b (.tup (l.map kV)) from ok b _ e)
        exact ⟨b, rfl, o, its.toArray, n, h1, h2, h3, by simpa using items_are r2⟩
theorem key_of {ks : List NI} (ok : HOk P w H h) (e : NAt H ks a) : (nestKind P w).is h ks a := by
  obtain ⟨vs, e, x⟩ := e
  obtain ⟨_, its, r, o, h1, h2, n, h3⟩ := (show ObjOk P w H h a (.tup vs) from ok a _ e)
  exact ⟨o, its.toArray, n, h1, h2, h3, by simpa using nitems_of ok x r⟩
theorem dt_rd {kvs : List (List NI × V)} (ok : HOk P w H h) (e : Rd H a (.dT kvs)) : kvs.length ≤ sizeLine ∧ (a == sysModules) = false ∧
    ∃ xs, KT H kvs xs ∧ h.DictOfH (nestKind P w) a xs := by
  obtain ⟨z, y, xs, r, o, es, ep, h1, h2, h3, h4, h5⟩ := (show ObjOk P w H h a (.dT kvs) from rd_of ok e)
  refine ⟨z, y, xs, r, o, es, ep, h1, h2, h3, h4, fun x hx => ?_, h5⟩
  have all : ∀ {l : List (List NI × V)} {m : List (List NI × Addr × Value)}, KT H l m → ∀ x ∈ m, (nestKind P w).is h x.1 x.2.1 := by
    intro l m q
    induction q with
    | nil => intro x hx; exact nomatch hx
    | @cons p q ps qs hq t ih =>
      intro x hx
      rcases List.mem_cons.mp hx with e | hx
      · subst e
        exact key_of ok (by rw [← hq.1]; exact hq.2.1)
      · exact ih x hx
  exact all r x hx
theorem dt_of {kvs : List (List NI × V)} (ok : HOk P w H h) (e : H a = some (.dT kvs)) : kvs.length ≤ sizeLine ∧ (a == sysModules) = false ∧
    ∃ xs, KT H kvs xs ∧ h.DictOfH (nestKind P w) a xs := dt_rd ok (.inl e)
end
noncomputable def DGet (H : Hp) (a : Addr) (y : V) (r : Option V) : Prop :=
  (∃ kvs k, Rd H a (.dK kvs) ∧ y = kV k ∧ r = valV kvs k) ∨ ∃ kvs k b, Rd H a (.dT kvs) ∧ y = .ref b ∧ NAt H k b ∧ r = valV kvs k
noncomputable def DPut (H : Hp) (a : Addr) (y v : V) (H' : Hp) : Prop :=
  (∃ kvs k, H a = some (.dK kvs) ∧ y = kV k ∧ kvs.length < sizeLine ∧ H' = upd H a (.dK (putK kvs k v))) ∨
  ∃ kvs k b, H a = some (.dT kvs) ∧ y = .ref b ∧ NAt H k b ∧ kvs.length < sizeLine ∧ H' = upd H a (.dT (putK kvs k v))
theorem DGet.k {H : Hp} {a : Addr} {kvs : List (Key × V)} {k : Key} (e : H a = some (.dK kvs)) : DGet H a (kV k) (valV kvs k) := .inl ⟨kvs, k, .inl e, rfl, rfl⟩
theorem DGet.t {H : Hp} {a b : Addr} {kvs : List (List NI × V)} {k : List NI} (e : H a = some (.dT kvs)) (eb : NAt H k b) : DGet H a (.ref b) (valV kvs k) := .inr ⟨kvs, k, b, .inl e, rfl, eb, rfl⟩
theorem DPut.k {H : Hp} {a : Addr} {kvs : List (Key × V)} {k : Key} {v : V} (e : H a = some (.dK kvs)) (hl : kvs.length < sizeLine) : DPut H a (kV k) v (upd H a (.dK (putK kvs k v))) := .inl ⟨kvs, k, e, rfl, hl, rfl⟩
theorem DPut.t {H : Hp} {a b : Addr} {kvs : List (List NI × V)} {k : List NI} {v : V} (e : H a = some (.dT kvs)) (eb : NAt H k b) (hl : kvs.length < sizeLine) :
    DPut H a (.ref b) v (upd H a (.dT (putK kvs k v))) := .inr ⟨kvs, k, b, e, rfl, eb, hl, rfl⟩
section
variable {X : Cx} {pins : List (Addr × Obj)} {σ : St} {H : Hp} {s : Shared} {a : Addr} {y v : V} {u r : Value} {o : Option V} {A : Around} {E : Value → Shared → Prop}
theorem Inv.big (I : Inv X pins σ H s) : sysModules < s.heap.objs.size := by
  have h : mainGlobals < s.heap.objs.size := (I.mod.glob.keeps I.bk).lt
  exact Nat.lt_trans (by decide) h
theorem d_getItem {Q : Value → Shared → Prop} (hu : A.units + 64 < cLine) (I : Inv X pins σ H s) (g : DGet H a y (some v)) (ry : RelV y u) (h : ∀ w' s', Inv X pins σ H s' → RelV v w' → Q w' s') :
    wpAny (model X.prog X.w) A (getItem (.ref a) u) Q E s := by
  rcases g with ⟨kvs, k, e, ey, l⟩ | ⟨kvs, k, b, e, ey, eb, l⟩
  · subst ey
    obtain ⟨z, hd, vs, rel, dd⟩ := dk_rd I.hok e
    obtain ⟨w', hw, rw'⟩ := RelO.some_of (v := v) (o := valueAt vs k) (by rw [l]; exact rel.val k)
    exact wpAny_getItem_of (kV_is ry) dd.mapOf hw (h w' _ (I.tok _) rw')
  · subst ey
    cases (show u = Value.ref b from ry)
    obtain ⟨z, hd, xs, rel, dd⟩ := dt_rd I.hok e
    obtain ⟨w', hw, rw'⟩ := RelO.some_of (v := v) (o := (atKey xs k).map (·.2)) (by rw [l]; exact rel.val k)
    obtain ⟨p, hp, hp2⟩ := Option.map_eq_some_iff.mp hw
    refine wpAny_getItem_heap (nestKind_room hu) (key_of I.hok eb) dd hp ?_
    rw [hp2]
    exact h w' _ (I.tok _) rw'
theorem d_in {Q : Value → Shared → Prop} (hu : A.units + 64 < cLine) (I : Inv X pins σ H s) (g : DGet H a y o) (ry : RelV y u) (h : ∀ s', Inv X pins σ H s' → Q (.bool o.isSome) s') :
    wpAny (model X.prog X.w) A (compareOp .In u (.ref a)) Q E s := by
  rcases g with ⟨kvs, k, e, ey, l⟩ | ⟨kvs, k, b, e, ey, eb, l⟩
  · subst ey
    obtain ⟨z, hd, vs, rel, dd⟩ := dk_rd I.hok e
    refine wpAny_in_of (kV_is ry) hd dd.mapOf ?_
    rw [← (rel.val k).isSome_eq, ← l]
    exact h _ (I.tok _)
  · subst ey
    cases (show u = Value.ref b from ry)
    obtain ⟨z, hd, xs, rel, dd⟩ := dt_rd I.hok e
    refine wpAny_in_heap (nestKind_room hu) (key_of I.hok eb) hd dd ?_
    have q := (rel.val k).isSome_eq
    rw [Option.isSome_map] at q
    rw [← q, ← l]
    exact h _ (I.tok _)
theorem d_notIn {Q : Value → Shared → Prop} (hu : A.units + 64 < cLine) (I : Inv X pins σ H s) (g : DGet H a y o) (ry : RelV y u) (h : ∀ s', Inv X pins σ H s' → Q (.bool (!o.isSome)) s') :
    wpAny (model X.prog X.w) A (compareOp .NotIn u (.ref a)) Q E s := by
  rcases g with ⟨kvs, k, e, ey, l⟩ | ⟨kvs, k, b, e, ey, eb, l⟩
  · subst ey
    obtain ⟨z, hd, vs, rel, dd⟩ := dk_rd I.hok e
    refine wpAny_notIn_of (kV_is ry) hd dd.mapOf ?_
    rw [← (rel.val k).isSome_eq, ← l]
    exact h _ (I.tok _)
  · subst ey
    cases (show u = Value.ref b from ry)
    obtain ⟨z, hd, xs, rel, dd⟩ := dt_rd I.hok e
    refine wpAny_notIn_heap (nestKind_room hu) (key_of I.hok eb) hd dd ?_
    have q := (rel.val k).isSome_eq
    rw [Option.isSome_map] at q
    rw [← q, ← l]
    exact h _ (I.tok _)
theorem d_write {h' : Heap} {t' : Nat} {ob : HO} (I : Inv X pins σ H s) (mu : Mut (H a)) (hs : Heap.SameBut a s.heap h') (he : ∃ q, h'.get? a = some q) (new : ObjOk X.prog X.w (upd H a ob) h' a ob) :
    Inv X pins σ (upd H a ob) { s with heap := h', toks := t' } :=
  I.write (x := a) (e := a) mu (.inl rfl) (fun b q hb z => (hs.2 b hb).trans z) he new
theorem dk_new {P : Program} {w : World} {H' : Hp} {h' : Heap} {kvs : List (Key × V)} {vs : List (Key × Value)} (z : kvs.length ≤ sizeLine) (hd : (a == sysModules) = false) (rel : KV kvs vs) (dd : h'.DictOf (mixKind P w) a vs) :
    ObjOk P w H' h' a (.dK kvs) := ⟨z, hd, vs, rel, dd⟩
theorem d_setItem {H' : Hp} {Q : Unit → Shared → Prop} (hu : A.units + 64 < cLine) (I : Inv X pins σ H s) (g : DPut H a y v H') (ry : RelV y u) (rv : RelV v r) (h : ∀ s', Inv X pins σ H' s' → Q () s') :
    wpAny (model X.prog X.w) A (setItem (.ref a) u r) Q E s := by
  rcases g with ⟨kvs, k, e, ey, l, eH⟩ | ⟨kvs, k, b, e, ey, eb, l, eH⟩
  · subst ey eH
    obtain ⟨z, hd, vs, rel, dd⟩ := dk_of I.hok e
    have hz : vs.length ≤ sizeLine := by rw [← rel.length]; exact z
    have hl : (putK kvs k v).length ≤ sizeLine := by have := length_putK kvs k v; omega
    refine wpAny_setItem_pairs (hsz := hz) (kV_is ry) dd fun h' dd' hs => h _ ?_
    have he : ∃ q, h'.get? a = some q := dd'.elim fun q zq437 => zq437.elim fun _ zq438 => zq438.elim fun _ zq439 => zq439.elim fun hq _ => ⟨q, hq⟩
    exact d_write I (by rw [e]; exact True.intro) hs he (dk_new hl hd (rel.put k rv) dd')
  · subst ey eH
    cases (show u = Value.ref b from ry)
    obtain ⟨z, hd, xs, rel, dd⟩ := dt_of I.hok e
    have hz : xs.length ≤ sizeLine := by rw [← Paired.length rel]; exact z
    have hl : (putK kvs k v).length ≤ sizeLine := by have := length_putK kvs k v; omega
    refine wpAny_setItem_heap (hsz := hz) (nestKind_room hu) (key_of I.hok eb) dd fun h' dd' hs => h _ ?_
    obtain ⟨q, es, ep, hq, h2, h3, h4, _, h5⟩ := dd'
    refine d_write I (by rw [e]; exact True.intro) hs ⟨q, hq⟩ ⟨hl, hd, _, (rel.put k eb rv).keeps fun c ys ec => ?_, q, es, ep, hq, h2, h3, h4, h5⟩
    rw [upd_ne (ne_of ec e (fun z => nomatch z))]
    exact ec
end
section
variable {X : Cx} {pins : List (Addr × Obj)} {σ : St} {H : Hp} {s : Shared} {a : Addr} {kvs : List (Key × V)} {k : Key} {u : Value} {A : Around} {E : Value → Shared → Prop}
theorem d_clear {Q : Value → Shared → Prop} (I : Inv X pins σ H s) (e : H a = some (.dK kvs)) (h : ∀ s', Inv X pins σ (upd H a (.dK [])) s' → Q .none s') : wpAny (model X.prog X.w) A (call (.builtin "dict.clear") [.ref a]) Q E s := by
  obtain ⟨z, hd, vs, rel, dd⟩ := dk_of I.hok e
  refine call_meetsIn PySem.F.slot_dict_clear dd.typeIs PySem.F.entry_dict_clear (PySem.F.args_dict_clear_1 _) (meets_dict_clear (mixKind X.prog X.w) a) ⟨vs, dd, by rw [← rel.length]; exact z, fun h' dd' hs => h _ ?_⟩
  have he : ∃ q, h'.get? a = some q := dd'.elim fun q zq440 => zq440.elim fun _ zq441 => zq441.elim fun _ zq442 => zq442.elim fun hq _ => ⟨q, hq⟩
  exact d_write (t' := s.toks) I (by rw [e]; exact True.intro) hs he (dk_new (Nat.zero_le _) hd .nil dd')
theorem d_len {Q : Value → Shared → Prop} (I : Inv X pins σ H s) (e : Rd H a (.dK kvs)) (h : ∀ t s', Inv X pins σ H s' → Q (.int kvs.length t) s') : wpAny (model X.prog X.w) A (call (.builtin "len") [.ref a]) Q E s := by
  obtain ⟨z, hd, vs, rel, dd⟩ := dk_rd I.hok e
  refine call_len_dict hd dd (by rw [← rel.length]; rw [sizeLine_eq] at z; omega) ?_
  rw [← rel.length]
  exact h _ _ (I.tok _)
end
noncomputable def NoSl (i : Expr) : Prop := ∀ ov iv, subscripted i false ov iv = operate [ov, iv] (getItem ov iv)
theorem subD_of {prog : Program} {w : World} {A : Around} {E : Value → Shared → Prop} {s : Shared} {env : Env} {value slice : Expr} {pos : Pos} {T id : String} {Q : Value → Shared → Prop}
    (hl : typeLookup (.type T) "__getitem__" = pure (some (.builtin id))) (hs : NoSl slice)
    (h : wpAny (model prog w) A (eval value env) (fun o s₁ => wpAny (model prog w) A (eval slice env) (fun i s₂ => s₂.TypeIs o T ∧ wpAny (model prog w) A (getItem o i) Q E s₂) E s₁) E s) :
    wpAny (model prog w) A (eval (.Subscript value slice pos) env) Q E s := by
  refine Subscript_ (wpAny_mono h (fun o s₁ h₁ => wpAny_mono h₁ (fun i s₂ h₂ => ?_) fun _ _ x => x) fun _ _ x => x)
  obtain ⟨hT, h₂⟩ := h₂
  unfold subscriptTail
  refine wpAny_bind ?_
  rw [getitemInPython_of_ne hT.not_modules]
  refine wpAny_bind (wpAny_specialOf hT hl ?_)
  have fin : wpAny (model prog w) A (subscripted slice false o i) (fun r s₃ => wpAny (model prog w) A (letTemporaryGo value o r >>= fun _ => pure r) Q E s₃) E s₂ := by
    rw [hs o i]
    exact wpAny_operating (wpAny_mono h₂ (fun r s₃ h₃ => wpAny_bind (wpAny_letTemporaryGo (wpAny_pure h₃))) fun _ _ x => x)
  first
    | exact wpAny_pure (wpAny_bind fin)
    | exact wpAny_bind (wpAny_pure (wpAny_bind fin))
    | exact wpAny_bind fin
theorem dict_typeIs {X : Cx} {pins : List (Addr × Obj)} {σ : St} {H : Hp} {s : Shared} {a : Addr} {y : V} {o : Option V} (I : Inv X pins σ H s) (g : DGet H a y o) : s.TypeIs (.ref a) "dict" := by
  rcases g with ⟨kvs, k, e, _, _⟩ | ⟨kvs, k, b, e, _, _, _⟩
  · obtain ⟨_, _, vs, _, dd⟩ := dk_rd I.hok e
    exact dd.typeIs
  · obtain ⟨_, _, xs, _, dd⟩ := dt_rd I.hok e
    exact dd.typeIs
noncomputable def tDGet (td ty : TE) : TE := fun σ H Q => td σ H fun x H1 => ty σ H1 fun y H2 => ∃ a v, x = .ref a ∧ DGet H2 a y (some v) ∧ Q v H2
noncomputable def tDIn (ty td : TE) : TE := fun σ H Q => ty σ H fun y H1 => td σ H1 fun x H2 => ∃ a o, x = .ref a ∧ DGet H2 a y o ∧ Q (.bl o.isSome) H2
noncomputable def tDNotIn (ty td : TE) : TE := fun σ H Q => ty σ H fun y H1 => td σ H1 fun x H2 => ∃ a o, x = .ref a ∧ DGet H2 a y o ∧ Q (.bl (!o.isSome)) H2
noncomputable def sDPut (td ty tv : TE) : TS := fun D σ H => tv σ H fun v H1 => td σ H1 fun x H2 => ty σ H2 fun y H3 => ∃ a H4, x = .ref a ∧ DPut H3 a y v H4 ∧ D.nx σ H4
section
variable {X : Cx} {o i e value : Expr} {pos pos' tpos : Pos} {td ty tv : TE}
theorem pe_dget (hu : X.A.units + 64 < cLine) (ho : PE X o td) (hi : PE X i ty) (hs : NoSl i) : PE X (.Subscript o i pos) (tDGet td ty) := by
  intro pins s σ H Q I h
  refine subD_of PySem.F.slot_dict_getitem.lookup hs (thn (ho pins s σ H _ I h) fun u s1 zq206 => zq206.elim fun x zq207 => zq207.elim fun H1 zq208 => zq208.elim fun I1 zq209 => zq209.elim fun rx q1 => thn (hi pins s1 σ H1 _ I1 q1) fun iv s2 zq210 => zq210.elim fun y zq211 => zq211.elim fun H2 zq212 => zq212.elim fun I2 zq213 => zq213.elim fun ry zq214 => zq214.elim fun a zq215 => zq215.elim fun v zq216 => zq216.elim fun ex zq217 => zq217.elim fun g q2 => ?_)
  subst ex
  obtain rfl : u = Value.ref a := rx
  exact ⟨dict_typeIs I2 g, d_getItem hu I2 g ry fun w' s3 I3 rw' => ⟨v, H2, I3, rw', q2⟩⟩
theorem pc_din (hu : X.A.units + 64 < cLine) (hi : PE X i ty) (ho : PE X o td) : PC X .In i o (tDIn ty td) := by
  intro pins s σ H Q I h
  refine thn (hi pins s σ H _ I h) fun iv s1 zq218 => zq218.elim fun y zq219 => zq219.elim fun H1 zq220 => zq220.elim fun I1 zq221 => zq221.elim fun ry q1 => thn (ho pins s1 σ H1 _ I1 q1) fun u s2 zq222 => zq222.elim fun x zq223 => zq223.elim fun H2 zq224 => zq224.elim fun I2 zq225 => zq225.elim fun rx zq226 => zq226.elim fun a zq227 => zq227.elim fun ov zq228 => zq228.elim fun ex zq229 => zq229.elim fun g q2 => ?_
  subst ex
  obtain rfl : u = Value.ref a := rx
  exact d_in hu I2 g ry fun s3 I3 => ⟨.bl ov.isSome, H2, I3, rfl, q2⟩
theorem pc_dnotin (hu : X.A.units + 64 < cLine) (hi : PE X i ty) (ho : PE X o td) : PC X .NotIn i o (tDNotIn ty td) := by
  intro pins s σ H Q I h
  refine thn (hi pins s σ H _ I h) fun iv s1 zq230 => zq230.elim fun y zq231 => zq231.elim fun H1 zq232 => zq232.elim fun I1 zq233 => zq233.elim fun ry q1 => thn (ho pins s1 σ H1 _ I1 q1) fun u s2 zq234 => zq234.elim fun x zq235 => zq235.elim fun H2 zq236 => zq236.elim fun I2 zq237 => zq237.elim fun rx zq238 => zq238.elim fun a zq239 => zq239.elim fun ov zq240 => zq240.elim fun ex zq241 => zq241.elim fun g q2 => ?_
  subst ex
  obtain rfl : u = Value.ref a := rx
  exact d_notIn hu I2 g ry fun s3 I3 => ⟨.bl (!ov.isSome), H2, I3, rfl, q2⟩
theorem ps_dput (hu : X.A.units + 64 < cLine) (ho : PE X o td) (hi : PE X i ty) (hv : PE X value tv) (hs : swapsWith value (some (.Subscript o i pos')) pos.line X.env = pure false) :
    PS X (.Assign [.Subscript o i pos'] value pos) (sDPut td ty tv) := by
  intro pins s σ H D I h
  refine wpAny_Assign_Subscript (thn (hv pins s σ H _ I h) fun r s1 zq242 => zq242.elim fun v zq243 => zq243.elim fun H1 zq244 => zq244.elim fun I1 zq245 => zq245.elim fun rv q1 => thn (ho pins s1 σ H1 _ I1 q1) fun u s2 zq246 => zq246.elim fun x zq247 => zq247.elim fun H2 zq248 => zq248.elim fun I2 zq249 => zq249.elim fun rx q2 => thn (hi pins s2 σ H2 _ I2 q2) fun iv s3 zq250 => zq250.elim fun y zq251 => zq251.elim fun H3 zq252 => zq252.elim fun I3 zq253 => zq253.elim fun ry zq254 => zq254.elim fun a zq255 => zq255.elim fun H4 zq256 => zq256.elim fun ex zq257 => zq257.elim fun g q3 => ?_) hs
  subst ex
  obtain rfl : u = Value.ref a := rx
  exact d_setItem hu I3 g ry rv fun s4 I4 => ⟨σ, H4, I4, q3⟩
end
theorem dk_empty {P : Program} {w : World} {H : Hp} (h : Heap) (hb : sysModules < h.objs.size) : ObjOk P w H (h.push { cls := .type "dict", data := .dict #[] }) h.objs.size (.dK []) :=
  ⟨Nat.zero_le _, beq_eq_false_iff_ne.mpr (Ne.symm (Nat.ne_of_lt hb)), [], .nil, Heap.DictOf.new h⟩
theorem dt_empty {P : Program} {w : World} {H : Hp} (h : Heap) (hb : sysModules < h.objs.size) : ObjOk P w H (h.push { cls := .type "dict", data := .dict #[] }) h.objs.size (.dT []) :=
  ⟨Nat.zero_le _, beq_eq_false_iff_ne.mpr (Ne.symm (Nat.ne_of_lt hb)), [], .nil, _, #[], 0, Heap.get?_push_size _ rfl, ⟨rfl, rfl, rfl⟩, rfl, rfl, List.nodup_nil⟩
noncomputable def tDNewK : TE := fun _ H Q => ∀ p, H p = none → Q (.ref p) (upd H p (.dK []))
noncomputable def tDNewT : TE := fun _ H Q => ∀ p, H p = none → Q (.ref p) (upd H p (.dT []))
section
variable {X : Cx} {pos : Pos}
theorem pe_dnewK : PE X (.Dict [] [] pos) tDNewK := fun pins s σ H Q I h =>
  wpAny_Dict_empty ⟨.ref s.heap.objs.size, _, I.laid (a := s.heap.objs.size) (o := .dK []) (t' := s.toks) (fun _ _ q => Heap.get?_push_of_some _ q) (Nat.le_refl _) (dk_empty s.heap I.big), rfl, h _ (I.hok.fresh (Nat.le_refl _))⟩
theorem pe_dnewT : PE X (.Dict [] [] pos) tDNewT := fun pins s σ H Q I h =>
  wpAny_Dict_empty ⟨.ref s.heap.objs.size, _, I.laid (a := s.heap.objs.size) (o := .dT []) (t' := s.toks) (fun _ _ q => Heap.get?_push_of_some _ q) (Nat.le_refl _) (dt_empty s.heap I.big), rfl, h _ (I.hok.fresh (Nat.le_refl _))⟩
end
noncomputable def tPairs : List (TE × TE) → St → Hp → (List (V × V) → Hp → Prop) → Prop
  | [], _, H, Q => Q [] H
  | (tk, tv) :: r, σ, H, Q => tk σ H fun x H1 => tv σ H1 fun y H2 => tPairs r σ H2 fun ps H3 => Q ((x, y) :: ps) H3
noncomputable abbrev VV : List (V × V) → List (Value × Value) → Prop := Paired fun p q => RelV p.1 q.1 ∧ RelV p.2 q.2
noncomputable def PPs (X : Cx) (pos : Pos) (keys : List (Option Expr)) (values : List Expr) (trs : List (TE × TE)) : Prop :=
  ∀ (pins : List (Addr × Obj)) (s : Shared) (σ : St) (H : Hp) (Q : List (V × V) → Hp → Prop), Inv X pins σ H s → tPairs trs σ H Q →
    wpAny (model X.prog X.w) X.A (evalPairs (pairTrees keys values X.env pos)) (fun vs s' => ∃ ps H', Inv X pins σ H' s' ∧ VV ps vs ∧ Q ps H') X.xe s
theorem pps_nil {X : Cx} {pos : Pos} : PPs X pos [] [] [] := fun pins s σ H Q I h => pairTrees_nil_walk ⟨[], H, I, .nil, h⟩
theorem pps_cons {X : Cx} {pos : Pos} {k v : Expr} {ks : List (Option Expr)} {vs : List Expr} {tk tv : TE} {trs : List (TE × TE)} (hk : PE X k tk) (hv : PE X v tv) (hr : PPs X pos ks vs trs) :
    PPs X pos (some k :: ks) (v :: vs) ((tk, tv) :: trs) := fun pins s σ H Q I h =>
  pairTrees_cons_walk (thn (hk pins s σ H _ I h) fun u s1 zq258 => zq258.elim fun x zq259 => zq259.elim fun H1 zq260 => zq260.elim fun I1 zq261 => zq261.elim fun rx q1 => thn (hv pins s1 σ H1 _ I1 q1) fun w2 s2 zq262 => zq262.elim fun y zq263 => zq263.elim fun H2 zq264 => zq264.elim fun I2 zq265 => zq265.elim fun ry q2 => 
    thn (hr pins s2 σ H2 _ I2 q2) fun ws s3 zq266 => zq266.elim fun ps zq267 => zq267.elim fun H3 zq268 => zq268.elim fun I3 zq269 => zq269.elim fun rel q3 => ⟨(x, y) :: ps, H3, I3, .cons ⟨rx, ry⟩ rel, q3⟩)
noncomputable def mergeK (kvs more : List (Key × V)) : List (Key × V) := more.foldl (fun acc kv => putK acc kv.1 kv.2) kvs
theorem KV.merge : ∀ {more : List (Key × V)} {rs : List (Key × Value)} {kvs : List (Key × V)} {vs : List (Key × Value)}, KV more rs → KV kvs vs → KV (mergeK kvs more) (merged vs rs) := by
  intro more rs kvs vs r
  unfold KV at r
  induction r generalizing kvs vs with
  | nil => intro q; exact q
  | @cons p q ps qs h t ih =>
    intro r0
    have e : KV (putK kvs p.1 p.2) (stored vs q.1 q.2) := by
      have := r0.put p.1 h.2
      rw [← h.1]; exact this
    exact ih e
theorem length_mergeK : ∀ (more kvs : List (Key × V)), (mergeK kvs more).length ≤ kvs.length + more.length
  | [], kvs => by show kvs.length ≤ kvs.length + 0; omega
  | p :: r, kvs => by
    have h1 := length_mergeK r (putK kvs p.1 p.2)
    have h2 := length_putK kvs p.1 p.2
    show (mergeK (putK kvs p.1 p.2) r).length ≤ _
    rw [List.length_cons]; omega
theorem carries_of {P : Program} {w : World} : ∀ {kvs : List (Key × V)} {ws : List (Value × Value)}, VV (kvs.map fun kv => (kV kv.1, kv.2)) ws → ∃ rs, Carries (mixKind P w) ws rs ∧ KV kvs rs
  | [], _, r => by rw [List.map_nil] at r; cases r; exact ⟨[], True.intro, .nil⟩
  | p :: kvs, _, r => by
    rw [List.map_cons] at r
    cases r with
    | @cons a b as bs h t =>
      obtain ⟨rs, c, q⟩ := carries_of (P := P) (w := w) t
      obtain ⟨b1, b2⟩ := b
      exact ⟨(p.1, b2) :: rs, ⟨kV_is h.1, rfl, c⟩, .cons ⟨rfl, h.2⟩ q⟩
noncomputable def tDisp (trs : List (TE × TE)) : TE := fun σ H Q => ∀ p, H p = none → tPairs trs σ (upd H p (.dK [])) fun ps H2 => H2 p = some (.dK []) ∧ ∃ kvs : List (Key × V), ps = kvs.map (fun kv => (kV kv.1, kv.2)) ∧ kvs.length ≤ 15 ∧ Q (.ref p) (upd H2 p (.dK (mergeK [] kvs)))
theorem pe_disp {X : Cx} {pos : Pos} {keys : List (Option Expr)} {values : List Expr} {trs : List (TE × TE)} (h : PPs X pos keys values trs) (hall : keys.all (·.isSome) = true) (hl : keys.length = values.length) (h0 : keys ≠ [])
    (h15 : keys.length ≤ 15) : PE X (.Dict keys values pos) (tDisp trs) := by
  intro pins s σ H Q I q
  have hn := I.hok.fresh (Nat.le_refl s.heap.objs.size)
  have I1 := I.laid (a := s.heap.objs.size) (o := .dK []) (h' := s.heap.push { cls := .type "dict", data := .dict #[] }) (t' := s.toks) (fun _ _ q => Heap.get?_push_of_some _ q) (Nat.le_refl _) (dk_empty s.heap I.big)
  refine wpAny_Dict_walk (knd := mixKind X.prog X.w) hall hl h0 h15 (thn (h pins _ σ _ _ I1 (q _ hn)) fun ws s2 zq270 => zq270.elim fun ps zq271 => zq271.elim fun H2 zq272 => zq272.elim fun I2 zq273 => zq273.elim fun rel zq274 => zq274.elim fun e zq275 => zq275.elim fun kvs zq276 => zq276.elim fun ep zq277 => zq277.elim fun lk q2 => ?_)
  subst ep
  obtain ⟨rs, c, rk⟩ := carries_of (P := X.prog) (w := X.w) rel
  obtain ⟨z, hd, vs0, r0, dd⟩ := dk_of I2.hok e
  cases r0
  refine ⟨rs, c, dd, fun h' dd' hs => ⟨.ref s.heap.objs.size, _, ?_, rfl, q2⟩⟩
  have hz : (mergeK [] kvs).length ≤ sizeLine := by
    have h1 := length_mergeK kvs []
    rw [List.length_nil] at h1
    rw [sizeLine_eq]; omega
  have he : ∃ q, h'.get? s.heap.objs.size = some q := dd'.elim fun q zq443 => zq443.elim fun _ zq444 => zq444.elim fun _ zq445 => zq445.elim fun hq _ => ⟨q, hq⟩
  exact d_write I2 (by rw [e]; exact True.intro) hs he (dk_new hz hd (rk.merge .nil) dd')
structure M2 (X : Cx) (o : Expr) (m : Str) (apos : Pos) (e f : Expr) (cpos : Pos) : Prop where
  base : attributeBase o m X.env (eval o X.env) = eval o X.env
  few : ((backTo cpos (starEach [e, f] X.env)).all (fun x => !x.1) && (backToKw cpos (keywordEach [] X.env)).all (fun x => x.1.isSome)
    && decide (([e, f] : List Expr).length + ([] : List Keyword).length + (if ([] : List Keyword).isEmpty then 0 else 1) < 30)) = true
  line : (apos.endLine == cpos.line) = true
  trees : backTo cpos (starEach [e, f] X.env) = [(false, eval e X.env), (false, eval f X.env)]
noncomputable def IsD (H : Hp) (a : Addr) : Prop := (∃ kvs, Rd H a (.dK kvs)) ∨ ∃ kvs, Rd H a (.dT kvs)
theorem isD_at {X : Cx} {pins : List (Addr × Obj)} {σ : St} {H : Hp} {s : Shared} {a : Addr} (I : Inv X pins σ H s) (d : IsD H a) :
    s.TypeIs (.ref a) "dict" ∧ (∀ b, Value.ref a = .ref b → ∃ ob, s.heap.get? b = some ob ∧ ob.dict = none) ∧ (a == sysModules) = false := by
  rcases d with ⟨kvs, e⟩ | ⟨kvs, e⟩
  · obtain ⟨_, hd, vs, _, dd⟩ := dk_rd I.hok e
    refine ⟨dd.typeIs, fun b q => ?_, hd⟩
    cases q
    obtain ⟨ob, _, _, h1, h2, _⟩ := dd
    exact ⟨ob, h1, h2.2.1⟩
  · obtain ⟨_, hd, xs, _, dd⟩ := dt_rd I.hok e
    refine ⟨dd.typeIs, fun b q => ?_, hd⟩
    cases q
    obtain ⟨ob, _, _, h1, h2, _⟩ := dd
    exact ⟨ob, h1, h2.2.1⟩
section
variable {X : Cx} {pins : List (Addr × Obj)} {σ : St} {H : Hp} {s : Shared} {a : Addr} {y d : V} {u r : Value} {o : Option V} {A : Around} {E : Value → Shared → Prop}
theorem d_get2 {Q : Value → Shared → Prop} (hu : A.units + 64 < cLine) (I : Inv X pins σ H s) (g : DGet H a y o) (ry : RelV y u) (rd : RelV d r) (h : ∀ w' s', Inv X pins σ H s' → RelV (o.getD d) w' → Q w' s') :
    wpAny (model X.prog X.w) A (call (.builtin "dict.get") [.ref a, u, r]) Q E s := by
  rcases g with ⟨kvs, k, e, ey, l⟩ | ⟨kvs, k, b, e, ey, eb, l⟩
  · subst ey
    obtain ⟨z, hd, vs, rel, dd⟩ := dk_rd I.hok e
    refine call_meetsIn PySem.F.slot_dict_get dd.typeIs PySem.F.entry_dict_get (PySem.F.args_dict_get_3 _ _ _) (meets_dict_get_default (mixKind X.prog X.w) a (kV_is ry) hd r) ⟨_, dd.mapOf, h _ _ (I.tok _) ?_⟩
    rw [l]
    exact (rel.val k).getD rd
  · subst ey
    cases (show u = Value.ref b from ry)
    obtain ⟨z, hd, xs, rel, dd⟩ := dt_rd I.hok e
    refine call_meetsIn PySem.F.slot_dict_get dd.typeIs PySem.F.entry_dict_get (PySem.F.args_dict_get_3 _ _ _) (meetsH_dict_get_default (nestKind X.prog X.w) a b hd r) ⟨nestKind_room hu, k, xs, key_of I.hok eb, dd, h _ _ (I.tok _) ?_⟩
    rw [l]
    exact (rel.val k).getD rd
end
noncomputable def tDGet2 (td ty tx : TE) : TE := fun σ H Q => td σ H fun x H1 => ∃ a, x = .ref a ∧ IsD H1 a ∧ ty σ H1 fun y H2 => tx σ H2 fun z H3 => ∃ o, DGet H3 a y o ∧ Q (o.getD z) H3
section
variable {X : Cx} {o e f : Expr} {apos cpos : Pos} {td ty tx : TE}
theorem pe_dget2 (hu : X.A.units + 64 < cLine) (ho : PE X o td) (he : PE X e ty) (hf : PE X f tx) (m : M2 X o "get" apos e f cpos) : PE X (.Call (.Attribute o "get" apos) [e, f] [] cpos) (tDGet2 td ty tx) := by
  intro pins s σ H Q I h
  refine wpAny_Call_method m.base m.few m.line PySem.F.plainAttrs_dict PySem.F.slot_dict_get PySem.F.type_dict_get (thn (ho pins s σ H _ I h) fun u s1 zq278 => zq278.elim fun x zq279 => zq279.elim fun H1 zq280 => zq280.elim fun I1 zq281 => zq281.elim fun rx zq282 => zq282.elim fun a zq283 => zq283.elim fun ex zq284 => zq284.elim fun d q1 => ?_)
  subst ex
  obtain rfl : u = Value.ref a := rx
  obtain ⟨t1, t2, _⟩ := isD_at I1 d
  refine ⟨t1, t2, ?_⟩
  rw [m.trees]
  refine Calls.callWith_builtin rfl (Calls.evalArgs_plain (Calls.spliced_cons (thn (he pins s1 σ H1 _ I1 q1) fun iv s2 zq285 => zq285.elim fun y zq286 => zq286.elim fun H2 zq287 => zq287.elim fun I2 zq288 => zq288.elim fun ry q2 => 
    Calls.spliced_cons (thn (hf pins s2 σ H2 _ I2 q2) fun fv s3 zq289 => zq289.elim fun z zq290 => zq290.elim fun H3 zq291 => zq291.elim fun I3 zq292 => zq292.elim fun rz zq293 => zq293.elim fun ov zq294 => zq294.elim fun g q3 => Calls.spliced_nil ?_))))
  exact d_get2 hu I3 g ry rz fun w' s4 I4 rw' => ⟨_, H3, I4, rw', q3⟩
end
section
variable {X : Cx} {pins : List (Addr × Obj)} {σ : St} {H : Hp} {s : Shared} {a : Addr} {kvs : List (Key × V)} {A : Around} {E : Value → Shared → Prop}
theorem d_copyOf {Q : Value → Shared → Prop} (I : Inv X pins σ H s) (e : Rd H a (.dK kvs)) (h : ∀ p s', H p = none → Inv X pins σ (upd H p (.dK kvs)) s' → Q (.ref p) s') : wpAny (model X.prog X.w) A (call (.type "dict") [.ref a]) Q E s := by
  obtain ⟨z, hd, vs, rel, dd⟩ := dk_rd I.hok e
  refine kt_call_dict hd dd (by rw [← rel.length]; exact z) fun h' dd' hs => ?_
  refine h _ _ (I.hok.fresh (Nat.le_refl _)) (I.laid (a := s.heap.objs.size) (o := .dK kvs) (t' := s.toks) (fun b q hq => ?_) (Nat.le_refl _) (dk_new z (beq_eq_false_iff_ne.mpr (Ne.symm (Nat.ne_of_lt I.big))) rel dd'))
  exact (hs.2 b (Nat.ne_of_lt (Heap.lt_size hq))).trans (Heap.get?_push_of_some _ hq)
end
section
variable {X : Cx} {pins : List (Addr × Obj)} {σ : St} {H : Hp} {s : Shared} {a : Addr} {y : V} {u : Value} {A : Around} {E : Value → Shared → Prop}
end
end L2
namespace Att
open PySem PySem.W PySem.Calls PyProof.Rows
theorem ints_of_wellAll {P : Params} {h : Heap} : ∀ (ns : List Int) (vs : List Value), WellAll P h vs (ns.map WData.int) → IntsAre vs ns := by
  intro ns
  induction ns with
  | nil =>
    intro vs w
    rw [List.map_nil] at w
    cases w
    exact .nil
  | cons n ns ih =>
    intro vs w
    rw [List.map_cons] at w
    cases w with
    | cons a b =>
      cases a
      exact .cons _ _ (ih _ b)
theorem script_of {l : OpenLaw} {n : Nat} (hn : l.most = some n) {P : Params} {h : Heap} {args : List WData} {vals : List Value}
    (hpre : l.row.toRowW.claim.pre args = true) (hwl : WellAll P h vals args) :
    ∃ a vs ns, vals = [Value.ref a] ∧ args = [WData.list (ns.map WData.int)] ∧ h.get? a = some { cls := .type "list", data := .seq vs.toArray } ∧ IntsAre vs ns ∧ ns.length ≤ n := by
  have hsh : WShape.hasAll [] args [.list .int] = true := (pre_splitW hpre).1
  have hc : l.pre.holds [] { args := args } = true := (pre_splitW hpre).2
  obtain ⟨d, r, rfl, h1, h2⟩ := hasAllW_cons hsh
  obtain rfl := hasAllW_nil h2
  obtain ⟨xs, rfl, h3⟩ := hasW_list h1
  obtain ⟨ns, rfl⟩ := items_int h3
  have hlen : ns.length ≤ n := by
    unfold OpenLaw.pre at hc
    have h4 : (WTm.not (.lt (.lit (.int (n : Int))) (.len (.arg 0)))).holds [] { args := [.list (ns.map .int)] } = true := by
      have h4 := (holds_andW hc).1
      rw [hn] at h4
      exact h4
    have h5 := condW_of h4 (w_not (w_lt w_lit (w_len_list (w_arg rfl))))
    rw [List.length_map] at h5
    refine Nat.le_of_not_lt fun q => ?_
    have q' : (n : Int) < ((ns.length : Nat) : Int) := by omega
    first
      | (rw [decide_eq_true q'] at h5; exact absurd h5 (by decide))
      | (simp at h5; omega)
  cases hwl with
  | cons w1 w2 =>
    cases w2
    cases w1 with
    | list ho hall => exact ⟨_, _, ns, rfl, rfl, ho, ints_of_wellAll ns _ hall, hlen⟩
theorem post_true (l : OpenLaw) (args : List WData) : l.row.toRowW.claim.post args (.bool true) args = true :=
  postW_of (r := l.row.toRowW) (X := (true == true))
    (show WShape.has [] (.bool true) .bool = true by first | rfl | decide | simp [WShape.has, WShape.arms, WShape.armsAll])
    (show (WTm.eq .res (.lit (.bool true))).value [] { args := args, res := some (.bool true), after := args } = some (.bool (true == true)) from w_eq_bool (w_res rfl) w_lit) rfl
theorem attach_call {l : OpenLaw} {n : Nat} {q : Program} {loose : List Str} {XP : (Str → Option Value) → Heap → Prop} {YP : World → Heap → Prop} {d : DefRec}
    (hn : l.most = some n) (hdf : d.params.defaults = [])
    (call : ∀ (w : World) (s₀ s₁ : Shared) (mg mb : Str → Option Value) (fa : Addr) (o : Obj) (pm cd doc : Value) (a : Addr) (vs : List Value) (ns : List Int),
      Ground q loose [] XP w s₀ mg mb s₁.heap → YP w s₁.heap →
      s₁.heap.get? fa = some o → o.data = .func (docDef d.name d.params d.body d.scope pm cd doc) → s₁.heap.CodeRec cd d.name → mg d.name = some (.ref fa) →
      s₁.heap.get? a = some { cls := .type "list", data := .seq vs.toArray } → IntsAre vs ns → ns.length ≤ n → s₁.gens = #[] →
      codeAny (model l.prog w) callerA (.call (.ref fa) ⟨[.ref a], []⟩) (fun r s' => r = .ok (.ret (.bool true)) ∧ OldK s₁.heap s'.heap ∧ s'.os = s₁.os ∧ AllBare s'.gens) s₁) :
    WalkO q loose XP YP l.row.toRowW d [] (fun f vs => PySem.call f vs) := by
  intro w s₀ s₁ mg mb G Y fa o pm cd doc dV kV ho hd hcd hD hmg hg args vals as hpre hlay hrd hwl hlo
  obtain rfl : dV = .none := Dflts.none hD hdf
  obtain rfl : kV = .none := Dflts.noKw hD
  obtain ⟨a, vs, ns, rfl, rfl, hobj, hints, hlen⟩ := script_of hn hpre hwl
  refine enter_call (codeAny_mono (call w s₀ s₁ mg mb fa o pm cd doc a vs ns G Y ho (fd_plain hd) hcd hmg hobj hints hlen hg) fun r s' hq => ?_)
  obtain ⟨rfl, h2, h3, h4⟩ := hq
  exact ⟨.inl ⟨.bool true, .bool true, [], rfl, fun _ => rfl, .bool true, post_true l _, fun _ => ⟨List.Pairwise.nil, fun _ hm => (nomatch hm)⟩⟩, h2, h3, h4⟩
section
variable {prog : Program} {w : World} {A : Around} {E : Value → Shared → Prop} {s : Shared} {K : Frag}
end
end Att
namespace L2
open PySem PySem.Spec PyProof.Rows
theorem vals_ints : ∀ {vs : List Value} {ns : List Int}, IntsAre vs ns → Vals (ns.map V.int) vs
  | _, _, .nil => .nil
  | _, _, .cons n t h => .cons ⟨t, rfl⟩ (vals_ints h)
noncomputable def Only (H : Hp) : Prop := ∀ b, H b = none ∨ ∃ o xs, H b = some (.frz o (.lst xs))
theorem law_call {P : Program} {w : World} {K : PySem.W.Frag} {mg mb : Str → Option Value} {CX : CXT} {k : Nat} {fa a : Addr} {fd : FuncData} {x : Str} {sp : Sp} {s₁ : Shared} {vs : List Value} {ns : List Int}
    (KX : K.In s₁.heap) (hns : s₁.heap.Ns mainGlobals mg) (hb : s₁.heap.Ns builtinsNs mb) (hbb : ∀ x : Str, x ≠ "__name__" → mb x = bootBuiltins x) (hlim : s₁.heap.NoLimit) (hg : s₁.gens = #[])
    (ha : s₁.heap.get? a = some { cls := .type "list", data := .seq vs.toArray }) (hi : IntsAre vs ns) (hl : ns.length ≤ sizeLine) (hr : Room k callerA)
    (F : ∀ base : Heap, K.In base → base.Ns mainGlobals mg → FnOk P w K mg base CX k fa fd [x] sp) (hbind : ∀ (s : Shared) (u : Value), BindsTo s fd ⟨[u], []⟩ [(x, u)])
    (hsp : ∀ H : Hp, Only H → SqL K H a (ns.map V.int) → sp [.ref a] H (fun v _ => v = .bl true) fun _ _ _ => False)
    (hCX : ∀ H e s', CX [] H s₁ (fun _ _ _ => False) e s' → False) :
    codeAny (model P w) callerA (.call (.ref fa) ⟨[.ref a], []⟩) (fun r s' => r = .ok (.ret (.bool true)) ∧ OldK s₁.heap s'.heap ∧ s'.os = s₁.os ∧ AllBare s'.gens) s₁ := by
  have rv := vals_ints hi
  have lenV := hi.length
  have core : ∀ H : Hp, Only H → SqL K H a (ns.map V.int) → HOk P w H s₁.heap → (∀ b, H b ≠ none → b = a) → (H a ≠ none → K.lookup a = none) →
      codeAny (model P w) callerA (.call (.ref fa) ⟨[.ref a], []⟩) (fun r s' => r = .ok (.ret (.bool true)) ∧ OldK s₁.heap s'.heap ∧ s'.os = s₁.os ∧ AllBare s'.gens) s₁ := by
    intro H hO hS hok hA hK
    have base_of : ∀ {b : Addr} {o : Obj}, s₁.heap.get? b = some o → H b = none → (hidT s₁.heap H).get? b = some o := fun e n => hidT_get e n
    have noA : ∀ {b : Addr} {o : Obj} {es : Array DictEntry} {ep : Nat}, s₁.heap.get? b = some o → o.data = .dict es ep → H b = none := fun {b o es ep} e d => by
      cases q : H b with
      | none => rfl
      | some u =>
        have e' : b = a := hA b (by rw [q]; simp)
        subst e'
        rw [ha] at e; cases e
        have d' : Data.seq vs.toArray _ = Data.dict es ep := d
        cases d'
    have nsK : ∀ {b : Addr} {m : Str → Option Value}, s₁.heap.Ns b m → (hidT s₁.heap H).Ns b m := fun {b m} ⟨o, es, ep, e, d, r⟩ => ⟨o, es, ep, base_of e (noA e d), d, r⟩
    have hKb : K.In (hidT s₁.heap H) := fun b o e => base_of (KX b o e) (by
      cases q : H b with
      | none => rfl
      | some u =>
        have e' : b = a := hA b (by rw [q]; simp)
        subst e'
        rw [hK (by rw [q]; simp)] at e; cases e)
    have hM : Mod K mg (hidT s₁.heap H) := ⟨hKb, nsK hns, ⟨mb, nsK hb, hbb⟩, hlim.elim fun mc zq446 => zq446.elim fun h1 h2 => ⟨mc, nsK h1, h2⟩⟩
    have e0 : Env0 P w K mg (hidT s₁.heap H) callerA [] s₁ H := ⟨rfl, hM, fun b o e => of_hidT e, Nat.le_of_eq (hidT_size _ _), trivial, fun b hb => absurd (show b ∈ ([] : List Addr) from hb) (by simp), hok, .of_eq hg⟩
    refine codeAny_mono ((F _ hKb (nsK hns)).run callerA [] s₁ H ⟨[.ref a], []⟩ [.ref a] [.ref a] _ _ hr e0 (hbind s₁ (.ref a)) (.cons rfl .nil) (hsp H hO hS)) fun r s' h => ?_
    cases r with
    | error e => exact (hCX H e s' h).elim
    | ok fl =>
      cases fl with
      | next => exact False.elim h
      | brk => exact False.elim h
      | cont => exact False.elim h
      | ret u =>
        obtain ⟨v, H', os, bare, un, hok', r', q⟩ := h
        have q' : v = .bl true := q
        subst q'
        obtain rfl : u = Value.bool true := r'
        refine ⟨rfl, OldK.of_keep fun b o e => ?_, os, bare⟩
        cases q : H b with
        | none => exact un.keep b o e q (by intro z; exact absurd (show b ∈ ([] : List Addr) from z) (by simp)) (by simp)
        | some u =>
          rcases hO b with z | ⟨ob, xs, z⟩
          · rw [q] at z; cases z
          · have z2 := un.frzs b ob _ z
            obtain ⟨e1, _⟩ := hok b _ z
            obtain ⟨e2, _⟩ := hok' b _ z2
            rw [e] at e1; cases e1
            exact e2
  cases hk : K.lookup a with
  | some o =>
    have e := KX a o hk
    rw [ha] at e
    cases e
    refine core (fun _ => none) (fun _ => .inl rfl) (.inr ⟨_, vs.toArray, _, hk, rfl, rfl, rfl, by rw [List.size_toArray, lenV]; exact hl, by simpa using rv⟩) (fun b u z => by have z' : (none : Option HO) = some u := z; cases z') (fun b z => absurd rfl z) fun z => absurd rfl z
  | none =>
    refine core (fun b => if b = a then some (.frz { cls := .type "list", data := .seq vs.toArray } (.lst (ns.map V.int))) else none) (fun b => ?_) (.inl (.inr ⟨{ cls := .type "list", data := .seq vs.toArray }, if_pos rfl⟩)) (fun b u z => ?_) (fun b z => ?_) fun _ => hk
    · by_cases hb : b = a
      · exact .inr ⟨_, _, if_pos hb⟩
      · exact .inl (if_neg hb)
    · by_cases hb : b = a
      · have z' := (if_pos hb).symm.trans z
        cases z'
        subst hb
        exact ⟨ha, by rw [List.length_map]; exact hl, vs, _, rv, ha⟩
      · have z' := (if_neg hb).symm.trans z
        cases z'
    · by_cases hb : b = a
      · exact hb
      · exact absurd (if_neg hb) z
end L2
namespace L2
open PySem PySem.Spec PyProof.Rows
theorem walk_of {l : PySem.W.OpenLaw} {n k : Nat} {q : Program} {loose : List Str} {XP : (Str → Option Value) → Heap → Prop} {YP : World → Heap → Prop} {d : DefRec} {K : Params → PySem.W.Frag} {CX : World → CXT} {sp : World → Sp} {x : Str}
    (hn : l.most = some n) (hn2 : n ≤ sizeLine) (hdf : d.params.defaults = []) (hr : Room k callerA)
    (hY : ∀ (w : World) (h : Heap), YP w h → (K w.params).In h)
    (F : ∀ (w : World) (mg : Str → Option Value) (fa : Addr) (h : Heap), (K w.params).In h → h.Ns mainGlobals mg → mg d.name = some (.ref fa) →
      ∃ fd : FuncData, (∀ (s : Shared) (u : Value), BindsTo s fd ⟨[u], []⟩ [(x, u)]) ∧
        ∀ base : Heap, (K w.params).In base → base.Ns mainGlobals mg → FnOk l.prog w (K w.params) mg base (CX w) k fa fd [x] (sp w))
    (hsp : ∀ (w : World) (H : Hp) (a : Addr) (ns : List Int), ns.length ≤ n → Only H → SqL (K w.params) H a (ns.map V.int) → sp w [.ref a] H (fun v _ => v = .bl true) fun _ _ _ => False)
    (hCX : ∀ (w : World) (H : Hp) (s : Shared) (e : Value) (s' : Shared), CX w [] H s (fun _ _ _ => False) e s' → False) :
    PySem.W.WalkO q loose XP YP l.row.toRowW d [] (fun f vs => PySem.call f vs) := by
  refine Att.attach_call hn hdf fun w s₀ s₁ mg mb fa o pm cd doc a vs ns G Y ho hd hcd hmg hobj hints hlen hg => ?_
  have KX := hY w _ Y
  obtain ⟨fd, hb, hF⟩ := F w mg fa _ KX G.T.g hmg
  exact law_call KX G.T.g G.T.b G.T.builtins G.T.nolimit hg hobj hints (Nat.le_trans hlen hn2) hr hF hb (fun H hO hS => hsp w H a ns hlen hO hS) fun H e s' => hCX w H s₁ e s'
end L2
namespace L2
open PySem PySem.Spec PyProof.Rows
noncomputable def inClass (s : Stmt) (j : Nat) : Stmt := match s with
  | .ClassDef _ _ _ body _ _ _ _ _ _ _ => body.getD j (.Pass ⟨0, 0, 0, 0⟩)
  | _ => .Pass ⟨0, 0, 0, 0⟩
noncomputable def defArgs (s : Stmt) : Arguments := match s with
  | .FunctionDef _ a _ _ _ _ _ _ _ _ => a
  | _ => { posonlyargs := [], args := [], vararg := none, kwonlyargs := [], kw_defaults := [], kwarg := none, defaults := [] }
noncomputable def defBody (s : Stmt) : List Stmt := match s with
  | .FunctionDef _ _ b _ _ _ _ _ _ _ => b
  | _ => []
noncomputable def defScope (s : Stmt) : Scope := match s with
  | .FunctionDef _ _ _ _ _ _ sc _ _ _ => sc
  | _ => { kind := .function, names := [], isGenerator := false, isCoroutine := false }
noncomputable abbrev CX0 : CXT := fun _ _ _ _ _ _ => False
noncomputable abbrev E0 : XK := fun _ _ _ => False
theorem pass0 {X : Cx} : Passes CX0 X E0 := fun _ _ _ _ _ _ _ h => h.elim
structure Fun (K : PySem.W.Frag) (x qual : Str) (st : Stmt) (f : Addr) (fd : FuncData) : Prop where
  ex : ∃ (oc : Value) (od : Option Addr) (kV doc pm : Value) (an : Option Addr) (cdv ct : Value) (osl : Array (Option Value)),
    fd = PySem.W.fnOf x qual (defArgs st) (defBody st) (defScope st) .none kV doc pm an cdv ct ∧ K.lookup f = some ⟨oc, od, .func fd, osl⟩ ∧ PySem.W.codeIn K cdv qual = true
  kp : PySem.W.keepIn K (.ref f) = true
section
variable {P : Program} {w : World} {K : PySem.W.Frag} {mg : Str → Option Value} {base : Heap}
theorem Fun.ok {x qual : Str} {st : Stmt} {f : Addr} {fd : FuncData} {N ps : List Str} {k : Nat} {sp : Sp} (F : Fun K x qual st f fd) (S : FnScope N ps (defScope st)) (len : ∀ vs H Q E, sp vs H Q E → vs.length = ps.length)
    (hbody : ∀ (cdv : Value) (A : Around) (outer : List Env) (s : Shared) (H : Hp) (vs : List V) (Q : VK) (E : XK), Room k (A.deeper (envOfC qual (defScope st) s.heap.objs.size f cdv)) → sp vs H Q E →
      ∃ t, PSs (cxOf CX0 P w K mg base N qual (defScope st) f cdv A outer s H E).nox (defBody st) t ∧ t { nx := fun _ H' => Q .non H', rt := Q } (start N vs) H) : FnOk P w K mg base CX0 (k + 1) f fd ps sp := by
  obtain ⟨oc, od, kV, doc, pm, an, cdv, ct, osl, rfl, lk, hcd⟩ := F.ex
  refine fn_of lk hcd S len fun A outer s H vs Q E hr hsp => ?_
  obtain ⟨t, h, q⟩ := hbody cdv A outer s H vs Q E hr hsp
  exact ⟨t, h.nox, q⟩
theorem Fun.binds {x qual : Str} {st : Stmt} {f : Addr} {fd : FuncData} {ps : List Str} (F : Fun K x qual st f fd)
    (h : ∀ (kV doc pm : Value) (an : Option Addr) (cdv ct : Value) (us : List Value), us.length = ps.length → bindArgs (PySem.W.fnOf x qual (defArgs st) (defBody st) (defScope st) .none kV doc pm an cdv ct) ⟨us, []⟩ = pure (ps.zip us)) : Binds K fd ps [] := by
  obtain ⟨oc, od, kV, doc, pm, an, cdv, ct, osl, rfl, lk, hcd⟩ := F.ex
  exact .all (h kV doc pm an cdv ct)
theorem fun_mk {x qual : Str} {st : Stmt} {f : Addr} {oc : Value} {od an : Option Addr} {osl : Array (Option Value)} {kV doc pm cdv ct : Value} (l : K.lookup f = some ⟨oc, od, .func (PySem.W.fnOf x qual (defArgs st) (defBody st) (defScope st) .none kV doc pm an cdv ct), osl⟩)
    (c : PySem.W.codeIn K cdv qual = true) (k : PySem.W.keepIn K (.ref f) = true) : Fun K x qual st f (PySem.W.fnOf x qual (defArgs st) (defBody st) (defScope st) .none kV doc pm an cdv ct) := ⟨⟨oc, od, kV, doc, pm, an, cdv, ct, osl, rfl, l, c⟩, k⟩
end
theorem small1000 {n : Nat} (h : n ≤ 1000) : n < sizeLine := Nat.lt_of_le_of_lt h (by decide)
section
variable {X : Cx}
theorem pv (i : Nat) {x : Str} {pos : Pos} (hN : X.N[i]? = some x := by rfl) (hv : Vis X.env.scope x := by first | exact Or.inl rfl | exact Or.inr (Or.inl rfl) | exact Or.inr (Or.inr rfl)) (hd : (x == ("__debug__" : Str)) = false := by decide)
    (hcd : (x == ("__classdict__" : Str)) = false := by decide) : PE X (.Name x pos) (tVar i) := pe_var hN hv hd hcd
theorem call_lenD : CallR X (.builtin "len") (fun xs H Q => ∃ a kvs, xs = [V.ref a] ∧ H a = some (.dK kvs) ∧ Q (.int kvs.length) H) := by
  intro pins s σ H xs us Q I r h
  obtain ⟨a, kvs, rfl, ha, q⟩ := h
  obtain ⟨u, rfl, ru⟩ := vals1 r
  cases ru
  exact d_len I (.inl ha) fun t s' I' => ⟨.int kvs.length, H, I', ⟨t, rfl⟩, q⟩
end
theorem iteF {A B : Prop} (h : B) : if false = true then A else B := by
  rw [if_neg Bool.false_ne_true]
  exact h
theorem iteT {A B : Prop} (h : A) : if true = true then A else B := by
  rw [if_pos rfl]
  exact h
theorem ite2 {c A B : Prop} [Decidable c] (h1 : c → A) (h2 : ¬ c → B) : if c then A else B := by
  by_cases h : c
  · rw [if_pos h]
    exact h1 h
  · rw [if_neg h]
    exact h2 h
theorem iteNS {c A B : Prop} [Decidable c] (hc : c) (h : B) : if (!decide c) = true then A else B := by
  rw [decide_eq_true hc]
  exact iteF h
noncomputable def Same (H H' : Hp) : Prop := ∀ b o, H b = some o → H' b = some o
theorem Same.refl (H : Hp) : Same H H := fun _ _ h => h
theorem Same.trans {H H1 H2 : Hp} (a : Same H H1) (b : Same H1 H2) : Same H H2 := fun c o h => b c o (a c o h)
theorem Same.free {H H' : Hp} (e : Same H H') {l : Addr} (h : H' l = Option.none) : H l = Option.none := by
  cases q : H l with
  | none => rfl
  | some o =>
    rw [e l o q] at h
    cases h
theorem Same.seq {K : PySem.W.Frag} {H H' : Hp} {a : Addr} {xs : List V} (e : Same H H') (h : SqL K H a xs) : SqL K H' a xs := by
  rcases h with (h | ⟨o, h⟩) | h
  · exact .inl (.inl (e _ _ h))
  · exact .inl (.inr ⟨o, e _ _ h⟩)
  · exact .inr h
section
variable {κ : Type} [DecidableEq κ]
end
end L2

namespace L2
open PySem PySem.Spec PyProof.Rows
section
variable {K : PySem.W.Frag}
theorem len_succ {us : List Value} {n : Nat} (h : us.length = n + 1) : ∃ u r, us = u :: r ∧ r.length = n := by
  cases us with
  | nil => cases h
  | cons u r => exact ⟨u, r, rfl, Nat.succ.inj h⟩
theorem len_is1 {us : List Value} {l : List Str} (hl : l.length = 1) (h : us.length = l.length) : ∃ u0, us = [u0] := by
  rw [hl] at h
  obtain ⟨u0, r0, rfl, h0⟩ := len_succ h
  obtain rfl := List.eq_nil_of_length_eq_zero h0
  exact ⟨_, rfl⟩
theorem Fun.binds1 {x qual : Str} {st : Stmt} {f : Addr} {fd : FuncData} {l : List Str} (F : Fun K x qual st f fd)
    (h : ∀ (kV doc pm : Value) (an : Option Addr) (cdv ct u0 : Value), bindArgs (PySem.W.fnOf x qual (defArgs st) (defBody st) (defScope st) .none kV doc pm an cdv ct) ⟨[u0], []⟩ = pure (l.zip [u0])) (hl : l.length = 1 := by rfl) : Binds K fd l [] :=
  F.binds (ps := l) fun kV doc pm an cdv ct us e => by
    obtain ⟨u0, rfl⟩ := len_is1 hl e
    exact h kV doc pm an cdv ct u0
theorem len_is2 {us : List Value} {l : List Str} (hl : l.length = 2) (h : us.length = l.length) : ∃ u0 u1, us = [u0, u1] := by
  rw [hl] at h
  obtain ⟨u0, r0, rfl, h0⟩ := len_succ h
  obtain ⟨u1, r1, rfl, h1⟩ := len_succ h0
  obtain rfl := List.eq_nil_of_length_eq_zero h1
  exact ⟨_, _, rfl⟩
theorem Fun.binds2 {x qual : Str} {st : Stmt} {f : Addr} {fd : FuncData} {l : List Str} (F : Fun K x qual st f fd)
    (h : ∀ (kV doc pm : Value) (an : Option Addr) (cdv ct u0 u1 : Value), bindArgs (PySem.W.fnOf x qual (defArgs st) (defBody st) (defScope st) .none kV doc pm an cdv ct) ⟨[u0, u1], []⟩ = pure (l.zip [u0, u1])) (hl : l.length = 2 := by rfl) : Binds K fd l [] :=
  F.binds (ps := l) fun kV doc pm an cdv ct us e => by
    obtain ⟨u0, u1, rfl⟩ := len_is2 hl e
    exact h kV doc pm an cdv ct u0 u1
theorem len_is3 {us : List Value} {l : List Str} (hl : l.length = 3) (h : us.length = l.length) : ∃ u0 u1 u2, us = [u0, u1, u2] := by
  rw [hl] at h
  obtain ⟨u0, r0, rfl, h0⟩ := len_succ h
  obtain ⟨u1, r1, rfl, h1⟩ := len_succ h0
  obtain ⟨u2, r2, rfl, h2⟩ := len_succ h1
  obtain rfl := List.eq_nil_of_length_eq_zero h2
  exact ⟨_, _, _, rfl⟩
theorem Fun.binds3 {x qual : Str} {st : Stmt} {f : Addr} {fd : FuncData} {l : List Str} (F : Fun K x qual st f fd)
    (h : ∀ (kV doc pm : Value) (an : Option Addr) (cdv ct u0 u1 u2 : Value), bindArgs (PySem.W.fnOf x qual (defArgs st) (defBody st) (defScope st) .none kV doc pm an cdv ct) ⟨[u0, u1, u2], []⟩ = pure (l.zip [u0, u1, u2])) (hl : l.length = 3 := by rfl) : Binds K fd l [] :=
  F.binds (ps := l) fun kV doc pm an cdv ct us e => by
    obtain ⟨u0, u1, u2, rfl⟩ := len_is3 hl e
    exact h kV doc pm an cdv ct u0 u1 u2
theorem len_is4 {us : List Value} {l : List Str} (hl : l.length = 4) (h : us.length = l.length) : ∃ u0 u1 u2 u3, us = [u0, u1, u2, u3] := by
  rw [hl] at h
  obtain ⟨u0, r0, rfl, h0⟩ := len_succ h
  obtain ⟨u1, r1, rfl, h1⟩ := len_succ h0
  obtain ⟨u2, r2, rfl, h2⟩ := len_succ h1
  obtain ⟨u3, r3, rfl, h3⟩ := len_succ h2
  obtain rfl := List.eq_nil_of_length_eq_zero h3
  exact ⟨_, _, _, _, rfl⟩
theorem Fun.binds4 {x qual : Str} {st : Stmt} {f : Addr} {fd : FuncData} {l : List Str} (F : Fun K x qual st f fd)
    (h : ∀ (kV doc pm : Value) (an : Option Addr) (cdv ct u0 u1 u2 u3 : Value), bindArgs (PySem.W.fnOf x qual (defArgs st) (defBody st) (defScope st) .none kV doc pm an cdv ct) ⟨[u0, u1, u2, u3], []⟩ = pure (l.zip [u0, u1, u2, u3])) (hl : l.length = 4 := by rfl) : Binds K fd l [] :=
  F.binds (ps := l) fun kV doc pm an cdv ct us e => by
    obtain ⟨u0, u1, u2, u3, rfl⟩ := len_is4 hl e
    exact h kV doc pm an cdv ct u0 u1 u2 u3
theorem len_is8 {us : List Value} {l : List Str} (hl : l.length = 8) (h : us.length = l.length) : ∃ u0 u1 u2 u3 u4 u5 u6 u7, us = [u0, u1, u2, u3, u4, u5, u6, u7] := by
  rw [hl] at h
  obtain ⟨u0, r0, rfl, h0⟩ := len_succ h
  obtain ⟨u1, r1, rfl, h1⟩ := len_succ h0
  obtain ⟨u2, r2, rfl, h2⟩ := len_succ h1
  obtain ⟨u3, r3, rfl, h3⟩ := len_succ h2
  obtain ⟨u4, r4, rfl, h4⟩ := len_succ h3
  obtain ⟨u5, r5, rfl, h5⟩ := len_succ h4
  obtain ⟨u6, r6, rfl, h6⟩ := len_succ h5
  obtain ⟨u7, r7, rfl, h7⟩ := len_succ h6
  obtain rfl := List.eq_nil_of_length_eq_zero h7
  exact ⟨_, _, _, _, _, _, _, _, rfl⟩
theorem Fun.binds8 {x qual : Str} {st : Stmt} {f : Addr} {fd : FuncData} {l : List Str} (F : Fun K x qual st f fd)
    (h : ∀ (kV doc pm : Value) (an : Option Addr) (cdv ct u0 u1 u2 u3 u4 u5 u6 u7 : Value), bindArgs (PySem.W.fnOf x qual (defArgs st) (defBody st) (defScope st) .none kV doc pm an cdv ct) ⟨[u0, u1, u2, u3, u4, u5, u6, u7], []⟩ = pure (l.zip [u0, u1, u2, u3, u4, u5, u6, u7])) (hl : l.length = 8 := by rfl) : Binds K fd l [] :=
  F.binds (ps := l) fun kV doc pm an cdv ct us e => by
    obtain ⟨u0, u1, u2, u3, u4, u5, u6, u7, rfl⟩ := len_is8 hl e
    exact h kV doc pm an cdv ct u0 u1 u2 u3 u4 u5 u6 u7
end
end L2


set_option Elab.async false
set_option linter.all false
set_option maxRecDepth 100000
set_option maxHeartbeats 4000000

namespace L2
open PySem PySem.Spec PyProof.Rows

/-! ### heaps -/
theorem same_upd {H : Hp} {p : Addr} {o : HO} (h : H p = none) : Same H (upd H p o) := fun b u e => by
  rw [upd_ne (ne_of_none e h)]; exact e
theorem same_upd' {H0 H : Hp} {p : Addr} {o : HO} (s : Same H0 H) (h : H0 p = none) : Same H0 (upd H p o) := fun b u e => by
  rw [upd_ne (ne_of_none e h)]; exact s b u e
theorem same_sqT {K : PySem.W.Frag} {H H' : Hp} {a : Addr} {xs : List V} (e : Same H H') (h : SqT K H a xs) : SqT K H' a xs := by
  rcases h with (h | ⟨o, h⟩) | h
  · exact .inl (.inl (e _ _ h))
  · exact .inl (.inr ⟨o, e _ _ h⟩)
  · exact .inr h

/-! ### texts: their size and their signs -/
noncomputable abbrev TxtOk (x : Str) : Prop := PyData.strOk x = true
theorem txtOk_iff {x : Str} : TxtOk x ↔ ∀ c ∈ x.cps.toList, c < 0x110000 := by
  unfold TxtOk PyData.strOk
  rw [Array.all_eq_true']
  simp
theorem txtOk_app {x y : Str} (hx : TxtOk x) (hy : TxtOk y) : TxtOk (x ++ y) := by
  rw [txtOk_iff] at *
  intro c hc
  have e : (x ++ y).cps.toList = x.cps.toList ++ y.cps.toList := by
    show (x.cps ++ y.cps).toList = _
    simp
  rw [e, List.mem_append] at hc
  exact hc.elim (hx c) (hy c)
theorem txtOk_slice {x : Str} (hx : TxtOk x) (l u : Option Int) : TxtOk (Txt.slice x l u) := by
  unfold Txt.slice
  split
  · exact hx
  · rw [txtOk_iff] at *
    intro c hc
    have hc' : c ∈ (Builtin.Str.strSliceIndices l u 1 x.length).filterMap (x.cps[·]?) := by simpa using hc
    obtain ⟨i, _, hi⟩ := List.mem_filterMap.mp hc'
    refine hx c ?_
    have := Array.mem_of_getElem? hi
    simpa using this
theorem txtOk_one {c : Nat} (h : c < 0x110000) : TxtOk ⟨#[c]⟩ := by
  rw [txtOk_iff]
  intro d hd
  have e : d = c := by simpa using hd
  rw [e]; exact h
theorem len_app (x y : Str) : (x ++ y).length = x.length + y.length := by
  show (x.cps ++ y.cps).size = _
  rw [Array.size_append]; rfl
theorem len_one (c : Nat) : (⟨#[c]⟩ : Str).length = 1 := rfl
/-! ### slices of texts -/
section
variable {X : Cx}
noncomputable def rSlS : V → Option Int → Option Int → Hp → VK → Prop := fun x lo hi H Q => ∃ z, x = .str z ∧ z.length ≤ sizeLine ∧ Q (.str (Txt.slice z lo hi)) H
theorem sl_str : SlR X rSlS := by
  intro pins s σ H x v vl vu lo hi sl Q I rx hs pl pu h
  obtain ⟨z, rfl, hz, q⟩ := h
  obtain ⟨t, rfl⟩ := rx
  refine ⟨"str", _, PyProof.Rows.slot_str_getitem.lookup, typeIs_str _ _ _, ?_⟩
  obtain ⟨o, ho, hc, hd⟩ := hs
  have fin : ∀ (l u : Option (Int × Tok)), vl = partValue l → vu = partValue u → lo = l.map (·.1) → hi = u.map (·.1) → wpAny (model X.prog X.w) X.A (getItem (.str z t) (.ref sl)) (EP X pins σ Q) X.xe s := by
    intro l u e1 e2 e3 e4
    subst e1 e2 e3 e4
    refine wpAny_getItem_str_slice (l := l) (u := u) (st := none) ⟨o, ho, hc, hd⟩ rfl ?_
    exact post_val_or_str ⟨Nat.le_trans (Txt.slice_le z _ _) hz, fun t' k => ⟨.str (Txt.slice z (l.map (·.1)) (u.map (·.1))), H, I.tok _, ⟨_, rfl⟩, q⟩⟩
  cases pl with
  | none =>
    cases pu with
    | none => exact fin none none rfl rfl rfl rfl
    | int j tj => exact fin none (some (j, tj)) rfl rfl rfl rfl
  | int i ti =>
    cases pu with
    | none => exact fin (some (i, ti)) none rfl rfl rfl rfl
    | int j tj => exact fin (some (i, ti)) (some (j, tj)) rfl rfl rfl rfl

/-! ### isinstance of a built-in type -/
theorem call_isi : CallR X (.builtin "isinstance") (fun xs H Q => ∃ x t c b, xs = [x, .ty c] ∧ TyOf X.K H x t ∧ PySem.W.kitOne X.K t (.type c) = some b ∧ Q (.bl b) H) := by
  intro pins s σ H xs us Q I r h
  obtain ⟨x, t, c, b, rfl, ty, e, q⟩ := h
  obtain ⟨u, u2, rfl, r1, r2⟩ := vals2 r
  cases (show u2 = Value.type c from r2)
  exact isinst_ok I r1 ty e fun tk => ⟨.bl b, H, I.tok tk, rfl, q⟩
end
end L2

/-! ### tuples of ints: not ahead -/
namespace HT
open PySem PyProof.Rows
section
open PySem.SeqAt
open PySem.AutoSeq1 (wpAny_loadPart')
open PySem.MeetsSeq PySem.MeetsSeq2 PySem.MeetsSeq3
end
section
variable {prog : Program} {w : World} {A : Around} {E : Value → Shared → Prop} {s : Shared}
end
end HT

namespace L2
open PySem PySem.Spec PyProof.Rows
section
variable {X : Cx}
end

/-! ### deep data -/
mutual
inductive DV (K : PySem.W.Frag) (H : Hp) : V → PySem.W.Dat → Prop
  | non : DV K H .non .none
  | int (i : Int) : DV K H (.int i) (.int i)
  | str (x : Str) : DV K H (.str x) (.str x)
  | tup {a : Addr} {xs : List V} {ds : List PySem.W.Dat} : SqT K H a xs → DVs K H xs ds → DV K H (.ref a) (.tuple ds)
  | lst {a : Addr} {xs : List V} {ds : List PySem.W.Dat} : SqL K H a xs → DVs K H xs ds → DV K H (.ref a) (.list ds)
inductive DVs (K : PySem.W.Frag) (H : Hp) : List V → List PySem.W.Dat → Prop
  | nil : DVs K H [] []
  | cons {x : V} {d : PySem.W.Dat} {xs : List V} {ds : List PySem.W.Dat} : DV K H x d → DVs K H xs ds → DVs K H (x :: xs) (d :: ds)
end
theorem dvs_ints {K : PySem.W.Frag} {H : Hp} : ∀ ns : List Int, DVs K H (ns.map V.int) (ns.map PySem.W.Dat.int)
  | [] => .nil
  | n :: ns => .cons (.int n) (dvs_ints ns)
theorem dvs_strs {K : PySem.W.Frag} {H : Hp} : ∀ xs : List Str, DVs K H (xs.map V.str) (xs.map PySem.W.Dat.str)
  | [] => .nil
  | n :: ns => .cons (.str n) (dvs_strs ns)
section
variable {X : Cx} {pins : List (Addr × Obj)} {σ : St} {H : Hp} {s : Shared}
mutual
theorem DV.reads (I : Inv X pins σ H s) : ∀ {x : V} {d : PySem.W.Dat} {u : Value}, DV X.K H x d → RelV x u → ∃ as, Reads s.heap u (PySem.W.kqdP d) as
  | _, _, _, .non, r => by cases r; exact ⟨_, Reads.none⟩
  | _, _, _, .int i, r => by obtain ⟨t, rfl⟩ := r; exact ⟨_, Reads.int i t⟩
  | _, _, _, .str x, r => by obtain ⟨t, rfl⟩ := r; exact ⟨_, Reads.str x t⟩
  | _, _, _, .tup h q, r => by
    cases r
    obtain ⟨its, rv, ⟨o, e, c, n, d⟩, _⟩ := I.tuple h
    obtain ⟨as, z⟩ := DVs.reads I q rv
    rw [PySem.W.kqdP]
    exact ⟨as, reads_tuple_at e c d (by simpa using z)⟩
  | _, _, _, .lst h q, r => by
    cases r
    obtain ⟨its, rv, ⟨o, n, e, c, _, d⟩, _⟩ := I.list h
    obtain ⟨as, z⟩ := DVs.reads I q rv
    rw [PySem.W.kqdP]
    exact ⟨_, reads_list_at e c d (by simpa using z)⟩
theorem DVs.reads (I : Inv X pins σ H s) : ∀ {xs : List V} {ds : List PySem.W.Dat} {us : List Value}, DVs X.K H xs ds → Vals xs us → ∃ as, ReadsAll s.heap us (PySem.W.kqdPs ds) as
  | _, _, _, .nil, .nil => ⟨_, ReadsAll.nil⟩
  | _, _, _, .cons q qs, .cons r rs => by
    obtain ⟨as, z⟩ := DV.reads I q r
    obtain ⟨bs, y⟩ := DVs.reads I qs rs
    rw [PySem.W.kqdPs]
    exact ⟨_, ReadsAll.cons z y⟩
end
end
theorem dat_shaped {d : PySem.W.Dat} (h : PySem.W.kqdOk 9 d = true) : SeqAt.shaped (PySem.W.kqdP d) = true := by
  have l := PySem.W.kqd_lay 9 d h
  unfold SeqAt.shaped
  rw [l.1, Bool.true_and]
  exact decide_eq_true (Nat.le_trans l.2 (by decide))
section
variable {X : Cx}
theorem op_eqD (hu : X.A.units + 64 < cLine) : OpR X (compareOp .Eq) (fun x y H Q => ∃ d e, DV X.K H x d ∧ DV X.K H y e ∧ PySem.W.kqdOk 9 d = true ∧ PySem.W.kqdOk 9 e = true ∧ ∀ b : Bool, (b = true ↔ d = e) → Q (.bl b) H) := by
  intro pins s σ H x y v u Q I rx ry h
  obtain ⟨d, e, hd, he, od, oe, q⟩ := h
  obtain ⟨as, ra⟩ := hd.reads I rx
  obtain ⟨bs, rb⟩ := he.reads I ry
  exact eq_dataH ra rb (dat_shaped od) (dat_shaped oe) hu ⟨.bl _, H, I, rfl, q _ (PySem.W.kqd_eqv 9 d e 9 od oe)⟩
theorem op_neD (hu : X.A.units + 64 < cLine) : OpR X (compareOp .NotEq) (fun x y H Q => ∃ d e, DV X.K H x d ∧ DV X.K H y e ∧ PySem.W.kqdOk 9 d = true ∧ PySem.W.kqdOk 9 e = true ∧ ∀ b : Bool, (b = true ↔ d = e) → Q (.bl (!b)) H) := by
  intro pins s σ H x y v u Q I rx ry h
  obtain ⟨d, e, hd, he, od, oe, q⟩ := h
  obtain ⟨as, ra⟩ := hd.reads I rx
  obtain ⟨bs, rb⟩ := he.reads I ry
  exact ne_dataH ra rb (dat_shaped od) (dat_shaped oe) hu ⟨.bl _, H, I, rfl, q _ (PySem.W.kqd_eqv 9 d e 9 od oe)⟩
end
end L2

namespace L2
open PySem PySem.Spec PyProof.Rows
/-! ### a cut between two statements: M is what holds there -/
section
variable {X : Cx} {st : Stmt} {rest : List Stmt} {t u : TS}
noncomputable def tCut (M : St → Hp → Prop) (t u : TS) : TS := fun D σ H => t { D with nx := M } σ H ∧ ∀ σ' H', M σ' H' → u D σ' H'
theorem pss_cut (M : St → Hp → Prop) (h1 : PS X st t) (h2 : PSs X rest u) : PSs X (st :: rest) (tCut M t u) := by
  intro pins s σ H D I h
  refine wpAny_execs_cons (thn (h1 pins s σ H { D with nx := M } I h.1) fun f s1 q => ?_)
  cases f with
  | next =>
    obtain ⟨σ', H', I', q⟩ := q
    exact h2 pins s1 σ' H' D I' (h.2 σ' H' q)
  | ret v => exact q
  | brk => exact q
  | cont => exact q
end

/-! ### small facts -/
theorem free_upd {H : Hp} {p t : Addr} {o : HO} (h : upd H p o t = none) : t ≠ p ∧ H t = none := by
  by_cases e : t = p
  · subst e; rw [upd_same] at h; cases h
  · exact ⟨e, by rw [upd_ne e] at h; exact h⟩
theorem fit {a b : Str} (ha : a.length ≤ 100) (hb : b.length ≤ 100) : a.length + b.length ≤ sizeLine := Nat.le_of_lt (small1000 (by omega))
theorem fit1 {a : Str} (ha : a.length ≤ 100) : a.length ≤ sizeLine := Nat.le_of_lt (small1000 (by omega))
theorem atI_in {α : Type} {xs : List α} {r : Int} (h0 : 0 ≤ r) (h1 : r < xs.length) : ∃ v, atI xs r = some v ∧ xs[r.toNat]? = some v := by
  obtain ⟨n, rfl⟩ : ∃ n : Nat, r = n := ⟨r.toNat, by omega⟩
  have hn : n < xs.length := by omega
  have e : xs[n]? = some (xs[n]'hn) := by simp
  exact ⟨_, atI_nat e, by simpa using e⟩
theorem atI_ints {ns : List Int} {r : Int} (h0 : 0 ≤ r) (h1 : r < ns.length) : ∃ z, atI (ns.map V.int) r = some (V.int z) ∧ ns[r.toNat]? = some z := by
  obtain ⟨v, e, e2⟩ := atI_in (xs := ns.map V.int) h0 (by rw [List.length_map]; exact h1)
  rw [List.getElem?_map] at e2
  cases q : ns[r.toNat]? with
  | none => rw [q] at e2; cases e2
  | some z =>
    rw [q] at e2
    cases e2
    exact ⟨z, e, rfl⟩
/-! ### a def of the top -/
noncomputable def DefAt (K : PySem.W.Frag) (mg : Str → Option Value) (x : Str) (st : Stmt) : Prop := ∃ f fd, mg x = some (.ref f) ∧ Fun K x x st f fd ∧ PySem.W.keepIn K (.ref f) = true
theorem defAt_mk {K : PySem.W.Frag} {h : Heap} {mg : Str → Option Value} {x : Str} {st : Stmt} {f : Addr} {od an : Option Addr} {sl : Array (Option Value)} {oc kV dc pm cd ct : Value} (X : K.In h) (G : h.Ns mainGlobals mg)
    (a : PySem.W.nsIn K mainGlobals x = some (some (.ref f))) (l : K.lookup f = some ⟨oc, od, .func (PySem.W.fnOf x x (defArgs st) (defBody st) (defScope st) .none kV dc pm an cd ct), sl⟩) (c : PySem.W.codeIn K cd x = true) (k : PySem.W.keepIn K (.ref f) = true) :
    DefAt K mg x st := ⟨f, _, PySem.W.mg_of X G a, fun_mk l c k, k⟩
end L2

set_option Elab.async false
set_option linter.all false
set_option maxRecDepth 100000
set_option maxHeartbeats 4000000

namespace L2
open PySem PySem.Spec PyProof.Rows

/-! ### a comprehension's tests -/
noncomputable abbrev testsOf (ifs : List Expr) (env : Env) : Sem Bool :=
  forIn ifs true fun c r => if r = true then do let ok ← isTrue c env (eval c env); pure (ForInStep.yield ok) else pure (ForInStep.yield r)
noncomputable def PTs (X : Cx) (ifs : List Expr) (t : TT) : Prop :=
  ∀ (pins : List (Addr × Obj)) (s : Shared) (σ : St) (H : Hp) (Q : Bool → Hp → Prop), Inv X pins σ H s → t σ H Q → wpAny (model X.prog X.w) X.A (testsOf ifs X.env) (TP X pins σ Q) X.xe s
noncomputable def tTrue : TT := fun _ H Q => Q true H
theorem pts_nil {X : Cx} : PTs X [] tTrue := fun _ _ _ H _ I h => wpAny_tests_nil ⟨H, I, h⟩
theorem pts_one {X : Cx} {c : Expr} {t : TT} (h : PT X c t) : PTs X [c] t := fun pins s σ H Q I q => wpAny_tests_one (h pins s σ H Q I q)

/-! ### a comprehension's loop -/
section
variable {prog : Program} {w : World} {A : Around} {R : Result → Shared → Prop} {s : Shared}
theorem comp_loop {elt target iter : Expr} {ifs : List Expr} {scope : Scope} {pos : Pos} {it acc : Value} {env : Env} (I : Nat → Shared → Prop)
    (turn : ∀ n s, I n s → wpAny (model prog w) A (pyNext it) (fun r s₁ => match r with
      | none => R (.ok .next) s₁
      | some v => wpAny (model prog w) A (letOwnedTupleGo target it v) (fun _ s₀ => wpAny (model prog w) A (assign target env v) (fun _ s₂ =>
          wpAny (model prog w) A (testsOf ifs env) (fun ok s₃ =>
            if ok = true then wpAny (model prog w) A (eval elt env) (fun x s₄ =>
              wpAny (model prog w) A (call (.builtin "list.append") [acc, x]) (fun _ s₅ => ∃ m, m < n ∧ I m s₅) (notedBy (model prog w) A env fun e s' => R (.error e) s') s₄) (notedBy (model prog w) A env fun e s' => R (.error e) s') s₃
            else ∃ m, m < n ∧ I m s₃) (notedBy (model prog w) A env fun e s' => R (.error e) s') s₂) (notedBy (model prog w) A env fun e s' => R (.error e) s') s₀) (notedBy (model prog w) A env fun e s' => R (.error e) s') s₁) (notedBy (model prog w) A env fun e s' => R (.error e) s') s)
    (n : Nat) (h : I n s) : codeAny (model prog w) A (.compLoop (.ListComp elt [⟨target, iter, ifs, 0⟩] scope pos) 0 it acc env) R s := by
  refine codeAny_loop rfl I (fun n s hI => ?_) n h
  show wpAny _ A ((compTurn (.ListComp elt [⟨target, iter, ifs, 0⟩] scope pos) 0 it acc env).onRaise (fun x => do noteFrame x env; theTreesLotGoes x)) _ _ s
  refine wpAny_noted ?_
  rw [compTurn_list]
  refine wpAny_bind (wpAny_standAt (wpAny_bind (wpAny_mono (turn n s hI) (fun r s₁ h₁ => ?_) fun _ _ h' => h')))
  cases r with
  | none => exact wpAny_pure h₁
  | some v =>
    refine wpAny_bind (wpAny_mono h₁ (fun _ s₀ h₀ => ?_) fun _ _ h' => h')
    refine wpAny_bind (wpAny_mono h₀ (fun _ s₂ h₂ => wpAny_bind (wpAny_mono h₂ (fun ok s₃ h₃ => ?_) fun _ _ h' => h')) fun _ _ h' => h')
    cases ok with
    | false => exact wpAny_pure ⟨rfl, h₃⟩
    | true =>
      exact wpAny_bind (wpAny_bind (wpAny_mono h₃ (fun x s₄ h₄ => wpAny_bind (wpAny_mono h₄ (fun _ s₅ h₅ => wpAny_pure (wpAny_pure ⟨rfl, h₅⟩)) fun _ _ h' => h')) fun _ _ h' => h'))
end

/-! ### its context: a frame of its own (its names), the same stack -/
/-- the scope of a comprehension whose names are all its own or global -/
theorem hok_but {P : Program} {w : World} {H : Hp} {h1 h2 : Heap} {C : Addr} (ok : HOk P w H h1) (sb : Heap.SameBut C h1 h2) (hn : H C = none) : HOk P w H h2 := fun b ob e => by
  refine (ok b ob e).stay (fun c w' hc q => (sb.2 c ?_).trans q) (fun _ q => q) fun _ _ q => q
  rintro rfl
  rcases hc with rfl | hc
  · rw [hn] at e; cases e
  · rw [hn] at hc; cases hc

/-- what the loop asks: W the invariant by the turn, a measure, the names' values and the heap; the list that grows stands at D -/
noncomputable def CompAsk (J : It) (g : TG) (tt : TT) (te : TE) (D : Addr) (Qd : Hp → Prop) (W : Nat → Nat → St → Hp → Prop) : Prop :=
  ∀ i m σ H, W i m σ H → (J.stop i H ∧ Qd H) ∨ (J.go i H ∧ ∀ x H2, J.yld i H x H2 → g x σ H2 fun σ3 H3 => tt σ3 H3 fun ok H4 =>
    if ok = true then te σ3 H4 fun y H5 => ∃ ys, H5 D = some (.lst ys) ∧ ys.length < sizeLine ∧ ∃ m', m' < m ∧ W (i + 1) m' σ3 (upd H5 D (.lst (ys ++ [y])))
    else ∃ m', m' < m ∧ W (i + 1) m' σ3 H4)
section
variable {X : Cx} {pins : List (Addr × Obj)} {σ : St} {H3 : Hp} {s3 : Shared}
end
end L2

set_option Elab.async false
set_option linter.all false
set_option maxRecDepth 100000
set_option maxHeartbeats 4000000

namespace L2
open PySem PySem.Spec PyProof.Rows

/-! ### the cells that a comprehension takes from around it -/
noncomputable def takenFrom (env : Env) : List (Str × NameKind) → List (Str × Addr) → List (Str × Addr)
  | [], cs => cs
  | (n, k) :: r, cs => if k = .free then takenFrom env r ((n, (env.cells.lookup n).getD 0) :: cs) else takenFrom env r cs
theorem closureFor_taken {scope : Scope} {env : Env} (h : ∀ y ∈ scope.names, y.2 = .free → ∃ c, env.cells.lookup y.1 = some c) : closureFor scope env = pure (takenFrom env scope.names []) := by
  unfold closureFor
  generalize scope.names = l at h
  have go : ∀ (l : List (Str × NameKind)) (cs : List (Str × Addr)), (∀ y ∈ l, y.2 = .free → ∃ c, env.cells.lookup y.1 = some c) →
      (forIn l cs fun (x : Str × NameKind) (r : List (Str × Addr)) => (if (x.2 == .free) = true then do let y ← cellOf env x.1; pure (ForInStep.yield ((x.1, y) :: r)) else pure (ForInStep.yield r) : Sem (ForInStep (List (Str × Addr))))) = pure (takenFrom env l cs) := by
    intro l
    induction l with
    | nil => intro cs _; rfl
    | cons x l ih =>
      intro cs h
      obtain ⟨n, k⟩ := x
      rw [List.forIn_cons]
      by_cases e : k = .free
      · subst e
        obtain ⟨c, hc⟩ := h _ List.mem_cons_self rfl
        have hc : env.cells.lookup n = some c := hc
        have e1 : cellOf env n = pure c := by unfold cellOf; rw [hc]
        simp only [e1, takenFrom, hc, if_true, Option.getD_some, beq_self_eq_true, pure_bind]
        exact ih _ fun y hy => h y (List.mem_cons_of_mem _ hy)
      · have e' : (k == NameKind.free) = false := by simpa using e
        simp only [e', takenFrom, e, if_false, Bool.false_eq_true, pure_bind]
        exact ih _ fun y hy => h y (List.mem_cons_of_mem _ hy)
  have := go l [] h
  simpa using this
theorem takenFrom_some {env : Env} : ∀ {l : List (Str × NameKind)} {cs : List (Str × Addr)} {x : Str} {c : Addr}, (∀ y ∈ l, y.2 = .free → ∃ c, env.cells.lookup y.1 = some c) → (∀ x c, cs.lookup x = some c → env.cells.lookup x = some c) →
    (takenFrom env l cs).lookup x = some c → env.cells.lookup x = some c
  | [], _, _, _, _, hc, e => hc _ _ e
  | (n, k) :: l, cs, x, c, h, hc, e => by
    unfold takenFrom at e
    have h' : ∀ y ∈ l, y.2 = .free → ∃ c, env.cells.lookup y.1 = some c := fun y hy => h y (List.mem_cons_of_mem _ hy)
    split at e
    · refine takenFrom_some h' (fun z d hz => ?_) e
      rename_i hk
      rw [List.lookup_cons] at hz
      split at hz
      · rename_i q
        obtain ⟨d', hd⟩ := h (n, k) List.mem_cons_self hk
        have hd : env.cells.lookup n = some d' := hd
        have : z = n := by simpa using q
        subst this
        rw [hd] at hz ⊢
        exact hz
      · exact hc _ _ hz
    · exact takenFrom_some h' hc e
theorem takenFrom_mono {env : Env} : ∀ {l : List (Str × NameKind)} {cs : List (Str × Addr)} {x : Str}, (cs.lookup x).isSome = true → ((takenFrom env l cs).lookup x).isSome = true
  | [], _, _, h => h
  | (n, k) :: l, cs, x, h => by
    unfold takenFrom
    split
    · refine takenFrom_mono ?_
      rw [List.lookup_cons]
      split
      · rfl
      · exact h
    · exact takenFrom_mono h
theorem takenFrom_has {env : Env} {x : Str} : ∀ {l : List (Str × NameKind)} {cs : List (Str × Addr)}, (x, NameKind.free) ∈ l → ((takenFrom env l cs).lookup x).isSome = true
  | (n, k) :: l, cs, h => by
    unfold takenFrom
    rcases List.mem_cons.mp h with e | e
    · cases e
      rw [if_pos rfl]
      refine takenFrom_mono ?_
      rw [List.lookup_cons]
      simp
    · split
      · exact takenFrom_has e
      · exact takenFrom_has e

noncomputable def cxCompF (X : Cx) (N : List Str) (sc : Scope) (s₀ : Shared) (H₀ : Hp) (C : Addr) (ex : List Addr) : Cx where
  prog := X.prog
  w := X.w
  K := X.K
  mg := X.mg
  base := X.base
  A := X.A
  N := N
  s₀ := s₀
  H₀ := H₀
  env := compEnvC sc (takenFrom X.env sc.names []) C X.env
  outer := X.stack
  stack := X.stack
  ex := ex
  fn := fun _ => false
  calm := X.calm
  pn := []
  xe := fun _ _ => False

/-- the scope of a comprehension: own names, then names of the block around it (slots js there) -/
structure CompScopeF (X : Cx) (own cap : List Str) (js : List Nat) (sc : Scope) : Prop where
  kind : sc.kind = .function
  nocell : ∀ y ∈ sc.names, y.2 ≠ .cell
  names : ∀ y ∈ sc.names, y.2 = .local → sc.names.lookup y.1 = some .local
  nd : (own ++ cap).Nodup
  frees : ∀ y ∈ sc.names, y.2 = .free → y.1 ∈ cap
  slots : js.map (fun j => X.N[j]?) = cap.map some
  outer' : cap.map X.env.kindOf = cap.map fun _ => some NameKind.cell
  capk' : cap.map (fun x => (relabel sc X.env).names.lookup x) = cap.map fun _ => some NameKind.cell
theorem map_all {α β : Type} {f : α → β} {c : β} : ∀ {l : List α}, l.map f = l.map (fun _ => c) → ∀ x ∈ l, f x = c
  | [], _, _, h => nomatch h
  | y :: l, e, x, h => by
    rw [List.map_cons, List.map_cons] at e
    injection e with e1 e2
    rcases List.mem_cons.mp h with q | q
    · rw [q]; exact e1
    · exact map_all e2 x q
theorem CompScopeF.outer {X : Cx} {own cap : List Str} {js : List Nat} {sc : Scope} (S : CompScopeF X own cap js sc) : ∀ x ∈ cap, X.env.kindOf x = some .cell := map_all S.outer'
theorem CompScopeF.capk {X : Cx} {own cap : List Str} {js : List Nat} {sc : Scope} (S : CompScopeF X own cap js sc) : ∀ x ∈ cap, (relabel sc X.env).names.lookup x ≠ some .local := fun x hx h => by
  rw [map_all S.capk' x hx] at h; cases h

/-- its names' values at the start -/
noncomputable def compStart (n : Nat) (js : List Nat) (σ : St) : St := List.replicate n none ++ js.map fun j => (σ[j]?).join
noncomputable def tCompF (wi : TI) (n : Nat) (js : List Nat) (g : TG) (tt : TT) (te : TE) : TE := fun σ H Q => wi σ H fun J H1 => ∀ D, H1 D = none →
  ∃ W : Nat → Nat → St → Hp → Prop, (∃ m, W 0 m (compStart n js σ) (upd H1 D (.lst []))) ∧ CompAsk J g tt te D (fun H' => Q (.ref D) H') W

section
variable {X : Cx} {pins : List (Addr × Obj)} {σ : St} {H3 : Hp} {s3 : Shared}
theorem kind_relabel {sc : Scope} {env : Env} {x : Str} {k : NameKind} (h : (relabel sc env).names.lookup x = some k) : k = .local ∨ k = .globalImplicit ∨ (x, k) ∈ sc.names ∨ (x, NameKind.free) ∈ sc.names := by
  have hm := PySem.mem_of_lookup h
  unfold relabel at hm
  obtain ⟨⟨n, k'⟩, hn, e⟩ := List.mem_map.mp hm
  dsimp only at e
  split at e
  · rename_i c
    cases e
    simp only [Bool.and_eq_true, beq_iff_eq] at c
    obtain ⟨⟨c, _⟩, _⟩ := c
    subst c
    exact .inr (.inr (.inr hn))
  · cases e
    exact .inr (.inr (.inl hn))
theorem comp_coreF {elt tg iter : Expr} {ifs : List Expr} {sc : Scope} {pos : Pos} {own cap : List Str} {js : List Nat} {g : TG} {tt : TT} {te : TE} {it C D : Addr} {fp : List Addr} {tn : Nat → Heap → Prop} {J : It} {h4 : Heap} {tk : Nat} {m : Str → Option Value}
    {W : Nat → Nat → St → Hp → Prop} {Qd : Hp → Prop} {m0 : Nat} (S : CompScopeF X own cap js sc) (hc : X.calm = true) (I3 : Inv X pins σ H3 s3) (T : Turn X.prog X.w X.K tg J fp it tn) (st3 : tn 0 s3.heap) (f3 : ∀ b ∈ fp, FpOk X pins H3 b)
    (eC : C = s3.heap.objs.size) (hns : h4.Ns C m) (hk : ∀ b o, s3.heap.get? b = some o → h4.get? b = some o)
    (hg : PG (cxCompF X (own ++ cap) sc s3 H3 C fp) tg g) (ht : PTs (cxCompF X (own ++ cap) sc s3 H3 C fp) ifs tt) (he : PE (cxCompF X (own ++ cap) sc s3 H3 C fp) elt te)
    (w0 : W 0 m0 (compStart own.length js σ) H3) (ask : CompAsk J g tt te D Qd W) :
    codeAny (model X.prog X.w) X.A (.compStart (.ListComp elt [⟨tg, iter, ifs, 0⟩] sc pos) 0 (.ref it) (.ref D) (compEnvC sc (takenFrom X.env sc.names []) C X.env))
      (fun r s' => r = .ok .next ∧ ∃ m' H', s'.heap.Ns C m' ∧ s'.os = s3.os ∧ AllBare s'.gens ∧ Un (frs X.stack) fp H3 H' s3.heap s'.heap ∧ HOk X.prog X.w H' s'.heap ∧ H' C = none ∧ Qd H') { s3 with heap := h4, toks := tk } := by
  have frs' : ∀ y ∈ sc.names, y.2 = .free → ∃ c, X.env.cells.lookup y.1 = some c := fun y hy e => I3.ok.has _ (.inl (S.outer _ (S.frees y hy e)))
  have toL : ∀ (x : Str) (c : Addr), (cxCompF X (own ++ cap) sc s3 H3 C fp).env.cells.lookup x = some c → X.env.cells.lookup x = some c := fun x c e =>
    takenFrom_some frs' (fun x c h => by cases (show ([] : List (Str × Addr)).lookup x = some c from h)) e
  have ltC : ∀ (x : Str) (c : Addr), X.env.cells.lookup x = some c → c < s3.heap.objs.size := fun x c e => by
    obtain ⟨v, q⟩ := I3.cell x c e
    exact q.lt
  have fpl : ∀ b ∈ fp, b < s3.heap.objs.size := fun b hb => by
    obtain ⟨o, e, _⟩ := T.obj 0 _ st3 b hb
    exact Heap.lt_size e
  have ok' : (cxCompF X (own ++ cap) sc s3 H3 C fp).Ok := by
    refine ⟨I3.ok.mod, S.kind, I3.ok.glob, I3.ok.blt, Nat.le_of_eq eC.symm, fun x y c e1 e2 => I3.ok.inj x y c (toL x c e1) (toL y c e2), fun x hx => ?_, (fun x c z _ => nomatch (show false = true from z)), I3.ok.hd, I3.ok.frames, .inl rfl, fun b hb => ?_,
      I3.bs, Nat.le_trans I3.ok.bsz I3.sz, fun b o e hb => ?_, fun b hb hs => ?_, I3.stack, I3.stkFree⟩
    · have hx' : (relabel sc X.env).names.lookup x = some .cell ∨ (relabel sc X.env).names.lookup x = some .free := hx
      have hm : (x, NameKind.free) ∈ sc.names := by
        rcases hx' with z | z
        · rcases kind_relabel z with q | q | q | q
          · cases q
          · cases q
          · exact absurd rfl (S.nocell _ q)
          · exact q
        · rcases kind_relabel z with q | q | q | q
          · cases q
          · cases q
          · exact q
          · exact q
      exact Option.isSome_iff_exists.mp (takenFrom_has hm)
    · refine ⟨?_, fun x c e => (f3 b hb).2.2.2.2.1 x c (toL x c e)⟩
      show b ≠ C
      rw [eC]
      exact Nat.ne_of_lt (fpl b hb)
    · rcases (f3 b hb).2.2.2.1 with z | z
      · exact I3.ok.noex b o e z
      · have h1 : b < X.base.objs.size := Heap.lt_size e
        exact absurd (Nat.lt_of_lt_of_le h1 (Nat.le_trans I3.ok.bsz z)) (Nat.lt_irrefl _)
    · obtain ⟨_, f1, f2, _⟩ := f3 b hb
      rcases List.mem_cons.mp (I3.stkSub b hs) with z | z
      · exact f1 z
      · exact f2 z
  have hCn : H3 C = none := by rw [eC]; exact I3.hok.fresh (Nat.le_refl _)
  have sl : js.length = cap.length := by have := congrArg List.length S.slots; simpa using this
  have I4 : Inv (cxCompF X (own ++ cap) sc s3 H3 C fp) [] (compStart own.length js σ) H3 { s3 with heap := h4, toks := tk } := by
    refine ⟨ok', rfl, I3.bare, Un.kept hk, ⟨m, hns, fun i x v e1 e2 hv => ?_⟩, fun x c e => ?_, hCn, fun x c e => I3.freeC x c (toL x c e), fun p hp => ?_, I3.hok.kept hk, ?_⟩
    · have e1 : (own ++ cap)[i]? = some x := e1
      unfold compStart at e2
      by_cases hi : i < own.length
      · rw [List.getElem?_append_left (by simpa using hi), List.getElem?_replicate, if_pos hi] at e2
        cases e2
      · rw [List.getElem?_append_right (by omega)] at e1
        rw [List.getElem?_append_right (by simpa using hi), List.length_replicate, List.getElem?_map] at e2
        obtain ⟨j, hj⟩ : ∃ j, js[i - own.length]? = some j := by
          cases q : js[i - own.length]? with
          | none => rw [q] at e2; cases e2
          | some j => exact ⟨j, rfl⟩
        rw [hj] at e2
        have e2 : (σ[j]?).join = some v := Option.some.inj e2
        have e3 : σ[j]? = some (some v) := by
          cases q : σ[j]? with
          | none => rw [q] at e2; cases e2
          | some z => rw [q] at e2; rw [show z = some v from e2]
        have hs := congrArg (fun l => l[i - own.length]?) S.slots
        simp only [List.getElem?_map, hj, e1, Option.map_some] at hs
        have hN : X.N[j]? = some x := Option.some.inj hs
        have hx : x ∈ cap := List.mem_of_getElem? e1
        obtain ⟨m2, hn2, hl2⟩ := I3.loc
        obtain ⟨u, ru, lk⟩ := hl2 j x v hN e3 (.inr (.inl (S.outer x hx)))
        refine ⟨u, ru, ?_⟩
        rcases lk with ⟨k1, _⟩ | ⟨_, c, hc1, hc2⟩
        · rw [S.outer x hx] at k1; cases k1
        · have hv : Vis (relabel sc X.env) x := hv
          have kd : (cxCompF X (own ++ cap) sc s3 H3 C fp).env.kindOf x = some .cell ∨ (cxCompF X (own ++ cap) sc s3 H3 C fp).env.kindOf x = some .free ∨ (cxCompF X (own ++ cap) sc s3 H3 C fp).env.kindOf x = some .local := by
            rcases hv with z | z | z
            · exact .inr (.inr z)
            · exact .inl z
            · exact .inr (.inl z)
          rcases kd with kd | kd | kd
          · obtain ⟨c', hc'⟩ := ok'.has x (.inl kd)
            have := toL x c' hc'
            rw [hc1] at this
            cases this
            exact .inr ⟨.inl kd, c, hc', hc2.keeps hk⟩
          · obtain ⟨c', hc'⟩ := ok'.has x (.inr kd)
            have := toL x c' hc'
            rw [hc1] at this
            cases this
            exact .inr ⟨.inr kd, c, hc', hc2.keeps hk⟩
          · have kd : (relabel sc X.env).names.lookup x = some .local := kd
            exact absurd kd (S.capk x hx)
    · obtain ⟨v, q⟩ := I3.cell x c (toL x c e)
      exact ⟨v, q.keeps hk⟩
    · have hp' : p ∈ ([] : List (Addr × Obj)) := hp
      cases hp'
    · show (compStart own.length js σ).length = (own ++ cap).length
      unfold compStart
      rw [List.length_append, List.length_replicate, List.length_map, List.length_append, sl]
  have fpS : ∀ {H' : Hp}, (∀ b ∈ fp, H' b = none) → ∀ b ∈ fp, FpOk (cxCompF X (own ++ cap) sc s3 H3 C fp) [] H' b := fun {H'} hn b hb => by
    refine ⟨hn b hb, ?_, fun hs => ok'.exfs b hb hs, .inl hb, fun x c e => (f3 b hb).2.2.2.2.1 x c (toL x c e), fun p hp => ?_⟩
    · show b ≠ C
      rw [eC]
      exact Nat.ne_of_lt (fpl b hb)
    · have hp' : p ∈ ([] : List (Addr × Obj)) := hp
      cases hp'
  have st4 : tn 0 h4 := T.keep 0 _ _ st3 fun b _ o e => hk b o e
  have loop : codeAny (model X.prog X.w) X.A (.compLoop (.ListComp elt [⟨tg, iter, ifs, 0⟩] sc pos) 0 (.ref it) (.ref D) (compEnvC sc (takenFrom X.env sc.names []) C X.env))
      (fun r s' => r = .ok .next ∧ ∃ m' H', s'.heap.Ns C m' ∧ s'.os = s3.os ∧ AllBare s'.gens ∧ Un (frs X.stack) fp H3 H' s3.heap s'.heap ∧ HOk X.prog X.w H' s'.heap ∧ H' C = none ∧ Qd H') { s3 with heap := h4, toks := tk } := by
    refine comp_loop (fun n s' => ∃ i σ' H', Inv (cxCompF X (own ++ cap) sc s3 H3 C fp) [] σ' H' s' ∧ tn i s'.heap ∧ (∀ b ∈ fp, H' b = none) ∧ W i n σ' H') ?_ m0 ⟨0, _, H3, I4, st4, fun b hb => (f3 b hb).1, w0⟩
    rintro n s' ⟨i, σ', H', J', st', fr', w'⟩
    rcases ask i n σ' H' w' with ⟨stop, qd⟩ | ⟨go, step⟩
    · refine thn (T.done (cxCompF X (own ++ cap) sc s3 H3 C fp) rfl rfl rfl hc i [] s' σ' H' _ J' (fpS fr') st' stop) fun r s1 zq295 => zq295.elim fun hr J1 => ?_
      subst hr
      obtain ⟨m1, hn1, _⟩ := J1.loc
      exact ⟨rfl, m1, H', hn1, J1.os, J1.bare, J1.base, J1.hok, J1.free, qd⟩
    · refine thn (T.item (cxCompF X (own ++ cap) sc s3 H3 C fp) rfl rfl rfl hc i [] s' σ' H' _ J' (fpS fr') st' go) fun r s1 zq296 => zq296.elim fun u zq297 => zq297.elim fun hr h1 => ?_
      subst hr
      refine thn h1 fun _ s2 zq298 => zq298.elim fun x zq299 => zq299.elim fun H5 zq300 => zq300.elim fun J5 zq301 => zq301.elim fun r5 zq302 => zq302.elim fun y5 zq303 => zq303.elim fun st5 fr5 => ?_
      have J5' := J5.pinned (fpS fr5) (T.obj _ _ st5)
      refine wpAny_mono (hg _ s2 σ' H5 x u _ J5' r5 (step x H5 y5)) (fun _ s6 zq304 => zq304.elim fun σ6 zq305 => zq305.elim fun H6 zq306 => zq306.elim fun J6 q6 => ?_) (fun _ _ z => z.elim)
      refine wpAny_mono (ht _ s6 σ6 H6 _ J6 q6) (fun ok s7 zq307 => zq307.elim fun H7 zq308 => zq308.elim fun J7 q7 => ?_) (fun _ _ z => z.elim)
      have again : ∀ {s9 : Shared} {H9 : Hp} {m' : Nat}, Inv (cxCompF X (own ++ cap) sc s3 H3 C fp) ([] ++ pinsAt fp s2.heap) σ6 H9 s9 → m' < n → W (i + 1) m' σ6 H9 →
          ∃ m, m < n ∧ ∃ i σ' H', Inv (cxCompF X (own ++ cap) sc s3 H3 C fp) [] σ' H' s9 ∧ tn i s9.heap ∧ (∀ b ∈ fp, H' b = none) ∧ W i m σ' H' := fun {s9 H9 m'} J9 hm w9 => by
        refine ⟨m', hm, i + 1, σ6, H9, J9.unpinned, T.keep _ _ _ st5 fun b hb o e => (J9.pin (b, o) (List.mem_append_right _ (List.mem_append_right _ (mem_pinsAt hb e)))).1, fun b hb => ?_, w9⟩
        obtain ⟨o, e, d⟩ := T.obj _ _ st5 b hb
        exact (J9.pin (b, o) (List.mem_append_right _ (List.mem_append_right _ (mem_pinsAt hb e)))).2.1
      cases ok with
      | false =>
        rw [if_neg Bool.false_ne_true] at q7 ⊢
        obtain ⟨m', hm, w7⟩ := q7
        exact again J7 hm w7
      | true =>
        rw [if_pos rfl] at q7 ⊢
        refine wpAny_mono (he _ s7 σ6 H7 _ J7 q7) (fun y s8 zq309 => zq309.elim fun yv zq310 => zq310.elim fun H8 zq311 => zq311.elim fun J8 zq312 => zq312.elim fun r8 zq313 => zq313.elim fun ys zq314 => zq314.elim fun hD8 zq315 => zq315.elim fun hz zq316 => zq316.elim fun m' zq317 => zq317.elim fun hm w8 => ?_) (fun _ _ z => z.elim)
        refine wpAny_mono (mt_append (X := cxCompF X (own ++ cap) sc s3 H3 C fp) _ s8 σ6 H8 (.ref D) [yv] (.ref D) [y] (fun v H9 => H9 = upd H8 D (.lst (ys ++ [yv]))) J8 rfl (.cons r8 .nil) ⟨D, ys, yv, rfl, rfl, hD8, hz, rfl⟩) (fun _ s9 zq318 => zq318.elim fun _ zq319 => zq319.elim fun H9 zq320 => zq320.elim fun J9 zq321 => zq321.elim fun _ eH => ?_) (fun _ _ z => z.elim)
        subst eH
        exact again J9 hm w8
  exact codeAny_compStart_list loop (T.self X.A 0 _ _ _ st4 loop)

/-- what stands behind the block, ahead of letting its names go -/
theorem comp_runF {elt tg iter : Expr} {ifs : List Expr} {sc : Scope} {pos : Pos} {own cap : List Str} {js : List Nat} {g : TG} {tt : TT} {te : TE} {it : Addr} {fp : List Addr} {tn : Nat → Heap → Prop} {J : It} {H2 : Hp} {s2 : Shared} {use : Option (Value → Sem Unit)} {Qr : Value → Shared → Prop} {Er : Value → Shared → Prop}
    {Q : V → Hp → Prop} (S : CompScopeF X own cap js sc) (hc : X.calm = true) (I2 : Inv X pins σ H2 s2) (T : Turn X.prog X.w X.K tg J fp it tn) (st2 : tn 0 s2.heap) (f2 : ∀ b ∈ fp, FpOk X pins H2 b)
    (hg : ∀ s₀ H₀ C ex, PG (cxCompF X (own ++ cap) sc s₀ H₀ C ex) tg g) (ht : ∀ s₀ H₀ C ex, PTs (cxCompF X (own ++ cap) sc s₀ H₀ C ex) ifs tt) (he : ∀ s₀ H₀ C ex, PE (cxCompF X (own ++ cap) sc s₀ H₀ C ex) elt te)
    (q2 : ∀ D, H2 D = none → ∃ W : Nat → Nat → St → Hp → Prop, (∃ m, W 0 m (compStart own.length js σ) (upd H2 D (.lst []))) ∧ CompAsk J g tt te D (fun H' => Q (.ref D) H') W)
    (fin : ∀ (D C : Addr) (H' : Hp) (s' : Shared) (m' : Str → Option Value), s2.heap.objs.size < C → s'.heap.Ns C m' → Inv X pins σ H' s' → H' C = none → Q (.ref D) H' → compPost (model X.prog X.w) X.A Er use Qr (.ref D) C (.ok .next) s') :
    wpAny (model X.prog X.w) X.A (newList []) (fun acc s₃ => wpAny (model X.prog X.w) X.A (newFunctionEnv sc X.env.globals (takenFrom X.env sc.names []) [] X.env.qual none .none (some X.env)) (fun cenv s₄ =>
      codeAny (model X.prog X.w) X.A (.compStart (.ListComp elt [⟨tg, iter, ifs, 0⟩] sc pos) 0 (.ref it) acc { cenv with scope := relabel sc X.env }) (compPost (model X.prog X.w) X.A Er use Qr acc cenv.locals) s₄) Er s₃) Er s2 := by
  have hDn : H2 s2.heap.objs.size = none := I2.fresh
  obtain ⟨W, ⟨m0, w0⟩, ask⟩ := q2 _ hDn
  have I3 := I2.lnew (ys := []) (its := []) (t' := s2.toks) .nil (Nat.zero_le _)
  have fpl : ∀ b ∈ fp, b < s2.heap.objs.size := fun b hb => by
    obtain ⟨o, e, _⟩ := T.obj 0 _ st2 b hb
    exact Heap.lt_size e
  have f3 : ∀ b ∈ fp, FpOk X pins (upd H2 s2.heap.objs.size (.lst [])) b := fun b hb => by
    refine ⟨?_, (f2 b hb).2⟩
    rw [upd_ne (Nat.ne_of_lt (fpl b hb))]
    exact (f2 b hb).1
  refine wpAny_newObj_type (hd := by size_fits) (wpAny_newFunctionEnv S.nocell (by intro y hy; simp at hy) (fun h4 hns hsb => ?_) S.kind)
  dsimp only at hns hsb ⊢
  have hkp : ∀ b o, (s2.heap.push { cls := .type "list", dict := none, data := .seq ([] : List Value).toArray }).get? b = some o → h4.get? b = some o := fun b o e =>
    hsb.extBut b o (Nat.ne_of_lt (Heap.lt_size e)) (Heap.get?_push_of_some _ e)
  have st3 : tn 0 (s2.heap.push { cls := .type "list", dict := none, data := .seq ([] : List Value).toArray }) := T.keep 0 _ _ st2 fun b _ o e => Heap.get?_push_of_some _ e
  refine codeAny_mono (comp_coreF (s3 := { s2 with heap := s2.heap.push { cls := .type "list", dict := none, data := .seq ([] : List Value).toArray } }) (tk := s2.toks + ([] : List (Str × Value)).length) S hc I3 T st3 f3 rfl hns hkp (hg _ _ _ _) (ht _ _ _ _) (he _ _ _ _) w0 ask) fun r s' hr => ?_
  obtain ⟨er, m', H', hn', os', bare', un', hok', free', qd⟩ := hr
  subst er
  have un1 : Un (frs X.stack) fp H2 (upd H2 s2.heap.objs.size (.lst [])) s2.heap (s2.heap.push { cls := .type "list", dict := none, data := .seq ([] : List Value).toArray }) := Un.laid (fun b o e => Heap.get?_push_of_some _ e) (Nat.le_refl _) hDn
  refine fin _ _ H' s' m' ?_ hn' (I2.call' (s' := s') (ch := fp) os' (un1.trans un') hok' bare' (fun b hb => ⟨(f2 b hb).2.2.2.1, (f2 b hb).2.1, (f2 b hb).2.2.2.2.1, (f2 b hb).2.2.2.2.2⟩)) free' qd
  show s2.heap.objs.size < (s2.heap.push { cls := .type "list", dict := none, data := .seq ([] : List Value).toArray }).objs.size
  rw [Heap.size_push]
  exact Nat.lt_succ_self _

/-- a block's frame is let go: the state around is as it was -/
theorem Inv.letGo {H : Hp} {s : Shared} {C : Addr} {h' : Heap} (I : Inv X pins σ H s) (sb : Heap.SameBut C s.heap h') (hn : H C = none) (h0 : X.s₀.heap.objs.size ≤ C) (h1 : C ≠ X.env.locals) (h2 : ∀ x c, X.env.cells.lookup x = some c → c ≠ C) (h3 : ∀ p ∈ X.pn ++ pins, p.1 ≠ C) :
    Inv X pins σ H { s with heap := h' } := by
  refine I.call' (s' := { s with heap := h' }) (ch := [C]) rfl ⟨fun b o e _ _ hb => ?_, fun b o e _ _ hb => ⟨o.slots, ?_⟩, fun _ _ _ n _ => n, fun b o e hb => ⟨o, ?_⟩, fun _ _ q => q, fun _ _ _ q => q, fun _ ps q => ⟨#[], by rw [q]; simp⟩⟩ (hok_but I.hok sb hn) I.bare (fun b hb => ?_)
  · exact (sb.2 b (by simpa using hb)).trans e
  · exact (sb.2 b (by simpa using hb)).trans e
  · exact (sb.2 b (by simpa using hb)).trans e
  · have : b = C := by simpa using hb
    subst this
    exact ⟨.inr h0, h1, h2, h3⟩
theorem Inv.goes {H2 H : Hp} {s2 s : Shared} {σ' : St} {C : Addr} {h' : Heap} (I2 : Inv X pins σ' H2 s2) (hC : s2.heap.objs.size < C) (I : Inv X pins σ H s) (sb : Heap.SameBut C s.heap h') (hn : H C = none) : Inv X pins σ H { s with heap := h' } := by
  refine I.letGo sb hn (Nat.le_of_lt (Nat.lt_of_le_of_lt I2.sz hC)) (Nat.ne_of_gt (Nat.lt_trans I2.lt hC)) (fun x c e z => ?_) (fun p hp z => ?_)
  · obtain ⟨v, q⟩ := I2.cell x c e
    exact absurd (Nat.lt_trans q.lt hC) (by rw [z]; exact Nat.lt_irrefl _)
  · exact absurd (Nat.lt_trans (Heap.lt_size (I2.pin p hp).1) hC) (by rw [z]; exact Nat.lt_irrefl _)

theorem CompScopeF.clos {own cap : List Str} {js : List Nat} {sc : Scope} (S : CompScopeF X own cap js sc) (ok : X.Ok) : closureFor sc X.env = pure (takenFrom X.env sc.names []) :=
  closureFor_taken fun y hy e => ok.has _ (.inl (S.outer _ (S.frees y hy e)))

theorem pe_compF {elt tg iter : Expr} {ifs : List Expr} {sc : Scope} {pos : Pos} (own cap : List Str) (js : List Nat) {wi : TI} {g : TG} {tt : TT} {te : TE} (S : CompScopeF X own cap js sc) (hc : X.calm = true) (hi : PI X tg iter wi)
    (hg : ∀ s₀ H₀ C ex, PG (cxCompF X (own ++ cap) sc s₀ H₀ C ex) tg g) (ht : ∀ s₀ H₀ C ex, PTs (cxCompF X (own ++ cap) sc s₀ H₀ C ex) ifs tt) (he : ∀ s₀ H₀ C ex, PE (cxCompF X (own ++ cap) sc s₀ H₀ C ex) elt te)
    (hs : ∀ x, foldedSetIterable iter X.env x = pure x := by intro _; rfl) : PE X (.ListComp elt [⟨tg, iter, ifs, 0⟩] sc pos) (tCompF wi own.length js g tt te) := by
  intro pins s σ H Q I h
  rw [eval_ListComp]
  refine wpAny_comprehension_free (use := none) rfl hs (S.clos I.ok) S.kind S.names (thn (hi pins s σ H _ I h) fun v s1 h1 => thn h1 fun itv s2 h2 => ?_)
  obtain ⟨it, fp, tn, J, H2, e, I2, T, st2, f2, q2⟩ := h2
  subst e
  refine comp_runF (Q := Q) S hc I2 T st2 f2 hg ht he q2 fun D C H' s' m' hC hn' I' free' qd => ?_
  exact ⟨m', hn', fun h' sb => ⟨.ref D, H', I2.goes hC I' sb free', rfl, qd⟩⟩

/-- x = [.. for ..], x a plain local name: stored ahead of letting the block's names go -/
theorem ps_setComp {i : Nat} {x : Str} {elt tg iter : Expr} {ifs : List Expr} {sc : Scope} {pos px ps : Pos} (own cap : List Str) (js : List Nat) {wi : TI} {g : TG} {tt : TT} {te : TE} (hN : X.N.Nodup) (hx : X.N[i]? = some x) (hl : X.env.scope.names.lookup x = some .local) (S : CompScopeF X own cap js sc) (hc : X.calm = true)
    (hi : PI X tg iter wi) (hg : ∀ s₀ H₀ C ex, PG (cxCompF X (own ++ cap) sc s₀ H₀ C ex) tg g) (ht : ∀ s₀ H₀ C ex, PTs (cxCompF X (own ++ cap) sc s₀ H₀ C ex) ifs tt) (he : ∀ s₀ H₀ C ex, PE (cxCompF X (own ++ cap) sc s₀ H₀ C ex) elt te)
    (hsw : swapsWith (.ListComp elt [⟨tg, iter, ifs, 0⟩] sc pos) (some (.Name x px)) ps.line X.env = pure true := by rfl)
    (hs : ∀ x, foldedSetIterable iter X.env x = pure x := by intro _; rfl) : PS X (.Assign [.Name x px] (.ListComp elt [⟨tg, iter, ifs, 0⟩] sc pos) ps) (tAsg (tCompF wi own.length js g tt te) (gName i)) := by
  intro pins s σ H D I h
  rw [exec_Assign_Name_used _ _ _ _ hsw]
  refine wpAny_bind (wpAny_standAt (wpAny_bind ?_))
  show wpAny _ X.A (do let _ ← comprehension (.ListComp elt [⟨tg, iter, ifs, 0⟩] sc pos) sc X.env _ (newList []) false (eval iter X.env) (some (assign (.Name x px) X.env))) _ _ s
  refine wpAny_bind (wpAny_mono (wpAny_comprehension_free (use := some (assign (.Name x px) X.env)) (Q := fun _ s' => ∃ σ' H', Inv X pins σ' H' s' ∧ D.nx σ' H') rfl hs (S.clos I.ok) S.kind S.names
    (thn (hi pins s σ H _ I h) fun v s1 h1 => thn h1 fun itv s2 h2 => ?_)) (fun _ s' hq => wpAny_pure (wpAny_pure hq)) fun _ _ e => e)
  obtain ⟨it, fp, tn, J, H2, e, I2, T, st2, f2, q2⟩ := h2
  subst e
  refine comp_runF (Q := fun v H1 => gName i v σ H1 D.nx) S hc I2 T st2 f2 hg ht he q2 fun D' C H' s' m' hC hn' I' free' qd => ?_
  show wpAny _ X.A (assign (.Name x px) X.env (.ref D')) _ _ s'
  refine wpAny_assign_Name (store_ok2 (v := .ref D') I' hN hx (.inl hl) rfl (fun s'' I'' zq322 => zq322.elim fun a zq323 => zq323.elim fun sb ha => ?_) (.inr hl))
  have ne : C ≠ a := by
    rcases ha with z | z
    · rw [z]; exact Nat.ne_of_gt (Nat.lt_trans I2.lt hC)
    · obtain ⟨v, q⟩ := I2.cell x a z
      exact Nat.ne_of_gt (Nat.lt_trans q.lt hC)
  exact ⟨m', hn'.sameBut sb ne, fun h' sb' => ⟨_, H', I2.goes hC I'' sb' free', qd⟩⟩
end
end L2

set_option Elab.async false
set_option linter.all false
set_option maxRecDepth 100000
set_option maxHeartbeats 4000000

namespace L2
open PySem PySem.Spec PyProof.Rows
section
variable {X : Cx} {e k : Expr} {te tk : TE} {pos p2 : Pos}
/-- xs[::-1] of a list: a new list -/
noncomputable def tRevL (K : PySem.W.Frag) (te tk : TE) : TE := fun σ H Q => te σ H fun x H1 => tk σ H1 fun z H2 => z = .int (-1) ∧ ∃ a xs, x = .ref a ∧ SqL K H2 a xs ∧ ∀ p, H2 p = none → Q (.ref p) (upd H2 p (.lst xs.reverse))
theorem Paired.rev {α β : Type} {R : α → β → Prop} : ∀ {xs : List α} {ys : List β}, Paired R xs ys → ∀ {xs' : List α} {ys' : List β}, Paired R xs' ys' → Paired R (xs.reverseAux xs') (ys.reverseAux ys')
  | _, _, .nil, _, _, h => h
  | _, _, .cons r rs, _, _, h => Paired.rev rs (.cons r h)
theorem pe_rev (he : PE X e te) (hk : PE X k tk) : PE X (.Subscript e (.Slice none none (some k) p2) pos) (tRevL X.K te tk) := by
  intro pins s σ H Q I h
  refine Subscript_ (thn (he pins s σ H _ I h) fun v s1 zq324 => zq324.elim fun x zq325 => zq325.elim fun H1 zq326 => zq326.elim fun I1 zq327 => zq327.elim fun r1 q1 => ?_)
  refine wpAny_Slice ?_
  rw [evalPart_none]
  refine wpAny_pure (wpAny_pure ?_)
  rw [evalPart_some]
  refine thn (hk pins s1 σ H1 _ I1 q1) fun u s3 zq328 => zq328.elim fun z zq329 => zq329.elim fun H3 zq330 => zq330.elim fun I3 zq331 => zq331.elim fun r3 q3 => ?_
  obtain ⟨ez, a, xs, ex, hx, q⟩ := q3
  subst ez ex
  obtain ⟨t, rfl⟩ := r3
  cases r1
  have I4 : Inv X pins σ H3 { s3 with heap := s3.heap.push { cls := .type "slice", data := .fields #[.none, .none, .int (-1) t] } } := I3.kept (t' := s3.toks) fun b ob q => Heap.get?_push_of_some _ q
  obtain ⟨its, r, ht, hz⟩ := I4.list hx
  have hlen := r.length
  show wpAny (model X.prog X.w) X.A (subscriptTail e (.Slice none none (some k) p2) (.ref a) (.ref s3.heap.objs.size)) (EP X pins σ Q) X.xe { s3 with heap := s3.heap.push { cls := .type "slice", data := .fields #[.none, .none, .int (-1) t] } }
  refine tail_any (ops := [.ref a, .ref s3.heap.objs.size]) (T := "list") ht.isList.typeIs slot_list_getitem.lookup ?_ (by with_unfolding_all rfl)
  refine wpAny_getItem_list_slice ht.isList (Heap.IsSliceOf.new ..) .none .none (.int (-1) t) (by decide) ?_ (by rw [List.size_toArray]; omega)
  rw [PySem.W.krv_pick]
  refine ⟨.ref _, _, I4.laid (t' := s3.toks) (o := .lst xs.reverse) (fun b ob q => Heap.get?_push_of_some _ q) (Nat.le_refl _) ?_, rfl, q _ (I4.hok.fresh (Nat.le_refl _))⟩
  exact ⟨by rw [List.length_reverse]; exact hz, _, 0, Paired.rev r .nil, Heap.get?_push_size _ rfl⟩
end

section
variable {X : Cx} {a b c d : Expr} {ta tb tc td : TE} {pos : Pos}
end
end L2

set_option Elab.async false
set_option linter.all false
set_option maxRecDepth 100000
set_option maxHeartbeats 4000000

namespace L2
open PySem PySem.Spec PyProof.Rows
/-! ### what is new stands in some heap over the one ahead -/
noncomputable abbrev New (H : Hp) (o : HO) (Q : V → Hp → Prop) : Prop := ∀ p H', H p = none → Same H H' → H' p = some o → Q (.ref p) H'
theorem New.at {H : Hp} {o : HO} {Q : V → Hp → Prop} (h : New H o Q) : ∀ p, H p = none → Q (.ref p) (upd H p o) := fun p hp => h p _ hp (same_upd hp) upd_same
theorem OpR.weak {X : Cx} {f : Value → Value → Sem Value} {r r' : R2} (h : OpR X f r) (w : ∀ x y H Q, r' x y H Q → r x y H Q) : OpR X f r' := fun pins s σ H x y v u Q I rx ry q => h pins s σ H x y v u Q I rx ry (w _ _ _ _ q)
theorem CallR.weak {X : Cx} {f : Value} {r r' : List V → Hp → VK → Prop} (h : CallR X f r) (w : ∀ xs H Q, r' xs H Q → r xs H Q) : CallR X f r' := fun pins s σ H xs us Q I rx q => h pins s σ H xs us Q I rx (w _ _ _ q)
theorem SlR.weak {X : Cx} {r r' : V → Option Int → Option Int → Hp → VK → Prop} (h : SlR X r) (w : ∀ x l u H Q, r' x l u H Q → r x l u H Q) : SlR X r' := fun pins s σ H x v vl vu lo hi sl Q I rx hs pl pu q => h pins s σ H x v vl vu lo hi sl Q I rx hs pl pu (w _ _ _ _ _ q)
section
variable {X : Cx} {e k : Expr} {es : List Expr} {te tk : TE} {t : TA} {pos p2 : Pos}
noncomputable def rCatN : R2 := fun x y H Q => ∃ l b xs zs, x = .ref l ∧ y = .ref b ∧ H l = some (.lst xs) ∧ H b = some (.lst zs) ∧ xs.length + zs.length ≤ sizeLine ∧ New H (.lst (xs ++ zs)) Q
theorem op_catN : OpR X (binaryOp .Add) rCatN := op_cat.weak fun x y H Q zq332 => zq332.elim fun l zq333 => zq333.elim fun b zq334 => zq334.elim fun xs zq335 => zq335.elim fun zs zq336 => zq336.elim fun a1 zq337 => zq337.elim fun a2 zq338 => zq338.elim fun a3 zq339 => zq339.elim fun a4 zq340 => zq340.elim fun a5 a6 => ⟨l, b, xs, zs, a1, a2, a3, a4, a5, a6.at⟩
noncomputable def rSlN (K : PySem.W.Frag) : V → Option Int → Option Int → Hp → VK → Prop := fun x lo hi H Q => ∃ a xs, x = .ref a ∧ SqL K H a xs ∧ New H (.lst (cutV xs lo hi)) Q
theorem sl_listN : SlR X (rSlN X.K) := sl_list.weak fun x l u H Q zq341 => zq341.elim fun a zq342 => zq342.elim fun xs zq343 => zq343.elim fun a1 zq344 => zq344.elim fun a2 a3 => ⟨a, xs, a1, a2, a3.at⟩
theorem call_listN : CallR X (.type "list") (fun xs H Q => ∃ p ys, xs = [.ref p] ∧ (SqL X.K H p ys ∨ SqT X.K H p ys) ∧ New H (.lst ys) Q) := call_list_of.weak fun xs H Q zq345 => zq345.elim fun p zq346 => zq346.elim fun ys zq347 => zq347.elim fun a1 zq348 => zq348.elim fun a2 a3 => ⟨p, ys, a1, a2, a3.at⟩
noncomputable def tTupN (t : TA) : TE := fun σ H Q => t σ H fun xs H1 => xs.length ≤ sizeLine ∧ New H1 (.tup xs) Q
noncomputable def tLstN (t : TA) : TE := fun σ H Q => t σ H fun xs H1 => xs.length ≤ sizeLine ∧ New H1 (.lst xs) Q
theorem PA.thn {t : TA} (h : PA X es t) {A : Hp → Prop} {F : VK → List V → Hp → Prop} {G : VK → List V → Hp → Prop} (w : ∀ Q xs H, F Q xs H → G Q xs H) : PA X es (fun σ H R => ∃ Q : VK, t σ H (F Q) ∧ R = G Q) := by
  intro pos pins s σ H R I ⟨Q, q, e⟩
  subst e
  exact L2.thn (h pos pins s σ H _ I q) fun us s1 zq349 => zq349.elim fun vs zq350 => zq350.elim fun H1 zq351 => zq351.elim fun I1 zq352 => zq352.elim fun r1 q1 => ⟨vs, H1, I1, r1, w _ _ _ q1⟩
theorem pe_tupN {x1} (h : PA X es t) : PE X (.Tuple es x1 pos) (tTupN t) := by
  intro pins s σ H Q I q
  exact pe_tup (PA.thn (A := fun _ => True) (F := fun Q xs H1 => xs.length ≤ sizeLine ∧ New H1 (.tup xs) Q) (G := fun Q xs H1 => xs.length ≤ sizeLine ∧ ∀ p, H1 p = none → Q (.ref p) (upd H1 p (.tup xs))) h (fun Q xs H zq353 => zq353.elim fun a b => ⟨a, b.at⟩)) pins s σ H Q I ⟨Q, q, rfl⟩
theorem pe_lstN (h : PA X es t) : PE X (.List es pos) (tLstN t) := by
  intro pins s σ H Q I q
  exact pe_lst (PA.thn (A := fun _ => True) (F := fun Q xs H1 => xs.length ≤ sizeLine ∧ New H1 (.lst xs) Q) (G := fun Q xs H1 => xs.length ≤ sizeLine ∧ ∀ p, H1 p = none → Q (.ref p) (upd H1 p (.lst xs))) h (fun Q xs H zq354 => zq354.elim fun a b => ⟨a, b.at⟩)) pins s σ H Q I ⟨Q, q, rfl⟩
noncomputable def tRevN (K : PySem.W.Frag) (te : TE) : TE := fun σ H Q => te σ H fun x H2 => ∃ a xs, x = .ref a ∧ SqL K H2 a xs ∧ New H2 (.lst xs.reverse) Q
theorem PE.thn {t : TE} {F G : VK → VK} (h : PE X e t) (w : ∀ Q v H, F Q v H → G Q v H) : PE X e (fun σ H R => ∃ Q : VK, t σ H (F Q) ∧ R = G Q) := by
  intro pins s σ H R I ⟨Q, q, e⟩
  subst e
  exact L2.thn (h pins s σ H _ I q) fun u s1 zq355 => zq355.elim fun v zq356 => zq356.elim fun H1 zq357 => zq357.elim fun I1 zq358 => zq358.elim fun r1 q1 => ⟨v, H1, I1, r1, w _ _ _ q1⟩
/-- xs[::-1] -/
theorem pe_revN {j p3 p4} (he : PE X e te) : PE X (.Subscript e (.Slice none none (some (.UnaryOp .USub (.Constant (.int 1) j p3) p4)) p2) pos) (tRevN X.K te) := by
  intro pins s σ H Q I q
  refine pe_rev (k := .UnaryOp .USub (.Constant (.int 1) j p3) p4) (PE.thn (F := fun Q x H2 => ∃ a xs, x = .ref a ∧ SqL X.K H2 a xs ∧ New H2 (.lst xs.reverse) Q)
    (G := fun Q x H1 => ∃ i, V.int 1 = .int i ∧ (V.int (-i) = .int (-1) ∧ ∃ a xs, x = .ref a ∧ SqL X.K H1 a xs ∧ ∀ p, H1 p = none → Q (.ref p) (upd H1 p (.lst xs.reverse)))) he
    fun Q v H zq359 => zq359.elim fun a zq360 => zq360.elim fun xs zq361 => zq361.elim fun a1 zq362 => zq362.elim fun a2 a3 => ⟨1, rfl, rfl, a, xs, a1, a2, a3.at⟩) (pe_un un_neg pe_int) pins s σ H Q I ⟨Q, q, rfl⟩
end

/-! ### comprehensions: the shapes one uses -/
section
variable {g : TG} {tt : TT} {te : TE} {H1 : Hp} {Q : Addr → Hp → Prop}
/-- S: what is known of the names; P: of what was made so far -/
theorem comp_rangeG {lo : Int} {n : Nat} {σ0 : St} (S : St → Prop) (P : Nat → List V → Hp → Prop) (s0 : S σ0) (st : ∀ D, H1 D = none → P 0 [] (upd H1 D (.lst [])))
    (turn : ∀ D i ys σ H (k : St → V → Hp → Prop) (k' : St → Hp → Prop), H1 D = none → i < n → S σ → H D = some (.lst ys) → Same H1 H → P i ys H →
      (∀ σ3 y H5, S σ3 → Same H H5 → ys.length < sizeLine → P (i + 1) (ys ++ [y]) (upd H5 D (.lst (ys ++ [y]))) → k σ3 y H5) → (∀ σ3 H4, S σ3 → Same H H4 → P (i + 1) ys H4 → k' σ3 H4) →
      g (.int (lo + i)) σ H fun σ3 H3 => tt σ3 H3 fun ok H4 => if ok = true then te σ3 H4 (k σ3) else k' σ3 H4)
    (done : ∀ D ys H, H1 D = none → H D = some (.lst ys) → Same H1 H → P n ys H → Q D H) :
    ∀ D, H1 D = none → ∃ W : Nat → Nat → St → Hp → Prop, (∃ m, W 0 m σ0 (upd H1 D (.lst []))) ∧ CompAsk (Itr lo n) g tt te D (fun H' => Q D H') W := by
  intro D hD
  refine ⟨fun i m σ H => m = n - i ∧ i ≤ n ∧ S σ ∧ ∃ ys, H D = some (.lst ys) ∧ Same H1 H ∧ P i ys H, ⟨n, by simp, Nat.zero_le _, s0, [], upd_same, same_upd hD, st D hD⟩, ?_⟩
  rintro i m σ H ⟨rfl, hi, hS, ys, hd, hs, hp⟩
  by_cases hlt : i < n
  · refine .inr ⟨hlt, fun x H2 hy => ?_⟩
    obtain ⟨e1, e2⟩ := hy
    subst e1 e2
    exact turn D i ys σ _ (fun σ3 y H5 => ∃ ys, H5 D = some (.lst ys) ∧ ys.length < sizeLine ∧ ∃ m', m' < n - i ∧ (m' = n - (i + 1) ∧ i + 1 ≤ n ∧ S σ3 ∧ ∃ zs, upd H5 D (.lst (ys ++ [y])) D = some (.lst zs) ∧ Same H1 (upd H5 D (.lst (ys ++ [y]))) ∧ P (i + 1) zs (upd H5 D (.lst (ys ++ [y])))))
      (fun σ3 H4 => ∃ m', m' < n - i ∧ (m' = n - (i + 1) ∧ i + 1 ≤ n ∧ S σ3 ∧ ∃ zs, H4 D = some (.lst zs) ∧ Same H1 H4 ∧ P (i + 1) zs H4)) hD hlt hS hd hs hp
      (fun σ3 y H5 a1 a2 a3 a4 => ⟨ys, a2 _ _ hd, a3, n - (i + 1), by omega, rfl, hlt, a1, ys ++ [y], upd_same, same_upd' (hs.trans a2) hD, a4⟩)
      (fun σ3 H4 a1 a2 a3 => ⟨n - (i + 1), by omega, rfl, hlt, a1, ys, a2 _ _ hd, hs.trans a2, a3⟩)
  · have e : i = n := by omega
    subst e
    exact .inl ⟨Nat.le_refl _, done D ys H hD hd hs hp⟩
theorem comp_listG {K : PySem.W.Frag} {a : Addr} {xs : List V} {σ0 : St} (hx : SqL K H1 a xs) (S : St → Prop) (P : Nat → List V → Hp → Prop) (s0 : S σ0) (st : ∀ D, H1 D = none → P 0 [] (upd H1 D (.lst [])))
    (turn : ∀ D i x ys σ H (k : St → V → Hp → Prop) (k' : St → Hp → Prop), H1 D = none → xs[i]? = some x → S σ → H D = some (.lst ys) → Same H1 H → P i ys H →
      (∀ σ3 y H5, S σ3 → Same H H5 → ys.length < sizeLine → P (i + 1) (ys ++ [y]) (upd H5 D (.lst (ys ++ [y]))) → k σ3 y H5) → (∀ σ3 H4, S σ3 → Same H H4 → P (i + 1) ys H4 → k' σ3 H4) →
      g x σ H fun σ3 H3 => tt σ3 H3 fun ok H4 => if ok = true then te σ3 H4 (k σ3) else k' σ3 H4)
    (done : ∀ D ys H, H1 D = none → H D = some (.lst ys) → Same H1 H → P xs.length ys H → Q D H) :
    ∀ D, H1 D = none → ∃ W : Nat → Nat → St → Hp → Prop, (∃ m, W 0 m σ0 (upd H1 D (.lst []))) ∧ CompAsk (Itl K a) g tt te D (fun H' => Q D H') W := by
  intro D hD
  refine ⟨fun i m σ H => m = xs.length - i ∧ i ≤ xs.length ∧ S σ ∧ ∃ ys, H D = some (.lst ys) ∧ Same H1 H ∧ P i ys H, ⟨xs.length, by simp, Nat.zero_le _, s0, [], upd_same, same_upd hD, st D hD⟩, ?_⟩
  rintro i m σ H ⟨rfl, hi, hS, ys, hd, hs, hp⟩
  have q : SqL K H a xs := Same.seq hs hx
  by_cases hlt : i < xs.length
  · refine .inr ⟨⟨xs, xs[i], q, by simp [hlt]⟩, fun x H2 hy => ?_⟩
    obtain ⟨e1, e2⟩ := hy
    subst e1
    exact turn D i x ys σ _ (fun σ3 y H5 => ∃ ys, H5 D = some (.lst ys) ∧ ys.length < sizeLine ∧ ∃ m', m' < xs.length - i ∧ (m' = xs.length - (i + 1) ∧ i + 1 ≤ xs.length ∧ S σ3 ∧ ∃ zs, upd H5 D (.lst (ys ++ [y])) D = some (.lst zs) ∧ Same H1 (upd H5 D (.lst (ys ++ [y]))) ∧ P (i + 1) zs (upd H5 D (.lst (ys ++ [y])))))
      (fun σ3 H4 => ∃ m', m' < xs.length - i ∧ (m' = xs.length - (i + 1) ∧ i + 1 ≤ xs.length ∧ S σ3 ∧ ∃ zs, H4 D = some (.lst zs) ∧ Same H1 H4 ∧ P (i + 1) zs H4)) hD (e2 xs q) hS hd hs hp
      (fun σ3 y H5 a1 a2 a3 a4 => ⟨ys, a2 _ _ hd, a3, xs.length - (i + 1), by omega, rfl, hlt, a1, ys ++ [y], upd_same, same_upd' (hs.trans a2) hD, a4⟩)
      (fun σ3 H4 a1 a2 a3 => ⟨xs.length - (i + 1), by omega, rfl, hlt, a1, ys, a2 _ _ hd, hs.trans a2, a3⟩)
  · have e : i = xs.length := by omega
    subst e
    exact .inl ⟨⟨xs, q, Nat.le_refl _⟩, done D ys H hD hd hs hp⟩
theorem comp_range0 {lo : Int} {n : Nat} {σ0 : St} (S : St → Prop) (P : Nat → List V → Hp → Prop) (s0 : S σ0) (st : ∀ D, H1 D = none → P 0 [] (upd H1 D (.lst [])))
    (turn : ∀ D i ys σ H (k : St → V → Hp → Prop), H1 D = none → i < n → S σ → H D = some (.lst ys) → Same H1 H → P i ys H →
      (∀ σ3 y H5, S σ3 → Same H H5 → ys.length < sizeLine → P (i + 1) (ys ++ [y]) (upd H5 D (.lst (ys ++ [y]))) → k σ3 y H5) → g (.int (lo + i)) σ H fun σ3 H3 => te σ3 H3 (k σ3))
    (done : ∀ D ys H, H1 D = none → H D = some (.lst ys) → Same H1 H → P n ys H → Q D H) :
    ∀ D, H1 D = none → ∃ W : Nat → Nat → St → Hp → Prop, (∃ m, W 0 m σ0 (upd H1 D (.lst []))) ∧ CompAsk (Itr lo n) g tTrue te D (fun H' => Q D H') W :=
  comp_rangeG S P s0 st (fun D i ys σ H k k' a1 a2 a3 a4 a5 a6 a7 _ => turn D i ys σ H k a1 a2 a3 a4 a5 a6 a7) done
theorem comp_list0 {K : PySem.W.Frag} {a : Addr} {xs : List V} {σ0 : St} (hx : SqL K H1 a xs) (S : St → Prop) (P : Nat → List V → Hp → Prop) (s0 : S σ0) (st : ∀ D, H1 D = none → P 0 [] (upd H1 D (.lst [])))
    (turn : ∀ D i x ys σ H (k : St → V → Hp → Prop), H1 D = none → xs[i]? = some x → S σ → H D = some (.lst ys) → Same H1 H → P i ys H →
      (∀ σ3 y H5, S σ3 → Same H H5 → ys.length < sizeLine → P (i + 1) (ys ++ [y]) (upd H5 D (.lst (ys ++ [y]))) → k σ3 y H5) → g x σ H fun σ3 H3 => te σ3 H3 (k σ3))
    (done : ∀ D ys H, H1 D = none → H D = some (.lst ys) → Same H1 H → P xs.length ys H → Q D H) :
    ∀ D, H1 D = none → ∃ W : Nat → Nat → St → Hp → Prop, (∃ m, W 0 m σ0 (upd H1 D (.lst []))) ∧ CompAsk (Itl K a) g tTrue te D (fun H' => Q D H') W :=
  comp_listG hx S P s0 st (fun D i x ys σ H k k' a1 a2 a3 a4 a5 a6 a7 _ => turn D i x ys σ H k a1 a2 a3 a4 a5 a6 a7) done
end
end L2

set_option Elab.async false
set_option linter.all false
set_option maxRecDepth 100000
set_option maxHeartbeats 4000000
namespace Lcp
open PySem
/-- how many lines at the begin of both are alike -/
noncomputable def lcp : List Str → List Str → Nat
  | x :: xs, y :: ys => if x = y then lcp xs ys + 1 else 0
  | _, _ => 0
theorem lcp_le : ∀ (xs ys : List Str), lcp xs ys ≤ xs.length ∧ lcp xs ys ≤ ys.length
  | [], _ => by simp [lcp]
  | _ :: _, [] => by simp [lcp]
  | x :: xs, y :: ys => by
    unfold lcp
    have := lcp_le xs ys
    split <;> simp only [List.length_cons] <;> omega
/-- the turn of the while: alike so far -/
theorem lcp_step {xs ys : List Str} {i : Nat} {x y : Str} (hx : xs[i]? = some x) (hy : ys[i]? = some y) : lcp (xs.drop i) (ys.drop i) = if x = y then lcp (xs.drop (i + 1)) (ys.drop (i + 1)) + 1 else 0 := by
  obtain ⟨h1, e1⟩ := List.getElem?_eq_some_iff.mp hx
  obtain ⟨h2, e2⟩ := List.getElem?_eq_some_iff.mp hy
  rw [List.drop_eq_getElem_cons h1, List.drop_eq_getElem_cons h2, e1, e2]
  rfl
theorem lcp_end {xs ys : List Str} {i : Nat} (h : xs.length ≤ i ∨ ys.length ≤ i) : lcp (xs.drop i) (ys.drop i) = 0 := by
  rcases h with h | h
  · rw [List.drop_eq_nil_iff.mpr h]; rfl
  · rw [List.drop_eq_nil_iff.mpr h]
    cases xs.drop i <;> rfl
/-- the block's start; how many are alike at the end of what is left -/
noncomputable def fst (xs ys : List Str) : Nat := lcp xs ys
noncomputable def bck (xs ys : List Str) : Nat := lcp (xs.drop (fst xs ys)).reverse (ys.drop (fst xs ys)).reverse
noncomputable def stp (xs ys : List Str) : Nat := xs.length - bck xs ys
noncomputable def mid (xs ys : List Str) : List Str := (ys.drop (fst xs ys)).take (ys.length - bck xs ys - fst xs ys)
theorem fb_le (xs ys : List Str) : fst xs ys + bck xs ys ≤ xs.length ∧ fst xs ys + bck xs ys ≤ ys.length := by
  have h1 := lcp_le xs ys
  have h2 := lcp_le (xs.drop (fst xs ys)).reverse (ys.drop (fst xs ys)).reverse
  rw [List.length_reverse, List.length_drop, List.length_reverse, List.length_drop] at h2
  unfold bck
  unfold fst at *
  omega
theorem mid_len (xs ys : List Str) : (mid xs ys).length = ys.length - bck xs ys - fst xs ys := by
  obtain ⟨l1, l2⟩ := fb_le xs ys
  unfold mid
  rw [List.length_take, List.length_drop]
  omega
theorem mid_mem {xs ys : List Str} {x : Str} (h : x ∈ mid xs ys) : x ∈ ys := List.mem_of_mem_drop (List.mem_of_mem_take h)
end Lcp

set_option Elab.async false
set_option linter.all false
set_option maxRecDepth 100000
set_option maxHeartbeats 4000000
namespace L2
open PySem PySem.Spec PyProof.Rows
/-! ### lines: texts that are short enough and good; lists of them -/
structure Ln (x : Str) : Prop where
  ok : TxtOk x
  len : x.length ≤ 60
structure Lns (xs : List Str) : Prop where
  len : xs.length ≤ 20
  all : ∀ x ∈ xs, Ln x
theorem lnOk_of {x : Str} (h : (PyData.strOk x && decide (x.length ≤ 60)) = true) : Ln x := by
  rw [Bool.and_eq_true] at h
  exact ⟨h.1, of_decide_eq_true h.2⟩
/-- xs[lo:hi] -/
noncomputable def cutS (xs : List Str) (lo hi : Option Int) : List Str := (xs.drop (HT.sIx xs.length 0 lo)).take (HT.sIx xs.length xs.length hi - HT.sIx xs.length 0 lo)
theorem cutV_strs (xs : List Str) (lo hi : Option Int) : cutV (xs.map V.str) lo hi = (cutS xs lo hi).map V.str := by
  unfold cutV cutS
  rw [List.length_map, List.map_take, List.map_drop]
theorem cutS_mem {xs : List Str} {lo hi : Option Int} {x : Str} (h : x ∈ cutS xs lo hi) : x ∈ xs := List.mem_of_mem_drop (List.mem_of_mem_take h)
theorem cutS_len (xs : List Str) (lo hi : Option Int) : (cutS xs lo hi).length ≤ xs.length := by
  unfold cutS
  rw [List.length_take, List.length_drop]
  omega
theorem cutS_take {xs : List Str} {k : Int} (h : 0 ≤ k) : cutS xs none (some k) = xs.take k.toNat := by
  obtain ⟨n, rfl⟩ : ∃ n : Nat, k = n := ⟨k.toNat, by omega⟩
  unfold cutS
  rw [HT.sIx_none, HT.sIx_nat, List.drop_zero, Nat.sub_zero]
  exact List.take_eq_take_iff.mpr (by simp)
theorem cutS_drop {xs : List Str} {k : Int} (h : 0 ≤ k) : cutS xs (some k) none = xs.drop k.toNat := by
  obtain ⟨n, rfl⟩ : ∃ n : Nat, k = n := ⟨k.toNat, by omega⟩
  unfold cutS
  rw [HT.sIx_none, HT.sIx_nat, Int.toNat_natCast]
  rw [List.take_of_length_le (by rw [List.length_drop]; omega)]
  by_cases q : n ≤ xs.length
  · rw [Nat.min_eq_left q]
  · rw [Nat.min_eq_right (by omega), List.drop_eq_nil_iff.mpr (Nat.le_refl _), List.drop_eq_nil_iff.mpr (by omega)]
theorem cutS_both {xs : List Str} {i j : Int} (h : 0 ≤ i) (h' : 0 ≤ j) : cutS xs (some i) (some j) = (xs.drop i.toNat).take (j.toNat - i.toNat) := by
  obtain ⟨n, rfl⟩ : ∃ n : Nat, i = n := ⟨i.toNat, by omega⟩
  obtain ⟨m, rfl⟩ : ∃ n : Nat, j = n := ⟨j.toNat, by omega⟩
  unfold cutS
  rw [HT.sIx_nat, HT.sIx_nat, Int.toNat_natCast, Int.toNat_natCast]
  by_cases q : n ≤ xs.length
  · rw [Nat.min_eq_left q]
    exact List.take_eq_take_iff.mpr (by rw [List.length_drop]; omega)
  · rw [List.drop_eq_nil_iff.mpr (show xs.length ≤ n by omega), List.drop_eq_nil_iff.mpr (show xs.length ≤ min n xs.length by omega)]
    simp
theorem atI_strs {xs : List Str} {r : Int} (h0 : 0 ≤ r) (h1 : r < xs.length) : ∃ z, atI (xs.map V.str) r = some (V.str z) ∧ xs[r.toNat]? = some z := by
  obtain ⟨v, e, e2⟩ := atI_in (xs := xs.map V.str) h0 (by rw [List.length_map]; exact h1)
  rw [List.getElem?_map] at e2
  cases q : xs[r.toNat]? with
  | none => rw [q] at e2; cases e2
  | some z =>
    rw [q] at e2
    cases e2
    exact ⟨z, e, rfl⟩
theorem strs_app (xs ys : List Str) : xs.map V.str ++ ys.map V.str = (xs ++ ys).map V.str := (List.map_append ..).symm
theorem strs_rev (xs : List Str) : (xs.map V.str).reverse = xs.reverse.map V.str := List.map_reverse.symm
theorem strs_snoc (xs : List Str) (y : Str) : xs.map V.str ++ [V.str y] = (xs ++ [y]).map V.str := by rw [List.map_append]; rfl
theorem smallL {n : Nat} (h : n ≤ 1000) : n ≤ sizeLine := Nat.le_of_lt (small1000 h)
theorem Lns.app_mem {xs ys : List Str} (h : ∀ x ∈ xs, Ln x) (h' : ∀ x ∈ ys, Ln x) : ∀ x ∈ xs ++ ys, Ln x := fun x hx => (List.mem_append.mp hx).elim (h x) (h' x)
/-- deep data of a list of texts -/
noncomputable abbrev dS (xs : List Str) : PySem.W.Dat := .list (xs.map PySem.W.Dat.str)
theorem dS_dv {K : PySem.W.Frag} {H : Hp} {a : Addr} {xs : List Str} (h : SqL K H a (xs.map V.str)) : DV K H (.ref a) (dS xs) := .lst h (dvs_strs xs)
theorem dS_ok (n : Nat) {xs : List Str} (h : ∀ x ∈ xs, Ln x) : PySem.W.kqdOk (n + 1) (dS xs) = true := by
  simp only [dS, PySem.W.kqdOk, List.all_eq_true, List.mem_map]
  rintro d ⟨x, hx, rfl⟩
  cases n with
  | zero => exact (h x hx).ok
  | succ n => exact (h x hx).ok
theorem map_str_inj {xs ys : List Str} (h : xs.map PySem.W.Dat.str = ys.map PySem.W.Dat.str) : xs = ys := by
  induction xs generalizing ys with
  | nil => cases ys with
    | nil => rfl
    | cons y ys => cases h
  | cons x xs ih => cases ys with
    | nil => cases h
    | cons y ys =>
      rw [List.map_cons, List.map_cons] at h
      injection h with h1 h2
      injection h1 with h1
      rw [h1, ih h2]
theorem dS_inj {xs ys : List Str} : dS xs = dS ys ↔ xs = ys := ⟨fun h => map_str_inj (PySem.W.Dat.list.inj h), fun h => by rw [h]⟩
theorem dS_dec {b : Bool} {xs ys : List Str} (h : b = true ↔ dS xs = dS ys) : b = decide (xs = ys) := by
  rw [dS_inj] at h
  by_cases q : xs = ys
  · rw [decide_eq_true q]; exact h.mpr q
  · rw [decide_eq_false q]; exact Bool.eq_false_iff.mpr fun z => q (h.mp z)
end L2
namespace L2
open PySem PySem.Spec PyProof.Rows
theorem iteND {c A B : Prop} [Decidable c] (hc : ¬ c) (h : A) : if (!decide c) = true then A else B := by rw [decide_eq_false hc]; exact iteT h
end L2

set_option Elab.async false
set_option linter.all false
set_option maxRecDepth 100000
set_option maxHeartbeats 4000000
namespace Lcp
open PySem L2
/-- two changes in their places, x's ahead -/
noncomputable def both (b x y : List Str) : List Str := (((b.take (fst b x) ++ mid b x) ++ (b.drop (stp b x)).take (fst b y - stp b x)) ++ mid b y) ++ b.drop (stp b y)
noncomputable def apI (a1 b1 a2 b2 : Int) : Bool := if (a1 = b1 ∧ a2 = b2) ∧ a1 = a2 then false else (decide (b1 ≤ a2) || decide (b2 ≤ a1))
noncomputable def apart (b o n : List Str) : Bool := apI (fst b o) (stp b o) (fst b n) (stp b n)
/-- what two changes are put together to -/
noncomputable def merge (b o n : List Str) : List Str × Option (List Str) :=
  if o = b then (n, none) else if n = b ∨ o = n then (o, none) else if apart b o n = false then (n, some o) else if stp b o ≤ fst b n then (both b o n, none) else (both b n o, none)
theorem merge_same {b o n : List Str} (h : o = b) : merge b o n = (n, none) := by unfold merge; rw [if_pos h]
theorem merge_own {b o n : List Str} (h : o ≠ b) (h' : n = b ∨ o = n) : merge b o n = (o, none) := by unfold merge; rw [if_neg h, if_pos h']
theorem merge_new {b o n : List Str} (h : o ≠ b) (h' : ¬ (n = b ∨ o = n)) (h2 : apart b o n = false) : merge b o n = (n, some o) := by unfold merge; rw [if_neg h, if_neg h', if_pos h2]
theorem merge_ahead {b o n : List Str} (h : o ≠ b) (h' : ¬ (n = b ∨ o = n)) (h2 : apart b o n = true) (h3 : stp b o ≤ fst b n) : merge b o n = (both b o n, none) := by unfold merge; rw [if_neg h, if_neg h', if_neg (by rw [h2]; decide), if_pos h3]
theorem merge_behind {b o n : List Str} (h : o ≠ b) (h' : ¬ (n = b ∨ o = n)) (h2 : apart b o n = true) (h3 : ¬ stp b o ≤ fst b n) : merge b o n = (both b n o, none) := by unfold merge; rw [if_neg h, if_neg h', if_neg (by rw [h2]; decide), if_neg h3]
theorem both_mem {b x y : List Str} {z : Str} (h : z ∈ both b x y) : z ∈ b ∨ z ∈ x ∨ z ∈ y := by
  unfold both at h
  rcases List.mem_append.mp h with h | h
  · rcases List.mem_append.mp h with h | h
    · rcases List.mem_append.mp h with h | h
      · rcases List.mem_append.mp h with h | h
        · exact .inl (List.mem_of_mem_take h)
        · exact .inr (.inl (mid_mem h))
      · exact .inl (List.mem_of_mem_drop (List.mem_of_mem_take h))
    · exact .inr (.inr (mid_mem h))
  · exact .inl (List.mem_of_mem_drop h)
theorem merge_mem {b o n : List Str} {z : Str} (h : z ∈ (merge b o n).1) : z ∈ b ∨ z ∈ o ∨ z ∈ n := by
  unfold merge at h
  split at h
  · exact .inr (.inr h)
  · split at h
    · exact .inr (.inl h)
    · split at h
      · exact .inr (.inr h)
      · split at h
        · exact both_mem h
        · rcases both_mem h with h | h | h
          · exact .inl h
          · exact .inr (.inr h)
          · exact .inr (.inl h)
theorem merge_bes (b o n : List Str) : (merge b o n).2 = none ∨ (merge b o n).2 = some o := by
  unfold merge
  split
  · exact .inl rfl
  · split
    · exact .inl rfl
    · split
      · exact .inr rfl
      · split <;> exact .inl rfl
theorem merge_ln {b o n : List Str} (h1 : ∀ x ∈ b, Ln x) (h2 : ∀ x ∈ o, Ln x) (h3 : ∀ x ∈ n, Ln x) : ∀ x ∈ (merge b o n).1, Ln x := fun x hx => by
  rcases merge_mem hx with h | h | h
  · exact h1 x h
  · exact h2 x h
  · exact h3 x h
end Lcp
namespace L2
open PySem PySem.Spec PyProof.Rows Lcp
/-- what lies beside -/
noncomputable def BesAt (H : Hp) (r : V) : Option (List Str) → Prop
  | none => r = .non
  | some z => ∃ l2, r = .ref l2 ∧ H l2 = some (.lst (z.map V.str))
structure PutAt (H : Hp) (t l : Addr) (r : V) (m : List Str × Option (List Str)) : Prop where
  tup : H t = some (.tup [.ref l, r])
  lst : H l = some (.lst (m.1.map V.str))
  bes : BesAt H r m.2
end L2

set_option Elab.async false
set_option linter.all false
set_option maxRecDepth 100000
set_option maxHeartbeats 4000000
namespace L2
open PySem PySem.Spec PyProof.Rows
/-! ### str.join -/
section
variable {X : Cx}
theorem strsAre_of {ys : List Str} : ∀ {us : List Value}, Vals (ys.map V.str) us → StrsAre us ys := by
  induction ys with
  | nil => intro us r; rw [List.map_nil] at r; cases r; exact .nil
  | cons n ns ih =>
    intro us r
    rw [List.map_cons] at r
    cases r with
    | cons r1 r2 =>
      obtain ⟨t, e⟩ := r1
      subst e
      exact .cons n t (ih r2)
noncomputable def rJoin (K : PySem.W.Frag) : V → List V → Hp → VK → Prop := fun x vs H Q => ∃ sep p ys, x = .str sep ∧ vs = [.ref p] ∧ SqL K H p (ys.map V.str) ∧ (ys.map (·.length)).sum + ys.length * sep.length ≤ 16777216 ∧ Q (.str (Txt.join sep ys)) H
theorem mt_join : MtM X "str.join" (rJoin X.K) := by
  intro pins s σ H x xs v us Q I rx rs h
  obtain ⟨sep, p, ys, rfl, rfl, hp, hz, q⟩ := h
  obtain ⟨t, rfl⟩ := rx
  cases rs with
  | cons r1 r2 =>
    cases r1
    cases r2
    obtain ⟨its, r, ht, _⟩ := I.list hp
    exact join_list ht.isList (by simpa using strsAre_of r) hz fun t' k => ⟨.str _, H, I.tok k, ⟨_, rfl⟩, q⟩
end
/-! ### the same rules with the fragment named: for what stands within a comprehension -/
section
variable {X : Cx} {K : PySem.W.Frag}
theorem ix_listK (K : PySem.W.Frag) (h : X.K = K := by rfl) : IxR X (rIxL K) := h ▸ ix_list
theorem ix_tupK (K : PySem.W.Frag) (h : X.K = K := by rfl) : IxR X (rIxT K) := h ▸ ix_tup
end
theorem sum_le {ys : List Str} {b : Nat} (h : ∀ y ∈ ys, y.length ≤ b) : (ys.map (·.length)).sum ≤ ys.length * b := by
  induction ys with
  | nil => simp
  | cons y ys ih =>
    have h1 := h y List.mem_cons_self
    have h2 := ih fun z hz => h z (List.mem_cons_of_mem _ hz)
    simp only [List.map_cons, List.sum_cons, List.length_cons, Nat.succ_mul]
    omega
theorem join_len {ys : List Str} {sep : Str} : (Txt.join sep ys).length ≤ (ys.map (·.length)).sum + ys.length * sep.length := by
  have e : Txt.join sep ys = Str.join sep ys := StrLaws.glued_eq_join sep ys
  rw [e]
  cases ys with
  | nil => exact Nat.zero_le _
  | cons a l =>
    rw [len_join_cons]
    simp only [List.length_cons, Nat.succ_mul]
    omega
theorem txtOk_empty : TxtOk Str.empty := by decide +kernel
theorem txtOk_join {sep : Str} (hs : TxtOk sep) : ∀ {ys : List Str}, (∀ y ∈ ys, TxtOk y) → TxtOk (Txt.join sep ys) := by
  intro ys h
  have e : Txt.join sep ys = Str.join sep ys := StrLaws.glued_eq_join sep ys
  rw [e]
  clear e
  induction ys with
  | nil => exact txtOk_empty
  | cons a l ih =>
    cases l with
    | nil => exact h a List.mem_cons_self
    | cons b r =>
      show TxtOk (a ++ sep ++ Str.join sep (b :: r))
      exact txtOk_app (txtOk_app (h a List.mem_cons_self) hs) (ih fun y hy => h y (List.mem_cons_of_mem _ hy))
end L2
namespace Lcp
open PySem L2
/-- it stands there, one behind the other -/
noncomputable def In (s l : List Str) : Prop := ∃ p q, l = p ++ s ++ q
end Lcp

set_option Elab.async false
set_option linter.all false
set_option maxRecDepth 100000
set_option maxHeartbeats 4000000

namespace L2
open PySem PySem.Spec PyProof.Rows
section
variable {X : Cx} {pins : List (Addr × Obj)} {σ : St} {H : Hp} {s : Shared}

/-! ### a tracked dict, kept as it is for a while: frozen, and let go -/
theorem Inv.rehp {H' : Hp} (I : Inv X pins σ H s) (h0 : ∀ b, H b = none → H' b = none) (ht : ∀ b xs, H b = some (.tup xs) → H' b = some (.tup xs)) (hf : ∀ b o u, X.H₀ b = some (.frz o u) → H' b = some (.frz o u))
    (hb : ∀ b ps, H b = some (.tbl ps) → H' b = some (.tbl ps)) (hok : HOk X.prog X.w H' s.heap) : Inv X pins σ H' s :=
  ⟨I.ok, I.os, I.bare, ⟨I.base.keep, I.base.slot, fun b o e n hx => h0 b (I.base.free b o e n hx), I.base.there, fun b xs e => ht b xs (I.base.tups b xs e), hf, fun b ps e => (I.base.tbls b ps e).elim fun m q => ⟨m, hb _ _ q⟩⟩, I.loc, I.cell, h0 _ I.free,
    fun x c e => h0 _ (I.freeC x c e), fun p hp => ⟨(I.pin p hp).1, h0 _ (I.pin p hp).2.1, (I.pin p hp).2.2⟩, hok, I.len⟩
theorem Inv.freeze {d : Addr} {kvs : List (Key × V)} {o : Obj} (I : Inv X pins σ H s) (e : H d = some (.dK kvs)) (ho : s.heap.get? d = some o) : Inv X pins σ (upd H d (.frz o (.dK kvs))) s := by
  have ne : ∀ b u, H b = some u → (∀ ks, u ≠ .dK ks) → b ≠ d := fun b u q hu z => by rw [z, e] at q; cases q; exact hu _ rfl
  refine I.rehp (fun b q => ?_) (fun b xs q => ?_) (fun b o' u q => ?_) (fun b ps q => ?_) fun b u q => ?_
  · rw [upd_ne (fun z => by rw [z, e] at q; cases q)]; exact q
  · rw [upd_ne (ne b _ q (by intro ks z; cases z))]; exact q
  · have q := I.base.frzs b o' u q
    rw [upd_ne (ne b _ q (by intro ks z; cases z))]; exact q
  · rw [upd_ne (ne b _ q (by intro ks z; cases z))]; exact q
  · have up : ∀ {c : Addr} {w : HO}, H c = some w → (∀ ks, w ≠ .dK ks) → upd H d (.frz o (.dK kvs)) c = some w := fun {c w} hc hw => by rw [upd_ne (ne c _ hc hw)]; exact hc
    by_cases z : b = d
    · subst z
      rw [upd_same] at q
      cases q
      exact ⟨ho, (I.hok b _ e).stay (fun _ _ _ q => q) (fun c hc => up hc (by intro ks z; cases z)) fun c xs hc => up hc (by intro ks z; cases z)⟩
    · rw [upd_ne z] at q
      exact (I.hok b _ q).stay (fun _ _ _ q => q) (fun c hc => up hc (by intro ks z; cases z)) fun c xs hc => up hc (by intro ks z; cases z)
theorem Inv.thaw {d : Addr} {kvs : List (Key × V)} {o : Obj} (I : Inv X pins σ H s) (e : H d = some (.frz o (.dK kvs))) (hz : ∀ o' u, X.H₀ d ≠ some (.frz o' u)) : Inv X pins σ (upd H d (.dK kvs)) s := by
  have ne : ∀ b u, H b = some u → (∀ o' u', u ≠ .frz o' u') → b ≠ d := fun b u q hu z => by rw [z, e] at q; cases q; exact hu _ _ rfl
  have up : ∀ {c : Addr} {w : HO}, H c = some w → (∀ o' u', w ≠ .frz o' u') → upd H d (.dK kvs) c = some w := fun {c w} hc hw => by rw [upd_ne (ne c _ hc hw)]; exact hc
  refine I.rehp (fun b q => ?_) (fun b xs q => up q (by intro _ _ z; cases z)) (fun b o' u q => ?_) (fun b ps q => up q (by intro _ _ z; cases z)) fun b u q => ?_
  · rw [upd_ne (fun z => by rw [z, e] at q; cases q)]; exact q
  · have nb : b ≠ d := fun z => hz o' u (z ▸ q)
    rw [upd_ne nb]; exact I.base.frzs b o' u q
  · by_cases z : b = d
    · subst z
      rw [upd_same] at q
      cases q
      exact (show ObjOk X.prog X.w H s.heap b (.dK kvs) from (show ObjOk X.prog X.w H s.heap b (.frz o (.dK kvs)) from I.hok b _ e).2).stay (fun _ _ _ q => q) (fun c hc => up hc (by intro _ _ z; cases z)) fun c xs hc => up hc (by intro _ _ z; cases z)
    · rw [upd_ne z] at q
      exact (I.hok b _ q).stay (fun _ _ _ q => q) (fun c hc => up hc (by intro _ _ z; cases z)) fun c xs hc => up hc (by intro _ _ z; cases z)
/-- an untracked object, young enough, is tracked from now on -/
theorem Inv.track {a : Addr} {o : HO} (I : Inv X pins σ H s) (hn : H a = none) (h0 : X.s₀.heap.objs.size ≤ a) (h1 : a ≠ X.env.locals) (h2 : ∀ x c, X.env.cells.lookup x = some c → c ≠ a) (h3 : ∀ p ∈ X.pn ++ pins, p.1 ≠ a)
    (new : ObjOk X.prog X.w (upd H a o) s.heap a o) : Inv X pins σ (upd H a o) s := by
  have up : ∀ {c : Addr} {w : HO}, H c = some w → upd H a o c = some w := fun {c w} hc => by rw [upd_ne (ne_of_none hc hn)]; exact hc
  refine ⟨I.ok, I.os, I.bare, ⟨I.base.keep, I.base.slot, fun b ob e n hx => ?_, I.base.there, fun b xs e => up (I.base.tups b xs e), fun b o' u e => up (I.base.frzs b o' u e), fun b ps e => (I.base.tbls b ps e).elim fun m q => ⟨m, up q⟩⟩, I.loc, I.cell, ?_, fun x c e => ?_,
    fun p hp => ⟨(I.pin p hp).1, ?_, (I.pin p hp).2.2⟩, fun b u q => ?_, I.len⟩
  · rw [upd_ne (Nat.ne_of_lt (Nat.lt_of_lt_of_le (Heap.lt_size e) h0))]
    exact I.base.free b ob e n hx
  · rw [upd_ne (Ne.symm h1)]; exact I.free
  · rw [upd_ne (h2 x c e)]; exact I.freeC x c e
  · rw [upd_ne (h3 p hp)]; exact (I.pin p hp).2.1
  · by_cases z : b = a
    · subst z
      rw [upd_same] at q
      cases q
      exact new
    · rw [upd_ne z] at q
      exact (I.hok b _ q).stay (fun _ _ _ q => q) (fun c hc => up hc) fun c xs hc => up hc
end

/-! ### dict(d), d.clear(), d.setdefault(k, v) -/
section
variable {X : Cx}
theorem call_dictN : CallR X (.type "dict") (fun xs H Q => ∃ a kvs, xs = [.ref a] ∧ H a = some (.dK kvs) ∧ New H (.dK kvs) Q) := by
  intro pins s σ H xs us Q I r h
  obtain ⟨a, kvs, rfl, e, q⟩ := h
  obtain ⟨u, rfl, ru⟩ := vals1 r
  cases ru
  exact d_copyOf I (.inl e) fun p s' hp I' => ⟨.ref p, _, I', rfl, q.at p hp⟩
noncomputable def rDClear : V → List V → Hp → VK → Prop := fun x vs H Q => ∃ a kvs, x = .ref a ∧ vs = [] ∧ H a = some (.dK kvs) ∧ Q .non (upd H a (.dK []))
theorem mt_dclear : MtM X "dict.clear" rDClear := by
  intro pins s σ H x xs v us Q I rx rs h
  obtain ⟨a, kvs, rfl, rfl, e, q⟩ := h
  cases rx
  cases rs
  exact d_clear I e fun s' I' => ⟨.non, _, I', rfl, q⟩
theorem wpAny_dictSetDefault_pairs {prog : Program} {w : World} {K : Type} [DecidableEq K] {knd : KeyKind prog w K} {A : Around} {E : Value → Shared → Prop} {s : Shared} {d : Addr} {kvs : List (K × Value)} {k : K} {key dflt : Value} {Q : Value → Shared → Prop} (hkey : knd.is k key = true) (hm : s.heap.DictOf knd d kvs)
    (hthere : ∀ v, valueAt kvs k = some v → Q v { s with toks := s.toks + 1 })
    (hnew : valueAt kvs k = none → ∀ h', h'.DictOf knd d (kvs ++ [(k, dflt)]) → Heap.SameBut d s.heap h' → Q dflt { s with heap := h', toks := s.toks + 1 }) (hsz : kvs.length ≤ sizeLine) :
    wpAny (model prog w) A (dictSetDefault d key dflt) Q E s := by
  have hmap := hm.mapOf
  obtain ⟨o, es, ep, ho, hc, hd, hk, hp, hn⟩ := hm
  obtain ⟨o', es', ep', ho', hc', hd', hk', hf⟩ := hmap
  rw [ho] at ho'; cases ho'
  rw [hd] at hd'; cases hd'
  have hes : es.size ≤ sizeLine := by
    have e1 := hp.length
    have e2 : es.toList.length = es.size := by simp
    omega
  unfold dictSetDefault
  try with_reducible refine wpAny_holding ?_
  refine wpAny_bind (knd.pyHash hkey ?_)
  refine wpAny_bind (wpAny_dictFind_of (s := { s with toks := s.toks + 1 }) hkey ho hd hk ?_)
  have hidx : (es.findIdx? fun e => knd.is k e.key) = kvs.findIdx? fun kv => decide (kv.1 = k) := by
    rw [← hp.findIdx k]; obtain ⟨l⟩ := es; simp
  cases hi : es.findIdx? fun e => knd.is k e.key with
  | some i =>
    have hfk : valueAt kvs k = (es[i]?).map (·.val) := by rw [← hf k, findBy_of_findIdx?, hi]
    refine wpAny_bind (wpAny_dictEntries (s := { s with toks := s.toks + 1 }) ho hd ?_)
    cases he : es[i]? with
    | none =>
      exfalso
      have := Array.findIdx?_eq_some_iff_findIdx_eq.mp hi
      have hlt : i < es.size := this.1
      rw [Array.getElem?_eq_getElem hlt] at he
      exact nomatch he
    | some e =>
      rw [he] at hfk
      exact wpAny_bind (wpAny_rule (wpAny_pure (hthere e.val hfk)))
  | none =>
    have hfk : valueAt kvs k = none := by rw [← hf k, findBy_of_findIdx?, hi]
    have hnot : k ∉ kvs.map (·.1) := not_mem_of_findIdx_none (hidx ▸ hi)
    refine wpAny_bind (wpAny_rule (wpAny_bind (wpAny_updateDictKeys (hz := hes) (s := { s with toks := s.toks + 1 }) ho hd (wpAny_pure (hnew hfk _ ⟨_, _, ep + 1, Heap.get?_update_self _ ho (Obj.isFreed_of_dict (Obj.data_mapDictKeys hd _)),
      hc.mapDictKeys _, Obj.data_mapDictKeys hd _, hk.push hkey _, ?_, ?_⟩ (Heap.SameBut.update ..))))))
    · have := hp.append hkey (knd.hash k) dflt
      obtain ⟨l⟩ := es
      simpa using this
    · rw [List.map_append, List.nodup_append]
      refine ⟨hn, by simp, ?_⟩
      intro a ha b hb
      simp only [List.map_cons, List.map_nil, List.mem_singleton] at hb
      subst hb
      exact fun e => hnot (e ▸ ha)
theorem meets_setdefault {prog : Program} {w : World} {K : Type} [DecidableEq K] {knd : KeyKind prog w K} {d : Addr} {k : K} {key : Value} (hkey : knd.is k key = true) (hd : (d == sysModules) = false) (dflt : Value) :
    MeetsIn prog w (Builtin.«dict.setdefault» ⟨[.ref d, key, dflt], []⟩) (fun _ R s => ∃ kvs, s.heap.DictOf knd d kvs ∧ kvs.length ≤ sizeLine ∧
      (∀ v, valueAt kvs k = some v → R (.ok (.ret v)) { s with toks := s.toks + 1 }) ∧
      (valueAt kvs k = none → ∀ h', h'.DictOf knd d (kvs ++ [(k, dflt)]) → Heap.SameBut d s.heap h' → R (.ok (.ret dflt)) { s with heap := h', toks := s.toks + 1 })) :=
  .of_wp fun A R s zq363 => zq363.elim fun kvs zq364 => zq364.elim fun hm zq365 => zq365.elim fun hz zq366 => zq366.elim fun h1 h2 => by
    unfold Builtin.«dict.setdefault»
    refine wpAny_bind ?_
    unfold Builtin.Dict.keyAndDefault
    refine wpAny_bind (wpAny_notOrdered_dict hm.typeIs ?_)
    show wpAny _ _ (pure (d, key, some dflt)) _ _ s
    refine wpAny_pure ?_
    show wpAny _ _ (if (d == sysModules) = true then _ else (dictSetDefault d key dflt >>= _)) _ _ s
    rw [if_neg (by rw [hd]; exact Bool.false_ne_true)]
    exact wpAny_bind (wpAny_dictSetDefault_pairs hkey hm (fun v hv => wpAny_pure ⟨v, rfl, h1 v hv⟩) (fun hn h' hm' hs' => wpAny_pure ⟨dflt, rfl, h2 hn h' hm' hs'⟩) hz)
noncomputable def rSetDef : V → List V → Hp → VK → Prop := fun x vs H Q => ∃ a kvs k y, x = .ref a ∧ vs = [kV k, y] ∧ H a = some (.dK kvs) ∧ kvs.length < sizeLine ∧ (∀ z, valV kvs k = some z → Q z H) ∧ (valV kvs k = none → Q y (upd H a (.dK (putK kvs k y))))
theorem mt_setdef : MtM X "dict.setdefault" rSetDef := by
  intro pins s σ H x xs v us Q I rx rs h
  obtain ⟨a, kvs, k, y, rfl, rfl, e, hl, q1, q2⟩ := h
  cases rx
  cases rs with
  | cons r1 r2 =>
    cases r2 with
    | cons r3 r4 =>
      cases r4
      obtain ⟨z, hd, vs, rel, dd⟩ := dk_of I.hok e
      refine call_meetsIn PySem.F.slot_dict_setdefault dd.typeIs PySem.F.entry_dict_setdefault (PySem.F.args_dict_setdefault_3 _ _ _) (meets_setdefault (knd := mixKind X.prog X.w) (kV_is r1) hd _) ⟨vs, dd, by rw [← rel.length]; exact z, fun u hu => ?_, fun hn h' dd' hs => ?_⟩
      · obtain ⟨z', hz', rz⟩ : ∃ z', valV kvs k = some z' ∧ RelV z' u := by
          have := rel.val k
          rw [hu] at this
          cases q : valV kvs k with
          | none => rw [q] at this; cases this
          | some z' => rw [q] at this; exact ⟨z', rfl, this⟩
        exact ⟨z', H, I.tok _, rz, q1 z' hz'⟩
      · have hnv : valV kvs k = none := by
          have := rel.val k
          rw [hn] at this
          cases q : valV kvs k with
          | none => rfl
          | some z' => rw [q] at this; cases this
        have he : ∃ q, h'.get? a = some q := dd'.elim fun q zq447 => zq447.elim fun _ zq448 => zq448.elim fun _ zq449 => zq449.elim fun hq _ => ⟨q, hq⟩
        have hput := rel.put k r3
        rw [putK_new _ hnv] at hput
        refine ⟨y, _, d_write I (ob := .dK (putK kvs k y)) (by rw [e]; exact True.intro) hs he ?_, r3, q2 hnv⟩
        rw [putK_new _ hnv]
        refine dk_new (by rw [List.length_append]; simp; omega) hd ?_ dd'
        have e2 : ∀ b, stored vs k b = vs ++ [(k, b)] := by
          intro b
          unfold stored
          rw [if_neg]
          rw [List.any_eq_true]
          rintro ⟨kv, hkv, he⟩
          have : valueAt vs k ≠ none := by
            unfold valueAt
            rw [Ne, Option.map_eq_none_iff, List.find?_eq_none]
            exact fun z => z kv hkv he
          exact this hn
        rw [e2] at hput
        exact hput
end

/-! ### lists of texts, sorted; the keys of a dict, sorted or as they stand -/
theorem rel_key {k : Key} {v : Value} (h : keyIs k v = true) : RelV (kV k) v := by
  rcases keyIs_shape h with ⟨i, t, rfl, rfl⟩ | ⟨x, t, rfl, rfl⟩
  · exact ⟨t, rfl⟩
  · exact ⟨t, rfl⟩
theorem vals_strs : ∀ {us : List Value} {ys : List Str}, StrsAre us ys → Vals (ys.map V.str) us
  | _, _, .nil => .nil
  | _, _, .cons x t r => .cons ⟨t, rfl⟩ (vals_strs r)
section
variable {prog : Program} {w : World} {A : Around} {E : Value → Shared → Prop} {s : Shared}
/-- sorted of what collects to texts -/
theorem sorted_collects {r : Addr} {Q : Value → Shared → Prop} (hcol : wpAny (model prog w) A.in1 (collect (.ref r)) (fun us s' => ∃ (ys : List Str) (h' : Heap) (tk : Nat), s' = { s with heap := h', toks := tk } ∧ StrsAre us ys ∧ us.length < 64 ∧
      ∀ (h2 : Heap) (out : List Value) (ys' : List Str) (e : Nat), (∀ b o, h'.get? b = some o → h2.get? b = some o) → h2.get? h'.objs.size = some (seqObj "list" out.toArray e) → StrsAre out ys' → ys'.Perm ys → sortedS ys' = true → Q (.ref h'.objs.size) { s with heap := h2, toks := tk }) E s) :
    wpAny (model prog w) A (call (.builtin "sorted") [.ref r]) Q E s := by
  refine Calls.call_function_entry kind_sorted plain_sorted entry_sorted (args_sorted1 _) ?_
  unfold Builtin.«sorted»
  refine wpAny_bind (m := checkCount "sorted" 1 1 _) (wpAny_pure ?_)
  refine wpAny_bind (wpAny_mono hcol (fun us s' zq367 => zq367.elim fun ys zq368 => zq368.elim fun h' zq369 => zq369.elim fun tk zq370 => zq370.elim fun es zq371 => zq371.elim fun hS zq372 => zq372.elim fun h64 fin => ?_) fun _ _ e => e)
  subst es
  refine wpAny_bind (wpAny_newList ?_ (by rw [sizeLine_eq]; omega))
  have hoL : (h'.push (seqObj "list" us.toArray 0)).get? h'.objs.size = some (seqObj "list" us.toArray 0) := Heap.get?_push_size _ rfl
  show wpAny _ _ _ _ _ { s with heap := h'.push (seqObj "list" us.toArray 0), toks := tk }
  refine wpAny_bind (wpAny_holding (wpAny_call_entry slot_list_sort ⟨_, hoL, rfl⟩ entry_list_sort (list_sort_treeK strKind_oneLt hoL hS.keysOf (fun v₁ v₂ rest e => keyKind_strs (by rw [← e]; exact hS)) h64 fun st' a1 a2 => ⟨_, rfl, ?_⟩) (args_list_sort _)))
  obtain ⟨ys', h1, h2, h3⟩ := sorted_out_str hS a1 a2
  obtain ⟨e, he⟩ := sortedHeap_at (vs := us) (out := (arrOf st').map (·.2)) hoL
  refine wpAny_pure ⟨_, rfl, fin _ ((arrOf st').map (·.2)).toList ys' e (fun b o q => ?_) (by rw [Array.toArray_toList]; exact he) h1 h2 h3⟩
  have hb := Heap.lt_size q
  rw [sortedHeap_old (Nat.ne_of_lt hb) (by rw [Heap.size_push]; exact Nat.lt_succ_of_lt hb)]
  exact Heap.get?_push_of_some _ q
end
section
variable {X : Cx}
theorem inv_sorted {pins : List (Addr × Obj)} {σ : St} {H : Hp} {s : Shared} {h' h2 : Heap} {tk e : Nat} {out : List Value} {ys' : List Str} (I : Inv X pins σ H { s with heap := h', toks := tk }) (k : ∀ b o, h'.get? b = some o → h2.get? b = some o)
    (he : h2.get? h'.objs.size = some (seqObj "list" out.toArray e)) (hS : StrsAre out ys') (hl : ys'.length ≤ sizeLine) : Inv X pins σ (upd H h'.objs.size (.lst (ys'.map V.str))) { s with heap := h2, toks := tk } :=
  I.laid (s := { s with heap := h', toks := tk }) (t' := tk) k (Nat.le_refl _) ⟨by rw [List.length_map]; exact hl, out, e, vals_strs hS, he⟩
/-- keys that are texts -/
noncomputable def KeysS (kvs : List (Key × V)) (ks : List Str) : Prop := kvs.map (·.1) = ks.map Sum.inr
theorem keysS_items {kvs : List (Key × V)} {ks : List Str} (h : KeysS kvs ks) {vs : List (Key × Value)} (rel : KV kvs vs) {us : List Value} (hl : us.length = vs.length) (hv : ∀ (j : Nat) (v : Value), us[j]? = some v → ∃ k x, vs[j]? = some (k, x) ∧ (mixKind X.prog X.w).is k v = true) : StrsAre us ks := by
  induction us generalizing kvs vs ks with
  | nil =>
    have : vs = [] := List.length_eq_zero_iff.mp hl.symm
    subst this
    cases rel
    unfold KeysS at h
    cases ks with
    | nil => exact .nil
    | cons a b => cases h
  | cons u us ih =>
    cases rel with
    | nil => cases hl
    | @cons p q ps qs r rr =>
      cases ks with
      | nil => cases h
      | cons a ks =>
        unfold KeysS at h
        rw [List.map_cons, List.map_cons] at h
        injection h with h1 h2
        obtain ⟨k, x, e, hk⟩ := hv 0 u rfl
        have e : q = (k, x) := Option.some.inj e
        have hp : p.1 = k := by rw [r.1, e]
        have hk : keyIs k u = true := hk
        rw [← hp, h1] at hk
        rcases keyIs_shape hk with ⟨i, t, e1, e2⟩ | ⟨x', t, e1, e2⟩
        · cases e1
        · cases e1
          subst e2
          exact .cons _ _ (ih h2 rr (by simpa using hl) fun j v hj => hv (j + 1) v (by simpa using hj))
/-- sorted(d) -/
theorem call_sortedD (hc : X.calm = true) : CallR X (.builtin "sorted") (fun xs H Q => ∃ d kvs ks, xs = [.ref d] ∧ H d = some (.dK kvs) ∧ KeysS kvs ks ∧ kvs.length < 64 ∧ ∀ ys', ys'.Perm ks → sortedS ys' = true → New H (.lst (ys'.map V.str)) Q) := by
  intro pins s σ H xs us Q I r h
  obtain ⟨d, kvs, ks, rfl, e, hks, h64, q⟩ := h
  obtain ⟨u, rfl, ru⟩ := vals1 r
  cases ru
  obtain ⟨z, hd, vs, rel, dd⟩ := dk_of I.hok e
  obtain ⟨ep, hat⟩ := dd.dictAt
  have hlen := rel.length
  refine sorted_collects (PySem.W.kdu_collect (PySem.W.kdl_dict (knd := mixKind X.prog X.w) (kvs := vs) (ep := ep) hd) (I.ok.hd hc) hat (by omega) fun h' tk acc hk hacc => ?_)
  have hS : StrsAre acc.toList ks := keysS_items (X := X) hks rel (by rw [Array.length_toList]; exact hacc.1) fun j v hj => hacc.2 j v (by rw [← Array.getElem?_toList]; exact hj)
  have hl2 : acc.toList.length = vs.length := by rw [Array.length_toList]; exact hacc.1
  have I' : Inv X pins σ H { s with heap := h', toks := tk } := I.kept hk
  refine ⟨ks, h', tk, rfl, hS, by omega, fun h2 out ys' e' k2 he hS' hp' hs' => ?_⟩
  have hl := hp'.length_eq
  have hl3 := StrsAre.length hS
  exact ⟨.ref h'.objs.size, _, inv_sorted I' k2 he hS' (smallL (by omega)), rfl, (q ys' hp' hs').at _ (I'.hok.fresh (Nat.le_refl _))⟩
/-- d.keys() -/
noncomputable def rKeys : V → List V → Hp → VK → Prop := fun x vs H Q => ∃ d kvs, x = .ref d ∧ vs = [] ∧ H d = some (.dK kvs) ∧ ∀ p H', H p = none → Same H H' → H' p = some (.ext fun h => PySem.W.KdlKeysView h p d) → Q (.ref p) H'
theorem mt_keys : MtM X "dict.keys" rKeys := by
  intro pins s σ H x xs v us Q I rx rs h
  obtain ⟨d, kvs, rfl, rfl, e, q⟩ := h
  cases rx
  cases rs
  obtain ⟨z, hd, vs, rel, dd⟩ := dk_of I.hok e
  refine call_meetsIn PySem.F.slot_dict_keys dd.typeIs PySem.F.entry_dict_keys (PySem.F.args_dict_keys_1 _) (PySem.W.kdl_meets_keys (mixKind X.prog X.w) d hd) ⟨⟨vs, dd⟩, ?_⟩
  have hn := I.hok.fresh (Nat.le_refl s.heap.objs.size)
  have hg : (s.heap.push { cls := .type "dict_keys", data := .fields #[.ref d] }).get? s.heap.objs.size = some { cls := .type "dict_keys", data := .fields #[.ref d] } := Heap.get?_push_size _ rfl
  refine ⟨.ref s.heap.objs.size, _, I.laid (t' := s.toks) (a := s.heap.objs.size) (o := .ext fun h => PySem.W.KdlKeysView h s.heap.objs.size d) (fun b ob q => Heap.get?_push_of_some _ q) (Nat.le_refl _) ⟨⟨_, hg, rfl, rfl⟩, ⟨_, hg⟩, ?_⟩, rfl, q _ _ hn (same_upd hn) upd_same⟩
  rintro h1 h2 ⟨o, ho, c1, c2⟩ k
  exact ⟨o, k o ho, c1, c2⟩
/-- sorted(d.keys()) -/
theorem call_sortedK (hc : X.calm = true) : CallR X (.builtin "sorted") (fun xs H Q => ∃ p d kvs ks, xs = [.ref p] ∧ H p = some (.ext fun h => PySem.W.KdlKeysView h p d) ∧ H d = some (.dK kvs) ∧ KeysS kvs ks ∧ kvs.length < 64 ∧ ∀ ys', ys'.Perm ks → sortedS ys' = true → New H (.lst (ys'.map V.str)) Q) := by
  intro pins s σ H xs us Q I r h
  obtain ⟨p, d, kvs, ks, rfl, ep', e, hks, h64, q⟩ := h
  obtain ⟨u, rfl, ru⟩ := vals1 r
  cases ru
  obtain ⟨z, hd, vs, rel, dd⟩ := dk_of I.hok e
  obtain ⟨ep, hat⟩ := dd.dictAt
  have hv : PySem.W.KdlKeysView s.heap p d := (show ObjOk X.prog X.w H s.heap p (.ext fun h => PySem.W.KdlKeysView h p d) from I.hok p _ ep').1
  have hlen := rel.length
  refine sorted_collects (PySem.W.kdu_collect (PySem.W.kdl_keys (knd := mixKind X.prog X.w) (r := p) (d := d) (kvs := vs) (ep := ep)) (I.ok.hd hc) ⟨hv, hat⟩ (by omega) fun h' tk acc hk hacc => ?_)
  have hS : StrsAre acc.toList ks := keysS_items (X := X) hks rel (by rw [Array.length_toList]; exact hacc.1) fun j v hj => hacc.2 j v (by rw [← Array.getElem?_toList]; exact hj)
  have hl2 : acc.toList.length = vs.length := by rw [Array.length_toList]; exact hacc.1
  have I' : Inv X pins σ H { s with heap := h', toks := tk } := I.kept hk
  refine ⟨ks, h', tk, rfl, hS, by omega, fun h2 out ys' e' k2 he hS' hp' hs' => ?_⟩
  have hl := hp'.length_eq
  have hl3 := StrsAre.length hS
  exact ⟨.ref h'.objs.size, _, inv_sorted I' k2 he hS' (smallL (by omega)), rfl, (q ys' hp' hs').at _ (I'.hok.fresh (Nat.le_refl _))⟩
end
end L2

set_option Elab.async false
set_option linter.all false
set_option maxRecDepth 100000
set_option maxHeartbeats 4000000

namespace L2
open PySem PySem.Spec PyProof.Rows
section
variable {X : Cx}
/-- list(d): the keys as they stand -/
theorem call_listD (hc : X.calm = true) : CallR X (.type "list") (fun xs H Q => ∃ d kvs ks, xs = [.ref d] ∧ H d = some (.dK kvs) ∧ KeysS kvs ks ∧ New H (.lst (ks.map V.str)) Q) := by
  intro pins s σ H xs us Q I r h
  obtain ⟨d, kvs, ks, rfl, e, hks, q⟩ := h
  obtain ⟨u, rfl, ru⟩ := vals1 r
  cases ru
  obtain ⟨z, hd, vs, rel, dd⟩ := dk_of I.hok e
  obtain ⟨ep, hat⟩ := dd.dictAt
  have hlen := rel.length
  refine PySem.W.kdl_call (PySem.W.kdl_dict (knd := mixKind X.prog X.w) (kvs := vs) (ep := ep) hd) (I.ok.hd hc) hat (by omega) fun h' tk acc c hk hS hacc => ?_
  have hT : StrsAre acc.toList ks := keysS_items (X := X) hks rel (by rw [Array.length_toList]; exact hacc.1) fun j v hj => hacc.2 j v (by rw [← Array.getElem?_toList]; exact hj)
  have hl2 : acc.toList.length = vs.length := by rw [Array.length_toList]; exact hacc.1
  have hl3 := StrsAre.length hT
  exact ⟨.ref s.heap.objs.size, _, I.laid (t' := tk) (a := s.heap.objs.size) (o := .lst (ks.map V.str)) (fun b o q => hk b o q) (Nat.le_refl _) ⟨by rw [List.length_map]; omega, acc.toList, c, vals_strs hT, by rw [Array.toArray_toList]; exact hS⟩, rfl, q.at _ (I.hok.fresh (Nat.le_refl _))⟩
/-! ### in, not in: items that are data -/
theorem in_core {pins : List (Addr × Obj)} {σ : St} {H : Hp} {s : Shared} (hu : X.A.units + 65 < cLine) (I : Inv X pins σ H s) {x : V} {v : Value} {xs : List V} {us : List Value} {d : PySem.W.Dat} {ds : List PySem.W.Dat} (rx : RelV x v) (rs : Vals xs us) (hd : DV X.K H x d) (hds : DVs X.K H xs ds) (od : PySem.W.kqdOk 9 d = true) (ods : ∀ e ∈ ds, PySem.W.kqdOk 9 e = true) :
    ∃ e : Value → Bool, (∀ y ∈ us.toArray, SeqAt.EqAt X.A.in1 s y v (e y)) ∧ (us.toArray.any e = true ↔ d ∈ ds) := by
  obtain ⟨as, ra⟩ := hd.reads I rx
  classical
  have key : ∀ {xs : List V} {us : List Value} {ds : List PySem.W.Dat}, Vals xs us → DVs X.K H xs ds → ∀ y ∈ us, ∃ e ∈ ds, ∃ bs, Reads s.heap y (PySem.W.kqdP e) bs := by
    intro xs us ds rs
    induction rs generalizing ds with
    | nil => intro _ y hy; cases hy
    | cons r rr ih =>
      intro hds y hy
      cases hds with
      | cons q qs =>
        rcases List.mem_cons.mp hy with e | e
        · subst e
          obtain ⟨bs, z⟩ := q.reads I r
          exact ⟨_, List.mem_cons_self, bs, z⟩
        · obtain ⟨e', he', z⟩ := ih qs y e
          exact ⟨e', List.mem_cons_of_mem _ he', z⟩
  have key2 : ∀ {xs : List V} {us : List Value} {ds : List PySem.W.Dat}, Vals xs us → DVs X.K H xs ds → ∀ e ∈ ds, ∃ y ∈ us, ∃ bs, Reads s.heap y (PySem.W.kqdP e) bs := by
    intro xs us ds rs
    induction rs generalizing ds with
    | nil => intro h e he; cases h; cases he
    | cons r rr ih =>
      intro hds e he
      cases hds with
      | cons q qs =>
        rcases List.mem_cons.mp he with z | z
        · subst z
          obtain ⟨bs, w⟩ := q.reads I r
          exact ⟨_, List.mem_cons_self, bs, w⟩
        · obtain ⟨y, hy, w⟩ := ih qs e z
          exact ⟨y, List.mem_cons_of_mem _ hy, w⟩
  refine ⟨fun y => decide (∃ bs, Reads s.heap y (PySem.W.kqdP d) bs), fun y hy => ?_, ?_⟩
  · obtain ⟨e, he, bs, rb⟩ := key rs hds y (by simpa using hy)
    have x1 := PySem.W.keq_at (A := X.A) rb ra (dat_shaped (ods e he)) (dat_shaped od) (by show X.A.units + 1 + 64 < cLine; omega)
    have hb : (PyData.eqv (PySem.W.kqdP e) (PySem.W.kqdP d) = true) ↔ e = d := PySem.W.kqd_eqv 9 e d 9 (ods e he) od
    have hbb : PyData.eqv (PySem.W.kqdP e) (PySem.W.kqdP d) = decide (∃ bs, Reads s.heap y (PySem.W.kqdP d) bs) := by
      by_cases z : e = d
      · rw [hb.mpr z]
        subst z
        exact (decide_eq_true ⟨bs, rb⟩).symm
      · rw [Bool.eq_false_iff.mpr fun w => z (hb.mp w)]
        refine (decide_eq_false ?_).symm
        rintro ⟨bs', rb'⟩
        have l := PySem.W.kqd_lay 9 e (ods e he)
        have eq := (rb.unique _ _ rb').1
        have : PyData.eqv (PySem.W.kqdP e) (PySem.W.kqdP d) = true := by
          rw [eq]
          exact (PySem.W.kqd_eqv 9 d d 9 od od).mpr rfl
        exact z (hb.mp this)
    rw [hbb] at x1
    exact x1
  · constructor
    · intro h
      rw [List.any_toArray, List.any_eq_true] at h
      obtain ⟨y, hy, hz⟩ := h
      obtain ⟨bs', rb'⟩ := of_decide_eq_true hz
      obtain ⟨e, he, bs, rb⟩ := key rs hds y hy
      have eq := (rb.unique _ _ rb').1
      have : PyData.eqv (PySem.W.kqdP e) (PySem.W.kqdP d) = true := by
        rw [eq]
        exact (PySem.W.kqd_eqv 9 d d 9 od od).mpr rfl
      rw [← (PySem.W.kqd_eqv 9 e d 9 (ods e he) od).mp this]
      exact he
    · intro h
      obtain ⟨y, hy, z⟩ := key2 rs hds d h
      rw [List.any_toArray, List.any_eq_true]
      exact ⟨y, hy, decide_eq_true z⟩
noncomputable def rInD (K : PySem.W.Frag) (neg : Bool) : R2 := fun x y H Q => ∃ p xs d ds, y = .ref p ∧ SqL K H p xs ∧ DV K H x d ∧ DVs K H xs ds ∧ PySem.W.kqdOk 9 d = true ∧ (∀ e ∈ ds, PySem.W.kqdOk 9 e = true) ∧ ∀ b : Bool, (b = true ↔ d ∈ ds) → Q (.bl (if neg then !b else b)) H
theorem op_notInD (hu : X.A.units + 65 < cLine) : OpR X (compareOp .NotIn) (rInD X.K true) := by
  intro pins s σ H x y v u Q I rx ry h
  obtain ⟨p, xs, d, ds, rfl, hq, hd, hds, od, ods, q⟩ := h
  cases ry
  obtain ⟨its, r, pl, hz⟩ := I.list hq
  obtain ⟨e, he, hb⟩ := in_core hu I rx r hd hds od ods
  exact SeqAt.notIn_listAt e pl.isList he ⟨.bl _, H, I, rfl, q _ hb⟩
end

/-! ### for k, v in d.items() -/
noncomputable def epOf (o : Obj) : Nat := match o.data with
  | .dict _ ep => ep
  | _ => 0
noncomputable def Iti (d : Addr) (kvs : List (Key × V)) (o : Obj) : It :=
  ⟨fun i H => H d = some (.frz o (.dK kvs)) ∧ i < kvs.length, fun i H x H' => ∃ k v p, kvs[i]? = some (k, v) ∧ H p = none ∧ x = .ref p ∧ H' = upd H p (.tup [kV k, v]), fun i H => H d = some (.frz o (.dK kvs)) ∧ kvs.length ≤ i⟩
theorem frz_dict {P : Program} {w : World} {H : Hp} {h : Heap} {d : Addr} {kvs : List (Key × V)} {o : Obj} (ok : HOk P w H h) (e : H d = some (.frz o (.dK kvs))) : ∃ vs, KV kvs vs ∧ h.DictAt (mixKind P w) d vs (epOf o) ∧ (d == sysModules) = false := by
  obtain ⟨ho, _, hd, vs, rel, o', es, ep, ho', hc, hdat, r⟩ := (show ObjOk P w H h d (.frz o (.dK kvs)) from ok d _ e)
  rw [ho] at ho'
  cases ho'
  refine ⟨vs, rel, ⟨o, es, ho, hc, ?_, r⟩, hd⟩
  unfold epOf
  rw [hdat]
theorem kv_get {kvs : List (Key × V)} {vs : List (Key × Value)} (r : KV kvs vs) {i : Nat} {k : Key} {v : V} (h : kvs[i]? = some (k, v)) : ∃ u, vs[i]? = some (k, u) ∧ RelV v u := by
  unfold KV at r
  induction r generalizing i with
  | nil => simp at h
  | @cons p q ps qs r1 rr ih =>
    cases i with
    | zero =>
      simp at h
      subst h
      obtain ⟨a, b⟩ := q
      exact ⟨b, by simp; exact r1.1.symm, r1.2⟩
    | succ i => exact ih (by simpa using h)
theorem entry_itemiter : entryFor table "dict_itemiterator.__iter__" = some Builtin.«dict_keyiterator.__iter__» :=
  entryFor_alias (id' := "dict_keyiterator.__iter__") (by kernel_rfl) rfl (by decide +kernel) (by kernel_rfl)
theorem wpAny_pyIter_itemiter {prog : Program} {w : World} {A : Around} {E : Value → Shared → Prop} {s : Shared} {it d : Addr} {i n ep : Nat} {ok ov : Value} {Q : Value → Shared → Prop} (hit : IsItemIter s.heap it d i n ep ok ov) (h : Q (.ref it) s) : wpAny (model prog w) A (pyIter (.ref it)) Q E s := by
  have hT : s.TypeIs (.ref it) "dict_itemiterator" := ⟨_, hit, rfl⟩
  refine wpAny_pyIter_slot hT PySem.F.slot_dict_itemiterator_iter (wpAny_call_entry PySem.F.slot_dict_itemiterator_iter hT entry_itemiter ?_ (PySem.F.args_dict_itemiterator_iter_1 _))
  show wpAny _ _ (ret (.ref it)) _ _ s
  exact wpAny_pure ⟨_, rfl, "dict_itemiterator", _, hT, PySem.F.slot_dict_itemiterator_next.lookup, h⟩
theorem turn_items {P : Program} {w : World} {K : PySem.W.Frag} {elts : List Expr} {x1 : Nat} {pos : Pos} (d it : Addr) (kvs : List (Key × V)) (o : Obj) : Turn P w K (.Tuple elts x1 pos) (Iti d kvs o) [it] it (fun i h => ∃ ok ov, IsItemIter h it d i kvs.length (epOf o) ok ov) where
  mem := by simp
  obj := fun i h st b hb => by
    have e : b = it := by simpa using hb
    subst e
    obtain ⟨ok, ov, st⟩ := st
    exact ⟨_, st, fun v z => by
      have z' : Data.fields _ = Data.cell v := z
      cases z'⟩
  keep := fun i h h' zq373 k => zq373.elim fun ok zq374 => zq374.elim fun ov st => ⟨ok, ov, k it (by simp) _ st⟩
  item := by
    intro X hP hw hK hc i pins s σ H E I hf st hg
    subst hP hw hK
    obtain ⟨ok, ov, st⟩ := st
    obtain ⟨hd, hlt⟩ := hg
    obtain ⟨f0, f1, f2, f3, f4, f5⟩ := hf it (by simp)
    obtain ⟨vs, rel, hat, hS⟩ := frz_dict I.hok hd
    have hlen := rel.length
    obtain ⟨kv, hkv⟩ : ∃ kv, kvs[i]? = some kv := ⟨_, List.getElem?_eq_getElem hlt⟩
    obtain ⟨k, v⟩ := kv
    obtain ⟨u, hu, ru⟩ := kv_get rel hkv
    rw [hlen] at st
    refine wpAny_pyNext_items_item st hat hu fun key h1 hkey hout htup hsz hk1 => ⟨.ref s.heap.objs.size, rfl, ?_⟩
    refine wpAny_letOwnedTupleGo_items hout fun h2 st2 sb => ?_
    have hil : it < s.heap.objs.size := Heap.lt_size st
    have sb : Heap.SameBut it h1 h2 := sb
    have I1 : Inv X pins σ H { s with heap := h2 } := I.turned (t' := s.toks) (fun b ob hb e => (sb.2 b hb).trans (hk1 b ob hb e)) f0 f1 f3 f4 f5
    have hn : H s.heap.objs.size = none := I.hok.fresh (Nat.le_refl _)
    have fp := I.fpOk (H' := H) (Nat.le_refl _) hn
    have hobj : h2.get? s.heap.objs.size = some { cls := .type "tuple", data := .seq #[key, u] } := (sb.2 _ (Nat.ne_of_gt hil)).trans htup
    have I2 : Inv X pins σ (upd H s.heap.objs.size (.tup [kV k, v])) { s with heap := h2 } := by
      refine I1.track hn I.sz fp.2.1 fp.2.2.2.2.1 fp.2.2.2.2.2 ?_
      exact ⟨by show 2 ≤ sizeLine; decide, [key, u], .cons (rel_key hkey) (.cons ru .nil), _, hobj, rfl, 0, rfl⟩
    refine ⟨.ref s.heap.objs.size, _, I2, rfl, ⟨k, v, _, hkv, hn, rfl, rfl⟩, ⟨key, u, by rw [hlen]; exact st2⟩, fun b hb => ?_⟩
    have e : b = it := by simpa using hb
    subst e
    rw [upd_ne (Nat.ne_of_lt hil)]
    exact f0
  done := by
    intro X hP hw hK hc i pins s σ H E I hf st hg
    subst hP hw hK
    obtain ⟨ok, ov, st⟩ := st
    obtain ⟨hd, hle⟩ := hg
    obtain ⟨f0, f1, f2, f3, f4, f5⟩ := hf it (by simp)
    obtain ⟨vs, rel, hat, hS⟩ := frz_dict I.hok hd
    have hlen := rel.length
    rw [hlen] at st
    exact wpAny_pyNext_items_end (I.ok.hd hc) st hat (by rw [List.getElem?_eq_none_iff]; omega) fun h' eb => ⟨rfl, I.turned (t' := s.toks) (fun b o hb e => eb b o hb e) f0 f1 f3 f4 f5⟩
  self := fun _ _ _ _ _ zq375 h => zq375.elim fun ok zq376 => zq376.elim fun ov st => wpAny_pyIter_itemiter st h

/-! ### the readings made monotone -/
section
variable {X : Cx}
theorem PE.weak {e : Expr} {t : TE} (h : PE X e t) : PE X e (fun σ H Q => ∃ Q' : VK, t σ H Q' ∧ ∀ v H, Q' v H → Q v H) := by
  intro pins s σ H Q I ⟨Q', q, w⟩
  exact L2.thn (h pins s σ H _ I q) fun u s1 zq377 => zq377.elim fun v zq378 => zq378.elim fun H1 zq379 => zq379.elim fun I1 zq380 => zq380.elim fun r1 q1 => ⟨v, H1, I1, r1, w _ _ q1⟩
theorem PG.weak {e : Expr} {g : TG} (h : PG X e g) : PG X e (fun x σ H Q => ∃ Q' : St → Hp → Prop, g x σ H Q' ∧ ∀ σ H, Q' σ H → Q σ H) := by
  intro pins s σ H v u Q I r ⟨Q', q, w⟩
  exact L2.thn (h pins s σ H v u _ I r q) fun _ s1 zq381 => zq381.elim fun σ1 zq382 => zq382.elim fun H1 zq383 => zq383.elim fun I1 q1 => ⟨σ1, H1, I1, w _ _ q1⟩
theorem PSs.weak {b : List Stmt} {t : TS} (h : PSs X b t) : PSs X b (fun D σ H => ∃ D' : Ends, t D' σ H ∧ (∀ σ H, D'.nx σ H → D.nx σ H) ∧ (∀ v H, D'.rt v H → D.rt v H) ∧ (∀ σ H, D'.bk σ H → D.bk σ H) ∧ ∀ σ H, D'.ct σ H → D.ct σ H) := by
  intro pins s σ H D I ⟨D', q, w1, w2, w3, w4⟩
  refine L2.thn (h pins s σ H D' I q) fun f s1 q1 => ?_
  cases f with
  | next => obtain ⟨σ1, H1, I1, q1⟩ := q1; exact ⟨σ1, H1, I1, w1 _ _ q1⟩
  | ret v => obtain ⟨x, σ1, H1, I1, r, q1⟩ := q1; exact ⟨x, σ1, H1, I1, r, w2 _ _ q1⟩
  | brk => obtain ⟨σ1, H1, I1, q1⟩ := q1; exact ⟨σ1, H1, I1, w3 _ _ q1⟩
  | cont => obtain ⟨σ1, H1, I1, q1⟩ := q1; exact ⟨σ1, H1, I1, w4 _ _ q1⟩
end
theorem pi_items {o : Expr} {elts : List Expr} {x1 : Nat} {tpos apos cpos : Pos} {X : Cx} {td : TE} (ho : PE X o td) (hbase : attributeBase o "items" X.env (eval o X.env) = eval o X.env := by rfl) (hline : (apos.endLine == cpos.line) = true := by rfl) :
    PI X (.Tuple elts x1 tpos) (.Call (.Attribute o "items" apos) [] [] cpos) (fun σ H R => td σ H fun x H1 => ∃ d kvs, x = .ref d ∧ H1 d = some (.dK kvs) ∧ ∀ ob, (∀ o' u, X.H₀ d ≠ some (.frz o' u)) → R (Iti d kvs ob) (upd H1 d (.frz ob (.dK kvs)))) := by
  intro pins s σ H R I h
  refine wpAny_Call_method0_late hbase hline (thn (ho pins s σ H _ I h) fun v s1 zq384 => zq384.elim fun x zq385 => zq385.elim fun H1 zq386 => zq386.elim fun I1 zq387 => zq387.elim fun r1 zq388 => zq388.elim fun d zq389 => zq389.elim fun kvs zq390 => zq390.elim fun e zq391 => zq391.elim fun ed q => ?_)
  subst e
  cases r1
  obtain ⟨z, hd, vs, rel, dd⟩ := dk_of I1.hok ed
  obtain ⟨h1, h2⟩ := tyV_is I1 (x := .ref d) rfl (T := "dict") (.inr (.inr (.inl ⟨rfl, .inl ⟨kvs, ed⟩⟩)))
  refine ⟨"dict", "dict.items", PySem.F.plainAttrs_dict, PySem.F.slot_dict_items, PySem.F.type_dict_items, h1, h2, Calls.callWith_builtin rfl (PySem.evalArgs_none ?_)⟩
  refine call_meetsIn PySem.F.slot_dict_items dd.typeIs PySem.F.entry_dict_items (PySem.F.args_dict_items_1 _) (meets_dict_items (mixKind X.prog X.w) d hd) ⟨⟨vs, dd⟩, ?_⟩
  have dd2 := dd.push { cls := .type "dict_items", data := .fields #[.ref d] }
  obtain ⟨ob, es, ep, hob, hc, hdat, rest⟩ := id dd2
  have hat : (s1.heap.push { cls := .type "dict_items", data := .fields #[.ref d] }).DictAt (mixKind X.prog X.w) d vs ep := ⟨ob, es, hob, hc, hdat, rest⟩
  have I2 : Inv X pins σ H1 { s1 with heap := s1.heap.push { cls := .type "dict_items", data := .fields #[.ref d] } } := I1.kept (t' := s1.toks) fun b o e => Heap.get?_push_of_some _ e
  refine wpAny_pyIter_items (s := { s1 with heap := s1.heap.push { cls := .type "dict_items", data := .fields #[.ref d] } }) ⟨_, Heap.get?_push_size _ rfl, rfl, rfl⟩ hat ?_
  have hep : epOf ob = ep := by unfold epOf; rw [hdat]
  have hlen := rel.length
  have I3 : Inv X pins σ H1 { s1 with heap := (s1.heap.push { cls := .type "dict_items", data := .fields #[.ref d] }).push { cls := .type "dict_itemiterator", data := .fields #[.none, .bool false, .ref d, .int 0 0, .int vs.length 0, .int ep 0, .none, .none] } } :=
    I2.kept (t' := s1.toks) fun b o e => Heap.get?_push_of_some _ e
  have hn := I2.hok.fresh (Nat.le_refl (s1.heap.push { cls := .type "dict_items", data := .fields #[.ref d] }).objs.size)
  have hz : ∀ o' u, X.H₀ d ≠ some (.frz o' u) := fun o' u hq => by
    have := I1.base.frzs d o' u hq
    rw [ed] at this
    cases this
  refine ⟨_, [_], _, _, _, rfl, I3.freeze ed (Heap.get?_push_of_some _ hob), turn_items d _ kvs ob, ⟨.none, .none, ?_⟩, fun b hb => ?_, q ob hz⟩
  · show Heap.get? _ _ = _
    rw [hep, hlen]
    exact Heap.get?_push_size _ rfl
  · have e : b = (s1.heap.push { cls := .type "dict_items", data := .fields #[.ref d] }).objs.size := by simpa using hb
    subst e
    refine I2.fpOk (Nat.le_refl _) ?_
    rw [upd_ne (Ne.symm (ne_of_none ed hn))]
    exact hn
/-- the loop's asking, the dict frozen while it goes on -/
noncomputable def tForI (td : TE) (g : TG) (tb : TS) : TS := fun D σ H => td σ H fun x H1 => ∃ d kvs, x = .ref d ∧ H1 d = some (.dK kvs) ∧ ∀ ob, ∃ W : Nat → Nat → St → Hp → Prop, (∃ m, W 0 m σ (upd H1 d (.frz ob (.dK kvs)))) ∧ ∀ i m σ H, W i m σ H →
  H d = some (.frz ob (.dK kvs)) ∧ ((kvs.length ≤ i ∧ D.nx σ (upd H d (.dK kvs))) ∨ (i < kvs.length ∧ ∃ N : St → Hp → Prop, (∀ σ' H', N σ' H' → ∃ m', m' < m ∧ W (i + 1) m' σ' H') ∧
    ∀ k v p, kvs[i]? = some (k, v) → H p = none → g (.ref p) σ (upd H p (.tup [kV k, v])) fun σ2 H2 =>
      tb { nx := N, ct := N, bk := fun σ' H' => H' d = some (.frz ob (.dK kvs)) ∧ D.nx σ' (upd H' d (.dK kvs)), rt := fun v' H' => H' d = some (.frz ob (.dK kvs)) ∧ D.rt v' (upd H' d (.dK kvs)) } σ2 H2))
theorem ps_forItems {o : Expr} {elts : List Expr} {x1 : Nat} {tpos apos cpos pos : Pos} {X : Cx} {td : TE} {g : TG} {tb : TS} {body : List Stmt} (hp : PassesOwn (model X.prog X.w) X.A X.env X.xe) (hc : X.calm = true) (ho : PE X o td) (hg : PG X (.Tuple elts x1 tpos) g) (hb : PSs X body tb)
    (hbase : attributeBase o "items" X.env (eval o X.env) = eval o X.env := by rfl) (hline : (apos.endLine == cpos.line) = true := by rfl) (hs : ∀ x, foldedSetIterable (.Call (.Attribute o "items" apos) [] [] cpos) X.env x = pure x := by intro _; rfl) :
    PS X (.For (.Tuple elts x1 tpos) (.Call (.Attribute o "items" apos) [] [] cpos) body [] pos) (tForI td g tb) := by
  intro pins s σ H D I h
  refine thn (ps_for (X := X) hp hc (pi_items ho.weak hbase hline) hg.weak hb.weak hs pins s σ H
    { nx := fun σ' H' => ∃ d kvs ob, H' d = some (.frz ob (.dK kvs)) ∧ (∀ o' u, X.H₀ d ≠ some (.frz o' u)) ∧ D.nx σ' (upd H' d (.dK kvs)), rt := fun v' H' => ∃ d kvs ob, H' d = some (.frz ob (.dK kvs)) ∧ (∀ o' u, X.H₀ d ≠ some (.frz o' u)) ∧ D.rt v' (upd H' d (.dK kvs)) } I ?_) fun f s' q => ?_
  · refine ⟨_, h, fun x H1 zq392 => zq392.elim fun d zq393 => zq393.elim fun kvs zq394 => zq394.elim fun e zq395 => zq395.elim fun ed q => ⟨d, kvs, e, ed, fun ob hz => ?_⟩⟩
    obtain ⟨W, w0, turn⟩ := q ob
    refine ⟨W, w0, fun i m σ H hw => ?_⟩
    obtain ⟨hd, c | ⟨hlt, N, hN, step⟩⟩ := turn i m σ H hw
    · exact .inl ⟨⟨hd, c.1⟩, d, kvs, ob, hd, hz, c.2⟩
    · refine .inr ⟨⟨hd, hlt⟩, N, hN, fun x H' zq396 => zq396.elim fun k zq397 => zq397.elim fun v zq398 => zq398.elim fun p zq399 => zq399.elim fun hk zq400 => zq400.elim fun hp zq401 => zq401.elim fun e eH => ?_⟩
      subst e eH
      exact ⟨_, step k v p hk hp, fun σ2 H2 q2 => ⟨_, q2, fun _ _ z => z, fun v' H' zq402 => zq402.elim fun a b => ⟨d, kvs, ob, a, hz, b⟩, fun σ' H' zq403 => zq403.elim fun a b => ⟨d, kvs, ob, a, hz, b⟩, fun _ _ z => z⟩⟩
  · cases f with
    | next =>
      obtain ⟨σ', H', I', d, kvs, ob, hd, hz, q⟩ := q
      exact ⟨σ', _, I'.thaw hd hz, q⟩
    | ret v =>
      obtain ⟨x, σ', H', I', r, d, kvs, ob, hd, hz, q⟩ := q
      exact ⟨x, σ', _, I'.thaw hd hz, r, q⟩
    | brk => obtain ⟨_, _, _, q⟩ := q; exact q.elim
    | cont => obtain ⟨_, _, _, q⟩ := q; exact q.elim
end L2

set_option Elab.async false
set_option linter.all false
set_option maxRecDepth 100000
set_option maxHeartbeats 4000000

namespace L2
open PySem PySem.Spec PyProof.Rows
/-! ### an empty set, walked -/
theorem slot_si_next : Slot "set_iterator" "__next__" "set_iterator.__next__" :=
  .of (owner := "set_iterator") (n := "__next__") (by rw [typeLookup_type, builtinLookup_eq_fast]; kernel_rfl) (by decide +kernel) (by decide +kernel) (by decide +kernel)
    (by first | exact .inl (by decide +kernel) | exact .inr (by decide +kernel)) (by rw [isSubtype_type]; kernel_rfl)
theorem slot_si_iter : Slot "set_iterator" "__iter__" "set_iterator.__iter__" :=
  .of (owner := "set_iterator") (n := "__iter__") (by rw [typeLookup_type, builtinLookup_eq_fast]; kernel_rfl) (by decide +kernel) (by decide +kernel) (by decide +kernel)
    (by first | exact .inl (by decide +kernel) | exact .inr (by decide +kernel)) (by rw [isSubtype_type]; kernel_rfl)
theorem entry_si_next : entryFor table "set_iterator.__next__" = some Builtin.«set_iterator.__next__» := entryFor_of_tree (by kernel_rfl)
theorem entry_si_iter : entryFor table "set_iterator.__iter__" = some Builtin.«dict_keyiterator.__iter__» := entryFor_alias (id' := "dict_keyiterator.__iter__") (by kernel_rfl) rfl (by decide +kernel) (by kernel_rfl)
theorem entry_set_iter' : entryFor table "set.__iter__" = some Builtin.«frozenset.__iter__» := entryFor_alias (id' := "frozenset.__iter__") (by kernel_rfl) rfl (by decide +kernel) (by kernel_rfl)
theorem owner_si : Manifest.owners.lookup (String.ofList ['r', 'o', 't', 'a', 'r', 'e', 't', 'i', '_', 't', 'e', 's'].reverse) = some Manifest.sig_set_iterator := by kernel_rfl
theorem args_si_next (a : Value) : argsOk "set_iterator.__next__" ⟨[a], []⟩ := by
  unfold argsOk; rw [signature?_of (id := "set_iterator.__next__") (n := ['_', '_', 't', 'x', 'e', 'n', '_', '_']) (o := ['r', 'o', 't', 'a', 'r', 'e', 't', 'i', '_', 't', 'e', 's']) (by kernel_rfl) owner_si]; kernel_rfl
theorem args_si_iter (a : Value) : argsOk "set_iterator.__iter__" ⟨[a], []⟩ := by
  unfold argsOk; rw [signature?_of (id := "set_iterator.__iter__") (n := ['_', '_', 'r', 'e', 't', 'i', '_', '_']) (o := ['r', 'o', 't', 'a', 'r', 'e', 't', 'i', '_', 't', 'e', 's']) (by kernel_rfl) owner_si]; kernel_rfl
noncomputable def Empt (h : Heap) (a : Addr) (ep : Nat) (t : SetTable) : Prop := ∃ o, h.get? a = some o ∧ o.cls = .type "set" ∧ o.data = .set #[] ep t ∧ t.fits 0 = true
noncomputable def EmIt (h : Heap) (it a : Addr) (ep : Nat) : Prop := ∃ o, h.get? it = some o ∧ o.cls = .type "set_iterator" ∧ o.data = .fields #[rawInt 0, rawInt 0, .ref a, rawInt 0, rawInt ep]
theorem Empt.typeIs {s : Shared} {a : Addr} {ep : Nat} {t : SetTable} (x : Empt s.heap a ep t) : s.TypeIs (.ref a) "set" := x.elim fun o zq450 => zq450.elim fun ho zq451 => zq451.elim fun hc _ => ⟨o, ho, hc⟩
theorem EmIt.typeIs {s : Shared} {it a : Addr} {ep : Nat} (x : EmIt s.heap it a ep) : s.TypeIs (.ref it) "set_iterator" := x.elim fun o zq452 => zq452.elim fun ho zq453 => zq453.elim fun hc _ => ⟨o, ho, hc⟩
section
variable {prog : Program} {w : World} {A : Around} {E : Value → Shared → Prop} {s : Shared} {a it : Addr} {ep : Nat} {t : SetTable}
theorem empt_state {Q : (Array (Int × Value) × Nat × SetTable) → Shared → Prop} (x : Empt s.heap a ep t) (h : Q (#[], ep, t) s) : wpAny (model prog w) A (setState a) Q E s :=
  x.elim fun _ zq454 => zq454.elim fun ho zq455 => zq455.elim fun _ zq456 => zq456.elim fun hd hf => wpAny_setState_of ho hd hf h
theorem pyIter_empt {Q : Value → Shared → Prop} (x : Empt s.heap a ep t) (h : Q (.ref s.heap.objs.size) { s with heap := s.heap.push { cls := .type "set_iterator", data := .fields #[rawInt 0, rawInt 0, .ref a, rawInt 0, rawInt ep] } }) :
    wpAny (model prog w) A (pyIter (.ref a)) Q E s := by
  refine wpAny_pyIter_slot x.typeIs PySem.F.slot_set_iter (wpAny_call_entry PySem.F.slot_set_iter x.typeIs entry_set_iter' ?_ (PySem.F.args_set_iter_1 _))
  unfold Builtin.«frozenset.__iter__»
  refine wpAny_bind (m := Builtin.Frozenset.slot0 _ _) (wpAny_pure ?_)
  refine wpAny_bind ?_
  unfold Builtin.Frozenset.sizeOf setEntries
  refine wpAny_bind (wpAny_bind (empt_state x (wpAny_pure (wpAny_pure ?_))))
  refine wpAny_bind ?_
  unfold setDrawn
  refine wpAny_bind (empt_state x ?_)
  have hdr : ∀ b : Bool, (!b && (!t.plain && decide ((#[] : Array (Int × Value)).size > 1))) = false := fun b => by
    rw [show decide ((#[] : Array (Int × Value)).size > 1) = false from rfl, Bool.and_false, Bool.and_false]
  refine wpAny_bind (m := setsByText) (wpAny_bind (wpAny_askSetting (wpAny_pure ?_)))
  show wpAny _ _ (pure (!w.params.followText "set-order" && (!t.plain && decide ((#[] : Array (Int × Value)).size > 1)))) _ _ _
  rw [hdr]
  refine wpAny_pure ?_
  refine wpAny_bind (m := pure (rawInt 0)) (wpAny_pure ?_)
  unfold setEpoch
  refine wpAny_bind (wpAny_bind (empt_state x (wpAny_pure ?_)))
  refine wpAny_bind (wpAny_newObj_type (wpAny_pure ⟨_, rfl, "set_iterator", _, ⟨_, Heap.get?_push_size _ rfl, rfl⟩, slot_si_next.lookup, h⟩))
theorem pyNext_empt {Q : Option Value → Shared → Prop} (hh : A.handled = none) (hit : EmIt s.heap it a ep) (x : Empt s.heap a ep t) (hQ : ∀ h', Heap.ExtBut it s.heap h' → Q none { s with heap := h' }) : wpAny (model prog w) A (pyNext (.ref it)) Q E s := by
  obtain ⟨o, ho, hc, hd⟩ := id hit
  unfold pyNext
  refine wpAny_bind (wpAny_attempt (wpAny_callSpecial?_slot (name := Str.ofString "__next__") hit.typeIs slot_si_next (wpAny_call_entry slot_si_next hit.typeIs entry_si_next ?_ (args_si_next _))))
  unfold Builtin.«set_iterator.__next__»
  refine wpAny_bind (wpAny_pure ?_)
  refine wpAny_bind (wpAny_fieldsOf ho hd ?_)
  show wpAny _ _ (setEntries a >>= _) _ _ s
  unfold setEntries
  refine wpAny_bind (wpAny_bind (empt_state x (wpAny_pure ?_)))
  rw [if_neg (show ¬ (((((#[] : Array (Int × Value)), ep, t).1.size : Int) != 0) = true) from Bool.false_ne_true)]
  show wpAny _ _ (setNext a 0 0 ep >>= _) _ _ s
  refine wpAny_bind ?_
  unfold setNext
  refine wpAny_bind (empt_state x ?_)
  have fin : ∀ {R : PySem.Fin → Shared → Prop} {E' : Value → Shared → Prop}, (∀ h' e, Heap.ExtBut it s.heap h' → Shared.TypeIs { s with heap := h' } e "StopIteration" → E' e { s with heap := h' }) →
      wpAny (model prog w) A.in1 (match (none : Option (Value × Nat)) with
        | some (x, next) => do
          setField (.ref it) 0 (rawInt next)
          setField (.ref it) 1 (rawInt ((0 : Int) + 1))
          ret x
        | none => do
          setField (.ref it) 2 .none
          raiseNew (← newExc (.type "StopIteration") [])) R E' s := by
    intro R E' q
    show wpAny _ _ (setField (.ref it) 2 .none >>= _) _ _ s
    refine wpAny_bind (wpAny_setField ho hd (by simp) ?_)
    show wpAny _ _ (newExc (.type "StopIteration") [] >>= _) _ _ _
    refine wpAny_bind ?_
    simp only [newExc, newTuple]
    refine wpAny_bind (wpAny_newObj_type ?_ (by size_fits))
    refine wpAny_bind (m := firstArgMember _ _) (wpAny_of_eq (a := Value.none) (by first | rfl | (simp only [firstArgMember]; rfl)) ?_)
    refine wpAny_newObj_type ?_ (by size_fits)
    simp only [raiseNew]
    refine wpAny_bind (wpAny_handled ?_)
    rw [show A.in1.handled = none from hh]
    refine wpAny_bind (wpAny_pure (wpAny_throw ?_))
    refine q _ _ (((Heap.SameBut.update ..).extBut.push _).push _) ?_
    exact ⟨_, Heap.get?_push_size _ rfl, rfl⟩
  have hdr : (!t.plain && decide ((#[] : Array (Int × Value)).size > 1)) = false := by rw [show decide ((#[] : Array (Int × Value)).size > 1) = false from rfl, Bool.and_false]
  have hld : (!t.led && !(#[] : Array (Int × Value)).isEmpty) = false := by rw [show (!(#[] : Array (Int × Value)).isEmpty) = false from rfl, Bool.and_false]
  refine wpAny_bind (m := setsByText) (wpAny_bind (wpAny_askSetting (wpAny_pure ?_)))
  cases hb : w.params.followText "set-order" with
  | true =>
    show wpAny _ _ (if w.params.followText "set-order" = true then _ else _) _ _ s
    rw [if_pos hb]
    rw [if_neg (show ¬ ((ep != ep) = true) by simp)]
    refine wpAny_bind ?_
    unfold setWalk
    refine wpAny_bind (empt_state x ?_)
    refine wpAny_bind (m := setsByText) (wpAny_bind (wpAny_askSetting (wpAny_pure ?_)))
    show wpAny _ _ (if w.params.followText "set-order" = true then _ else _) _ _ s
    rw [if_pos hb]
    refine wpAny_bind (wpAny_askSetting (wpAny_pure (wpAny_pure ?_)))
    refine fin fun h' e z ht => ?_
    exact wpAny_bind (wpAny_isInstance (T := "StopIteration") (b := true) ht isSubtype_stop (wpAny_pure (hQ _ z)))
  | false =>
    show wpAny _ _ (if w.params.followText "set-order" = true then _ else _) _ _ s
    rw [if_neg (by rw [hb]; exact Bool.false_ne_true)]
    show wpAny _ _ (if (!t.plain && decide ((#[] : Array (Int × Value)).size > 1)) = true then _ else _) _ _ s
    rw [if_neg (by rw [hdr]; exact Bool.false_ne_true)]
    show wpAny _ _ ((if (!t.led && !(#[] : Array (Int × Value)).isEmpty) = true then _ else _) >>= _) _ _ s
    rw [if_neg (by rw [hld]; exact Bool.false_ne_true)]
    refine wpAny_bind (wpAny_pure ?_)
    refine wpAny_pure ?_
    refine fin fun h' e z ht => ?_
    exact wpAny_bind (wpAny_isInstance (T := "StopIteration") (b := true) ht isSubtype_stop (wpAny_pure (hQ _ z)))
theorem Empt.at' {h h' : Heap} (x : Empt h a ep t) (e : ∀ o, h.get? a = some o → h'.get? a = some o) : Empt h' a ep t := x.elim fun o zq457 => zq457.elim fun ho r => ⟨o, e _ ho, r⟩
theorem EmIt.at' {h h' : Heap} (x : EmIt h it a ep) (e : ∀ o, h.get? it = some o → h'.get? it = some o) : EmIt h' it a ep := x.elim fun o zq458 => zq458.elim fun ho r => ⟨o, e _ ho, r⟩
theorem walks_empt (hh : A.handled = none) (I a : Addr) : Walks prog w A I [I, a] [I] 0 (fun _ _ => False) (fun _ h => EmIt h I a ep ∧ Empt h a ep t) where
  sub := fun b hb => by simp at hb; simp [hb]
  frame := fun _ _ _ st hk => ⟨st.1.at' fun o e => hk I (by simp) o e, st.2.at' fun o e => hk a (by simp) o e⟩
  item := fun i s Q E hi st hQ => absurd hi (Nat.not_lt_zero _)
  done := fun s Q E st hQ => pyNext_empt hh st.1 st.2 fun h' he' => hQ h' s.toks fun b o hb e => he' b o (fun h => hb (by simp [h])) e
  self := fun _ s Q E st hQ => by
    refine wpAny_pyIter_slot st.1.typeIs slot_si_iter (wpAny_call_entry slot_si_iter st.1.typeIs entry_si_iter ?_ (args_si_iter _))
    show wpAny _ _ (ret (.ref I)) _ _ s
    exact wpAny_pure ⟨_, rfl, "set_iterator", _, st.1.typeIs, slot_si_next.lookup, hQ⟩
theorem set_len_lookup : typeLookup (.type "set") "__len__" = pure (some (.builtin "set.__len__")) := by rw [typeLookup_type, builtinLookup_eq_fast]; kernel_rfl
theorem hint_set {Q : Bool → Shared → Prop} (hT : s.TypeIs (.ref a) "set") (h : Q false s) : wpAny (model prog w) A (Builtin.List.listLengthHint (.ref a)) Q E s := by
  unfold Builtin.List.listLengthHint
  refine wpAny_bind (wpAny_specialOf hT set_len_lookup ?_)
  generalize hid : ("set.__len__" : String) = id0
  wp_delta
  rw [show splitId id0 = some ("set", "__len__") from by subst hid; decide +kernel]
  subst hid
  refine wpAny_bind (wpAny_isInstance (T := "set") (b := true) hT (by rw [isSubtype_type]; kernel_rfl) ?_)
  refine wpAny_ite_split (fun hab => absurd hab (by decide)) (fun _ => ?_)
  refine wpAny_ite_split (fun _ => ?_) (fun hab => absurd (by decide +kernel) hab)
  refine wpAny_bind (wpAny_typeOf hT ?_)
  exact wpAny_pure h
theorem kdl_empt : PySem.W.KdlSrc prog w "set" a a 0 (fun _ _ => False) (fun h => Empt h a ep t) where
  type := fun _ hm => hm.typeIs
  there := fun _ hm => hm.elim fun _ zq459 => zq459.elim fun ho _ => ⟨Heap.lt_size ho, Heap.lt_size ho⟩
  keep := fun _ _ hm hk => hm.at' fun o e => hk a (.inl rfl) o e
  notList := by decide
  notTuple := by decide
  hint := fun _ _ _ _ hm hq => hint_set hm.typeIs hq
  iter := fun _ s hh hm => ⟨_, _, (fun _ _ hq => pyIter_empt hm hq), walks_empt (ep := ep) (t := t) hh _ a, ⟨⟨_, Heap.get?_push_size _ rfl, rfl, rfl⟩, hm.at' fun o e => Heap.get?_push_of_some _ e⟩⟩
end
section
variable {X : Cx}
/-- set(l) of an empty list -/
theorem call_setE (hc : X.calm = true) : CallR X (.type "set") (fun xs H Q => ∃ p, xs = [.ref p] ∧ SqL X.K H p [] ∧ New H (.set (fun _ => false) 0) Q) := by
  intro pins s σ H xs us Q I r h
  obtain ⟨p, rfl, hp, q⟩ := h
  obtain ⟨u, rfl, ru⟩ := vals1 r
  cases ru
  obtain ⟨its, rv, ht, hz⟩ := I.list hp
  cases rv
  refine PySem.call_set_list (ns := []) (I.ok.hd hc) ht.isList .nil (by decide) fun h' tk hS hk => ?_
  exact ⟨.ref s.heap.objs.size, _, I.laid (t' := tk) (a := s.heap.objs.size) (o := .set (fun _ => false) 0) (fun b o q => hk b o (Heap.lt_size q) q) (Nat.le_refl _) hS, rfl, q.at _ (I.hok.fresh (Nat.le_refl _))⟩
/-- sorted of an empty set -/
theorem call_sortedE (hc : X.calm = true) : CallR X (.builtin "sorted") (fun xs H Q => ∃ p S, xs = [.ref p] ∧ H p = some (.set S 0) ∧ New H (.lst []) Q) := by
  intro pins s σ H xs us Q I r h
  obtain ⟨p, S, rfl, e, q⟩ := h
  obtain ⟨u, rfl, ru⟩ := vals1 r
  cases ru
  obtain ⟨o, es, ep, t, ho, hx, hd, _, _, _, hf, h0⟩ : s.heap.SetOf (intKind X.prog X.w) p S 0 := I.hok p _ e
  have hes : es = #[] := Array.eq_empty_of_size_eq_zero h0
  subst hes
  refine sorted_collects (PySem.W.kdu_collect (kdl_empt (ep := ep) (t := t)) (I.ok.hd hc) ⟨o, ho, hx.1, hd, hf⟩ (Nat.zero_le _) fun h' tk acc hk hacc => ?_)
  have hl : acc.toList = [] := List.length_eq_zero_iff.mp (by rw [Array.length_toList]; exact hacc.1)
  rw [hl]
  have I' : Inv X pins σ H { s with heap := h', toks := tk } := I.kept hk
  refine ⟨[], h', tk, rfl, .nil, by decide, fun h2 out ys' e' k2 he hS' hp' hs' => ?_⟩
  have hy : ys' = [] := List.Perm.eq_nil hp'
  subst hy
  exact ⟨.ref h'.objs.size, _, inv_sorted I' k2 he hS' (Nat.zero_le _), rfl, q.at _ (I'.hok.fresh (Nat.le_refl _))⟩

/-! ### new dicts, in some heap over the one ahead; fields, with the fragment named -/
theorem pe_dnewN {pos : Pos} : PE X (.Dict [] [] pos) (fun _ H Q => New H (.dK []) Q) := fun pins s σ H Q I h => pe_dnewK pins s σ H Q I h.at
theorem pe_dnewTN {pos : Pos} : PE X (.Dict [] [] pos) (fun _ H Q => New H (.dT []) Q) := fun pins s σ H Q I h => pe_dnewT pins s σ H Q I h.at
theorem pe_fldK (K : PySem.W.Frag) {e : Expr} {f : Str} {pos : Pos} {ta : TE} (he : PE X e ta) (hb : attributeBase e f X.env (eval e X.env) = eval e X.env) (h : X.K = K := by rfl) : PE X (.Attribute e f pos) (tFld K ta f) := h ▸ pe_fld he hb
end
end L2

set_option Elab.async false
set_option linter.all false
set_option maxRecDepth 100000
set_option maxHeartbeats 4000000

namespace L2
open PySem PySem.Spec PyProof.Rows
section
variable {X : Cx}
/-- d.update(e) -/
noncomputable def rDUpd : V → List V → Hp → VK → Prop := fun x vs H Q => ∃ a b kvs more, x = .ref a ∧ vs = [.ref b] ∧ a ≠ b ∧ H a = some (.dK kvs) ∧ H b = some (.dK more) ∧ kvs.length + more.length ≤ sizeLine ∧ Q .non (upd H a (.dK (mergeK kvs more)))
theorem mt_dupdate : MtM X "dict.update" rDUpd := by
  intro pins s σ H x xs v us Q I rx rs h
  obtain ⟨a, b, kvs, more, rfl, rfl, hab, ea, eb, hl, q⟩ := h
  cases rx
  cases rs with
  | cons r1 r2 =>
    cases r2
    cases r1
    obtain ⟨z, hd, vs, rel, dd⟩ := dk_of I.hok ea
    obtain ⟨z', hd', ws, rel', dd'⟩ := dk_of I.hok eb
    refine call_meetsIn PySem.F.slot_dict_update dd.typeIs PySem.F.entry_dict_update (PySem.F.args_dict_update_2 _ _) (meets_dict_update (mixKind X.prog X.w) a b hab hd') ⟨vs, ws, dd, dd', by rw [← rel.length, ← rel'.length]; exact hl, fun h' dm _ hs => ?_⟩
    have he : ∃ q, h'.get? a = some q := dm.elim fun q zq460 => zq460.elim fun _ zq461 => zq461.elim fun _ zq462 => zq462.elim fun hq _ => ⟨q, hq⟩
    exact ⟨.non, _, d_write I (ob := .dK (mergeK kvs more)) (by rw [ea]; exact True.intro) hs he (dk_new (Nat.le_trans (length_mergeK _ _) hl) hd (rel'.merge rel) dm), rfl, q⟩
/-- d == {}, d != {} -/
theorem op_eqZ (hu : X.A.units < cLine) : OpR X (compareOp .Eq) (fun x y H Q => ∃ a b kvs, x = .ref a ∧ y = .ref b ∧ H a = some (.dK kvs) ∧ H b = some (.dK []) ∧ Q (.bl kvs.isEmpty) H) := by
  intro pins s σ H x y v u Q I rx ry h
  obtain ⟨a, b, kvs, rfl, rfl, ea, eb, q⟩ := h
  cases rx
  cases ry
  obtain ⟨_, hd, vs, rel, dd⟩ := dk_of I.hok ea
  obtain ⟨_, hd', vs', rel', dd'⟩ := dk_of I.hok eb
  cases rel'
  refine PySem.W.keq_eq (knd := mixKind X.prog X.w) (r := true) hd hd' dd dd' hu (fun e => ?_) ⟨.bl _, H, I, rfl, ?_⟩
  · have : vs = [] := List.length_eq_zero_iff.mp e
    subst this
    exact .nil
  · have hl := rel.length
    have e : (vs.length == ([] : List (Key × Value)).length && true) = kvs.isEmpty := by
      cases kvs with
      | nil => rw [← hl]; rfl
      | cons p r => rw [← hl]; rfl
    rw [e]
    exact q
theorem op_neZ (hu : X.A.units < cLine) : OpR X (compareOp .NotEq) (fun x y H Q => ∃ a b kvs, x = .ref a ∧ y = .ref b ∧ H a = some (.dK kvs) ∧ H b = some (.dK []) ∧ Q (.bl (!kvs.isEmpty)) H) := by
  intro pins s σ H x y v u Q I rx ry h
  obtain ⟨a, b, kvs, rfl, rfl, ea, eb, q⟩ := h
  cases rx
  cases ry
  obtain ⟨_, hd, vs, rel, dd⟩ := dk_of I.hok ea
  obtain ⟨_, hd', vs', rel', dd'⟩ := dk_of I.hok eb
  cases rel'
  refine PySem.W.keq_ne (knd := mixKind X.prog X.w) (r := true) hd hd' dd dd' hu (fun e => ?_) ⟨.bl _, H, I, rfl, ?_⟩
  · have : vs = [] := List.length_eq_zero_iff.mp e
    subst this
    exact .nil
  · have hl := rel.length
    have e : (vs.length == ([] : List (Key × Value)).length && true) = kvs.isEmpty := by
      cases kvs with
      | nil => rw [← hl]; rfl
      | cons p r => rw [← hl]; rfl
    rw [e]
    exact q

/-! ### f-strings of texts -/
theorem str_empty_app (x : Str) : Str.empty ++ x = x := by
  obtain ⟨c⟩ := x
  show (⟨#[] ++ c⟩ : Str) = ⟨c⟩
  rw [Array.empty_append]
variable {e e1 e2 : Expr} {te t1 t2 : TE} {pos : Pos}
noncomputable def tFmt (te : TE) : TE := fun σ H Q => te σ H fun x H1 => ∃ y, x = .str y ∧ y.length ≤ sizeLine ∧ Q x H1
theorem pe_fmt (he : PE X e te) : PE X (.FormattedValue e (-1) none pos) (tFmt te) := by
  intro pins s σ H Q I h
  refine FormattedValue_plain (thn (he pins s σ H _ I h) fun v s1 zq404 => zq404.elim fun x zq405 => zq405.elim fun H1 zq406 => zq406.elim fun I1 zq407 => zq407.elim fun r1 zq408 => zq408.elim fun y zq409 => zq409.elim fun ex zq410 => zq410.elim fun hl q => ?_)
  subst ex
  obtain ⟨t, rfl⟩ := r1
  exact formatField_str (fun t' tk => ⟨.str y, H1, I1.tok _, ⟨_, rfl⟩, q⟩) hl
noncomputable def tJoin2 (t1 t2 : TE) : TE := fun σ H Q => t1 σ H fun a H1 => ∃ x, a = .str x ∧ x.length ≤ sizeLine ∧ t2 σ H1 fun b H2 => ∃ y, b = .str y ∧ x.length + y.length ≤ sizeLine ∧ Q (.str (x ++ y)) H2
theorem pe_join2 (h1 : PE X e1 t1) (h2 : PE X e2 t2) : PE X (.JoinedStr [e1, e2] pos) (tJoin2 t1 t2) := by
  intro pins s σ H Q I h
  refine JoinedStr_many (joinParts_cons (thn (h1 pins s σ H _ I h) fun v s1 zq411 => zq411.elim fun a zq412 => zq412.elim fun H1 zq413 => zq413.elim fun I1 zq414 => zq414.elim fun r1 zq415 => zq415.elim fun x zq416 => zq416.elim fun ex zq417 => zq417.elim fun hx q1 => ?_))
  subst ex
  obtain ⟨t, rfl⟩ := r1
  show (Str.empty ++ x).length ≤ sizeLine ∧ wpAny _ _ (joinParts (Str.empty ++ x) (eval e2 X.env :: evalEach [] X.env)) _ _ s1
  rw [str_empty_app]
  refine ⟨hx, joinParts_cons (thn (h2 pins s1 σ H1 _ I1 q1) fun v s2 zq418 => zq418.elim fun b zq419 => zq419.elim fun H2 zq420 => zq420.elim fun I2 zq421 => zq421.elim fun r2 zq422 => zq422.elim fun y zq423 => zq423.elim fun ey zq424 => zq424.elim fun hl q2 => ?_)⟩
  subst ey
  obtain ⟨t', rfl⟩ := r2
  have hz : (x ++ y).length ≤ sizeLine := by rw [len_app]; exact hl
  exact ⟨hz, joinParts_nil ⟨.str (x ++ y), H2, I2.tok _, ⟨_, rfl⟩, q2⟩ hz⟩
end
end L2

set_option Elab.async false
set_option linter.all false
set_option maxRecDepth 100000
set_option maxHeartbeats 4000000

namespace L2
open PySem
/-- a cut whose statement is given in the reading, so that it may speak of what the walk has met -/
theorem pss_cutE {X : Cx} {st : Stmt} {sts : List Stmt} {t u : TS} (h1 : PS X st t) (h2 : PSs X sts u) : PSs X (st :: sts) (fun D σ H => ∃ P : St → Hp → Prop, t { D with nx := P } σ H ∧ ∀ σ' H', P σ' H' → u D σ' H') := by
  intro pins s σ H D I ⟨P, a, b⟩
  exact pss_cut P h1 h2 pins s σ H D I ⟨a, b⟩
end L2

set_option linter.all false
namespace L2
theorem lets2 {t1 t2 : TS} {D : Ends} {σ : St} {H : Hp} (h : let d := D; let s := σ; let u2 := t2; tSeq t1 u2 d s H) : tSeq t1 (t2) D σ H := h
theorem lets3 {t1 t2 t3 : TS} {D : Ends} {σ : St} {H : Hp} (h : let d := D; let s := σ; let u3 := t3; let u2 := tSeq t2 u3; tSeq t1 u2 d s H) : tSeq t1 (tSeq t2 (t3)) D σ H := h
theorem lets4 {t1 t2 t3 t4 : TS} {D : Ends} {σ : St} {H : Hp} (h : let d := D; let s := σ; let u4 := t4; let u3 := tSeq t3 u4; let u2 := tSeq t2 u3; tSeq t1 u2 d s H) : tSeq t1 (tSeq t2 (tSeq t3 (t4))) D σ H := h
theorem lets5 {t1 t2 t3 t4 t5 : TS} {D : Ends} {σ : St} {H : Hp} (h : let d := D; let s := σ; let u5 := t5; let u4 := tSeq t4 u5; let u3 := tSeq t3 u4; let u2 := tSeq t2 u3; tSeq t1 u2 d s H) : tSeq t1 (tSeq t2 (tSeq t3 (tSeq t4 (t5)))) D σ H := h
theorem lets6 {t1 t2 t3 t4 t5 t6 : TS} {D : Ends} {σ : St} {H : Hp} (h : let d := D; let s := σ; let u6 := t6; let u5 := tSeq t5 u6; let u4 := tSeq t4 u5; let u3 := tSeq t3 u4; let u2 := tSeq t2 u3; tSeq t1 u2 d s H) : tSeq t1 (tSeq t2 (tSeq t3 (tSeq t4 (tSeq t5 (t6))))) D σ H := h
theorem lets7 {t1 t2 t3 t4 t5 t6 t7 : TS} {D : Ends} {σ : St} {H : Hp} (h : let d := D; let s := σ; let u7 := t7; let u6 := tSeq t6 u7; let u5 := tSeq t5 u6; let u4 := tSeq t4 u5; let u3 := tSeq t3 u4; let u2 := tSeq t2 u3; tSeq t1 u2 d s H) : tSeq t1 (tSeq t2 (tSeq t3 (tSeq t4 (tSeq t5 (tSeq t6 (t7)))))) D σ H := h
theorem lets8 {t1 t2 t3 t4 t5 t6 t7 t8 : TS} {D : Ends} {σ : St} {H : Hp} (h : let d := D; let s := σ; let u8 := t8; let u7 := tSeq t7 u8; let u6 := tSeq t6 u7; let u5 := tSeq t5 u6; let u4 := tSeq t4 u5; let u3 := tSeq t3 u4; let u2 := tSeq t2 u3; tSeq t1 u2 d s H) : tSeq t1 (tSeq t2 (tSeq t3 (tSeq t4 (tSeq t5 (tSeq t6 (tSeq t7 (t8))))))) D σ H := h
theorem lets9 {t1 t2 t3 t4 t5 t6 t7 t8 t9 : TS} {D : Ends} {σ : St} {H : Hp} (h : let d := D; let s := σ; let u9 := t9; let u8 := tSeq t8 u9; let u7 := tSeq t7 u8; let u6 := tSeq t6 u7; let u5 := tSeq t5 u6; let u4 := tSeq t4 u5; let u3 := tSeq t3 u4; let u2 := tSeq t2 u3; tSeq t1 u2 d s H) : tSeq t1 (tSeq t2 (tSeq t3 (tSeq t4 (tSeq t5 (tSeq t6 (tSeq t7 (tSeq t8 (t9)))))))) D σ H := h
theorem lets1 {t1 : TS} {D : Ends} {σ : St} {H : Hp} (h : let d := D; let s := σ; t1 d s H) : t1 D σ H := h
theorem letX {X : Cx} {b : List PySem.Stmt} {D : Ends} {σ : St} {H : Hp} (h : let x := X; let d := D; ∃ t, PSs x b t ∧ t d σ H) : ∃ t, PSs X b t ∧ t D σ H := h
theorem letG {p : Prop} (h : let T := p; T) : p := h
theorem letB {g : TG} {tb : TS} {E : Ends} {x : V} {σ : St} {H : Hp} (h : let e := E; let s := σ; g x s H fun σ2 H2 => tb e σ2 H2) : g x σ H fun σ2 H2 => tb E σ2 H2 := h
end L2

set_option Elab.async false
set_option linter.all false
set_option maxRecDepth 100000
set_option maxHeartbeats 4000000
namespace K32
open PySem L2
noncomputable def top (i : Nat) : Stmt := PySem.Challenge.pw_parcelmend_k32_own_changes.main.body.getD i (.Pass ⟨0, 0, 0, 0⟩)
noncomputable abbrev sBlk : Stmt := top 2
noncomputable abbrev sAli : Stmt := top 3
noncomputable abbrev sIsA : Stmt := top 4
noncomputable abbrev sTak : Stmt := top 5
noncomputable abbrev sApa : Stmt := top 6
noncomputable abbrev sBot : Stmt := top 7
noncomputable abbrev sPut : Stmt := top 8
noncomputable abbrev sFoC : Stmt := top 22
noncomputable abbrev sPIn : Stmt := inClass (top 13) 0
noncomputable abbrev sSIn : Stmt := inClass (top 14) 0
noncomputable abbrev sSPa : Stmt := inClass (top 14) 3
noncomputable abbrev sPsO : Stmt := top 16
noncomputable abbrev sTIn : Stmt := inClass (top 18) 0
noncomputable abbrev sCCo : Stmt := top 19
noncomputable abbrev sTre : Stmt := top 20
noncomputable abbrev sBro : Stmt := top 21
noncomputable abbrev sCom : Stmt := top 23
noncomputable abbrev sCel : Stmt := top 26
noncomputable abbrev sMix : Stmt := top 27
noncomputable abbrev sNam : Stmt := top 28
noncomputable abbrev sLin : Stmt := top 29
noncomputable abbrev sLis : Stmt := top 30
noncomputable abbrev sPat : Stmt := top 31
noncomputable abbrev sMak : Stmt := top 32
noncomputable abbrev sPAp : Stmt := top 33
noncomputable abbrev sCho : Stmt := top 34
noncomputable abbrev sLBr : Stmt := top 35
noncomputable abbrev sRow : Stmt := top 36
noncomputable abbrev sOwn : Stmt := top 37
noncomputable abbrev sLaw : Stmt := top 38
/-- the names of the built-ins are free at the top -/
structure Blt (mg : Str → Option Value) : Prop where
  range : mg "range" = none
  len : mg "len" = none
  min : mg "min" = none
  list : mg "list" = none
  dict : mg "dict" = none
  set : mg "set" = none
  sorted : mg "sorted" = none
  isinstance : mg "isinstance" = none
  str : mg "str" = none
theorem str_at {x : Str} (ok : TxtOk x) {r : Int} (h0 : 0 ≤ r) (h1 : r < x.length) : ∃ c, atI x.cps.toList r = some c ∧ c < 0x110000 := by
  obtain ⟨n, rfl⟩ : ∃ n : Nat, r = n := ⟨r.toNat, by omega⟩
  have hn : n < x.cps.toList.length := by
    have : x.cps.toList.length = x.length := by simp [Str.length]
    omega
  exact ⟨_, atI_nat (List.getElem?_eq_getElem hn), txtOk_iff.mp ok _ (List.getElem_mem hn)⟩
noncomputable def abcS : Str := "abcdefghijklmnopqrstuvwxyz"
theorem abc_ok : TxtOk abcS := by decide +kernel
theorem abc_len : abcS.length = 26 := by decide +kernel
theorem abc_at (n : Int) : ∃ c, atI abcS.cps.toList (n % 26) = some c ∧ c < 0x110000 := str_at abc_ok (by omega) (by rw [abc_len]; omega)
/-- no point in it -/
noncomputable def NoDot (x : Str) : Prop := 46 ∉ x.cps.toList
theorem abc_dot {n : Int} {c : Nat} (h : atI abcS.cps.toList n = some c) : c ≠ 46 := by
  obtain ⟨j, _, hj, _⟩ := atI_get h
  have : ∀ c ∈ abcS.cps.toList, c ≠ 46 := by decide +kernel
  exact this c (List.mem_of_getElem? hj)
theorem noDot_app {x y : Str} (hx : NoDot x) (hy : NoDot y) : NoDot (x ++ y) := by
  unfold NoDot at *
  show 46 ∉ (x.cps ++ y.cps).toList
  rw [Array.toList_append, List.mem_append, not_or]
  exact ⟨hx, hy⟩
theorem noDot_one {c : Nat} (h : c ≠ 46) : NoDot ⟨#[c]⟩ := by
  unfold NoDot
  simpa using h.symm
theorem noDot_own {x y : Str} (h : NoDot x) : x ≠ y ++ Str.ofString ".own" := by
  intro e
  unfold NoDot at h
  rw [e] at h
  refine h ?_
  show 46 ∈ (y.cps ++ (Str.ofString ".own").cps).toList
  rw [Array.toList_append, List.mem_append]
  exact .inr (by decide +kernel)
noncomputable def someS : Str := " !\"#$&'()*+,-./0123456789:;<=>?@ABCDEFGHIJKLMNOPQRSTUVWXYZ[\\]^_`"
noncomputable def restS : Str := "abcdefghijklmnopqrstuvwxyz{|}~"
theorem some_ok : TxtOk (someS ++ restS) := by decide +kernel
theorem some_len : (someS ++ restS).length = 94 := by decide +kernel
section
variable {P : Program} {w : World} {K : PySem.W.Frag} {mg : Str → Option Value} {base : Heap}

noncomputable def spMix : Sp := fun vs H Q _ => ∃ c k : Int, vs = [.int c, .int k] ∧ ∀ n : Int, Q (.int n) H
theorem scMix : FnScope ["_law_cell", "_law_k", "_law_number"] ["_law_cell", "_law_k"] (defScope sMix) := ⟨rfl, rfl, rfl, by decide +kernel, rfl, by decide +kernel, by decide +kernel⟩
theorem okMix {f : Addr} {fd : FuncData} (F : Fun K "_law_mixed" "_law_mixed" sMix f fd) : FnOk P w K mg base CX0 1 f fd ["_law_cell", "_law_k"] spMix := by
  refine F.ok scMix (fun vs H Q E h => ?_) (fun cdv A outer s H vs Q E hr h => ?_)
  · obtain ⟨c, k, rfl, _⟩ := h
    rfl
  · refine letX ?_
    intro xX dX
    obtain ⟨c, k, rfl, q⟩ := h
    refine ⟨_, (pss_cons (ps_set (i := 2) scMix.nd rfl (Or.inl rfl) (pe_op op_mod (pe_op op_mul (pe_op op_add (pe_op op_add (pe_op op_mod (pv 0) pe_int) (pe_op op_mul pe_int (pv 1))) pe_int) pe_int) pe_int))
        (pss_one (ps_ret (pe_op op_mod (pe_op op_mul (pv 2) (pe_op op_add (pe_op op_fdiv (pv 2) pe_int) pe_int)) pe_int)))), ?_⟩
    refine lets2 ?_
    intro dD sS uU2
    refine ⟨_, rfl, _, _, rfl, rfl, (by show (0 : Int) < 2147483647; decide), _, rfl, _, _, rfl, rfl, .inl ⟨by omega, by omega⟩, _, _, rfl, rfl, _, _, rfl, rfl, _, _, rfl, rfl, .inr ⟨by omega, by omega⟩, _, _, rfl, rfl, (by show (0 : Int) < 2147483647; decide), ?_⟩
    refine ⟨_, rfl, _, rfl, _, _, rfl, rfl, ⟨by omega, by omega⟩, _, _, rfl, rfl, _, _, rfl, rfl, .inl ⟨by omega, by omega⟩, _, _, rfl, rfl, (by show (0 : Int) < 2147483647; decide), ?_⟩
    exact q _

noncomputable def spCel (K : PySem.W.Frag) : Sp := fun vs H Q _ => ∃ (a : Addr) (k : Int) (ns : List Int), vs = [.ref a, .int k] ∧ 0 ≤ k ∧ SqL K H a (ns.map V.int) ∧ ∀ n : Int, Q (.int n) H
theorem scCel : FnScope ["_law_script", "_law_k"] ["_law_script", "_law_k"] (defScope sCel) := ⟨rfl, rfl, rfl, by decide +kernel, rfl, by decide +kernel, by decide +kernel⟩
theorem okCel {f : Addr} {fd : FuncData} (F : Fun K "_law_cell_at" "_law_cell_at" sCel f fd) (B : Blt mg) : FnOk P w K mg base CX0 1 f fd ["_law_script", "_law_k"] (spCel K) := by
  refine F.ok scCel (fun vs H Q E h => ?_) (fun cdv A outer s H vs Q E hr h => ?_)
  · obtain ⟨a, k, ns, rfl, _⟩ := h
    rfl
  · refine letX ?_
    intro xX dX
    obtain ⟨a, k, ns, rfl, k0, hA, q⟩ := h
    refine ⟨_, (pss_cons (ps_if (pt_cmpR op_lt (pv 1) (pe_callB call_len_seq (by rfl) B.len PySem.boot_len (pa_cons (pv 0) pa_nil)) (nomark _))
        (pss_one (ps_ret (pe_ix ix_list (pv 0) (pv 1) (fun _ _ => rfl)))) pss_nil)
        (pss_one (ps_ret pe_int))), ?_⟩
    refine lets2 ?_
    intro dD sS uU2
    refine ⟨_, rfl, _, rfl, a, _, rfl, .inl hA, _, _, rfl, rfl, _, rfl, ?_⟩
    refine ite2 (fun h => ?_) (fun h => ?_)
    · have h' := of_decide_eq_true h
      rw [List.length_map] at h'
      obtain ⟨z, hz, _⟩ := atI_ints (ns := ns) (r := k) k0 h'
      exact ⟨_, rfl, _, rfl, a, _, _, _, rfl, rfl, hA, hz, q z⟩
    · exact q 0

noncomputable def spNam : Sp := fun vs H Q _ => ∃ c p : Int, vs = [.int c, .int p] ∧ ∀ x H', Ln x → Same H H' → Q (.str x) H'
theorem scNam : FnScope ["_law_cell", "_law_p", "_law_some", "_law_body", "_law_at"] ["_law_cell", "_law_p"] (defScope sNam) := ⟨rfl, rfl, rfl, by decide +kernel, rfl, by decide +kernel, by decide +kernel⟩
theorem okNam {f : Addr} {fd : FuncData} (F : Fun K "_law_name" "_law_name" sNam f fd) (B : Blt mg) : FnOk P w K mg base CX0 1 f fd ["_law_cell", "_law_p"] spNam := by
  refine F.ok scNam (fun vs H Q E h => ?_) (fun cdv A outer s H vs Q E hr h => ?_)
  · obtain ⟨c, p, rfl, _⟩ := h
    rfl
  · refine letX ?_
    intro xX dX
    obtain ⟨c, p, rfl, q⟩ := h
    refine ⟨_, (pss_cons (ps_set (i := 2) scNam.nd rfl (Or.inr rfl) pe_str)
        (pss_cut (fun σ H2 => ∃ x : Str, σ = [some (.int c), some (.int p), some (.str abcS), some (.str x), none] ∧ Same H H2 ∧ TxtOk x ∧ x.length ≤ 8) (ps_set (i := 3) scNam.nd rfl (Or.inl rfl) (pe_bm PySem.F.plainAttrs_str PySem.F.slot_str_join PySem.F.type_str_join mt_join pe_str (pa_cons (pe_compF ["_law_k"] ["_law_some", "_law_cell"] [2, 0] ⟨rfl, by decide +kernel, by decide +kernel, by decide +kernel, by decide +kernel, rfl, rfl, rfl⟩ rfl (pi_range1 rfl B.range (pa_cons (pe_op op_mod (pe_op op_fdiv (pv 0) pe_int) pe_int) pa_nil)) (fun _ _ _ _ => (pg_name (i := 0) (show List.Nodup (["_law_k", "_law_some", "_law_cell"] : List Str) by decide +kernel) rfl (Or.inl rfl))) (fun _ _ _ _ => pts_nil) (fun _ _ _ _ => (pe_ix ix_str (pv 1) (pe_op op_mod (pe_op op_fdiv (pv 2) (pe_op op_add pe_int (pe_op op_mul pe_int (pv 0)))) pe_int) (fun _ _ => rfl)))) pa_nil)))
        (pss_cons (ps_set (i := 4) scNam.nd rfl (Or.inl rfl) (pe_op op_mod (pe_op op_fdiv (pv 0) pe_int) (pe_op op_add (pe_callB call_len_str (by rfl) B.len PySem.boot_len (pa_cons (pv 3) pa_nil)) pe_int)))
        (pss_one (ps_ret (pe_op op_add_str (pe_op op_add_str (pe_slice sl_str (pv 3) po_none (po_some (pv 4))) (pe_ix ix_str (pv 2) (pe_op op_mod (pe_op op_add (pv 0) (pv 1)) pe_int) (fun _ _ => rfl))) (pe_slice sl_str (pv 3) (po_some (pv 4)) po_none))))))), ?_⟩
    refine lets2 ?_
    intro dD sS uU2
    refine ⟨?_, ?_⟩
    · refine ⟨rfl, _, rfl, _, _, rfl, rfl, ⟨by omega, by omega⟩, _, _, rfl, rfl, (by show (0 : Int) < 8; decide), c / 3 % 8, rfl, by omega, by omega, ?_⟩
      refine comp_range0 (σ0 := [none, some (.str abcS), some (.int c)]) (fun σ => ∃ v, σ = [v, some (.str abcS), some (.int c)]) (fun i ys _ => ∃ xs : List Str, ys = xs.map V.str ∧ xs.length = i ∧ ∀ x ∈ xs, TxtOk x ∧ x.length ≤ 1) ⟨_, rfl⟩ (fun _ _ => ⟨[], rfl, rfl, fun _ h => nomatch h⟩) ?_ ?_
      · intro D i ys σ H2 k hD hi hQ1 hd hs hQ2 hk
        refine letG ?_
        intro tT
        obtain ⟨v, rfl⟩ := hQ1
        obtain ⟨xs, rfl, hx, hl⟩ := hQ2
        first | (refine letB (g := gName _) ?_; intro eQ sQ) | (refine letB (g := gTup _ _ _) ?_; intro eQ sQ) | skip
        obtain ⟨z, hz, zb⟩ := abc_at (c / (16 + 5 * (0 + (i : Int))))
        refine ⟨_, rfl, _, rfl, _, rfl, _, _, rfl, rfl, .inl ⟨by omega, by omega⟩, _, _, rfl, rfl, _, _, rfl, rfl, ⟨by omega, by omega⟩, _, _, rfl, rfl, (by show (0 : Int) < 26; decide), _, _, z, rfl, rfl, fit1 (by rw [abc_len]; decide), hz, ?_⟩
        refine hk _ _ _ ⟨_, rfl⟩ (Same.refl _) (small1000 (by rw [List.length_map]; omega)) ⟨xs ++ [_], strs_snoc xs _, by rw [List.length_append, hx]; rfl, fun y hy => ?_⟩
        rcases List.mem_append.mp hy with hy | hy
        · exact hl y hy
        · rw [List.mem_singleton.mp hy]
          exact ⟨txtOk_one zb, Nat.le_of_eq (len_one z)⟩
      · intro D ys H2 hD hd hs hQ3
        refine letG ?_
        intro tT
        obtain ⟨xs, rfl, hx, hl⟩ := hQ3
        first | (refine letB (g := gName _) ?_; intro eQ sQ) | (refine letB (g := gTup _ _ _) ?_; intro eQ sQ) | skip
        have hsum := sum_le (b := 1) fun y hy => (hl y hy).2
        have e0 : (Str.ofString "").length = 0 := by decide +kernel
        refine ⟨_, D, xs, rfl, rfl, SqL.of hd, by rw [e0]; omega, ?_⟩
        refine ⟨_, rfl, hs, txtOk_join (by decide +kernel) fun y hy => (hl y hy).1, ?_⟩
        refine Nat.le_trans join_len ?_
        rw [e0]
        omega
    · intro σ' H' hQ4
      refine letG ?_
      intro tT
      obtain ⟨x, rfl, s1, xt, x8⟩ := hQ4
      first | (refine letB (g := gName _) ?_; intro eQ sQ) | (refine letB (g := gTup _ _ _) ?_; intro eQ sQ) | skip
      refine ⟨_, rfl, _, _, rfl, rfl, ⟨by omega, by omega⟩, _, rfl, _, rfl, fit1 (by omega), _, _, rfl, rfl, _, _, rfl, rfl, (by show (0 : Int) < (x.length : Int) + 1; omega), ?_⟩
      obtain ⟨z, hz, zb⟩ := abc_at (c + p)
      have l1 := Txt.slice_le x none (some (c / 7 % ((x.length : Int) + 1)))
      have l2 := Txt.slice_le x (some (c / 7 % ((x.length : Int) + 1))) none
      have l3 : (⟨#[z]⟩ : Str).length = 1 := len_one z
      refine ⟨_, rfl, _, rfl, _, rfl, _, rfl, fit1 (by omega), _, rfl, _, rfl, _, rfl, _, _, rfl, rfl, _, _, rfl, rfl, (by show (0 : Int) < 26; decide), _, _, z, rfl, rfl, fit1 (by rw [abc_len]; decide), hz, _, _, rfl, rfl, fit (by omega) (by omega), _, rfl, _, rfl, _, rfl, _, rfl, fit1 (by omega), _, _, rfl, rfl, fit (by rw [len_app]; omega) (by omega), ?_⟩
      refine q _ _ ⟨txtOk_app (txtOk_app (txtOk_slice xt _ _) (txtOk_one zb)) (txtOk_slice xt _ _), ?_⟩ s1
      rw [len_app, len_app]
      omega

noncomputable def spLin : Sp := fun vs H Q _ => ∃ c : Int, vs = [.int c] ∧ ∀ x H', Ln x → Same H H' → Q (.str x) H'
theorem scLin : FnScope ["_law_number", "_law_some", "_law_many"] ["_law_number"] (defScope sLin) := ⟨rfl, rfl, rfl, by decide +kernel, rfl, by decide +kernel, by decide +kernel⟩
theorem okLin {f : Addr} {fd : FuncData} (F : Fun K "_law_line" "_law_line" sLin f fd) (B : Blt mg) : FnOk P w K mg base CX0 1 f fd ["_law_number"] spLin := by
  refine F.ok scLin (fun vs H Q E h => ?_) (fun cdv A outer s H vs Q E hr h => ?_)
  · obtain ⟨c, rfl, _⟩ := h
    rfl
  · refine letX ?_
    intro xX dX
    obtain ⟨c, rfl, q⟩ := h
    refine ⟨_, (pss_cons (ps_set (i := 1) scLin.nd rfl (Or.inr rfl) pe_str)
        (pss_cons (ps_set (i := 1) scLin.nd rfl (Or.inr rfl) (pe_op op_add_str (pv 1) pe_str))
        (pss_cons (ps_set (i := 2) scLin.nd rfl (Or.inl rfl) (pe_op op_mod (pv 0) pe_int))
        (pss_one (ps_ret (pe_bm PySem.F.plainAttrs_str PySem.F.slot_str_join PySem.F.type_str_join mt_join pe_str (pa_cons (pe_compF ["_law_k"] ["_law_some", "_law_number"] [1, 0] ⟨rfl, by decide +kernel, by decide +kernel, by decide +kernel, by decide +kernel, rfl, rfl, rfl⟩ rfl (pi_range1 rfl B.range (pa_cons (pv 2) pa_nil)) (fun _ _ _ _ => (pg_name (i := 0) (show List.Nodup (["_law_k", "_law_some", "_law_number"] : List Str) by decide +kernel) rfl (Or.inl rfl))) (fun _ _ _ _ => pts_nil) (fun _ _ _ _ => (pe_ix ix_str (pv 1) (pe_op op_mod (pe_op op_fdiv (pv 2) (pe_op op_add pe_int (pe_op op_mul pe_int (pv 0)))) (pe_callB call_len_str (by rfl) B.len PySem.boot_len (pa_cons (pv 1) pa_nil))) (fun _ _ => rfl)))) pa_nil))))))), ?_⟩
    refine lets4 ?_
    intro dD sS uU4 uU3 uU2
    refine ⟨_, rfl, _, _, rfl, rfl, (by show someS.length + restS.length ≤ sizeLine; rw [← len_app, some_len]; decide), ?_⟩
    refine ⟨_, rfl, _, _, rfl, rfl, (by show (0 : Int) < 5; decide), ?_⟩
    refine ⟨rfl, _, rfl, c % 5, rfl, by omega, by omega, ?_⟩
    have e1 : ∀ i : Nat, ∃ z, atI (someS ++ restS).cps.toList (c / (5 + 11 * (0 + (i : Int))) % ((someS ++ restS).length : Int)) = some z ∧ z < 0x110000 := fun i => str_at some_ok (Int.emod_nonneg _ (by rw [some_len]; decide)) (Int.emod_lt_of_pos _ (by rw [some_len]; decide))
    refine comp_range0 (σ0 := [none, some (.str (someS ++ restS)), some (.int c)]) (fun σ => ∃ v, σ = [v, some (.str (someS ++ restS)), some (.int c)]) (fun i ys _ => ∃ xs : List Str, ys = xs.map V.str ∧ xs.length = i ∧ ∀ x ∈ xs, TxtOk x ∧ x.length ≤ 1) ⟨_, rfl⟩ (fun _ _ => ⟨[], rfl, rfl, fun _ h => nomatch h⟩) ?_ ?_
    · intro D i ys σ H2 k hD hi hQ5 hd hs hQ6 hk
      refine letG ?_
      intro tT
      obtain ⟨v, rfl⟩ := hQ5
      obtain ⟨xs, rfl, hx, hl⟩ := hQ6
      first | (refine letB (g := gName _) ?_; intro eQ sQ) | (refine letB (g := gTup _ _ _) ?_; intro eQ sQ) | skip
      obtain ⟨z, hz, zb⟩ := e1 i
      refine ⟨_, rfl, _, rfl, _, rfl, _, _, rfl, rfl, .inl ⟨by omega, by omega⟩, _, _, rfl, rfl, _, _, rfl, rfl, ⟨by omega, by omega⟩, _, rfl, _, rfl, fit1 (by rw [some_len]; decide), _, _, rfl, rfl, (by show (0 : Int) < ((someS ++ restS).length : Int); rw [some_len]; decide), _, _, z, rfl, rfl, fit1 (by rw [some_len]; decide), hz, ?_⟩
      refine hk _ _ _ ⟨_, rfl⟩ (Same.refl _) (small1000 (by rw [List.length_map]; omega)) ⟨xs ++ [_], strs_snoc xs _, by rw [List.length_append, hx]; rfl, fun y hy => ?_⟩
      rcases List.mem_append.mp hy with hy | hy
      · exact hl y hy
      · rw [List.mem_singleton.mp hy]
        exact ⟨txtOk_one zb, Nat.le_of_eq (len_one z)⟩
    · intro D ys H2 hD hd hs hQ7
      refine letG ?_
      intro tT
      obtain ⟨xs, rfl, hx, hl⟩ := hQ7
      first | (refine letB (g := gName _) ?_; intro eQ sQ) | (refine letB (g := gTup _ _ _) ?_; intro eQ sQ) | skip
      have hsum := sum_le (b := 1) fun y hy => (hl y hy).2
      have e0 : (Str.ofString "").length = 0 := by decide +kernel
      refine ⟨_, D, xs, rfl, rfl, SqL.of hd, by rw [e0]; omega, ?_⟩
      refine q _ _ ⟨txtOk_join (by decide +kernel) fun y hy => (hl y hy).1, ?_⟩ hs
      refine Nat.le_trans join_len ?_
      rw [e0]
      omega

noncomputable def spLis : Sp := fun vs H Q _ => ∃ c : Int, vs = [.int c] ∧ ∀ l H' xs, H l = none → Same H H' → H' l = some (.lst (xs.map V.str)) → Lns xs → xs.length ≤ 4 → Q (.ref l) H'
theorem scLis : FnScope ["_law_number", "_law_some"] ["_law_number"] (defScope sLis) := ⟨rfl, rfl, rfl, by decide +kernel, rfl, by decide +kernel, by decide +kernel⟩
theorem okLis {f fMix fLin : Addr} {fd fdMix fdLin : FuncData} (F : Fun K "_law_lines" "_law_lines" sLis f fd) (B : Blt mg) (FMix : Fun K "_law_mixed" "_law_mixed" sMix fMix fdMix) (mMix : mg "_law_mixed" = some (.ref fMix)) (FLin : Fun K "_law_line" "_law_line" sLin fLin fdLin) (mLin : mg "_law_line" = some (.ref fLin)) :
    FnOk P w K mg base CX0 2 f fd ["_law_number"] spLis := by
  have GMix : FnOk P w K mg base CX0 1 fMix fdMix ["_law_cell", "_law_k"] spMix := okMix FMix
  have bMix := FMix.binds2 (l := ["_law_cell", "_law_k"]) (fun _ _ _ _ _ _ _ _ => rfl)
  have GLin : FnOk P w K mg base CX0 1 fLin fdLin ["_law_number"] spLin := okLin FLin B
  have bLin := FLin.binds1 (l := ["_law_number"]) (fun _ _ _ _ _ _ _ => rfl)
  refine F.ok scLis (fun vs H Q E h => ?_) (fun cdv A outer s H vs Q E hr h => ?_)
  · obtain ⟨c, rfl, _⟩ := h
    rfl
  · refine letX ?_
    intro xX dX
    obtain ⟨c, rfl, q⟩ := h
    refine ⟨_, (pss_cons (ps_set (i := 1) scLis.nd rfl (Or.inr rfl) (pe_op op_add pe_int (pe_op op_mul pe_int (pe_op op_mod (pv 0) pe_int))))
        (pss_one (ps_ret (pe_compF ["_law_k"] ["_law_some", "_law_number"] [1, 0] ⟨rfl, by decide +kernel, by decide +kernel, by decide +kernel, by decide +kernel, rfl, rfl, rfl⟩ rfl (pi_range1 rfl B.range (pa_cons (pe_op op_mod (pv 0) pe_int) pa_nil)) (fun _ _ _ _ => (pg_name (i := 0) (show List.Nodup (["_law_k", "_law_some", "_law_number"] : List Str) by decide +kernel) rfl (Or.inl rfl))) (fun _ _ _ _ => pts_nil) (fun _ _ _ _ => (pe_call GLin hr rfl mLin FLin.kp bLin .nil pass0 (pa_cons (pe_op op_mod (pe_call GMix hr rfl mMix FMix.kp bMix .nil pass0 (pa_cons (pe_op op_fdiv (pv 2) pe_int) (pa_cons (pv 0) pa_nil))) (pv 1)) pa_nil))))))), ?_⟩
    refine lets2 ?_
    intro dD sS uU2
    refine ⟨_, rfl, _, _, rfl, rfl, (by show (0 : Int) < 3; decide), _, _, rfl, rfl, .inl ⟨by omega, by omega⟩, _, _, rfl, rfl, ?_⟩
    refine ⟨_, rfl, _, _, rfl, rfl, (by show (0 : Int) < 5; decide), c % 5, rfl, by omega, by omega, ?_⟩
    refine comp_range0 (σ0 := [none, some (.int (40 + 900 * (c % 3))), some (.int c)]) (fun σ => ∃ v, σ = [v, some (.int (40 + 900 * (c % 3))), some (.int c)]) (fun i ys _ => ∃ xs : List Str, ys = xs.map V.str ∧ xs.length = i ∧ ∀ x ∈ xs, Ln x) ⟨_, rfl⟩ (fun _ _ => ⟨[], rfl, rfl, fun _ h => nomatch h⟩) ?_ ?_
    · intro D i ys σ H2 k hD hi hQ8 hd hs hQ9 hk
      refine letG ?_
      intro tT
      obtain ⟨v, rfl⟩ := hQ8
      obtain ⟨xs, rfl, hx, hl⟩ := hQ9
      first | (refine letB (g := gName _) ?_; intro eQ sQ) | (refine letB (g := gTup _ _ _) ?_; intro eQ sQ) | skip
      refine ⟨_, rfl, _, _, rfl, rfl, ⟨by omega, by omega⟩, _, rfl, _, _, rfl, fun n => ?_⟩
      refine ⟨_, rfl, _, _, rfl, rfl, (by show (0 : Int) < 40 + 900 * (c % 3); omega), _, rfl, fun x H3 lx s3 => ?_⟩
      exact hk _ _ _ ⟨_, rfl⟩ s3 (small1000 (by rw [List.length_map]; omega)) ⟨xs ++ [x], strs_snoc xs x, by rw [List.length_append, hx]; rfl, Lns.app_mem hl (fun y hy => by rw [List.mem_singleton.mp hy]; exact lx)⟩
    · intro D ys H2 hD hd hs hQ10
      refine letG ?_
      intro tT
      obtain ⟨xs, rfl, hx, hl⟩ := hQ10
      exact q D H2 xs hD hs hd ⟨by omega, hl⟩ (by omega)

noncomputable def spPat : Sp := fun vs H Q _ => ∃ c : Int, vs = [.int c] ∧ ∀ x H', Ln x → NoDot x → Same H H' → Q (.str x) H'
theorem scPat : FnScope ["_law_number", "_law_some", "_law_way"] ["_law_number"] (defScope sPat) := ⟨rfl, rfl, rfl, by decide +kernel, rfl, by decide +kernel, by decide +kernel⟩
noncomputable def fourS : List Str := ["a", "a/b", "conf/ed/three/four", "zz"]
theorem four_ok : ∀ x ∈ fourS, Ln x := by
  have h : fourS.all (fun x => PyData.strOk x && decide (x.length ≤ 60)) = true := by decide +kernel
  exact fun x hx => lnOk_of (List.all_eq_true.mp h x hx)
theorem four_dot : ∀ x ∈ fourS, NoDot x := by
  unfold NoDot
  decide +kernel
theorem okPat {f : Addr} {fd : FuncData} (F : Fun K "_law_path" "_law_path" sPat f fd) : FnOk P w K mg base CX0 1 f fd ["_law_number"] spPat := by
  refine F.ok scPat (fun vs H Q E h => ?_) (fun cdv A outer s H vs Q E hr h => ?_)
  · obtain ⟨c, rfl, _⟩ := h
    rfl
  · refine letX ?_
    intro xX dX
    obtain ⟨c, rfl, q⟩ := h
    refine ⟨_, (pss_cons (ps_set (i := 1) scPat.nd rfl (Or.inl rfl) pe_str)
        (pss_cons (ps_set (i := 2) scPat.nd rfl (Or.inl rfl) (pe_op op_mod (pv 0) pe_int))
        (pss_cons (ps_if (pt_cmpR op_eq (pv 2) pe_int (nomark _))
        (pss_one (ps_ret (pe_op op_add_str (pe_op op_add_str (pe_ix ix_str (pv 1) (pe_op op_mod (pe_op op_fdiv (pv 0) pe_int) pe_int) (fun _ _ => rfl)) pe_str) (pe_ix ix_str (pv 1) (pe_op op_mod (pe_op op_fdiv (pv 0) pe_int) pe_int) (fun _ _ => rfl))))) pss_nil)
        (pss_one (ps_ret (pe_ix ix_list (pe_lstN (pa_cons pe_str (pa_cons pe_str (pa_cons pe_str (pa_cons pe_str pa_nil))))) (pv 2) (fun _ _ => rfl))))))), ?_⟩
    refine lets4 ?_
    intro dD sS uU4 uU3 uU2
    refine ⟨_, rfl, _, _, rfl, rfl, (by show (0 : Int) < 5; decide), ?_⟩
    refine ⟨_, rfl, rfl, _, rfl, ?_⟩
    refine ite2 (fun h => ?_) (fun h => ?_)
    · obtain ⟨z, hz, zb⟩ := abc_at (c / 5)
      obtain ⟨y, hy, yb⟩ := abc_at (c / 130)
      have lz : (⟨#[z]⟩ : Str).length = 1 := len_one z
      have ly : (⟨#[y]⟩ : Str).length = 1 := len_one y
      have ls : (Str.ofString "/").length = 1 := by decide +kernel
      refine ⟨_, rfl, _, rfl, _, _, rfl, rfl, ⟨by omega, by omega⟩, _, _, rfl, rfl, (by show (0 : Int) < 26; decide), _, _, z, rfl, rfl, fit1 (by rw [show (Str.ofString "abcdefghijklmnopqrstuvwxyz").length = 26 from abc_len]; decide), hz, _, _, rfl, rfl, fit (by omega) (by omega), _, rfl, _, rfl, _, _, rfl, rfl, ⟨by omega, by omega⟩, _, _, rfl, rfl, (by show (0 : Int) < 26; decide), _, _, y, rfl, rfl, fit1 (by rw [show (Str.ofString "abcdefghijklmnopqrstuvwxyz").length = 26 from abc_len]; decide), hy, _, _, rfl, rfl, fit (by rw [len_app]; omega) (by omega), ?_⟩
      refine q _ _ ⟨txtOk_app (txtOk_app (txtOk_one zb) (by decide +kernel)) (txtOk_one yb), ?_⟩ (noDot_app (noDot_app (noDot_one (abc_dot hz)) (by unfold NoDot; decide +kernel)) (noDot_one (abc_dot hy))) (Same.refl _)
      rw [len_app, len_app]
      omega
    · have h4 : c % 5 ≠ 4 := fun z => h (by show decide (V.int (c % 5) = V.int 4) = true; rw [z]; rfl)
      refine ⟨(by show 4 ≤ sizeLine; decide), fun p1 H1 n1 s1 e1 => ?_⟩
      obtain ⟨z, hz, zm⟩ := atI_strs (xs := fourS) (r := c % 5) (by omega) (by show c % 5 < (4 : Nat); omega)
      exact ⟨_, rfl, p1, _, _, _, rfl, rfl, SqL.of e1, hz, q z H1 (four_ok z (List.mem_of_getElem? zm)) (four_dot z (List.mem_of_getElem? zm)) s1⟩

noncomputable def MakNew (H : Hp) (Q : VK) : Prop := ∀ p H' (ms : List Int), H p = none → Same H H' → H' p = some (.tup (ms.map V.int)) → Q (.ref p) H'
noncomputable def spMak : Sp := fun vs H Q _ => ∃ c : Int, vs = [.int c] ∧ MakNew H Q
theorem scMak : FnScope ["_law_number"] ["_law_number"] (defScope sMak) := ⟨rfl, rfl, rfl, by decide +kernel, rfl, by decide +kernel, by decide +kernel⟩
theorem okMak {f : Addr} {fd : FuncData} (F : Fun K "_law_make" "_law_make" sMak f fd) : FnOk P w K mg base CX0 1 f fd ["_law_number"] spMak := by
  refine F.ok scMak (fun vs H Q E h => ?_) (fun cdv A outer s H vs Q E hr h => ?_)
  · obtain ⟨c, rfl, _⟩ := h
    rfl
  · refine letX ?_
    intro xX dX
    obtain ⟨c, rfl, q⟩ := h
    refine ⟨_, (pss_cons (ps_if (pt_cmpR op_eq (pe_op op_mod (pv 0) pe_int) pe_int (nomark _))
        (pss_one (ps_ret (pe_tupN (pa_cons (pe_op op_add pe_int (pe_op op_mod (pe_op op_fdiv (pv 0) pe_int) pe_int)) pa_nil)))) pss_nil)
        (pss_cons (ps_if (pt_cmpR op_eq (pe_op op_mod (pv 0) pe_int) pe_int (nomark _))
        (pss_one (ps_ret (pe_tupN (pa_cons pe_int (pa_cons (pe_op op_mod (pe_op op_fdiv (pv 0) pe_int) pe_int) pa_nil))))) pss_nil)
        (pss_cons (ps_if (pt_cmpR op_eq (pe_op op_mod (pv 0) pe_int) pe_int (nomark _))
        (pss_one (ps_ret (pe_tupN (pa_cons pe_int (pa_cons pe_int (pa_cons (pe_op op_mod (pe_op op_fdiv (pv 0) pe_int) (pe_op op_pow pe_int pe_int)) pa_nil)))))) pss_nil)
        (pss_one (ps_ret (pe_tupN (pa_cons (pe_op op_mod (pe_op op_fdiv (pv 0) pe_int) (pe_op op_pow pe_int pe_int)) pa_nil))))))), ?_⟩
    refine lets4 ?_
    intro dD sS uU4 uU3 uU2
    refine ⟨_, rfl, _, _, rfl, rfl, (by show (0 : Int) < 4; decide), rfl, _, rfl, ?_⟩
    refine ite2 (fun h => ?_) (fun h => ?_)
    · refine ⟨_, rfl, _, _, rfl, rfl, ⟨by omega, by omega⟩, _, _, rfl, rfl, (by show (0 : Int) < 3; decide), _, _, rfl, rfl, (by show 1 ≤ sizeLine; decide), fun p1 H1 n1 s1 e1 => ?_⟩
      exact q p1 H1 [_] n1 s1 e1
    refine ⟨_, rfl, _, _, rfl, rfl, (by show (0 : Int) < 4; decide), rfl, _, rfl, ?_⟩
    refine ite2 (fun h => ?_) (fun h => ?_)
    · refine ⟨_, rfl, _, _, rfl, rfl, ⟨by omega, by omega⟩, _, _, rfl, rfl, (by show (0 : Int) < 3; decide), (by show 2 ≤ sizeLine; decide), fun p2 H2 n2 s2 e2 => ?_⟩
      exact q p2 H2 [_, _] n2 s2 e2
    refine ⟨_, rfl, _, _, rfl, rfl, (by show (0 : Int) < 4; decide), rfl, _, rfl, ?_⟩
    refine ite2 (fun h => ?_) (fun h => ?_)
    · refine ⟨_, rfl, _, _, rfl, rfl, ⟨by omega, by omega⟩, _, _, rfl, rfl, ⟨by decide, by decide, by decide⟩, _, _, rfl, rfl, (by show (0 : Int) < 10 ^ (9 : Int).toNat; decide), (by show 3 ≤ sizeLine; decide), fun p3 H3 n3 s3 e3 => ?_⟩
      exact q p3 H3 [_, _, _] n3 s3 e3
    refine ⟨_, rfl, _, _, rfl, rfl, ⟨by omega, by omega⟩, _, _, rfl, rfl, ⟨by decide, by decide, by decide⟩, _, _, rfl, rfl, (by show (0 : Int) < 10 ^ (9 : Int).toNat; decide), (by show 1 ≤ sizeLine; decide), fun p4 H4 n4 s4 e4 => ?_⟩
    exact q p4 H4 [_] n4 s4 e4
end
end K32

set_option Elab.async false
set_option linter.all false
set_option maxRecDepth 100000
set_option maxHeartbeats 4000000
namespace K32
open PySem L2
/-- what the walk asks of the class -/
structure Txt (K : PySem.W.Frag) (mg : Str → Option Value) (C : Addr) : Prop where
  cl : Cls K C
  nN : NoAttr K C "name"
  nM : NoAttr K C "make"
  nR : NoAttr K C "rank"
  nF : NoAttr K C "files"
  nE : NoAttr K C "needs"
  nS : NoAttr K C "shuts"
  nO : NoAttr K C "offers"
  mgC : mg "Parcel" = some (.ref C)
/-- the fields of a parcel -/
structure Flds (fl : List (Str × V)) (nm mk rk : V) (pf pn ps po : Addr) : Prop where
  name : fl.lookup ("name" : Str) = some nm
  make : fl.lookup ("make" : Str) = some mk
  rank : fl.lookup ("rank" : Str) = some rk
  files : fl.lookup ("files" : Str) = some (.ref pf)
  needs : fl.lookup ("needs" : Str) = some (.ref pn)
  shuts : fl.lookup ("shuts" : Str) = some (.ref ps)
  offers : fl.lookup ("offers" : Str) = some (.ref po)
noncomputable def fl7 (nm mk rk : V) (pf pn ps po : Addr) : List (Str × V) := putF "offers" (.ref po) (putF "shuts" (.ref ps) (putF "needs" (.ref pn) (putF "files" (.ref pf) (putF "rank" rk (putF "make" mk (putF "name" nm []))))))
theorem flds7 (nm mk rk : V) (pf pn ps po : Addr) : Flds (fl7 nm mk rk pf pn ps po) nm mk rk pf pn ps po := by
  unfold fl7
  constructor
  · rw [lookup_putF, if_neg (by decide +kernel), lookup_putF, if_neg (by decide +kernel), lookup_putF, if_neg (by decide +kernel), lookup_putF, if_neg (by decide +kernel), lookup_putF, if_neg (by decide +kernel), lookup_putF, if_neg (by decide +kernel), lookup_putF, if_pos rfl]
  · rw [lookup_putF, if_neg (by decide +kernel), lookup_putF, if_neg (by decide +kernel), lookup_putF, if_neg (by decide +kernel), lookup_putF, if_neg (by decide +kernel), lookup_putF, if_neg (by decide +kernel), lookup_putF, if_pos rfl]
  · rw [lookup_putF, if_neg (by decide +kernel), lookup_putF, if_neg (by decide +kernel), lookup_putF, if_neg (by decide +kernel), lookup_putF, if_neg (by decide +kernel), lookup_putF, if_pos rfl]
  · rw [lookup_putF, if_neg (by decide +kernel), lookup_putF, if_neg (by decide +kernel), lookup_putF, if_neg (by decide +kernel), lookup_putF, if_pos rfl]
  · rw [lookup_putF, if_neg (by decide +kernel), lookup_putF, if_neg (by decide +kernel), lookup_putF, if_pos rfl]
  · rw [lookup_putF, if_neg (by decide +kernel), lookup_putF, if_pos rfl]
  · rw [lookup_putF, if_pos rfl]
section
variable {P : Program} {w : World} {K : PySem.W.Frag} {mg : Str → Option Value} {base : Heap}
/-! ### a parcel is made -/
/-- the files handed in: each a path and lines -/
structure FilesAt (K : PySem.W.Frag) (H : Hp) (xs : List V) (fs : List (V × List V)) : Prop where
  len : xs.length = fs.length
  item : ∀ (i : Nat) (p : V) (ls : List V), fs[i]? = some (p, ls) → ∃ t l, xs[i]? = some (.ref t) ∧ SqT K H t [p, .ref l] ∧ SqL K H l ls
/-- the parcel's own: new things of the same content -/
structure FilesNew (H H' : Hp) (D : Addr) (xs : List V) (fs : List (V × List V)) (k : Nat) : Prop where
  len : xs.length = k
  item : ∀ (i : Nat) (p : V) (ls : List V), i < k → fs[i]? = some (p, ls) → ∃ t l, xs[i]? = some (.ref t) ∧ H t = none ∧ H l = none ∧ t ≠ D ∧ l ≠ D ∧ H' t = some (.tup [p, .ref l]) ∧ H' l = some (.lst ls)
noncomputable def filesComp : Expr := match (defBody sPIn).getD 3 (.Pass ⟨0, 0, 0, 0⟩) with
  | .Assign _ e _ => e
  | _ => .Constant .none 0 ⟨0, 0, 0, 0⟩
noncomputable def filesScope : Scope := match filesComp with
  | .ListComp _ _ sc _ => sc
  | _ => { kind := .function, names := [], isGenerator := false, isCoroutine := false }
noncomputable def filesElt : Expr := match filesComp with
  | .ListComp e _ _ _ => e
  | _ => .Constant .none 0 ⟨0, 0, 0, 0⟩
noncomputable def filesTg : Expr := match filesComp with
  | .ListComp _ [⟨t, _, _, _⟩] _ _ => t
  | _ => .Constant .none 0 ⟨0, 0, 0, 0⟩
noncomputable def filesIter : Expr := match filesComp with
  | .ListComp _ [⟨_, t, _, _⟩] _ _ => t
  | _ => .Constant .none 0 ⟨0, 0, 0, 0⟩
theorem scFiles {X : Cx} : CompScopeF X ["path", "lines"] [] [] filesScope := ⟨rfl, by decide +kernel, by decide +kernel, by decide +kernel, by decide +kernel, rfl, rfl, rfl⟩
noncomputable def rListOf (K : PySem.W.Frag) : List V → Hp → VK → Prop := fun xs H Q => ∃ p ys, xs = [.ref p] ∧ (SqL K H p ys ∨ SqT K H p ys) ∧ ∀ l, H l = none → Q (.ref l) (upd H l (.lst ys))
theorem filesG {X : Cx} (hc : X.calm = true) (s₀ : Shared) (H₀ : Hp) (C₀ : Addr) (ex : List Addr) : PG (cxCompF X ((["path", "lines"] : List Str) ++ ([] : List Str)) filesScope s₀ H₀ C₀ ex) filesTg (gTup X.K 2 (gCons (gName 0) (gCons (gName 1) gNil))) :=
  pg_tup (X := cxCompF X ((["path", "lines"] : List Str) ++ ([] : List Str)) filesScope s₀ H₀ C₀ ex) hc (pgs_cons (pg_name (i := 0) (show List.Nodup (["path", "lines"] : List Str) by decide +kernel) rfl (Or.inl rfl)) (pgs_cons (pg_name (i := 1) (show List.Nodup (["path", "lines"] : List Str) by decide +kernel) rfl (Or.inl rfl)) pgs_nil))
theorem filesE {X : Cx} (ti : X.mg "list" = none) (s₀ : Shared) (H₀ : Hp) (C₀ : Addr) (ex : List Addr) : PE (cxCompF X ((["path", "lines"] : List Str) ++ ([] : List Str)) filesScope s₀ H₀ C₀ ex) filesElt (tTup (tCons (tVar 0) (tCons (tCB (rListOf X.K) (tCons (tVar 1) tNil)) tNil))) :=
  pe_tup (X := cxCompF X ((["path", "lines"] : List Str) ++ ([] : List Str)) filesScope s₀ H₀ C₀ ex) (pa_cons (pv 0) (pa_cons (pe_callTy (call_list_of (X := cxCompF X ((["path", "lines"] : List Str) ++ ([] : List Str)) filesScope s₀ H₀ C₀ ex)) (by rfl) ti PyProof.Rows.boot_list (pa_cons (pv 1) pa_nil)) pa_nil))
theorem filesPE {X : Cx} {wi : TI} (hc : X.calm = true) (ti : X.mg "list" = none) (hi : PI X filesTg filesIter wi) : PE X filesComp (tCompF wi 2 [] (gTup X.K 2 (gCons (gName 0) (gCons (gName 1) gNil))) tTrue (tTup (tCons (tVar 0) (tCons (tCB (rListOf X.K) (tCons (tVar 1) tNil)) tNil)))) :=
  pe_compF ["path", "lines"] [] [] (elt := filesElt) (tg := filesTg) (iter := filesIter) (ifs := []) (sc := filesScope) scFiles hc hi (filesG hc) (fun _ _ _ _ => pts_nil) (filesE ti)
theorem scPIn : FnScope ["self", "name", "make", "rank", "files", "needs", "shuts", "offers"] ["self", "name", "make", "rank", "files", "needs", "shuts", "offers"] (defScope sPIn) := ⟨rfl, rfl, rfl, by decide +kernel, rfl, by decide +kernel, by decide +kernel⟩
noncomputable def spPIn (K : PySem.W.Frag) (C : Addr) : Sp := fun vs H Q _ => ∃ (x dx fa na sa oa : Addr) (nm mk rk : V) (xs ns ss os : List V) (fs : List (V × List V)), vs = [.ref x, nm, mk, rk, .ref fa, .ref na, .ref sa, .ref oa] ∧ H x = some (.ins C dx []) ∧
  SqL K H fa xs ∧ FilesAt K H xs fs ∧ SqL K H na ns ∧ SqL K H sa ss ∧ SqL K H oa os ∧ fs.length ≤ 1000 ∧
  ∀ (fl : List (Str × V)) (pf pn ps po : Addr) (xs' : List V) (H' : Hp), Flds fl nm mk rk pf pn ps po → H' x = some (.ins C dx fl) → H pf = none → H pn = none → H ps = none → H po = none →
    H' pf = some (.lst xs') → FilesNew H H' pf xs' fs fs.length → H' pn = some (.lst ns) → H' ps = some (.lst ss) → H' po = some (.lst os) → (∀ b o, H b = some o → b ≠ x → H' b = some o) → Q .non H'
/-- all but the object at x is as it was; what is free was free -/
structure Stage (C dx x : Addr) (H Hk : Hp) (fl : List (Str × V)) : Prop where
  same : ∀ b o, H b = some o → b ≠ x → Hk b = some o
  free : ∀ b, Hk b = none → H b = none
  ob : Hk x = some (.ins C dx fl)
section
variable {C dx x p a : Addr} {H Hk : Hp} {fl fl' : List (Str × V)} {o o' : HO} {xs : List V}
theorem Stage.put (S : Stage C dx x H Hk fl) : Stage C dx x H (upd Hk x (.ins C dx fl')) fl' :=
  ⟨fun b o e hb => by rw [upd_ne hb]; exact S.same b o e hb, fun b e => S.free b (free_upd e).2, upd_same⟩
theorem Stage.lay (S : Stage C dx x H Hk fl) (hp : Hk p = none) : Stage C dx x H (upd Hk p o) fl :=
  ⟨fun b u e hb => by rw [upd_ne (ne_of_none (S.same b u e hb) hp)]; exact S.same b u e hb, fun b e => S.free b (free_upd e).2, by rw [upd_ne (ne_of_none S.ob hp)]; exact S.ob⟩
theorem Stage.sqL (S : Stage C dx x H Hk fl) (hx : H x = some (.ins C dx fl')) (h : SqL K H a xs) : SqL K Hk a xs := by
  rcases h with (h | ⟨o, h⟩) | h
  · exact .inl (.inl (S.same _ _ h (ne_of h hx (by intro z; cases z))))
  · exact .inl (.inr ⟨o, S.same _ _ h (ne_of h hx (by intro z; cases z))⟩)
  · exact .inr h
theorem Stage.sqT (S : Stage C dx x H Hk fl) (hx : H x = some (.ins C dx fl')) (h : SqT K H a xs) : SqT K Hk a xs := by
  rcases h with (h | ⟨o, h⟩) | h
  · exact .inl (.inl (S.same _ _ h (ne_of h hx (by intro z; cases z))))
  · exact .inl (.inr ⟨o, S.same _ _ h (ne_of h hx (by intro z; cases z))⟩)
  · exact .inr h
theorem keep_upd (h : Hk a = some o) (n : a ≠ p) : upd Hk p o' a = some o := by rw [upd_ne n]; exact h
theorem lp {f : Str} {v : V} {n : Nat} (h : fl.length ≤ n) : (putF f v fl).length ≤ n + 1 := Nat.le_trans (length_putF _ _ _) (by omega)
theorem few {n : Nat} (h : fl.length ≤ n) (h2 : n < 1000) : fl.length < 1000 := by omega
theorem len0 : ([] : List (Str × V)).length ≤ 0 := Nat.le_refl _
end
theorem filesNew_keep {H Hk Hj : Hp} {D : Addr} {xs : List V} {fs : List (V × List V)} {k : Nat} (fn : FilesNew H Hk D xs fs k) (h : ∀ b o, Hk b = some o → b ≠ D → H b = none → Hj b = some o) : FilesNew H Hj D xs fs k := by
  refine ⟨fn.len, fun i p ls hi hp => ?_⟩
  obtain ⟨t, l, e1, e2, e3, e4, e5, e6, e7⟩ := fn.item i p ls hi hp
  exact ⟨t, l, e1, e2, e3, e4, e5, h t _ e6 e4 e2, h l _ e7 e5 e3⟩
theorem okPIn {f C : Addr} {fd : FuncData} (F : Fun K "__init__" "Parcel.__init__" sPIn f fd) (T : Txt K mg C) (ti : mg "list" = none) :
    FnOk P w K mg base CX0 1 f fd ["self", "name", "make", "rank", "files", "needs", "shuts", "offers"] (spPIn K C) := by
  refine F.ok scPIn (fun vs H Q E h => ?_) (fun cdv A outer s H vs Q E hr h => ?_)
  · obtain ⟨x, dx, fa, na, sa, oa, nm, mk, rk, xs, ns, ss, os, fs, rfl, _⟩ := h
    rfl
  · refine letX ?_
    intro xX dX
    obtain ⟨x, dx, fa, na, sa, oa, nm, mk, rk, xs, ns, ss, os, fs, rfl, hx, hfa, hfs, hna, hsa, hoa, h1000, k⟩ := h
    refine ⟨_, pss_cons (ps_fld (pv 0) (pv 1) rfl) (pss_cons (ps_fld (pv 0) (pv 2) rfl) (pss_cons (ps_fld (pv 0) (pv 3) rfl)
      (pss_cons (ps_fld (pv 0) (filesPE rfl ti (pi_list (pv 4))) rfl)
      (pss_cons (ps_fld (pv 0) (pe_callTy call_list_of (by rfl) ti PyProof.Rows.boot_list (pa_cons (pv 5) pa_nil)) rfl)
      (pss_cons (ps_fld (pv 0) (pe_callTy call_list_of (by rfl) ti PyProof.Rows.boot_list (pa_cons (pv 6) pa_nil)) rfl)
      (pss_one (ps_fld (pv 0) (pe_callTy call_list_of (by rfl) ti PyProof.Rows.boot_list (pa_cons (pv 7) pa_nil)) rfl))))))), ?_⟩
    refine lets7 ?_
    intro dD sS uU7 uU6 uU5 uU4 uU3 uU2
    have S0 : Stage C dx x H H [] := ⟨fun _ _ e _ => e, fun _ e => e, hx⟩
    refine ⟨_, rfl, _, rfl, x, C, dx, _, rfl, S0.ob, T.cl, T.nN, few len0 (by decide), ?_⟩
    have S1 : Stage C dx x H _ (putF "name" nm []) := S0.put
    refine ⟨_, rfl, _, rfl, x, C, dx, _, rfl, S1.ob, T.cl, T.nM, few (lp len0) (by decide), ?_⟩
    have S2 : Stage C dx x H _ (putF "make" mk (putF "name" nm [])) := S1.put
    refine ⟨_, rfl, _, rfl, x, C, dx, _, rfl, S2.ob, T.cl, T.nR, few (lp (lp len0)) (by decide), ?_⟩
    have S3 : Stage C dx x H _ (putF "rank" rk (putF "make" mk (putF "name" nm []))) := S2.put
    generalize upd (upd (upd H x (.ins C dx (putF "name" nm []))) x (.ins C dx (putF "make" mk (putF "name" nm [])))) x (.ins C dx (putF "rank" rk (putF "make" mk (putF "name" nm [])))) = H1 at S3 ⊢
    refine ⟨_, rfl, fa, rfl, ⟨xs, S3.sqL hx hfa⟩, fun D hD => ?_⟩
    refine ⟨fun i m σ H2 => m = xs.length - i ∧ i ≤ xs.length ∧ ∃ (u v : Option V) (ys : List V), σ = [u, v] ∧ H2 D = some (.lst ys) ∧ Same H1 H2 ∧ FilesNew H H2 D ys fs i, ⟨xs.length, by simp, Nat.zero_le _, none, none, [], rfl, upd_same, same_upd hD, rfl, fun i p ls hi => absurd hi (Nat.not_lt_zero _)⟩, ?_⟩
    intro i m σ H2 hQ1
    refine letG ?_
    intro tT
    obtain ⟨rfl, hi, u, v, ys, rfl, hys, s2, fn⟩ := hQ1
    first | (refine letB (g := gName _) ?_; intro eQ sQ) | (refine letB (g := gTup _ _ _) ?_; intro eQ sQ) | skip
    have fa2 : SqL K H2 fa xs := s2.seq (S3.sqL hx hfa)
    by_cases hlt : i < xs.length
    · refine .inr ⟨⟨xs, xs[i], fa2, by simp [hlt]⟩, fun z H3 y => ?_⟩
      obtain ⟨e, y⟩ := y
      subst e
      have ez := y xs fa2
      have hif : i < fs.length := by rw [← hfs.len]; exact hlt
      obtain ⟨⟨p, ls⟩, hpl⟩ : ∃ q, fs[i]? = some q := ⟨fs[i], by simp [hif]⟩
      obtain ⟨t, l, e1, e2, e3⟩ := hfs.item i p ls hpl
      rw [ez] at e1
      cases e1
      have t2 := same_sqT s2 (S3.sqT hx e2)
      have l2 := s2.seq (S3.sqL hx e3)
      refine ⟨t, _, rfl, t2, rfl, _, _, rfl, _, _, rfl, rfl, ?_⟩
      refine ⟨_, rfl, _, rfl, l, _, rfl, .inl l2, fun l' hl' => ⟨(by show 2 ≤ sizeLine; decide), fun t' ht' => ?_⟩⟩
      obtain ⟨n1, n2⟩ := free_upd ht'
      have dl : D ≠ l' := ne_of_none hys hl'
      have dt : D ≠ t' := ne_of_none hys n2
      refine ⟨ys, keep_upd (keep_upd hys dl) dt, small1000 (by rw [fn.len]; omega), xs.length - (i + 1), by omega, rfl, hlt, _, _, ys ++ [.ref t'], rfl, upd_same, ?_, ⟨by rw [List.length_append, fn.len]; rfl, fun j p' ls' hj hp' => ?_⟩⟩
      · exact same_upd' (same_upd' (same_upd' s2 (s2.free hl')) (s2.free n2)) hD
      · by_cases hji : j = i
        · subst hji
          rw [hpl] at hp'
          cases hp'
          refine ⟨t', l', by rw [List.getElem?_append_right (by rw [fn.len]; omega), fn.len]; simp, S3.free _ (s2.free n2), S3.free _ (s2.free hl'), dt.symm, dl.symm, keep_upd upd_same dt.symm, keep_upd (keep_upd upd_same n1.symm) dl.symm⟩
        · have hj' : j < i := by omega
          obtain ⟨t0, l0, g1, g2, g3, g4, g5, g6, g7⟩ := fn.item j p' ls' hj' hp'
          exact ⟨t0, l0, by rw [List.getElem?_append_left (by rw [fn.len]; exact hj')]; exact g1, g2, g3, g4, g5, keep_upd (keep_upd (keep_upd g6 (ne_of_none g6 hl')) (ne_of_none g6 n2)) g4, keep_upd (keep_upd (keep_upd g7 (ne_of_none g7 hl')) (ne_of_none g7 n2)) g5⟩
    · have ei : i = xs.length := by omega
      subst ei
      refine .inl ⟨⟨xs, fa2, Nat.le_refl _⟩, ?_⟩
      have S4 : Stage C dx x H H2 (putF "rank" rk (putF "make" mk (putF "name" nm []))) := ⟨fun b o e hb => s2 b o (S3.same b o e hb), fun b e => S3.free b (s2.free e), s2 _ _ S3.ob⟩
      have dx1 : D ≠ x := ne_of hys S4.ob (by intro z; cases z)
      have hD0 : H D = none := S3.free _ hD
      refine ⟨_, rfl, x, C, dx, _, rfl, S4.ob, T.cl, T.nF, few (lp (lp (lp len0))) (by decide), ?_⟩
      have S5 : Stage C dx x H _ (putF "files" (.ref D) (putF "rank" rk (putF "make" mk (putF "name" nm [])))) := S4.put
      refine ⟨_, rfl, na, _, rfl, .inl (S5.sqL hx hna), fun pn hpn => ?_⟩
      have S6 := S5.lay (o := .lst ns) hpn
      have xpn : pn ≠ x := (ne_of_none S5.ob hpn).symm
      refine ⟨_, rfl, x, C, dx, _, rfl, S6.ob, T.cl, T.nE, few (lp (lp (lp (lp len0)))) (by decide), ?_⟩
      have S7 : Stage C dx x H _ (putF "needs" (.ref pn) (putF "files" (.ref D) (putF "rank" rk (putF "make" mk (putF "name" nm []))))) := S6.put
      refine ⟨_, rfl, sa, _, rfl, .inl (S7.sqL hx hsa), fun ps hps => ?_⟩
      have S8 := S7.lay (o := .lst ss) hps
      have xps : ps ≠ x := (ne_of_none S7.ob hps).symm
      refine ⟨_, rfl, x, C, dx, _, rfl, S8.ob, T.cl, T.nS, few (lp (lp (lp (lp (lp len0))))) (by decide), ?_⟩
      have S9 : Stage C dx x H _ (putF "shuts" (.ref ps) (putF "needs" (.ref pn) (putF "files" (.ref D) (putF "rank" rk (putF "make" mk (putF "name" nm [])))))) := S8.put
      refine ⟨_, rfl, oa, _, rfl, .inl (S9.sqL hx hoa), fun po hpo => ?_⟩
      have S10 := S9.lay (o := .lst os) hpo
      have xpo : po ≠ x := (ne_of_none S9.ob hpo).symm
      refine ⟨_, rfl, x, C, dx, _, rfl, S10.ob, T.cl, T.nO, few (lp (lp (lp (lp (lp (lp len0)))))) (by decide), ?_⟩
      have S11 : Stage C dx x H _ (fl7 nm mk rk D pn ps po) := S10.put
      -- what stood ahead, at another place than x
      have k5 : ∀ b o, H2 b = some o → b ≠ x → (upd H2 x (.ins C dx (putF "files" (.ref D) (putF "rank" rk (putF "make" mk (putF "name" nm [])))))) b = some o := fun b o e hb => keep_upd e hb
      have kp := fun b o (e : H2 b = some o) (hb : b ≠ x) => keep_upd (p := x) (o' := .ins C dx (putF "needs" (.ref pn) (putF "files" (.ref D) (putF "rank" rk (putF "make" mk (putF "name" nm [])))))) (keep_upd (p := pn) (o' := .lst ns) (k5 b o e hb) (ne_of_none (k5 b o e hb) hpn)) hb
      have kq := fun b o (e : H2 b = some o) (hb : b ≠ x) => keep_upd (p := x) (o' := .ins C dx (putF "shuts" (.ref ps) (putF "needs" (.ref pn) (putF "files" (.ref D) (putF "rank" rk (putF "make" mk (putF "name" nm []))))))) (keep_upd (p := ps) (o' := .lst ss) (kp b o e hb) (ne_of_none (kp b o e hb) hps)) hb
      have kr := fun b o (e : H2 b = some o) (hb : b ≠ x) => keep_upd (p := x) (o' := .ins C dx (fl7 nm mk rk D pn ps po)) (keep_upd (p := po) (o' := .lst os) (kq b o e hb) (ne_of_none (kq b o e hb) hpo)) hb
      have pn1 : (upd (upd (upd H2 x (.ins C dx (putF "files" (.ref D) (putF "rank" rk (putF "make" mk (putF "name" nm [])))))) pn (.lst ns)) x (.ins C dx (putF "needs" (.ref pn) (putF "files" (.ref D) (putF "rank" rk (putF "make" mk (putF "name" nm []))))))) pn = some (.lst ns) := keep_upd upd_same xpn
      have pn2 := keep_upd (p := x) (o' := .ins C dx (putF "shuts" (.ref ps) (putF "needs" (.ref pn) (putF "files" (.ref D) (putF "rank" rk (putF "make" mk (putF "name" nm []))))))) (keep_upd (p := ps) (o' := .lst ss) pn1 (ne_of_none pn1 hps)) xpn
      have pn3 := keep_upd (p := x) (o' := .ins C dx (fl7 nm mk rk D pn ps po)) (keep_upd (p := po) (o' := .lst os) pn2 (ne_of_none pn2 hpo)) xpn
      have ps1 := keep_upd (p := x) (o' := .ins C dx (putF "shuts" (.ref ps) (putF "needs" (.ref pn) (putF "files" (.ref D) (putF "rank" rk (putF "make" mk (putF "name" nm []))))))) (upd_same (H := upd (upd (upd H2 x (.ins C dx (putF "files" (.ref D) (putF "rank" rk (putF "make" mk (putF "name" nm [])))))) pn (.lst ns)) x (.ins C dx (putF "needs" (.ref pn) (putF "files" (.ref D) (putF "rank" rk (putF "make" mk (putF "name" nm []))))))) (a := ps) (o := .lst ss)) xps
      have ps2 := keep_upd (p := x) (o' := .ins C dx (fl7 nm mk rk D pn ps po)) (keep_upd (p := po) (o' := .lst os) ps1 (ne_of_none ps1 hpo)) xps
      refine k (fl7 nm mk rk D pn ps po) D pn ps po ys _ (flds7 nm mk rk D pn ps po) S11.ob hD0 (S5.free _ hpn) (S7.free _ hps) (S9.free _ hpo) (kr D _ hys dx1) ?_ pn3 ps2 (keep_upd upd_same xpo) S11.same
      rw [hfs.len] at fn
      exact filesNew_keep fn fun b o e hb hn => kr b o e fun z => by rw [z, hx] at hn; cases hn

/-! ### parcels as they stand in the heap -/
end
structure Pcl where
  nm : Str
  ms : List Int
  fs : List (Str × List Str)
  os : List V
noncomputable def FileH (H : Hp) (v : V) (f : Str × List Str) : Prop := ∃ t l, v = .ref t ∧ H t = some (.tup [.str f.1, .ref l]) ∧ H l = some (.lst (f.2.map V.str))
noncomputable def PclAt (C : Addr) (H : Hp) (v : V) (p : Pcl) : Prop := ∃ a dx fl rk m pf pn ps po xs, v = .ref a ∧ H a = some (.ins C dx fl) ∧ Flds fl (.str p.nm) (.ref m) rk pf pn ps po ∧ H m = some (.tup (p.ms.map V.int)) ∧
  H pf = some (.lst xs) ∧ Paired (FileH H) xs p.fs ∧ H po = some (.lst p.os)
theorem FileH.same {H H' : Hp} {v : V} {f : Str × List Str} (s : Same H H') (h : FileH H v f) : FileH H' v f := by
  obtain ⟨t, l, e, a, b⟩ := h
  exact ⟨t, l, e, s _ _ a, s _ _ b⟩
theorem PclAt.same {C : Addr} {H H' : Hp} {v : V} {p : Pcl} (s : Same H H') (h : PclAt C H v p) : PclAt C H' v p := by
  obtain ⟨a, dx, fl, rk, m, pf, pn, ps, po, xs, e, h1, h2, h3, h4, h5, h6⟩ := h
  exact ⟨a, dx, fl, rk, m, pf, pn, ps, po, xs, e, s _ _ h1, h2, s _ _ h3, s _ _ h4, paired_mapP h5 (fun _ _ => FileH.same s), s _ _ h6⟩
noncomputable abbrev PclsAt (C : Addr) (H : Hp) : List V → List Pcl → Prop := Paired (PclAt C H)
theorem PclsAt.same {C : Addr} {H H' : Hp} {vs : List V} {ps : List Pcl} (s : Same H H') (h : PclsAt C H vs ps) : PclsAt C H' vs ps := paired_mapP h fun _ _ => PclAt.same s
/-- the heap without some places -/
noncomputable def msk (L : List Addr) (H : Hp) : Hp := fun b => if b ∈ L then none else H b
theorem msk_same {L : List Addr} {H : Hp} : Same (msk L H) H := fun b o e => by
  unfold msk at e
  split at e
  · cases e
  · exact e
theorem msk_mono {L : List Addr} {H H' : Hp} (s : Same H H') : Same (msk L H) (msk L H') := fun b o e => by
  unfold msk at e ⊢
  split at e
  · cases e
  · rw [if_neg ‹_›]; exact s _ _ e
theorem msk_upd {L : List Addr} {H : Hp} {p : Addr} {o : HO} (h : p ∈ L) : msk L (upd H p o) = msk L H := by
  funext b
  unfold msk
  split
  · rfl
  · have hb : ¬ b ∈ L := ‹_›
    rw [upd_ne (fun z => hb (by rw [z]; exact h))]
theorem msk_at {L : List Addr} {H : Hp} {b : Addr} {o : HO} (n : b ∉ L) (h : H b = some o) : msk L H b = some o := by
  unfold msk
  rw [if_neg n]
  exact h
theorem msk_less {L L' : List Addr} {H : Hp} (h : ∀ b ∈ L', b ∈ L) : Same (msk L H) (msk L' H) := fun b o e => by
  unfold msk at e ⊢
  split at e
  · cases e
  · rw [if_neg (fun z => ‹¬ b ∈ L› (h b z))]; exact e
/-- places that stand, and are no tuples -/
noncomputable def Busy (H : Hp) (L : List Addr) : Prop := ∀ b ∈ L, ∃ o, H b = some o ∧ ∀ vs, o ≠ .tup vs
theorem Busy.free {H : Hp} {L : List Addr} (h : Busy H L) {b : Addr} (n : H b = none) : b ∉ L := fun z => by
  obtain ⟨o, e, _⟩ := h b z
  rw [n] at e
  cases e
theorem Busy.tup {H : Hp} {L : List Addr} (h : Busy H L) {b : Addr} {vs : List V} (n : H b = some (.tup vs)) : b ∉ L := fun z => by
  obtain ⟨o, e, q⟩ := h b z
  rw [n] at e
  cases e
  exact q _ rfl
theorem paired_get {α β : Type} {F : α → β → Prop} : ∀ {xs : List α} {ys : List β}, Paired F xs ys → ∀ {i : Nat} {y : β}, ys[i]? = some y → ∃ x, xs[i]? = some x ∧ F x y
  | _, _, .nil, i, y, h => by cases h
  | _, _, .cons r t, 0, y, h => by cases h; exact ⟨_, rfl, r⟩
  | _, _, .cons r t, i + 1, y, h => paired_get t (i := i) h
theorem paired_get' {α β : Type} {F : α → β → Prop} : ∀ {xs : List α} {ys : List β}, Paired F xs ys → ∀ {i : Nat} {x : α}, xs[i]? = some x → ∃ y, ys[i]? = some y ∧ F x y
  | _, _, .nil, i, y, h => by cases h
  | _, _, .cons r t, 0, y, h => by cases h; exact ⟨_, rfl, r⟩
  | _, _, .cons r t, i + 1, y, h => paired_get' t (i := i) h
theorem paired_len {α β : Type} {F : α → β → Prop} : ∀ {xs : List α} {ys : List β}, Paired F xs ys → xs.length = ys.length
  | _, _, .nil => rfl
  | _, _, .cons _ t => congrArg (· + 1) (paired_len t)
theorem paired_snoc {α β : Type} {F : α → β → Prop} {x : α} {y : β} (h : F x y) : ∀ {xs : List α} {ys : List β}, Paired F xs ys → Paired F (xs ++ [x]) (ys ++ [y])
  | _, _, .nil => .cons h .nil
  | _, _, .cons r t => .cons r (paired_snoc h t)
theorem paired_of {α β : Type} {F : α → β → Prop} : ∀ {xs : List α} {ys : List β}, xs.length = ys.length → (∀ (i : Nat) (y : β), ys[i]? = some y → ∃ x, xs[i]? = some x ∧ F x y) → Paired F xs ys
  | [], [], _, _ => .nil
  | [], _ :: _, h, _ => nomatch h
  | _ :: _, [], h, _ => nomatch h
  | x :: xs, y :: ys, h, k => by
    obtain ⟨x', e, r⟩ := k 0 y rfl
    cases e
    exact .cons r (paired_of (Nat.succ.inj h) fun i z hz => k (i + 1) z hz)
noncomputable def fsV (fs : List (Str × List Str)) : List (V × List V) := fs.map fun f => (.str f.1, f.2.map V.str)
section
variable {P : Program} {w : World} {K : PySem.W.Frag} {mg : Str → Option Value} {base : Heap}
theorem filesAt_of {H : Hp} {xs : List V} {fs : List (Str × List Str)} (h : Paired (FileH H) xs fs) : FilesAt K H xs (fsV fs) := by
  refine ⟨by rw [fsV, List.length_map]; exact paired_len h, fun i p ls e => ?_⟩
  rw [fsV, List.getElem?_map] at e
  cases hf : fs[i]? with
  | none => rw [hf] at e; cases e
  | some f =>
    rw [hf] at e
    cases e
    obtain ⟨x, hx, t, l, rfl, a, b⟩ := paired_get h hf
    exact ⟨t, l, hx, SqT.of a, SqL.of b⟩
/-- what the maker of a parcel asks, and what it tells -/
theorem make_pcl {C : Addr} {H : Hp} {Q : VK} {E : XK} {nm : Str} {m fa na sa oa : Addr} {mk : List Int} {rk : V} {xs ns ss os : List V} {fs : List (Str × List Str)} (hm : H m = some (.tup (mk.map V.int))) (hf : H fa = some (.lst xs)) (hfs : Paired (FileH H) xs fs)
    (hn : H na = some (.lst ns)) (hs : H sa = some (.lst ss)) (ho : H oa = some (.lst os)) (h1000 : fs.length ≤ 1000) (q : ∀ x H', H x = none → Same H H' → (∀ L, Busy H L → PclAt C (msk L H') (.ref x) ⟨nm, mk, fs, os⟩) → Q (.ref x) H') :
    ∀ x dx, H x = none → H dx = none → dx ≠ x → spPIn K C (.ref x :: ([.str nm, .ref m, rk, .ref fa, .ref na, .ref sa, .ref oa] ++ [])) (upd (upd H dx (.own x)) x (.ins C dx [])) (fun v H2 => v = .non ∧ Q (.ref x) H2) E := by
  intro x dx hx hdx nx
  have s1 : Same H (upd (upd H dx (.own x)) x (.ins C dx [])) := same_upd' (same_upd hdx) hx
  have fl_ : fsV fs = fsV fs := rfl
  have lfs : (fsV fs).length = fs.length := by rw [fsV, List.length_map]
  refine ⟨x, dx, fa, na, sa, oa, .str nm, .ref m, rk, xs, ns, ss, os, fsV fs, rfl, upd_same, SqL.of (s1 _ _ hf), ?_, SqL.of (s1 _ _ hn), SqL.of (s1 _ _ hs), SqL.of (s1 _ _ ho), by rw [lfs]; exact h1000, ?_⟩
  · exact filesAt_of (paired_mapP hfs fun _ _ => FileH.same s1)
  intro fl pf pn ps po xs' H' hF hob n1 n2 n3 n4 hpf hfn hpn hps hpo keep
  have s2 : Same H H' := fun b o e => keep b o (s1 _ _ e) (ne_of_none e hx)
  have fr : ∀ b, (upd (upd H dx (.own x)) x (.ins C dx [])) b = none → H b = none := fun b z => s1.free z
  refine ⟨rfl, q x H' hx s2 fun L hL => ⟨x, dx, fl, rk, m, pf, pn, ps, po, xs', rfl, msk_at (hL.free hx) hob, hF, msk_at (hL.tup hm) (s2 _ _ hm), msk_at (hL.free (fr _ n1)) hpf, ?_, msk_at (hL.free (fr _ n4)) hpo⟩⟩
  refine paired_of (by rw [hfn.len, lfs]) fun i f hi => ?_
  obtain ⟨t, l, e1, e2, e3, e4, e5, e6, e7⟩ := hfn.item i (.str f.1) (f.2.map V.str) (by rw [lfs]; exact (List.getElem?_eq_some_iff.mp hi).1) (by rw [fsV, List.getElem?_map, hi]; rfl)
  exact ⟨_, e1, t, l, rfl, msk_at (hL.free (fr _ e2)) e6, msk_at (hL.free (fr _ e3)) e7⟩

/-! ### the shelf -/
structure TxtS (K : PySem.W.Frag) (mg : Str → Option Value) (S fP : Addr) : Prop where
  cl : Cls K S
  nS : NoAttr K S "shelved"
  mP : Meth K S "parcel" fP
  mgC : mg "Shelf" = some (.ref S)
noncomputable def keyOf (p : Pcl) : List NI := [.inl (.inr p.nm), .inr (p.ms.map Sum.inl)]
theorem nat_key {H : Hp} {b m : Addr} {nm : Str} {mk : List Int} (hb : H b = some (.tup [.str nm, .ref m])) (hm : H m = some (.tup (mk.map V.int))) : NAt H [.inl (.inr nm), .inr (mk.map Sum.inl)] b :=
  ⟨_, hb, .cons rfl (.cons ⟨m, rfl, by rw [hm, List.map_map]; rfl⟩ .nil)⟩
noncomputable def Shelved (kvs : List (List NI × V)) (vs : List V) (ps : List Pcl) (i : Nat) : Prop := kvs.length ≤ i ∧ ∀ (j : Nat) (p : Pcl) (v : V), j < i → ps[j]? = some p → vs[j]? = some v → valV kvs (keyOf p) = some v
noncomputable def ShelfAt (S : Addr) (H : Hp) (v : V) (vs : List V) (ps : List Pcl) : Prop := ∃ a dx fl d kvs, v = .ref a ∧ H a = some (.ins S dx fl) ∧ fl.lookup ("shelved" : Str) = some (.ref d) ∧ fl.lookup ("parcel" : Str) = none ∧ H d = some (.dT kvs) ∧ Shelved kvs vs ps ps.length
theorem ShelfAt.same {S : Addr} {H H' : Hp} {v : V} {vs : List V} {ps : List Pcl} (s : Same H H') (h : ShelfAt S H v vs ps) : ShelfAt S H' v vs ps := by
  obtain ⟨a, dx, fl, d, kvs, e, h1, h2, h3, h4, h5⟩ := h
  exact ⟨a, dx, fl, d, kvs, e, s _ _ h1, h2, h3, s _ _ h4, h5⟩
noncomputable def spSIn (K : PySem.W.Frag) (C S : Addr) : Sp := fun vs H Q _ => ∃ (x dx a : Addr) (xs : List V) (ps : List Pcl), vs = [.ref x, .ref a] ∧ H x = some (.ins S dx []) ∧ H a = some (.lst xs) ∧ PclsAt C H xs ps ∧ ps.length ≤ 100 ∧ (ps.map keyOf).Nodup ∧
  ∀ H', (∀ b o, H b = some o → b ≠ x → H' b = some o) → ShelfAt S H' (.ref x) xs ps → Q .non H'
theorem scSIn : FnScope ["self", "parcels", "parcel"] ["self", "parcels"] (defScope sSIn) := ⟨rfl, rfl, rfl, by decide +kernel, rfl, by decide +kernel, by decide +kernel⟩
theorem okSIn {f C S fP : Addr} {fd : FuncData} (F : Fun K "__init__" "Shelf.__init__" sSIn f fd) (T : Txt K mg C) (U : TxtS K mg S fP) : FnOk P w K mg base CX0 1 f fd ["self", "parcels"] (spSIn K C S) := by
  refine F.ok scSIn (fun vs H Q E h => ?_) (fun cdv A outer s H vs Q E hr h => ?_)
  · obtain ⟨x, dx, a, xs, ps, rfl, _⟩ := h
    rfl
  · refine letX ?_
    intro xX dX
    obtain ⟨x, dx, a, xs, ps, rfl, hx, ha, hps, h100, hnd, q⟩ := h
    have hu := hr.units
    refine ⟨_, (pss_cons (ps_fld (pv 0) pe_dnewTN rfl)
        (pss_one (ps_for PassesOwn.never rfl (pi_list (pv 1)) (pg_name (i := 2) scSIn.nd rfl (Or.inl rfl))
        (pss_one (ps_dput hu (pe_fld (pv 0) rfl) (pe_tupN (pa_cons (pe_fld (pv 2) rfl) (pa_cons (pe_fld (pv 2) rfl) pa_nil))) (pv 2) rfl))))), ?_⟩
    refine lets2 ?_
    intro dD sS uU2
    refine fun d H1 n1 s1 e1 => ?_
    refine ⟨_, rfl, x, S, dx, _, rfl, s1 _ _ hx, U.cl, U.nS, (by decide), ?_⟩
    have dx1 : d ≠ x := (ne_of_none hx n1).symm
    have ax : a ≠ x := ne_of ha hx (by intro z; cases z)
    have nl := paired_len hps
    refine ⟨_, rfl, a, rfl, ⟨_, SqL.of (by rw [upd_ne ax]; exact s1 _ _ ha)⟩, ?_⟩
    refine for_list (xs := xs) (fun i σ H2 => ∃ u kvs, σ = [some (.ref x), some (.ref a), u] ∧ (∀ b o, H b = some o → b ≠ x → H2 b = some o) ∧ H2 x = some (.ins S dx (putF "shelved" (.ref d) [])) ∧ H2 d = some (.dT kvs) ∧ Shelved kvs xs ps i)
      ⟨none, [], rfl, fun b o e hb => by rw [upd_ne hb]; exact s1 _ _ e, upd_same, by rw [upd_ne dx1]; exact e1, Nat.le_refl _, fun j p v hj => absurd hj (Nat.not_lt_zero _)⟩ ?_ ?_ ?_
    · intro i σ H2 hi hQ2
      refine letG ?_
      intro tT
      obtain ⟨u, kvs, rfl, k2, _⟩ := hQ2
      exact SqL.of (k2 _ _ ha ax)
    · intro i v σ H2 hv hQ3
      refine letG ?_
      intro tT
      obtain ⟨u, kvs, rfl, k2, hx2, hd2, hk⟩ := hQ3
      first | (refine letB (g := gName _) ?_; intro eQ sQ) | (refine letB (g := gTup _ _ _) ?_; intro eQ sQ) | skip
      obtain ⟨p, hp, b, dy, fl, rk, m, pf, pn, pss, po, ys, rfl, h1, h2, h3, h4, h5, h6⟩ := paired_get' hps hv
      have bx : b ≠ x := ne_of h1 hx (by intro z; injection z with _ _ z; subst z; have := h2.name; cases this)
      have b2 := k2 _ _ h1 bx
      have m2 := k2 _ _ h3 (ne_of h3 hx (by intro z; cases z))
      have hlk : (putF ("shelved" : Str) (V.ref d) []).lookup ("shelved" : Str) = some (.ref d) := by rw [lookup_putF, if_pos rfl]
      refine ⟨_, rfl, _, rfl, x, S, dx, _, _, rfl, hx2, U.cl, U.nS, hlk, _, rfl, b, C, dy, _, _, rfl, b2, T.cl, T.nN, h2.name, _, rfl, b, C, dy, _, _, rfl, b2, T.cl, T.nM, h2.make, (by show 2 ≤ sizeLine; decide), fun t H3 n3 s3 e3 => ?_⟩
      have hlt := (List.getElem?_eq_some_iff.mp hv).1
      refine ⟨d, _, rfl, DPut.t (s3 _ _ hd2) (nat_key e3 (s3 _ _ m2)) (small1000 (by have := hk.1; omega)), ?_⟩
      refine ⟨_, _, rfl, fun c o e hc => ?_, ?_, upd_same, ?_, fun j p' v' hj hp' hv' => ?_⟩
      · rw [upd_ne (fun z => by rw [z, n1] at e; cases e)]
        exact s3 _ _ (k2 _ _ e hc)
      · rw [upd_ne dx1.symm]
        exact s3 _ _ hx2
      · exact Nat.le_trans (length_putK _ _ _) (Nat.succ_le_succ hk.1)
      · rw [valV_put]
        by_cases hji : j = i
        · subst hji
          rw [hp] at hp'
          rw [hv] at hv'
          cases hp'
          cases hv'
          exact if_pos rfl
        · have hj' : j < i := by omega
          rw [if_neg]
          · exact hk.2 j p' v' hj' hp' hv'
          · intro z
            have z : keyOf p' = keyOf p := z
            refine hji ((List.getElem?_inj (l := ps.map keyOf) (i := j) (j := i) ?_ hnd).mp ?_)
            · rw [List.length_map]; have := (List.getElem?_eq_some_iff.mp hp').1; omega
            · rw [List.getElem?_map, List.getElem?_map, hp, hp', Option.map_some, Option.map_some, z]
    · intro σ H2 hQ4
      refine letG ?_
      intro tT
      obtain ⟨u, kvs, rfl, k2, hx2, hd2, hk⟩ := hQ4
      first | (refine letB (g := gName _) ?_; intro eQ sQ) | (refine letB (g := gTup _ _ _) ?_; intro eQ sQ) | skip
      rw [nl] at hk
      exact q H2 k2 ⟨x, dx, _, d, kvs, rfl, hx2, by rw [lookup_putF, if_pos rfl], by rw [lookup_putF, if_neg (by decide +kernel)]; rfl, hd2, hk⟩
noncomputable def spSPa (K : PySem.W.Frag) (S : Addr) : Sp := fun vs H Q _ => ∃ (sv v : V) (m : Addr) (xs : List V) (ps : List Pcl) (j : Nat) (p : Pcl), vs = [sv, .str p.nm, .ref m] ∧ ShelfAt S H sv xs ps ∧ ps[j]? = some p ∧ xs[j]? = some v ∧ H m = some (.tup (p.ms.map V.int)) ∧ ∀ H', Same H H' → Q v H'
theorem scSPa : FnScope ["self", "name", "make"] ["self", "name", "make"] (defScope sSPa) := ⟨rfl, rfl, rfl, by decide +kernel, rfl, by decide +kernel, by decide +kernel⟩
theorem okSPa {f S fP : Addr} {fd : FuncData} (F : Fun K "parcel" "Shelf.parcel" sSPa f fd) (U : TxtS K mg S fP) : FnOk P w K mg base CX0 1 f fd ["self", "name", "make"] (spSPa K S) := by
  refine F.ok scSPa (fun vs H Q E h => ?_) (fun cdv A outer s H vs Q E hr h => ?_)
  · obtain ⟨sv, v, m, xs, ps, j, p, rfl, _⟩ := h
    rfl
  · refine letX ?_
    intro xX dX
    obtain ⟨sv, v, m, xs, ps, j, p, rfl, ⟨a, dx, fl, d, kvs, rfl, h1, h2, h3, h4, h5⟩, hp, hv, hm, q⟩ := h
    have hu := hr.units
    have hval := h5.2 j p v (List.getElem?_eq_some_iff.mp hp).1 hp hv
    refine ⟨_, (pss_cons (ps_if (pt_cmp (pc_dnotin hu (pe_tupN (pa_cons (pv 1) (pa_cons (pv 2) pa_nil))) (pe_fld (pv 0) rfl)) (by rfl))
        (pss_one ps_never) pss_nil)
        (pss_one (ps_ret (pe_dget hu (pe_fld (pv 0) rfl) (pe_tupN (pa_cons (pv 1) (pa_cons (pv 2) pa_nil))) (fun _ _ => rfl))))), ?_⟩
    refine lets2 ?_
    intro dD sS uU2
    refine ⟨_, rfl, _, rfl, (by show 2 ≤ sizeLine; decide), fun t H1 n1 s1 e1 => ?_⟩
    have g1 : DGet H1 d (.ref t) (valV kvs (keyOf p)) := DGet.t (s1 _ _ h4) (nat_key e1 (s1 _ _ hm))
    refine ⟨_, rfl, a, S, dx, _, _, rfl, s1 _ _ h1, U.cl, U.nS, h2, d, _, rfl, g1, _, rfl, ?_⟩
    rw [hval]
    refine ite2 (fun h => absurd h (by show ¬ ((!true) = true); decide)) (fun h => ?_)
    refine ⟨_, rfl, a, S, dx, _, _, rfl, s1 _ _ h1, U.cl, U.nS, h2, _, rfl, _, rfl, (by show 2 ≤ sizeLine; decide), fun t2 H2 n2 s2 e2 => ?_⟩
    have s12 := s1.trans s2
    have g2 : DGet H2 d (.ref t2) (valV kvs (keyOf p)) := DGet.t (s12 _ _ h4) (nat_key e2 (s12 _ _ hm))
    rw [hval] at g2
    exact ⟨d, v, rfl, g2, q H2 s12⟩
end
end K32

set_option Elab.async false
set_option linter.all false
set_option maxRecDepth 100000
set_option maxHeartbeats 4000000
namespace K32
open PySem L2 PySem.Spec PyProof.Rows
theorem rising_pw : ∀ (p : Str) (l : List Str), risingS p l = true → (p :: l).Pairwise (fun a b => a.cps.toList ≤ b.cps.toList)
  | p, [], _ => List.pairwise_singleton _ _
  | p, x :: r, h => by
    have h : (!ltCps x.cps.toList p.cps.toList && risingS x r) = true := h
    obtain ⟨h1, h2⟩ := Bool.and_eq_true_iff.mp h
    have ih := rising_pw x r h2
    have le : p.cps.toList ≤ x.cps.toList := by
      rw [PyProof.Rows.ltCps_eq] at h1
      intro z
      rw [decide_eq_true z] at h1
      cases h1
    refine List.pairwise_cons.mpr ⟨fun y hy => ?_, ih⟩
    rcases List.mem_cons.mp hy with e | hy
    · rw [e]; exact le
    · exact List.le_trans le (List.rel_of_pairwise_cons ih hy)
theorem sorted_pw : ∀ {l : List Str}, sortedS l = true → l.Pairwise (fun a b => a.cps.toList ≤ b.cps.toList)
  | [], _ => .nil
  | x :: r, h => rising_pw x r h
theorem sorted_eq {a b : List Str} (p : a.Perm b) (h1 : sortedS a = true) (h2 : sortedS b = true) : a = b := by
  refine List.Perm.eq_of_pairwise (fun x y _ _ h h' => ?_) (sorted_pw h1) (sorted_pw h2) p
  have e := List.le_antisymm h h'
  obtain ⟨⟨x⟩⟩ := x
  obtain ⟨⟨y⟩⟩ := y
  have e : x = y := e
  rw [e]

/-! ### a table of files, pure -/
noncomputable abbrev Tr := List (Str × List Str)
section
variable {β : Type}
noncomputable def putP (tr : List (Str × β)) (x : Str) (ls : β) : List (Str × β) := if (tr.any fun f => decide (f.1 = x)) = true then tr.map (fun f => if f.1 = x then (f.1, ls) else f) else tr ++ [(x, ls)]
theorem putP_mem {tr : List (Str × β)} {x : Str} {ls : β} {f : Str × β} (h : f ∈ putP tr x ls) : f = (x, ls) ∨ f ∈ tr := by
  unfold putP at h
  split at h
  · obtain ⟨g, hg, e⟩ := List.mem_map.mp h
    split at e
    · rename_i hx
      left; rw [← e, hx]
    · right; rw [← e]; exact hg
  · rcases List.mem_append.mp h with h | h
    · exact .inr h
    · exact .inl (List.mem_singleton.mp h)
theorem putP_keys (tr : List (Str × β)) (x : Str) (ls : β) : (putP tr x ls).map (·.1) = if (tr.any fun f => decide (f.1 = x)) = true then tr.map (·.1) else tr.map (·.1) ++ [x] := by
  unfold putP
  split
  · rw [List.map_map]
    refine List.map_congr_left fun f _ => ?_
    show (if f.1 = x then (f.1, ls) else f).1 = f.1
    split <;> rfl
  · rw [List.map_append]; rfl
theorem any_key {tr : List (Str × β)} {x : Str} : (tr.any fun f => decide (f.1 = x)) = true ↔ x ∈ tr.map (·.1) := by
  rw [List.any_eq_true, List.mem_map]
  constructor
  · rintro ⟨f, hf, e⟩
    exact ⟨f, hf, of_decide_eq_true e⟩
  · rintro ⟨f, hf, e⟩
    exact ⟨f, hf, decide_eq_true e⟩
theorem putP_nodup {tr : List (Str × β)} {x : Str} {ls : β} (h : (tr.map (·.1)).Nodup) : ((putP tr x ls).map (·.1)).Nodup := by
  rw [putP_keys]
  split
  · exact h
  · rename_i hx
    rw [List.nodup_append]
    refine ⟨h, by simp, fun a ha b hb => ?_⟩
    rw [List.mem_singleton.mp hb]
    intro e
    exact hx (any_key.mpr (e ▸ ha))
theorem putP_key {tr : List (Str × β)} {x y : Str} {ls : β} (h : y = x ∨ y ∈ tr.map (·.1)) : y ∈ (putP tr x ls).map (·.1) := by
  rw [putP_keys]
  split
  · rename_i hx
    rcases h with h | h
    · rw [h]; exact any_key.mp hx
    · exact h
  · rcases h with h | h
    · rw [h]; exact List.mem_append_right _ (List.mem_singleton.mpr rfl)
    · exact List.mem_append_left _ h
theorem putP_len (tr : List (Str × β)) (x : Str) (ls : β) : (putP tr x ls).length ≤ tr.length + 1 := by
  unfold putP
  split
  · rw [List.length_map]; omega
  · rw [List.length_append, List.length_singleton]; omega
/-- a dict's entries beside a table -/
theorem paired_put {F : Key × V → Str × β → Prop} (hk : ∀ kv f, F kv f → kv.1 = Sum.inr f.1) {x : Str} {ls : β} {v : V} (hv : F (.inr x, v) (x, ls)) {kvs : List (Key × V)} {tr : List (Str × β)} (h : Paired F kvs tr) : Paired F (putK kvs (.inr x) v) (putP tr x ls) := by
  have e : (kvs.any fun kv => decide (kv.1 = Sum.inr x)) = (tr.any fun f => decide (f.1 = x)) := by
    induction h with
    | nil => rfl
    | cons r t ih =>
      rw [List.any_cons, List.any_cons, ih, hk _ _ r]
      congr 1
      exact decide_eq_decide.mpr ⟨fun z => Sum.inr.inj z, fun z => by rw [z]⟩
  unfold putK putP
  rw [e]
  split
  · clear e
    rename_i hh
    clear hh
    induction h with
    | nil => exact .nil
    | @cons kv f kvs tr r t ih =>
      refine .cons ?_ ih
      have hr := hk _ _ r
      dsimp only
      by_cases hx : f.1 = x
      · have hkx : kv.1 = Sum.inr x := by rw [hr, hx]
        rw [if_pos hkx, if_pos hx, hkx, hx]
        exact hv
      · rw [if_neg (fun z => hx (Sum.inr.inj (hr.symm.trans z))), if_neg hx]
        exact r
  · exact paired_snoc hv h
end
theorem keysS_of {β : Type} {F : Key × V → Str × β → Prop} (hk : ∀ kv f, F kv f → kv.1 = Sum.inr f.1) {kvs : List (Key × V)} {tr : List (Str × β)} (h : Paired F kvs tr) : KeysS kvs (tr.map (·.1)) := by
  unfold KeysS
  induction h with
  | nil => rfl
  | cons r t ih => rw [List.map_cons, List.map_cons, List.map_cons, ih, hk _ _ r]
/-- what is found at a key -/
theorem paired_val {β : Type} {F : Key × V → Str × β → Prop} (hk : ∀ kv f, F kv f → kv.1 = Sum.inr f.1) {kvs : List (Key × V)} {tr : List (Str × β)} (h : Paired F kvs tr) {x : Str} (hx : x ∈ tr.map (·.1)) : ∃ v ls, valV kvs (.inr x) = some v ∧ (x, ls) ∈ tr ∧ F (.inr x, v) (x, ls) := by
  induction h with
  | nil => cases hx
  | @cons kv f kvs tr r t ih =>
    have hr := hk _ _ r
    by_cases e : f.1 = x
    · refine ⟨kv.2, f.2, by rw [valV_pos (hr.trans (by rw [e]))], ?_, ?_⟩
      · rw [← e]; exact List.mem_cons_self
      · rw [← e, ← hr]; exact r
    · rcases List.mem_cons.mp hx with z | z
      · exact absurd z.symm e
      · obtain ⟨v, ls, a, b, c⟩ := ih z
        exact ⟨v, ls, by rw [valV_neg (fun q => e (Sum.inr.inj (hr.symm.trans q)))]; exact a, List.mem_cons_of_mem _ b, c⟩
theorem paired_none {β : Type} {F : Key × V → Str × β → Prop} (hk : ∀ kv f, F kv f → kv.1 = Sum.inr f.1) {kvs : List (Key × V)} {tr : List (Str × β)} (h : Paired F kvs tr) {x : Str} (hx : x ∉ tr.map (·.1)) : valV kvs (.inr x) = none := by
  induction h with
  | nil => rfl
  | @cons kv f kvs tr r t ih =>
    have hr := hk _ _ r
    rw [List.map_cons, List.mem_cons, not_or] at hx
    rw [valV_neg (fun q => hx.1 (Sum.inr.inj (hr.symm.trans q)).symm)]
    exact ih hx.2
theorem nodup_fun {β : Type} {tr : List (Str × β)} (h : (tr.map (·.1)).Nodup) {x : Str} {a b : β} (ha : (x, a) ∈ tr) (hb : (x, b) ∈ tr) : a = b := by
  induction tr with
  | nil => cases ha
  | cons f tr ih =>
    rw [List.map_cons, List.nodup_cons] at h
    rcases List.mem_cons.mp ha with ea | ha
    · rcases List.mem_cons.mp hb with eb | hb
      · rw [← ea] at eb; exact (Prod.mk.inj eb).2.symm
      · exact absurd (List.mem_map_of_mem (f := (·.1)) hb) (by rw [← ea] at h; exact h.1)
    · rcases List.mem_cons.mp hb with eb | hb
      · exact absurd (List.mem_map_of_mem (f := (·.1)) ha) (by rw [← eb] at h; exact h.1)
      · exact ih h.2 ha hb
structure Gath (done tr : Tr) : Prop where
  nd : (tr.map (·.1)).Nodup
  sub : ∀ f ∈ tr, f ∈ done
  key : ∀ f ∈ done, f.1 ∈ tr.map (·.1)
  len : tr.length ≤ done.length
theorem gath0 : Gath [] [] := ⟨List.nodup_nil, fun _ h => h, (fun _ h => nomatch h), Nat.le_refl _⟩
theorem Gath.step {done tr : Tr} (g : Gath done tr) (x : Str) (ls : List Str) : Gath (done ++ [(x, ls)]) (putP tr x ls) := by
  refine ⟨putP_nodup g.nd, fun f hf => ?_, fun f hf => ?_, ?_⟩
  · rcases putP_mem hf with e | hf
    · rw [e]; exact List.mem_append_right _ (List.mem_singleton.mpr rfl)
    · exact List.mem_append_left _ (g.sub f hf)
  · rcases List.mem_append.mp hf with hf | hf
    · exact putP_key (.inr (g.key f hf))
    · rw [List.mem_singleton.mp hf]; exact putP_key (.inl rfl)
  · have := putP_len tr x ls
    have := g.len
    rw [List.length_append, List.length_singleton]
    omega
/-- each path has one list of lines -/
noncomputable def Func (d : Tr) : Prop := ∀ x l l', (x, l) ∈ d → (x, l') ∈ d → l = l'
end K32

set_option Elab.async false
set_option linter.all false
set_option maxRecDepth 100000
set_option maxHeartbeats 4000000
namespace K32
open PySem L2
section
variable {P : Program} {w : World} {K : PySem.W.Frag} {mg : Str → Option Value} {base : Heap}
open Lcp
noncomputable def spAli (K : PySem.W.Frag) : Sp := fun vs H Q _ => ∃ (a b : Addr) (xs ys : List Str), vs = [.ref a, .ref b] ∧ SqL K H a (xs.map V.str) ∧ SqL K H b (ys.map V.str) ∧ Q (.int (lcp xs ys)) H
theorem scAli : FnScope ["lines", "others", "many"] ["lines", "others"] (defScope sAli) := ⟨rfl, rfl, rfl, by decide +kernel, rfl, by decide +kernel, by decide +kernel⟩
theorem okAli {f : Addr} {fd : FuncData} (F : Fun K "alike_ahead" "alike_ahead" sAli f fd) (B : Blt mg) : FnOk P w K mg base CX0 1 f fd ["lines", "others"] (spAli K) := by
  refine F.ok scAli (fun vs H Q E h => ?_) (fun cdv A outer s H vs Q E hr h => ?_)
  · obtain ⟨a, b, xs, ys, rfl, _⟩ := h
    rfl
  · refine letX ?_
    intro xX dX
    obtain ⟨a, b, xs, ys, rfl, hA, hB, q⟩ := h
    refine ⟨_, (pss_cons (ps_set (i := 2) scAli.nd rfl (Or.inl rfl) pe_int)
        (pss_cons (ps_while PassesOwn.never (PW.pt (pw_and (pt_cmpR op_lt (pv 2) (pe_callB call_len_seq (by rfl) B.len PySem.boot_len (pa_cons (pv 0) pa_nil)) (nomark _)) (pw_and (pt_cmpR op_lt (pv 2) (pe_callB call_len_seq (by rfl) B.len PySem.boot_len (pa_cons (pv 1) pa_nil)) (nomark _)) (pw_and1 (pt_cmpR op_eq (pe_ix ix_list (pv 0) (pv 2) (fun _ _ => rfl)) (pe_ix ix_list (pv 1) (pv 2) (fun _ _ => rfl)) (nomark _)))))) (pss_one (ps_set (i := 2) scAli.nd rfl (Or.inl rfl) (pe_op op_add (pv 2) pe_int))))
        (pss_one (ps_ret (pv 2))))), ?_⟩
    refine lets3 ?_
    intro dD sS uU3 uU2
    refine ⟨fun m σ H' => ∃ i : Nat, m = xs.length - i ∧ i ≤ xs.length ∧ σ = [some (.ref a), some (.ref b), some (.int i)] ∧ H' = H ∧ lcp xs ys = i + lcp (xs.drop i) (ys.drop i), ⟨_, 0, rfl, Nat.zero_le _, rfl, rfl, (Nat.zero_add _).symm⟩, ?_⟩
    intro m σ H' hQ1
    refine letG ?_
    intro tT
    obtain ⟨i, rfl, hi, rfl, rfl, el⟩ := hQ1
    first | (refine letB (g := gName _) ?_; intro eQ sQ) | (refine letB (g := gTup _ _ _) ?_; intro eQ sQ) | skip
    have fin : lcp (xs.drop i) (ys.drop i) = 0 → ∃ v, ([some (V.ref a), some (V.ref b), some (V.int i)] : St)[2]? = some (some v) ∧ Q v H' := fun z => by
      rw [z, Nat.add_zero] at el
      rw [el] at q
      exact ⟨_, rfl, q⟩
    refine ⟨_, rfl, _, rfl, a, _, rfl, .inl hA, _, _, rfl, rfl, _, rfl, ?_⟩
    refine ite2 (fun h => ?_) (fun h => ?_)
    · have h1 := of_decide_eq_true h
      rw [List.length_map] at h1
      refine ⟨_, rfl, _, rfl, b, _, rfl, .inl hB, _, _, rfl, rfl, _, rfl, ?_⟩
      refine ite2 (fun h => ?_) (fun h => ?_)
      · have h2 := of_decide_eq_true h
        rw [List.length_map] at h2
        obtain ⟨x, hx, ex⟩ := atI_strs (xs := xs) (r := (i : Int)) (by omega) h1
        obtain ⟨y, hy, ey⟩ := atI_strs (xs := ys) (r := (i : Int)) (by omega) h2
        rw [Int.toNat_natCast] at ex ey
        have es := lcp_step ex ey
        refine ⟨_, rfl, _, rfl, a, _, _, _, rfl, rfl, hA, hx, _, rfl, _, rfl, b, _, _, _, rfl, rfl, hB, hy, rfl, _, rfl, ?_⟩
        refine ite2 (fun h => ?_) (fun h => ?_)
        · have e : x = y := by have := of_decide_eq_true h; injection this
          rw [if_pos e] at es
          refine ⟨fun σ' H2 => σ' = [some (.ref a), some (.ref b), some (.int ((i : Int) + 1))] ∧ H2 = H', ?_, ?_⟩
          · rintro σ' H2 ⟨rfl, rfl⟩
            exact ⟨_, (show xs.length - (i + 1) < xs.length - i by omega), i + 1, rfl, by omega, by rw [Int.natCast_add]; rfl, rfl, by rw [el, es]; omega⟩
          · exact ⟨_, rfl, _, _, rfl, rfl, rfl, rfl⟩
        · have e : x ≠ y := fun e => h (by rw [e]; exact decide_eq_true rfl)
          rw [if_neg e] at es
          exact fin es
      · have h2 := of_decide_eq_false (Bool.eq_false_iff.mpr h)
        rw [List.length_map] at h2
        exact fin (lcp_end (.inr (by omega)))
    · have h1 := of_decide_eq_false (Bool.eq_false_iff.mpr h)
      rw [List.length_map] at h1
      exact fin (lcp_end (.inl (by omega)))

/-- the block of ys against xs, told at t -/
structure BlkAt (H : Hp) (t l : Addr) (xs ys : List Str) : Prop where
  tup : H t = some (.tup [.int (Lcp.fst xs ys), .int (stp xs ys), .ref l])
  lst : H l = some (.lst ((mid xs ys).map V.str))
noncomputable def spBlk (K : PySem.W.Frag) : Sp := fun vs H Q _ => ∃ (a b : Addr) (xs ys : List Str), vs = [.ref a, .ref b] ∧ SqL K H a (xs.map V.str) ∧ SqL K H b (ys.map V.str) ∧ ∀ t l H', H t = none → H l = none → Same H H' → BlkAt H' t l xs ys → Q (.ref t) H'
theorem scBlk : FnScope ["base", "other", "start", "behind"] ["base", "other"] (defScope sBlk) := ⟨rfl, rfl, rfl, by decide +kernel, rfl, by decide +kernel, by decide +kernel⟩
theorem okBlk {f fAli : Addr} {fd fdAli : FuncData} (F : Fun K "block_of" "block_of" sBlk f fd) (B : Blt mg) (FAli : Fun K "alike_ahead" "alike_ahead" sAli fAli fdAli) (mAli : mg "alike_ahead" = some (.ref fAli)) : FnOk P w K mg base CX0 2 f fd ["base", "other"] (spBlk K) := by
  have GAli : FnOk P w K mg base CX0 1 fAli fdAli ["lines", "others"] (spAli K) := okAli FAli B
  have bAli := FAli.binds2 (l := ["lines", "others"]) (fun _ _ _ _ _ _ _ _ => rfl)
  refine F.ok scBlk (fun vs H Q E h => ?_) (fun cdv A outer s H vs Q E hr h => ?_)
  · obtain ⟨a, b, xs, ys, rfl, _⟩ := h
    rfl
  · refine letX ?_
    intro xX dX
    obtain ⟨a, b, xs, ys, rfl, hA, hB, q⟩ := h
    refine ⟨_, (pss_cons (ps_set (i := 2) scBlk.nd rfl (Or.inl rfl) (pe_call GAli hr rfl mAli FAli.kp bAli .nil pass0 (pa_cons (pv 0) (pa_cons (pv 1) pa_nil))))
        (pss_cons (ps_set (i := 3) scBlk.nd rfl (Or.inl rfl) (pe_call GAli hr rfl mAli FAli.kp bAli .nil pass0 (pa_cons (pe_revN (pe_slice sl_listN (pv 0) (po_some (pv 2)) po_none)) (pa_cons (pe_revN (pe_slice sl_listN (pv 1) (po_some (pv 2)) po_none)) pa_nil))))
        (pss_one (ps_ret (pe_tupN (pa_cons (pv 2) (pa_cons (pe_op op_sub (pe_callB call_len_seq (by rfl) B.len PySem.boot_len (pa_cons (pv 0) pa_nil)) (pv 3)) (pa_cons (pe_slice sl_listN (pv 1) (po_some (pv 2)) (po_some (pe_op op_sub (pe_callB call_len_seq (by rfl) B.len PySem.boot_len (pa_cons (pv 1) pa_nil)) (pv 3)))) pa_nil)))))))), ?_⟩
    refine lets3 ?_
    intro dD sS uU3 uU2
    obtain ⟨l1, l2⟩ := fb_le xs ys
    refine ⟨_, rfl, _, rfl, a, b, xs, ys, rfl, hA, hB, ?_⟩
    refine ⟨_, rfl, _, rfl, _, rfl, a, _, rfl, hA, fun p1 H1 n1 s1 e1 => ?_⟩
    rw [cutV_strs, cutS_drop (by omega), Int.toNat_natCast] at e1
    refine ⟨p1, _, rfl, SqL.of e1, fun p2 H2 n2 s2 e2 => ?_⟩
    rw [strs_rev] at e2
    refine ⟨_, rfl, _, rfl, _, rfl, b, _, rfl, Same.seq (s1.trans s2) hB, fun p3 H3 n3 s3 e3 => ?_⟩
    rw [cutV_strs, cutS_drop (by omega), Int.toNat_natCast] at e3
    refine ⟨p3, _, rfl, SqL.of e3, fun p4 H4 n4 s4 e4 => ?_⟩
    rw [strs_rev] at e4
    have sA := ((s1.trans s2).trans s3).trans s4
    refine ⟨p2, p4, _, _, rfl, SqL.of (s4 _ _ (s3 _ _ e2)), SqL.of e4, ?_⟩
    refine ⟨_, rfl, _, rfl, a, _, rfl, .inl (Same.seq sA hA), _, rfl, _, _, rfl, rfl, _, rfl, _, rfl, _, rfl, _, rfl, b, _, rfl, .inl (Same.seq sA hB), _, rfl, _, _, rfl, rfl, _, rfl, b, _, rfl, Same.seq sA hB, fun p5 H5 n5 s5 e5 => ?_⟩
    refine ⟨(by show 3 ≤ sizeLine; decide), fun p6 H6 n6 s6 e6 => ?_⟩
    have sB := sA.trans s5
    refine q p6 p5 H6 (sB.free n6) (sA.free n5) (sB.trans s6) ⟨?_, ?_⟩
    · rw [e6]
      have e : ((xs.map V.str).length : Int) - (lcp (xs.drop (lcp xs ys)).reverse (ys.drop (lcp xs ys)).reverse : Int) = (stp xs ys : Int) := by
        rw [List.length_map]
        unfold stp
        unfold bck Lcp.fst at *
        omega
      dsimp only
      rw [e]
      rfl
    · rw [s6 _ _ e5]
      have e : ((ys.map V.str).length : Int) - (lcp (xs.drop (lcp xs ys)).reverse (ys.drop (lcp xs ys)).reverse : Int) = ((ys.length - bck xs ys : Nat) : Int) := by
        rw [List.length_map]
        unfold bck Lcp.fst at *
        omega
      rw [e, cutV_strs, cutS_both (by omega) (by omega), Int.toNat_natCast, Int.toNat_natCast]
      rfl
end
end K32

namespace K32
open PySem L2 Lcp
section
variable {P : Program} {w : World} {K : PySem.W.Frag} {mg : Str → Option Value} {base : Heap}
noncomputable def spIsA : Sp := fun vs H Q _ => ∃ (t1 t2 : Addr) (a1 b1 a2 b2 : Int) (v1 v2 : V), vs = [.ref t1, .ref t2] ∧ H t1 = some (.tup [.int a1, .int b1, v1]) ∧ H t2 = some (.tup [.int a2, .int b2, v2]) ∧ Q (.bl (decide (b1 ≤ a2))) H
theorem scIsA : FnScope ["block", "other"] ["block", "other"] (defScope sIsA) := ⟨rfl, rfl, rfl, by decide +kernel, rfl, by decide +kernel, by decide +kernel⟩
theorem okIsA {f : Addr} {fd : FuncData} (F : Fun K "is_ahead" "is_ahead" sIsA f fd) : FnOk P w K mg base CX0 1 f fd ["block", "other"] spIsA := by
  refine F.ok scIsA (fun vs H Q E h => ?_) (fun cdv A outer s H vs Q E hr h => ?_)
  · obtain ⟨t1, t2, a1, b1, a2, b2, v1, v2, rfl, _⟩ := h
    rfl
  · refine letX ?_
    intro xX dX
    obtain ⟨t1, t2, a1, b1, a2, b2, v1, v2, rfl, h1, h2, q⟩ := h
    refine ⟨_, (pss_one (ps_ret (pe_cmpR op_le (pe_ix ix_tup (pv 0) pe_int (fun _ _ => rfl)) (pe_ix ix_tup (pv 1) pe_int (fun _ _ => rfl)) (nomark _)))), ?_⟩
    exact ⟨_, rfl, t1, _, _, _, rfl, rfl, SqT.of h1, rfl, _, rfl, t2, _, _, _, rfl, rfl, SqT.of h2, rfl, _, _, rfl, rfl, q⟩
noncomputable def spTak : Sp := fun vs H Q _ => ∃ (t1 : Addr) (a1 b1 : Int) (v1 : V), vs = [.ref t1] ∧ H t1 = some (.tup [.int a1, .int b1, v1]) ∧ Q (.bl (decide (a1 = b1))) H
theorem scTak : FnScope ["block"] ["block"] (defScope sTak) := ⟨rfl, rfl, rfl, by decide +kernel, rfl, by decide +kernel, by decide +kernel⟩
theorem okTak {f : Addr} {fd : FuncData} (F : Fun K "takes_none" "takes_none" sTak f fd) : FnOk P w K mg base CX0 1 f fd ["block"] spTak := by
  refine F.ok scTak (fun vs H Q E h => ?_) (fun cdv A outer s H vs Q E hr h => ?_)
  · obtain ⟨t1, a1, b1, v1, rfl, _⟩ := h
    rfl
  · refine letX ?_
    intro xX dX
    obtain ⟨t1, a1, b1, v1, rfl, h1, q⟩ := h
    refine ⟨_, (pss_one (ps_ret (pe_cmpR op_eq (pe_ix ix_tup (pv 0) pe_int (fun _ _ => rfl)) (pe_ix ix_tup (pv 0) pe_int (fun _ _ => rfl)) (nomark _)))), ?_⟩
    rw [← show decide (V.int a1 = V.int b1) = decide (a1 = b1) from decide_eq_decide.mpr ⟨fun h => by injection h, fun h => by rw [h]⟩] at q
    exact ⟨_, rfl, t1, _, _, _, rfl, rfl, SqT.of h1, rfl, _, rfl, t1, _, _, _, rfl, rfl, SqT.of h1, rfl, rfl, q⟩
noncomputable def spApa : Sp := fun vs H Q _ => ∃ (t1 t2 : Addr) (a1 b1 a2 b2 : Int) (v1 v2 : V), vs = [.ref t1, .ref t2] ∧ H t1 = some (.tup [.int a1, .int b1, v1]) ∧ H t2 = some (.tup [.int a2, .int b2, v2]) ∧ Q (.bl (apI a1 b1 a2 b2)) H
theorem scApa : FnScope ["block", "other"] ["block", "other"] (defScope sApa) := ⟨rfl, rfl, rfl, by decide +kernel, rfl, by decide +kernel, by decide +kernel⟩
theorem okApa {f fIsA fTak : Addr} {fd fdIsA fdTak : FuncData} (F : Fun K "are_apart" "are_apart" sApa f fd) (FIsA : Fun K "is_ahead" "is_ahead" sIsA fIsA fdIsA) (mIsA : mg "is_ahead" = some (.ref fIsA)) (FTak : Fun K "takes_none" "takes_none" sTak fTak fdTak) (mTak : mg "takes_none" = some (.ref fTak)) :
    FnOk P w K mg base CX0 2 f fd ["block", "other"] spApa := by
  have GIsA : FnOk P w K mg base CX0 1 fIsA fdIsA ["block", "other"] spIsA := okIsA FIsA
  have bIsA := FIsA.binds2 (l := ["block", "other"]) (fun _ _ _ _ _ _ _ _ => rfl)
  have GTak : FnOk P w K mg base CX0 1 fTak fdTak ["block"] spTak := okTak FTak
  have bTak := FTak.binds1 (l := ["block"]) (fun _ _ _ _ _ _ _ => rfl)
  refine F.ok scApa (fun vs H Q E h => ?_) (fun cdv A outer s H vs Q E hr h => ?_)
  · obtain ⟨t1, t2, a1, b1, a2, b2, v1, v2, rfl, _⟩ := h
    rfl
  · refine letX ?_
    intro xX dX
    obtain ⟨t1, t2, a1, b1, a2, b2, v1, v2, rfl, h1, h2, q⟩ := h
    refine ⟨_, (pss_cut (fun σ H' => σ = [some (.ref t1), some (.ref t2)] ∧ H' = H ∧ ¬ ((a1 = b1 ∧ a2 = b2) ∧ a1 = a2)) (ps_if (PW.pt (pw_and (pt_val (pe_call GTak hr rfl mTak FTak.kp bTak .nil pass0 (pa_cons (pv 0) pa_nil))) (pw_and (pt_val (pe_call GTak hr rfl mTak FTak.kp bTak .nil pass0 (pa_cons (pv 1) pa_nil))) (pw_and1 (pt_cmpR op_eq (pe_ix ix_tup (pv 0) pe_int (fun _ _ => rfl)) (pe_ix ix_tup (pv 1) pe_int (fun _ _ => rfl)) (nomark _))))))
        (pss_one (ps_ret pe_bl)) pss_nil)
        (pss_one (ps_ret (pe_or (pe_call GIsA hr rfl mIsA FIsA.kp bIsA .nil pass0 (pa_cons (pv 0) (pa_cons (pv 1) pa_nil))) (pe_one (pe_call GIsA hr rfl mIsA FIsA.kp bIsA .nil pass0 (pa_cons (pv 1) (pa_cons (pv 0) pa_nil)))))))), ?_⟩
    refine ⟨?_, ?_⟩
    · refine ⟨_, rfl, t1, a1, b1, v1, rfl, h1, ?_⟩
      refine ⟨_, rfl, ite2 (fun z1 => ?_) (fun z1 => ?_)⟩
      · refine ⟨_, rfl, t2, a2, b2, v2, rfl, h2, ?_⟩
        refine ⟨_, rfl, ite2 (fun z2 => ?_) (fun z2 => ?_)⟩
        · refine ⟨_, rfl, t1, _, _, _, rfl, rfl, SqT.of h1, rfl, _, rfl, t2, _, _, _, rfl, rfl, SqT.of h2, rfl, rfl, _, rfl, ?_⟩
          refine ite2 (fun z3 => ?_) (fun z3 => ?_)
          · have e3 : a1 = a2 := by have := of_decide_eq_true z3; injection this
            unfold apI at q
            rw [if_pos ⟨⟨of_decide_eq_true z1, of_decide_eq_true z2⟩, e3⟩] at q
            exact q
          · exact ⟨rfl, rfl, fun e => z3 (decide_eq_true (congrArg V.int e.2))⟩
        · exact iteF ⟨rfl, rfl, fun e => z2 (decide_eq_true e.1.2)⟩
      · exact iteF ⟨rfl, rfl, fun e => z1 (decide_eq_true e.1.1)⟩
    · rintro σ' H' ⟨rfl, rfl, hn⟩
      unfold apI at q
      rw [if_neg hn] at q
      refine ⟨_, rfl, _, rfl, t1, t2, a1, b1, a2, b2, v1, v2, rfl, h1, h2, ?_⟩
      refine ⟨_, rfl, ite2 (fun z => ?_) (fun z => ?_)⟩
      · rw [z, Bool.true_or] at q
        exact q
      · rw [Bool.eq_false_iff.mpr z, Bool.false_or] at q
        exact ⟨_, rfl, _, rfl, t2, t1, a2, b2, a1, b1, v2, v1, rfl, h2, h1, q⟩

noncomputable def spBot : Sp := fun vs H Q _ => ∃ (a t1 l1 t2 l2 : Addr) (b x y : List Str), vs = [.ref a, .ref t1, .ref t2] ∧ H a = some (.lst (b.map V.str)) ∧ BlkAt H t1 l1 b x ∧ BlkAt H t2 l2 b y ∧ b.length ≤ 20 ∧ x.length ≤ 20 ∧ y.length ≤ 20 ∧ New H (.lst ((both b x y).map V.str)) Q
theorem scBot : FnScope ["base", "first", "second"] ["base", "first", "second"] (defScope sBot) := ⟨rfl, rfl, rfl, by decide +kernel, rfl, by decide +kernel, by decide +kernel⟩
theorem lM {l : List Str} {n : Nat} (h : l.length ≤ n) : (l.map V.str).length ≤ n := by rw [List.length_map]; exact h
theorem lA {a b : List Str} {m n : Nat} (ha : a.length ≤ m) (hb : b.length ≤ n) : (a ++ b).length ≤ m + n := by rw [List.length_append]; exact Nat.add_le_add ha hb
theorem lT {l : List Str} {k n : Nat} (h : l.length ≤ n) : (l.take k).length ≤ n := by rw [List.length_take]; exact Nat.le_trans (Nat.min_le_right _ _) h
theorem lD {l : List Str} {k n : Nat} (h : l.length ≤ n) : (l.drop k).length ≤ n := by rw [List.length_drop]; exact Nat.le_trans (Nat.sub_le _ _) h
theorem lMid {b x : List Str} {n : Nat} (h : x.length ≤ n) : (mid b x).length ≤ n := lT (lD h)
theorem lS {p q m n k : Nat} (h1 : p ≤ m) (h2 : q ≤ n) (h : m + n ≤ k := by decide) : p + q ≤ k := Nat.le_trans (Nat.add_le_add h1 h2) h
theorem okBot {f : Addr} {fd : FuncData} (F : Fun K "with_both" "with_both" sBot f fd) : FnOk P w K mg base CX0 1 f fd ["base", "first", "second"] spBot := by
  refine F.ok scBot (fun vs H Q E h => ?_) (fun cdv A outer s H vs Q E hr h => ?_)
  · obtain ⟨a, t1, l1, t2, l2, b, x, y, rfl, _⟩ := h
    rfl
  · refine letX ?_
    intro xX dX
    obtain ⟨a, t1, l1, t2, l2, b, x, y, rfl, hA, ⟨hT1, hL1⟩, ⟨hT2, hL2⟩, b20, x20, y20, q⟩ := h
    refine ⟨_, (pss_one (ps_ret (pe_op op_catN (pe_op op_catN (pe_op op_catN (pe_op op_catN (pe_slice sl_listN (pv 0) po_none (po_some (pe_ix ix_tup (pv 1) pe_int (fun _ _ => rfl)))) (pe_ix ix_tup (pv 1) pe_int (fun _ _ => rfl))) (pe_slice sl_listN (pv 0) (po_some (pe_ix ix_tup (pv 1) pe_int (fun _ _ => rfl))) (po_some (pe_ix ix_tup (pv 2) pe_int (fun _ _ => rfl))))) (pe_ix ix_tup (pv 2) pe_int (fun _ _ => rfl))) (pe_slice sl_listN (pv 0) (po_some (pe_ix ix_tup (pv 2) pe_int (fun _ _ => rfl))) po_none)))), ?_⟩
    have m1 := mid_len b x
    have m2 := mid_len b y
    refine ⟨_, rfl, _, rfl, t1, _, _, _, rfl, rfl, SqT.of hT1, rfl, _, rfl, a, _, rfl, SqL.of hA, fun p1 H1 n1 s1 e1 => ?_⟩
    rw [cutV_strs, cutS_take (by omega), Int.toNat_natCast] at e1
    refine ⟨_, rfl, t1, _, _, _, rfl, rfl, SqT.of (s1 _ _ hT1), rfl, p1, l1, _, _, rfl, rfl, e1, s1 _ _ hL1, smallL (lS (lM (lT b20)) (lM (lMid x20))), fun p2 H2 n2 s2 e2 => ?_⟩
    rw [strs_app] at e2
    have sB := s1.trans s2
    refine ⟨_, rfl, _, rfl, t1, _, _, _, rfl, rfl, SqT.of (sB _ _ hT1), rfl, _, rfl, _, rfl, t2, _, _, _, rfl, rfl, SqT.of (sB _ _ hT2), rfl, _, rfl, a, _, rfl, SqL.of (sB _ _ hA), fun p3 H3 n3 s3 e3 => ?_⟩
    rw [cutV_strs, cutS_both (by omega) (by omega), Int.toNat_natCast, Int.toNat_natCast] at e3
    refine ⟨p2, p3, _, _, rfl, rfl, s3 _ _ e2, e3, smallL (lS (lM (lA (lT b20) (lMid x20))) (lM (lT (lD b20)))), fun p4 H4 n4 s4 e4 => ?_⟩
    rw [strs_app] at e4
    have sC := (sB.trans s3).trans s4
    refine ⟨_, rfl, t2, _, _, _, rfl, rfl, SqT.of (sC _ _ hT2), rfl, p4, l2, _, _, rfl, rfl, e4, sC _ _ hL2, smallL (lS (lM (lA (lA (lT b20) (lMid x20)) (lT (lD b20)))) (lM (lMid y20))), fun p5 H5 n5 s5 e5 => ?_⟩
    rw [strs_app] at e5
    have sD := sC.trans s5
    refine ⟨_, rfl, _, rfl, t2, _, _, _, rfl, rfl, SqT.of (sD _ _ hT2), rfl, _, rfl, a, _, rfl, SqL.of (sD _ _ hA), fun p6 H6 n6 s6 e6 => ?_⟩
    rw [cutV_strs, cutS_drop (by omega), Int.toNat_natCast] at e6
    refine ⟨p5, p6, _, _, rfl, rfl, s6 _ _ e5, e6, smallL (lS (lM (lA (lA (lA (lT b20) (lMid x20)) (lT (lD b20))) (lMid y20))) (lM (lD b20))), fun p7 H7 n7 s7 e7 => ?_⟩
    rw [strs_app] at e7
    have sE := sD.trans s6
    exact q p7 H7 (sE.free n7) (sE.trans s7) e7

noncomputable def spPut : Sp := fun vs H Q _ => ∃ (a o n : Addr) (b x y : List Str), vs = [.ref a, .ref o, .ref n] ∧ H a = some (.lst (b.map V.str)) ∧ H o = some (.lst (x.map V.str)) ∧ H n = some (.lst (y.map V.str)) ∧ Lns b ∧ Lns x ∧ Lns y ∧
  ∀ t l r H', H t = none → H l = none → (∀ l2, r = .ref l2 → H l2 = none ∧ l2 ≠ l) → Same H H' → PutAt H' t l r (merge b x y) → Q (.ref t) H'
theorem scPut : FnScope ["base", "own", "new", "own_block", "new_block"] ["base", "own", "new"] (defScope sPut) := ⟨rfl, rfl, rfl, by decide +kernel, rfl, by decide +kernel, by decide +kernel⟩
theorem okPut {f fBlk fApa fIsA fBot : Addr} {fd fdBlk fdApa fdIsA fdBot : FuncData} (F : Fun K "put_together" "put_together" sPut f fd) (B : Blt mg) (FBlk : Fun K "block_of" "block_of" sBlk fBlk fdBlk) (mBlk : mg "block_of" = some (.ref fBlk))
    (FApa : Fun K "are_apart" "are_apart" sApa fApa fdApa) (mApa : mg "are_apart" = some (.ref fApa)) (FIsA : Fun K "is_ahead" "is_ahead" sIsA fIsA fdIsA) (mIsA : mg "is_ahead" = some (.ref fIsA)) (FBot : Fun K "with_both" "with_both" sBot fBot fdBot) (mBot : mg "with_both" = some (.ref fBot))
    (GBlk : FnOk P w K mg base CX0 2 fBlk fdBlk ["base", "other"] (spBlk K)) (GApa : FnOk P w K mg base CX0 2 fApa fdApa ["block", "other"] spApa) : FnOk P w K mg base CX0 3 f fd ["base", "own", "new"] spPut := by
  have GIsA : FnOk P w K mg base CX0 1 fIsA fdIsA ["block", "other"] spIsA := okIsA FIsA
  have bIsA := FIsA.binds2 (l := ["block", "other"]) (fun _ _ _ _ _ _ _ _ => rfl)
  have bApa := FApa.binds2 (l := ["block", "other"]) (fun _ _ _ _ _ _ _ _ => rfl)
  have bBlk := FBlk.binds2 (l := ["base", "other"]) (fun _ _ _ _ _ _ _ _ => rfl)
  have GBot : FnOk P w K mg base CX0 1 fBot fdBot ["base", "first", "second"] spBot := okBot FBot
  have bBot := FBot.binds3 (l := ["base", "first", "second"]) (fun _ _ _ _ _ _ _ _ _ => rfl)
  refine F.ok scPut (fun vs H Q E h => ?_) (fun cdv A outer s H vs Q E hr h => ?_)
  · obtain ⟨a, o, n, b, x, y, rfl, _⟩ := h
    rfl
  · refine letX ?_
    intro xX dX
    obtain ⟨a, o, n, b, x, y, rfl, hA, hO, hN, lb, lx, ly, q⟩ := h
    have hr1 : Room 1 _ := hr.mono (by decide)
    have hu := hr.units
    refine ⟨_, (pss_cons (ps_if (pt_cmpR (op_eqD hu) (pv 1) (pv 0) (nomark _))
        (pss_one (ps_ret (pe_tupN (pa_cons (pe_callTy call_listN (by rfl) B.list PyProof.Rows.boot_list (pa_cons (pv 2) pa_nil)) (pa_cons pe_non pa_nil))))) pss_nil)
        (pss_cut (fun σ H' => σ = [some (.ref a), some (.ref o), some (.ref n), none, none] ∧ H' = H ∧ ¬ (y = b ∨ x = y)) (ps_if (PW.pt (pw_or (pt_cmpR (op_eqD hu) (pv 2) (pv 0) (nomark _)) (pw_or1 (pt_cmpR (op_eqD hu) (pv 1) (pv 2) (nomark _)))))
        (pss_one (ps_ret (pe_tupN (pa_cons (pe_callTy call_listN (by rfl) B.list PyProof.Rows.boot_list (pa_cons (pv 1) pa_nil)) (pa_cons pe_non pa_nil))))) pss_nil)
        (pss_cons (ps_set (i := 3) scPut.nd rfl (Or.inl rfl) (pe_call GBlk hr rfl mBlk FBlk.kp bBlk .nil pass0 (pa_cons (pv 0) (pa_cons (pv 1) pa_nil))))
        (pss_cons (ps_set (i := 4) scPut.nd rfl (Or.inl rfl) (pe_call GBlk hr rfl mBlk FBlk.kp bBlk .nil pass0 (pa_cons (pv 0) (pa_cons (pv 2) pa_nil))))
        (pss_cons (ps_if (pt_not (pt_val (pe_call GApa hr rfl mApa FApa.kp bApa .nil pass0 (pa_cons (pv 3) (pa_cons (pv 4) pa_nil)))))
        (pss_one (ps_ret (pe_tupN (pa_cons (pe_callTy call_listN (by rfl) B.list PyProof.Rows.boot_list (pa_cons (pv 2) pa_nil)) (pa_cons (pe_callTy call_listN (by rfl) B.list PyProof.Rows.boot_list (pa_cons (pv 1) pa_nil)) pa_nil))))) pss_nil)
        (pss_cons (ps_if (pt_val (pe_call GIsA hr1 rfl mIsA FIsA.kp bIsA .nil pass0 (pa_cons (pv 3) (pa_cons (pv 4) pa_nil))))
        (pss_one (ps_ret (pe_tupN (pa_cons (pe_call GBot hr1 rfl mBot FBot.kp bBot .nil pass0 (pa_cons (pv 0) (pa_cons (pv 3) (pa_cons (pv 4) pa_nil)))) (pa_cons pe_non pa_nil))))) pss_nil)
        (pss_one (ps_ret (pe_tupN (pa_cons (pe_call GBot hr1 rfl mBot FBot.kp bBot .nil pass0 (pa_cons (pv 0) (pa_cons (pv 4) (pa_cons (pv 3) pa_nil)))) (pa_cons pe_non pa_nil))))))))))), ?_⟩
    refine lets2 ?_
    intro dD sS uU2
    have oB := dS_ok 8 lb.all
    have oX := dS_ok 8 lx.all
    have oY := dS_ok 8 ly.all
    have one : ∀ (m : List Str) (p1 : Addr) (H0 H1 : Hp), merge b x y = (m, none) → Same H H0 → H0 p1 = none → Same H0 H1 → H1 p1 = some (.lst (m.map V.str)) → [V.ref p1, V.non].length ≤ sizeLine ∧ New H1 (.tup [.ref p1, .non]) Q := fun m p1 H0 H1 em s0 n1 s1 e1 => by
      refine ⟨by show 2 ≤ sizeLine; decide, fun p2 H2 n2 s2 e2 => ?_⟩
      refine q p2 p1 .non H2 ((s0.trans s1).free n2) (s0.free n1) (fun l2 e => by cases e) ((s0.trans s1).trans s2) ?_
      rw [em]
      exact ⟨e2, s2 _ _ e1, rfl⟩
    refine ⟨_, rfl, _, rfl, dS x, dS b, dS_dv (SqL.of hO), dS_dv (SqL.of hA), oX, oB, fun b1 hb1 => ?_⟩
    rw [dS_dec hb1]
    refine ⟨_, rfl, ite2 (fun h => ?_) (fun h => ?_)⟩
    · refine ⟨_, rfl, n, _, rfl, .inl (SqL.of hN), fun p1 H1 n1 s1 e1 => ?_⟩
      exact one y p1 H H1 (merge_same (of_decide_eq_true h)) (Same.refl _) n1 s1 e1
    have hxb : x ≠ b := of_decide_eq_false (Bool.eq_false_iff.mpr h)
    refine ⟨?_, ?_⟩
    · refine ⟨_, rfl, _, rfl, dS y, dS b, dS_dv (SqL.of hN), dS_dv (SqL.of hA), oY, oB, fun b2 hb2 => ?_⟩
      rw [dS_dec hb2]
      have fin : (y = b ∨ x = y) → ∃ v, ([some (V.ref a), some (.ref o), some (.ref n), none, none] : St)[1]? = some (some v) ∧ ∃ p ys, ([v] : List V) = [.ref p] ∧ (SqL K H p ys ∨ SqT K H p ys) ∧ New H (.lst ys) fun v H1 => [v, V.non].length ≤ sizeLine ∧ New H1 (.tup [v, .non]) Q := fun hc =>
        ⟨_, rfl, o, _, rfl, .inl (SqL.of hO), fun p1 H1 n1 s1 e1 => one x p1 H H1 (merge_own hxb hc) (Same.refl _) n1 s1 e1⟩
      refine ⟨_, rfl, ite2 (fun h2 => ?_) (fun h2 => ?_)⟩
      · exact iteT (fin (.inl (of_decide_eq_true h2)))
      · refine ⟨_, rfl, _, rfl, dS x, dS y, dS_dv (SqL.of hO), dS_dv (SqL.of hN), oX, oY, fun b3 hb3 => ?_⟩
        rw [dS_dec hb3]
        refine ⟨_, rfl, ite2 (fun h3 => ?_) (fun h3 => ?_)⟩
        · exact fin (.inr (of_decide_eq_true h3))
        · exact ⟨rfl, rfl, fun e => e.elim (fun e => h2 (decide_eq_true e)) (fun e => h3 (decide_eq_true e))⟩
    rintro σ' H' ⟨rfl, rfl, hc⟩
    refine ⟨_, rfl, _, rfl, a, o, b, x, rfl, SqL.of hA, SqL.of hO, fun t1 l1 H1 nt1 nl1 s1 bk1 => ?_⟩
    refine ⟨_, rfl, _, rfl, a, n, b, y, rfl, SqL.of (s1 _ _ hA), SqL.of (s1 _ _ hN), fun t2 l2 H2 nt2 nl2 s2 bk2 => ?_⟩
    have sA := s1.trans s2
    have bk1 : BlkAt H2 t1 l1 b x := ⟨s2 _ _ bk1.tup, s2 _ _ bk1.lst⟩
    refine ⟨_, rfl, _, rfl, t1, t2, _, _, _, _, _, _, rfl, bk1.tup, bk2.tup, ?_⟩
    refine ⟨_, rfl, ite2 (fun h4 => ?_) (fun h4 => ?_)⟩
    · have ap : apart b x y = false := by unfold apart; simpa using h4
      refine ⟨_, rfl, n, _, rfl, .inl (SqL.of (sA _ _ hN)), fun p5 H5 n5 s5 e5 => ?_⟩
      refine ⟨_, rfl, o, _, rfl, .inl (SqL.of (s5 _ _ (sA _ _ hO))), fun p6 H6 n6 s6 e6 => ?_⟩
      refine ⟨(by show 2 ≤ sizeLine; decide), fun p7 H7 n7 s7 e7 => ?_⟩
      have sB := (sA.trans s5).trans s6
      refine q p7 p5 (.ref p6) H7 (sB.free n7) (sA.free n5) (fun l2 e => ?_) (sB.trans s7) ?_
      · cases e
        exact ⟨(sA.trans s5).free n6, (ne_of_none e5 n6).symm⟩
      · rw [merge_new hxb hc ap]
        exact ⟨e7, s7 _ _ (s6 _ _ e5), _, rfl, s7 _ _ e6⟩
    · have ap : apart b x y = true := by unfold apart; simpa using h4
      refine ⟨_, rfl, _, rfl, t1, t2, _, _, _, _, _, _, rfl, bk1.tup, bk2.tup, ?_⟩
      refine ⟨_, rfl, ite2 (fun h5 => ?_) (fun h5 => ?_)⟩
      · have h5 := of_decide_eq_true h5
        refine ⟨_, rfl, _, rfl, _, rfl, a, t1, l1, t2, l2, b, x, y, rfl, sA _ _ hA, bk1, bk2, lb.len, lx.len, ly.len, fun p8 H8 n8 s8 e8 => ?_⟩
        exact one _ p8 H2 H8 (merge_ahead hxb hc ap (by omega)) sA n8 s8 e8
      · have h5 := of_decide_eq_false (Bool.eq_false_iff.mpr h5)
        refine ⟨_, rfl, _, rfl, _, rfl, a, t2, l2, t1, l1, b, y, x, rfl, sA _ _ hA, bk2, bk1, lb.len, ly.len, lx.len, fun p8 H8 n8 s8 e8 => ?_⟩
        exact one _ p8 H2 H8 (merge_behind hxb hc ap (by omega)) sA n8 s8 e8
end
end K32

set_option Elab.async false
set_option linter.all false
set_option maxRecDepth 100000
set_option maxHeartbeats 4000000
namespace K32
open PySem L2 PySem.Spec
theorem for_itemsG {g : TG} {tb : TS} {D : Ends} {σ : St} {H1 : Hp} {d : Addr} {kvs : List (Key × V)} {ob : Obj} (Pv : Nat → St → Hp → Prop) (h0 : Pv 0 σ (upd H1 d (.frz ob (.dK kvs)))) (hf : ∀ i σ H, Pv i σ H → H d = some (.frz ob (.dK kvs)))
    (hs : ∀ i k v p σ H, kvs[i]? = some (k, v) → Pv i σ H → H p = none → g (.ref p) σ (upd H p (.tup [kV k, v])) fun σ2 H2 =>
      tb { nx := Pv (i + 1), ct := Pv (i + 1), bk := fun σ' H' => H' d = some (.frz ob (.dK kvs)) ∧ D.nx σ' (upd H' d (.dK kvs)), rt := fun v' H' => H' d = some (.frz ob (.dK kvs)) ∧ D.rt v' (upd H' d (.dK kvs)) } σ2 H2)
    (hd : ∀ σ H, Pv kvs.length σ H → D.nx σ (upd H d (.dK kvs))) : ∃ W : Nat → Nat → St → Hp → Prop, (∃ m, W 0 m σ (upd H1 d (.frz ob (.dK kvs)))) ∧ ∀ i m σ H, W i m σ H →
  H d = some (.frz ob (.dK kvs)) ∧ ((kvs.length ≤ i ∧ D.nx σ (upd H d (.dK kvs))) ∨ (i < kvs.length ∧ ∃ N : St → Hp → Prop, (∀ σ' H', N σ' H' → ∃ m', m' < m ∧ W (i + 1) m' σ' H') ∧
    ∀ k v p, kvs[i]? = some (k, v) → H p = none → g (.ref p) σ (upd H p (.tup [kV k, v])) fun σ2 H2 =>
      tb { nx := N, ct := N, bk := fun σ' H' => H' d = some (.frz ob (.dK kvs)) ∧ D.nx σ' (upd H' d (.dK kvs)), rt := fun v' H' => H' d = some (.frz ob (.dK kvs)) ∧ D.rt v' (upd H' d (.dK kvs)) } σ2 H2)) := by
  refine ⟨fun i m σ H => m = kvs.length - i ∧ i ≤ kvs.length ∧ Pv i σ H, ⟨kvs.length, by simp, Nat.zero_le _, h0⟩, ?_⟩
  rintro i m σ H ⟨rfl, hi, p⟩
  refine ⟨hf i σ H p, ?_⟩
  by_cases hlt : i < kvs.length
  · exact .inr ⟨hlt, Pv (i + 1), fun σ' H' p' => ⟨kvs.length - (i + 1), by omega, rfl, hlt, p'⟩, fun k v q hk hq => hs i k v q σ H hk p hq⟩
  · have e : i = kvs.length := by omega
    subst e
    exact .inl ⟨Nat.le_refl _, hd σ H p⟩
/-! ### what is chosen; the stand -/
noncomputable abbrev Ch := List (Str × List Int)
noncomputable def ChV (H : Hp) (kv : Key × V) (e : Str × List Int) : Prop := kv.1 = .inr e.1 ∧ ∃ m, kv.2 = .ref m ∧ H m = some (.tup (e.2.map V.int))
theorem ChV.same {H H' : Hp} (s : Same H H') {kv : Key × V} {e : Str × List Int} (h : ChV H kv e) : ChV H' kv e := h.elim fun a zq463 => zq463.elim fun m zq464 => zq464.elim fun b c => ⟨a, m, b, s _ _ c⟩
noncomputable def ChoAt (H : Hp) (c : Addr) (ch : Ch) : Prop := ∃ kvs, H c = some (.dK kvs) ∧ Paired (ChV H) kvs ch
theorem ChoAt.same {H H' : Hp} (s : Same H H') {c : Addr} {ch : Ch} (h : ChoAt H c ch) : ChoAt H' c ch := h.elim fun kvs zq465 => zq465.elim fun a b => ⟨kvs, s _ _ a, paired_mapP b fun _ _ => ChV.same s⟩
structure TxtT (K : PySem.W.Frag) (mg : Str → Option Value) (T : Addr) : Prop where
  cl : Cls K T
  nC : NoAttr K T "chosen"
  nH : NoAttr K T "choices"
  nO : NoAttr K T "own"
  mgC : mg "Stand" = some (.ref T)

/-! ### own changes -/
noncomputable abbrev Ow := List (Str × (List Str × List Str))
noncomputable def OwV (H : Hp) (kv : Key × V) (e : Str × (List Str × List Str)) : Prop := kv.1 = .inr e.1 ∧ ∃ t l1 l2, kv.2 = .ref t ∧ H t = some (.tup [.ref l1, .ref l2]) ∧ H l1 = some (.lst (e.2.1.map V.str)) ∧ H l2 = some (.lst (e.2.2.map V.str))
theorem OwV.same {H H' : Hp} (s : Same H H') {kv : Key × V} {e : Str × (List Str × List Str)} (h : OwV H kv e) : OwV H' kv e := h.elim fun a zq466 => zq466.elim fun t zq467 => zq467.elim fun l1 zq468 => zq468.elim fun l2 zq469 => zq469.elim fun b zq470 => zq470.elim fun c zq471 => zq471.elim fun d f => ⟨a, t, l1, l2, b, s _ _ c, s _ _ d, s _ _ f⟩
/-- .. all of it new -/
noncomputable def OwN (H H' : Hp) (kv : Key × V) (e : Str × (List Str × List Str)) : Prop := kv.1 = .inr e.1 ∧ ∃ t l1 l2, kv.2 = .ref t ∧ H t = none ∧ H l1 = none ∧ H l2 = none ∧ H' t = some (.tup [.ref l1, .ref l2]) ∧ H' l1 = some (.lst (e.2.1.map V.str)) ∧ H' l2 = some (.lst (e.2.2.map V.str))
theorem OwN.same {H H1 H2 : Hp} (s : ∀ b o, H1 b = some o → H b = none → H2 b = some o) {kv : Key × V} {e : Str × (List Str × List Str)} (h : OwN H H1 kv e) : OwN H H2 kv e := h.elim fun a zq472 => zq472.elim fun t zq473 => zq473.elim fun l1 zq474 => zq474.elim fun l2 zq475 => zq475.elim fun b zq476 => zq476.elim fun n1 zq477 => zq477.elim fun n2 zq478 => zq478.elim fun n3 zq479 => zq479.elim fun c zq480 => zq480.elim fun d f => ⟨a, t, l1, l2, b, n1, n2, n3, s _ _ c n1, s _ _ d n2, s _ _ f n3⟩
theorem OwN.put {H H1 : Hp} {d : Addr} {ks ks' : List (Key × V)} (hd : H1 d = some (.dK ks)) {kv : Key × V} {e : Str × (List Str × List Str)} (h : OwN H H1 kv e) : OwN H (upd H1 d (.dK ks')) kv e :=
  h.elim fun a zq481 => zq481.elim fun t zq482 => zq482.elim fun l1 zq483 => zq483.elim fun l2 zq484 => zq484.elim fun b zq485 => zq485.elim fun n1 zq486 => zq486.elim fun n2 zq487 => zq487.elim fun n3 zq488 => zq488.elim fun c zq489 => zq489.elim fun d' f => ⟨a, t, l1, l2, b, n1, n2, n3, keep_upd c (ne_of c hd (by intro z; cases z)), keep_upd d' (ne_of d' hd (by intro z; cases z)), keep_upd f (ne_of f hd (by intro z; cases z))⟩
noncomputable def OwnAt (H : Hp) (o : Addr) (ow : Ow) : Prop := ∃ kvs, H o = some (.dK kvs) ∧ Paired (OwV H) kvs ow
theorem OwnAt.same {H H' : Hp} (s : Same H H') {o : Addr} {ow : Ow} (h : OwnAt H o ow) : OwnAt H' o ow := h.elim fun kvs zq490 => zq490.elim fun a b => ⟨kvs, s _ _ a, paired_mapP b fun _ _ => OwV.same s⟩
noncomputable def StandAt (T : Addr) (H : Hp) (v : V) (ch : Ch) (ow : Ow) : Prop := ∃ a dx fl c h o, v = .ref a ∧ H a = some (.ins T dx fl) ∧ fl.lookup ("chosen" : Str) = some (.ref c) ∧ fl.lookup ("choices" : Str) = some (.ref h) ∧ fl.lookup ("own" : Str) = some (.ref o) ∧
  ChoAt H c ch ∧ H h = some (.dK []) ∧ OwnAt H o ow
theorem StandAt.same {T : Addr} {H H' : Hp} {v : V} {ch : Ch} {ow : Ow} (s : Same H H') (x : StandAt T H v ch ow) : StandAt T H' v ch ow := by
  obtain ⟨a, dx, fl, c, h, o, e, h1, h2, h3, h4, h5, h6, h7⟩ := x
  exact ⟨a, dx, fl, c, h, o, e, s _ _ h1, h2, h3, h4, h5.same s, s _ _ h6, h7.same s⟩
theorem putP_new {β : Type} {tr : List (Str × β)} {x : Str} {y : β} (h : x ∉ tr.map (·.1)) : putP tr x y = tr ++ [(x, y)] := by
  unfold putP
  rw [if_neg (fun z => h (any_key.mp z))]
section
variable {P : Program} {w : World} {K : PySem.W.Frag} {mg : Str → Option Value} {base : Heap}
noncomputable def spCCo : Sp := fun vs H Q _ => ∃ (o : Addr) (kvs : List (Key × V)) (ow : Ow), vs = [.ref o] ∧ H o = some (.dK kvs) ∧ Paired (OwV H) kvs ow ∧ (ow.map (·.1)).Nodup ∧ ow.length ≤ 100 ∧
  ∀ d H' kvs', H d = none → Same H H' → H' d = some (.dK kvs') → Paired (OwN H H') kvs' ow → Q (.ref d) H'
theorem scCCo : FnScope ["own", "copied", "path", "change"] ["own"] (defScope sCCo) := ⟨rfl, rfl, rfl, by decide +kernel, rfl, by decide +kernel, by decide +kernel⟩
theorem okCCo {f : Addr} {fd : FuncData} (F : Fun K "changes_copied" "changes_copied" sCCo f fd) (B : Blt mg) : FnOk P w K mg base CX0 1 f fd ["own"] spCCo := by
  refine F.ok scCCo (fun vs H Q E h => ?_) (fun cdv A outer s H vs Q E hr h => ?_)
  · obtain ⟨o, kvs, ow, rfl, _⟩ := h
    rfl
  · refine letX ?_
    intro xX dX
    obtain ⟨o, kvs, ow, rfl, ho, pr, nd, l100, q⟩ := h
    have hu := hr.units
    refine ⟨_, (pss_cons (ps_set (i := 1) scCCo.nd rfl (Or.inl rfl) pe_dnewN)
        (pss_cons (ps_forItems PassesOwn.never rfl (pv 0) (pg_tup rfl (pgs_cons (pg_name (i := 2) scCCo.nd rfl (Or.inl rfl)) (pgs_cons (pg_name (i := 3) scCCo.nd rfl (Or.inl rfl)) pgs_nil)))
        (pss_one (ps_dput hu (pv 1) (pv 2) (pe_tupN (pa_cons (pe_callTy call_listN (by rfl) B.list PyProof.Rows.boot_list (pa_cons (pe_ix ix_tup (pv 3) pe_int (fun _ _ => rfl)) pa_nil)) (pa_cons (pe_callTy call_listN (by rfl) B.list PyProof.Rows.boot_list (pa_cons (pe_ix ix_tup (pv 3) pe_int (fun _ _ => rfl)) pa_nil)) pa_nil))) rfl)))
        (pss_one (ps_ret (pv 1))))), ?_⟩
    refine lets3 ?_
    intro dD sS uU3 uU2
    have hk : ∀ (H' : Hp) kv f, OwN H H' kv f → kv.1 = Sum.inr f.1 := fun _ kv f z => z.1
    refine fun d H1 n1 s1 e1 => ?_
    have od : d ≠ o := (ne_of_none ho n1).symm
    refine ⟨_, rfl, o, kvs, rfl, s1 _ _ ho, fun ob => ?_⟩
    refine for_itemsG (fun i σ H5 => ∃ u v kvs2, σ = [some (.ref o), some (.ref d), u, v] ∧ (∀ b x, H b = some x → b ≠ o → H5 b = some x) ∧ (∀ b, H5 b = none → H b = none) ∧ H5 o = some (.frz ob (.dK kvs)) ∧ H5 d = some (.dK kvs2) ∧ Paired (OwN H H5) kvs2 (ow.take i))
      ⟨none, none, [], rfl, fun b x e hb => keep_upd (s1 _ _ e) hb, fun b e => s1.free (free_upd e).2, upd_same, keep_upd e1 od, .nil⟩ ?_ ?_ ?_
    · intro i σ H5 hQ1
      refine letG ?_
      intro tT
      obtain ⟨u, v, kvs2, rfl, _, _, h, _⟩ := hQ1
      exact h
    · intro i k v p σ H5 hi hQ2 hp
      refine letG ?_
      intro tT
      obtain ⟨u, v', kvs2, rfl, k5, f5, h5, hd5, pr5⟩ := hQ2
      first | (refine letB (g := gName _) ?_; intro eQ sQ) | (refine letB (g := gTup _ _ _) ?_; intro eQ sQ) | skip
      obtain ⟨⟨x, b1, m1⟩, hf, a1, t, l1, l2, a2, a3, a4, a5⟩ := paired_get' pr hi
      have a1 : k = .inr x := a1
      have a2 : v = .ref t := a2
      subst a1 a2
      have hlt := (List.getElem?_eq_some_iff.mp hf).1
      have sp : Same H5 (upd H5 p (.tup [kV (.inr x), .ref t])) := same_upd hp
      have K5 : ∀ {b : Addr} {z : HO}, H b = some z → (∀ ks, z ≠ .dK ks) → (upd H5 p (.tup [kV (.inr x), .ref t])) b = some z := fun {b z} e hz => sp _ _ (k5 _ _ e (ne_of e ho (hz _)))
      have T5 := K5 a3 (by intro ks z; cases z)
      have L5 := K5 a4 (by intro ks z; cases z)
      have M5 := K5 a5 (by intro ks z; cases z)
      have z0 : atI [V.ref l1, V.ref l2] 0 = some (V.ref l1) := rfl
      have z1 : atI [V.ref l1, V.ref l2] 1 = some (V.ref l2) := rfl
      refine ⟨p, _, rfl, SqT.of upd_same, rfl, _, _, rfl, _, _, rfl, rfl, ?_⟩
      refine ⟨_, rfl, t, _, _, _, rfl, rfl, SqT.of T5, z0, l1, _, rfl, .inl (SqL.of L5), fun q1 H6 n6 s6 e6 => ?_⟩
      refine ⟨_, rfl, t, _, _, _, rfl, rfl, SqT.of (s6 _ _ T5), z1, l2, _, rfl, .inl (SqL.of (s6 _ _ M5)), fun q2 H7 n7 s7 e7 => ?_⟩
      refine ⟨(by show 2 ≤ sizeLine; decide), fun q3 H8 n8 s8 e8 => ?_⟩
      have s58 := sp.trans (s6.trans (s7.trans s8))
      have pl := paired_len pr5
      rw [List.length_take] at pl
      refine ⟨_, rfl, _, rfl, d, _, rfl, DPut.k (k := .inr x) (s58 _ _ hd5) (small1000 (by omega)), ?_⟩
      have hxn : x ∉ (ow.take i).map (·.1) := by
        rw [List.map_take]
        intro hm
        obtain ⟨j, hj, ej⟩ := List.mem_iff_getElem.mp hm
        rw [List.length_take, List.length_map] at hj
        rw [List.getElem_take] at ej
        have e1 : (ow.map (·.1))[j]? = some x := by rw [List.getElem?_eq_getElem (by rw [List.length_map]; omega), ej]
        have e2 : (ow.map (·.1))[i]? = some x := by rw [List.getElem?_map, hf]; rfl
        have := (List.getElem?_inj (l := ow.map (·.1)) (i := j) (j := i) (by rw [List.length_map]; omega) nd).mp (by rw [e1, e2])
        omega
      have hf8 : ∀ b, H8 b = none → H b = none := fun b e => f5 b (s58.free e)
      refine ⟨_, _, _, rfl, fun b z e hb => ?_, fun b e => hf8 b (free_upd e).2, keep_upd (s58 _ _ h5) od.symm, upd_same, ?_⟩
      · rw [upd_ne (fun y => by rw [y, n1] at e; cases e)]
        exact s58 _ _ (k5 _ _ e hb)
      · rw [List.take_add_one, hf]
        have := paired_put (F := OwN H H8) (hk H8) (x := x) (ls := (b1, m1)) (v := .ref q3) ⟨rfl, q3, q1, q2, rfl, f5 _ (sp.free (s6.free (s7.free n8))), f5 _ (sp.free n6), f5 _ (sp.free (s6.free n7)), e8, s8 _ _ (s7 _ _ e6), s8 _ _ e7⟩ (paired_mapP pr5 fun _ _ => OwN.same fun b z e _ => s58 _ _ e)
        rw [putP_new hxn] at this
        exact paired_mapP this fun _ _ => OwN.put (s58 _ _ hd5)
    · intro σ H5 hQ3
      refine letG ?_
      intro tT
      obtain ⟨u, v, kvs2, rfl, k5, f5, h5, hd5, pr5⟩ := hQ3
      first | (refine letB (g := gName _) ?_; intro eQ sQ) | (refine letB (g := gTup _ _ _) ?_; intro eQ sQ) | skip
      rw [paired_len pr, List.take_length] at pr5
      refine ⟨_, rfl, q d _ kvs2 n1 (fun b z e => ?_) (keep_upd hd5 od) (paired_mapP pr5 fun _ _ => OwN.same fun b z e hb => keep_upd e (fun y => by rw [y, ho] at hb; cases hb))⟩
      by_cases hb : b = o
      · subst hb
        rw [ho] at e
        cases e
        exact upd_same
      · exact keep_upd (k5 b z e hb) hb

noncomputable def spTIn (T : Addr) : Sp := fun vs H Q _ => ∃ (x dx c h o : Addr) (kvs : List (Key × V)) (ow : Ow), vs = [.ref x, .ref c, .ref h, .ref o] ∧ H x = some (.ins T dx []) ∧ H c = some (.dK kvs) ∧ H h = some (.dK []) ∧ OwnAt H o ow ∧ (ow.map (·.1)).Nodup ∧ ow.length ≤ 100 ∧
  ∀ (H' : Hp) (fl : List (Str × V)) (c' h' o' : Addr) (ko : List (Key × V)), (∀ b o, H b = some o → b ≠ x → H' b = some o) → H' x = some (.ins T dx fl) → fl.lookup ("chosen" : Str) = some (.ref c') → fl.lookup ("choices" : Str) = some (.ref h') → fl.lookup ("own" : Str) = some (.ref o') →
    H c' = none → H h' = none → H o' = none → H' c' = some (.dK kvs) → H' h' = some (.dK []) → H' o' = some (.dK ko) → Paired (OwN H H') ko ow → Q .non H'
theorem scTIn : FnScope ["self", "chosen", "choices", "own"] ["self", "chosen", "choices", "own"] (defScope sTIn) := ⟨rfl, rfl, rfl, by decide +kernel, rfl, by decide +kernel, by decide +kernel⟩
theorem Stage.over {C dx x : Addr} {H Hk Hj : Hp} {fl : List (Str × V)} (S : Stage C dx x H Hk fl) (s : Same Hk Hj) : Stage C dx x H Hj fl := ⟨fun b o e hb => s _ _ (S.same b o e hb), fun b e => S.free b (s.free e), s _ _ S.ob⟩
theorem okTIn {f T fCCo : Addr} {fd fdCCo : FuncData} (F : Fun K "__init__" "Stand.__init__" sTIn f fd) (U : TxtT K mg T) (B : Blt mg) (FCCo : Fun K "changes_copied" "changes_copied" sCCo fCCo fdCCo) (mCCo : mg "changes_copied" = some (.ref fCCo)) :
    FnOk P w K mg base CX0 2 f fd ["self", "chosen", "choices", "own"] (spTIn T) := by
  have GCCo : FnOk P w K mg base CX0 1 fCCo fdCCo ["own"] spCCo := okCCo FCCo B
  have bCCo := FCCo.binds1 (l := ["own"]) (fun _ _ _ _ _ _ _ => rfl)
  refine F.ok scTIn (fun vs H Q E h => ?_) (fun cdv A outer s H vs Q E hr h => ?_)
  · obtain ⟨x, dx, c, h, o, kvs, ow, rfl, _⟩ := h
    rfl
  · refine letX ?_
    intro xX dX
    obtain ⟨x, dx, c, h, o, kvs, ow, rfl, hx, hc, hh, ho, nd, l100, q⟩ := h
    refine ⟨_, (pss_cons (ps_fld (pv 0) (pe_callTy call_dictN (by rfl) B.dict PyProof.Rows.boot_dict (pa_cons (pv 1) pa_nil)) rfl)
        (pss_cons (ps_fld (pv 0) (pe_callTy call_dictN (by rfl) B.dict PyProof.Rows.boot_dict (pa_cons (pv 2) pa_nil)) rfl)
        (pss_one (ps_fld (pv 0) (pe_call GCCo hr rfl mCCo FCCo.kp bCCo .nil pass0 (pa_cons (pv 3) pa_nil)) rfl)))), ?_⟩
    refine lets3 ?_
    intro dD sS uU3 uU2
    have S0 : Stage T dx x H H [] := ⟨fun _ _ e _ => e, fun _ e => e, hx⟩
    have ch : ∀ {b : Addr} {ks : List (Key × V)}, H b = some (.dK ks) → b ≠ x := fun e => ne_of e hx (by intro z; cases z)
    refine ⟨_, rfl, c, _, rfl, hc, fun c1 H1 n1 s1 e1 => ?_⟩
    have S1 := S0.over s1
    refine ⟨_, rfl, x, T, dx, _, rfl, S1.ob, U.cl, U.nC, (by decide), ?_⟩
    have S2 : Stage T dx x H _ (putF "chosen" (.ref c1) []) := S1.put
    have c1x : c1 ≠ x := (ne_of_none hx n1).symm
    have c2 : (upd H1 x (.ins T dx (putF "chosen" (.ref c1) []))) c1 = some (.dK kvs) := keep_upd e1 c1x
    refine ⟨_, rfl, h, _, rfl, S2.same _ _ hh (ch hh), fun h1 H3 n3 s3 e3 => ?_⟩
    have S3 := S2.over s3
    have hn3 := S2.free _ n3
    refine ⟨_, rfl, x, T, dx, _, rfl, S3.ob, U.cl, U.nH, few (lp len0) (by decide), ?_⟩
    have S4 : Stage T dx x H _ (putF "choices" (.ref h1) (putF "chosen" (.ref c1) [])) := S3.put
    have h1x : h1 ≠ x := (ne_of_none hx hn3).symm
    obtain ⟨ko, ko1, ko2⟩ := ho
    have pr4 : Paired (OwV (upd H3 x (.ins T dx (putF "choices" (.ref h1) (putF "chosen" (.ref c1) []))))) ko ow := paired_mapP ko2 fun kv e z => by
      obtain ⟨z1, t, l1, l2, z2, z3, z4, z5⟩ := z
      exact ⟨z1, t, l1, l2, z2, S4.same _ _ z3 (ne_of z3 hx (by intro z; cases z)), S4.same _ _ z4 (ne_of z4 hx (by intro z; cases z)), S4.same _ _ z5 (ne_of z5 hx (by intro z; cases z))⟩
    refine ⟨_, rfl, o, ko, ow, rfl, S4.same _ _ ko1 (ch ko1), pr4, nd, l100, fun o1 H5 ko' n5 s5 e5 pr5 => ?_⟩
    have S5 := S4.over s5
    have hn5 := S4.free _ n5
    refine ⟨_, rfl, x, T, dx, _, rfl, S5.ob, U.cl, U.nO, few (lp (lp len0)) (by decide), ?_⟩
    have o1x : o1 ≠ x := (ne_of_none hx hn5).symm
    have S6 : Stage T dx x H _ (putF "own" (.ref o1) (putF "choices" (.ref h1) (putF "chosen" (.ref c1) []))) := S5.put
    refine q _ _ c1 h1 o1 ko' S6.same S6.ob ?_ ?_ ?_ n1 hn3 hn5 (keep_upd (s5 _ _ (keep_upd (s3 _ _ c2) c1x)) c1x) (keep_upd (s5 _ _ (keep_upd e3 h1x)) h1x) (keep_upd e5 o1x) (paired_mapP pr5 fun kv e z => ?_)
    · rw [lookup_putF, if_neg (by decide +kernel), lookup_putF, if_neg (by decide +kernel), lookup_putF, if_pos rfl]
    · rw [lookup_putF, if_neg (by decide +kernel), lookup_putF, if_pos rfl]
    · rw [lookup_putF, if_pos rfl]
    · obtain ⟨z1, t, l1, l2, z2, m1, m2, m3, z3, z4, z5⟩ := z
      have fx : ∀ {b : Addr} {z : HO}, H5 b = some z → (∀ fs, z ≠ .ins T dx fs) → b ≠ x := fun e hz => ne_of e S5.ob (hz _)
      exact ⟨z1, t, l1, l2, z2, S4.free _ m1, S4.free _ m2, S4.free _ m3, keep_upd z3 (fx z3 (by intro fs z; cases z)), keep_upd z4 (fx z4 (by intro fs z; cases z)), keep_upd z5 (fx z5 (by intro fs z; cases z))⟩
theorem make_standA {T : Addr} {H : Hp} {Q : Addr → Hp → Prop} {E : XK} {c h o : Addr} {ch : Ch} {ow : Ow} (hc : ChoAt H c ch) (hh : H h = some (.dK [])) (ho : OwnAt H o ow) (nd : (ow.map (·.1)).Nodup) (l100 : ow.length ≤ 100) (q : ∀ x H', H x = none → Same H H' → (∀ L, Busy H L → StandAt T (msk L H') (.ref x) ch ow) → Q x H') :
    ∀ x dx, H x = none → H dx = none → dx ≠ x → spTIn T (.ref x :: ([.ref c, .ref h, .ref o] ++ [])) (upd (upd H dx (.own x)) x (.ins T dx [])) (fun v H2 => v = .non ∧ Q x H2) E := by
  intro x dx hx hdx nx
  have s1 : Same H (upd (upd H dx (.own x)) x (.ins T dx [])) := same_upd' (same_upd hdx) hx
  obtain ⟨kvs, e1, e2⟩ := hc
  refine ⟨x, dx, c, h, o, kvs, ow, rfl, upd_same, s1 _ _ e1, s1 _ _ hh, ho.same s1, nd, l100, fun H' fl c' h' o' ko keep hob l1 l2 l3 n1 n2 n3 g1 g2 g3 g4 => ?_⟩
  have s2 : Same H H' := fun b o e => keep b o (s1 _ _ e) (ne_of_none e hx)
  refine ⟨rfl, q x H' hx s2 fun L hL => ⟨x, dx, fl, c', h', o', rfl, msk_at (hL.free hx) hob, l1, l2, l3, ⟨kvs, msk_at (hL.free (s1.free n1)) g1, paired_mapP e2 fun kv e z => ?_⟩, msk_at (hL.free (s1.free n2)) g2, ⟨ko, msk_at (hL.free (s1.free n3)) g3, paired_mapP g4 fun kv e z => ?_⟩⟩⟩
  · obtain ⟨a, m, b, c⟩ := z
    exact ⟨a, m, b, msk_at (hL.tup c) (s2 _ _ c)⟩
  · obtain ⟨z1, t, l1, l2, z2, m1, m2, m3, z3, z4, z5⟩ := z
    exact ⟨z1, t, l1, l2, z2, msk_at (hL.free (s1.free m1)) z3, msk_at (hL.free (s1.free m2)) z4, msk_at (hL.free (s1.free m3)) z5⟩
/-! ### the parcels of a set -/
noncomputable def Inn (xs : List V) (ps : List Pcl) (v : V) (p : Pcl) : Prop := ∃ j : Nat, ps[j]? = some p ∧ xs[j]? = some v
noncomputable def Valid (xs : List V) (ps : List Pcl) (ch : Ch) : Prop := ∀ e ∈ ch, ∃ v p, Inn xs ps v p ∧ p.nm = e.1 ∧ p.ms = e.2
noncomputable def spPsO (S : Addr) : Sp := fun vs H Q _ => ∃ (sv : V) (c : Addr) (xs : List V) (ps : List Pcl) (ch : Ch), vs = [sv, .ref c] ∧ ShelfAt S H sv xs ps ∧ ChoAt H c ch ∧ Valid xs ps ch ∧ ch.length < 64 ∧
  ∀ D H' vs' ps', H D = none → Same H H' → H' D = some (.lst vs') → Paired (Inn xs ps) vs' ps' → (ps'.map (·.nm)).Perm (ch.map (·.1)) → (∀ p ∈ ps', (p.nm, p.ms) ∈ ch) → Q (.ref D) H'
theorem scPsO : FnScope ["shelf", "chosen"] ["shelf", "chosen"] (defScope sPsO) := ⟨rfl, rfl, rfl, by decide +kernel, rfl, by decide +kernel, by decide +kernel⟩
theorem okPsO {f S fSPa : Addr} {fd fdSPa : FuncData} (F : Fun K "parcels_of" "parcels_of" sPsO f fd) (B : Blt mg) (U : TxtS K mg S fSPa) (FSPa : Fun K "parcel" "Shelf.parcel" sSPa fSPa fdSPa) : FnOk P w K mg base CX0 2 f fd ["shelf", "chosen"] (spPsO S) := by
  have GSPa : FnOk P w K mg base CX0 1 fSPa fdSPa ["self", "name", "make"] (spSPa K S) := okSPa FSPa U
  have bSPa := FSPa.binds3 (l := ["self", "name", "make"]) (fun _ _ _ _ _ _ _ _ _ => rfl)
  refine F.ok scPsO (fun vs H Q E h => ?_) (fun cdv A outer s H vs Q E hr h => ?_)
  · obtain ⟨sv, c, xs, ps, ch, rfl, _⟩ := h
    rfl
  · refine letX ?_
    intro xX dX
    obtain ⟨sv, c, xs, ps, ch, rfl, hS, hC, hV, h64, q⟩ := h
    have hu := hr.units
    obtain ⟨kvs, e1, e2⟩ := id hC
    have hk : ∀ kv f, ChV H kv f → kv.1 = Sum.inr f.1 := fun kv f z => z.1
    have kl := paired_len e2
    refine ⟨_, (pss_one (ps_ret (pe_compF ["name"] ["shelf", "chosen"] [0, 1] ⟨rfl, by decide +kernel, by decide +kernel, by decide +kernel, by decide +kernel, rfl, rfl, rfl⟩ rfl (pi_list (pe_callB (call_sortedD rfl) (by rfl) B.sorted PyProof.Rows.boot_sorted (pa_cons (pv 1) pa_nil))) (fun _ _ _ _ => (pg_name (i := 0) (show List.Nodup (["name", "shelf", "chosen"] : List Str) by decide +kernel) rfl (Or.inl rfl))) (fun _ _ _ _ => pts_nil) (fun _ _ _ _ => (pe_meth (pv 1) U.cl U.mP GSPa hr bSPa .nil pass0 (pa_cons (pv 0) (pa_cons (pe_dget hu (pv 2) (pv 0) (fun _ _ => rfl)) pa_nil))))))), ?_⟩
    refine ⟨_, rfl, c, kvs, _, rfl, e1, keysS_of hk e2, by omega, fun ys hp hs a H1 n1 s1 a1 => ?_⟩
    refine ⟨a, rfl, ⟨_, SqL.of a1⟩, ?_⟩
    refine comp_list0 (σ0 := [none, some sv, some (.ref c)]) (SqL.of a1) (fun σ => ∃ v, σ = [v, some sv, some (.ref c)]) (fun i zs _ => ∃ ps', Paired (Inn xs ps) zs ps' ∧ ps'.map (·.nm) = ys.take i ∧ ∀ p ∈ ps', (p.nm, p.ms) ∈ ch) ⟨_, rfl⟩ (fun _ _ => ⟨[], .nil, rfl, fun _ h => nomatch h⟩) ?_ ?_
    · intro D i x zs σ H2 k hD hi hQ4 hd h2 hQ5 hk'
      refine letG ?_
      intro tT
      obtain ⟨v, rfl⟩ := hQ4
      obtain ⟨ps', pr, pn, pc⟩ := hQ5
      first | (refine letB (g := gName _) ?_; intro eQ sQ) | (refine letB (g := gTup _ _ _) ?_; intro eQ sQ) | skip
      rw [List.getElem?_map] at hi
      cases hy : ys[i]? with
      | none => rw [hy] at hi; cases hi
      | some y =>
        rw [hy] at hi
        cases hi
        have hym : y ∈ ch.map (·.1) := hp.mem_iff.mp (List.mem_of_getElem? hy)
        obtain ⟨u, ms, g1, g2, _, m, rfl, g3⟩ := paired_val hk e2 hym
        obtain ⟨v2, p, hin, en, em⟩ := hV _ g2
        obtain ⟨j, j1, j2⟩ := id hin
        have en : p.nm = y := en
        have em : p.ms = ms := em
        subst en em
        obtain ⟨sa, dx, fl, d, kk, rfl, b1, b2, b3, b4, b5⟩ := hS.same (s1.trans h2)
        have s12 := s1.trans h2
        refine ⟨_, rfl, sa, dx, fl, rfl, b1, b3, _, rfl, _, rfl, _, rfl, c, _, rfl, (by rw [← g1]; exact DGet.k (k := .inr p.nm) (s12 _ _ e1)), ?_⟩
        refine ⟨_, v2, m, xs, ps, j, p, rfl, ⟨sa, dx, fl, d, kk, rfl, b1, b2, b3, b4, b5⟩, j1, j2, s12 _ _ g3, fun H3 s3 => ?_⟩
        have hl : zs.length ≤ 64 := by
          have e := congrArg List.length pn
          rw [List.length_map, List.length_take] at e
          have := paired_len pr
          have := hp.length_eq
          rw [List.length_map] at this
          omega
        refine hk' _ _ _ ⟨_, rfl⟩ s3 (small1000 (by omega)) ⟨ps' ++ [p], paired_snoc hin pr, ?_, fun p' hp' => ?_⟩
        · rw [List.map_append, pn, List.take_add_one, hy]
          rfl
        · rcases List.mem_append.mp hp' with z | z
          · exact pc p' z
          · rw [List.mem_singleton.mp z]; exact g2
    · intro D zs H2 hD hd h2 hQ6
      refine letG ?_
      intro tT
      obtain ⟨ps', pr, pn, pc⟩ := hQ6
      first | (refine letB (g := gName _) ?_; intro eQ sQ) | (refine letB (g := gTup _ _ _) ?_; intro eQ sQ) | skip
      rw [List.length_map, List.take_length] at pn
      refine q D H2 zs ps' (s1.free hD) (s1.trans h2) hd pr ?_ pc
      rw [pn]
      exact hp

/-! ### what is brought -/
noncomputable def TrV (H H' : Hp) (kv : Key × V) (f : Str × List Str) : Prop := kv.1 = .inr f.1 ∧ ∃ l, kv.2 = .ref l ∧ H l = none ∧ H' l = some (.lst (f.2.map V.str))
theorem TrV.same {H H1 H2 : Hp} (s : Same H1 H2) {kv : Key × V} {f : Str × List Str} (h : TrV H H1 kv f) : TrV H H2 kv f := h.elim fun a zq491 => zq491.elim fun l zq492 => zq492.elim fun b zq493 => zq493.elim fun c d => ⟨a, l, b, c, s _ _ d⟩
theorem TrV.put {H H1 : Hp} {d : Addr} {ks ks' : List (Key × V)} (hd : H1 d = some (.dK ks)) {kv : Key × V} {f : Str × List Str} (h : TrV H H1 kv f) : TrV H (upd H1 d (.dK ks')) kv f := h.elim fun a zq494 => zq494.elim fun l zq495 => zq495.elim fun b zq496 => zq496.elim fun c e => ⟨a, l, b, c, keep_upd e (ne_of e hd (by intro z; cases z))⟩
noncomputable def filesOf (ps : List Pcl) : Tr := ps.flatMap (·.fs)
noncomputable def spBro (C : Addr) : Sp := fun vs H Q _ => ∃ (a : Addr) (xs : List V) (ps : List Pcl), vs = [.ref a] ∧ H a = some (.lst xs) ∧ PclsAt C H xs ps ∧ (filesOf ps).length ≤ 60 ∧
  ∀ d H' kvs tr, H d = none → Same H H' → H' d = some (.dK kvs) → Paired (TrV H H') kvs tr → Gath (filesOf ps) tr → Q (.ref d) H'
theorem scBro : FnScope ["parcels", "brought", "parcel", "path", "lines"] ["parcels"] (defScope sBro) := ⟨rfl, rfl, rfl, by decide +kernel, rfl, by decide +kernel, by decide +kernel⟩
theorem files_take {ps : List Pcl} {i : Nat} {p : Pcl} (h : ps[i]? = some p) : filesOf (ps.take (i + 1)) = filesOf (ps.take i) ++ p.fs := by
  unfold filesOf
  rw [List.take_add_one, h, List.flatMap_append]
  simp
theorem files_le {ps : List Pcl} {i : Nat} {p : Pcl} (h : ps[i]? = some p) (j : Nat) : (filesOf (ps.take i) ++ p.fs.take j).length ≤ (filesOf ps).length := by
  have e : filesOf ps = filesOf (ps.take (i + 1)) ++ filesOf (ps.drop (i + 1)) := by
    unfold filesOf
    rw [← List.flatMap_append, List.take_append_drop]
  rw [e, files_take h]
  simp only [List.length_append, List.length_take]
  omega
theorem okBro {f C : Addr} {fd : FuncData} (F : Fun K "brought_by" "brought_by" sBro f fd) (B : Blt mg) (T : Txt K mg C) : FnOk P w K mg base CX0 1 f fd ["parcels"] (spBro C) := by
  refine F.ok scBro (fun vs H Q E h => ?_) (fun cdv A outer s H vs Q E hr h => ?_)
  · obtain ⟨a, xs, ps, rfl, _⟩ := h
    rfl
  · refine letX ?_
    intro xX dX
    obtain ⟨a, xs, ps, rfl, ha, hps, h60, q⟩ := h
    have hu := hr.units
    refine ⟨_, (pss_cons (ps_set (i := 1) scBro.nd rfl (Or.inl rfl) pe_dnewN)
        (pss_cons (ps_for PassesOwn.never rfl (pi_list (pv 0)) (pg_name (i := 2) scBro.nd rfl (Or.inl rfl))
        (pss_one (ps_for PassesOwn.never rfl (pi_list (pe_fld (pv 2) rfl)) (pg_tup rfl (pgs_cons (pg_name (i := 3) scBro.nd rfl (Or.inl rfl)) (pgs_cons (pg_name (i := 4) scBro.nd rfl (Or.inl rfl)) pgs_nil)))
          (pss_one (ps_dput hu (pv 1) (pv 3) (pe_callTy call_listN (by rfl) B.list PyProof.Rows.boot_list (pa_cons (pv 4) pa_nil)) rfl)))))
        (pss_one (ps_ret (pv 1))))), ?_⟩
    refine lets3 ?_
    intro dD sS uU3 uU2
    have hk : ∀ (H' : Hp) kv f, TrV H H' kv f → kv.1 = Sum.inr f.1 := fun _ kv f z => z.1
    refine fun d H1 n1 s1 e1 => ?_
    refine ⟨_, rfl, a, rfl, ⟨_, SqL.of (s1 _ _ ha)⟩, ?_⟩
    refine for_list (xs := xs) (fun i σ H2 => ∃ u v z kvs tr, σ = [some (.ref a), some (.ref d), u, v, z] ∧ Same H H2 ∧ H2 d = some (.dK kvs) ∧ Paired (TrV H H2) kvs tr ∧ Gath (filesOf (ps.take i)) tr) ⟨none, none, none, [], [], rfl, s1, e1, .nil, gath0⟩ ?_ ?_ ?_
    · intro i σ H2 hi hQ7
      refine letG ?_
      intro tT
      obtain ⟨u, v, z, kvs, tr, rfl, s2, _⟩ := hQ7
      exact SqL.of (s2 _ _ ha)
    · intro i x σ H2 hx hQ8
      refine letG ?_
      intro tT
      obtain ⟨u, v, z, kvs, tr, rfl, s2, hd, hpr, g⟩ := hQ8
      first | (refine letB (g := gName _) ?_; intro eQ sQ) | (refine letB (g := gTup _ _ _) ?_; intro eQ sQ) | skip
      obtain ⟨p, hp, b, dy, fl, rk, m, pf, pn, pss, po, ys, rfl, h1, h2, h3, h4, h5, h6⟩ := paired_get' hps hx
      refine ⟨_, rfl, b, C, dy, _, _, rfl, s2 _ _ h1, T.cl, T.nF, h2.files, pf, rfl, ⟨_, SqL.of (s2 _ _ h4)⟩, ?_⟩
      refine for_list (xs := ys) (fun j σ H3 => ∃ v z kvs tr, σ = [some (.ref a), some (.ref d), some (.ref b), v, z] ∧ Same H H3 ∧ H3 d = some (.dK kvs) ∧ Paired (TrV H H3) kvs tr ∧ Gath (filesOf (ps.take i) ++ p.fs.take j) tr) ⟨v, z, kvs, tr, rfl, s2, hd, hpr, by rw [List.take_zero, List.append_nil]; exact g⟩ ?_ ?_ ?_
      · intro j σ H3 hj hQ9
        refine letG ?_
        intro tT
        obtain ⟨v, z, kvs, tr, rfl, s3, _⟩ := hQ9
        exact SqL.of (s3 _ _ h4)
      · intro j y σ H3 hy hQ10
        refine letG ?_
        intro tT
        obtain ⟨v, z, kvs, tr, rfl, s3, hd3, hpr3, g3⟩ := hQ10
        first | (refine letB (g := gName _) ?_; intro eQ sQ) | (refine letB (g := gTup _ _ _) ?_; intro eQ sQ) | skip
        obtain ⟨⟨px, ls⟩, hfj, t, l, rfl, t1, t2⟩ := paired_get' h5 hy
        refine ⟨t, _, rfl, SqT.of (s3 _ _ t1), rfl, _, _, rfl, _, _, rfl, rfl, ?_⟩
        refine ⟨_, rfl, l, _, rfl, .inl (SqL.of (s3 _ _ t2)), fun l' H4 n4 s4 e4 => ?_⟩
        have hlen := files_le hp j
        have glen := g3.len
        have plen := paired_len hpr3
        refine ⟨_, rfl, _, rfl, d, _, rfl, DPut.k (k := .inr px) (s4 _ _ hd3) (small1000 (by omega)), ?_⟩
        refine ⟨_, _, _, putP tr px ls, rfl, same_upd' (s3.trans s4) n1, upd_same, ?_, ?_⟩
        · refine paired_mapP (paired_put (F := TrV H H4) (hk H4) ⟨rfl, l', rfl, s3.free n4, e4⟩ (paired_mapP hpr3 fun _ _ => TrV.same s4)) fun kv f => TrV.put (s4 _ _ hd3)
        · rw [List.take_add_one, hfj]
          have := g3.step px ls
          rw [List.append_assoc] at this
          exact this
      · intro σ H3 hQ11
        refine letG ?_
        intro tT
        obtain ⟨v, z, kvs, tr, rfl, s3, hd3, hpr3, g3⟩ := hQ11
        first | (refine letB (g := gName _) ?_; intro eQ sQ) | (refine letB (g := gTup _ _ _) ?_; intro eQ sQ) | skip
        refine ⟨_, _, _, kvs, tr, rfl, s3, hd3, hpr3, ?_⟩
        rw [files_take hp]
        rw [paired_len h5, List.take_length] at g3
        exact g3
    · intro σ H2 hQ12
      refine letG ?_
      intro tT
      obtain ⟨u, v, z, kvs, tr, rfl, s2, hd, hpr, g⟩ := hQ12
      first | (refine letB (g := gName _) ?_; intro eQ sQ) | (refine letB (g := gTup _ _ _) ?_; intro eQ sQ) | skip
      rw [paired_len hps, List.take_length] at g
      exact ⟨_, rfl, q d H2 kvs tr n1 s2 hd hpr g⟩

noncomputable def spCom (C : Addr) : Sp := fun vs H Q _ => ∃ (a : Addr) (xs : List V) (ps : List Pcl), vs = [.ref a] ∧ H a = some (.lst xs) ∧ PclsAt C H xs ps ∧ (∀ p ∈ ps, p.os = []) ∧ New H (.lst []) Q
theorem scCom : FnScope ["parcels", "commons", "parcel"] ["parcels"] (defScope sCom) := ⟨rfl, rfl, rfl, by decide +kernel, rfl, by decide +kernel, by decide +kernel⟩
theorem okCom {f C : Addr} {fd : FuncData} (F : Fun K "commons_of" "commons_of" sCom f fd) (B : Blt mg) (T : Txt K mg C) : FnOk P w K mg base CX0 1 f fd ["parcels"] (spCom C) := by
  refine F.ok scCom (fun vs H Q E h => ?_) (fun cdv A outer s H vs Q E hr h => ?_)
  · obtain ⟨a, xs, ps, rfl, _⟩ := h
    rfl
  · refine letX ?_
    intro xX dX
    obtain ⟨a, xs, ps, rfl, ha, hps, h0, q⟩ := h
    refine ⟨_, (pss_cons (ps_set (i := 1) scCom.nd rfl (Or.inl rfl) (pe_lstN pa_nil))
        (pss_cons (ps_for PassesOwn.never rfl (pi_list (pv 0)) (pg_name (i := 2) scCom.nd rfl (Or.inl rfl))
        (pss_one (ps_expr (pe_bm PySem.F.plainAttrs_list PySem.F.slot_list_extend PySem.F.type_list_extend mt_extend (pv 1) (pa_cons (pe_fld (pv 2) rfl) pa_nil)))))
        (pss_one (ps_ret (pe_callB (call_sortedE rfl) (by rfl) B.sorted PyProof.Rows.boot_sorted (pa_cons (pe_callTy (call_setE rfl) (by rfl) B.set PyProof.Rows.boot_set (pa_cons (pv 1) pa_nil)) pa_nil)))))), ?_⟩
    refine lets3 ?_
    intro dD sS uU3 uU2
    refine ⟨(by show 0 ≤ sizeLine; decide), fun c H1 n1 s1 e1 => ?_⟩
    refine ⟨_, rfl, a, rfl, ⟨_, SqL.of (s1 _ _ ha)⟩, ?_⟩
    refine for_list (xs := xs) (fun i σ H2 => ∃ u, σ = [some (.ref a), some (.ref c), u] ∧ Same H H2 ∧ H2 c = some (.lst [])) ⟨none, rfl, s1, e1⟩ ?_ ?_ ?_
    · intro i σ H2 hi hQ13
      refine letG ?_
      intro tT
      obtain ⟨u, rfl, s2, _⟩ := hQ13
      exact SqL.of (s2 _ _ ha)
    · intro i x σ H2 hx hQ14
      refine letG ?_
      intro tT
      obtain ⟨u, rfl, s2, hc⟩ := hQ14
      first | (refine letB (g := gName _) ?_; intro eQ sQ) | (refine letB (g := gTup _ _ _) ?_; intro eQ sQ) | skip
      obtain ⟨p, hp, b, dy, fl, rk, m, pf, pn, pss, po, ys, rfl, h1, h2, h3, h4, h5, h6⟩ := paired_get' hps hx
      rw [h0 p (List.mem_of_getElem? hp)] at h6
      refine ⟨_, rfl, .inl ⟨rfl, _, SqL.of hc⟩, _, rfl, b, C, dy, _, _, rfl, s2 _ _ h1, T.cl, T.nO, h2.offers, c, po, [], [], rfl, rfl, hc, s2 _ _ h6, (by decide), ?_⟩
      exact ⟨_, rfl, same_upd' s2 n1, upd_same⟩
    · intro σ H2 hQ15
      refine letG ?_
      intro tT
      obtain ⟨u, rfl, s2, hc⟩ := hQ15
      first | (refine letB (g := gName _) ?_; intro eQ sQ) | (refine letB (g := gTup _ _ _) ?_; intro eQ sQ) | skip
      refine ⟨_, rfl, c, rfl, SqL.of hc, fun t H3 n3 s3 e3 => ?_⟩
      refine ⟨t, _, rfl, e3, fun r H4 n4 s4 e4 => ?_⟩
      exact q r H4 (s2.free (s3.free n4)) (s2.trans (s3.trans s4)) e4
end
end K32

set_option Elab.async false
set_option linter.all false
set_option maxRecDepth 100000
set_option maxHeartbeats 4000000
namespace K32
open PySem L2 PySem.Spec Lcp
noncomputable def DuV (H : Hp) (kv : Key × V) (f : Str × List Str) : Prop := kv.1 = .inr f.1 ∧ ∃ l, kv.2 = .ref l ∧ H l = some (.lst (f.2.map V.str))
theorem DuV.same {H H' : Hp} (s : Same H H') {kv : Key × V} {f : Str × List Str} (h : DuV H kv f) : DuV H' kv f := h.elim fun a zq497 => zq497.elim fun l zq498 => zq498.elim fun b c => ⟨a, l, b, s _ _ c⟩
theorem TrV.du {H H' : Hp} {kv : Key × V} {f : Str × List Str} (h : TrV H H' kv f) : DuV H' kv f := h.elim fun a zq499 => zq499.elim fun l zq500 => zq500.elim fun b zq501 => zq501.elim fun _ c => ⟨a, l, b, c⟩
noncomputable def ownS : Str := ".own"
/-- the files of one change -/
noncomputable def fcP (o : Option (List Str)) (p : Str) (b m : List Str) : Tr :=
  match o with
  | none => [(p, m)]
  | some br => (p, (merge b m br).1) :: (match (merge b m br).2 with | none => [] | some z => [(p ++ ownS, z)])
noncomputable def Look (tr : Tr) (p : Str) : Option (List Str) → Prop
  | none => p ∉ tr.map (·.1)
  | some ls => (p, ls) ∈ tr
section
variable {P : Program} {w : World} {K : PySem.W.Frag} {mg : Str → Option Value} {base : Heap}
noncomputable def spFoC : Sp := fun vs H Q _ => ∃ (p : Str) (t l1 l2 d : Addr) (kvs : List (Key × V)) (tr : Tr) (b m : List Str) (o : Option (List Str)), vs = [.str p, .ref t, .ref d] ∧ H t = some (.tup [.ref l1, .ref l2]) ∧ H l1 = some (.lst (b.map V.str)) ∧ H l2 = some (.lst (m.map V.str)) ∧ H d = some (.dK kvs) ∧ Paired (DuV H) kvs tr ∧
  (tr.map (·.1)).Nodup ∧ Look tr p o ∧ Lns b ∧ Lns m ∧ (∀ ls, o = some ls → Lns ls) ∧ p.length ≤ 60 ∧
  ∀ e H' more, H e = none → Same H H' → H' e = some (.dK more) → Paired (TrV H H') more (fcP o p b m) → Q (.ref e) H'
theorem scFoC : FnScope ["path", "change", "brought", "mine", "together", "files"] ["path", "change", "brought"] (defScope sFoC) := ⟨rfl, rfl, rfl, by decide +kernel, rfl, by decide +kernel, by decide +kernel⟩
theorem okFoC {f fPut : Addr} {fd fdPut : FuncData} (F : Fun K "files_of_change" "files_of_change" sFoC f fd) (B : Blt mg) (FPut : Fun K "put_together" "put_together" sPut fPut fdPut) (mPut : mg "put_together" = some (.ref fPut)) (GPut : FnOk P w K mg base CX0 3 fPut fdPut ["base", "own", "new"] spPut) :
    FnOk P w K mg base CX0 4 f fd ["path", "change", "brought"] spFoC := by
  have bPut := FPut.binds3 (l := ["base", "own", "new"]) (fun _ _ _ _ _ _ _ _ _ => rfl)
  refine F.ok scFoC (fun vs H Q E h => ?_) (fun cdv A outer s H vs Q E hr h => ?_)
  · obtain ⟨p, t, l1, l2, d, kvs, tr, b, m, o, rfl, _⟩ := h
    rfl
  · refine letX ?_
    intro xX dX
    obtain ⟨p, t, l1, l2, d, kvs, tr, b, m, o, rfl, ht, hb, hm, hd, pr, nd, lo, Lb, Lm, Lo, p60, q⟩ := h
    have hu := hr.units
    have hk : ∀ kv f, DuV H kv f → kv.1 = Sum.inr f.1 := fun kv f z => z.1
    have z0 : atI [V.ref l1, V.ref l2] 0 = some (V.ref l1) := rfl
    have z1 : atI [V.ref l1, V.ref l2] 1 = some (V.ref l2) := rfl
    have lo4 : ownS.length = 4 := by decide +kernel
    refine ⟨_, (pss_cons (ps_set (i := 3) scFoC.nd rfl (Or.inl rfl) (pe_ix ix_tup (pv 1) pe_int (fun _ _ => rfl)))
        (pss_cons (ps_if (pt_cmp (pc_dnotin hu (pv 0) (pv 2)) (by rfl))
          (pss_one (ps_ret (pe_disp (pps_cons (pv 0) (pe_callTy call_listN (by rfl) B.list PyProof.Rows.boot_list (pa_cons (pv 3) pa_nil)) pps_nil) rfl rfl (by intro z; cases z) (by decide)))) pss_nil)
        (pss_cons (ps_set (i := 4) scFoC.nd rfl (Or.inl rfl) (pe_call GPut hr rfl mPut FPut.kp bPut .nil pass0 (pa_cons (pe_ix ix_tup (pv 1) pe_int (fun _ _ => rfl)) (pa_cons (pv 3) (pa_cons (pe_dget hu (pv 2) (pv 0) (fun _ _ => rfl)) pa_nil)))))
        (pss_cons (ps_set (i := 5) scFoC.nd rfl (Or.inl rfl) (pe_disp (pps_cons (pv 0) (pe_ix ix_tup (pv 4) pe_int (fun _ _ => rfl)) pps_nil) rfl rfl (by intro z; cases z) (by decide)))
        (pss_cons (ps_if (pt_cmpR op_notN (pe_ix ix_tup (pv 4) pe_int (fun _ _ => rfl)) pe_non (nomark _))
          (pss_one (ps_dput hu (pv 5) (pe_join2 (pe_fmt (pv 0)) pe_str) (pe_ix ix_tup (pv 4) pe_int (fun _ _ => rfl)) rfl)) pss_nil)
        (pss_one (ps_ret (pv 5)))))))), ?_⟩
    refine lets6 ?_
    intro dD sS uU6 uU5 uU4 uU3 uU2
    refine ⟨_, rfl, t, _, _, _, rfl, rfl, SqT.of ht, z1, ?_⟩
    refine ⟨_, rfl, _, rfl, d, _, rfl, DGet.k (k := .inr p) hd, _, rfl, ?_⟩
    cases o with
    | none =>
      rw [paired_none hk pr lo]
      refine iteT ?_
      refine fun e he => ⟨_, rfl, _, rfl, l2, _, rfl, .inl (SqL.of (same_upd he _ _ hm)), fun q1 H2 n2 s2 e2 => ?_⟩
      have sH := (same_upd (o := .dK []) he).trans s2
      have ee := s2 _ _ (upd_same (H := H) (a := e) (o := .dK []))
      refine ⟨ee, [(.inr p, .ref q1)], rfl, (by show 1 ≤ 15; decide), ?_⟩
      exact q e _ [(.inr p, .ref q1)] he (same_upd' sH he) upd_same (.cons ⟨rfl, q1, rfl, (free_upd n2).2, keep_upd e2 (free_upd n2).1⟩ .nil)
    | some ls =>
      obtain ⟨v, ls', g1, g2, _, lb, rfl, g3⟩ := paired_val hk pr (List.mem_map_of_mem (f := (·.1)) lo)
      have els := nodup_fun nd lo g2
      subst els
      rw [g1]
      refine iteF ?_
      refine ⟨_, rfl, t, _, _, _, rfl, rfl, SqT.of ht, z0, _, rfl, _, rfl, _, rfl, d, .ref lb, rfl, (by rw [← g1]; exact DGet.k (k := .inr p) hd), ?_⟩
      refine ⟨l1, l2, lb, b, m, ls, rfl, hb, hm, g3, Lb, Lm, Lo ls rfl, fun t2 l r H3 nt nl nr s3 pa => ?_⟩
      refine fun e he => ⟨_, rfl, _, rfl, t2, _, _, _, rfl, rfl, SqT.of (same_upd he _ _ pa.tup), (rfl : atI [V.ref l, r] 0 = some (V.ref l)), ?_⟩
      refine ⟨upd_same, [(.inr p, .ref l)], rfl, (by show 1 ≤ 15; decide), ?_⟩
      have he0 := s3.free he
      have sH : Same H (upd (upd H3 e (.dK [])) e (.dK (mergeK [] [(.inr p, .ref l)]))) := same_upd' (same_upd' s3 he0) he0
      have s34 : ∀ {b : Addr} {z : HO}, H3 b = some z → (upd (upd H3 e (.dK [])) e (.dK (mergeK [] [(.inr p, .ref l)]))) b = some z := fun {b z} h => keep_upd (keep_upd h (ne_of_none h he)) (ne_of_none h he)
      have pt := s34 pa.tup
      have pl := s34 pa.lst
      have pe : (upd (upd H3 e (.dK [])) e (.dK (mergeK [] [(.inr p, .ref l)]))) e = some (.dK [(.inr p, .ref l)]) := upd_same
      refine ⟨_, rfl, t2, _, _, r, rfl, rfl, SqT.of pt, rfl, rfl, _, rfl, ?_⟩
      have bes := pa.bes
      revert bes
      cases hm2 : (merge b m ls).2 with
      | none =>
        intro bes
        have bes : r = .non := bes
        subst bes
        refine iteNS rfl ?_
        refine ⟨_, rfl, q e _ _ he0 sH pe ?_⟩
        unfold fcP
        dsimp only
        rw [hm2]
        exact .cons ⟨rfl, l, rfl, nl, pl⟩ .nil
      | some z =>
        intro bes
        obtain ⟨lz, rfl, hz⟩ := bes
        refine iteND (fun e => by cases e) ?_
        have pz := s34 hz
        have ro : p ++ Str.ofString ".own" = p ++ ownS := rfl
        have lo5 : (Str.ofString ".own").length = 4 := lo4
        refine ⟨_, rfl, t2, _, _, _, rfl, rfl, SqT.of pt, (rfl : atI [V.ref l, V.ref lz] 1 = some (V.ref lz)), _, rfl, _, rfl, p, rfl, fit1 (by omega), p, rfl, fit1 (by omega), Str.ofString ".own", rfl, fit (by omega) (by omega), ?_⟩
        refine ⟨e, _, rfl, DPut.k (k := .inr (p ++ ownS)) pe (by show 1 < sizeLine; decide), ?_⟩
        have hne : ¬ (Sum.inr p : Key) = Sum.inr (p ++ ownS) := by
          intro z
          have z := congrArg Str.length (Sum.inr.inj z)
          rw [len_app] at z
          omega
        refine ⟨_, rfl, q e _ _ he0 (same_upd' sH he0) upd_same ?_⟩
        rw [putK_new _ (by rw [valV_neg hne]; rfl)]
        unfold fcP
        dsimp only
        rw [hm2]
        exact .cons ⟨rfl, l, rfl, nl, keep_upd pl (ne_of pl pe (by intro z; cases z))⟩ (.cons ⟨rfl, lz, rfl, (nr lz rfl).1, keep_upd pz (ne_of pz pe (by intro z; cases z))⟩ .nil)
end
end K32

set_option Elab.async false
set_option linter.all false
set_option maxRecDepth 100000
set_option maxHeartbeats 4000000
namespace K32
open PySem L2 PySem.Spec
/-! ### tables put over tables -/
noncomputable def lookP {β : Type} (tr : List (Str × β)) (p : Str) : Option β := (tr.find? fun f => decide (f.1 = p)).map (·.2)
theorem lookP_none {β : Type} {tr : List (Str × β)} {p : Str} (h : lookP tr p = none) : p ∉ tr.map (·.1) := by
  unfold lookP at h
  rw [Option.map_eq_none_iff, List.find?_eq_none] at h
  intro hm
  obtain ⟨f, hf, e⟩ := List.mem_map.mp hm
  exact h f hf (decide_eq_true e)
theorem lookP_some {β : Type} {tr : List (Str × β)} {p : Str} {y : β} (h : lookP tr p = some y) : (p, y) ∈ tr := by
  unfold lookP at h
  rw [Option.map_eq_some_iff] at h
  obtain ⟨f, hf, e⟩ := h
  have h1 := List.find?_some hf
  have h2 := List.mem_of_find?_eq_some hf
  have h1 : f.1 = p := of_decide_eq_true h1
  rw [← h1, ← e]
  exact h2
theorem look_of (tr : Tr) (p : Str) : Look tr p (lookP tr p) := by
  cases h : lookP tr p with
  | none => exact lookP_none h
  | some y => exact lookP_some h
noncomputable def putAll (tr more : Tr) : Tr := more.foldl (fun acc f => putP acc f.1 f.2) tr
theorem paired_merge {F : Key × V → Str × List Str → Prop} (hk : ∀ kv f, F kv f → kv.1 = Sum.inr f.1) {more : List (Key × V)} {ms : Tr} (h : Paired F more ms) : ∀ {kvs : List (Key × V)} {tr : Tr}, Paired F kvs tr → Paired F (mergeK kvs more) (putAll tr ms) := by
  induction h with
  | nil => exact fun h => h
  | @cons kv f more ms r t ih =>
    intro kvs tr hp
    have e := hk _ _ r
    have : Paired F (putK kvs kv.1 kv.2) (putP tr f.1 f.2) := by
      rw [e]
      exact paired_put hk (by rw [← e]; exact r) hp
    exact ih this
theorem putAll_nodup {more : Tr} : ∀ {tr : Tr}, (tr.map (·.1)).Nodup → ((putAll tr more).map (·.1)).Nodup := by
  induction more with
  | nil => exact fun h => h
  | cons f more ih => exact fun h => ih (putP_nodup h)
theorem putAll_len (more : Tr) : ∀ tr : Tr, (putAll tr more).length ≤ tr.length + more.length := by
  induction more with
  | nil => exact fun tr => Nat.le_refl _
  | cons f more ih =>
    intro tr
    have h1 := ih (putP tr f.1 f.2)
    have h2 := putP_len tr f.1 f.2
    show (putAll (putP tr f.1 f.2) more).length ≤ _
    rw [List.length_cons]
    omega
theorem fcP_len (o : Option (List Str)) (p : Str) (b m : List Str) : (fcP o p b m).length ≤ 2 := by
  unfold fcP
  cases o with
  | none => exact Nat.le_succ 1
  | some br =>
    dsimp only
    rw [List.length_cons]
    split
    · exact Nat.le_succ 1
    · exact Nat.le_refl 2
/-- the tree: what is brought, and the changes over it -/
noncomputable def treeP (tr0 : Tr) (ow : Ow) : Tr := ow.foldl (fun tr e => putAll tr (fcP (lookP tr0 e.1) e.1 e.2.1 e.2.2)) tr0
theorem treeP_snoc (tr0 : Tr) (ow : Ow) (e : Str × (List Str × List Str)) : treeP tr0 (ow ++ [e]) = putAll (treeP tr0 ow) (fcP (lookP tr0 e.1) e.1 e.2.1 e.2.2) := by
  unfold treeP
  rw [List.foldl_append]
  rfl
end K32

set_option Elab.async false
set_option linter.all false
set_option maxRecDepth 100000
set_option maxHeartbeats 4000000
namespace K32
open PySem L2 PySem.Spec
theorem inn_at {C : Addr} {H : Hp} {xs vs : List V} {ps ps' : List Pcl} (h : PclsAt C H xs ps) (r : Paired (Inn xs ps) vs ps') : PclsAt C H vs ps' := paired_mapP r fun v p zq425 => zq425.elim fun j zq426 => zq426.elim fun a b => by
  obtain ⟨x, hx, q⟩ := paired_get h a
  rw [b] at hx
  cases hx
  exact q
theorem inn_mem {xs vs : List V} {ps ps' : List Pcl} (r : Paired (Inn xs ps) vs ps') : ∀ p ∈ ps', p ∈ ps := by
  induction r with
  | nil => exact fun _ h => nomatch h
  | cons q t ih =>
    intro p hp
    rcases List.mem_cons.mp hp with e | hp
    · obtain ⟨j, a, b⟩ := q
      rw [e]; exact List.mem_of_getElem? a
    · exact ih p hp
theorem files_bound {ps : List Pcl} {b : Nat} (h : ∀ p ∈ ps, p.fs.length ≤ b) : (filesOf ps).length ≤ ps.length * b := by
  induction ps with
  | nil => exact Nat.zero_le _
  | cons p ps ih =>
    have e : filesOf (p :: ps) = p.fs ++ filesOf ps := List.flatMap_cons
    rw [e, List.length_append, List.length_cons, Nat.succ_mul]
    have := ih fun q hq => h q (List.mem_cons_of_mem _ hq)
    have := h p List.mem_cons_self
    omega
theorem treeP_len (tr0 : Tr) (ow : Ow) : (treeP tr0 ow).length ≤ tr0.length + 2 * ow.length := by
  have key : ∀ (ow : Ow) (tr : Tr), (ow.foldl (fun tr e => putAll tr (fcP (lookP tr0 e.1) e.1 e.2.1 e.2.2)) tr).length ≤ tr.length + 2 * ow.length := by
    intro ow
    induction ow with
    | nil => exact fun tr => Nat.le_refl _
    | cons e ow ih =>
      intro tr
      have h1 := ih (putAll tr (fcP (lookP tr0 e.1) e.1 e.2.1 e.2.2))
      have h2 := putAll_len (fcP (lookP tr0 e.1) e.1 e.2.1 e.2.2) tr
      have h3 := fcP_len (lookP tr0 e.1) e.1 e.2.1 e.2.2
      rw [List.foldl_cons, List.length_cons]
      omega
  exact key ow tr0
/-- the changes are lists of lines at paths -/
noncomputable def OkO (ow : Ow) : Prop := ∀ e ∈ ow, e.1.length ≤ 60 ∧ Lns e.2.1 ∧ Lns e.2.2
section
variable {P : Program} {w : World} {K : PySem.W.Frag} {mg : Str → Option Value} {base : Heap}
noncomputable def spTre (C S T : Addr) : Sp := fun vs H Q _ => ∃ (sv tv : V) (xs : List V) (ps : List Pcl) (ch : Ch) (ow : Ow), vs = [sv, tv] ∧ ShelfAt S H sv xs ps ∧ PclsAt C H xs ps ∧ (∀ p ∈ ps, p.os = [] ∧ p.fs.length ≤ 3 ∧ ∀ f ∈ p.fs, Lns f.2) ∧ StandAt T H tv ch ow ∧ Valid xs ps ch ∧ ch.length ≤ 6 ∧ ow.length ≤ 6 ∧ OkO ow ∧
  ∀ d H' kvs tr0 ps', H d = none → Same H H' → H' d = some (.dK kvs) → Gath (filesOf ps') tr0 → Paired (TrV H H') kvs (treeP tr0 ow) → (ps'.map (·.nm)).Perm (ch.map (·.1)) → (∀ p ∈ ps', p ∈ ps ∧ (p.nm, p.ms) ∈ ch) → Q (.ref d) H'
theorem scTre : FnScope ["shelf", "stand", "parcels", "brought", "tree", "path", "change", "common"] ["shelf", "stand"] (defScope sTre) := ⟨rfl, rfl, rfl, by decide +kernel, rfl, by decide +kernel, by decide +kernel⟩
theorem okTre {f C S T fSPa fPsO fBro fCom fFoC : Addr} {fd fdSPa fdPsO fdBro fdCom fdFoC : FuncData} (F : Fun K "tree_of" "tree_of" sTre f fd) (B : Blt mg) (TC : Txt K mg C) (US : TxtS K mg S fSPa) (UT : TxtT K mg T) (FSPa : Fun K "parcel" "Shelf.parcel" sSPa fSPa fdSPa)
    (FPsO : Fun K "parcels_of" "parcels_of" sPsO fPsO fdPsO) (mPsO : mg "parcels_of" = some (.ref fPsO)) (FBro : Fun K "brought_by" "brought_by" sBro fBro fdBro) (mBro : mg "brought_by" = some (.ref fBro)) (FCom : Fun K "commons_of" "commons_of" sCom fCom fdCom) (mCom : mg "commons_of" = some (.ref fCom))
    (FFoC : Fun K "files_of_change" "files_of_change" sFoC fFoC fdFoC) (mFoC : mg "files_of_change" = some (.ref fFoC)) (GFoC : FnOk P w K mg base CX0 4 fFoC fdFoC ["path", "change", "brought"] spFoC) :
    FnOk P w K mg base CX0 5 f fd ["shelf", "stand"] (spTre C S T) := by
  have GPsO : FnOk P w K mg base CX0 2 fPsO fdPsO ["shelf", "chosen"] (spPsO S) := okPsO FPsO B US FSPa
  have bPsO := FPsO.binds2 (l := ["shelf", "chosen"]) (fun _ _ _ _ _ _ _ _ => rfl)
  have GBro : FnOk P w K mg base CX0 1 fBro fdBro ["parcels"] (spBro C) := okBro FBro B TC
  have bBro := FBro.binds1 (l := ["parcels"]) (fun _ _ _ _ _ _ _ => rfl)
  have GCom : FnOk P w K mg base CX0 1 fCom fdCom ["parcels"] (spCom C) := okCom FCom B TC
  have bCom := FCom.binds1 (l := ["parcels"]) (fun _ _ _ _ _ _ _ => rfl)
  have bFoC := FFoC.binds3 (l := ["path", "change", "brought"]) (fun _ _ _ _ _ _ _ _ _ => rfl)
  refine F.ok scTre (fun vs H Q E h => ?_) (fun cdv A outer s H vs Q E hr h => ?_)
  · obtain ⟨sv, tv, xs, ps, ch, ow, rfl, _⟩ := h
    rfl
  · refine letX ?_
    intro xX dX
    obtain ⟨sv, tv, xs, ps, ch, ow, rfl, hS, hP, h3, hT, hV, h6, o6, okO, q⟩ := h
    have hr2 : Room 2 (A.deeper (PyProof.Rows.envOfC "tree_of" (defScope sTre) s.heap.objs.size f cdv)) := hr.mono (by decide)
    have hr1 : Room 1 (A.deeper (PyProof.Rows.envOfC "tree_of" (defScope sTre) s.heap.objs.size f cdv)) := hr.mono (by decide)
    refine ⟨_, (pss_cons (ps_set (i := 2) scTre.nd rfl (Or.inl rfl) (pe_call GPsO hr2 rfl mPsO FPsO.kp bPsO .nil pass0 (pa_cons (pv 0) (pa_cons (pe_fld (pv 1) rfl) pa_nil))))
        (pss_cons (ps_set (i := 3) scTre.nd rfl (Or.inl rfl) (pe_call GBro hr1 rfl mBro FBro.kp bBro .nil pass0 (pa_cons (pv 2) pa_nil)))
        (pss_cons (ps_set (i := 4) scTre.nd rfl (Or.inl rfl) (pe_callTy call_dictN (by rfl) B.dict PyProof.Rows.boot_dict (pa_cons (pv 3) pa_nil)))
        (pss_cons (ps_forItems PassesOwn.never rfl (pe_fld (pv 1) rfl) (pg_tup rfl (pgs_cons (pg_name (i := 5) scTre.nd rfl (Or.inl rfl)) (pgs_cons (pg_name (i := 6) scTre.nd rfl (Or.inl rfl)) pgs_nil)))
        (pss_one (ps_expr (pe_bm PySem.F.plainAttrs_dict PySem.F.slot_dict_update PySem.F.type_dict_update mt_dupdate (pv 4) (pa_cons (pe_call GFoC hr rfl mFoC FFoC.kp bFoC .nil pass0 (pa_cons (pv 5) (pa_cons (pv 6) (pa_cons (pv 3) pa_nil)))) pa_nil)))))
        (pss_cons (ps_for PassesOwn.never rfl (pi_list (pe_call GCom hr1 rfl mCom FCom.kp bCom .nil pass0 (pa_cons (pv 2) pa_nil))) (pg_name (i := 7) scTre.nd rfl (Or.inl rfl))
        pss_never)
        (pss_one (ps_ret (pv 4)))))))), ?_⟩
    refine lets6 ?_
    intro dD sS uU6 uU5 uU4 uU3 uU2
    obtain ⟨a, dx, fl, c, h, o, rfl, t1, t2, t3, t4, t5, t6, ko, t7, t8⟩ := hT
    refine ⟨_, rfl, _, rfl, a, T, dx, _, _, rfl, t1, UT.cl, UT.nC, t2, ?_⟩
    refine ⟨sv, c, xs, ps, ch, rfl, hS, t5, hV, by omega, fun D H1 vs' ps' n1 s1 e1 pr pn pc => ?_⟩
    have hP1 := inn_at (hP.same s1) pr
    have pm := inn_mem pr
    have hl : (filesOf ps').length ≤ 18 := by
      have := files_bound (b := 3) (ps := ps') fun p hp => (h3 p (pm p hp)).2.1
      have e := pn.length_eq
      rw [List.length_map, List.length_map] at e
      omega
    refine ⟨_, rfl, D, vs', ps', rfl, e1, hP1, by omega, fun d H2 kvs tr0 n2 s2 e2 pr2 g2 => ?_⟩
    refine ⟨_, rfl, d, _, rfl, e2, fun d3 H3 n3 s3 e3 => ?_⟩
    have s13 := s1.trans (s2.trans s3)
    have n13 : H d3 = none := s1.free (s2.free n3)
    have hd3 := s3 _ _ e2
    have o3 := s13 _ _ t7
    have od : d ≠ o := (ne_of_none (s1 _ _ t7) n2).symm
    have od3 : d3 ≠ o := (ne_of_none t7 n13).symm
    have dd3 : d3 ≠ d := (ne_of_none e2 n3).symm
    have g18 := g2.len
    have Ltr : ∀ f ∈ tr0, Lns f.2 := fun f hf => by
      obtain ⟨p, hp, hf⟩ := List.mem_flatMap.mp (g2.sub f hf)
      exact (h3 p (pm p hp)).2.2 f hf
    have prD : Paired (DuV H3) kvs tr0 := paired_mapP pr2 fun _ _ z => (z.du).same s3
    have pr3 : Paired (TrV H H3) kvs tr0 := paired_mapP pr2 fun kv f z => by
      obtain ⟨z1, l, z2, z3, z4⟩ := z
      exact ⟨z1, l, z2, s1.free z3, s3 _ _ z4⟩
    have tk : ∀ (H' : Hp) kv f, TrV H H' kv f → kv.1 = Sum.inr f.1 := fun _ kv f z => z.1
    refine ⟨_, rfl, a, T, dx, _, _, rfl, s13 _ _ t1, UT.cl, UT.nO, t4, o, ko, rfl, o3, fun ob => ?_⟩
    refine for_itemsG (fun i σ H5 => ∃ u v kt, σ = [some sv, some (.ref a), some (.ref D), some (.ref d), some (.ref d3), u, v, none] ∧ (∀ b z, H3 b = some z → b ≠ o → b ≠ d3 → H5 b = some z) ∧ (∀ b, H5 b = none → H3 b = none) ∧ H5 o = some (.frz ob (.dK ko)) ∧ H5 d3 = some (.dK kt) ∧ Paired (TrV H H5) kt (treeP tr0 (ow.take i)))
      ⟨none, none, kvs, rfl, fun b z e hb _ => keep_upd e hb, fun b e => (free_upd e).2, upd_same, keep_upd e3 od3, paired_mapP pr3 fun kv f z => ?_⟩ ?_ ?_ ?_
    · obtain ⟨z1, l, z2, z3, z4⟩ := z
      exact ⟨z1, l, z2, z3, keep_upd z4 (ne_of z4 o3 (by intro z; cases z))⟩
    · intro i σ H5 hQ1
      refine letG ?_
      intro tT
      obtain ⟨u, v, kt, rfl, _, _, h, _⟩ := hQ1
      exact h
    · intro i k v p σ H5 hi hQ2 hp
      refine letG ?_
      intro tT
      obtain ⟨u, v', kt, rfl, k5, f5, h5, ht5, pr5⟩ := hQ2
      first | (refine letB (g := gName _) ?_; intro eQ sQ) | (refine letB (g := gTup _ _ _) ?_; intro eQ sQ) | skip
      obtain ⟨⟨x, b1, m1⟩, hf, a1, t, l1, l2, a2, a3, a4, a5⟩ := paired_get' t8 hi
      have a1 : k = .inr x := a1
      have a2 : v = .ref t := a2
      subst a1 a2
      have hm := List.mem_of_getElem? hf
      have sp : Same H5 (upd H5 p (.tup [kV (.inr x), .ref t])) := same_upd hp
      have K5 : ∀ {b : Addr} {z : HO}, H b = some z → (∀ ks, z ≠ .dK ks) → (upd H5 p (.tup [kV (.inr x), .ref t])) b = some z := fun {b z} e hz => sp _ _ (k5 _ _ (s13 _ _ e) (ne_of e t7 (hz _)) (fun y => by rw [y, n13] at e; cases e))
      have D5 := sp _ _ (k5 _ _ hd3 od dd3.symm)
      refine ⟨p, _, rfl, SqT.of upd_same, rfl, _, _, rfl, _, _, rfl, rfl, ?_⟩
      refine ⟨_, rfl, .inr (.inr (.inl ⟨rfl, .inl ⟨_, sp _ _ ht5⟩⟩)), _, rfl, _, rfl, _, rfl, ?_⟩
      refine ⟨x, t, l1, l2, d, kvs, tr0, b1, m1, lookP tr0 x, rfl, K5 a3 (by intro ks z; cases z), K5 a4 (by intro ks z; cases z), K5 a5 (by intro ks z; cases z), D5, ?_, g2.nd, look_of tr0 x, (okO _ hm).2.1, (okO _ hm).2.2, ?_, (okO _ hm).1, fun e H6 more n6 s6 e6 prM => ?_⟩
      · exact paired_mapP prD fun kv f z => by
          obtain ⟨z1, l, z2, z3⟩ := z
          exact ⟨z1, l, z2, sp _ _ (k5 _ _ z3 (ne_of z3 o3 (by intro z; cases z)) (ne_of z3 e3 (by intro z; cases z)))⟩
      · intro ls e
        exact Ltr _ (lookP_some e)
      have s56 := sp.trans s6
      have ed3 : d3 ≠ e := ne_of_none (sp _ _ ht5) n6
      have pl := paired_len pr5
      have ml := paired_len prM
      have h1 := treeP_len tr0 (ow.take i)
      have h2 := fcP_len (lookP tr0 x) x b1 m1
      have h3' : (ow.take i).length ≤ 6 := by rw [List.length_take]; omega
      refine ⟨d3, e, kt, more, rfl, rfl, ed3, s56 _ _ ht5, e6, smallL (by omega), ?_⟩
      refine ⟨_, _, _, rfl, fun b z e hb hb3 => keep_upd (s56 _ _ (k5 _ _ e hb hb3)) hb3, fun b e => f5 b (s56.free (free_upd e).2), keep_upd (s56 _ _ h5) od3.symm, upd_same, ?_⟩
      rw [List.take_add_one, hf]
      show Paired _ _ (treeP tr0 (ow.take i ++ [(x, b1, m1)]))
      rw [treeP_snoc]
      refine paired_mapP (paired_merge (F := TrV H H6) (tk H6) (paired_mapP prM fun kv f z => ?_) (paired_mapP pr5 fun _ _ => TrV.same s56)) fun kv f => TrV.put (s56 _ _ ht5)
      obtain ⟨z1, l, z2, z3, z4⟩ := z
      exact ⟨z1, l, z2, s13.free (f5 _ (sp.free z3)), z4⟩
    · intro σ H5 hQ3
      refine letG ?_
      intro tT
      obtain ⟨u, v, kt, rfl, k5, f5, h5, ht5, pr5⟩ := hQ3
      first | (refine letB (g := gName _) ?_; intro eQ sQ) | (refine letB (g := gTup _ _ _) ?_; intro eQ sQ) | skip
      rw [paired_len t8, List.take_length] at pr5
      have sF : ∀ b z, H3 b = some z → b ≠ d3 → (upd H5 o (.dK ko)) b = some z := fun b z e hb => by
        by_cases ho : b = o
        · subst ho
          rw [o3] at e
          cases e
          exact upd_same
        · exact keep_upd (k5 b z e ho hb) ho
      have sH : Same H (upd H5 o (.dK ko)) := fun b z e => sF b z (s13 _ _ e) (fun y => by rw [y, n13] at e; cases e)
      have eD := s3 _ _ (s2 _ _ e1)
      have s1F : Same H1 (upd H5 o (.dK ko)) := fun b z e => sF b z (s3 _ _ (s2 _ _ e)) (fun y => by rw [y, s2.free n3] at e; cases e)
      refine ⟨_, rfl, D, vs', ps', rfl, s1F _ _ e1, hP1.same s1F, fun p hp => (h3 p (pm p hp)).1, fun r H4 n4 s4 e4 => ?_⟩
      refine ⟨r, rfl, ⟨_, SqL.of e4⟩, ?_⟩
      refine for_list (xs := []) (fun i σ H6 => σ = [some sv, some (.ref a), some (.ref D), some (.ref d), some (.ref d3), u, v, none] ∧ H6 = H4) ⟨rfl, rfl⟩ ?_ ?_ ?_
      · rintro i σ H6 hi ⟨rfl, rfl⟩
        exact SqL.of e4
      · intro i x σ H6 hx
        cases hx
      · rintro σ H6 ⟨rfl, rfl⟩
        refine ⟨_, rfl, q d3 H6 kt tr0 ps' n13 (sH.trans s4) (s4 _ _ (keep_upd ht5 od3)) g2 (paired_mapP pr5 fun kv f z => ?_) pn fun p hp => ⟨pm p hp, pc p hp⟩⟩
        obtain ⟨z1, l, z2, z3, z4⟩ := z
        exact ⟨z1, l, z2, z3, s4 _ _ (keep_upd z4 (ne_of z4 h5 (by intro z; cases z)))⟩
end
end K32

set_option Elab.async false
set_option linter.all false
set_option maxRecDepth 100000
set_option maxHeartbeats 4000000
namespace K32
open PySem L2 PySem.Spec
section
variable {g : TG} {tt : TT} {te : TE} {H1 : Hp} {Q : Hp → Prop}
/-- a comprehension's loop, its new list named -/
theorem comp_listD {K : PySem.W.Frag} {a D : Addr} {xs : List V} {σ0 : St} (hD : H1 D = none) (hx : SqL K H1 a xs) (S : St → Prop) (P : Nat → List V → Hp → Prop) (s0 : S σ0) (st : P 0 [] (upd H1 D (.lst [])))
    (turn : ∀ i x ys σ H (k : St → V → Hp → Prop) (k' : St → Hp → Prop), xs[i]? = some x → S σ → H D = some (.lst ys) → Same H1 H → P i ys H →
      (∀ σ3 y H5, S σ3 → Same H H5 → ys.length < sizeLine → P (i + 1) (ys ++ [y]) (upd H5 D (.lst (ys ++ [y]))) → k σ3 y H5) → (∀ σ3 H4, S σ3 → Same H H4 → P (i + 1) ys H4 → k' σ3 H4) →
      g x σ H fun σ3 H3 => tt σ3 H3 fun ok H4 => if ok = true then te σ3 H4 (k σ3) else k' σ3 H4)
    (done : ∀ ys H, H D = some (.lst ys) → Same H1 H → P xs.length ys H → Q H) :
    ∃ W : Nat → Nat → St → Hp → Prop, (∃ m, W 0 m σ0 (upd H1 D (.lst []))) ∧ CompAsk (Itl K a) g tt te D (fun H' => Q H') W := by
  refine ⟨fun i m σ H => m = xs.length - i ∧ i ≤ xs.length ∧ S σ ∧ ∃ ys, H D = some (.lst ys) ∧ Same H1 H ∧ P i ys H, ⟨xs.length, by simp, Nat.zero_le _, s0, [], upd_same, same_upd hD, st⟩, ?_⟩
  intro i m σ H hQ1
  refine letG ?_
  intro tT
  obtain ⟨rfl, hi, hS, ys, hd, hs, hp⟩ := hQ1
  first | (refine letB (g := gName _) ?_; intro eQ sQ) | (refine letB (g := gTup _ _ _) ?_; intro eQ sQ) | skip
  have q : SqL K H a xs := Same.seq hs hx
  by_cases hlt : i < xs.length
  · refine .inr ⟨⟨xs, xs[i], q, by simp [hlt]⟩, fun x H2 hy => ?_⟩
    obtain ⟨e1, e2⟩ := hy
    subst e1
    exact turn i x ys σ _ (fun σ3 y H5 => ∃ ys, H5 D = some (.lst ys) ∧ ys.length < sizeLine ∧ ∃ m', m' < xs.length - i ∧ (m' = xs.length - (i + 1) ∧ i + 1 ≤ xs.length ∧ S σ3 ∧ ∃ zs, upd H5 D (.lst (ys ++ [y])) D = some (.lst zs) ∧ Same H1 (upd H5 D (.lst (ys ++ [y]))) ∧ P (i + 1) zs (upd H5 D (.lst (ys ++ [y])))))
      (fun σ3 H4 => ∃ m', m' < xs.length - i ∧ (m' = xs.length - (i + 1) ∧ i + 1 ≤ xs.length ∧ S σ3 ∧ ∃ zs, H4 D = some (.lst zs) ∧ Same H1 H4 ∧ P (i + 1) zs H4)) (e2 xs q) hS hd hs hp
      (fun σ3 y H5 a1 a2 a3 a4 => ⟨ys, a2 _ _ hd, a3, xs.length - (i + 1), by omega, rfl, hlt, a1, ys ++ [y], upd_same, same_upd' (hs.trans a2) hD, a4⟩)
      (fun σ3 H4 a1 a2 a3 => ⟨xs.length - (i + 1), by omega, rfl, hlt, a1, ys, a2 _ _ hd, hs.trans a2, a3⟩)
  · have e : i = xs.length := by omega
    subst e
    exact .inl ⟨⟨xs, q, Nat.le_refl _⟩, done ys H hd hs hp⟩
theorem comp_listD0 {K : PySem.W.Frag} {a D : Addr} {xs : List V} {σ0 : St} (hD : H1 D = none) (hx : SqL K H1 a xs) (S : St → Prop) (P : Nat → List V → Hp → Prop) (s0 : S σ0) (st : P 0 [] (upd H1 D (.lst [])))
    (turn : ∀ i x ys σ H (k : St → V → Hp → Prop), xs[i]? = some x → S σ → H D = some (.lst ys) → Same H1 H → P i ys H →
      (∀ σ3 y H5, S σ3 → Same H H5 → ys.length < sizeLine → P (i + 1) (ys ++ [y]) (upd H5 D (.lst (ys ++ [y]))) → k σ3 y H5) → g x σ H fun σ3 H3 => te σ3 H3 (k σ3))
    (done : ∀ ys H, H D = some (.lst ys) → Same H1 H → P xs.length ys H → Q H) :
    ∃ W : Nat → Nat → St → Hp → Prop, (∃ m, W 0 m σ0 (upd H1 D (.lst []))) ∧ CompAsk (Itl K a) g tTrue te D (fun H' => Q H') W :=
  comp_listD hD hx S P s0 st (fun i x ys σ H k k' a1 a2 a3 a4 a5 a6 _ => turn i x ys σ H k a1 a2 a3 a4 a5 a6) done
end
noncomputable abbrev dI (ms : List Int) : PySem.W.Dat := .tuple (ms.map PySem.W.Dat.int)
theorem dI_inj {a b : List Int} : dI a = dI b ↔ a = b := ⟨fun h => (List.map_inj_right fun x y z => PySem.W.Dat.int.inj z).mp (PySem.W.Dat.tuple.inj h), fun h => by rw [h]⟩
theorem dI_ok (n : Nat) (ms : List Int) : PySem.W.kqdOk (n + 1) (dI ms) = true := by
  simp only [dI, PySem.W.kqdOk, List.all_eq_true, List.mem_map]
  rintro d ⟨i, _, rfl⟩
  simp [PySem.W.kqdOk]
theorem dI_dv {K : PySem.W.Frag} {H : Hp} {m : Addr} {ms : List Int} (h : H m = some (.tup (ms.map V.int))) : DV K H (.ref m) (dI ms) := .tup (SqT.of h) (dvs_ints ms)
/-- makes -/
noncomputable def MkV (H : Hp) (v : V) (ms : List Int) : Prop := ∃ m, v = .ref m ∧ H m = some (.tup (ms.map V.int))
theorem MkV.same {H H' : Hp} (s : Same H H') {v : V} {ms : List Int} (h : MkV H v ms) : MkV H' v ms := h.elim fun m zq502 => zq502.elim fun a b => ⟨m, a, s _ _ b⟩
theorem mks_dv {K : PySem.W.Frag} {H : Hp} {vs : List V} {mss : List (List Int)} (h : Paired (MkV H) vs mss) : DVs K H vs (mss.map dI) := by
  induction h with
  | nil => exact .nil
  | cons r t ih =>
    obtain ⟨m, rfl, e⟩ := r
    exact .cons (dI_dv e) ih
theorem mks_ok (n : Nat) (mss : List (List Int)) : PySem.W.kqdOk (n + 2) (.list (mss.map dI)) = true := by
  rw [PySem.W.kqdOk, List.all_eq_true]
  intro d hd
  obtain ⟨ms, _, rfl⟩ := List.mem_map.mp hd
  exact dI_ok n ms
theorem filter_take {ps : List Pcl} {i : Nat} {p : Pcl} (h : ps[i]? = some p) (sel : Pcl → Bool) : (ps.take (i + 1)).filter sel = (ps.take i).filter sel ++ (if sel p = true then [p] else []) := by
  rw [List.take_add_one, h, List.filter_append]
  congr 1
  show List.filter sel [p] = _
  rw [List.filter_cons]
  rfl
section
variable {P : Program} {w : World} {K : PySem.W.Frag} {mg : Str → Option Value} {base : Heap}
noncomputable def sel (ch : Ch) (p : Pcl) : Bool := decide ((p.nm, p.ms) ∈ ch)
noncomputable def spLBr (C : Addr) : Sp := fun vs H Q _ => ∃ (a c : Addr) (xs : List V) (ps : List Pcl) (ch : Ch), vs = [.ref a, .ref c] ∧ H a = some (.lst xs) ∧ PclsAt C H xs ps ∧ ChoAt H c ch ∧ (ch.map (·.1)).Nodup ∧ (filesOf ps).length ≤ 60 ∧
  ∀ d H' kvs tr, H d = none → Same H H' → H' d = some (.dK kvs) → Paired (DuV H') kvs tr → Gath (filesOf (ps.filter (sel ch))) tr → Q (.ref d) H'
theorem scLBr : FnScope ["_law_parcels", "_law_chosen_here", "_law_found", "_law_one", "_law_path_here", "_law_lines_here"] ["_law_parcels", "_law_chosen_here"] (defScope sLBr) := ⟨rfl, rfl, rfl, by decide +kernel, rfl, by decide +kernel, by decide +kernel⟩
theorem DuV.put {H1 : Hp} {d : Addr} {ks ks' : List (Key × V)} (hd : H1 d = some (.dK ks)) {kv : Key × V} {f : Str × List Str} (h : DuV H1 kv f) : DuV (upd H1 d (.dK ks')) kv f := h.elim fun a zq503 => zq503.elim fun l zq504 => zq504.elim fun b e => ⟨a, l, b, keep_upd e (ne_of e hd (by intro z; cases z))⟩
theorem files_filter_le (ps : List Pcl) (s : Pcl → Bool) : (filesOf (ps.filter s)).length ≤ (filesOf ps).length := by
  induction ps with
  | nil => exact Nat.le_refl _
  | cons p ps ih =>
    have e : filesOf (p :: ps) = p.fs ++ filesOf ps := List.flatMap_cons
    rw [List.filter_cons, e, List.length_append]
    split
    · have e2 : filesOf (p :: ps.filter s) = p.fs ++ filesOf (ps.filter s) := List.flatMap_cons
      rw [e2, List.length_append]
      omega
    · omega
theorem files_app (a b : List Pcl) : filesOf (a ++ b) = filesOf a ++ filesOf b := List.flatMap_append
theorem files_one (p : Pcl) : filesOf [p] = p.fs := by simp [filesOf]
theorem okLBr {f C : Addr} {fd : FuncData} (F : Fun K "_law_brought" "_law_brought" sLBr f fd) (T : Txt K mg C) : FnOk P w K mg base CX0 1 f fd ["_law_parcels", "_law_chosen_here"] (spLBr C) := by
  refine F.ok scLBr (fun vs H Q E h => ?_) (fun cdv A outer s H vs Q E hr h => ?_)
  · obtain ⟨a, c, xs, ps, ch, rfl, _⟩ := h
    rfl
  · refine letX ?_
    intro xX dX
    obtain ⟨a, c, xs, ps, ch, rfl, ha, hps, hC, hnd, h60, q⟩ := h
    have hu := hr.units
    obtain ⟨ks, c1, c2⟩ := id hC
    have hkC : ∀ kv f, ChV H kv f → kv.1 = Sum.inr f.1 := fun kv f z => z.1
    have hk : ∀ (H' : Hp) kv f, DuV H' kv f → kv.1 = Sum.inr f.1 := fun _ kv f z => z.1
    refine ⟨_, (pss_cons (ps_set (i := 2) scLBr.nd rfl (Or.inl rfl) pe_dnewN)
        (pss_cons (ps_for PassesOwn.never rfl (pi_list (pv 0)) (pg_name (i := 3) scLBr.nd rfl (Or.inl rfl))
        (pss_one (ps_if (PW.pt (pw_and (pt_cmp (pc_din hu (pe_fld (pv 3) rfl) (pv 1)) (by rfl)) (pw_and1 (pt_cmpR (op_eqD hu) (pe_dget hu (pv 1) (pe_fld (pv 3) rfl) (fun _ _ => rfl)) (pe_fld (pv 3) rfl) (nomark _)))))
          (pss_one (ps_for PassesOwn.never rfl (pi_list (pe_fld (pv 3) rfl)) (pg_tup rfl (pgs_cons (pg_name (i := 4) scLBr.nd rfl (Or.inl rfl)) (pgs_cons (pg_name (i := 5) scLBr.nd rfl (Or.inl rfl)) pgs_nil)))
            (pss_one (ps_dput hu (pv 2) (pv 4) (pv 5) rfl)))) pss_nil)))
        (pss_one (ps_ret (pv 2))))), ?_⟩
    refine lets3 ?_
    intro dD sS uU3 uU2
    refine fun d H1 n1 s1 e1 => ?_
    refine ⟨_, rfl, a, rfl, ⟨_, SqL.of (s1 _ _ ha)⟩, ?_⟩
    refine for_list (xs := xs) (fun i σ H2 => ∃ u v z kvs tr, σ = [some (.ref a), some (.ref c), some (.ref d), u, v, z] ∧ Same H H2 ∧ H2 d = some (.dK kvs) ∧ Paired (DuV H2) kvs tr ∧ Gath (filesOf ((ps.take i).filter (sel ch))) tr) ⟨none, none, none, [], [], rfl, s1, e1, .nil, gath0⟩ ?_ ?_ ?_
    · intro i σ H2 hi hQ2
      refine letG ?_
      intro tT
      obtain ⟨u, v, z, kvs, tr, rfl, s2, _⟩ := hQ2
      exact SqL.of (s2 _ _ ha)
    · intro i x σ H2 hx hQ3
      refine letG ?_
      intro tT
      obtain ⟨u, v, z, kvs, tr, rfl, s2, hd, hpr, g⟩ := hQ3
      first | (refine letB (g := gName _) ?_; intro eQ sQ) | (refine letB (g := gTup _ _ _) ?_; intro eQ sQ) | skip
      obtain ⟨p, hp, b, dy, fl, rk, m, pf, pn, pss, po, ys, rfl, h1, h2, h3, h4, h5, h6⟩ := paired_get' hps hx
      have ft := filter_take hp (sel ch)
      have skip : sel ch p = false → Gath (filesOf ((ps.take (i + 1)).filter (sel ch))) tr := fun e => by
        rw [ft, e, if_neg Bool.false_ne_true, List.append_nil]; exact g
      refine ⟨_, rfl, b, C, dy, _, _, rfl, s2 _ _ h1, T.cl, T.nN, h2.name, _, rfl, c, _, rfl, DGet.k (k := .inr p.nm) (s2 _ _ c1), _, rfl, ?_⟩
      by_cases hin : p.nm ∈ ch.map (·.1)
      · obtain ⟨v2, ms2, g1, g2, _, m2, rfl, g3⟩ := paired_val hkC c2 hin
        rw [g1]
        refine ite2 (fun _ => ?_) (fun h => absurd rfl h)
        refine ⟨_, rfl, _, rfl, b, C, dy, _, _, rfl, s2 _ _ h1, T.cl, T.nN, h2.name, c, .ref m2, rfl, (by rw [← g1]; exact DGet.k (k := .inr p.nm) (s2 _ _ c1)), _, rfl, b, C, dy, _, _, rfl, s2 _ _ h1, T.cl, T.nM, h2.make, ?_⟩
        refine ⟨dI ms2, dI p.ms, dI_dv (s2 _ _ g3), dI_dv (s2 _ _ h3), dI_ok 8 _, dI_ok 8 _, fun bb hb => ⟨_, rfl, ?_⟩⟩
        rw [dI_inj] at hb
        refine ite2 (fun hbt => ?_) (fun hbt => ?_)
        · have em : ms2 = p.ms := hb.mp hbt
          have hsel : sel ch p = true := decide_eq_true (by rw [← em]; exact g2)
          refine ⟨_, rfl, b, C, dy, _, _, rfl, s2 _ _ h1, T.cl, T.nF, h2.files, pf, rfl, ⟨_, SqL.of (s2 _ _ h4)⟩, ?_⟩
          refine for_list (xs := ys) (fun j σ H3 => ∃ v z kvs tr, σ = [some (.ref a), some (.ref c), some (.ref d), some (.ref b), v, z] ∧ Same H H3 ∧ H3 d = some (.dK kvs) ∧ Paired (DuV H3) kvs tr ∧ Gath (filesOf ((ps.take i).filter (sel ch)) ++ p.fs.take j) tr) ⟨v, z, kvs, tr, rfl, s2, hd, hpr, by rw [List.take_zero, List.append_nil]; exact g⟩ ?_ ?_ ?_
          · intro j σ H3 hj hQ4
            refine letG ?_
            intro tT
            obtain ⟨v, z, kvs, tr, rfl, s3, _⟩ := hQ4
            exact SqL.of (s3 _ _ h4)
          · intro j y σ H3 hy hQ5
            refine letG ?_
            intro tT
            obtain ⟨v, z, kvs, tr, rfl, s3, hd3, hpr3, g3'⟩ := hQ5
            first | (refine letB (g := gName _) ?_; intro eQ sQ) | (refine letB (g := gTup _ _ _) ?_; intro eQ sQ) | skip
            obtain ⟨⟨px, ls⟩, hfj, t, l, rfl, t1, t2⟩ := paired_get' h5 hy
            refine ⟨t, _, rfl, SqT.of (s3 _ _ t1), rfl, _, _, rfl, _, _, rfl, rfl, ?_⟩
            have hlen : (filesOf ((ps.take i).filter (sel ch)) ++ p.fs.take j).length ≤ 60 := by
              have := files_le hp j
              have := files_filter_le (ps.take i) (sel ch)
              simp only [List.length_append] at *
              omega
            have glen := g3'.len
            have plen := paired_len hpr3
            refine ⟨_, rfl, _, rfl, _, rfl, d, _, rfl, DPut.k (k := .inr px) hd3 (small1000 (by omega)), ?_⟩
            refine ⟨_, _, _, putP tr px ls, rfl, same_upd' s3 n1, upd_same, ?_, ?_⟩
            · exact paired_mapP (paired_put (F := DuV H3) (hk H3) ⟨rfl, l, rfl, s3 _ _ t2⟩ hpr3) fun kv f => DuV.put hd3
            · rw [List.take_add_one, hfj]
              have := g3'.step px ls
              rw [List.append_assoc] at this
              exact this
          · intro σ H3 hQ6
            refine letG ?_
            intro tT
            obtain ⟨v, z, kvs, tr, rfl, s3, hd3, hpr3, g3'⟩ := hQ6
            first | (refine letB (g := gName _) ?_; intro eQ sQ) | (refine letB (g := gTup _ _ _) ?_; intro eQ sQ) | skip
            refine ⟨_, _, _, kvs, tr, rfl, s3, hd3, hpr3, ?_⟩
            rw [ft, hsel, if_pos rfl, files_app, files_one]
            rw [paired_len h5, List.take_length] at g3'
            exact g3'
        · refine ⟨_, _, _, kvs, tr, rfl, s2, hd, hpr, skip (decide_eq_false fun hm => hbt (hb.mpr (nodup_fun hnd g2 hm)))⟩
      · rw [paired_none hkC c2 hin]
        refine iteF ?_
        exact iteF ⟨_, _, _, kvs, tr, rfl, s2, hd, hpr, skip (decide_eq_false fun hm => hin (List.mem_map_of_mem (f := (·.1)) hm))⟩
    · intro σ H2 hQ7
      refine letG ?_
      intro tT
      obtain ⟨u, v, z, kvs, tr, rfl, s2, hd, hpr, g⟩ := hQ7
      first | (refine letB (g := gName _) ?_; intro eQ sQ) | (refine letB (g := gTup _ _ _) ?_; intro eQ sQ) | skip
      rw [paired_len hps, List.take_length] at g
      exact ⟨_, rfl, q d H2 kvs tr n1 s2 hd hpr g⟩

noncomputable def OkF (tr : Tr) : Prop := ∀ f ∈ tr, Ln f.1 ∧ ((∀ x ∈ f.2, Ln x) ∧ f.2.length ≤ 4) ∧ NoDot f.1
/-- lines and paths, for rows -/
noncomputable def OkR (tr : Tr) : Prop := ∀ f ∈ tr, TxtOk f.1 ∧ ∀ x ∈ f.2, TxtOk x
theorem dS_okT (n : Nat) {xs : List Str} (h : ∀ x ∈ xs, TxtOk x) : PySem.W.kqdOk (n + 1) (dS xs) = true := by
  simp only [dS, PySem.W.kqdOk, List.all_eq_true, List.mem_map]
  rintro d ⟨x, hx, rfl⟩
  cases n with
  | zero => exact h x hx
  | succ n => exact h x hx
noncomputable def spRow : Sp := fun vs H Q _ => ∃ (dt du : Addr) (kvs kvs' : List (Key × V)) (tr tr' : Tr), vs = [.ref dt, .ref du] ∧ dt ≠ du ∧ H dt = some (.dK kvs) ∧ H du = some (.dK kvs') ∧ Paired (DuV H) kvs tr ∧ Paired (DuV H) kvs' tr' ∧ (tr.map (·.1)).Perm (tr'.map (·.1)) ∧
  (∀ x l l', (x, l) ∈ tr → (x, l') ∈ tr' → l = l') ∧ OkR tr ∧ OkR tr' ∧ tr.length < 64 ∧ ∀ H', Same H H' → Q (.bl true) H'
theorem scRow : FnScope ["_law_tree", "_law_due", "_law_path_here", "_law_lines_here"] ["_law_tree", "_law_due"] (defScope sRow) := ⟨rfl, rfl, rfl, by decide +kernel, rfl, by decide +kernel, by decide +kernel⟩
theorem okRow {f : Addr} {fd : FuncData} (F : Fun K "_law_rows" "_law_rows" sRow f fd) (B : Blt mg) : FnOk P w K mg base CX0 1 f fd ["_law_tree", "_law_due"] spRow := by
  refine F.ok scRow (fun vs H Q E h => ?_) (fun cdv A outer s H vs Q E hr h => ?_)
  · obtain ⟨dt, du, kvs, kvs', tr, tr', rfl, _⟩ := h
    rfl
  · refine letX ?_
    intro xX dX
    obtain ⟨dt, du, kvs, kvs', tr, tr', rfl, ne, ht, hd, pt, pd, pp, ag, o1, o2, h64, q⟩ := h
    have hu := hr.units
    have hk : ∀ (H' : Hp) kv f, DuV H' kv f → kv.1 = Sum.inr f.1 := fun _ kv f z => z.1
    have l1 := paired_len pt
    have l2 := paired_len pd
    have l3 := pp.length_eq
    rw [List.length_map, List.length_map] at l3
    refine ⟨_, (pss_cons (ps_if (PW.pt (pw_or (pt_not (pt_val (pe_callB call_isi (by rfl) B.isinstance PyProof.Rows.boot_isinstance (pa_cons (pv 0) (pa_cons (pe_bltn (v := .ty "dict") rfl B.dict PyProof.Rows.boot_dict rfl) pa_nil))))) (pw_or1 (pt_cmpR (op_neD hu) (pe_callB (call_sortedK rfl) (by rfl) B.sorted PyProof.Rows.boot_sorted (pa_cons (pe_bm0 PySem.F.plainAttrs_dict PySem.F.slot_dict_keys PySem.F.type_dict_keys mt_keys (pv 0)) pa_nil)) (pe_callB (call_sortedK rfl) (by rfl) B.sorted PyProof.Rows.boot_sorted (pa_cons (pe_bm0 PySem.F.plainAttrs_dict PySem.F.slot_dict_keys PySem.F.type_dict_keys mt_keys (pv 1)) pa_nil)) (nomark _)))))
        (pss_one (ps_ret pe_bl)) pss_nil)
        (pss_cons (ps_forItems PassesOwn.never rfl (pv 0) (pg_tup rfl (pgs_cons (pg_name (i := 2) scRow.nd rfl (Or.inl rfl)) (pgs_cons (pg_name (i := 3) scRow.nd rfl (Or.inl rfl)) pgs_nil)))
        (pss_one (ps_if (PW.pt (pw_or (pt_not (pt_val (pe_callB call_isi (by rfl) B.isinstance PyProof.Rows.boot_isinstance (pa_cons (pv 2) (pa_cons (pe_bltn (v := .ty "str") rfl B.str PyProof.Rows.boot_str rfl) pa_nil))))) (pw_or (pt_not (pt_val (pe_callB call_isi (by rfl) B.isinstance PyProof.Rows.boot_isinstance (pa_cons (pv 3) (pa_cons (pe_bltn (v := .ty "list") rfl B.list PyProof.Rows.boot_list rfl) pa_nil))))) (pw_or1 (pt_cmpR (op_neD hu) (pv 3) (pe_dget hu (pv 1) (pv 2) (fun _ _ => rfl)) (nomark _))))))
          (pss_one (ps_ret pe_bl)) pss_nil)))
        (pss_one (ps_ret pe_bl)))), ?_⟩
    refine lets3 ?_
    intro dD sS uU3 uU2
    refine ⟨_, rfl, .ref dt, .type "dict", "dict", true, rfl, .dK ht, rfl, _, rfl, iteF ?_⟩
    refine ⟨_, rfl, .inr (.inr (.inl ⟨rfl, .inl ⟨_, ht⟩⟩)), dt, _, rfl, rfl, ht, fun p1 H1 n1 s1 e1 => ?_⟩
    refine ⟨p1, dt, kvs, _, rfl, e1, s1 _ _ ht, keysS_of (hk H) pt, by omega, fun ys yp ysrt a1 H2 n2 s2 a2 => ?_⟩
    have s12 := s1.trans s2
    refine ⟨_, rfl, .inr (.inr (.inl ⟨rfl, .inl ⟨_, s12 _ _ hd⟩⟩)), du, _, rfl, rfl, s12 _ _ hd, fun p3 H3 n3 s3 e3 => ?_⟩
    have s13 := s12.trans s3
    refine ⟨p3, du, kvs', _, rfl, e3, s13 _ _ hd, keysS_of (hk H) pd, by omega, fun zs zp zsrt a4 H4 n4 s4 b4 => ?_⟩
    have s14 := s13.trans s4
    have eyz : ys = zs := sorted_eq (yp.trans (pp.trans zp.symm)) ysrt zsrt
    subst eyz
    have lny : ∀ x ∈ ys, TxtOk x := fun x hx => by
      obtain ⟨f, hf, e⟩ := List.mem_map.mp (yp.mem_iff.mp hx)
      rw [← e]; exact (o1 f hf).1
    refine ⟨_, _, dS_dv (SqL.of (s4 _ _ (s3 _ _ a2))), dS_dv (SqL.of b4), dS_okT 8 lny, dS_okT 8 lny, fun b hb => ⟨_, rfl, ?_⟩⟩
    have hb : b = true := hb.mpr rfl
    subst hb
    refine iteF ?_
    refine ⟨_, rfl, dt, kvs, rfl, s14 _ _ ht, fun ob => ?_⟩
    refine for_itemsG (fun i σ H5 => ∃ u v, σ = [some (.ref dt), some (.ref du), u, v] ∧ (∀ b o, H b = some o → b ≠ dt → H5 b = some o) ∧ H5 dt = some (.frz ob (.dK kvs))) ⟨none, none, rfl, fun b o e hb => keep_upd (s14 _ _ e) hb, upd_same⟩ ?_ ?_ ?_
    · intro i σ H5 hQ8
      refine letG ?_
      intro tT
      obtain ⟨u, v, rfl, _, h⟩ := hQ8
      exact h
    · intro i k v p σ H5 hi hQ9 hp
      refine letG ?_
      intro tT
      obtain ⟨u, v', rfl, k5, h5⟩ := hQ9
      first | (refine letB (g := gName _) ?_; intro eQ sQ) | (refine letB (g := gTup _ _ _) ?_; intro eQ sQ) | skip
      obtain ⟨⟨x, ls⟩, hf, e1, l, e2, e3⟩ := paired_get' pt hi
      have e1 : k = .inr x := e1
      have e2 : v = .ref l := e2
      subst e1 e2
      have hm := List.mem_of_getElem? hf
      have hxd : x ∈ tr'.map (·.1) := pp.mem_iff.mp (List.mem_map_of_mem hm)
      obtain ⟨v2, ls2, g1, g2, _, l2', rfl, g3⟩ := paired_val (hk H) pd hxd
      have els := ag x ls ls2 hm g2
      subst els
      have K5 : ∀ b o, H b = some o → b ≠ dt → (upd H5 p (.tup [kV (.inr x), .ref l])) b = some o := fun b o e hb => keep_upd (k5 b o e hb) (ne_of_none (k5 b o e hb) hp)
      have hl5 := K5 _ _ e3 (ne_of e3 ht (by intro z; cases z))
      have hl6 := K5 _ _ g3 (ne_of g3 ht (by intro z; cases z))
      refine ⟨p, _, rfl, SqT.of upd_same, rfl, _, _, rfl, _, _, rfl, rfl, ?_⟩
      refine ⟨_, rfl, .str x, .type "str", "str", true, rfl, .str x, rfl, _, rfl, iteF ?_⟩
      refine ⟨_, rfl, .ref l, .type "list", "list", true, rfl, .lst hl5, rfl, _, rfl, iteF ?_⟩
      refine ⟨_, rfl, _, rfl, _, rfl, du, .ref l2', rfl, (by rw [← g1]; exact DGet.k (k := .inr x) (K5 _ _ hd ne.symm)), ?_⟩
      refine ⟨_, _, dS_dv (SqL.of hl5), dS_dv (SqL.of hl6), dS_okT 8 (o1 _ hm).2, dS_okT 8 (o1 _ hm).2, fun b hb => ⟨_, rfl, ?_⟩⟩
      have hb : b = true := hb.mpr rfl
      subst hb
      exact iteF ⟨_, _, rfl, K5, keep_upd h5 (ne_of_none h5 hp)⟩
    · intro σ H5 hQ10
      refine letG ?_
      intro tT
      obtain ⟨u, v, rfl, k5, h5⟩ := hQ10
      first | (refine letB (g := gName _) ?_; intro eQ sQ) | (refine letB (g := gTup _ _ _) ?_; intro eQ sQ) | skip
      refine q _ fun b o e => ?_
      by_cases hb : b = dt
      · subst hb
        rw [ht] at e
        cases e
        exact upd_same
      · exact keep_upd (k5 b o e hb) hb
/-! ### what is chosen -/
noncomputable def spCho (K : PySem.W.Frag) (C : Addr) : Sp := fun vs H Q _ => ∃ (a n : Addr) (cell : Int) (xs : List V) (ps : List Pcl) (ns : List Str), vs = [.ref a, .ref n, .int cell] ∧ H a = some (.lst xs) ∧ PclsAt C H xs ps ∧ ps.length ≤ 100 ∧ H n = some (.lst (ns.map V.str)) ∧ ns.length ≤ 4 ∧
  ∀ c H' ch, H c = none → Same H H' → ChoAt H' c ch → Valid xs ps ch → (ch.map (·.1)).Nodup → ch.length ≤ 4 → Q (.ref c) H'
theorem scCho : FnScope ["_law_parcels", "_law_names", "_law_cell", "_law_chosen_here", "_law_k", "_law_makes", "_law_number"] ["_law_parcels", "_law_names", "_law_cell"] (defScope sCho) := ⟨rfl, rfl, rfl, by decide +kernel, rfl, by decide +kernel, by decide +kernel⟩
theorem okCho {f C fMix : Addr} {fd fdMix : FuncData} (F : Fun K "_law_chosen" "_law_chosen" sCho f fd) (B : Blt mg) (T : Txt K mg C) (FMix : Fun K "_law_mixed" "_law_mixed" sMix fMix fdMix) (mMix : mg "_law_mixed" = some (.ref fMix)) : FnOk P w K mg base CX0 2 f fd ["_law_parcels", "_law_names", "_law_cell"] (spCho K C) := by
  have GMix : FnOk P w K mg base CX0 1 fMix fdMix ["_law_cell", "_law_k"] spMix := okMix FMix
  have bMix := FMix.binds2 (l := ["_law_cell", "_law_k"]) (fun _ _ _ _ _ _ _ _ => rfl)
  refine F.ok scCho (fun vs H Q E h => ?_) (fun cdv A outer s H vs Q E hr h => ?_)
  · obtain ⟨a, n, cell, xs, ps, ns, rfl, _⟩ := h
    rfl
  · refine letX ?_
    intro xX dX
    obtain ⟨a, n, cell, xs, ps, ns, rfl, ha, hps, h100, hn, n4, q⟩ := h
    have hu := hr.units
    have hk : ∀ (H' : Hp) kv f, ChV H' kv f → kv.1 = Sum.inr f.1 := fun _ kv f z => z.1
    refine ⟨_, (pss_cons (ps_set (i := 3) scCho.nd rfl (Or.inl rfl) pe_dnewN)
        (pss_cons (ps_for PassesOwn.never rfl (pi_range1 rfl B.range (pa_cons (pe_callB call_len_seq (by rfl) B.len PySem.boot_len (pa_cons (pv 1) pa_nil)) pa_nil)) (pg_name (i := 4) scCho.nd rfl (Or.inr rfl))
        (pss_cons (ps_setComp (i := 5) ["_law_one"] ["_law_names", "_law_k"] [1, 4] scCho.nd rfl rfl ⟨rfl, by decide +kernel, by decide +kernel, by decide +kernel, by decide +kernel, rfl, rfl, rfl⟩ rfl (pi_list (pv 0)) (fun _ _ _ _ => (pg_name (i := 0) (show List.Nodup (["_law_one", "_law_names", "_law_k"] : List Str) by decide +kernel) rfl (Or.inl rfl))) (fun _ _ _ _ => pts_one (pt_cmpR op_eq (pe_fldK K (pv 0) rfl) (pe_ix (ix_listK K) (pv 1) (pv 2) (fun _ _ => rfl)) (nomark _))) (fun _ _ _ _ => (pe_fldK K (pv 0) rfl)))
          (pss_cons (ps_set (i := 6) scCho.nd rfl (Or.inl rfl) (pe_call GMix hr rfl mMix FMix.kp bMix .nil pass0 (pa_cons (pv 2) (pa_cons (pe_op op_add pe_int (pv 4)) pa_nil))))
          (pss_one (ps_if (PW.pt (pw_and (pt_cmpR (op_neD hu) (pv 5) (pe_lstN pa_nil) (nomark _)) (pw_and1 (pt_cmpR op_gt (pe_op op_mod (pv 6) pe_int) pe_int (nomark _)))))
          (pss_one (ps_dput hu (pv 3) (pe_ix ix_list (pv 1) (pv 4) (fun _ _ => rfl)) (pe_ix ix_list (pv 5) (pe_op op_mod (pe_op op_fdiv (pv 6) pe_int) (pe_callB call_len_seq (by rfl) B.len PySem.boot_len (pa_cons (pv 5) pa_nil))) (fun _ _ => rfl)) rfl)) pss_nil)))))
        (pss_one (ps_ret (pv 3))))), ?_⟩
    refine lets3 ?_
    intro dD sS uU3 uU2
    refine fun c H1 n1 s1 e1 => ?_
    refine ⟨_, rfl, n, _, rfl, .inl (SqL.of (s1 _ _ hn)), _, rfl, by omega, by rw [List.length_map]; omega, ?_⟩
    refine for_range (n := (ns.map V.str).length) (fun i σ H2 => ∃ (u v z : Option V) (kvs : List (Key × V)) (ch : Ch), σ = [some (.ref a), some (.ref n), some (.int cell), some (.ref c), u, v, z] ∧ Same H H2 ∧ H2 c = some (.dK kvs) ∧ Paired (ChV H2) kvs ch ∧ Valid xs ps ch ∧ (ch.map (·.1)).Nodup ∧ ch.length ≤ i) ⟨none, none, none, [], [], rfl, s1, e1, .nil, (fun _ h => nomatch h), List.nodup_nil, Nat.le_refl _⟩ ?_ ?_
    · intro i σ H2 hi hQ11
      refine letG ?_
      intro tT
      obtain ⟨u, v, z, kvs, ch, rfl, s2, hc, hpr, hV, hnd, hcl⟩ := hQ11
      first | (refine letB (g := gName _) ?_; intro eQ sQ) | (refine letB (g := gTup _ _ _) ?_; intro eQ sQ) | skip
      rw [List.length_map] at hi
      obtain ⟨x, hx⟩ : ∃ x, ns[i]? = some x := ⟨ns[i], by simp [hi]⟩
      have hat : atI (ns.map V.str) (0 + (i : Int)) = some (V.str x) := by
        rw [Int.zero_add]
        exact atI_nat (by rw [List.getElem?_map, hx]; rfl)
      · refine ⟨_, rfl, a, rfl, ⟨_, SqL.of (s2 _ _ ha)⟩, ?_⟩
        intro D hD
        refine comp_listD (σ0 := [none, some (.ref n), some (.int (0 + (i : Int)))]) hD (SqL.of (s2 _ _ ha)) (fun σ => ∃ v, σ = [v, some (.ref n), some (.int (0 + (i : Int)))]) (fun j zs H3 => zs.length ≤ j ∧ ∃ mss, Paired (MkV H) zs mss ∧ ∀ ms ∈ mss, ∃ v p, Inn xs ps v p ∧ p.nm = x ∧ p.ms = ms) ⟨_, rfl⟩ ⟨Nat.le_refl _, [], .nil, fun _ h => nomatch h⟩ ?_ ?_
        · intro j y zs σ H3 k k' hy hQ12 hd h3 hQ13 hk1 hk2
          refine letG ?_
          intro tT
          obtain ⟨v, rfl⟩ := hQ12
          obtain ⟨zl, mss, pr, pm⟩ := hQ13
          first | (refine letB (g := gName _) ?_; intro eQ sQ) | (refine letB (g := gTup _ _ _) ?_; intro eQ sQ) | skip
          obtain ⟨p, hp, b, dy, fl, rk, m, pf, pn, pss, po, ys, rfl, b1, b2, b3, b4, b5, b6⟩ := paired_get' hps hy
          have s3 := s2.trans h3
          have hlt := (List.getElem?_eq_some_iff.mp hp).1
          refine ⟨_, rfl, b, C, dy, _, _, rfl, s3 _ _ b1, T.cl, T.nN, b2.name, _, rfl, _, rfl, n, _, _, _, rfl, rfl, SqL.of (s3 _ _ hn), hat, rfl, _, rfl, ?_⟩
          refine ite2 (fun h => ?_) (fun h => ?_)
          · have en : p.nm = x := by
              have h := of_decide_eq_true h
              injection h
            refine ⟨_, rfl, b, C, dy, _, _, rfl, s3 _ _ b1, T.cl, T.nM, b2.make, ?_⟩
            refine hk1 _ _ _ ⟨_, rfl⟩ (Same.refl _) (small1000 (by omega)) ⟨by rw [List.length_append, List.length_singleton]; omega, mss ++ [p.ms], paired_snoc ⟨m, rfl, b3⟩ pr, fun ms hm => ?_⟩
            rcases List.mem_append.mp hm with z | z
            · exact pm ms z
            · exact ⟨_, p, ⟨j, hp, hy⟩, en, (List.mem_singleton.mp z).symm⟩
          · exact hk2 _ _ ⟨_, rfl⟩ (Same.refl _) ⟨by omega, mss, pr, pm⟩
        · intro zs H3 hd h3 hQ14
          refine letG ?_
          intro tT
          obtain ⟨zl, mss, pr, pm⟩ := hQ14
          first | (refine letB (g := gName _) ?_; intro eQ sQ) | (refine letB (g := gTup _ _ _) ?_; intro eQ sQ) | skip
          have s3 := s2.trans h3
          have ll := paired_len hps
          have hc3 := h3 _ _ hc
          have pr3 := paired_mapP pr fun _ _ => MkV.same s3
          have cp3 := paired_mapP hpr fun _ _ => ChV.same h3
          refine ⟨_, rfl, _, rfl, _, _, rfl, rfl, _, _, rfl, fun num => ?_⟩
          refine ⟨_, rfl, (by show 0 ≤ sizeLine; decide), fun e H4 n4 s4 e4 => ?_⟩
          refine ⟨.list (mss.map dI), .list [], .lst (SqL.of (s4 _ _ hd)) (mks_dv (paired_mapP pr3 fun _ _ => MkV.same s4)), .lst (SqL.of e4) .nil, mks_ok 7 _, mks_ok 7 [], fun bb hb => ⟨_, rfl, ?_⟩⟩
          have keep : ∀ u v z, ∃ (u' v' z' : Option V) (kvs : List (Key × V)) (ch : Ch), [some (V.ref a), some (V.ref n), some (V.int cell), some (V.ref c), u, v, z] = [some (V.ref a), some (.ref n), some (.int cell), some (.ref c), u', v', z'] ∧ Same H H4 ∧ H4 c = some (.dK kvs) ∧ Paired (ChV H4) kvs ch ∧ Valid xs ps ch ∧ (ch.map (·.1)).Nodup ∧ ch.length ≤ i + 1 :=
            fun u v z => ⟨u, v, z, kvs, ch, rfl, s3.trans s4, s4 _ _ hc3, paired_mapP cp3 fun _ _ => ChV.same s4, hV, hnd, by omega⟩
          refine ite2 (fun hne => ?_) (fun hne => ?_)
          · refine ⟨_, rfl, _, _, rfl, rfl, (by show (0 : Int) < 4; decide), _, _, rfl, rfl, _, rfl, ?_⟩
            refine ite2 (fun hgt => ?_) (fun hgt => keep _ _ _)
            have hpos : 0 < zs.length := by
              cases zs with
              | nil =>
                cases pr
                have hb : bb = true := hb.mpr rfl
                rw [hb] at hne
                cases hne
              | cons y ys => simp
            obtain ⟨y, hy, hym⟩ := atI_in (xs := zs) (r := num / 4 % (zs.length : Int)) (Int.emod_nonneg _ (by omega)) (Int.emod_lt_of_pos _ (by omega))
            obtain ⟨ms, hms, m, rfl, em⟩ := paired_get' pr3 hym
            obtain ⟨v0, p0, hin, en, em2⟩ := pm ms (List.mem_of_getElem? hms)
            refine ⟨_, rfl, _, rfl, _, _, rfl, rfl, ⟨by omega, by omega⟩, _, rfl, D, _, rfl, .inl (SqL.of (s4 _ _ hd)), _, _, rfl, rfl, (by show (0 : Int) < (zs.length : Int); omega), D, _, _, _, rfl, rfl, SqL.of (s4 _ _ hd), hy, ?_⟩
            refine ⟨_, rfl, _, rfl, _, rfl, n, _, _, _, rfl, rfl, SqL.of (s4 _ _ (s3 _ _ hn)), hat, ?_⟩
            have pl := paired_len hpr
            refine ⟨c, _, rfl, DPut.k (k := .inr x) (s4 _ _ hc3) (small1000 (by omega)), ?_⟩
            refine ⟨_, _, _, _, putP ch x ms, rfl, same_upd' (s3.trans s4) n1, upd_same, ?_, fun e he => ?_, putP_nodup hnd, Nat.le_trans (putP_len ch x ms) (by omega)⟩
            · refine paired_mapP (paired_put (F := ChV H4) (hk H4) ⟨rfl, m, rfl, s4 _ _ em⟩ (paired_mapP cp3 fun _ _ => ChV.same s4)) fun kv f z => ?_
              obtain ⟨z1, m', z2, z3⟩ := z
              exact ⟨z1, m', z2, keep_upd z3 (ne_of z3 (s4 _ _ hc3) (by intro z; cases z))⟩
            · rcases putP_mem he with e' | he
              · rw [e']; exact ⟨v0, p0, hin, en, em2⟩
              · exact hV e he
          · exact iteF (keep _ _ _)
    · intro σ H2 hQ15
      refine letG ?_
      intro tT
      obtain ⟨u, v, z, kvs, ch, rfl, s2, hc, hpr, hV, hnd, hcl⟩ := hQ15
      first | (refine letB (g := gName _) ?_; intro eQ sQ) | (refine letB (g := gTup _ _ _) ?_; intro eQ sQ) | skip
      rw [List.length_map] at hcl
      exact ⟨_, rfl, q c H2 ch n1 s2 ⟨kvs, hc, hpr⟩ hV hnd (by omega)⟩
end
end K32

set_option Elab.async false
set_option linter.all false
set_option maxRecDepth 100000
set_option maxHeartbeats 4000000
namespace K32
open PySem L2 PySem.Spec
noncomputable def rSetD2 : V → List V → Hp → VK → Prop := fun x vs H Q => ∃ a kvs k y, x = .ref a ∧ vs = [kV k, y] ∧ H a = some (.dK kvs) ∧ kvs.length < sizeLine ∧ ∀ z kvs' H', valV kvs' k = some z → ((kvs' = kvs) ∨ (valV kvs k = none ∧ z = y ∧ kvs' = putK kvs k y)) → H' a = some (.dK kvs') → (∀ b o, H b = some o → b ≠ a → H' b = some o) → Q z H'
theorem mt_setdef2 {X : Cx} : MtM X "dict.setdefault" rSetD2 := by
  intro pins s σ H x xs v us Q I rx rs h
  obtain ⟨a, kvs, k, y, rfl, rfl, e, hl, q⟩ := h
  refine mt_setdef pins s σ H _ _ v us Q I rx rs ⟨a, kvs, k, y, rfl, rfl, e, hl, fun z hz => q z kvs H hz (.inl rfl) e fun _ _ e _ => e, fun hn => q y _ _ ?_ (.inr ⟨hn, rfl, rfl⟩) upd_same fun b o e hb => keep_upd e hb⟩
  rw [valV_put, if_pos rfl]
theorem flat_strs (xs : List Str) : (xs.map V.str).all flatV = true := by
  rw [List.all_eq_true]
  intro v hv
  obtain ⟨z, _, rfl⟩ := List.mem_map.mp hv
  rfl
theorem inV_strs {z : Str} {xs : List Str} (h : z ∈ xs) : inV (.str z) (xs.map V.str) = true := by
  unfold inV
  rw [List.any_eq_true]
  exact ⟨_, List.mem_map.mpr ⟨z, h, rfl⟩, by simp [eqV]⟩
theorem atI_neg {α : Type} {xs : List α} {j : Nat} (h : j < xs.length) : ∃ v, atI xs (-1 - (0 + (j : Int))) = some v := by
  unfold atI ixN
  rw [if_neg (by omega), if_pos (by omega), Option.bind_some]
  have : ((-1 - (0 + (j : Int)) + (xs.length : Int)).toNat) < xs.length := by omega
  exact ⟨_, List.getElem?_eq_getElem this⟩
theorem at2i (a b : V) (n : Int) : ∃ v, atI [a, b] (n % 2) = some v := by
  obtain h | h : n % 2 = 0 ∨ n % 2 = 1 := by omega
  · rw [h]; exact ⟨a, rfl⟩
  · rw [h]; exact ⟨b, rfl⟩
theorem msk_add {L : List Addr} {H H' : Hp} {p : Addr} (hp : H p = none) (s : Same H H') : Same (msk L H) (msk (p :: L) H') := fun b o e => by
  unfold msk at e
  split at e
  · cases e
  · rename_i hb
    refine msk_at ?_ (s _ _ e)
    rw [List.mem_cons, not_or]
    exact ⟨fun z => (by rw [z, hp] at e; cases e), hb⟩
/-- what stands but for some places is kept -/
theorem msk_keep {L : List Addr} {H H' : Hp} (s : ∀ b o, H b = some o → b ∉ L → H' b = some o) : Same (msk L H) (msk L H') := fun b o e => by
  unfold msk at e
  split at e
  · cases e
  · exact msk_at ‹_› (s _ _ e ‹_›)
/-- .. with the place named -/
noncomputable def atRef (Q : Addr → Hp → Prop) : VK := fun v H => match v with | .ref x => Q x H | _ => False
theorem make_pclA {K : PySem.W.Frag} {C : Addr} {H : Hp} {Q : Addr → Hp → Prop} {E : XK} {nm : Str} {m fa na sa oa : Addr} {mk : List Int} {rk : V} {xs ns ss os : List V} {fs : List (Str × List Str)} (hm : H m = some (.tup (mk.map V.int))) (hf : H fa = some (.lst xs)) (hfs : Paired (FileH H) xs fs)
    (hn : H na = some (.lst ns)) (hs : H sa = some (.lst ss)) (ho : H oa = some (.lst os)) (h1000 : fs.length ≤ 1000) (q : ∀ x H', H x = none → Same H H' → (∀ L, Busy H L → PclAt C (msk L H') (.ref x) ⟨nm, mk, fs, os⟩) → Q x H') :
    ∀ x dx, H x = none → H dx = none → dx ≠ x → spPIn K C (.ref x :: ([.str nm, .ref m, rk, .ref fa, .ref na, .ref sa, .ref oa] ++ [])) (upd (upd H dx (.own x)) x (.ins C dx [])) (fun v H2 => v = .non ∧ Q x H2) E :=
  make_pcl (Q := atRef Q) hm hf hfs hn hs ho h1000 q
structure InvP (ps : List Pcl) (uk : List (Key × V)) (i : Nat) : Prop where
  nd : (ps.map keyOf).Nodup
  ok : ∀ p ∈ ps, p.fs.length ≤ 3 ∧ OkF p.fs ∧ (p.fs.map (·.1)).Nodup
  used : ∀ p ∈ ps, ∀ x ∈ p.fs.map (·.1), valV uk (.inr x) = some (.str p.nm)
  txts : ∀ k v, valV uk k = some v → ∃ y, v = .str y
  len : ps.length ≤ i
structure Apart (ps : List Pcl) : Prop where
  nd : (ps.map keyOf).Nodup
  ok : ∀ p ∈ ps, p.fs.length ≤ 3 ∧ OkF p.fs ∧ (p.fs.map (·.1)).Nodup
  one : ∀ p ∈ ps, ∀ p' ∈ ps, ∀ x, x ∈ p.fs.map (·.1) → x ∈ p'.fs.map (·.1) → p.nm = p'.nm
  len : ps.length ≤ 6
theorem InvP.apart {ps : List Pcl} {uk : List (Key × V)} (h : InvP ps uk 6) : Apart ps := by
  refine ⟨h.nd, h.ok, fun p hp p' hp' x hx hx' => ?_, h.len⟩
  have a := h.used p hp x hx
  have b := h.used p' hp' x hx'
  rw [a] at b
  injection b with b
  injection b
/-- the files drawn so far -/
structure InvF (fs : Tr) (uk : List (Key × V)) (nm : Str) (j : Nat) : Prop where
  nd : (fs.map (·.1)).Nodup
  used : ∀ x ∈ fs.map (·.1), valV uk (.inr x) = some (.str nm)
  ok : OkF fs
  len : fs.length ≤ j
section
variable {P : Program} {w : World} {K : PySem.W.Frag} {mg : Str → Option Value} {base : Heap}
noncomputable def spPAp (K : PySem.W.Frag) (C : Addr) : Sp := fun vs H Q _ => ∃ (sc n : Addr) (is : List Int) (ns : List Str), vs = [.ref sc, .ref n, .int 3] ∧ SqL K H sc (is.map V.int) ∧ H n = some (.lst (ns.map V.str)) ∧ 1 ≤ ns.length ∧ ns.length ≤ 4 ∧
  ∀ fa H' vs ps, H fa = none → Same H H' → H' fa = some (.lst vs) → PclsAt C H' vs ps → Apart ps → Q (.ref fa) H'
theorem scPAp : FnScope ["_law_script", "_law_names", "_law_start", "_law_found", "_law_used", "_law_k", "_law_cell", "_law_name_here", "_law_files", "_law_j", "_law_path_here", "_law_offers", "_law_rank", "_law_parcel", "_law_mine"] ["_law_script", "_law_names", "_law_start"] (defScope sPAp) := ⟨rfl, rfl, rfl, by decide +kernel, rfl, by decide +kernel, by decide +kernel⟩
theorem okPAp {f C fPIn fMix fCel fPat fLis fMak : Addr} {fd fdPIn fdMix fdCel fdPat fdLis fdMak : FuncData} (F : Fun K "_law_parcels_apart" "_law_parcels_apart" sPAp f fd) (B : Blt mg) (T : Txt K mg C) (M : Mk K C fPIn) (FPIn : Fun K "__init__" "Parcel.__init__" sPIn fPIn fdPIn)
    (FMix : Fun K "_law_mixed" "_law_mixed" sMix fMix fdMix) (mMix : mg "_law_mixed" = some (.ref fMix)) (FCel : Fun K "_law_cell_at" "_law_cell_at" sCel fCel fdCel) (mCel : mg "_law_cell_at" = some (.ref fCel))
    (FPat : Fun K "_law_path" "_law_path" sPat fPat fdPat) (mPat : mg "_law_path" = some (.ref fPat)) (FLis : Fun K "_law_lines" "_law_lines" sLis fLis fdLis) (mLis : mg "_law_lines" = some (.ref fLis)) (GLis : FnOk P w K mg base CX0 2 fLis fdLis ["_law_number"] spLis)
    (FMak : Fun K "_law_make" "_law_make" sMak fMak fdMak) (mMak : mg "_law_make" = some (.ref fMak)) : FnOk P w K mg base CX0 3 f fd ["_law_script", "_law_names", "_law_start"] (spPAp K C) := by
  have GPIn : FnOk P w K mg base CX0 1 fPIn fdPIn ["self", "name", "make", "rank", "files", "needs", "shuts", "offers"] (spPIn K C) := okPIn FPIn T B.list
  have bPIn := FPIn.binds8 (l := ["self", "name", "make", "rank", "files", "needs", "shuts", "offers"]) (fun _ _ _ _ _ _ _ _ _ _ _ _ _ _ => rfl)
  have GMix : FnOk P w K mg base CX0 1 fMix fdMix ["_law_cell", "_law_k"] spMix := okMix FMix
  have bMix := FMix.binds2 (l := ["_law_cell", "_law_k"]) (fun _ _ _ _ _ _ _ _ => rfl)
  have GCel : FnOk P w K mg base CX0 1 fCel fdCel ["_law_script", "_law_k"] (spCel K) := okCel FCel B
  have bCel := FCel.binds2 (l := ["_law_script", "_law_k"]) (fun _ _ _ _ _ _ _ _ => rfl)
  have GPat : FnOk P w K mg base CX0 1 fPat fdPat ["_law_number"] spPat := okPat FPat
  have bPat := FPat.binds1 (l := ["_law_number"]) (fun _ _ _ _ _ _ _ => rfl)
  have bLis := FLis.binds1 (l := ["_law_number"]) (fun _ _ _ _ _ _ _ => rfl)
  have GMak : FnOk P w K mg base CX0 1 fMak fdMak ["_law_number"] spMak := okMak FMak
  have bMak := FMak.binds1 (l := ["_law_number"]) (fun _ _ _ _ _ _ _ => rfl)
  refine F.ok scPAp (fun vs H Q E h => ?_) (fun cdv A outer s H vs Q E hr h => ?_)
  · obtain ⟨sc, n, is, ns, rfl, _⟩ := h
    rfl
  · refine letX ?_
    intro xX dX
    obtain ⟨sc, n, is, ns, rfl, hsc, hn, n1', n4', q⟩ := h
    have hu := hr.units
    have hu2 : (A.deeper (PyProof.Rows.envOfC "_law_parcels_apart" (defScope sPAp) s.heap.objs.size f cdv)).units + 65 < cLine := by have := hr.un; omega
    have hr1 : Room 1 (A.deeper (PyProof.Rows.envOfC "_law_parcels_apart" (defScope sPAp) s.heap.objs.size f cdv)) := hr.mono (by decide)
    refine ⟨_, (pss_cons (ps_set (i := 3) scPAp.nd rfl (Or.inl rfl) (pe_lstN pa_nil))
        (pss_cons (ps_set (i := 4) scPAp.nd rfl (Or.inl rfl) pe_dnewN)
        (pss_cons (ps_for PassesOwn.never rfl (pi_range2 rfl B.range (pa_cons (pv 2) (pa_cons (pe_op op_add (pv 2) pe_int) pa_nil))) (pg_name (i := 5) scPAp.nd rfl (Or.inl rfl))
        (pss_cons (ps_set (i := 6) scPAp.nd rfl (Or.inl rfl) (pe_call GCel hr1 rfl mCel FCel.kp bCel .nil pass0 (pa_cons (pv 0) (pa_cons (pv 5) pa_nil))))
          (pss_cons (ps_set (i := 7) scPAp.nd rfl (Or.inr rfl) (pe_ix ix_list (pv 1) (pe_op op_mod (pe_op op_add (pv 6) (pv 5)) (pe_callB call_len_seq (by rfl) B.len PySem.boot_len (pa_cons (pv 1) pa_nil))) (fun _ _ => rfl)))
          (pss_cons (ps_set (i := 8) scPAp.nd rfl (Or.inl rfl) (pe_lstN pa_nil))
          (pss_cons (ps_for PassesOwn.never rfl (pi_range1 rfl B.range (pa_cons (pe_op op_mod (pe_call GMix hr1 rfl mMix FMix.kp bMix .nil pass0 (pa_cons (pv 6) (pa_cons pe_int pa_nil))) pe_int) pa_nil)) (pg_name (i := 9) scPAp.nd rfl (Or.inl rfl))
          (pss_cons (ps_set (i := 10) scPAp.nd rfl (Or.inl rfl) (pe_call GPat hr1 rfl mPat FPat.kp bPat .nil pass0 (pa_cons (pe_call GMix hr1 rfl mMix FMix.kp bMix .nil pass0 (pa_cons (pv 6) (pa_cons (pe_op op_add pe_int (pv 9)) pa_nil))) pa_nil)))
            (pss_one (ps_if (PW.pt (pw_and (pt_cmpR op_eq (pe_bm PySem.F.plainAttrs_dict PySem.F.slot_dict_setdefault PySem.F.type_dict_setdefault mt_setdef2 (pv 4) (pa_cons (pv 10) (pa_cons (pv 7) pa_nil))) (pv 7) (nomark _)) (pw_and1 (pt_cmpR op_notIn_seq (pv 10) (pe_compF ["_law_one"] [] [] ⟨rfl, by decide +kernel, by decide +kernel, by decide +kernel, by decide +kernel, rfl, rfl, rfl⟩ rfl (pi_list (pv 8)) (fun _ _ _ _ => (pg_name (i := 0) (show List.Nodup (["_law_one"] : List Str) by decide +kernel) rfl (Or.inl rfl))) (fun _ _ _ _ => pts_nil) (fun _ _ _ _ => (pe_ix (ix_tupK K) (pv 0) pe_int (fun _ _ => rfl)))) (by rfl)))))
            (pss_one (ps_expr (pe_bm PySem.F.plainAttrs_list PySem.F.slot_list_append PySem.F.type_list_append mt_append (pv 8) (pa_cons (pe_tupN (pa_cons (pv 10) (pa_cons (pe_call GLis hr rfl mLis FLis.kp bLis .nil pass0 (pa_cons (pe_call GMix hr1 rfl mMix FMix.kp bMix .nil pass0 (pa_cons (pv 6) (pa_cons (pe_op op_add pe_int (pv 9)) pa_nil))) pa_nil)) pa_nil))) pa_nil)))) pss_nil))))
          (pss_cons (ps_setComp (i := 11) ["_law_j"] ["_law_names"] [1] scPAp.nd rfl rfl ⟨rfl, by decide +kernel, by decide +kernel, by decide +kernel, by decide +kernel, rfl, rfl, rfl⟩ rfl (pi_range1 rfl B.range (pa_cons (pe_callB (call_min2 rfl) (by rfl) B.min PyProof.Rows.boot_min (pa_cons (pe_callB call_len_seq (by rfl) B.len PySem.boot_len (pa_cons (pv 1) pa_nil)) (pa_cons (pe_op op_fdiv (pe_op op_mod (pe_call GMix hr1 rfl mMix FMix.kp bMix .nil pass0 (pa_cons (pv 6) (pa_cons pe_int pa_nil))) pe_int) pe_int) pa_nil))) pa_nil)) (fun _ _ _ _ => (pg_name (i := 0) (show List.Nodup (["_law_j", "_law_names"] : List Str) by decide +kernel) rfl (Or.inl rfl))) (fun _ _ _ _ => pts_nil) (fun _ _ _ _ => (pe_ix (ix_listK K) (pv 1) (pe_op op_sub (pe_un un_neg pe_int) (pv 0)) (fun _ _ => rfl))))
          (pss_cons (ps_set (i := 12) scPAp.nd rfl (Or.inl rfl) (pe_ix ix_list (pe_lstN (pa_cons (pe_op op_mod (pe_call GMix hr1 rfl mMix FMix.kp bMix .nil pass0 (pa_cons (pv 6) (pa_cons pe_int pa_nil))) pe_int) (pa_cons (pe_op op_mod (pv 6) (pe_op op_pow pe_int pe_int)) pa_nil))) (pe_op op_mod (pe_call GMix hr1 rfl mMix FMix.kp bMix .nil pass0 (pa_cons (pv 6) (pa_cons pe_int pa_nil))) pe_int) (fun _ _ => rfl)))
          (pss_cons (ps_set (i := 13) scPAp.nd rfl (Or.inl rfl) (pe_make M GPIn hr rfl T.mgC bPIn .nil pass0 (pa_cons (pv 7) (pa_cons (pe_call GMak hr1 rfl mMak FMak.kp bMak .nil pass0 (pa_cons (pe_call GMix hr1 rfl mMix FMix.kp bMix .nil pass0 (pa_cons (pv 6) (pa_cons pe_int pa_nil))) pa_nil)) (pa_cons (pv 12) (pa_cons (pv 8) (pa_cons (pe_lstN pa_nil) (pa_cons (pe_lstN pa_nil) (pa_cons (pv 11) pa_nil)))))))))
          (pss_cons (ps_setComp (i := 14) ["_law_one"] ["_law_name_here"] [7] scPAp.nd rfl rfl ⟨rfl, by decide +kernel, by decide +kernel, by decide +kernel, by decide +kernel, rfl, rfl, rfl⟩ rfl (pi_list (pv 3)) (fun _ _ _ _ => (pg_name (i := 0) (show List.Nodup (["_law_one", "_law_name_here"] : List Str) by decide +kernel) rfl (Or.inl rfl))) (fun _ _ _ _ => pts_one (pt_cmpR op_eq (pe_fldK K (pv 0) rfl) (pv 1) (nomark _))) (fun _ _ _ _ => (pe_fldK K (pv 0) rfl)))
          (pss_one (ps_if (PW.pt (pw_and (pt_cmpR op_lt (pe_callB call_len_seq (by rfl) B.len PySem.boot_len (pa_cons (pv 14) pa_nil)) pe_int (nomark _)) (pw_and1 (pt_cmpR (op_notInD hu2) (pe_fld (pv 13) rfl) (pv 14) (by rfl)))))
          (pss_one (ps_expr (pe_bm PySem.F.plainAttrs_list PySem.F.slot_list_append PySem.F.type_list_append mt_append (pv 3) (pa_cons (pv 13) pa_nil)))) pss_nil)))))))))))
        (pss_one (ps_ret (pv 3)))))), ?_⟩
    refine lets4 ?_
    intro dD sS uU4 uU3 uU2
    refine ⟨(by show 0 ≤ sizeLine; decide), fun fa Ha na sa ea => ?_⟩
    refine fun ua Hb nb sb eb => ?_
    have fu : fa ≠ ua := ne_of_none ea nb
    have nb' : H ua = none := sa.free nb
    refine ⟨_, rfl, _, rfl, _, _, rfl, rfl, 3, 3 + 6, rfl, ⟨by omega, by omega, by omega, by omega⟩, ?_⟩
    refine for_range (lo := 3) (n := 6) (fun i σ H2 => ∃ (t5 t6 t7 t8 t9 t10 t11 t12 t13 t14 : Option V) (vs : List V) (ps : List Pcl) (uk : List (Key × V)), σ = [some (.ref sc), some (.ref n), some (.int 3), some (.ref fa), some (.ref ua), t5, t6, t7, t8, t9, t10, t11, t12, t13, t14] ∧ Same H H2 ∧ H2 fa = some (.lst vs) ∧ H2 ua = some (.dK uk) ∧ PclsAt C (msk [fa, ua] H2) vs ps ∧ InvP ps uk i ∧ uk.length ≤ 3 * i)
      ⟨none, none, none, none, none, none, none, none, none, none, [], [], [], rfl, sa.trans sb, sb _ _ ea, eb, .nil, ⟨List.nodup_nil, (fun _ h => nomatch h), (fun _ h => nomatch h), (fun _ _ h => nomatch h), Nat.le_refl _⟩, Nat.le_refl _⟩ ?_ ?_
    · intro i σ H2 hi hQ1
      refine letG ?_
      intro tT
      obtain ⟨t5, t6, t7, t8, t9, t10, t11, t12, t13, t14, vs, ps, uk, rfl, s2, hfa, hua, hps, inv, ul⟩ := hQ1
      refine lets9 ?_
      intro d' s' v9 v8 v7 v6 v5 v4 v3 v2
      refine ⟨_, rfl, _, rfl, sc, _, is, rfl, by omega, s2.seq hsc, fun cell => ?_⟩
      have hpos : (0 : Int) < ((ns.map V.str).length : Int) := by rw [List.length_map]; omega
      obtain ⟨nm, hnm, _⟩ := atI_strs (xs := ns) (r := (cell + (3 + (i : Int))) % ((ns.map V.str).length : Int)) (Int.emod_nonneg _ (by omega)) (by have := Int.emod_lt_of_pos (cell + (3 + (i : Int))) hpos; rw [List.length_map] at *; exact this)
      refine ⟨_, rfl, _, rfl, _, rfl, _, _, rfl, rfl, _, rfl, n, _, rfl, .inl (SqL.of (s2 _ _ hn)), _, _, rfl, rfl, hpos, n, _, _, _, rfl, rfl, SqL.of (s2 _ _ hn), hnm, ?_⟩
      refine ⟨(by show 0 ≤ sizeLine; decide), fun la H3 n3 s3 e3 => ?_⟩
      have lf : la ≠ fa := (ne_of_none hfa n3).symm
      have lu : la ≠ ua := (ne_of_none hua n3).symm
      refine ⟨_, rfl, _, _, rfl, fun m1 => ?_⟩
      refine ⟨_, _, rfl, rfl, (by show (0 : Int) < 4; decide), m1 % 4, rfl, by omega, by omega, ?_⟩
      refine for_range (n := (m1 % 4).toNat) (fun j σ H3 => ∃ (t9 t10 : Option V) (fvs : List V) (fs : Tr) (uk : List (Key × V)), σ = [some (.ref sc), some (.ref n), some (.int 3), some (.ref fa), some (.ref ua), some (.int (3 + (i : Int))), some (.int cell), some (.str nm), some (.ref la), t9, t10, t11, t12, t13, t14] ∧ Same H H3 ∧ H3 fa = some (.lst vs) ∧ H3 ua = some (.dK uk) ∧ H3 la = some (.lst fvs) ∧
          PclsAt C (msk [la, fa, ua] H3) vs ps ∧ Paired (FileH (msk [la, fa, ua] H3)) fvs fs ∧ InvP ps uk i ∧ InvF fs uk nm j ∧ uk.length ≤ 3 * i + j)
        ⟨_, _, [], [], uk, rfl, s2.trans s3, s3 _ _ hfa, s3 _ _ hua, e3, hps.same (msk_add n3 s3), .nil, inv, ⟨List.nodup_nil, (fun _ h => nomatch h), (fun _ h => nomatch h), Nat.le_refl _⟩, ul⟩ ?_ ?_
      · intro j σ H4 hj hQ2
        refine letG ?_
        intro tT
        obtain ⟨t9', t10', fvs, fs, uk1, rfl, s4, hfa4, hua4, hla4, hps4, hfs4, inv4, invf, ul4⟩ := hQ2
        first | (refine letB (g := gName _) ?_; intro eQ sQ) | (refine letB (g := gTup _ _ _) ?_; intro eQ sQ) | skip
        have j3 : j < 3 := by omega
        refine lets2 ?_
        intro d'' s'' w2
        refine ⟨_, rfl, _, rfl, _, _, rfl, rfl, _, _, rfl, fun m2 => ?_⟩
        refine ⟨_, rfl, fun x H5 lx ndx s5 => ?_⟩
        refine ⟨_, rfl, .inr (.inr (.inl ⟨rfl, .inl ⟨_, s5 _ _ hua4⟩⟩)), _, rfl, _, rfl, ua, uk1, .inr x, .str nm, rfl, rfl, s5 _ _ hua4, small1000 (by omega), fun z uk2 H6 hz hor hua6 k6 => ?_⟩
        have mono : ∀ key v, valV uk1 key = some v → valV uk2 key = some v := by
          rcases hor with rfl | ⟨h1, _, rfl⟩
          · exact fun _ _ h => h
          · intro key v hv
            rw [valV_put]
            split
            · rename_i e
              rw [e, h1] at hv
              cases hv
            · exact hv
        have ulen : uk2.length ≤ 3 * i + (j + 1) := by
          rcases hor with rfl | ⟨_, _, rfl⟩
          · omega
          · have := length_putK uk1 (.inr x) (.str nm)
            omega
        have txts2 : ∀ k v, valV uk2 k = some v → ∃ y, v = .str y := by
          rcases hor with rfl | ⟨_, _, rfl⟩
          · exact inv4.txts
          · intro k v hv
            rw [valV_put] at hv
            split at hv
            · cases hv; exact ⟨nm, rfl⟩
            · exact inv4.txts k v hv
        obtain ⟨z', rfl⟩ := txts2 _ _ hz
        have hS6 : Same H H6 := fun b o e => k6 _ _ (s5 _ _ (s4 _ _ e)) (fun z => by rw [z, nb'] at e; cases e)
        have hfa6 := k6 _ _ (s5 _ _ hfa4) fu
        have hla6 := k6 _ _ (s5 _ _ hla4) lu
        have sm6 : Same (msk [la, fa, ua] H4) (msk [la, fa, ua] H6) := (msk_mono s5).trans (msk_keep fun b o e hb => k6 _ _ e (fun z => hb (by rw [z]; simp)))
        have hfs6 := paired_mapP hfs4 fun _ _ => FileH.same sm6
        have inv6 : InvP ps uk2 i := ⟨inv4.nd, inv4.ok, fun p hp y hy => mono _ _ (inv4.used p hp y hy), txts2, inv4.len⟩
        have keep : ∀ (t9 t10 : Option V) (H7 : Hp), Same H6 H7 → ∃ (t9' t10' : Option V) (fvs : List V) (fs : Tr) (uk : List (Key × V)), [some (V.ref sc), some (.ref n), some (.int 3), some (.ref fa), some (.ref ua), some (.int (3 + (i : Int))), some (.int cell), some (.str nm), some (.ref la), t9, t10, t11, t12, t13, t14] = [some (V.ref sc), some (.ref n), some (.int 3), some (.ref fa), some (.ref ua), some (.int (3 + (i : Int))), some (.int cell), some (.str nm), some (.ref la), t9', t10', t11, t12, t13, t14] ∧ Same H H7 ∧ H7 fa = some (.lst vs) ∧ H7 ua = some (.dK uk) ∧ H7 la = some (.lst fvs) ∧
          PclsAt C (msk [la, fa, ua] H7) vs ps ∧ Paired (FileH (msk [la, fa, ua] H7)) fvs fs ∧ InvP ps uk i ∧ InvF fs uk nm (j + 1) ∧ uk.length ≤ 3 * i + (j + 1) :=
          fun t9 t10 H7 s7 => ⟨t9, t10, fvs, fs, uk2, rfl, hS6.trans s7, s7 _ _ hfa6, s7 _ _ hua6, s7 _ _ hla6, hps4.same (sm6.trans (msk_mono s7)), paired_mapP hfs6 (fun _ _ => FileH.same (msk_mono s7)), inv6, ⟨invf.nd, fun y hy => mono _ _ (invf.used y hy), invf.ok, Nat.le_succ_of_le invf.len⟩, ulen⟩
        refine ⟨_, rfl, rfl, _, rfl, ite2 (fun hz1 => ?_) (fun hz1 => iteF (keep _ _ H6 (Same.refl _)))⟩
        have ez : z' = nm := by
          have h := of_decide_eq_true hz1
          injection h
        subst ez
        refine ⟨_, rfl, _, rfl, la, rfl, ⟨_, SqL.of hla6⟩, ?_⟩
        refine comp_list0 (σ0 := [none]) (SqL.of hla6) (fun σ => ∃ v, σ = [v]) (fun i zs _ => zs = ((fs.map (·.1)).take i).map V.str) ⟨_, rfl⟩ (fun _ _ => rfl) ?_ ?_
        · rintro D i' y zs σ H7 k hD hy ⟨v, rfl⟩ hd h7 rfl hk
          obtain ⟨⟨px, ls⟩, hfj, t, l, rfl, t1, t2⟩ := paired_get' hfs6 hy
          have a0 : atI [V.str px, V.ref l] 0 = some (V.str px) := rfl
          refine ⟨_, rfl, t, _, _, _, rfl, rfl, SqT.of (h7 _ _ (msk_same _ _ t1)), a0, ?_⟩
          have fl3 := invf.len
          refine hk _ _ _ ⟨_, rfl⟩ (Same.refl _) (small1000 (by rw [List.length_map, List.length_take, List.length_map]; omega)) ?_
          rw [List.take_add_one, List.getElem?_map, hfj, List.map_append]
          rfl
        · rintro D zs H7 hD hd h7 rfl
          have fl := paired_len hfs6
          rw [fl, ← List.length_map (f := (·.1)), List.take_length] at hd
          refine ⟨D, _, rfl, .inl (SqL.of hd), rfl, flat_strs _, _, rfl, ite2 (fun hni => ?_) (fun hni => keep _ _ H7 h7)⟩
          have hnx : x ∉ fs.map (·.1) := fun hm => by
            have h : (!inV (.str x) ((fs.map (·.1)).map V.str)) = true := hni
            rw [inV_strs hm] at h
            cases h
          refine ⟨_, rfl, .inl ⟨rfl, _, SqL.of (h7 _ _ hla6)⟩, _, rfl, _, rfl, _, rfl, _, _, rfl, rfl, _, _, rfl, fun m3 => ?_⟩
          refine ⟨_, rfl, fun l H8 ls n8 s8 e8 lns l4 => ?_⟩
          refine ⟨(by show 2 ≤ sizeLine; decide), fun t H9 n9 s9 e9 => ?_⟩
          have s69 : Same H6 H9 := h7.trans (s8.trans s9)
          have fl3 := invf.len
          have fvl := paired_len hfs4
          refine ⟨la, _, _, rfl, rfl, s69 _ _ hla6, small1000 (by omega), ?_⟩
          have busy : ∀ Hx, Same H6 Hx → Busy Hx [la, fa, ua] := fun Hx sx b hb => by
            simp only [List.mem_cons, List.not_mem_nil, or_false] at hb
            rcases hb with rfl | rfl | rfl
            · exact ⟨_, sx _ _ hla6, by intro vs z; cases z⟩
            · exact ⟨_, sx _ _ hfa6, by intro vs z; cases z⟩
            · exact ⟨_, sx _ _ hua6, by intro vs z; cases z⟩
          have hl0 : H la = none := s2.free n3
          refine ⟨_, _, fvs ++ [.ref t], fs ++ [(x, ls)], uk2, rfl, same_upd' (hS6.trans s69) hl0, keep_upd (s69 _ _ hfa6) lf.symm, keep_upd (s69 _ _ hua6) lu.symm, upd_same, ?_, ?_, inv6, ⟨?_, ?_, ?_, ?_⟩, ulen⟩
          · rw [msk_upd List.mem_cons_self]
            exact hps4.same (sm6.trans (msk_mono s69))
          · rw [msk_upd List.mem_cons_self]
            exact paired_snoc ⟨t, l, rfl, msk_at ((busy H8 (h7.trans s8)).free n9) e9, msk_at ((busy H7 h7).free n8) (s9 _ _ e8)⟩ (paired_mapP hfs6 fun _ _ => FileH.same (msk_mono s69))
          · rw [List.map_append, List.nodup_append]
            refine ⟨invf.nd, by simp, fun a ha b hb => ?_⟩
            have hb : b = x := List.mem_singleton.mp hb
            rw [hb]
            exact fun e => hnx (e ▸ ha)
          · intro y hy
            rw [List.map_append] at hy
            rcases List.mem_append.mp hy with hy | hy
            · exact mono _ _ (invf.used y hy)
            · have hy : y = x := List.mem_singleton.mp hy
              rw [hy]; exact hz
          · intro f' hf'
            rcases List.mem_append.mp hf' with h' | h'
            · exact invf.ok f' h'
            · rw [List.mem_singleton.mp h']; exact ⟨lx, ⟨lns.all, l4⟩, ndx⟩
          · rw [List.length_append, List.length_singleton]; omega
      · intro σ H4 hQ3
        refine letG ?_
        intro tT
        obtain ⟨t9', t10', fvs, fs, uk1, rfl, s4, hfa4, hua4, hla4, hps4, hfs4, inv4, invf, ul4⟩ := hQ3
        first | (refine letB (g := gName _) ?_; intro eQ sQ) | (refine letB (g := gTup _ _ _) ?_; intro eQ sQ) | skip
        have fl3 : fs.length ≤ 3 := by have := invf.len; omega
        refine ⟨_, rfl, n, _, rfl, .inl (SqL.of (s4 _ _ hn)), _, rfl, _, _, rfl, fun m4 => ?_⟩
        obtain ⟨r, hr', r0, r4⟩ : ∃ r : Int, (if m4 % 6 / 2 < ((ns.map V.str).length : Int) then m4 % 6 / 2 else ((ns.map V.str).length : Int)) = r ∧ 0 ≤ r ∧ r ≤ ns.length := by
          refine ⟨_, rfl, ?_⟩
          rw [List.length_map]
          split <;> omega
        refine ⟨_, _, rfl, rfl, (by show (0 : Int) < 6; decide), _, _, rfl, rfl, ⟨by omega, by omega⟩, _, _, rfl, r, congrArg (fun z => [V.int z]) hr', by omega, by omega, ?_⟩
        refine comp_range0 (σ0 := [none, some (.ref n)]) (fun σ => ∃ v, σ = [v, some (.ref n)]) (fun i ys _ => ys.length = i) ⟨_, rfl⟩ (fun _ _ => rfl) ?_ ?_
        · rintro D i' ys σ H5 k hD hi' ⟨v, rfl⟩ hd h5 hl hk
          obtain ⟨y, hy⟩ := atI_neg (xs := ns.map V.str) (j := i') (by rw [List.length_map]; omega)
          refine ⟨_, rfl, _, rfl, _, rfl, _, _, rfl, rfl, n, _, _, _, rfl, rfl, SqL.of (h5 _ _ (s4 _ _ hn)), hy, ?_⟩
          exact hk _ _ _ ⟨_, rfl⟩ (Same.refl _) (small1000 (by omega)) (by rw [List.length_append, hl]; rfl)
        · rintro oa os H5 hD hd h5 hl
          refine ⟨_, rfl, _, _, rfl, fun m5 => ?_⟩
          refine ⟨_, _, rfl, rfl, (by show (0 : Int) < 3; decide), _, rfl, _, _, rfl, rfl, ⟨by decide, by decide, by decide⟩, _, _, rfl, rfl, (by show (0 : Int) < 10 ^ (9 : Int).toNat; decide), (by show 2 ≤ sizeLine; decide), fun q0 H6 n6 s6 e6 => ?_⟩
          refine ⟨_, rfl, _, _, rfl, fun m6 => ?_⟩
          obtain ⟨rk, hrk⟩ := at2i (.int (m5 % 3)) (.int (cell % 10 ^ (9 : Int).toNat)) m6
          refine ⟨_, _, rfl, rfl, (by show (0 : Int) < 2; decide), q0, _, _, _, rfl, rfl, SqL.of e6, hrk, ?_⟩
          refine ⟨_, rfl, _, rfl, _, _, rfl, fun m7 => ?_⟩
          refine ⟨_, rfl, fun m H7 ms n7 s7 e7 => ?_⟩
          refine ⟨_, rfl, _, rfl, (by show 0 ≤ sizeLine; decide), fun q1 H8 n8 s8 e8 => ?_⟩
          refine ⟨(by show 0 ≤ sizeLine; decide), fun q2 H9 n9 s9 e9 => ?_⟩
          have s49 : Same H4 H9 := h5.trans (s6.trans (s7.trans (s8.trans s9)))
          refine ⟨_, rfl, ?_⟩
          dsimp only [List.set, tNil]
          refine make_pclA (K := K) (C := C) (rk := rk) (nm := nm) (mk := ms) (fs := fs) (s9 _ _ (s8 _ _ e7)) (s49 _ _ hla4) (paired_mapP hfs4 fun _ _ z => (z.same msk_same).same s49) (s9 _ _ e8) e9 (s9 _ _ (s8 _ _ (s7 _ _ (s6 _ _ hd)))) (by omega) fun x H10 n10 s10 hpc => ?_
          have s410 := s49.trans s10
          have hfa10 := s410 _ _ hfa4
          have hps10 : PclsAt C H10 vs ps := (hps4.same (msk_mono s410)).same msk_same
          refine ⟨_, rfl, fa, rfl, ⟨_, SqL.of hfa10⟩, ?_⟩
          refine comp_listG (σ0 := [none, some (.str nm)]) (SqL.of hfa10) (fun σ => ∃ v, σ = [v, some (.str nm)]) (fun j zs _ => zs.length ≤ j ∧ ∃ mss, Paired (MkV H10) zs mss ∧ ∀ p ∈ ps.take j, p.nm = nm → p.ms ∈ mss) ⟨_, rfl⟩ (fun _ _ => ⟨Nat.le_refl _, [], .nil, fun _ h => nomatch h⟩) ?_ ?_
          · intro D j y zs σ H11 k k' hD hy hQ4 hd11 h11 hQ5 hk1 hk2
            refine letG ?_
            intro tT
            obtain ⟨v, rfl⟩ := hQ4
            obtain ⟨zl, mss, pr, pm⟩ := hQ5
            first | (refine letB (g := gName _) ?_; intro eQ sQ) | (refine letB (g := gTup _ _ _) ?_; intro eQ sQ) | skip
            obtain ⟨p, hp, b, dy, fl, rk', m', pf, pn, pss, po, ys, rfl, b1, b2, b3, b4, b5, b6⟩ := paired_get' hps10 hy
            have hlt := (List.getElem?_eq_some_iff.mp hp).1
            have il := inv4.len
            refine ⟨_, rfl, b, C, dy, _, _, rfl, h11 _ _ b1, T.cl, T.nN, b2.name, _, rfl, rfl, _, rfl, ?_⟩
            refine ite2 (fun h => ?_) (fun h => ?_)
            · refine ⟨_, rfl, b, C, dy, _, _, rfl, h11 _ _ b1, T.cl, T.nM, b2.make, ?_⟩
              refine hk1 _ _ _ ⟨_, rfl⟩ (Same.refl _) (small1000 (by omega)) ⟨by rw [List.length_append, List.length_singleton]; omega, mss ++ [p.ms], paired_snoc ⟨m', rfl, b3⟩ pr, fun p' hp' e => ?_⟩
              rw [List.take_add_one, hp] at hp'
              rcases List.mem_append.mp hp' with z | z
              · exact List.mem_append_left _ (pm p' z e)
              · have z : p' = p := List.mem_singleton.mp z
                rw [z]; exact List.mem_append_right _ (List.mem_singleton.mpr rfl)
            · refine hk2 _ _ ⟨_, rfl⟩ (Same.refl _) ⟨by omega, mss, pr, fun p' hp' e => ?_⟩
              rw [List.take_add_one, hp] at hp'
              rcases List.mem_append.mp hp' with z | z
              · exact pm p' z e
              · have z : p' = p := List.mem_singleton.mp z
                rw [z] at e
                exact absurd (by rw [e]; exact decide_eq_true rfl) h
          · intro D zs H11 hD hd11 h11 hQ6
            refine letG ?_
            intro tT
            obtain ⟨zl, mss, pr, pm⟩ := hQ6
            first | (refine letB (g := gName _) ?_; intro eQ sQ) | (refine letB (g := gTup _ _ _) ?_; intro eQ sQ) | skip
            rw [paired_len hps10, List.take_length] at pm
            have s411 := s410.trans h11
            have il := inv4.len
            have hvl := paired_len hps10
            have keep : ∀ (a5 a6 a7 a8 a9 a10 a11 a12 a13 a14 : Option V), ∃ (t5 t6 t7 t8 t9 t10 t11 t12 t13 t14 : Option V) (vs : List V) (ps : List Pcl) (uk : List (Key × V)), [some (V.ref sc), some (.ref n), some (.int 3), some (.ref fa), some (.ref ua), a5, a6, a7, a8, a9, a10, a11, a12, a13, a14] = [some (V.ref sc), some (.ref n), some (.int 3), some (.ref fa), some (.ref ua), t5, t6, t7, t8, t9, t10, t11, t12, t13, t14] ∧ Same H H11 ∧ H11 fa = some (.lst vs) ∧ H11 ua = some (.dK uk) ∧ PclsAt C (msk [fa, ua] H11) vs ps ∧ InvP ps uk (i + 1) ∧ uk.length ≤ 3 * (i + 1) :=
              fun a5 a6 a7 a8 a9 a10 a11 a12 a13 a14 => ⟨a5, a6, a7, a8, a9, a10, a11, a12, a13, a14, vs, ps, uk1, rfl, s4.trans s411, s411 _ _ hfa4, s411 _ _ hua4, hps4.same ((msk_mono s411).trans (msk_less fun b hb => List.mem_cons_of_mem _ hb)), ⟨inv4.nd, inv4.ok, inv4.used, inv4.txts, Nat.le_succ_of_le inv4.len⟩, by omega⟩
            refine ⟨_, rfl, D, _, rfl, .inl (SqL.of hd11), _, _, rfl, rfl, _, rfl, ite2 (fun _ => ?_) (fun _ => iteF (keep _ _ _ _ _ _ _ _ _ _))⟩
            obtain ⟨x', dx, fl, rk', m', pf, pn, pss, po, ys, ex, b1, b2, b3, b4, b5, b6⟩ := (hpc [] fun _ h => nomatch h).same (msk_same.trans h11)
            cases ex
            refine ⟨_, rfl, x, C, dx, _, _, rfl, b1, T.cl, T.nM, b2.make, _, rfl, ?_⟩
            refine ⟨D, zs, dI ms, mss.map dI, rfl, SqL.of hd11, dI_dv b3, mks_dv (paired_mapP pr fun _ _ => MkV.same h11), dI_ok 8 _, (fun e he => ?_), fun bb hb => ⟨_, rfl, ite2 (fun hbt => ?_) (fun _ => keep _ _ _ _ _ _ _ _ _ _)⟩⟩
            · obtain ⟨ms', _, rfl⟩ := List.mem_map.mp he
              exact dI_ok 8 _
            · have hms : ms ∉ mss := fun hm => by
                have : bb = true := hb.mpr (List.mem_map_of_mem hm)
                rw [this] at hbt
                cases hbt
              refine ⟨_, rfl, .inl ⟨rfl, _, SqL.of (s411 _ _ hfa4)⟩, _, rfl, fa, _, _, rfl, rfl, s411 _ _ hfa4, small1000 (by omega), ?_⟩
              refine ⟨_, _, _, _, _, _, _, _, _, _, vs ++ [.ref x], ps ++ [⟨nm, ms, fs, os⟩], uk1, rfl, same_upd' (s4.trans s411) na, upd_same, keep_upd (s411 _ _ hua4) fu.symm, ?_, ⟨?_, ?_, ?_, inv4.txts, ?_⟩, by omega⟩
              · rw [msk_upd List.mem_cons_self]
                refine paired_snoc ((hpc [fa, ua] fun b hb => ?_).same (msk_mono h11)) (hps4.same ((msk_mono s411).trans (msk_less fun b hb => List.mem_cons_of_mem _ hb)))
                simp only [List.mem_cons, List.not_mem_nil, or_false] at hb
                rcases hb with rfl | rfl
                · exact ⟨_, s49 _ _ hfa4, by intro vs z; cases z⟩
                · exact ⟨_, s49 _ _ hua4, by intro vs z; cases z⟩
              · rw [List.map_append, List.nodup_append]
                refine ⟨inv4.nd, by simp, fun a ha b hb => ?_⟩
                have hb : b = keyOf ⟨nm, ms, fs, os⟩ := List.mem_singleton.mp hb
                rw [hb]
                intro e
                obtain ⟨p', hp', ep⟩ := List.mem_map.mp ha
                rw [e] at ep
                unfold keyOf at ep
                injection ep with ep1 ep2
                injection ep1 with ep1
                injection ep1 with ep1
                injection ep2 with ep2 _
                injection ep2 with ep2
                have ep2 : p'.ms = ms := (List.map_inj_right fun x y z => Sum.inl.inj z).mp ep2
                exact hms (ep2 ▸ pm p' hp' ep1)
              · intro p' hp'
                rcases List.mem_append.mp hp' with z | z
                · exact inv4.ok p' z
                · rw [List.mem_singleton.mp z]; exact ⟨fl3, invf.ok, invf.nd⟩
              · intro p' hp'
                rcases List.mem_append.mp hp' with z | z
                · exact inv4.used p' z
                · rw [List.mem_singleton.mp z]; exact invf.used
              · rw [List.length_append, List.length_singleton]; omega
    · intro σ H2 hQ7
      refine letG ?_
      intro tT
      obtain ⟨t5, t6, t7, t8, t9, t10, t11, t12, t13, t14, vs, ps, uk, rfl, s2, hfa, hua, hps, inv, ul⟩ := hQ7
      exact ⟨_, rfl, q fa H2 vs ps na s2 hfa (hps.same msk_same) inv.apart⟩
end
end K32

set_option Elab.async false
set_option linter.all false
set_option maxRecDepth 100000
set_option maxHeartbeats 4000000
namespace K32
open PySem L2 PySem.Spec
theorem OwV.put {H1 : Hp} {d : Addr} {ks ks' : List (Key × V)} (hd : H1 d = some (.dK ks)) {kv : Key × V} {e : Str × (List Str × List Str)} (h : OwV H1 kv e) : OwV (upd H1 d (.dK ks')) kv e :=
  h.elim fun a zq505 => zq505.elim fun t zq506 => zq506.elim fun l1 zq507 => zq507.elim fun l2 zq508 => zq508.elim fun b zq509 => zq509.elim fun c zq510 => zq510.elim fun d' f => ⟨a, t, l1, l2, b, keep_upd c (ne_of c hd (by intro z; cases z)), keep_upd d' (ne_of d' hd (by intro z; cases z)), keep_upd f (ne_of f hd (by intro z; cases z))⟩
/-- a few lines -/
structure Few (n : Nat) (xs : List Str) : Prop where
  len : xs.length ≤ n
  all : ∀ x ∈ xs, Ln x
noncomputable def OkW (ow : Ow) : Prop := ∀ e ∈ ow, (Ln e.1 ∧ NoDot e.1) ∧ Few 12 e.2.1 ∧ Few 12 e.2.2
section
variable {P : Program} {w : World} {K : PySem.W.Frag} {mg : Str → Option Value} {base : Heap}
noncomputable def spOwn (K : PySem.W.Frag) : Sp := fun vs H Q _ => ∃ (sc d : Addr) (is : List Int) (kvs : List (Key × V)) (tr : Tr), vs = [.ref sc, .ref d] ∧ SqL K H sc (is.map V.int) ∧ H d = some (.dK kvs) ∧ Paired (DuV H) kvs tr ∧ OkF tr ∧ tr.length < 64 ∧
  ∀ o H' ow, H o = none → Same H H' → OwnAt H' o ow → (ow.map (·.1)).Nodup → OkW ow → ow.length ≤ 6 → Q (.ref o) H'
theorem scOwn : FnScope ["_law_script", "_law_brought_here", "_law_own_here", "_law_cell", "_law_path_here", "_law_base", "_law_mine"] ["_law_script", "_law_brought_here"] (defScope sOwn) := ⟨rfl, rfl, rfl, by decide +kernel, rfl, by decide +kernel, by decide +kernel⟩
theorem okOwn {f fMix fCel fPat fLis : Addr} {fd fdMix fdCel fdPat fdLis : FuncData} (F : Fun K "_law_own" "_law_own" sOwn f fd) (B : Blt mg) (FMix : Fun K "_law_mixed" "_law_mixed" sMix fMix fdMix) (mMix : mg "_law_mixed" = some (.ref fMix)) (FCel : Fun K "_law_cell_at" "_law_cell_at" sCel fCel fdCel) (mCel : mg "_law_cell_at" = some (.ref fCel))
    (FPat : Fun K "_law_path" "_law_path" sPat fPat fdPat) (mPat : mg "_law_path" = some (.ref fPat)) (FLis : Fun K "_law_lines" "_law_lines" sLis fLis fdLis) (mLis : mg "_law_lines" = some (.ref fLis)) (GLis : FnOk P w K mg base CX0 2 fLis fdLis ["_law_number"] spLis) : FnOk P w K mg base CX0 3 f fd ["_law_script", "_law_brought_here"] (spOwn K) := by
  have GMix : FnOk P w K mg base CX0 1 fMix fdMix ["_law_cell", "_law_k"] spMix := okMix FMix
  have bMix := FMix.binds2 (l := ["_law_cell", "_law_k"]) (fun _ _ _ _ _ _ _ _ => rfl)
  have GCel : FnOk P w K mg base CX0 1 fCel fdCel ["_law_script", "_law_k"] (spCel K) := okCel FCel B
  have bCel := FCel.binds2 (l := ["_law_script", "_law_k"]) (fun _ _ _ _ _ _ _ _ => rfl)
  have GPat : FnOk P w K mg base CX0 1 fPat fdPat ["_law_number"] spPat := okPat FPat
  have bPat := FPat.binds1 (l := ["_law_number"]) (fun _ _ _ _ _ _ _ => rfl)
  have bLis := FLis.binds1 (l := ["_law_number"]) (fun _ _ _ _ _ _ _ => rfl)
  refine F.ok scOwn (fun vs H Q E h => ?_) (fun cdv A outer s H vs Q E hr h => ?_)
  · obtain ⟨sc, d, is, kvs, tr, rfl, _⟩ := h
    rfl
  · refine letX ?_
    intro xX dX
    obtain ⟨sc, d, is, kvs, tr, rfl, hsc, hd, pr, okF, h64, q⟩ := h
    have hu := hr.units
    have hu0 := hr.units0
    have hk : ∀ (H' : Hp) kv f, DuV H' kv f → kv.1 = Sum.inr f.1 := fun _ kv f z => z.1
    have hkO : ∀ (H' : Hp) kv f, OwV H' kv f → kv.1 = Sum.inr f.1 := fun _ kv f z => z.1
    have hr1 : Room 1 (A.deeper (PyProof.Rows.envOfC "_law_own" (defScope sOwn) s.heap.objs.size f cdv)) := hr.mono (by decide)
    refine ⟨_, (pss_cons (ps_set (i := 2) scOwn.nd rfl (Or.inl rfl) pe_dnewN)
        (pss_cons (ps_for PassesOwn.never rfl (pi_list (pe_compF ["_law_k"] ["_law_script"] [0] ⟨rfl, by decide +kernel, by decide +kernel, by decide +kernel, by decide +kernel, rfl, rfl, rfl⟩ rfl (pi_range2 rfl B.range (pa_cons pe_int (pa_cons pe_int pa_nil))) (fun _ _ _ _ => (pg_name (i := 0) (show List.Nodup (["_law_k", "_law_script"] : List Str) by decide +kernel) rfl (Or.inl rfl))) (fun _ _ _ _ => pts_nil) (fun _ _ _ _ => (pe_call GCel hr1 rfl mCel FCel.kp bCel .nil pass0 (pa_cons (pv 1) (pa_cons (pv 0) pa_nil)))))) (pg_name (i := 3) scOwn.nd rfl (Or.inl rfl))
        (pss_cons (ps_set (i := 4) scOwn.nd rfl (Or.inl rfl) (pe_call GPat hr1 rfl mPat FPat.kp bPat .nil pass0 (pa_cons (pe_call GMix hr1 rfl mMix FMix.kp bMix .nil pass0 (pa_cons (pv 3) (pa_cons pe_int pa_nil))) pa_nil)))
          (pss_cutE (ps_if (PW.pt (pw_and (pt_cmpR op_eq (pe_op op_mod (pv 3) pe_int) pe_int (nomark _)) (pw_and1 (pt_cmpR (op_neZ hu0) (pv 1) pe_dnewN (nomark _)))))
          (pss_one (ps_set (i := 4) scOwn.nd rfl (Or.inl rfl) (pe_ix ix_list (pe_callB (call_sortedK rfl) (by rfl) B.sorted PyProof.Rows.boot_sorted (pa_cons (pe_bm0 PySem.F.plainAttrs_dict PySem.F.slot_dict_keys PySem.F.type_dict_keys mt_keys (pv 1)) pa_nil)) (pe_op op_mod (pe_call GMix hr1 rfl mMix FMix.kp bMix .nil pass0 (pa_cons (pv 3) (pa_cons pe_int pa_nil))) (pe_callB call_lenD (by rfl) B.len PySem.boot_len (pa_cons (pv 1) pa_nil))) (fun _ _ => rfl)))) pss_nil)
          (pss_cutE (ps_set (i := 5) scOwn.nd rfl (Or.inl rfl) (pe_dget2 hu (pv 1) (pv 4) (pe_lstN pa_nil) ⟨rfl, rfl, rfl, rfl⟩))
          (pss_cutE (ps_if (pt_cmpR op_eq (pe_op op_mod (pe_op op_fdiv (pv 3) pe_int) pe_int) pe_int (nomark _))
          (pss_one (ps_set (i := 5) scOwn.nd rfl (Or.inl rfl) (pe_call GLis hr rfl mLis FLis.kp bLis .nil pass0 (pa_cons (pe_call GMix hr1 rfl mMix FMix.kp bMix .nil pass0 (pa_cons (pv 3) (pa_cons pe_int pa_nil))) pa_nil)))) pss_nil)
          (pss_cons (ps_set (i := 6) scOwn.nd rfl (Or.inl rfl) (pe_call GLis hr rfl mLis FLis.kp bLis .nil pass0 (pa_cons (pe_call GMix hr1 rfl mMix FMix.kp bMix .nil pass0 (pa_cons (pv 3) (pa_cons pe_int pa_nil))) pa_nil)))
          (pss_cutE (ps_if (pt_cmpR op_eq (pe_op op_mod (pe_op op_fdiv (pv 3) pe_int) pe_int) pe_int (nomark _))
          (pss_one (ps_set (i := 6) scOwn.nd rfl (Or.inl rfl) (pe_op op_catN (pe_op op_catN (pe_slice sl_listN (pv 5) po_none (po_some pe_int)) (pv 6)) (pe_slice sl_listN (pv 5) (po_some pe_int) po_none)))) pss_nil)
          (pss_cutE (ps_if (pt_cmpR op_eq (pe_op op_mod (pe_op op_fdiv (pv 3) pe_int) pe_int) pe_int (nomark _))
          (pss_one (ps_set (i := 6) scOwn.nd rfl (Or.inl rfl) (pv 5))) pss_nil)
          (pss_one (ps_if (PW.pt (pw_or (pt_cmpR op_gt (pe_op op_mod (pe_op op_fdiv (pv 3) pe_int) pe_int) pe_int (nomark _)) (pw_or1 (pt_cmpR (op_eqZ hu0) (pv 1) pe_dnewN (nomark _)))))
          (pss_one (ps_dput hu (pv 2) (pv 4) (pe_tupN (pa_cons (pe_callTy call_listN (by rfl) B.list PyProof.Rows.boot_list (pa_cons (pv 5) pa_nil)) (pa_cons (pe_callTy call_listN (by rfl) B.list PyProof.Rows.boot_list (pa_cons (pv 6) pa_nil)) pa_nil))) rfl)) pss_nil))))))))))
        (pss_one (ps_ret (pv 2))))), ?_⟩
    refine lets3 ?_
    intro dD sS uU3 uU2
    refine fun o H1 n1 s1 e1 => ?_
    refine ⟨9, 15, rfl, ⟨by omega, by omega, by omega, by omega⟩, ?_⟩
    refine comp_range0 (σ0 := [none, some (.ref sc)]) (fun σ => ∃ v, σ = [v, some (.ref sc)]) (fun i ys _ => ys.length = i ∧ ∀ y ∈ ys, ∃ n : Int, y = .int n) ⟨_, rfl⟩ (fun _ _ => ⟨rfl, fun _ h => nomatch h⟩) ?_ ?_
    · rintro D i ys σ H2 k hD hi ⟨v, rfl⟩ hd2 hs ⟨hx, hy⟩ hk'
      refine ⟨_, rfl, _, rfl, sc, _, is, rfl, by omega, (s1.trans hs).seq hsc, fun n => ?_⟩
      refine hk' _ _ _ ⟨_, rfl⟩ (Same.refl _) (small1000 (by omega)) ⟨by rw [List.length_append, hx]; rfl, fun y hm => ?_⟩
      rcases List.mem_append.mp hm with hm | hm
      · exact hy y hm
      · exact ⟨n, List.mem_singleton.mp hm⟩
    rintro cs ys H2 hD2 hcs s2 ⟨hl, hy⟩
    have hl6 : ys.length = 6 := hl
    have s12 := s1.trans s2
    have co : cs ≠ o := (ne_of_none e1 hD2).symm
    refine ⟨cs, rfl, ⟨_, SqL.of hcs⟩, ?_⟩
    refine for_list (xs := ys) (fun i σ H3 => ∃ u3 u4 u5 u6 ko ow, σ = [some (.ref sc), some (.ref d), some (.ref o), u3, u4, u5, u6] ∧ Same H H3 ∧ H3 cs = some (.lst ys) ∧ H3 o = some (.dK ko) ∧ Paired (OwV H3) ko ow ∧ (ow.map (·.1)).Nodup ∧ OkW ow ∧ ow.length ≤ i)
      ⟨none, none, none, none, [], [], rfl, s12, hcs, s2 _ _ e1, .nil, List.nodup_nil, (fun _ h => nomatch h), Nat.le_refl _⟩ ?_ ?_ ?_
    · intro i σ H3 hi hQ1
      refine letG ?_
      intro tT
      obtain ⟨u3, u4, u5, u6, ko, ow, rfl, _, h, _⟩ := hQ1
      exact SqL.of h
    · intro i x σ H3 hx hQ2
      refine letG ?_
      intro tT
      obtain ⟨u3, u4, u5, u6, ko, ow, rfl, s3, hc3, ho3, po3, nd3, ok3, ol3⟩ := hQ2
      refine letB (g := gName _) ?_
      intro eQ sQ
      dsimp only [gName]
      refine lets2 ?_
      intro dE sE uE
      obtain ⟨cell, rfl⟩ := hy x (List.mem_of_getElem? hx)
      have hi6 := (List.getElem?_eq_some_iff.mp hx).1
      have hdu : Paired (DuV H3) kvs tr := paired_mapP pr fun _ _ => DuV.same s3
      refine ⟨_, rfl, _, _, rfl, fun m1 => ⟨_, rfl, fun p0 H4 lp0 np0 s4 => ?_⟩⟩
      refine ⟨fun σ' H' => ∃ p, σ' = [some (.ref sc), some (.ref d), some (.ref o), some (.int cell), some (.str p), u5, u6] ∧ Same H3 H' ∧ Ln p ∧ NoDot p, ?_, ?_⟩
      · refine lets1 ?_
        intro dC sC
        refine ⟨_, rfl, _, _, rfl, rfl, (by show (0 : Int) < 2; decide), rfl, _, rfl, ite2 (fun _ => ?_) (fun _ => iteF ⟨p0, rfl, s4, lp0, np0⟩)⟩
        refine ⟨_, rfl, fun z H5 n5 s5 e5 => ?_⟩
        have s35 := s4.trans s5
        refine ⟨d, z, kvs, rfl, rfl, s35 _ _ (s3 _ _ hd), e5, _, rfl, ite2 (fun hne => ?_) (fun _ => ⟨p0, rfl, s35, lp0, np0⟩)⟩
        have dh := s35 _ _ (s3 _ _ hd)
        refine ⟨_, rfl, .inr (.inr (.inl ⟨rfl, .inl ⟨_, dh⟩⟩)), d, _, rfl, rfl, dh, fun v6 H6 n6 s6 e6 => ?_⟩
        refine ⟨v6, d, kvs, _, rfl, e6, s6 _ _ dh, keysS_of (hk H) pr, by have := paired_len pr; omega, fun zs zp _ l7 H7 n7 s7 e7 => ?_⟩
        refine ⟨_, rfl, _, _, rfl, fun m2 => ?_⟩
        have hpos : 0 < kvs.length := by
          cases kvs with
          | nil => cases hne
          | cons a b => simp
        have zl : zs.length = kvs.length := by rw [zp.length_eq, List.length_map, paired_len pr]
        obtain ⟨y, hy1, hy2⟩ := atI_strs (xs := zs) (r := m2 % (kvs.length : Int)) (Int.emod_nonneg _ (by omega)) (by rw [zl]; exact Int.emod_lt_of_pos _ (by omega))
        refine ⟨_, rfl, d, kvs, rfl, s7 _ _ (s6 _ _ dh), _, _, rfl, rfl, (by show (0 : Int) < (kvs.length : Int); omega), l7, _, _, _, rfl, rfl, SqL.of e7, hy1, ?_⟩
        obtain ⟨f', hf', ef⟩ := List.mem_map.mp (zp.mem_iff.mp (List.mem_of_getElem? hy2))
        rw [← ef]
        exact ⟨f'.1, rfl, s35.trans (s6.trans s7), (okF f' hf').1, (okF f' hf').2.2⟩
      · intro σ5 H5 hQ3
        refine letG ?_
        intro tT
        obtain ⟨p, rfl, s5, lp, np⟩ := hQ3
        first | (refine letB (g := gName _) ?_; intro eQ sQ) | (refine letB (g := gTup _ _ _) ?_; intro eQ sQ) | skip
        have dh5 := s5 _ _ (s3 _ _ hd)
        refine ⟨fun σ' H' => ∃ b bs, σ' = [some (.ref sc), some (.ref d), some (.ref o), some (.int cell), some (.str p), some (.ref b), u6] ∧ Same H3 H' ∧ H' b = some (.lst (bs.map V.str)) ∧ Few 4 bs, ?_, ?_⟩
        · refine lets1 ?_
          intro dC sC
          refine ⟨_, rfl, d, rfl, .inl ⟨kvs, .inl dh5⟩, _, rfl, (by show 0 ≤ sizeLine; decide), fun z H6 n6 s6 e6 => ?_⟩
          refine ⟨_, DGet.k (k := .inr p) (s6 _ _ dh5), ?_⟩
          by_cases hin : p ∈ tr.map (·.1)
          · obtain ⟨v, ls, g1, g2, _, l, rfl, g3⟩ := paired_val (hk H3) hdu hin
            rw [g1]
            exact ⟨l, ls, rfl, s5.trans s6, s6 _ _ (s5 _ _ g3), ⟨(okF _ g2).2.1.2, (okF _ g2).2.1.1⟩⟩
          · rw [paired_none (hk H3) hdu hin]
            exact ⟨z, [], rfl, s5.trans s6, e6, ⟨Nat.zero_le _, fun _ h => nomatch h⟩⟩
        intro σ6 H6 hQ4
        refine letG ?_
        intro tT
        obtain ⟨b0, bs0, rfl, s6, hb0, fb0⟩ := hQ4
        first | (refine letB (g := gName _) ?_; intro eQ sQ) | (refine letB (g := gTup _ _ _) ?_; intro eQ sQ) | skip
        refine ⟨fun σ' H' => ∃ b bs, σ' = [some (.ref sc), some (.ref d), some (.ref o), some (.int cell), some (.str p), some (.ref b), u6] ∧ Same H3 H' ∧ H' b = some (.lst (bs.map V.str)) ∧ Few 4 bs, ?_, ?_⟩
        · refine lets1 ?_
          intro dC sC
          refine ⟨_, rfl, _, _, rfl, rfl, ⟨by omega, by omega⟩, _, _, rfl, rfl, (by show (0 : Int) < 3; decide), rfl, _, rfl, ite2 (fun _ => ?_) (fun _ => ⟨b0, bs0, rfl, s6, hb0, fb0⟩)⟩
          refine ⟨_, rfl, _, _, rfl, fun m3 => ⟨_, rfl, fun l H7 xs n7 s7 e7 lns l4 => ?_⟩⟩
          exact ⟨l, xs, rfl, s6.trans s7, e7, ⟨l4, lns.all⟩⟩
        intro σ7 H7 hQ5
        refine letG ?_
        intro tT
        obtain ⟨b, bs, rfl, s7, hb, fb⟩ := hQ5
        first | (refine letB (g := gName _) ?_; intro eQ sQ) | (refine letB (g := gTup _ _ _) ?_; intro eQ sQ) | skip
        refine lets2 ?_
        intro dF sF uF
        refine ⟨_, rfl, _, _, rfl, fun m4 => ⟨_, rfl, fun l0 H8 ms0 n8 s8 e8 lns0 l40 => ?_⟩⟩
        have fb4 := fb.len
        refine ⟨fun σ' H' => ∃ l ms, σ' = [some (.ref sc), some (.ref d), some (.ref o), some (.int cell), some (.str p), some (.ref b), some (.ref l)] ∧ Same H8 H' ∧ H' l = some (.lst (ms.map V.str)) ∧ Few 12 ms, ?_, ?_⟩
        · refine lets1 ?_
          intro dC sC
          refine ⟨_, rfl, _, _, rfl, rfl, ⟨by omega, by omega⟩, _, _, rfl, rfl, (by show (0 : Int) < 4; decide), rfl, _, rfl, ite2 (fun _ => ?_) (fun _ => ⟨l0, ms0, rfl, Same.refl _, e8, ⟨by omega, lns0.all⟩⟩)⟩
          have c1 := cutS_len bs none (some 1)
          have c2 := cutS_len bs (some 1) none
          refine ⟨_, rfl, _, rfl, b, _, rfl, SqL.of (s8 _ _ hb), fun q1 H9 n9 s9 e9 => ?_⟩
          rw [cutV_strs] at e9
          refine ⟨_, rfl, q1, l0, _, _, rfl, rfl, e9, s9 _ _ e8, smallL (by simp only [List.length_map]; omega), fun q2 H10 n10 s10 e10 => ?_⟩
          refine ⟨_, rfl, _, rfl, b, _, rfl, SqL.of (s10 _ _ (s9 _ _ (s8 _ _ hb))), fun q3 H11 n11 s11 e11 => ?_⟩
          rw [cutV_strs] at e11
          refine ⟨q2, q3, _, _, rfl, rfl, s11 _ _ e10, e11, smallL (by simp only [List.length_append, List.length_map]; omega), fun q4 H12 n12 s12' e12 => ?_⟩
          rw [strs_app, strs_app] at e12
          refine ⟨q4, _, rfl, s9.trans (s10.trans (s11.trans s12')), e12, ⟨by simp only [List.length_append]; omega, Lns.app_mem (Lns.app_mem (fun y hy => fb.all y (cutS_mem hy)) lns0.all) (fun y hy => fb.all y (cutS_mem hy))⟩⟩
        intro σ9 H9 hQ6
        refine letG ?_
        intro tT
        obtain ⟨l1, ms1, rfl, s9, hl1, fl1⟩ := hQ6
        first | (refine letB (g := gName _) ?_; intro eQ sQ) | (refine letB (g := gTup _ _ _) ?_; intro eQ sQ) | skip
        refine ⟨fun σ' H' => ∃ l ms, σ' = [some (.ref sc), some (.ref d), some (.ref o), some (.int cell), some (.str p), some (.ref b), some (.ref l)] ∧ Same H8 H' ∧ H' l = some (.lst (ms.map V.str)) ∧ Few 12 ms, ?_, ?_⟩
        · refine lets1 ?_
          intro dC sC
          refine ⟨_, rfl, _, _, rfl, rfl, ⟨by omega, by omega⟩, _, _, rfl, rfl, (by show (0 : Int) < 4; decide), rfl, _, rfl, ite2 (fun _ => ?_) (fun _ => ⟨l1, ms1, rfl, s9, hl1, fl1⟩)⟩
          exact ⟨_, rfl, b, bs, rfl, s9, s9 _ _ (s8 _ _ hb), ⟨by omega, fb.all⟩⟩
        intro σ10 H10 hQ7
        refine letG ?_
        intro tT
        obtain ⟨l, ms, rfl, s10, hml, fm⟩ := hQ7
        first | (refine letB (g := gName _) ?_; intro eQ sQ) | (refine letB (g := gTup _ _ _) ?_; intro eQ sQ) | skip
        have s310 : Same H3 H10 := s7.trans (s8.trans s10)
        have hb10 := s10 _ _ (s8 _ _ hb)
        have po10 := paired_mapP po3 fun _ _ => OwV.same s310
        have keep : ∀ Hx, Same H10 Hx → ∃ u3 u4 u5 u6 ko ow, [some (V.ref sc), some (.ref d), some (.ref o), some (.int cell), some (.str p), some (.ref b), some (.ref l)] = [some (V.ref sc), some (.ref d), some (.ref o), u3, u4, u5, u6] ∧ Same H Hx ∧ Hx cs = some (.lst ys) ∧ Hx o = some (.dK ko) ∧ Paired (OwV Hx) ko ow ∧ (ow.map (·.1)).Nodup ∧ OkW ow ∧ ow.length ≤ i + 1 :=
          fun Hx sx => ⟨_, _, _, _, ko, ow, rfl, s3.trans (s310.trans sx), sx _ _ (s310 _ _ hc3), sx _ _ (s310 _ _ ho3), paired_mapP po10 (fun _ _ => OwV.same sx), nd3, ok3, by omega⟩
        have pl := paired_len po3
        have fin : ∀ (q1 q2 q3 : Addr) (Hx : Hp), Same H10 Hx → Hx q3 = some (.tup [.ref q1, .ref q2]) → Hx q1 = some (.lst (bs.map V.str)) → Hx q2 = some (.lst (ms.map V.str)) → ∃ u3 u4 u5 u6 ko' ow', [some (V.ref sc), some (.ref d), some (.ref o), some (.int cell), some (.str p), some (.ref b), some (.ref l)] = [some (V.ref sc), some (.ref d), some (.ref o), u3, u4, u5, u6] ∧ Same H (upd Hx o (.dK (putK ko (.inr p) (.ref q3)))) ∧ (upd Hx o (.dK (putK ko (.inr p) (.ref q3)))) cs = some (.lst ys) ∧ (upd Hx o (.dK (putK ko (.inr p) (.ref q3)))) o = some (.dK ko') ∧ Paired (OwV (upd Hx o (.dK (putK ko (.inr p) (.ref q3))))) ko' ow' ∧ (ow'.map (·.1)).Nodup ∧ OkW ow' ∧ ow'.length ≤ i + 1 := by
          intro q1 q2 q3 Hx sx e3 ea eb
          refine ⟨_, _, _, _, _, putP ow p (bs, ms), rfl, same_upd' (s3.trans (s310.trans sx)) n1, keep_upd (sx _ _ (s310 _ _ hc3)) co, upd_same, ?_, putP_nodup nd3, fun e he => ?_, Nat.le_trans (putP_len ow p (bs, ms)) (by omega)⟩
          · exact paired_mapP (paired_put (F := OwV Hx) (hkO Hx) ⟨rfl, q3, q1, q2, rfl, e3, ea, eb⟩ (paired_mapP po10 fun _ _ => OwV.same sx)) fun _ _ => OwV.put (sx _ _ (s310 _ _ ho3))
          · rcases putP_mem he with e' | he
            · rw [e']; exact ⟨⟨lp, np⟩, ⟨Nat.le_trans fb.len (by decide), fb.all⟩, fm⟩
            · exact ok3 e he
        have o10 := s310 _ _ ho3
        refine ⟨_, rfl, _, _, rfl, rfl, ⟨by omega, by omega⟩, _, _, rfl, rfl, (by show (0 : Int) < 3; decide), _, _, rfl, rfl, _, rfl, ite2 (fun _ => iteT ?_) (fun _ => ?_)⟩
        · refine ⟨_, rfl, b, _, rfl, .inl (SqL.of hb10), fun q1 Ha na sa ea => ?_⟩
          refine ⟨_, rfl, l, _, rfl, .inl (SqL.of (sa _ _ hml)), fun q2 Hb nb sb eb => ?_⟩
          refine ⟨(by show 2 ≤ sizeLine; decide), fun q3 Hc nc sc' ec => ?_⟩
          refine ⟨_, rfl, _, rfl, o, _, rfl, DPut.k (k := .inr p) (sc' _ _ (sb _ _ (sa _ _ o10))) (small1000 (by omega)), ?_⟩
          exact fin q1 q2 q3 Hc (sa.trans (sb.trans sc')) ec (sc' _ _ (sb _ _ ea)) (sc' _ _ eb)
        · refine ⟨_, rfl, fun z H11 n11 s11 e11 => ?_⟩
          refine ⟨d, z, kvs, rfl, rfl, s11 _ _ (s310 _ _ (s3 _ _ hd)), e11, _, rfl, ite2 (fun _ => ?_) (fun _ => keep H11 s11)⟩
          refine ⟨_, rfl, b, _, rfl, .inl (SqL.of (s11 _ _ hb10)), fun q1 Ha na sa ea => ?_⟩
          refine ⟨_, rfl, l, _, rfl, .inl (SqL.of (sa _ _ (s11 _ _ hml))), fun q2 Hb nb sb eb => ?_⟩
          refine ⟨(by show 2 ≤ sizeLine; decide), fun q3 Hc nc sc' ec => ?_⟩
          refine ⟨_, rfl, _, rfl, o, _, rfl, DPut.k (k := .inr p) (sc' _ _ (sb _ _ (sa _ _ (s11 _ _ o10)))) (small1000 (by omega)), ?_⟩
          exact fin q1 q2 q3 Hc (s11.trans (sa.trans (sb.trans sc'))) ec (sc' _ _ (sb _ _ ea)) (sc' _ _ eb)
    · intro σ H3 hQ8
      refine letG ?_
      intro tT
      obtain ⟨u3, u4, u5, u6, ko, ow, rfl, s3, hc3, ho3, po3, nd3, ok3, ol3⟩ := hQ8
      exact ⟨_, rfl, q o H3 ow n1 s3 ⟨ko, ho3, po3⟩ nd3 ok3 (by omega)⟩
end
end K32

set_option Elab.async false
set_option linter.all false
set_option maxRecDepth 100000
set_option maxHeartbeats 4000000
namespace K32
open PySem L2 PySem.Spec Lcp
/-! ### tables looked up -/
section
variable {β : Type}
theorem lookP_nil (z : Str) : lookP ([] : List (Str × β)) z = none := rfl
theorem lookP_cons (f : Str × β) (tr : List (Str × β)) (z : Str) : lookP (f :: tr) z = if f.1 = z then some f.2 else lookP tr z := by
  unfold lookP
  by_cases h : f.1 = z
  · rw [List.find?_cons, if_pos h]
    simp only [h, decide_true]
    rfl
  · rw [List.find?_cons, if_neg h]
    simp only [h, decide_false]
theorem lookP_app (tr : List (Str × β)) (x : Str) (y : β) (z : Str) (h : x ∉ tr.map (·.1)) : lookP (tr ++ [(x, y)]) z = if z = x then some y else lookP tr z := by
  induction tr with
  | nil =>
    rw [List.nil_append, lookP_cons, lookP_nil]
    by_cases e : x = z
    · rw [if_pos e, if_pos e.symm]
    · rw [if_neg e, if_neg (fun q => e q.symm)]
  | cons f tr ih =>
    rw [List.map_cons, List.mem_cons, not_or] at h
    rw [List.cons_append, lookP_cons, lookP_cons, ih h.2]
    by_cases e : f.1 = z
    · rw [if_pos e, if_neg (fun q => h.1 (by rw [e, q])), if_pos e]
    · rw [if_neg e, if_neg e]
theorem lookP_map (tr : List (Str × β)) (x : Str) (y : β) (z : Str) (h : x ∈ tr.map (·.1)) : lookP (tr.map fun f => if f.1 = x then (f.1, y) else f) z = if z = x then some y else lookP tr z := by
  by_cases e : z = x
  · subst e
    rw [if_pos rfl]
    induction tr with
    | nil => cases h
    | cons f tr ih =>
      rw [List.map_cons, lookP_cons]
      by_cases q : f.1 = z
      · rw [if_pos q, if_pos q]
      · rw [if_neg q, if_neg q]
        rw [List.map_cons, List.mem_cons] at h
        exact ih (h.resolve_left fun r => q r.symm)
  · rw [if_neg e]
    clear h
    induction tr with
    | nil => rfl
    | cons f tr ih =>
      rw [List.map_cons, lookP_cons, lookP_cons, ih]
      by_cases q : f.1 = x
      · have n : ¬ f.1 = z := fun r => e (by rw [← r, q])
        rw [if_pos q, if_neg n, if_neg n]
      · rw [if_neg q]
theorem lookP_put (tr : List (Str × β)) (x : Str) (y : β) (z : Str) : lookP (putP tr x y) z = if z = x then some y else lookP tr z := by
  unfold putP
  split
  · rename_i h
    exact lookP_map tr x y z (any_key.mp h)
  · rename_i h
    exact lookP_app tr x y z fun q => h (any_key.mpr q)
theorem lookP_mem {tr : List (Str × β)} (nd : (tr.map (·.1)).Nodup) {x : Str} {y : β} (h : (x, y) ∈ tr) : lookP tr x = some y := by
  cases e : lookP tr x with
  | none => exact absurd (List.mem_map_of_mem (f := (·.1)) h) (lookP_none e)
  | some z => rw [nodup_fun nd (lookP_some e) h]
theorem lookP_key {tr : List (Str × β)} {x : Str} : x ∈ tr.map (·.1) ↔ ∃ y, lookP tr x = some y := by
  constructor
  · intro h
    cases e : lookP tr x with
    | none => exact absurd h (lookP_none e)
    | some z => exact ⟨z, rfl⟩
  · rintro ⟨y, h⟩
    exact List.mem_map_of_mem (f := (·.1)) (lookP_some h)
theorem look_perm {a b : List (Str × β)} (na : (a.map (·.1)).Nodup) (nb : (b.map (·.1)).Nodup) (h : lookP a = lookP b) : (a.map (·.1)).Perm (b.map (·.1)) :=
  (List.perm_ext_iff_of_nodup na nb).mpr fun x => by rw [lookP_key, lookP_key, h]
theorem look_same {a b : List (Str × β)} (na : (a.map (·.1)).Nodup) (nb : (b.map (·.1)).Nodup) (h : lookP a = lookP b) : ∀ x l l', (x, l) ∈ a → (x, l') ∈ b → l = l' := fun x l l' h1 h2 => by
  have e1 := lookP_mem na h1
  have e2 := lookP_mem nb h2
  rw [h, e2] at e1
  exact (Option.some.inj e1).symm
end
theorem putAll_look {a b : Tr} (h : lookP a = lookP b) : ∀ m : Tr, lookP (putAll a m) = lookP (putAll b m) := by
  intro m
  induction m generalizing a b with
  | nil => exact h
  | cons f m ih =>
    show lookP (putAll (putP a f.1 f.2) m) = lookP (putAll (putP b f.1 f.2) m)
    exact ih (by funext z; rw [lookP_put, lookP_put, h])
theorem tree_same {a b : Tr} (h : lookP a = lookP b) (ow : Ow) : lookP (treeP a ow) = lookP (treeP b ow) := by
  unfold treeP
  rw [h]
  have key : ∀ (ow : Ow) (c d : Tr), lookP c = lookP d → lookP (ow.foldl (fun tr e => putAll tr (fcP (lookP b e.1) e.1 e.2.1 e.2.2)) c) = lookP (ow.foldl (fun tr e => putAll tr (fcP (lookP b e.1) e.1 e.2.1 e.2.2)) d) := by
    intro ow
    induction ow with
    | nil => exact fun c d q => q
    | cons e ow ih => exact fun c d q => ih _ _ (putAll_look q _)
  exact key ow a b h
theorem tree_nodup {a : Tr} (h : (a.map (·.1)).Nodup) (ow : Ow) : ((treeP a ow).map (·.1)).Nodup := by
  unfold treeP
  have key : ∀ (ow : Ow) (c : Tr), (c.map (·.1)).Nodup → ((ow.foldl (fun tr e => putAll tr (fcP (lookP a e.1) e.1 e.2.1 e.2.2)) c).map (·.1)).Nodup := by
    intro ow
    induction ow with
    | nil => exact fun c q => q
    | cons e ow ih => exact fun c q => ih _ (putAll_nodup q)
  exact key ow a h
theorem fc_look {acc : Tr} {o : Option (List Str)} {p x : Str} {b m : List Str} (h : x ≠ p) (hd : NoDot x) : lookP (putAll acc (fcP o p b m)) x = lookP acc x := by
  unfold fcP
  cases o with
  | none =>
    show lookP (putP acc p m) x = _
    rw [lookP_put, if_neg h]
  | some br =>
    dsimp only
    cases (merge b m br).2 with
    | none =>
      show lookP (putP acc p _) x = _
      rw [lookP_put, if_neg h]
    | some z =>
      show lookP (putP (putP acc p _) (p ++ ownS) z) x = _
      have n2 : ¬ x = p ++ ownS := noDot_own hd
      rw [lookP_put, if_neg n2, lookP_put, if_neg h]
theorem tree_look (tr0 : Tr) {x : Str} (hd : NoDot x) : ∀ {ow : Ow}, x ∉ ow.map (·.1) → lookP (treeP tr0 ow) x = lookP tr0 x := by
  have key : ∀ (ow : Ow) (c : Tr), x ∉ ow.map (·.1) → lookP (ow.foldl (fun tr e => putAll tr (fcP (lookP tr0 e.1) e.1 e.2.1 e.2.2)) c) x = lookP c x := by
    intro ow
    induction ow with
    | nil => exact fun c _ => rfl
    | cons e ow ih =>
      intro c h
      rw [List.map_cons, List.mem_cons, not_or] at h
      rw [List.foldl_cons, ih _ h.2, fc_look h.1 hd]
  exact fun {ow} h => key ow tr0 h
theorem gath_look {d d' t t' : Tr} (g : Gath d t) (g' : Gath d' t') (h : ∀ f, f ∈ d ↔ f ∈ d') (fn : Func d') : lookP t = lookP t' := by
  funext x
  cases e : lookP t x with
  | none =>
    cases e' : lookP t' x with
    | none => rfl
    | some y =>
      exact absurd (g.key _ ((h _).mpr (g'.sub _ (lookP_some e')))) (lookP_none e)
  | some y =>
    have hy := (h _).mp (g.sub _ (lookP_some e))
    obtain ⟨z, hz⟩ := lookP_key.mp (g'.key _ hy)
    rw [hz, fn x y z hy (g'.sub _ (lookP_some hz))]
theorem okR_put {tr : Tr} {x : Str} {ls : List Str} (h : OkR tr) (hx : TxtOk x) (hl : ∀ y ∈ ls, TxtOk y) : OkR (putP tr x ls) := fun f hf => by
  rcases putP_mem hf with e | hf
  · rw [e]; exact ⟨hx, hl⟩
  · exact h f hf
theorem okR_fc {acc : Tr} {o : Option (List Str)} {p : Str} {b m : List Str} (h : OkR acc) (hp : Ln p) (hb : ∀ x ∈ b, Ln x) (hm : ∀ x ∈ m, Ln x) (ho : ∀ ls, o = some ls → ∀ x ∈ ls, Ln x) : OkR (putAll acc (fcP o p b m)) := by
  unfold fcP
  cases o with
  | none => exact okR_put (tr := acc) h hp.ok fun y hy => (hm y hy).ok
  | some br =>
    dsimp only
    have h1 := okR_put (ls := (merge b m br).1) h hp.ok fun y hy => (merge_ln hb hm (ho br rfl) y hy).ok
    cases e : (merge b m br).2 with
    | none => exact h1
    | some z =>
      have ez : z = m := by
        rcases merge_bes b m br with q | q
        · rw [q] at e; cases e
        · rw [q] at e; exact (Option.some.inj e).symm
      subst ez
      exact okR_put h1 (txtOk_app hp.ok (by decide +kernel)) fun y hy => (hm y hy).ok
theorem okR_tree {tr0 : Tr} (h : ∀ f ∈ tr0, Ln f.1 ∧ ∀ x ∈ f.2, Ln x) {ow : Ow} (hw : ∀ e ∈ ow, Ln e.1 ∧ (∀ x ∈ e.2.1, Ln x) ∧ ∀ x ∈ e.2.2, Ln x) : OkR (treeP tr0 ow) := by
  have key : ∀ (ow : Ow) (c : Tr), OkR c → (∀ e ∈ ow, Ln e.1 ∧ (∀ x ∈ e.2.1, Ln x) ∧ ∀ x ∈ e.2.2, Ln x) → OkR (ow.foldl (fun tr e => putAll tr (fcP (lookP tr0 e.1) e.1 e.2.1 e.2.2)) c) := by
    intro ow
    induction ow with
    | nil => exact fun c q _ => q
    | cons e ow ih =>
      intro c q hw
      obtain ⟨w1, w2, w3⟩ := hw e List.mem_cons_self
      exact ih _ (okR_fc q w1 w2 w3 fun ls hl => (h _ (lookP_some hl)).2) fun e' he => hw e' (List.mem_cons_of_mem _ he)
  exact key ow tr0 (fun f hf => ⟨(h f hf).1.ok, fun y hy => ((h f hf).2 y hy).ok⟩) hw
/-! ### the set, as in the law of files brought -/
theorem nodup_key {ps : List Pcl} (h : (ps.map keyOf).Nodup) {p q : Pcl} (hp : p ∈ ps) (hq : q ∈ ps) (e : keyOf p = keyOf q) : p = q := by
  induction ps with
  | nil => cases hp
  | cons r ps ih =>
    rw [List.map_cons, List.nodup_cons] at h
    rcases List.mem_cons.mp hp with ep | hp
    · rcases List.mem_cons.mp hq with eq | hq
      · rw [ep, eq]
      · exact absurd (List.mem_map_of_mem (f := keyOf) hq) (by rw [← e, ep]; exact h.1)
    · rcases List.mem_cons.mp hq with eq | hq
      · exact absurd (List.mem_map_of_mem (f := keyOf) hp) (by rw [e, eq]; exact h.1)
      · exact ih h.2 hp hq
theorem mem_files {ps : List Pcl} {f : Str × List Str} : f ∈ filesOf ps ↔ ∃ p ∈ ps, f ∈ p.fs := List.mem_flatMap
noncomputable def bare (p : Pcl) : Pcl := ⟨p.nm, p.ms, p.fs, []⟩
theorem Apart.bare {ps : List Pcl} (h : Apart ps) : Apart (ps.map bare) := by
  refine ⟨?_, fun p hp => ?_, fun p hp p' hp' x hx hx' => ?_, by rw [List.length_map]; exact h.len⟩
  · rw [List.map_map]; exact h.nd
  · obtain ⟨r, hr, rfl⟩ := List.mem_map.mp hp
    exact h.ok r hr
  · obtain ⟨r, hr, rfl⟩ := List.mem_map.mp hp
    obtain ⟨r', hr', rfl⟩ := List.mem_map.mp hp'
    exact h.one r hr r' hr' x hx hx'
theorem sel_mem {ps : List Pcl} {ch : Ch} {p : Pcl} : p ∈ ps.filter (sel ch) ↔ p ∈ ps ∧ (p.nm, p.ms) ∈ ch := by
  rw [List.mem_filter]
  unfold sel
  rw [decide_eq_true_iff]
theorem same_files {ps px : List Pcl} {ch : Ch} (h : Apart ps) (hnd : (ch.map (·.1)).Nodup) (pn : (px.map (·.nm)).Perm (ch.map (·.1))) (pm : ∀ p ∈ px, p ∈ ps ∧ (p.nm, p.ms) ∈ ch) (f : Str × List Str) : f ∈ filesOf px ↔ f ∈ filesOf (ps.filter (sel ch)) := by
  rw [mem_files, mem_files]
  constructor
  · rintro ⟨p, hp, hf⟩
    exact ⟨p, sel_mem.mpr (pm p hp), hf⟩
  · rintro ⟨p, hp, hf⟩
    obtain ⟨h1, h2⟩ := sel_mem.mp hp
    have : p.nm ∈ px.map (·.nm) := pn.mem_iff.mpr (List.mem_map_of_mem (f := (·.1)) h2)
    obtain ⟨r, hr, er⟩ := List.mem_map.mp this
    obtain ⟨h3, h4⟩ := pm r hr
    rw [er] at h4
    have em := nodup_fun hnd h4 h2
    have : r = p := nodup_key h.nd h3 h1 (by unfold keyOf; rw [er, em])
    rw [← this] at hf
    exact ⟨r, hr, hf⟩
theorem sel_func {ps : List Pcl} {ch : Ch} (h : Apart ps) (hnd : (ch.map (·.1)).Nodup) : Func (filesOf (ps.filter (sel ch))) := by
  intro x l l' a b
  obtain ⟨p, hp, hf⟩ := mem_files.mp a
  obtain ⟨p', hp', hf'⟩ := mem_files.mp b
  obtain ⟨h1, h2⟩ := sel_mem.mp hp
  obtain ⟨h3, h4⟩ := sel_mem.mp hp'
  have en := h.one p h1 p' h3 x (List.mem_map_of_mem (f := (·.1)) hf) (List.mem_map_of_mem (f := (·.1)) hf')
  rw [en] at h2
  have em := nodup_fun hnd h2 h4
  have : p = p' := nodup_key h.nd h1 h3 (by unfold keyOf; rw [en, em])
  subst this
  exact nodup_fun (h.ok p h1).2.2 hf hf'
theorem files_ok {ps : List Pcl} {tr : Tr} {D : Tr} (h : ∀ p ∈ ps, OkF p.fs) (g : Gath D tr) (hD : ∀ f ∈ D, f ∈ filesOf ps) : OkF tr := fun f hf => by
  obtain ⟨p, hp, hf⟩ := mem_files.mp (hD f (g.sub f hf))
  exact h p hp f hf
/-! ### what is handed, and what is due, while the own changes are gone through -/
/-- what stands but for dicts -/
noncomputable def KD (H H' : Hp) : Prop := ∀ b z, H b = some z → (∀ ks, z ≠ .dK ks) → H' b = some z
theorem PclAt.kd {C : Addr} {H H' : Hp} {v : V} {p : Pcl} (s : KD H H') (h : PclAt C H v p) : PclAt C H' v p := by
  obtain ⟨a, dx, fl, rk, m, pf, pn, ps, po, xs, e, h1, h2, h3, h4, h5, h6⟩ := h
  have t : ∀ {b : Addr} {z : HO}, H b = some z → (∀ ks, z ≠ .dK ks) → H' b = some z := fun e h => s _ _ e h
  refine ⟨a, dx, fl, rk, m, pf, pn, ps, po, xs, e, t h1 (by intro ks z; cases z), h2, t h3 (by intro ks z; cases z), t h4 (by intro ks z; cases z), paired_mapP h5 (fun v f q => ?_), t h6 (by intro ks z; cases z)⟩
  obtain ⟨t', l, e, a, b⟩ := q
  exact ⟨t', l, e, t a (by intro ks z; cases z), t b (by intro ks z; cases z)⟩
noncomputable def HanV (H : Hp) (L : List Addr) (kv : Key × V) (e : Str × (List Str × List Str)) : Prop := kv.1 = .inr e.1 ∧ ∃ t l1 l2, kv.2 = .ref t ∧ H t = some (.tup [.ref l1, .ref l2]) ∧ H l1 = some (.lst (e.2.1.map V.str)) ∧ H l2 = some (.lst (e.2.2.map V.str)) ∧ l1 ∈ L ∧ l2 ∈ L
theorem HanV.ow {H : Hp} {L : List Addr} {kv : Key × V} {e : Str × (List Str × List Str)} (h : HanV H L kv e) : OwV H kv e := h.elim fun a zq511 => zq511.elim fun t zq512 => zq512.elim fun l1 zq513 => zq513.elim fun l2 zq514 => zq514.elim fun b zq515 => zq515.elim fun c zq516 => zq516.elim fun d zq517 => zq517.elim fun f zq518 => zq518.elim fun _ _ => ⟨a, t, l1, l2, b, c, d, f⟩
structure InvO (H0 : Hp) (o h du : Addr) (fz : HO) (kh kd : List (Key × V)) (L : List Addr) (hw : Ow) (dw : Tr) (H5 : Hp) : Prop where
  keep : ∀ b z, H0 b = some z → b ≠ o → b ≠ du → H5 b = some z
  free : ∀ b, H5 b = none → H0 b = none
  own : H5 o = some fz
  han : H5 h = some (.dK kh)
  due : H5 du = some (.dK kd)
  ph : Paired (HanV H5 L) kh hw
  lst : ∀ b ∈ L, H0 b = none ∧ ∃ ys, H5 b = some (.lst ys) ∧ ys.length ≤ 100
  pd : Paired (DuV (msk L H5)) kd dw
section
variable {H0 H H' : Hp} {o h du : Addr} {fz : HO} {kh kd : List (Key × V)} {L : List Addr} {hw : Ow} {dw : Tr}
theorem InvO.same (I : InvO H0 o h du fz kh kd L hw dw H) (s : Same H H') : InvO H0 o h du fz kh kd L hw dw H' where
  keep := fun b z e h1 h2 => s _ _ (I.keep b z e h1 h2)
  free := fun b e => I.free b (s.free e)
  own := s _ _ I.own
  han := s _ _ I.han
  due := s _ _ I.due
  ph := paired_mapP I.ph fun kv e q => q.elim fun a zq519 => zq519.elim fun t zq520 => zq520.elim fun l1 zq521 => zq521.elim fun l2 zq522 => zq522.elim fun b zq523 => zq523.elim fun c zq524 => zq524.elim fun d zq525 => zq525.elim fun f zq526 => zq526.elim fun g i => ⟨a, t, l1, l2, b, s _ _ c, s _ _ d, s _ _ f, g, i⟩
  lst := fun b hb => (I.lst b hb).elim fun a zq527 => zq527.elim fun ys zq528 => zq528.elim fun c d => ⟨a, ys, s _ _ c, d⟩
  pd := paired_mapP I.pd fun _ _ => DuV.same (msk_mono s)
theorem InvO.fresh (I : InvO H0 o h du fz kh kd L hw dw H) {b : Addr} (e : H b = none) : b ∉ L := fun hb => by
  obtain ⟨_, ys, q, _⟩ := I.lst b hb
  rw [e] at q; cases q
theorem InvO.old (I : InvO H0 o h du fz kh kd L hw dw H) {b : Addr} {z : HO} (e : H0 b = some z) : b ∉ L := fun hb => by
  rw [(I.lst b hb).1] at e; cases e
theorem InvO.nolst (I : InvO H0 o h du fz kh kd L hw dw H) {b : Addr} {z : HO} (e : H b = some z) (n : ∀ ys, z ≠ .lst ys) : b ∉ L := fun hb => by
  obtain ⟨_, ys, q, _⟩ := I.lst b hb
  rw [e] at q; exact n ys (Option.some.inj q)
theorem InvO.but (I : InvO H0 o h du fz kh kd L hw dw H) {ko kd0 : List (Key × V)} (o1 : H0 o = some (.dK ko)) (d1 : H0 du = some (.dK kd0)) : KD H0 H := fun b z e hz => I.keep b z e (ne_of e o1 (hz _)) (ne_of e d1 (hz _))
theorem InvO.grow (I : InvO H0 o h du fz kh kd L hw dw H) (s : Same H H') {q : Addr} (n : H q = none) {ys : List V} (e : H' q = some (.lst ys)) (l : ys.length ≤ 100) : InvO H0 o h du fz kh kd (q :: L) hw dw H' where
  keep := (I.same s).keep
  free := (I.same s).free
  own := (I.same s).own
  han := (I.same s).han
  due := (I.same s).due
  ph := paired_mapP (I.same s).ph fun kv e z => z.elim fun a zq529 => zq529.elim fun t zq530 => zq530.elim fun l1 zq531 => zq531.elim fun l2 zq532 => zq532.elim fun b zq533 => zq533.elim fun c zq534 => zq534.elim fun d zq535 => zq535.elim fun f zq536 => zq536.elim fun g i => ⟨a, t, l1, l2, b, c, d, f, List.mem_cons_of_mem _ g, List.mem_cons_of_mem _ i⟩
  lst := fun b hb => by
    rcases List.mem_cons.mp hb with z | z
    · rw [z]; exact ⟨I.free _ n, ys, e, l⟩
    · exact (I.same s).lst b z
  pd := paired_mapP I.pd fun _ _ => DuV.same (msk_add n s)
theorem InvO.putH (I : InvO H0 o h du fz kh kd L hw dw H) (ho : h ≠ o) (hd : h ≠ du) (h0 : H0 h = none) {x : Str} {b m : List Str} (hx : x ∉ hw.map (·.1)) {q1 q2 q3 : Addr} (e3 : H q3 = some (.tup [.ref q1, .ref q2])) (e1 : H q1 = some (.lst (b.map V.str))) (e2 : H q2 = some (.lst (m.map V.str))) (m1 : q1 ∈ L) (m2 : q2 ∈ L) :
    InvO H0 o h du fz (putK kh (.inr x) (.ref q3)) kd L (hw ++ [(x, (b, m))]) dw (upd H h (.dK (putK kh (.inr x) (.ref q3)))) where
  keep := fun b z e h1 h2 => keep_upd (I.keep b z e h1 h2) (fun y => by rw [y, h0] at e; cases e)
  free := fun b e => I.free b (free_upd e).2
  own := keep_upd I.own ho.symm
  han := upd_same
  due := keep_upd I.due hd.symm
  ph := by
    have := paired_put (F := HanV H L) (fun _ _ z => z.1) (x := x) (ls := (b, m)) (v := .ref q3) ⟨rfl, q3, q1, q2, rfl, e3, e1, e2, m1, m2⟩ I.ph
    rw [putP_new hx] at this
    refine paired_mapP this fun kv e z => ?_
    obtain ⟨a, t, l1, l2, b, c, d, f, g, i⟩ := z
    exact ⟨a, t, l1, l2, b, keep_upd c (ne_of c I.han (by intro z; cases z)), keep_upd d (ne_of d I.han (by intro z; cases z)), keep_upd f (ne_of f I.han (by intro z; cases z)), g, i⟩
  lst := fun b hb => (I.lst b hb).elim fun a zq537 => zq537.elim fun ys zq538 => zq538.elim fun c d => ⟨a, ys, keep_upd c (ne_of c I.han (by intro z; cases z)), d⟩
  pd := paired_mapP I.pd fun kv e z => by
    obtain ⟨a, l, b, c⟩ := z
    have c' := msk_same _ _ c
    have nl : l ∉ L := fun q => by unfold msk at c; rw [if_pos q] at c; cases c
    exact ⟨a, l, b, msk_at nl (keep_upd c' (ne_of c' I.han (by intro z; cases z)))⟩
theorem InvO.putD (I : InvO H0 o h du fz kh kd L hw dw H) (od : o ≠ du) (hd : h ≠ du) (d0 : ∃ z, H0 du = some z) {x : Str} {ls : List Str} {l : Addr} (e : H l = some (.lst (ls.map V.str))) (nl : l ∉ L) :
    InvO H0 o h du fz kh (putK kd (.inr x) (.ref l)) L hw (putP dw x ls) (upd H du (.dK (putK kd (.inr x) (.ref l)))) where
  keep := fun b z e h1 h2 => keep_upd (I.keep b z e h1 h2) h2
  free := fun b e => I.free b (free_upd e).2
  own := keep_upd I.own od
  han := keep_upd I.han hd
  due := upd_same
  ph := paired_mapP I.ph fun kv e z => by
    obtain ⟨a, t, l1, l2, b, c, d, f, g, i⟩ := z
    exact ⟨a, t, l1, l2, b, keep_upd c (ne_of c I.due (by intro z; cases z)), keep_upd d (ne_of d I.due (by intro z; cases z)), keep_upd f (ne_of f I.due (by intro z; cases z)), g, i⟩
  lst := fun b hb => (I.lst b hb).elim fun a zq539 => zq539.elim fun ys zq540 => zq540.elim fun c d => ⟨a, ys, keep_upd c (ne_of c I.due (by intro z; cases z)), d⟩
  pd := by
    refine paired_mapP (paired_put (F := DuV (msk L H)) (fun _ _ z => z.1) (x := x) (ls := ls) (v := .ref l) ⟨rfl, l, rfl, msk_at nl e⟩ I.pd) fun kv e z => ?_
    obtain ⟨a, l, b, c⟩ := z
    have c' := msk_same _ _ c
    have nl : l ∉ L := fun q => by unfold msk at c; rw [if_pos q] at c; cases c
    exact ⟨a, l, b, msk_at nl (keep_upd c' (ne_of c' I.due (by intro z; cases z)))⟩
theorem InvO.thaw {ob : Obj} {ko : List (Key × V)} (I : InvO H0 o h du (.frz ob (.dK ko)) kh kd L hw dw H) (ho : h ≠ o) (od : o ≠ du) (e0 : H0 o = some (.dK ko)) : InvO H0 o h du (.dK ko) kh kd L hw dw (upd H o (.dK ko)) where
  keep := fun b z e h1 h2 => keep_upd (I.keep b z e h1 h2) h1
  free := fun b e => I.free b (free_upd e).2
  own := upd_same
  han := keep_upd I.han ho
  due := keep_upd I.due od.symm
  ph := paired_mapP I.ph fun kv e z => by
    obtain ⟨a, t, l1, l2, b, c, d, f, g, i⟩ := z
    exact ⟨a, t, l1, l2, b, keep_upd c (ne_of c I.own (by intro z; cases z)), keep_upd d (ne_of d I.own (by intro z; cases z)), keep_upd f (ne_of f I.own (by intro z; cases z)), g, i⟩
  lst := fun b hb => (I.lst b hb).elim fun a zq541 => zq541.elim fun ys zq542 => zq542.elim fun c d => ⟨a, ys, keep_upd c (ne_of c I.own (by intro z; cases z)), d⟩
  pd := paired_mapP I.pd fun kv e z => by
    obtain ⟨a, l, b, c⟩ := z
    have c' := msk_same _ _ c
    have nl : l ∉ L := fun q => by unfold msk at c; rw [if_pos q] at c; cases c
    exact ⟨a, l, b, msk_at nl (keep_upd c' (ne_of c' I.own (by intro z; cases z)))⟩
end
end K32

set_option Elab.async false
set_option linter.all false
set_option maxRecDepth 100000
set_option maxHeartbeats 4000000
namespace K32
open PySem L2 PySem.Spec Lcp
section
variable {P : Program} {w : World} {K : PySem.W.Frag} {mg : Str → Option Value} {base : Heap}
theorem make_shelfA {C S : Addr} {H : Hp} {Q : Addr → Hp → Prop} {E : XK} {a : Addr} {xs : List V} {ps : List Pcl} (ha : H a = some (.lst xs)) (hps : PclsAt C H xs ps) (h100 : ps.length ≤ 100) (hnd : (ps.map keyOf).Nodup) (q : ∀ x H', H x = none → Same H H' → ShelfAt S H' (.ref x) xs ps → Q x H') :
    ∀ x dx, H x = none → H dx = none → dx ≠ x → spSIn K C S (.ref x :: ([.ref a] ++ [])) (upd (upd H dx (.own x)) x (.ins S dx [])) (fun v H2 => v = .non ∧ Q x H2) E := by
  intro x dx hx hdx nx
  have s1 : Same H (upd (upd H dx (.own x)) x (.ins S dx [])) := same_upd' (same_upd hdx) hx
  refine ⟨x, dx, a, xs, ps, rfl, upd_same, s1 _ _ ha, hps.same s1, h100, hnd, fun H' keep hS => ⟨rfl, q x H' hx (fun b o e => keep b o (s1 _ _ e) (ne_of_none e hx)) hS⟩⟩
noncomputable def spLaw (K : PySem.W.Frag) : Sp := fun vs H Q _ => ∃ (a : Addr) (ns : List Int), vs = [.ref a] ∧ SqL K H a (ns.map V.int) ∧ ns.length ≤ 63 ∧ ∀ H', Q (.bl true) H'
theorem scLaw : FnScope ["_law_script", "_law_names", "_law_parcels", "_law_chosen_here", "_law_due", "_law_own_here", "_law_handed", "_law_path_here", "_law_record", "_law_lines_here", "_law_beside", "_law_shelf", "_law_stand"] ["_law_script"] (defScope sLaw) := ⟨rfl, rfl, rfl, by decide +kernel, rfl, by decide +kernel, by decide +kernel⟩
theorem okLaw {f C S T fP fPIn fSIn fTIn fCel fNam fPAp fCho fLBr fOwn fPut fTre fRow : Addr} {fd fdPIn fdSIn fdTIn fdCel fdNam fdPAp fdCho fdLBr fdOwn fdPut fdTre fdRow : FuncData} (F : Fun K "law" "law" sLaw f fd) (B : Blt mg) (TC : Txt K mg C) (US : TxtS K mg S fP) (UT : TxtT K mg T) (MC : Mk K C fPIn) (MS : Mk K S fSIn) (MT : Mk K T fTIn)
    (FPIn : Fun K "__init__" "Parcel.__init__" sPIn fPIn fdPIn) (FSIn : Fun K "__init__" "Shelf.__init__" sSIn fSIn fdSIn) (GSIn : FnOk P w K mg base CX0 1 fSIn fdSIn ["self", "parcels"] (spSIn K C S)) (FTIn : Fun K "__init__" "Stand.__init__" sTIn fTIn fdTIn) (GTIn : FnOk P w K mg base CX0 2 fTIn fdTIn ["self", "chosen", "choices", "own"] (spTIn T))
    (FCel : Fun K "_law_cell_at" "_law_cell_at" sCel fCel fdCel) (mCel : mg "_law_cell_at" = some (.ref fCel)) (FNam : Fun K "_law_name" "_law_name" sNam fNam fdNam) (mNam : mg "_law_name" = some (.ref fNam))
    (FPAp : Fun K "_law_parcels_apart" "_law_parcels_apart" sPAp fPAp fdPAp) (mPAp : mg "_law_parcels_apart" = some (.ref fPAp)) (GPAp : FnOk P w K mg base CX0 3 fPAp fdPAp ["_law_script", "_law_names", "_law_start"] (spPAp K C))
    (FCho : Fun K "_law_chosen" "_law_chosen" sCho fCho fdCho) (mCho : mg "_law_chosen" = some (.ref fCho)) (GCho : FnOk P w K mg base CX0 2 fCho fdCho ["_law_parcels", "_law_names", "_law_cell"] (spCho K C))
    (FLBr : Fun K "_law_brought" "_law_brought" sLBr fLBr fdLBr) (mLBr : mg "_law_brought" = some (.ref fLBr)) (GLBr : FnOk P w K mg base CX0 1 fLBr fdLBr ["_law_parcels", "_law_chosen_here"] (spLBr C))
    (FOwn : Fun K "_law_own" "_law_own" sOwn fOwn fdOwn) (mOwn : mg "_law_own" = some (.ref fOwn)) (GOwn : FnOk P w K mg base CX0 3 fOwn fdOwn ["_law_script", "_law_brought_here"] (spOwn K))
    (FPut : Fun K "put_together" "put_together" sPut fPut fdPut) (mPut : mg "put_together" = some (.ref fPut)) (GPut : FnOk P w K mg base CX0 3 fPut fdPut ["base", "own", "new"] spPut)
    (FTre : Fun K "tree_of" "tree_of" sTre fTre fdTre) (mTre : mg "tree_of" = some (.ref fTre)) (GTre : FnOk P w K mg base CX0 5 fTre fdTre ["shelf", "stand"] (spTre C S T))
    (FRow : Fun K "_law_rows" "_law_rows" sRow fRow fdRow) (mRow : mg "_law_rows" = some (.ref fRow)) (GRow : FnOk P w K mg base CX0 1 fRow fdRow ["_law_tree", "_law_due"] spRow) : FnOk P w K mg base CX0 6 f fd ["_law_script"] (spLaw K) := by
  have GPIn : FnOk P w K mg base CX0 1 fPIn fdPIn ["self", "name", "make", "rank", "files", "needs", "shuts", "offers"] (spPIn K C) := okPIn FPIn TC B.list
  have bPIn := FPIn.binds8 (l := ["self", "name", "make", "rank", "files", "needs", "shuts", "offers"]) (fun _ _ _ _ _ _ _ _ _ _ _ _ _ _ => rfl)
  have bSIn := FSIn.binds2 (l := ["self", "parcels"]) (fun _ _ _ _ _ _ _ _ => rfl)
  have bTIn := FTIn.binds4 (l := ["self", "chosen", "choices", "own"]) (fun _ _ _ _ _ _ _ _ _ _ => rfl)
  have GCel : FnOk P w K mg base CX0 1 fCel fdCel ["_law_script", "_law_k"] (spCel K) := okCel FCel B
  have bCel := FCel.binds2 (l := ["_law_script", "_law_k"]) (fun _ _ _ _ _ _ _ _ => rfl)
  have GNam : FnOk P w K mg base CX0 1 fNam fdNam ["_law_cell", "_law_p"] spNam := okNam FNam B
  have bNam := FNam.binds2 (l := ["_law_cell", "_law_p"]) (fun _ _ _ _ _ _ _ _ => rfl)
  have bPAp := FPAp.binds3 (l := ["_law_script", "_law_names", "_law_start"]) (fun _ _ _ _ _ _ _ _ _ => rfl)
  have bCho := FCho.binds3 (l := ["_law_parcels", "_law_names", "_law_cell"]) (fun _ _ _ _ _ _ _ _ _ => rfl)
  have bLBr := FLBr.binds2 (l := ["_law_parcels", "_law_chosen_here"]) (fun _ _ _ _ _ _ _ _ => rfl)
  have bOwn := FOwn.binds2 (l := ["_law_script", "_law_brought_here"]) (fun _ _ _ _ _ _ _ _ => rfl)
  have bPut := FPut.binds3 (l := ["base", "own", "new"]) (fun _ _ _ _ _ _ _ _ _ => rfl)
  have bTre := FTre.binds2 (l := ["shelf", "stand"]) (fun _ _ _ _ _ _ _ _ => rfl)
  have bRow := FRow.binds2 (l := ["_law_tree", "_law_due"]) (fun _ _ _ _ _ _ _ _ => rfl)
  refine F.ok scLaw (fun vs H Q E h => ?_) (fun cdv A outer s H vs Q E hr h => ?_)
  · obtain ⟨a, is, rfl, _⟩ := h
    rfl
  · refine letX ?_
    intro xX dX
    obtain ⟨a, is, rfl, hS, h63, q⟩ := h
    have hu := hr.units
    have hu0 := hr.units0
    have hr3 : Room 3 (A.deeper (PyProof.Rows.envOfC "law" (defScope sLaw) s.heap.objs.size f cdv)) := hr.mono (by decide)
    have hr2 : Room 2 (A.deeper (PyProof.Rows.envOfC "law" (defScope sLaw) s.heap.objs.size f cdv)) := hr.mono (by decide)
    have hr1 : Room 1 (A.deeper (PyProof.Rows.envOfC "law" (defScope sLaw) s.heap.objs.size f cdv)) := hr.mono (by decide)
    refine ⟨_, (pss_cons (ps_setComp (i := 1) ["_law_p"] ["_law_script"] [0] scLaw.nd rfl rfl ⟨rfl, by decide +kernel, by decide +kernel, by decide +kernel, by decide +kernel, rfl, rfl, rfl⟩ rfl (pi_range1 rfl B.range (pa_cons (pe_op op_add pe_int (pe_op op_mod (pe_call GCel hr1 rfl mCel FCel.kp bCel .nil pass0 (pa_cons (pv 0) (pa_cons pe_int pa_nil))) pe_int)) pa_nil)) (fun _ _ _ _ => (pg_name (i := 0) (show List.Nodup (["_law_p", "_law_script"] : List Str) by decide +kernel) rfl (Or.inl rfl))) (fun _ _ _ _ => pts_nil) (fun _ _ _ _ => (pe_call GNam hr1 rfl mNam FNam.kp bNam .nil pass0 (pa_cons (pe_call GCel hr1 rfl mCel FCel.kp bCel .nil pass0 (pa_cons (pv 1) (pa_cons pe_int pa_nil))) (pa_cons (pv 0) pa_nil)))))
        (pss_cons (ps_set (i := 2) scLaw.nd rfl (Or.inl rfl) (pe_call GPAp hr3 rfl mPAp FPAp.kp bPAp .nil pass0 (pa_cons (pv 0) (pa_cons (pv 1) (pa_cons pe_int pa_nil)))))
        (pss_cons (ps_setComp (i := 2) ["_law_one"] [] [] scLaw.nd rfl rfl ⟨rfl, by decide +kernel, by decide +kernel, by decide +kernel, by decide +kernel, rfl, rfl, rfl⟩ rfl (pi_list (pv 2)) (fun _ _ _ _ => (pg_name (i := 0) (show List.Nodup (["_law_one"] : List Str) by decide +kernel) rfl (Or.inl rfl))) (fun _ _ _ _ => pts_nil) (fun _ _ _ _ => (pe_make MC GPIn hr2 rfl TC.mgC bPIn .nil pass0 (pa_cons (pe_fldK K (pv 0) rfl) (pa_cons (pe_fldK K (pv 0) rfl) (pa_cons (pe_fldK K (pv 0) rfl) (pa_cons (pe_fldK K (pv 0) rfl) (pa_cons (pe_lstN pa_nil) (pa_cons (pe_lstN pa_nil) (pa_cons (pe_lstN pa_nil) pa_nil))))))))))
        (pss_cons (ps_set (i := 3) scLaw.nd rfl (Or.inl rfl) (pe_call GCho hr2 rfl mCho FCho.kp bCho .nil pass0 (pa_cons (pv 2) (pa_cons (pv 1) (pa_cons (pe_call GCel hr1 rfl mCel FCel.kp bCel .nil pass0 (pa_cons (pv 0) (pa_cons pe_int pa_nil))) pa_nil)))))
        (pss_cons (ps_set (i := 4) scLaw.nd rfl (Or.inl rfl) (pe_call GLBr hr1 rfl mLBr FLBr.kp bLBr .nil pass0 (pa_cons (pv 2) (pa_cons (pv 3) pa_nil))))
        (pss_cons (ps_set (i := 5) scLaw.nd rfl (Or.inl rfl) (pe_call GOwn hr3 rfl mOwn FOwn.kp bOwn .nil pass0 (pa_cons (pv 0) (pa_cons (pv 4) pa_nil))))
        (pss_cons (ps_set (i := 6) scLaw.nd rfl (Or.inl rfl) pe_dnewN)
        (pss_cutE (ps_forItems PassesOwn.never rfl (pv 5) (pg_tup rfl (pgs_cons (pg_name (i := 7) scLaw.nd rfl (Or.inl rfl)) (pgs_cons (pg_name (i := 8) scLaw.nd rfl (Or.inl rfl)) pgs_nil)))
        (pss_cons (ps_dput hu (pv 6) (pv 7) (pe_tupN (pa_cons (pe_callTy call_listN (by rfl) B.list PyProof.Rows.boot_list (pa_cons (pe_ix ix_tup (pv 8) pe_int (fun _ _ => rfl)) pa_nil)) (pa_cons (pe_callTy call_listN (by rfl) B.list PyProof.Rows.boot_list (pa_cons (pe_ix ix_tup (pv 8) pe_int (fun _ _ => rfl)) pa_nil)) pa_nil))) rfl)
          (pss_one (ps_if (pt_cmp (pc_din hu (pv 7) (pv 4)) (by rfl))
          (pss_cons (ps_asg (pe_call GPut hr3 rfl mPut FPut.kp bPut .nil pass0 (pa_cons (pe_callTy call_listN (by rfl) B.list PyProof.Rows.boot_list (pa_cons (pe_ix ix_tup (pv 8) pe_int (fun _ _ => rfl)) pa_nil)) (pa_cons (pe_callTy call_listN (by rfl) B.list PyProof.Rows.boot_list (pa_cons (pe_ix ix_tup (pv 8) pe_int (fun _ _ => rfl)) pa_nil)) (pa_cons (pe_callTy call_listN (by rfl) B.list PyProof.Rows.boot_list (pa_cons (pe_dget hu (pv 4) (pv 7) (fun _ _ => rfl)) pa_nil)) pa_nil)))) (pg_tup rfl (pgs_cons (pg_name (i := 9) scLaw.nd rfl (Or.inl rfl)) (pgs_cons (pg_name (i := 10) scLaw.nd rfl (Or.inl rfl)) pgs_nil))))
            (pss_cons (ps_dput hu (pv 4) (pv 7) (pv 9) rfl)
            (pss_one (ps_if (pt_cmpR op_notN (pv 10) pe_non (nomark _))
            (pss_one (ps_dput hu (pv 4) (pe_op op_add_str (pv 7) pe_str) (pe_ix ix_tup (pv 8) pe_int (fun _ _ => rfl)) rfl)) pss_nil)))) (pss_one (ps_dput hu (pv 4) (pv 7) (pe_ix ix_tup (pv 8) pe_int (fun _ _ => rfl)) rfl))))))
        (pss_cons (ps_set (i := 11) scLaw.nd rfl (Or.inl rfl) (pe_make MS GSIn hr2 rfl US.mgC bSIn .nil pass0 (pa_cons (pv 2) pa_nil)))
        (pss_cons (ps_set (i := 12) scLaw.nd rfl (Or.inl rfl) (pe_make MT GTIn hr3 rfl UT.mgC bTIn .nil pass0 (pa_cons (pv 3) (pa_cons pe_dnewN (pa_cons (pv 6) pa_nil)))))
        (pss_cons (ps_for PassesOwn.never rfl (pi_list (pe_callTy (call_listD rfl) (by rfl) B.list PyProof.Rows.boot_list (pa_cons (pv 6) pa_nil))) (pg_name (i := 7) scLaw.nd rfl (Or.inl rfl))
        (pss_cons (ps_expr (pe_bm PySem.F.plainAttrs_list PySem.F.slot_list_append PySem.F.type_list_append mt_append (pe_ix ix_tup (pe_dget hu (pv 6) (pv 7) (fun _ _ => rfl)) pe_int (fun _ _ => rfl)) (pa_cons pe_str pa_nil)))
          (pss_one (ps_expr (pe_bm0 PySem.F.plainAttrs_list PySem.F.slot_list_clear PySem.F.type_list_clear mt_clear (pe_ix ix_tup (pe_dget hu (pv 6) (pv 7) (fun _ _ => rfl)) pe_int (fun _ _ => rfl)))))))
        (pss_cons (ps_expr (pe_bm0 PySem.F.plainAttrs_dict PySem.F.slot_dict_clear PySem.F.type_dict_clear mt_dclear (pv 6)))
        (pss_one (ps_ret (pe_and (pe_call GRow hr1 rfl mRow FRow.kp bRow .nil pass0 (pa_cons (pe_call GTre hr rfl mTre FTre.kp bTre .nil pass0 (pa_cons (pv 11) (pa_cons (pv 12) pa_nil))) (pa_cons (pv 4) pa_nil))) (pe_one (pe_call GRow hr1 rfl mRow FRow.kp bRow .nil pass0 (pa_cons (pe_call GTre hr rfl mTre FTre.kp bTre .nil pass0 (pa_cons (pv 11) (pa_cons (pv 12) pa_nil))) (pa_cons (pv 4) pa_nil))))))))))))))))))), ?_⟩
    refine lets8 ?_
    intro dD sS uU8 uU7 uU6 uU5 uU4 uU3 uU2
    refine ⟨_, rfl, a, 0, is, rfl, by omega, hS, fun c0 => ?_⟩
    refine ⟨_, _, rfl, rfl, (by show (0 : Int) < 4; decide), _, _, rfl, rfl, 1 + c0 % 4, rfl, by omega, by omega, ?_⟩
    refine comp_range0 (σ0 := [none, some (.ref a)]) (fun σ => ∃ v, σ = [v, some (.ref a)]) (fun i ys _ => ∃ xs : List Str, ys = xs.map V.str ∧ xs.length = i) ⟨_, rfl⟩ (fun _ _ => ⟨[], rfl, rfl⟩) ?_ ?_
    · intro D i ys σ H2 k hD hi hQ1 hd hs hQ2 hk
      refine letG ?_
      intro tT
      obtain ⟨v, rfl⟩ := hQ1
      obtain ⟨xs, rfl, hx⟩ := hQ2
      first | (refine letB (g := gName _) ?_; intro eQ sQ) | (refine letB (g := gTup _ _ _) ?_; intro eQ sQ) | skip
      refine ⟨_, rfl, a, 1, is, rfl, by omega, hs.seq hS, fun c1 => ⟨_, rfl, _, _, rfl, fun x H3 lx s3 => ?_⟩⟩
      exact hk _ _ _ ⟨_, rfl⟩ s3 (small1000 (by rw [List.length_map]; omega)) ⟨xs ++ [x], strs_snoc xs x, by rw [List.length_append, hx]; rfl⟩
    rintro nA ys H1 nD hn s1 ⟨ns, rfl, nl⟩
    have n1 : 1 ≤ ns.length := by omega
    have n4 : ns.length ≤ 4 := by omega
    refine ⟨_, rfl, _, rfl, a, nA, is, ns, rfl, s1.seq hS, hn, n1, n4, fun fa H2 vs ps _ s2 e2 hps ap => ?_⟩
    have p6 := ap.len
    refine ⟨_, rfl, fa, rfl, ⟨_, SqL.of e2⟩, ?_⟩
    intro b nb
    refine comp_listD0 (σ0 := [none]) nb (SqL.of e2) (fun σ => ∃ v, σ = [v]) (fun i zs H3 => PclsAt C (msk [b] H3) zs ((ps.take i).map bare)) ⟨_, rfl⟩ .nil ?_ ?_
    · rintro i x zs σ H3 k hx ⟨v, rfl⟩ hd h2 pr hk
      obtain ⟨p, hp, y, dy, fl, rk, m, pf, pn, pss, po, ys, rfl, h1, h2', h3, h4, h5, h6⟩ := paired_get' hps hx
      have hb := h2 _ _ h1
      refine ⟨_, rfl, y, C, dy, _, _, rfl, hb, TC.cl, TC.nN, h2'.name, _, rfl, y, C, dy, _, _, rfl, hb, TC.cl, TC.nM, h2'.make, _, rfl, y, C, dy, _, _, rfl, hb, TC.cl, TC.nR, h2'.rank, _, rfl, y, C, dy, _, _, rfl, hb, TC.cl, TC.nF, h2'.files, (by show 0 ≤ sizeLine; decide), fun q1 H4 n4' s4 e4 => ?_⟩
      refine ⟨(by show 0 ≤ sizeLine; decide), fun q2 H5 n5 s5 e5 => ?_⟩
      refine ⟨(by show 0 ≤ sizeLine; decide), fun q3 H6 n6 s6 e6 => ?_⟩
      have s25 := s4.trans (s5.trans s6)
      have t5 := h2.trans s25
      refine make_pcl (fs := p.fs) (t5 _ _ h3) (t5 _ _ h4) (paired_mapP h5 fun _ _ => FileH.same t5) (s6 _ _ (s5 _ _ e4)) (s6 _ _ e5) e6 (by have := (ap.ok p (List.mem_of_getElem? hp)).1; omega) fun x H7 n7 s7 hpc => ?_
      have zl := paired_len pr
      rw [List.length_map, List.length_take] at zl
      refine hk _ _ _ ⟨_, rfl⟩ (s25.trans s7) (small1000 (by omega)) ?_
      rw [msk_upd List.mem_cons_self, List.take_add_one, hp, List.map_append]
      refine paired_snoc (hpc [b] fun c hc => ?_) (pr.same (msk_mono (s25.trans s7)))
      rw [List.mem_singleton.mp hc]
      exact ⟨_, s25 _ _ hd, by intro vs z; cases z⟩
    rintro vs' H3 e3 s3 pr
    rw [paired_len hps, List.take_length] at pr
    have hps' : PclsAt C H3 vs' (ps.map bare) := pr.same msk_same
    clear pr
    have apb := ap.bare
    have l6 := apb.len
    refine ⟨_, rfl, _, rfl, _, rfl, a, 2, is, rfl, by omega, (s1.trans (s2.trans s3)).seq hS, fun c2 => ?_⟩
    refine ⟨b, nA, c2, vs', ps.map bare, ns, rfl, e3, hps', by omega, s3 _ _ (s2 _ _ hn), n4, fun c H4 ch _ s4 hC hV hnd hcl => ?_⟩
    have fb : (filesOf (ps.map bare)).length ≤ 60 := by
      have := files_bound (ps := ps.map bare) (b := 3) fun p hp => (apb.ok p hp).1
      omega
    refine ⟨_, rfl, _, rfl, b, c, vs', ps.map bare, ch, rfl, s4 _ _ e3, hps'.same s4, hC, hnd, fb, fun du H5 kd td n5 s5 e5 prd gd => ?_⟩
    have okd : OkF td := files_ok (ps := ps.map bare) (fun p hp => (apb.ok p hp).2.1) gd fun f hf => by
      obtain ⟨p, hp, hf⟩ := mem_files.mp hf
      exact mem_files.mpr ⟨p, (sel_mem.mp hp).1, hf⟩
    have td60 : td.length < 64 := by
      have h1 := gd.len
      have h2 : (filesOf ((ps.map bare).filter (sel ch))).length ≤ ((ps.map bare).filter (sel ch)).length * 3 := files_bound fun p hp => (apb.ok p (sel_mem.mp hp).1).1
      have h3 := List.length_filter_le (sel ch) (ps.map bare)
      omega
    refine ⟨_, rfl, _, rfl, a, du, is, kd, td, rfl, (s1.trans (s2.trans (s3.trans (s4.trans s5)))).seq hS, e5, prd, okd, td60, fun o H6 ow n6 s6 hO nd okw ol6 => ?_⟩
    obtain ⟨ko, o1, o2⟩ := hO
    have e6 := s6 _ _ e5
    have od : o ≠ du := (ne_of_none e5 n6).symm
    refine fun h H7 n7 s7 e7 => ?_
    have ho : h ≠ o := (ne_of_none o1 n7).symm
    have hd : h ≠ du := (ne_of_none e6 n7).symm
    -- the own changes are gone through
    refine ⟨fun σ' H' => ∃ u7 u8 u9 u10 kh kd' L, σ' = [some (.ref a), some (.ref nA), some (.ref b), some (.ref c), some (.ref du), some (.ref o), some (.ref h), u7, u8, u9, u10, none, none] ∧ InvO H6 o h du (.dK ko) kh kd' L ow (treeP td ow) H', ?_, ?_⟩
    · refine lets1 ?_
      intro dC sC
      refine ⟨_, rfl, o, ko, rfl, s7 _ _ o1, fun ob => ?_⟩
      refine for_itemsG (fun i σ H8 => ∃ u7 u8 u9 u10 kh kd' L, σ = [some (.ref a), some (.ref nA), some (.ref b), some (.ref c), some (.ref du), some (.ref o), some (.ref h), u7, u8, u9, u10, none, none] ∧ InvO H6 o h du (.frz ob (.dK ko)) kh kd' L (ow.take i) (treeP td (ow.take i)) H8)
        ⟨none, none, none, none, [], kd, [], rfl, ?_⟩ ?_ ?_ ?_
      · refine ⟨fun b z e h1 _ => keep_upd (s7 _ _ e) h1, fun b e => s7.free (free_upd e).2, upd_same, keep_upd e7 ho, keep_upd (s7 _ _ e6) od.symm, .nil, (fun _ q => nomatch q), paired_mapP prd fun kv f z => ?_⟩
        obtain ⟨z1, l, z2, z3⟩ := z
        have z4 := s7 _ _ (s6 _ _ z3)
        exact ⟨z1, l, z2, msk_at (fun q => nomatch q) (keep_upd z4 (ne_of z4 (s7 _ _ o1) (by intro z; cases z)))⟩
      · intro i σ H8 hQ3
        refine letG ?_
        intro tT
        obtain ⟨u7, u8, u9, u10, kh, kd', L, rfl, I⟩ := hQ3
        exact I.own
      · intro i k v p σ H8 hi hQ4 hp
        refine letG ?_
        intro tT
        obtain ⟨u7, u8, u9, u10, kh, kd', L, rfl, I⟩ := hQ4
        first | (refine letB (g := gName _) ?_; intro eQ sQ) | (refine letB (g := gTup _ _ _) ?_; intro eQ sQ) | skip
        obtain ⟨⟨x, b1, m1⟩, hf, a1, t, l1, l2, a2, a3, a4, a5⟩ := paired_get' o2 hi
        have a1 : k = .inr x := a1
        have a2 : v = .ref t := a2
        have a4 : H6 l1 = some (.lst (b1.map V.str)) := a4
        have a5 : H6 l2 = some (.lst (m1.map V.str)) := a5
        subst a1 a2
        have hlt := (List.getElem?_eq_some_iff.mp hf).1
        obtain ⟨⟨lx, nx⟩, fb1, fm1⟩ := okw _ (List.mem_of_getElem? hf)
        have lx : Ln x := lx
        have nx : NoDot x := nx
        have fb1 : Few 12 b1 := fb1
        have fm1 : Few 12 m1 := fm1
        have b12 := fb1.len
        have m12 := fm1.len
        have Lb : Lns b1 := ⟨by omega, fb1.all⟩
        have Lm : Lns m1 := ⟨by omega, fm1.all⟩
        have hxn : x ∉ (ow.take i).map (·.1) := by
          rw [List.map_take]
          intro hm
          obtain ⟨j, hj, ej⟩ := List.mem_iff_getElem.mp hm
          rw [List.length_take, List.length_map] at hj
          rw [List.getElem_take] at ej
          have e1 : (ow.map (·.1))[j]? = some x := by rw [List.getElem?_eq_getElem (by rw [List.length_map]; omega), ej]
          have e2 : (ow.map (·.1))[i]? = some x := by rw [List.getElem?_map, hf]; rfl
          have := (List.getElem?_inj (l := ow.map (·.1)) (i := j) (j := i) (by rw [List.length_map]; omega) nd).mp (by rw [e1, e2])
          omega
        have look := tree_look td nx hxn
        have sp : Same H8 (upd H8 p (.tup [kV (.inr x), .ref t])) := same_upd hp
        have K8 : ∀ {b : Addr} {z : HO}, H6 b = some z → (∀ ks, z ≠ .dK ks) → (upd H8 p (.tup [kV (.inr x), .ref t])) b = some z := fun {b z} e hz => sp _ _ (I.keep _ _ e (ne_of e o1 (hz _)) (ne_of e e6 (hz _)))
        have T8 := K8 a3 (by intro ks z; cases z)
        have L8 := K8 a4 (by intro ks z; cases z)
        have M8 := K8 a5 (by intro ks z; cases z)
        have I8 := I.same sp
        have z0 : atI [V.ref l1, V.ref l2] 0 = some (V.ref l1) := rfl
        have z1 : atI [V.ref l1, V.ref l2] 1 = some (V.ref l2) := rfl
        refine ⟨p, _, rfl, SqT.of upd_same, rfl, _, _, rfl, _, _, rfl, rfl, ?_⟩
        refine lets2 ?_
        intro d6 s6' y6
        refine ⟨_, rfl, t, _, _, _, rfl, rfl, SqT.of T8, z0, l1, _, rfl, .inl (SqL.of L8), fun q1 Ha na sa ea => ?_⟩
        refine ⟨_, rfl, t, _, _, _, rfl, rfl, SqT.of (sa _ _ T8), z1, l2, _, rfl, .inl (SqL.of (sa _ _ M8)), fun q2 Hb nb' sb eb => ?_⟩
        refine ⟨(by show 2 ≤ sizeLine; decide), fun q3 Hc nc sc ec => ?_⟩
        have Ic := ((I8.grow sa na ea (by rw [List.length_map]; omega)).grow sb nb' eb (by rw [List.length_map]; omega)).same sc
        have hl := paired_len Ic.ph
        rw [List.length_take] at hl
        refine ⟨_, rfl, _, rfl, h, _, rfl, DPut.k (k := .inr x) Ic.han (small1000 (by omega)), ?_⟩
        have Id := Ic.putH ho hd n7 hxn ec (sc _ _ (sb _ _ ea)) (sc _ _ eb) (List.mem_cons_of_mem _ List.mem_cons_self) List.mem_cons_self
        generalize upd Hc h (.dK (putK kh (.inr x) (.ref q3))) = Hd at Id ⊢
        have tl := treeP_len td (ow.take i)
        have tk : (ow.take i).length ≤ 6 := by rw [List.length_take]; omega
        have dl := paired_len Id.pd
        have hkD : ∀ (H' : Hp) kv f, DuV H' kv f → kv.1 = Sum.inr f.1 := fun _ kv f z => z.1
        have Td := Id.but o1 e6 _ _ a3 (by intro ks z; cases z)
        have Ld := Id.but o1 e6 _ _ a4 (by intro ks z; cases z)
        have Md := Id.but o1 e6 _ _ a5 (by intro ks z; cases z)
        have snoc : ow.take (i + 1) = ow.take i ++ [(x, b1, m1)] := by rw [List.take_add_one, hf]; rfl
        refine ⟨_, rfl, _, rfl, du, _, rfl, DGet.k (k := .inr x) Id.due, _, rfl, ?_⟩
        cases hlk : lookP td x with
        | none =>
          rw [paired_none (hkD _) Id.pd (lookP_none (look.trans hlk))]
          refine iteF ?_
          refine ⟨_, rfl, t, _, _, _, rfl, rfl, SqT.of Td, z1, _, rfl, _, rfl, du, _, rfl, DPut.k (k := .inr x) Id.due (small1000 (by omega)), ?_⟩
          have Ie := Id.putD od hd ⟨_, e6⟩ (x := x) Md (Id.old a5)
          show Exists _
          rw [snoc, treeP_snoc, hlk]
          exact ⟨_, _, _, _, _, _, _, rfl, Ie⟩
        | some ls =>
          have lks := look.trans hlk
          obtain ⟨v, ls', g1, g2, _, lb, rfl, g3⟩ := paired_val (hkD _) Id.pd (lookP_key.mpr ⟨ls, lks⟩)
          have els : ls = ls' := nodup_fun (tree_nodup gd.nd _) (lookP_some lks) g2
          subst els
          have g3' := msk_same _ _ g3
          have okl := okd _ (lookP_some hlk)
          have Ll : Lns ls := ⟨Nat.le_trans okl.2.1.2 (by decide), okl.2.1.1⟩
          rw [g1]
          refine iteT ?_
          refine lets3 ?_
          intro d7 s7' y8 y7
          refine ⟨_, rfl, t, _, _, _, rfl, rfl, SqT.of Td, z0, l1, _, rfl, .inl (SqL.of Ld), fun q5 H10 n10 s10 e10 => ?_⟩
          refine ⟨_, rfl, t, _, _, _, rfl, rfl, SqT.of (s10 _ _ Td), z1, l2, _, rfl, .inl (SqL.of (s10 _ _ Md)), fun q6 H11 n11 s11 e11 => ?_⟩
          refine ⟨_, rfl, _, rfl, du, .ref lb, rfl, (by rw [← g1]; exact DGet.k (k := .inr x) (s11 _ _ (s10 _ _ Id.due))), lb, _, rfl, .inl (SqL.of (s11 _ _ (s10 _ _ g3'))), fun q7 H12 n12 s12 e12 => ?_⟩
          refine ⟨q5, q6, q7, b1, m1, ls, rfl, s12 _ _ (s11 _ _ e10), s12 _ _ e11, e12, Lb, Lm, Ll, fun t2 l r H13 nt nl nr s13 pa => ?_⟩
          refine ⟨t2, _, rfl, SqT.of pa.tup, rfl, _, _, rfl, _, _, rfl, rfl, ?_⟩
          have I12 := Id.same (s10.trans (s11.trans s12))
          have Ie := I12.same s13
          refine ⟨_, rfl, _, rfl, _, rfl, du, _, rfl, DPut.k (k := .inr x) Ie.due (small1000 (by omega)), ?_⟩
          have If := Ie.putD od hd ⟨_, e6⟩ (x := x) pa.lst (I12.fresh nl)
          generalize upd H13 du (.dK (putK kd' (.inr x) (.ref l))) = H14 at If ⊢
          refine ⟨_, rfl, rfl, _, rfl, ?_⟩
          have bes := pa.bes
          revert bes
          cases hm2 : (merge b1 m1 ls).2 with
          | none =>
            intro bes
            have bes : r = .non := bes
            subst bes
            refine iteNS rfl ?_
            show Exists _
            rw [snoc, treeP_snoc, hlk]
            unfold fcP
            dsimp only
            rw [hm2]
            exact ⟨_, _, _, _, _, _, _, rfl, If⟩
          | some z =>
            intro bes
            obtain ⟨lz, rfl, hz⟩ := bes
            have ez : z = m1 := by
              rcases merge_bes b1 m1 ls with q | q
              · rw [q] at hm2; cases hm2
              · rw [q] at hm2; exact (Option.some.inj hm2).symm
            subst ez
            refine iteND (fun e => by cases e) ?_
            have Tf := If.but o1 e6 _ _ a3 (by intro ks z; cases z)
            have Mf := If.but o1 e6 _ _ a5 (by intro ks z; cases z)
            have x60 : x.length ≤ 60 := lx.len
            have lo5 : (Str.ofString ".own").length = 4 := by decide +kernel
            have fl := paired_len If.pd
            have fl2 := putP_len (treeP td (ow.take i)) x (merge b1 z ls).1
            refine ⟨_, rfl, t, _, _, _, rfl, rfl, SqT.of Tf, z1, _, rfl, _, rfl, x, Str.ofString ".own", rfl, rfl, fit (by omega) (by omega), du, _, rfl, DPut.k (k := .inr (x ++ ownS)) If.due (small1000 (by omega)), ?_⟩
            have Ig := If.putD od hd ⟨_, e6⟩ (x := x ++ ownS) Mf (If.old a5)
            show Exists _
            rw [snoc, treeP_snoc, hlk]
            unfold fcP
            dsimp only
            rw [hm2]
            exact ⟨_, _, _, _, _, _, _, rfl, Ig⟩
      · intro σ H8 hQ5
        refine letG ?_
        intro tT
        obtain ⟨u7, u8, u9, u10, kh, kd', L, rfl, I⟩ := hQ5
        first | (refine letB (g := gName _) ?_; intro eQ sQ) | (refine letB (g := gTup _ _ _) ?_; intro eQ sQ) | skip
        rw [paired_len o2, List.take_length] at I
        exact ⟨u7, u8, u9, u10, kh, kd', L, rfl, I.thaw ho od o1⟩
    intro σ' H8 hQ6
    refine letG ?_
    intro tT
    obtain ⟨u7, u8, u9, u10, kh, kd', L, rfl, I⟩ := hQ6
    refine lets5 ?_
    intro d5 s5' y5 y4 y3 y2
    have s36 := s4.trans (s5.trans s6)
    have hps6 := hps'.same s36
    have k8 := I.but o1 e6
    refine ⟨_, rfl, ?_⟩
    refine make_shelfA (K := K) (C := C) (S := S) (k8 _ _ (s36 _ _ e3) (by intro ks z; cases z)) (paired_mapP hps6 fun _ _ => PclAt.kd k8) (by omega) apb.nd fun sh H9 n9 s9 hSh => ?_
    obtain ⟨kc, c1, c2'⟩ := id hC
    have c6 := s6 _ _ (s5 _ _ c1)
    have co : c ≠ o := ne_of_none (s5 _ _ c1) n6
    have cd : c ≠ du := ne_of_none c1 n5
    refine ⟨_, rfl, fun z H10 n10 s10 e10 => ⟨_, rfl, ?_⟩⟩
    have s810 := s9.trans s10
    have I10 := I.same s810
    refine make_standA (T := T) (ch := ch) (ow := ow) ⟨kc, s810 _ _ (I.keep _ _ c6 co cd), paired_mapP c2' fun kv e z => ?_⟩ e10 ⟨kh, I10.han, paired_mapP I10.ph fun _ _ => HanV.ow⟩ nd (by omega) fun st H11 n11 s11 hst => ?_
    · obtain ⟨z1, m, z2, z3⟩ := z
      exact ⟨z1, m, z2, s810 _ _ (k8 _ _ (s6 _ _ (s5 _ _ z3)) (by intro ks z; cases z))⟩
    have I11 := I10.same s11
    have hSt := hst (h :: L) fun b hb => by
      rcases List.mem_cons.mp hb with y | y
      · rw [y]; exact ⟨_, I10.han, by intro vs z; cases z⟩
      · obtain ⟨_, ys, y1, _⟩ := I10.lst b y
        exact ⟨_, y1, by intro vs z; cases z⟩
    have hkH : ∀ kv f, HanV H11 L kv f → kv.1 = Sum.inr f.1 := fun kv f z => z.1
    refine ⟨_, rfl, h, kh, _, rfl, I11.han, keysS_of hkH I11.ph, fun lk H12 n12 s12 e12 => ?_⟩
    have I12 := I11.same s12
    have nlk := I11.fresh n12
    have nh : h ∉ L := I12.nolst I12.han (by intro ys z; cases z)
    refine ⟨lk, rfl, ⟨_, SqL.of e12⟩, ?_⟩
    refine for_list (xs := (ow.map (·.1)).map V.str) (fun i σ H13 => ∃ u7, σ = [some (.ref a), some (.ref nA), some (.ref b), some (.ref c), some (.ref du), some (.ref o), some (.ref h), u7, u8, u9, u10, some (.ref sh), some (.ref st)] ∧ (∀ b z, H12 b = some z → b ∉ L → H13 b = some z) ∧ (∀ b ∈ L, ∃ ys, H13 b = some (.lst ys) ∧ ys.length ≤ 100 + i))
      ⟨_, rfl, fun _ _ e _ => e, fun b hb => (I12.lst b hb).elim fun _ zq543 => zq543.elim fun ys zq544 => zq544.elim fun y1 y2 => ⟨ys, y1, y2⟩⟩ ?_ ?_ ?_
    · intro i σ H13 hi hQ7
      refine letG ?_
      intro tT
      obtain ⟨u, rfl, k13, l13⟩ := hQ7
      exact SqL.of (k13 _ _ e12 nlk)
    · intro i x σ H13 hx hQ8
      refine letG ?_
      intro tT
      obtain ⟨u, rfl, k13, l13⟩ := hQ8
      first | (refine letB (g := gName _) ?_; intro eQ sQ) | (refine letB (g := gTup _ _ _) ?_; intro eQ sQ) | skip
      rw [List.getElem?_map] at hx
      cases hy : (ow.map (·.1))[i]? with
      | none => rw [hy] at hx; cases hx
      | some y =>
        rw [hy] at hx
        cases hx
        have hlt := (List.getElem?_eq_some_iff.mp hy).1
        rw [List.length_map] at hlt
        obtain ⟨v, ls, g1, g2, _, t, l1, l2, ev, ht, _, _, m1, m2⟩ := paired_val (fun kv f z => z.1) I12.ph (List.mem_of_getElem? hy)
        have ev : v = .ref t := ev
        subst ev
        have nt : t ∉ L := I12.nolst ht (by intro ys z; cases z)
        have z0 : atI [V.ref l1, V.ref l2] 0 = some (V.ref l1) := rfl
        have z1 : atI [V.ref l1, V.ref l2] 1 = some (V.ref l2) := rfl
        obtain ⟨ys1, h1, y1⟩ := l13 l1 m1
        have h13 := k13 _ _ I12.han nh
        have t13 := k13 _ _ ht nt
        refine ⟨_, rfl, _, rfl, h, .ref t, rfl, (by rw [← g1]; exact DGet.k (k := .inr y) h13), t, _, _, _, rfl, rfl, SqT.of t13, z0, .inl ⟨rfl, _, SqL.of h1⟩, l1, _, _, rfl, rfl, h1, small1000 (by omega), ?_⟩
        have k14 : ∀ b z, H12 b = some z → b ∉ L → (upd H13 l1 (.lst (ys1 ++ [V.str "y"]))) b = some z := fun b z e hb => keep_upd (k13 b z e hb) (fun q => hb (q ▸ m1))
        have l14 : ∀ b ∈ L, ∃ ys, (upd H13 l1 (.lst (ys1 ++ [V.str "y"]))) b = some (.lst ys) ∧ ys.length ≤ 100 + (i + 1) := fun b hb => by
          by_cases q : b = l1
          · rw [q]; exact ⟨_, upd_same, by rw [List.length_append, List.length_singleton]; omega⟩
          · obtain ⟨ys, r1, r2⟩ := l13 b hb
            exact ⟨ys, keep_upd r1 q, by omega⟩
        obtain ⟨ys2, h2, y2⟩ := l14 l2 m2
        refine ⟨_, rfl, _, rfl, h, .ref t, rfl, (by rw [← g1]; exact DGet.k (k := .inr y) (k14 _ _ I12.han nh)), t, _, _, _, rfl, rfl, SqT.of (k14 _ _ ht nt), z1, .inl ⟨rfl, _, SqL.of h2⟩, l2, _, rfl, rfl, h2, ?_⟩
        refine ⟨_, rfl, fun b z e hb => keep_upd (k14 b z e hb) (fun q => hb (q ▸ m2)), fun b hb => ?_⟩
        by_cases q : b = l2
        · rw [q]; exact ⟨_, upd_same, Nat.zero_le _⟩
        · obtain ⟨ys, r1, r2⟩ := l14 b hb
          exact ⟨ys, keep_upd r1 q, r2⟩
    · intro σ H13 hQ9
      refine letG ?_
      intro tT
      obtain ⟨u, rfl, k13, l13⟩ := hQ9
      first | (refine letB (g := gName _) ?_; intro eQ sQ) | (refine letB (g := gTup _ _ _) ?_; intro eQ sQ) | skip
      have h13 := k13 _ _ I12.han nh
      refine ⟨_, rfl, .inr (.inr (.inl ⟨rfl, .inl ⟨_, h13⟩⟩)), h, _, rfl, rfl, h13, ?_⟩
      have kD : ∀ b z, H12 b = some z → b ∉ h :: L → (upd H13 h (.dK [])) b = some z := fun b z e hb => by
        rw [List.mem_cons, not_or] at hb
        exact keep_upd (k13 b z e hb.2) hb.1
      generalize upd H13 h (.dK []) = HD at kD
      have stD : StandAt T HD (.ref st) ch ow := hSt.same fun b z e => by
        unfold msk at e
        split at e
        · cases e
        · exact kD b z (s12 _ _ e) ‹_›
      have shD : ShelfAt S HD (.ref sh) vs' (ps.map bare) := by
        obtain ⟨a', dx, fl, d, kk, e, b1, b2, b3, b4, b5⟩ := hSh.same (s10.trans (s11.trans s12))
        have nn : ∀ {b : Addr} {z : HO}, H12 b = some z → (∀ ks, z ≠ .dK ks) → (∀ ys, z ≠ .lst ys) → b ∉ h :: L := fun {b z} e h1 h2 q => by
          rcases List.mem_cons.mp q with y | y
          · rw [y, I12.han] at e; exact h1 _ (Option.some.inj e).symm
          · exact I12.nolst e h2 y
        exact ⟨a', dx, fl, d, kk, e, kD _ _ b1 (nn b1 (by intro ks z; cases z) (by intro ks z; cases z)), b2, b3, kD _ _ b4 (nn b4 (by intro ks z; cases z) (by intro ks z; cases z)), b5⟩
      have kdD : KD H6 HD := fun b z e hz => kD b z (I12.but o1 e6 b z e hz) fun q => by
        rcases List.mem_cons.mp q with y | y
        · rw [y, n7] at e; cases e
        · exact I12.old e y
      have psD : PclsAt C HD vs' (ps.map bare) := paired_mapP hps6 fun _ _ => PclAt.kd kdD
      have duD : HD du = some (.dK kd') := kD _ _ I12.due fun q => by
        rcases List.mem_cons.mp q with y | y
        · exact hd y.symm
        · exact I12.nolst I12.due (by intro ys z; cases z) y
      have pdD : Paired (DuV HD) kd' (treeP td ow) := paired_mapP I12.pd fun kv f z => by
        obtain ⟨z1, l, z2, z3⟩ := z
        have z4 := msk_same _ _ z3
        refine ⟨z1, l, z2, kD _ _ z4 fun q => ?_⟩
        rcases List.mem_cons.mp q with y | y
        · rw [y, I12.han] at z4; cases z4
        · unfold msk at z3; rw [if_pos y] at z3; cases z3
      have hos : ∀ p ∈ ps.map bare, p.os = [] ∧ p.fs.length ≤ 3 ∧ ∀ f ∈ p.fs, Lns f.2 := fun p hp => ⟨by obtain ⟨r, _, rfl⟩ := List.mem_map.mp hp; rfl, (apb.ok p hp).1, fun f hf => by
        have := (apb.ok p hp).2.1 f hf
        exact ⟨Nat.le_trans this.2.1.2 (by decide), this.2.1.1⟩⟩
      have okO : OkO ow := fun e he => by
        obtain ⟨⟨w1, _⟩, w2, w3⟩ := okw e he
        exact ⟨w1.len, ⟨Nat.le_trans w2.len (by decide), w2.all⟩, ⟨Nat.le_trans w3.len (by decide), w3.all⟩⟩
      have okWl : ∀ e ∈ ow, Ln e.1 ∧ (∀ x ∈ e.2.1, Ln x) ∧ ∀ x ∈ e.2.2, Ln x := fun e he => by
        obtain ⟨⟨w1, _⟩, w2, w3⟩ := okw e he
        exact ⟨w1, w2.all, w3.all⟩
      -- the tree told holds against what is due, in any heap over this one
      have tre : ∀ {H0 : Hp} {R : VK} {E' : XK}, Same HD H0 → (∀ t H14, Same H0 H14 → (∀ {R' : VK} {E'' : XK}, (∀ H15, Same H14 H15 → R' (.bl true) H15) → spRow [.ref t, .ref du] H14 R' E'') → R (.ref t) H14) → spTre C S T [.ref sh, .ref st] H0 R E' := by
        intro H0 R E' s0 fin
        refine ⟨.ref sh, .ref st, vs', ps.map bare, ch, ow, rfl, shD.same s0, psD.same s0, hos, stD.same s0, hV, by omega, ol6, okO, fun t H14 kt tr0 px n14 s14 e14 gt prt pn pm => ?_⟩
        have fx : (filesOf px).length ≤ 18 := by
          have h1 := files_bound (ps := px) (b := 3) fun p hp => (hos p (pm p hp).1).2.1
          have e := pn.length_eq
          rw [List.length_map, List.length_map] at e
          omega
        have tl := gt.len
        have tl2 := treeP_len tr0 ow
        have okt : OkF tr0 := files_ok (ps := ps.map bare) (fun p hp => (apb.ok p hp).2.1) gt fun f hf => by
          obtain ⟨p, hp, hf⟩ := mem_files.mp hf
          exact mem_files.mpr ⟨p, (pm p hp).1, hf⟩
        refine fin t H14 s14 fun {R' E''} qq => ?_
        have sf := same_files apb hnd pn pm
        have lkk := tree_same (gath_look gt gd sf (sel_func apb hnd)) ow
        have n1 := tree_nodup gt.nd ow
        have n2 := tree_nodup gd.nd ow
        refine ⟨t, du, kt, kd', treeP tr0 ow, treeP td ow, rfl, (ne_of_none (s0 _ _ duD) n14).symm, e14, s14 _ _ (s0 _ _ duD), paired_mapP prt fun _ _ => TrV.du, paired_mapP pdD fun _ _ => DuV.same (s0.trans s14), look_perm n1 n2 lkk, look_same n1 n2 lkk, okR_tree (fun f hf => ⟨(okt f hf).1, (okt f hf).2.1.1⟩) okWl, okR_tree (fun f hf => ⟨(okd f hf).1, (okd f hf).2.1.1⟩) okWl, by omega, qq⟩
      refine ⟨_, rfl, _, rfl, ?_⟩
      dsimp only [tNil, List.cons_append, List.nil_append]
      refine tre (Same.refl HD) fun t H14 s14 row => ?_
      refine ⟨_, rfl, ?_⟩
      dsimp only [tNil, List.cons_append, List.nil_append]
      refine row fun H15 s15 => ?_
      refine ⟨_, rfl, iteT ?_⟩
      refine ⟨_, rfl, _, rfl, ?_⟩
      dsimp only [tNil, List.cons_append, List.nil_append]
      refine tre (s14.trans s15) fun t2 H16 s16 row2 => ?_
      refine ⟨_, rfl, ?_⟩
      dsimp only [tNil, List.cons_append, List.nil_append]
      exact row2 fun H17 s17 => q H17
end
end K32

set_option Elab.async false
set_option linter.all false
set_option maxRecDepth 100000
set_option maxHeartbeats 8000000
namespace K32
open PySem L2
noncomputable def ClsC (K : PySem.W.Frag) (mg : Str → Option Value) : Prop := ∃ C fPIn fdPIn, Txt K mg C ∧ Mk K C fPIn ∧ Fun K "__init__" "Parcel.__init__" sPIn fPIn fdPIn
theorem clsC_mk {K : PySem.W.Frag} {h : Heap} {mg : Str → Option Value} {C f0 : Addr} {od0 an0 : Option Addr} {sl0 : Array (Option Value)} {oc0 kV0 dc0 pm0 cd0 ct0 : Value} (X : K.In h) (G : h.Ns mainGlobals mg)
    (aC : PySem.W.nsIn K mainGlobals "Parcel" = some (some (.ref C))) (a0 : PySem.W.findIn K (.ref C) "__init__" = some (some (.ref f0))) (i0 : PySem.W.isFn K (.ref f0) = true)
    (l0 : K.lookup f0 = some ⟨oc0, od0, .func (PySem.W.fnOf "__init__" "Parcel.__init__" (defArgs sPIn) (defBody sPIn) (defScope sPIn) .none kV0 dc0 pm0 an0 cd0 ct0), sl0⟩) (c0 : PySem.W.codeIn K cd0 "Parcel.__init__" = true) (k0 : PySem.W.keepIn K (.ref f0) = true)
    (pg : PySem.W.plainGet K C Str.empty = true) (hd : PySem.W.hasDictIn K C = true) (po : PySem.W.plainOver K C = true) (sa : PySem.W.findIn K (.ref C) "__setattr__" = some (some (.builtin "object.__setattr__"))) (mk : PySem.W.makesIn K C = true) (kc : PySem.W.keepIn K (.ref C) = true) (n0 : PySem.W.findIn K (.ref C) "name" = some none) (n1 : PySem.W.findIn K (.ref C) "make" = some none) (n2 : PySem.W.findIn K (.ref C) "rank" = some none) (n3 : PySem.W.findIn K (.ref C) "files" = some none) (n4 : PySem.W.findIn K (.ref C) "needs" = some none) (n5 : PySem.W.findIn K (.ref C) "shuts" = some none) (n6 : PySem.W.findIn K (.ref C) "offers" = some none) : ClsC K mg :=
  ⟨C, f0, _, ⟨⟨pg, hd, po, sa⟩, n0, n1, n2, n3, n4, n5, n6, PySem.W.mg_of X G aC⟩, ⟨mk, a0, i0, kc⟩, fun_mk l0 c0 k0⟩
noncomputable def ClsS (K : PySem.W.Frag) (mg : Str → Option Value) : Prop := ∃ S fSIn fdSIn fSPa fdSPa, TxtS K mg S fSPa ∧ Mk K S fSIn ∧ Fun K "__init__" "Shelf.__init__" sSIn fSIn fdSIn ∧ Fun K "parcel" "Shelf.parcel" sSPa fSPa fdSPa
theorem clsS_mk {K : PySem.W.Frag} {h : Heap} {mg : Str → Option Value} {S f0 f1 : Addr} {od0 an0 : Option Addr} {sl0 : Array (Option Value)} {oc0 kV0 dc0 pm0 cd0 ct0 : Value} {od1 an1 : Option Addr} {sl1 : Array (Option Value)} {oc1 kV1 dc1 pm1 cd1 ct1 : Value} (X : K.In h) (G : h.Ns mainGlobals mg)
    (aC : PySem.W.nsIn K mainGlobals "Shelf" = some (some (.ref S))) (a0 : PySem.W.findIn K (.ref S) "__init__" = some (some (.ref f0))) (i0 : PySem.W.isFn K (.ref f0) = true)
    (l0 : K.lookup f0 = some ⟨oc0, od0, .func (PySem.W.fnOf "__init__" "Shelf.__init__" (defArgs sSIn) (defBody sSIn) (defScope sSIn) .none kV0 dc0 pm0 an0 cd0 ct0), sl0⟩) (c0 : PySem.W.codeIn K cd0 "Shelf.__init__" = true) (k0 : PySem.W.keepIn K (.ref f0) = true) (a1 : PySem.W.findIn K (.ref S) "parcel" = some (some (.ref f1))) (i1 : PySem.W.isFn K (.ref f1) = true)
    (l1 : K.lookup f1 = some ⟨oc1, od1, .func (PySem.W.fnOf "parcel" "Shelf.parcel" (defArgs sSPa) (defBody sSPa) (defScope sSPa) .none kV1 dc1 pm1 an1 cd1 ct1), sl1⟩) (c1 : PySem.W.codeIn K cd1 "Shelf.parcel" = true) (k1 : PySem.W.keepIn K (.ref f1) = true)
    (pg : PySem.W.plainGet K S Str.empty = true) (hd : PySem.W.hasDictIn K S = true) (po : PySem.W.plainOver K S = true) (sa : PySem.W.findIn K (.ref S) "__setattr__" = some (some (.builtin "object.__setattr__"))) (mk : PySem.W.makesIn K S = true) (kc : PySem.W.keepIn K (.ref S) = true) (n0 : PySem.W.findIn K (.ref S) "shelved" = some none) : ClsS K mg :=
  ⟨S, f0, _, f1, _, ⟨⟨pg, hd, po, sa⟩, n0, ⟨a1, i1, k1⟩, PySem.W.mg_of X G aC⟩, ⟨mk, a0, i0, kc⟩, fun_mk l0 c0 k0, fun_mk l1 c1 k1⟩
noncomputable def ClsT (K : PySem.W.Frag) (mg : Str → Option Value) : Prop := ∃ T fTIn fdTIn, TxtT K mg T ∧ Mk K T fTIn ∧ Fun K "__init__" "Stand.__init__" sTIn fTIn fdTIn
theorem clsT_mk {K : PySem.W.Frag} {h : Heap} {mg : Str → Option Value} {T f0 : Addr} {od0 an0 : Option Addr} {sl0 : Array (Option Value)} {oc0 kV0 dc0 pm0 cd0 ct0 : Value} (X : K.In h) (G : h.Ns mainGlobals mg)
    (aC : PySem.W.nsIn K mainGlobals "Stand" = some (some (.ref T))) (a0 : PySem.W.findIn K (.ref T) "__init__" = some (some (.ref f0))) (i0 : PySem.W.isFn K (.ref f0) = true)
    (l0 : K.lookup f0 = some ⟨oc0, od0, .func (PySem.W.fnOf "__init__" "Stand.__init__" (defArgs sTIn) (defBody sTIn) (defScope sTIn) .none kV0 dc0 pm0 an0 cd0 ct0), sl0⟩) (c0 : PySem.W.codeIn K cd0 "Stand.__init__" = true) (k0 : PySem.W.keepIn K (.ref f0) = true)
    (pg : PySem.W.plainGet K T Str.empty = true) (hd : PySem.W.hasDictIn K T = true) (po : PySem.W.plainOver K T = true) (sa : PySem.W.findIn K (.ref T) "__setattr__" = some (some (.builtin "object.__setattr__"))) (mk : PySem.W.makesIn K T = true) (kc : PySem.W.keepIn K (.ref T) = true) (n0 : PySem.W.findIn K (.ref T) "chosen" = some none) (n1 : PySem.W.findIn K (.ref T) "choices" = some none) (n2 : PySem.W.findIn K (.ref T) "own" = some none) : ClsT K mg :=
  ⟨T, f0, _, ⟨⟨pg, hd, po, sa⟩, n0, n1, n2, PySem.W.mg_of X G aC⟩, ⟨mk, a0, i0, kc⟩, fun_mk l0 c0 k0⟩
theorem bltAt_mk {K : PySem.W.Frag} {h : Heap} {mg : Str → Option Value} (X : K.In h) (G : h.Ns mainGlobals mg) (z0 : PySem.W.nsIn K mainGlobals "range" = some none) (z1 : PySem.W.nsIn K mainGlobals "len" = some none) (z2 : PySem.W.nsIn K mainGlobals "min" = some none) (z3 : PySem.W.nsIn K mainGlobals "list" = some none) (z4 : PySem.W.nsIn K mainGlobals "dict" = some none) (z5 : PySem.W.nsIn K mainGlobals "set" = some none) (z6 : PySem.W.nsIn K mainGlobals "sorted" = some none) (z7 : PySem.W.nsIn K mainGlobals "isinstance" = some none) (z8 : PySem.W.nsIn K mainGlobals "str" = some none) : Blt mg :=
  ⟨PySem.W.mg_none_of X G z0, PySem.W.mg_none_of X G z1, PySem.W.mg_none_of X G z2, PySem.W.mg_none_of X G z3, PySem.W.mg_none_of X G z4, PySem.W.mg_none_of X G z5, PySem.W.mg_none_of X G z6, PySem.W.mg_none_of X G z7, PySem.W.mg_none_of X G z8⟩
theorem all_mk {P : Program} {w : World} {K : PySem.W.Frag} {mg : Str → Option Value} {fa : Addr} (hfa : mg "law" = some (.ref fa)) (B : Blt mg) (CC : ClsC K mg) (CS : ClsS K mg) (CT : ClsT K mg) (dBlk : DefAt K mg "block_of" sBlk) (dAli : DefAt K mg "alike_ahead" sAli) (dIsA : DefAt K mg "is_ahead" sIsA) (dTak : DefAt K mg "takes_none" sTak) (dApa : DefAt K mg "are_apart" sApa) (dBot : DefAt K mg "with_both" sBot) (dPut : DefAt K mg "put_together" sPut) (dPsO : DefAt K mg "parcels_of" sPsO) (dCCo : DefAt K mg "changes_copied" sCCo) (dTre : DefAt K mg "tree_of" sTre) (dBro : DefAt K mg "brought_by" sBro) (dFoC : DefAt K mg "files_of_change" sFoC) (dCom : DefAt K mg "commons_of" sCom) (dCel : DefAt K mg "_law_cell_at" sCel) (dMix : DefAt K mg "_law_mixed" sMix) (dNam : DefAt K mg "_law_name" sNam) (dLin : DefAt K mg "_law_line" sLin) (dLis : DefAt K mg "_law_lines" sLis) (dPat : DefAt K mg "_law_path" sPat) (dMak : DefAt K mg "_law_make" sMak) (dPAp : DefAt K mg "_law_parcels_apart" sPAp) (dCho : DefAt K mg "_law_chosen" sCho) (dLBr : DefAt K mg "_law_brought" sLBr) (dRow : DefAt K mg "_law_rows" sRow) (dOwn : DefAt K mg "_law_own" sOwn) (dLaw : DefAt K mg "law" sLaw) :
    ∃ fd : FuncData, (∀ (s : Shared) (v : Value), BindsTo s fd ⟨[v], []⟩ [("_law_script", v)]) ∧ ∀ base : Heap, K.In base → base.Ns mainGlobals mg → FnOk P w K mg base CX0 6 fa fd ["_law_script"] (spLaw K) := by
  obtain ⟨C, fPIn, fdPIn, TC, MC, FPIn⟩ := CC
  obtain ⟨S, fSIn, fdSIn, fSPa, fdSPa, US, MS, FSIn, FSPa⟩ := CS
  obtain ⟨T, fTIn, fdTIn, UT, MT, FTIn⟩ := CT
  obtain ⟨fBlk, fdBlk, mBlk, FBlk, _⟩ := dBlk
  obtain ⟨fAli, fdAli, mAli, FAli, _⟩ := dAli
  obtain ⟨fIsA, fdIsA, mIsA, FIsA, _⟩ := dIsA
  obtain ⟨fTak, fdTak, mTak, FTak, _⟩ := dTak
  obtain ⟨fApa, fdApa, mApa, FApa, _⟩ := dApa
  obtain ⟨fBot, fdBot, mBot, FBot, _⟩ := dBot
  obtain ⟨fPut, fdPut, mPut, FPut, _⟩ := dPut
  obtain ⟨fPsO, fdPsO, mPsO, FPsO, _⟩ := dPsO
  obtain ⟨fCCo, fdCCo, mCCo, FCCo, _⟩ := dCCo
  obtain ⟨fTre, fdTre, mTre, FTre, _⟩ := dTre
  obtain ⟨fBro, fdBro, mBro, FBro, _⟩ := dBro
  obtain ⟨fFoC, fdFoC, mFoC, FFoC, _⟩ := dFoC
  obtain ⟨fCom, fdCom, mCom, FCom, _⟩ := dCom
  obtain ⟨fCel, fdCel, mCel, FCel, _⟩ := dCel
  obtain ⟨fMix, fdMix, mMix, FMix, _⟩ := dMix
  obtain ⟨fNam, fdNam, mNam, FNam, _⟩ := dNam
  obtain ⟨fLin, fdLin, mLin, FLin, _⟩ := dLin
  obtain ⟨fLis, fdLis, mLis, FLis, _⟩ := dLis
  obtain ⟨fPat, fdPat, mPat, FPat, _⟩ := dPat
  obtain ⟨fMak, fdMak, mMak, FMak, _⟩ := dMak
  obtain ⟨fPAp, fdPAp, mPAp, FPAp, _⟩ := dPAp
  obtain ⟨fCho, fdCho, mCho, FCho, _⟩ := dCho
  obtain ⟨fLBr, fdLBr, mLBr, FLBr, _⟩ := dLBr
  obtain ⟨fRow, fdRow, mRow, FRow, _⟩ := dRow
  obtain ⟨fOwn, fdOwn, mOwn, FOwn, _⟩ := dOwn
  obtain ⟨fLaw, fdLaw, mLaw, FLaw, _⟩ := dLaw
  have e := hfa.symm.trans mLaw
  cases e
  obtain ⟨oc, od, kV, doc, pm, an, cdv, ct, osl, rfl, lk, hcd⟩ := id FLaw.ex
  refine ⟨PySem.W.fnOf "law" "law" (defArgs sLaw) (defBody sLaw) (defScope sLaw) .none kV doc pm an cdv ct, fun s v => .of_eq rfl, fun base _ _ => ?_⟩
  have GLis : FnOk P w K mg base CX0 2 fLis fdLis ["_law_number"] spLis := okLis FLis B FMix mMix FLin mLin
  have GPut : FnOk P w K mg base CX0 3 fPut fdPut ["base", "own", "new"] spPut := okPut FPut B FBlk mBlk FApa mApa FIsA mIsA FBot mBot (okBlk FBlk B FAli mAli) (okApa FApa FIsA mIsA FTak mTak)
  exact okLaw FLaw B TC US UT MC MS MT FPIn FSIn (okSIn FSIn TC US) FTIn (okTIn FTIn UT B FCCo mCCo) FCel mCel FNam mNam FPAp mPAp (okPAp FPAp B TC MC FPIn FMix mMix FCel mCel FPat mPat FLis mLis GLis FMak mMak) FCho mCho (okCho FCho B TC FMix mMix) FLBr mLBr (okLBr FLBr TC) FOwn mOwn (okOwn FOwn B FMix mMix FCel mCel FPat mPat FLis mLis GLis) FPut mPut GPut FTre mTre (okTre FTre B TC US UT FSPa FPsO mPsO FBro mBro FCom mCom FFoC mFoC (okFoC FFoC B FPut mPut GPut)) FRow mRow (okRow FRow B)
theorem walk {l : PySem.W.OpenLaw} {q : Program} {loose : List Str} {XP : (Str → Option Value) → Heap → Prop} {YP : World → Heap → Prop} {d : DefRec} {K : Params → PySem.W.Frag} (hn : l.most = some 63) (hdf : d.params.defaults = [])
    (hY : ∀ (w : World) (h : Heap), YP w h → (K w.params).In h)
    (F : ∀ (w : World) (mg : Str → Option Value) (fa : Addr) (h : Heap), (K w.params).In h → h.Ns mainGlobals mg → mg d.name = some (.ref fa) →
      ∃ fd : FuncData, (∀ (s : Shared) (u : Value), BindsTo s fd ⟨[u], []⟩ [("_law_script", u)]) ∧ ∀ base : Heap, (K w.params).In base → base.Ns mainGlobals mg → FnOk l.prog w (K w.params) mg base CX0 6 fa fd ["_law_script"] (spLaw (K w.params))) :
    PySem.W.WalkO q loose XP YP l.row.toRowW d [] (fun f vs => PySem.call f vs) :=
  L2.walk_of (n := 63) (k := 6) (x := "_law_script") (CX := fun _ => CX0) (sp := fun w => spLaw (K w.params)) hn (by decide) hdf ⟨rfl, by decide, by decide⟩ hY F (fun _ _ a ns hl _ hS => ⟨a, ns, rfl, hS, hl, fun _ => rfl⟩) fun _ _ _ _ _ z => z
end K32
open PySem PySem.W PyProof.Rows
set_option maxRecDepth 100000 in
set_option maxHeartbeats 0 in
theorem PySem.Challenge.cw_parcelmend_k32_own_changes_holds : PySem.Challenge.rw_parcelmend_k32_own_changes.Holds := by
  w_on; o_law; k_head; (case hw => w_witness2)
  k_fill
  refine K32.walk (l := PySem.Challenge.rw_parcelmend_k32_own_changes) rfl rfl (fun w h Y => PySem.W.km_in_of Y) ?F
  case F =>
    intro w mg fa h KX G hmg
    refine' K32.all_mk hmg (K32.bltAt_mk KX G ?kk_z0 ?kk_z1 ?kk_z2 ?kk_z3 ?kk_z4 ?kk_z5 ?kk_z6 ?kk_z7 ?kk_z8) (K32.clsC_mk KX G ?kk_CaC ?kk_Ca0 ?kk_Ci0 ?kk_Cl0 ?kk_Cc0 ?kk_Ck0 ?kk_Cpg ?kk_Chd ?kk_Cpo ?kk_Csa ?kk_Cmk ?kk_Ckc ?kk_Cn0 ?kk_Cn1 ?kk_Cn2 ?kk_Cn3 ?kk_Cn4 ?kk_Cn5 ?kk_Cn6) (K32.clsS_mk KX G ?kk_SaC ?kk_Sa0 ?kk_Si0 ?kk_Sl0 ?kk_Sc0 ?kk_Sk0 ?kk_Sa1 ?kk_Si1 ?kk_Sl1 ?kk_Sc1 ?kk_Sk1 ?kk_Spg ?kk_Shd ?kk_Spo ?kk_Ssa ?kk_Smk ?kk_Skc ?kk_Sn0) (K32.clsT_mk KX G ?kk_TaC ?kk_Ta0 ?kk_Ti0 ?kk_Tl0 ?kk_Tc0 ?kk_Tk0 ?kk_Tpg ?kk_Thd ?kk_Tpo ?kk_Tsa ?kk_Tmk ?kk_Tkc ?kk_Tn0 ?kk_Tn1 ?kk_Tn2)
      (L2.defAt_mk KX G ?kk_a0 ?kk_l0 ?kk_c0 ?kk_k0)
      (L2.defAt_mk KX G ?kk_a1 ?kk_l1 ?kk_c1 ?kk_k1)
      (L2.defAt_mk KX G ?kk_a2 ?kk_l2 ?kk_c2 ?kk_k2)
      (L2.defAt_mk KX G ?kk_a3 ?kk_l3 ?kk_c3 ?kk_k3)
      (L2.defAt_mk KX G ?kk_a4 ?kk_l4 ?kk_c4 ?kk_k4)
      (L2.defAt_mk KX G ?kk_a5 ?kk_l5 ?kk_c5 ?kk_k5)
      (L2.defAt_mk KX G ?kk_a6 ?kk_l6 ?kk_c6 ?kk_k6)
      (L2.defAt_mk KX G ?kk_a7 ?kk_l7 ?kk_c7 ?kk_k7)
      (L2.defAt_mk KX G ?kk_a8 ?kk_l8 ?kk_c8 ?kk_k8)
      (L2.defAt_mk KX G ?kk_a9 ?kk_l9 ?kk_c9 ?kk_k9)
      (L2.defAt_mk KX G ?kk_a10 ?kk_l10 ?kk_c10 ?kk_k10)
      (L2.defAt_mk KX G ?kk_a11 ?kk_l11 ?kk_c11 ?kk_k11)
      (L2.defAt_mk KX G ?kk_a12 ?kk_l12 ?kk_c12 ?kk_k12)
      (L2.defAt_mk KX G ?kk_a13 ?kk_l13 ?kk_c13 ?kk_k13)
      (L2.defAt_mk KX G ?kk_a14 ?kk_l14 ?kk_c14 ?kk_k14)
      (L2.defAt_mk KX G ?kk_a15 ?kk_l15 ?kk_c15 ?kk_k15)
      (L2.defAt_mk KX G ?kk_a16 ?kk_l16 ?kk_c16 ?kk_k16)
      (L2.defAt_mk KX G ?kk_a17 ?kk_l17 ?kk_c17 ?kk_k17)
      (L2.defAt_mk KX G ?kk_a18 ?kk_l18 ?kk_c18 ?kk_k18)
      (L2.defAt_mk KX G ?kk_a19 ?kk_l19 ?kk_c19 ?kk_k19)
      (L2.defAt_mk KX G ?kk_a20 ?kk_l20 ?kk_c20 ?kk_k20)
      (L2.defAt_mk KX G ?kk_a21 ?kk_l21 ?kk_c21 ?kk_k21)
      (L2.defAt_mk KX G ?kk_a22 ?kk_l22 ?kk_c22 ?kk_k22)
      (L2.defAt_mk KX G ?kk_a23 ?kk_l23 ?kk_c23 ?kk_k23)
      (L2.defAt_mk KX G ?kk_a24 ?kk_l24 ?kk_c24 ?kk_k24)
      (L2.defAt_mk KX G ?kk_a25 ?kk_l25 ?kk_c25 ?kk_k25)
    (case kk_z0 => k_is); (case kk_z1 => k_is); (case kk_z2 => k_is); (case kk_z3 => k_is); (case kk_z4 => k_is); (case kk_z5 => k_is); (case kk_z6 => k_is); (case kk_z7 => k_is); (case kk_z8 => k_is)
    (case kk_CaC => k_is); (case kk_Ca0 => k_is); (case kk_Ci0 => k_is); (case kk_Cl0 => k_is); (case kk_Cc0 => k_is); (case kk_Ck0 => k_is); (case kk_Cpg => k_is); (case kk_Chd => k_is); (case kk_Cpo => k_is); (case kk_Csa => k_is); (case kk_Cmk => k_is); (case kk_Ckc => k_is); (case kk_Cn0 => k_is); (case kk_Cn1 => k_is); (case kk_Cn2 => k_is); (case kk_Cn3 => k_is); (case kk_Cn4 => k_is); (case kk_Cn5 => k_is); (case kk_Cn6 => k_is)
    (case kk_SaC => k_is); (case kk_Sa0 => k_is); (case kk_Si0 => k_is); (case kk_Sl0 => k_is); (case kk_Sc0 => k_is); (case kk_Sk0 => k_is); (case kk_Sa1 => k_is); (case kk_Si1 => k_is); (case kk_Sl1 => k_is); (case kk_Sc1 => k_is); (case kk_Sk1 => k_is); (case kk_Spg => k_is); (case kk_Shd => k_is); (case kk_Spo => k_is); (case kk_Ssa => k_is); (case kk_Smk => k_is); (case kk_Skc => k_is); (case kk_Sn0 => k_is)
    (case kk_TaC => k_is); (case kk_Ta0 => k_is); (case kk_Ti0 => k_is); (case kk_Tl0 => k_is); (case kk_Tc0 => k_is); (case kk_Tk0 => k_is); (case kk_Tpg => k_is); (case kk_Thd => k_is); (case kk_Tpo => k_is); (case kk_Tsa => k_is); (case kk_Tmk => k_is); (case kk_Tkc => k_is); (case kk_Tn0 => k_is); (case kk_Tn1 => k_is); (case kk_Tn2 => k_is)
    (case kk_a0 => k_is); (case kk_l0 => k_is); (case kk_c0 => k_is); (case kk_k0 => k_is)
    (case kk_a1 => k_is); (case kk_l1 => k_is); (case kk_c1 => k_is); (case kk_k1 => k_is)
    (case kk_a2 => k_is); (case kk_l2 => k_is); (case kk_c2 => k_is); (case kk_k2 => k_is)
    (case kk_a3 => k_is); (case kk_l3 => k_is); (case kk_c3 => k_is); (case kk_k3 => k_is)
    (case kk_a4 => k_is); (case kk_l4 => k_is); (case kk_c4 => k_is); (case kk_k4 => k_is)
    (case kk_a5 => k_is); (case kk_l5 => k_is); (case kk_c5 => k_is); (case kk_k5 => k_is)
    (case kk_a6 => k_is); (case kk_l6 => k_is); (case kk_c6 => k_is); (case kk_k6 => k_is)
    (case kk_a7 => k_is); (case kk_l7 => k_is); (case kk_c7 => k_is); (case kk_k7 => k_is)
    (case kk_a8 => k_is); (case kk_l8 => k_is); (case kk_c8 => k_is); (case kk_k8 => k_is)
    (case kk_a9 => k_is); (case kk_l9 => k_is); (case kk_c9 => k_is); (case kk_k9 => k_is)
    (case kk_a10 => k_is); (case kk_l10 => k_is); (case kk_c10 => k_is); (case kk_k10 => k_is)
    (case kk_a11 => k_is); (case kk_l11 => k_is); (case kk_c11 => k_is); (case kk_k11 => k_is)
    (case kk_a12 => k_is); (case kk_l12 => k_is); (case kk_c12 => k_is); (case kk_k12 => k_is)
    (case kk_a13 => k_is); (case kk_l13 => k_is); (case kk_c13 => k_is); (case kk_k13 => k_is)
    (case kk_a14 => k_is); (case kk_l14 => k_is); (case kk_c14 => k_is); (case kk_k14 => k_is)
    (case kk_a15 => k_is); (case kk_l15 => k_is); (case kk_c15 => k_is); (case kk_k15 => k_is)
    (case kk_a16 => k_is); (case kk_l16 => k_is); (case kk_c16 => k_is); (case kk_k16 => k_is)
    (case kk_a17 => k_is); (case kk_l17 => k_is); (case kk_c17 => k_is); (case kk_k17 => k_is)
    (case kk_a18 => k_is); (case kk_l18 => k_is); (case kk_c18 => k_is); (case kk_k18 => k_is)
    (case kk_a19 => k_is); (case kk_l19 => k_is); (case kk_c19 => k_is); (case kk_k19 => k_is)
    (case kk_a20 => k_is); (case kk_l20 => k_is); (case kk_c20 => k_is); (case kk_k20 => k_is)
    (case kk_a21 => k_is); (case kk_l21 => k_is); (case kk_c21 => k_is); (case kk_k21 => k_is)
    (case kk_a22 => k_is); (case kk_l22 => k_is); (case kk_c22 => k_is); (case kk_k22 => k_is)
    (case kk_a23 => k_is); (case kk_l23 => k_is); (case kk_c23 => k_is); (case kk_k23 => k_is)
    (case kk_a24 => k_is); (case kk_l24 => k_is); (case kk_c24 => k_is); (case kk_k24 => k_is)
    (case kk_a25 => k_is); (case kk_l25 => k_is); (case kk_c25 => k_is); (case kk_k25 => k_is)
