import PyProof.Rows.All
import Wide.All
import OpenK.AllK
import Wide.FinOn
import Lean
import PyProof.EqAt
import PyProof.EqKinds
import PyProof.TupleCall
import KE.KRevSl
import KE.KDictSum
import KE.KEqDict
import PyProof.P3Eq
import KE.KTryMore
import KE.KSortTup
import PyProof.NeKinds
import PySem.Challenge.RW_parcelmend_k02_a_shelf
import KE.RegKIsAll
import KE.RegKTryMore


set_option Elab.async false
set_option linter.all false
set_option maxRecDepth 100000
namespace L2
open PySem PySem.Spec PyProof.Rows
abbrev Key := Sum Int Str
def keyIs : Key → Value → Bool
  | .inl k, v => Value.isInt k v
  | .inr x, v => Value.isStrOf x v
def keyH (w : World) : Key → Int
  | .inl k => hashInt k
  | .inr x => hashStr w x
theorem keyIs_shape : ∀ {k : Key} {v : Value}, keyIs k v = true → (∃ i t, k = Sum.inl i ∧ v = Value.int i t) ∨ (∃ x t, k = Sum.inr x ∧ v = Value.str x t)
  | .inl i, v, h => by
    obtain ⟨t, e⟩ := Value.isInt_shape (k := i) (v := v) h
    exact .inl ⟨i, t, rfl, e⟩
  | .inr x, v, h => by
    obtain ⟨t, e⟩ := Value.isStrOf_shape (x := x) (v := v) h
    exact .inr ⟨x, t, rfl, e⟩
theorem keyIs_int (i : Int) (t : Tok) : keyIs (.inl i) (.int i t) = true := by simp [keyIs, Value.isInt]
theorem keyIs_str (x : Str) (t : Tok) : keyIs (.inr x) (.str x t) = true := by simp [keyIs, Value.isStrOf]
theorem key_ll (a b : Int) : decide ((Sum.inl a : Key) = Sum.inl b) = (a == b) := by
  by_cases e : a = b
  · subst e; simp
  · have h : ¬ (Sum.inl a : Key) = Sum.inl b := fun q => e (Sum.inl.inj q)
    rw [decide_eq_false h]
    exact (beq_eq_false_iff_ne.mpr e).symm
theorem key_rr (a b : Str) : decide ((Sum.inr a : Key) = Sum.inr b) = decide (a = b) := by
  by_cases e : a = b
  · subst e; simp
  · have h : ¬ (Sum.inr a : Key) = Sum.inr b := fun q => e (Sum.inr.inj q)
    rw [decide_eq_false h, decide_eq_false e]
theorem key_lr (a : Int) (b : Str) : decide ((Sum.inl a : Key) = Sum.inr b) = false := decide_eq_false (fun q => nomatch q)
theorem key_rl (a : Str) (b : Int) : decide ((Sum.inr a : Key) = Sum.inl b) = false := decide_eq_false (fun q => nomatch q)
def mixKind (prog : Program) (w : World) : PySem.KeyKind prog w Key where
  is := keyIs
  hash := keyH w
  inj := fun v a b ha hb => by
    rcases keyIs_shape ha with ⟨i, t, rfl, rfl⟩ | ⟨x, t, rfl, rfl⟩
    · rcases keyIs_shape hb with ⟨j, u, rfl, e⟩ | ⟨y, u, rfl, e⟩
      · injection e with e1 _; rw [e1]
      · exact nomatch e
    · rcases keyIs_shape hb with ⟨j, u, rfl, e⟩ | ⟨y, u, rfl, e⟩
      · exact nomatch e
      · injection e with e1 _; rw [e1]
  byValue := fun k v h => by
    rcases keyIs_shape h with ⟨i, t, rfl, rfl⟩ | ⟨x, t, rfl, rfl⟩ <;> rfl
  pyHash := fun hv h => by
    rcases keyIs_shape hv with ⟨i, t, rfl, rfl⟩ | ⟨x, t, rfl, rfl⟩
    · exact wpAny_pyHash_int h
    · exact wpAny_pyHash_str h
  eqBool := fun hu hv h => by
    rcases keyIs_shape hu with ⟨i, t, rfl, rfl⟩ | ⟨x, t, rfl, rfl⟩
    · rcases keyIs_shape hv with ⟨j, u, rfl, rfl⟩ | ⟨y, u, rfl, rfl⟩
      · rw [key_ll] at h; exact wpAny_eqBool_int h
      · rw [key_lr] at h; exact SeqAt.EqAt.int_str i t y u _ _ _ _ h
    · rcases keyIs_shape hv with ⟨j, u, rfl, rfl⟩ | ⟨y, u, rfl, rfl⟩
      · rw [key_rl] at h; exact SeqAt.EqAt.str_int x t j u _ _ _ _ h
      · rw [key_rr] at h; exact wpAny_eqBool_str h
  «strs» := fun k x t v h => by
    rcases keyIs_shape h with ⟨i, u, rfl, e⟩ | ⟨y, u, rfl, e⟩
    · exact nomatch e
    · injection e with e1 _
      subst e1
      cases v <;> rfl
theorem mixKind_int (prog : Program) (w : World) (i : Int) (t : Tok) : (mixKind prog w).is (.inl i) (.int i t) = true := keyIs_int i t
theorem mixKind_str (prog : Program) (w : World) (x : Str) (t : Tok) : (mixKind prog w).is (.inr x) (.str x t) = true := keyIs_str x t
end L2
namespace L2
open PySem PySem.Spec PyProof.Rows
abbrev NI := Sum Key (List Key)
section
variable {P : Program} {w : World}
def NItem (P : Program) (w : World) (h : Heap) : NI → Value → Prop
  | .inl k, v => keyIs k v = true
  | .inr ls, v => ∃ b, v = .ref b ∧ IsTupleKey (mixKind P w) h ls b
inductive NItems (P : Program) (w : World) (h : Heap) : List NI → List Value → Prop
  | nil : NItems P w h [] []
  | cons {i : NI} {v : Value} {ks : List NI} {vs : List Value} : NItem P w h i v → NItems P w h ks vs → NItems P w h (i :: ks) (v :: vs)
def NKey (P : Program) (w : World) (h : Heap) (ks : List NI) (a : Addr) : Prop := ∃ o items n, h.get? a = some o ∧ o.cls = .type "tuple" ∧ o.data = .seq items n ∧ NItems P w h ks items.toList
def niHash (P : Program) (w : World) : NI → Int
  | .inl k => keyH w k
  | .inr ls => tupleKeyHash (mixKind P w) ls
def niDraws : NI → Nat
  | .inl _ => 1
  | .inr ls => ls.length + 1
def nkHash (P : Program) (w : World) (ks : List NI) : Int := reduceHash (Builtin.Tuple.tupleHashOf (ks.map (niHash P w)))
def nkDraws (ks : List NI) : Nat := (ks.map niDraws).sum + 1
theorem NItem.inj {h : Heap} {i j : NI} {v : Value} (a : NItem P w h i v) (b : NItem P w h j v) : i = j := by
  cases i with
  | inl k =>
    cases j with
    | inl l => rw [(mixKind P w).inj v k l a b]
    | inr l =>
      obtain ⟨c, rfl, _⟩ := b
      rcases keyIs_shape a with ⟨_, _, _, e⟩ | ⟨_, _, _, e⟩ <;> cases e
  | inr k =>
    obtain ⟨c, rfl, hc⟩ := a
    cases j with
    | inl l => rcases keyIs_shape b with ⟨_, _, _, e⟩ | ⟨_, _, _, e⟩ <;> cases e
    | inr l =>
      obtain ⟨d, e, hd⟩ := b
      cases e
      rw [hc.inj hd]
theorem NItems.inj {h : Heap} {x y : List NI} {vs : List Value} (a : NItems P w h x vs) (b : NItems P w h y vs) : x = y := by
  induction a generalizing y with
  | nil => cases b; rfl
  | cons p _ ih =>
    cases b with
    | cons q r => rw [p.inj q, ih r]
theorem NKey.typeIs {s : Shared} {ks : List NI} {a : Addr} (x : NKey P w s.heap ks a) : s.TypeIs (.ref a) "tuple" := let ⟨o, _, _, ho, hc, _⟩ := x; ⟨o, ho, hc⟩
theorem NKey.inj {h : Heap} {a : Addr} {x y : List NI} (p : NKey P w h x a) (q : NKey P w h y a) : x = y := by
  obtain ⟨o, its, n, e, _, d, i⟩ := p
  obtain ⟨o', its', n', e', _, d', i'⟩ := q
  rw [e] at e'; cases e'
  rw [d] at d'
  injection d' with d1 _
  subst d1
  exact i.inj i'
theorem NItems.keeps {h h' : Heap} {ks : List NI} {vs : List Value} (k : ∀ ls b, IsTupleKey (mixKind P w) h ls b → IsTupleKey (mixKind P w) h' ls b) (x : NItems P w h ks vs) : NItems P w h' ks vs := by
  induction x with
  | nil => exact .nil
  | @cons i v ks vs p _ ih =>
    refine .cons ?_ ih
    cases i with
    | inl l => exact p
    | inr l =>
      obtain ⟨b, e, hb⟩ := p
      exact ⟨b, e, k _ _ hb⟩
theorem NKey.keeps {h h' : Heap} {ks : List NI} {a d : Addr} {o : Obj} {es : Array DictEntry} {ep : Nat} (x : NKey P w h ks a) (ho : h.get? d = some o) (hd : o.data = .dict es ep) (hs : Heap.SameBut d h h') : NKey P w h' ks a := by
  obtain ⟨oa, its, n, e, c, e2, i⟩ := x
  have ne : a ≠ d := by
    intro z
    rw [z, ho] at e
    cases e
    rw [hd] at e2
    cases e2
  exact ⟨oa, its, n, (hs.2 a ne).trans e, c, e2, i.keeps fun ls b hb => hb.keeps ho hd hs⟩
variable {A : Around} {E : Value → Shared → Prop} {s : Shared}
theorem NItem.hash {i : NI} {v : Value} {Q : Int → Shared → Prop} (hu : A.units < cLine) (x : NItem P w s.heap i v) (h : Q (niHash P w i) { s with toks := s.toks + niDraws i }) : wpAny (model P w) A (pyHash v) Q E s := by
  cases i with
  | inl k => exact (mixKind P w).pyHash (k := k) x h
  | inr ls =>
    obtain ⟨b, rfl, hb⟩ := x
    exact wpAny_pyHash_tuple hu hb h
theorem NItem.eq {i j : NI} {u v : Value} {Q : Bool → Shared → Prop} (hu : A.units < cLine) (x : NItem P w s.heap i u) (y : NItem P w s.heap j v) (h : Q (decide (i = j)) s) : wpAny (model P w) A (eqBool u v) Q E s := by
  cases i with
  | inl k =>
    cases j with
    | inl l =>
      have e : decide ((Sum.inl k : NI) = Sum.inl l) = decide (k = l) := by
        by_cases q : k = l
        · rw [q]; simp
        · rw [decide_eq_false q, decide_eq_false (fun z => q (Sum.inl.inj z))]
      rw [e] at h
      exact (mixKind P w).eqBool (a := k) (b := l) x y h
    | inr l =>
      rw [decide_eq_false (fun z => nomatch z)] at h
      obtain ⟨b, rfl, o, its, n, e, c, d, _⟩ := y
      rcases keyIs_shape x with ⟨a, t, _, rfl⟩ | ⟨a, t, _, rfl⟩
      · exact SeqAt.EqAt.int_tuple a t ⟨o, e, c, n, d⟩ hu _ _ _ _ h
      · exact SeqAt.EqAt.str_tuple a t ⟨o, e, c, n, d⟩ hu _ _ _ _ h
  | inr k =>
    obtain ⟨a, rfl, ha⟩ := x
    cases j with
    | inl l =>
      rw [decide_eq_false (fun z => nomatch z)] at h
      obtain ⟨o, its, n, e, c, d, _⟩ := ha
      rcases keyIs_shape y with ⟨b, t, _, rfl⟩ | ⟨b, t, _, rfl⟩
      · exact SeqAt.EqAt.tuple_int b t ⟨o, e, c, n, d⟩ hu _ _ _ _ h
      · exact SeqAt.EqAt.tuple_str b t ⟨o, e, c, n, d⟩ hu _ _ _ _ h
    | inr l =>
      obtain ⟨b, rfl, hb⟩ := y
      have e : decide ((Sum.inr k : NI) = Sum.inr l) = decide (k = l) := by
        by_cases q : k = l
        · rw [q]; simp
        · rw [decide_eq_false q, decide_eq_false (fun z => q (Sum.inr.inj z))]
      rw [e] at h
      exact wpAny_eqBool_tuple hu ha hb h
theorem nest_hash {ks : List NI} {a : Addr} {Q : Int → Shared → Prop} (hu : A.units + 8 < cLine) (hk : NKey P w s.heap ks a) (h : Q (nkHash P w ks) { s with toks := s.toks + nkDraws ks }) : wpAny (model P w) A (pyHash (.ref a)) Q E s := by
  have hT := hk.typeIs
  obtain ⟨o, its, n, ho, _, hd, hi⟩ := hk
  have hu0 : A.units < cLine := by omega
  unfold pyHash
  first | unfold pyHashByItsType | skip
  first | refine wpAny_bind (wpAny_cRoomFor_or (.inr hu0) ?_) | skip
  refine wpAny_bind (wpAny_specialOf hT F.slot_tuple_hash.lookup ?_)
  show wpAny _ _ (if (some (Value.builtin "tuple.__hash__") == some Value.none) = true then _ else _) Q E s
  rw [if_neg (by rw [beq_builtin_none]; exact Bool.false_ne_true)]
  refine wpAny_bind (wpAny_specialOf hT F.slot_tuple_hash.lookup ?_)
  show wpAny _ _ (callSpecialIfBoundUnlessNone? (.ref a) "__hash__" _ >>= _) Q E s
  refine wpAny_bind (wpAny_callSpecialIfBoundUnlessNone?_slot hT F.slot_tuple_hash (wpAny_call_entry F.slot_tuple_hash hT F.entry_tuple_hash ?_ (F.args_tuple_hash_1 _)))
  show wpAny _ _ (Builtin.Tuple.tupleItemsOf (.ref a) >>= _) _ _ s
  refine wpAny_bind (wpAny_tupleItemsOf ho hd ?_)
  refine wpAny_bind ?_
  rw [← Array.forIn_toList]
  refine wpAny_forIn_list _
    (fun rest (b : Array Int) s' => ∃ done left, ks = done ++ left ∧ NItems P w s.heap left rest ∧ b.toList = done.map (niHash P w) ∧ s' = { s with toks := s.toks + (done.map niDraws).sum })
    _ ?_ ?_ _ _ ⟨[], ks, rfl, hi, rfl, rfl⟩
  · rintro x rest b s' ⟨done, left, rfl, hl, hb, rfl⟩
    cases hl with
    | @cons k _ ks' _ h1 hl' =>
      refine wpAny_bind (NItem.hash (i := k) (show A.units + 1 < cLine by omega) h1 ?_)
      first
        | exact wpAny_pure ⟨done ++ [k], ks', by simp, hl', by simp [hb], by simp [Nat.add_assoc]⟩
        | exact wpAny_bind (wpAny_pure (wpAny_pure ⟨done ++ [k], ks', by simp, hl', by simp [hb], by simp [Nat.add_assoc]⟩))
  · rintro b s' ⟨done, left, rfl, hl, hb, rfl⟩
    cases hl
    rw [List.append_nil] at h
    show wpAny _ _ (retInt (Builtin.Tuple.tupleHashOf b.toList)) _ _ _
    rw [hb]
    refine wpAny_ret_mkInt ?_
    generalize hz : Builtin.Tuple.tupleHashOf (done.map (niHash P w)) = z at h ⊢
    show wpAny _ _ (if (decide (-(2 : Int) ^ 63 ≤ z) && decide (z < 2 ^ 63)) = true then _ else _) Q E _
    unfold nkHash reduceHash at h
    rw [hz] at h
    by_cases hr : (decide (-(2 : Int) ^ 63 ≤ z) && decide (z < 2 ^ 63)) = true
    · rw [if_pos hr]
      rw [if_pos hr] at h
      exact wpAny_pure (by simpa [Nat.add_assoc, nkDraws] using h)
    · rw [if_neg hr]
      rw [if_neg hr] at h
      exact wpAny_bind (wpAny_rule (wpAny_pure (by simpa [Nat.add_assoc, nkDraws] using h)))
theorem nest_eqTree {x y : List NI} {a b : Addr} {R : PySem.Fin → Shared → Prop} (hu : A.units < cLine) (hx : NKey P w s.heap x a) (hy : NKey P w s.heap y b) (h : R (.done (.ret (.bool (decide (x = y))))) s) :
    wpAny (model P w) A (Builtin.«tuple.__eq__» ⟨[.ref a, .ref b], []⟩) R E s := by
  have hTb := hy.typeIs
  obtain ⟨oa, xs, na, hoa, _, hda, hia⟩ := hx
  obtain ⟨ob, ys, nb, hob, _, hdb, hib⟩ := hy
  show wpAny _ _ (isInstance (.ref b) (.type "tuple") >>= _) _ _ s
  refine wpAny_bind (wpAny_isInstance hTb isSubtype_tuple_tuple ?_)
  simp only [Bool.not_true, Bool.false_eq_true, if_false]
  refine wpAny_bind (wpAny_tupleItemsOf hoa hda ?_)
  refine wpAny_bind (wpAny_tupleItemsOf hob hdb ?_)
  refine wpAny_bind ?_
  refine wpAny_forIn_list _
    (fun rest r s' => r.1 = none ∧ s' = s ∧ ∃ x' y' xs' ys', rest = List.zip xs' ys' ∧ NItems P w s.heap x' xs' ∧ NItems P w s.heap y' ys' ∧ decide (x' = y') = decide (x = y) ∧ (xs'.length == ys'.length) = (xs.size == ys.size))
    _ ?_ ?_ _ _ ⟨rfl, rfl, x, y, xs.toList, ys.toList, rfl, hia, hib, rfl, by simp⟩
  · rintro ⟨u, v⟩ rest r s' ⟨hr, rfl, x', y', xs', ys', hz, hx', hy', hdec, hlen⟩
    cases hx' with
    | nil => simp at hz
    | @cons k1 u' x'' xs'' h1 hx'' =>
      cases hy' with
      | nil => simp at hz
      | @cons k2 v' y'' ys'' h2 hy'' =>
        simp only [List.zip_cons_cons, List.cons.injEq, Prod.mk.injEq] at hz
        obtain ⟨⟨rfl, rfl⟩, rfl⟩ := hz
        refine wpAny_bind (NItem.eq (i := k1) (j := k2) hu h1 h2 ?_)
        by_cases hk : k1 = k2
        · subst hk
          rw [decide_eq_true rfl]
          simp only [Bool.not_true, Bool.false_eq_true, if_false]
          refine wpAny_pure ⟨rfl, rfl, x'', y'', xs'', ys'', rfl, hx'', hy'', ?_, by simpa using hlen⟩
          rw [← hdec]
          by_cases hxy : x'' = y''
          · simp [hxy]
          · simp [hxy]
        · rw [decide_eq_false hk]
          simp only [Bool.not_false, if_true]
          have hf : decide (x = y) = false := by rw [← hdec]; simp [hk]
          rw [hf] at h
          exact wpAny_bind (wpAny_pure (wpAny_pure (wpAny_pure h)))
  · rintro ⟨r1, r2⟩ s' ⟨hr, rfl, x', y', xs', ys', hz, hx', hy', hdec, hlen⟩
    simp only at hr
    subst hr
    refine wpAny_pure ?_
    have hfin : (xs.size == ys.size) = decide (x = y) := by
      rw [← hdec, ← hlen]
      cases hx' with
      | nil =>
        cases hy' with
        | nil => simp
        | cons _ _ => simp
      | cons _ _ =>
        cases hy' with
        | nil => simp
        | cons _ _ => simp at hz
    show R (.done (.ret (.bool (xs.size == ys.size)))) s'
    rw [hfin]; exact h
theorem nest_eqBool {x y : List NI} {a b : Addr} {Q : Bool → Shared → Prop} (hu : A.units + 8 < cLine) (hx : NKey P w s.heap x a) (hy : NKey P w s.heap y b) (h : Q (decide (x = y)) s) :
    wpAny (model P w) A (eqBool (.ref a) (.ref b)) Q E s := by
  unfold eqBool
  try with_reducible refine wpAny_holding ?_
  show wpAny _ _ (if (Value.ref a == Value.ref b) = true then _ else _) Q E s
  by_cases hab : (Value.ref a == Value.ref b) = true
  · rw [if_pos hab]
    have e : a = b := by have := eq_of_beq hab; injection this
    subst e
    obtain rfl := hx.inj hy
    exact wpAny_bind (wpAny_rule (wpAny_pure (by simpa using h)))
  · rw [if_neg hab]
    exact wpAny_bind (wpAny_richCompare_same_room (op := .Eq) hx.typeIs hy.typeIs F.slot_tuple_eq
      (wpAny_call_entry F.slot_tuple_eq hx.typeIs F.entry_tuple_eq (nest_eqTree (show A.units + 1 < cLine by omega) hx hy ⟨_, rfl, (fun e => nomatch e), wpAny_truthy_bool h⟩) (F.args_tuple_eq_2 _ _)) (by omega))
theorem nest_quiet0 {M : Model} {ls : List Key} {a : Addr} {n : Nat} {Q : Bool → Shared → Prop} (hk : IsTupleKey (mixKind P w) s.heap ls a) (h : Q true s) : wpAny M A (eqIsQuiet (n + 1) (.ref a)) Q E s := by
  have hT := hk.typeIs
  obtain ⟨o, its, m, ho, _, hd, hi⟩ := hk
  unfold eqIsQuiet
  refine wpAny_bind (wpAny_specialOf hT F.slot_tuple_eq.lookup ?_)
  show wpAny _ _ (isInstance (.ref a) (.type "tuple") >>= _) _ _ s
  refine wpAny_bind (wpAny_isInstance hT isSubtype_tuple_tuple ?_)
  simp only [Bool.not_true, Bool.false_eq_true, if_false]
  refine wpAny_bind (wpAny_seqItems ho hd ?_)
  refine wpAny_bind ?_
  show wpAny _ _ (forIn its _ _) _ _ s
  rw [← Array.forIn_toList]
  refine wpAny_forIn_list _ (fun rest r s' => r.1 = none ∧ s' = s ∧ ∀ v ∈ rest, carriedByValue v = true) _ ?_ ?_ _ _ ⟨rfl, rfl, hi.byValue⟩
  · rintro v rest r s' ⟨hr, rfl, hall⟩
    rw [eqIsQuiet_byValue _ (hall v List.mem_cons_self)]
    refine wpAny_bind (wpAny_pure ?_)
    simp only [Bool.not_true, Bool.false_eq_true, if_false]
    exact wpAny_pure ⟨rfl, rfl, fun u hu' => hall u (List.mem_cons_of_mem _ hu')⟩
  · rintro ⟨r1, r2⟩ s' ⟨hr, rfl, _⟩
    simp only at hr
    subst hr
    exact wpAny_pure h
theorem nest_quiet {M : Model} {ks : List NI} {a : Addr} {Q : Bool → Shared → Prop} (hk : NKey P w s.heap ks a) (h : Q true s) : wpAny M A (eqIsQuiet 8 (.ref a)) Q E s := by
  have hT := hk.typeIs
  obtain ⟨o, its, m, ho, _, hd, hi⟩ := hk
  unfold eqIsQuiet
  refine wpAny_bind (wpAny_specialOf hT F.slot_tuple_eq.lookup ?_)
  show wpAny _ _ (isInstance (.ref a) (.type "tuple") >>= _) _ _ s
  refine wpAny_bind (wpAny_isInstance hT isSubtype_tuple_tuple ?_)
  simp only [Bool.not_true, Bool.false_eq_true, if_false]
  refine wpAny_bind (wpAny_seqItems ho hd ?_)
  refine wpAny_bind ?_
  show wpAny _ _ (forIn its _ _) _ _ s
  rw [← Array.forIn_toList]
  refine wpAny_forIn_list _ (fun rest r s' => r.1 = none ∧ s' = s ∧ ∃ ls, NItems P w s.heap ls rest) _ ?_ ?_ _ _ ⟨rfl, rfl, ks, hi⟩
  · rintro v rest r s' ⟨hr, rfl, ls, hls⟩
    cases hls with
    | @cons i _ ls' _ h1 h2 =>
      have fin : ∀ {R : Bool → Shared → Prop}, R true s' → wpAny M A (eqIsQuiet 7 v) R E s' := fun {R} q => by
        cases i with
        | inl k =>
          rw [eqIsQuiet_byValue _ ((mixKind P w).byValue k v h1)]
          exact wpAny_pure q
        | inr l =>
          obtain ⟨b, rfl, hb⟩ := h1
          exact nest_quiet0 hb q
      refine wpAny_bind (fin ?_)
      simp only [Bool.not_true, Bool.false_eq_true, if_false]
      exact wpAny_pure ⟨rfl, rfl, ls', h2⟩
  · rintro ⟨r1, r2⟩ s' ⟨hr, rfl, _⟩
    simp only at hr
    subst hr
    exact wpAny_pure h
end
def nestKind (P : Program) (w : World) : HeapKind P w (List NI) where
  is := NKey P w
  hash := nkHash P w
  draws := nkDraws
  room := fun A => A.units + 8 < cLine
  inj := fun a b => a.inj b
  keeps := fun x ho hd hs => x.keeps ho hd hs
  pyHash := fun hu hk h => nest_hash hu hk h
  eqBool := fun hu hx hy h => nest_eqBool hu hx hy h
  quiet := fun hk h => nest_quiet hk h
theorem nestKind_room {P : Program} {w : World} {A : Around} (hu : A.units + 64 < cLine) : (nestKind P w).room A.in1 := show A.units + 1 + 8 < cLine by omega
end L2
namespace L2
open PySem PySem.Spec PyProof.Rows
inductive V where
  | non | bl (b : Bool) | int (i : Int) | str (x : Str) | byt (b : Array UInt8) | flt (b : UInt64) | ref (a : Addr) | ty (n : String)
  deriving DecidableEq
def RelV : V → Value → Prop
  | .non, u => u = Value.none
  | .bl b, u => u = Value.bool b
  | .int i, u => ∃ t, u = Value.int i t
  | .str x, u => ∃ t, u = Value.str x t
  | .byt b, u => ∃ t, u = Value.bytes b t
  | .flt b, u => ∃ t, u = Value.float b t
  | .ref a, u => u = Value.ref a
  | .ty n, u => u = Value.type n
abbrev Vals : List V → List Value → Prop := Paired RelV
theorem Vals.length {xs : List V} {us : List Value} (r : Vals xs us) : xs.length = us.length := Paired.length r
theorem Vals.get : ∀ {xs : List V} {us : List Value} {i : Nat} {x : V}, Vals xs us → xs[i]? = some x → ∃ u, us[i]? = some u ∧ RelV x u
  | _, _, _, _, .nil, e => by simp at e
  | _, _, 0, _, .cons r _, e => by simp at e; subst e; exact ⟨_, rfl, r⟩
  | _, _, i + 1, x, .cons _ t, e => by
    obtain ⟨u, h1, h2⟩ := Vals.get (i := i) (x := x) t (by simpa using e)
    exact ⟨u, by simpa using h1, h2⟩
theorem Vals.set {x : V} {u : Value} (r : RelV x u) : ∀ {xs : List V} {us : List Value} (i : Nat), Vals xs us → Vals (xs.set i x) (us.set i u)
  | _, _, _, .nil => .nil
  | _, _, 0, .cons _ t => .cons r t
  | _, _, i + 1, .cons q t => .cons q (Vals.set r i t)
theorem Vals.append : ∀ {xs ys : List V} {us ws : List Value}, Vals xs us → Vals ys ws → Vals (xs ++ ys) (us ++ ws)
  | _, _, _, _, .nil, s => s
  | _, _, _, _, .cons r t, s => .cons r (Vals.append t s)
theorem Vals.take : ∀ {xs : List V} {us : List Value} (n : Nat), Vals xs us → Vals (xs.take n) (us.take n)
  | _, _, 0, _ => .nil
  | _, _, _ + 1, .nil => .nil
  | _, _, n + 1, .cons r t => .cons r (Vals.take n t)
theorem Vals.drop : ∀ {xs : List V} {us : List Value} (n : Nat), Vals xs us → Vals (xs.drop n) (us.drop n)
  | _, _, 0, r => r
  | _, _, _ + 1, .nil => .nil
  | _, _, n + 1, .cons _ t => Vals.drop n t
theorem Vals.none_of : ∀ {xs : List V} {us : List Value} {i : Nat}, Vals xs us → xs[i]? = none → us[i]? = none := fun {xs us i} r e => by
  have h1 := r.length
  have h2 : xs.length ≤ i := List.getElem?_eq_none_iff.mp e
  exact List.getElem?_eq_none_iff.mpr (by omega)
def RelO : Option V → Option Value → Prop
  | some v, some u => RelV v u
  | none, none => True
  | _, _ => False
def KV {κ : Type} : List (κ × V) → List (κ × Value) → Prop := Paired fun (p : κ × V) (q : κ × Value) => p.1 = q.1 ∧ RelV p.2 q.2
def kV : Key → V
  | .inl i => .int i
  | .inr x => .str x
inductive HO where
  | lst (xs : List V)
  | tup (xs : List V)
  | dK (kvs : List (Key × V)) | dT (kvs : List (List NI × V))
  | set (S : Int → Bool) (n : Nat)
  | ins (C dx : Addr) (fs : List (Str × V))
  | own (x : Addr)
  | xd (fs : List (Str × V))
  | met (f x : Addr)
  | rng (lo hi : Int)
  | frz (o : Obj) (u : HO)
  | tbl (ps : Array Value)
  | ext (φ : Heap → Prop)
abbrev Hp := Addr → Option HO
def upd (H : Hp) (a : Addr) (o : HO) : Hp := fun b => if b = a then some o else H b
theorem upd_same {H : Hp} {a : Addr} {o : HO} : upd H a o a = some o := by unfold upd; rw [if_pos rfl]
theorem upd_ne {H : Hp} {a b : Addr} {o : HO} (h : b ≠ a) : upd H a o b = H b := by unfold upd; rw [if_neg h]
theorem upd_upd {H : Hp} {a : Addr} {o u : HO} : upd (upd H a o) a u = upd H a u := by
  funext b; unfold upd; split <;> rfl
theorem ne_of {H : Hp} {a b : Addr} {o u : HO} (h : H a = some o) (h' : H b = some u) (d : o ≠ u) : a ≠ b := by
  intro e; subst e; rw [h] at h'; exact d (Option.some.inj h')
theorem ne_of_none {H : Hp} {a b : Addr} {o : HO} (h : H a = some o) (h' : H b = none) : a ≠ b := by
  intro e; subst e; rw [h] at h'; cases h'
def NV (H : Hp) : NI → V → Prop
  | .inl k, v => v = kV k
  | .inr ls, v => ∃ b, v = .ref b ∧ H b = some (.tup (ls.map kV))
abbrev NVs (H : Hp) : List NI → List V → Prop := Paired (NV H)
def NAt (H : Hp) (ks : List NI) (a : Addr) : Prop := ∃ vs, H a = some (.tup vs) ∧ NVs H ks vs
theorem paired_mapP {α β : Type} {F G : α → β → Prop} : ∀ {l₁ : List α} {l₂ : List β}, Paired F l₁ l₂ → (∀ a b, F a b → G a b) → Paired G l₁ l₂
  | _, _, .nil, _ => .nil
  | _, _, .cons r t, f => .cons (f _ _ r) (paired_mapP t f)
theorem NAt.keeps {H H' : Hp} {ks : List NI} {a : Addr} (x : NAt H ks a) (ht : ∀ b xs, H b = some (.tup xs) → H' b = some (.tup xs)) : NAt H' ks a := by
  obtain ⟨vs, e, r⟩ := x
  refine ⟨vs, ht _ _ e, paired_mapP r fun i v z => ?_⟩
  cases i with
  | inl k => exact z
  | inr l =>
    obtain ⟨b, e1, e2⟩ := z
    exact ⟨b, e1, ht _ _ e2⟩
section
variable (P : Program) (w : World)
def ObjOk (H : Hp) (h : Heap) (a : Addr) : HO → Prop
  | .lst xs => xs.length ≤ sizeLine ∧ ∃ (its : List Value) (n : Nat), Vals xs its ∧ h.get? a = some { cls := .type "list", data := .seq its.toArray n }
  | .tup xs => xs.length ≤ sizeLine ∧ ∃ its : List Value, Vals xs its ∧ IsTup h a its.toArray
  | .dK kvs => kvs.length ≤ sizeLine ∧ (a == sysModules) = false ∧ ∃ vs, KV kvs vs ∧ h.DictOf (mixKind P w) a vs
  | .dT kvs => kvs.length ≤ sizeLine ∧ (a == sysModules) = false ∧ ∃ xs : List (List NI × Addr × Value),
      Paired (fun (p : List NI × V) (q : List NI × Addr × Value) => p.1 = q.1 ∧ NAt H p.1 q.2.1 ∧ RelV p.2 q.2.2) kvs xs ∧
      ∃ o es ep, h.get? a = some o ∧ o.ExactDict ∧ o.data = .dict es ep ∧ es.toList = xs.map (entryOfKey (nestKind P w)) ∧ (xs.map (·.1)).Nodup
  | .set S n => h.SetOf (intKind P w) a S n
  | .ins C dx fs => H dx = some (.own a) ∧ fs.length ≤ 1000 ∧ dx ≠ a ∧ h.get? a = some (PySem.W.instObj C dx) ∧
      ∃ mA, h.Ns1 dx mA ∧ (∀ f, RelO (fs.lookup f) (mA f)) ∧ PySem.Within mA (fs.map (·.1))
  | .own _ => ∃ o, h.get? a = some o
  | .xd fs => ∃ mA, h.Ns1 a mA ∧ ∀ f, RelO (fs.lookup f) (mA f)
  | .rng lo hi => ∃ t u v, h.get? a = some { cls := .type "range", data := .fields #[.int lo t, .int hi u, .int 1 v] }
  | .frz o u => h.get? a = some o ∧ ObjOk H h a u
  | .tbl ps => h.get? a = some { cls := .none, data := .fields ps }
  | .met f x => h.get? a = some (PySem.W.methodObj (.ref f) (.ref x))
  | .ext φ => φ h ∧ (∃ o, h.get? a = some o) ∧ ∀ h1 h2 : Heap, φ h1 → (∀ o, h1.get? a = some o → h2.get? a = some o) → φ h2
def HOk (H : Hp) (h : Heap) : Prop := ∀ a o, H a = some o → ObjOk P w H h a o
end
section
variable {P : Program} {w : World} {H H' : Hp} {h h' : Heap} {a : Addr} {o : HO}
theorem ObjOk.lt (x : ObjOk P w H h a o) : a < h.objs.size := by
  cases o with
  | lst xs => obtain ⟨_, _, _, _, e⟩ := x; exact Heap.lt_size e
  | tup xs => obtain ⟨_, _, _, p⟩ := x; exact p.lt
  | dK kvs => obtain ⟨_, _, _, _, o, _, _, e, _⟩ := x; exact Heap.lt_size e
  | dT kvs => obtain ⟨_, _, _, _, o, _, _, e, _⟩ := x; exact Heap.lt_size e
  | set S n => obtain ⟨o, _, _, _, e, _⟩ := x; exact Heap.lt_size e
  | ins C dx fs => obtain ⟨_, _, _, e, _⟩ := x; exact Heap.lt_size e
  | own y => obtain ⟨_, e⟩ := x; exact Heap.lt_size e
  | xd fs => obtain ⟨_, ⟨_, _, _, e, _⟩, _⟩ := x; exact Heap.lt_size e
  | rng lo hi => obtain ⟨_, _, _, e⟩ := x; exact Heap.lt_size e
  | frz ob u => obtain ⟨e, _⟩ := x; exact Heap.lt_size e
  | tbl ps => exact Heap.lt_size (show h.get? a = some _ from x)
  | met f y => exact Heap.lt_size (show h.get? a = some _ from x)
  | ext φ => obtain ⟨_, ⟨_, e⟩, _⟩ := x; exact Heap.lt_size e
theorem Paired.mapP {α β : Type} {F G : α → β → Prop} : ∀ {l₁ : List α} {l₂ : List β}, Paired F l₁ l₂ → (∀ a b, F a b → G a b) → Paired G l₁ l₂
  | _, _, .nil, _ => .nil
  | _, _, .cons r t, f => .cons (f _ _ r) (Paired.mapP t f)
theorem ObjOk.stay (x : ObjOk P w H h a o) (k : ∀ b u, (b = a ∨ H b = some (.own a)) → h.get? b = some u → h'.get? b = some u)
    (ho : ∀ b, H b = some (.own a) → H' b = some (.own a)) (ht : ∀ b xs, H b = some (.tup xs) → H' b = some (.tup xs)) : ObjOk P w H' h' a o := by
  induction o with
  | lst xs => obtain ⟨z, its, n, r, e⟩ := x; exact ⟨z, its, n, r, k _ _ (.inl rfl) e⟩
  | tup xs => obtain ⟨z, its, r, ob, e, c⟩ := x; exact ⟨z, its, r, ob, k _ _ (.inl rfl) e, c⟩
  | dK kvs => obtain ⟨z, y, vs, r, ob, es, ep, e, c⟩ := x; exact ⟨z, y, vs, r, ob, es, ep, k _ _ (.inl rfl) e, c⟩
  | dT kvs =>
    obtain ⟨z, y, xs, r, ob, es, ep, e, c⟩ := x
    exact ⟨z, y, xs, Paired.mapP r fun p q z => ⟨z.1, z.2.1.keeps ht, z.2.2⟩, ob, es, ep, k _ _ (.inl rfl) e, c⟩
  | set S n => obtain ⟨ob, es, ep, t, e, c⟩ := x; exact ⟨ob, es, ep, t, k _ _ (.inl rfl) e, c⟩
  | ins C dx fs =>
    obtain ⟨d, z, ne, e, mA, ⟨od, es, ep, e2, c⟩, r⟩ := x
    exact ⟨ho _ d, z, ne, k _ _ (.inl rfl) e, mA, ⟨od, es, ep, k _ _ (.inr d) e2, c⟩, r⟩
  | own y => obtain ⟨ob, e⟩ := x; exact ⟨ob, k _ _ (.inl rfl) e⟩
  | xd fs => obtain ⟨mA, ⟨od, es, ep, e, c⟩, r⟩ := x; exact ⟨mA, ⟨od, es, ep, k _ _ (.inl rfl) e, c⟩, r⟩
  | rng lo hi => obtain ⟨t, u, v, e⟩ := x; exact ⟨t, u, v, k _ _ (.inl rfl) e⟩
  | frz ob u ih => obtain ⟨e, q⟩ := x; exact ⟨k _ _ (.inl rfl) e, ih q⟩
  | tbl ps =>
    have e : h.get? a = some { cls := .none, data := .fields ps } := x
    show h'.get? a = some { cls := .none, data := .fields ps }
    exact k a _ (.inl rfl) e
  | met f y =>
    have e : h.get? a = some (PySem.W.methodObj (.ref f) (.ref y)) := x
    show h'.get? a = some (PySem.W.methodObj (.ref f) (.ref y))
    exact k a _ (.inl rfl) e
  | ext φ => obtain ⟨p, ⟨o, e⟩, st⟩ := x; exact ⟨st _ _ p fun o q => k _ _ (.inl rfl) q, ⟨o, k _ _ (.inl rfl) e⟩, st⟩
theorem HOk.lt (x : HOk P w H h) (e : H a = some o) : a < h.objs.size := (x a o e).lt
theorem HOk.fresh (x : HOk P w H h) (e : h.objs.size ≤ a) : H a = none := by
  cases q : H a with
  | none => rfl
  | some u => exact absurd (Nat.lt_of_lt_of_le (x.lt q) e) (Nat.lt_irrefl _)
theorem HOk.kept (x : HOk P w H h) (k : ∀ b u, h.get? b = some u → h'.get? b = some u) : HOk P w H h' := fun a o e =>
  (x a o e).stay (fun b u _ q => k b u q) (fun _ q => q) fun _ _ q => q
theorem HOk.laid (x : HOk P w H h) (k : ∀ b u, h.get? b = some u → h'.get? b = some u) (hp : h.objs.size ≤ a) (new : ObjOk P w (upd H a o) h' a o) : HOk P w (upd H a o) h' := fun b u e => by
  have hn := x.fresh hp
  by_cases hb : b = a
  · subst hb; rw [upd_same] at e; cases e; exact new
  · rw [upd_ne hb] at e
    exact (x b u e).stay (fun c v _ q => k c v q) (fun c q => by rw [upd_ne (ne_of_none q hn)]; exact q) fun c xs q => by rw [upd_ne (ne_of_none q hn)]; exact q
end
def Rd (H : Hp) (a : Addr) (u : HO) : Prop := H a = some u ∨ ∃ o, H a = some (.frz o u)
theorem Rd.of {H : Hp} {a : Addr} {u : HO} (h : H a = some u) : Rd H a u := .inl h
theorem Rd.ok {P : Program} {w : World} {H : Hp} {h : Heap} {a : Addr} {u : HO} (r : Rd H a u) (x : HOk P w H h) : ObjOk P w H h a u := by
  rcases r with r | ⟨o, r⟩
  · exact x a u r
  · obtain ⟨_, q⟩ := x a _ r
    exact q
def Mut : Option HO → Prop
  | some (.lst _) => True
  | some (.dK _) => True
  | some (.dT _) => True
  | some (.set _ _) => True
  | some (.ins _ _ _) => True
  | some (.ext _) => True
  | _ => False
section
variable {P : Program} {w : World} {H : Hp} {h h' : Heap} {x e : Addr} {o' : HO}
theorem HOk.write (ok : HOk P w H h) (mu : Mut (H x)) (he : e = x ∨ H e = some (.own x)) (k : ∀ b u, b ≠ e → h.get? b = some u → h'.get? b = some u) (heo : ∃ u, h'.get? e = some u)
    (new : ObjOk P w (upd H x o') h' x o') : HOk P w (upd H x o') h' := fun b u q => by
  have nown : ∀ c y, H c = some (.own y) → c ≠ x := fun c y r z => by subst z; rw [r] at mu; exact mu
  have ntup : ∀ c xs, H c = some (.tup xs) → c ≠ x := fun c xs r z => by subst z; rw [r] at mu; exact mu
  by_cases hb : b = x
  · subst hb; rw [upd_same] at q; cases q; exact new
  · rw [upd_ne hb] at q
    by_cases hbe : b = e
    · have q' : H b = some (.own x) := by
        rcases he with z | z
        · exact absurd (hbe.trans z) hb
        · rw [hbe]; exact z
      rw [q] at q'; cases q'
      obtain ⟨v, hv⟩ := heo
      exact ⟨v, by rw [hbe]; exact hv⟩
    · refine (ok b u q).stay (fun c v hc r => k c v ?_ r) (fun c r => by rw [upd_ne (nown c b r)]; exact r) fun c xs r => by rw [upd_ne (ntup c xs r)]; exact r
      rcases hc with rfl | hc
      · exact hbe
      · rintro rfl
        rcases he with z | z
        · exact nown c b hc z
        · rw [hc] at z; cases z; exact hb rfl
end
structure Un (fs ex : List Addr) (H H' : Hp) (h h' : Heap) : Prop where
  keep : ∀ b o, h.get? b = some o → H b = none → b ∉ fs → b ∉ ex → h'.get? b = some o
  slot : ∀ b o, h.get? b = some o → H b = none → b ∈ fs → b ∉ ex → ∃ sl, h'.get? b = some { o with slots := sl }
  free : ∀ b o, h.get? b = some o → H b = none → b ∉ ex → H' b = none
  there : ∀ b o, h.get? b = some o → b ∉ ex → ∃ o', h'.get? b = some o'
  tups : ∀ b xs, H b = some (.tup xs) → H' b = some (.tup xs)
  frzs : ∀ b o u, H b = some (.frz o u) → H' b = some (.frz o u)
  tbls : ∀ b ps, H b = some (.tbl ps) → ∃ more, H' b = some (.tbl (ps ++ more))
section
variable {fs fs' ex ex' : List Addr} {H H1 H2 : Hp} {h h1 h2 h' : Heap} {a x e : Addr} {o : HO}
theorem Un.any (u : Un fs ex H H1 h h1) {b : Addr} {ob : Obj} (q : h.get? b = some ob) (n : H b = none) (hx : b ∉ ex) : ∃ sl, h1.get? b = some { ob with slots := sl } := by
  by_cases hb : b ∈ fs
  · exact u.slot b ob q n hb hx
  · exact ⟨ob.slots, u.keep b ob q n hb hx⟩
theorem Un.trans (a : Un fs ex H H1 h h1) (b : Un fs ex H1 H2 h1 h2) : Un fs ex H H2 h h2 where
  keep := fun c ob q n hc hx => b.keep c ob (a.keep c ob q n hc hx) (a.free c ob q n hx) hc hx
  slot := fun c ob q n hc hx => by
    obtain ⟨sl, e1⟩ := a.slot c ob q n hc hx
    obtain ⟨sl', e2⟩ := b.slot c _ e1 (a.free c ob q n hx) hc hx
    exact ⟨sl', e2⟩
  free := fun c ob q n hx => by
    obtain ⟨o', e1⟩ := a.there c ob q hx
    exact b.free c o' e1 (a.free c ob q n hx) hx
  there := fun c ob q hx => by
    obtain ⟨o', e1⟩ := a.there c ob q hx
    exact b.there c o' e1 hx
  tups := fun c xs q => b.tups c xs (a.tups c xs q)
  frzs := fun c ob xs q => b.frzs c ob xs (a.frzs c ob xs q)
  tbls := fun c ps q => by
    obtain ⟨m1, e1⟩ := a.tbls c ps q
    obtain ⟨m2, e2⟩ := b.tbls c _ e1
    exact ⟨m1 ++ m2, by rw [e2, Array.append_assoc]⟩
theorem Un.kept (k : ∀ b u, h.get? b = some u → h'.get? b = some u) : Un fs ex H H h h' :=
  ⟨fun b ob q _ _ _ => k b ob q, fun b ob q _ _ _ => ⟨ob.slots, k b ob q⟩, fun _ _ _ n _ => n, fun b ob q _ => ⟨ob, k b ob q⟩, fun _ _ q => q, fun _ _ _ q => q, fun _ ps q => ⟨#[], by rw [q]; simp⟩⟩
theorem Un.refl : Un fs ex H H h h := Un.kept fun _ _ q => q
theorem Un.laid (k : ∀ b u, h.get? b = some u → h'.get? b = some u) (hp : h.objs.size ≤ a) (hn : H a = none) : Un fs ex H (upd H a o) h h' where
  keep := fun b u q _ _ _ => k b u q
  slot := fun b u q _ _ _ => ⟨u.slots, k b u q⟩
  free := fun b u q n _ => by rw [upd_ne (Nat.ne_of_lt (Nat.lt_of_lt_of_le (Heap.lt_size q) hp))]; exact n
  there := fun b u q _ => ⟨u, k b u q⟩
  tups := fun b xs q => by rw [upd_ne (ne_of_none q hn)]; exact q
  frzs := fun b u xs q => by rw [upd_ne (ne_of_none q hn)]; exact q
  tbls := fun b ps q => ⟨#[], by rw [upd_ne (ne_of_none q hn), q]; simp⟩
theorem Un.write (mu : Mut (H x)) (he : e = x ∨ H e = some (.own x)) (k : ∀ b u, b ≠ e → h.get? b = some u → h'.get? b = some u) (heo : ∃ u, h'.get? e = some u) : Un fs ex H (upd H x o) h h' := by
  have hx : ∀ b, H b = none → b ≠ x := fun b n z => by subst z; rw [n] at mu; exact mu
  have hb : ∀ b, H b = none → b ≠ e := fun b n z => by
    subst z
    rcases he with r | r
    · exact hx b n r
    · rw [n] at r; cases r
  have hm : ∀ b u, H b = some u → ¬ Mut (some u) → b ≠ x := fun b u q nm z => by subst z; rw [q] at mu; exact nm mu
  refine ⟨fun b u q n _ _ => k b u (hb b n) q, fun b u q n _ _ => ⟨u.slots, k b u (hb b n) q⟩, fun b u q n _ => by rw [upd_ne (hx b n)]; exact n, fun b u q _ => ?_,
    fun b xs q => by rw [upd_ne (hm b _ q fun z => z)]; exact q, fun b u xs q => by rw [upd_ne (hm b _ q fun z => z)]; exact q, fun b ps q => ⟨#[], by rw [upd_ne (hm b _ q fun z => z), q]; simp⟩⟩
  by_cases hbe : b = e
  · subst hbe; exact heo
  · exact ⟨u, k b u hbe q⟩
theorem Un.mono (u : Un fs ex H H1 h h1) (hs : ∀ b ∈ fs, b ∈ fs') (hx : ∀ b ∈ ex, b ∈ ex') : Un fs' ex' H H1 h h1 :=
  ⟨fun b ob q n hb he => u.keep b ob q n (fun z => hb (hs b z)) fun z => he (hx b z), fun _ _ q n _ he => u.any q n fun z => he (hx _ z), fun b ob q n he => u.free b ob q n fun z => he (hx b z), fun b ob q he => u.there b ob q fun z => he (hx b z), u.tups, u.frzs, u.tbls⟩
end
def trk (h : Heap) (H : Hp) : List Addr := (List.range h.objs.size).filter fun a => (H a).isSome
def hidT (h : Heap) (H : Hp) : Heap := PySem.W.hideAll h (trk h H)
theorem hidT_size (h : Heap) (H : Hp) : (hidT h H).objs.size = h.objs.size := PySem.W.hideAll_size _ _
theorem hidT_get {h : Heap} {H : Hp} {b : Addr} {o : Obj} (e : h.get? b = some o) (n : H b = none) : (hidT h H).get? b = some o :=
  PySem.W.hideAll_get _ e fun hm => by
    have q : (H b).isSome = true := (List.mem_filter.mp hm).2
    rw [n] at q; simp at q
theorem of_hidT {h : Heap} {H : Hp} {b : Addr} {o : Obj} (e : (hidT h H).get? b = some o) : h.get? b = some o ∧ H b = none := by
  have e' : h.get? b = some o := PySem.W.of_hideAll (trk h H) e
  refine ⟨e', ?_⟩
  cases q : H b with
  | none => rfl
  | some x =>
    have hm : b ∈ trk h H := List.mem_filter.mpr ⟨List.mem_range.mpr (Heap.lt_size e'), by simp [q]⟩
    have z : (hidT h H).get? b = none := PySem.W.hideAll_none (trk h H) hm
    rw [z] at e; cases e
def allNews (g h : Heap) (L : Addr) : List (Addr × Obj) := (List.range h.objs.size).filterMap fun a => if a = L ∨ (g.get? a).isSome = true then none else (h.get? a).map fun o => (a, o)
def rest (g h : Heap) (L d : Addr) : List (Addr × Obj) := (allNews g h L).filter fun p => decide (p.1 ≠ d)
end L2
namespace L2
open PySem PySem.Spec PyProof.Rows
structure Mod (K : PySem.W.Frag) (mg : Str → Option Value) (base : Heap) : Prop where
  kin : K.In base
  glob : base.Ns mainGlobals mg
  blt : ∃ mb, base.Ns builtinsNs mb ∧ ∀ x : Str, x ≠ "__name__" → mb x = bootBuiltins x
  nolimit : base.NoLimit
structure Cx where
  prog : Program
  w : World
  K : PySem.W.Frag
  mg : Str → Option Value
  base : Heap
  A : Around
  N : List Str
  s₀ : Shared
  H₀ : Hp
  env : Env
  outer : List Env
  stack : List Env
  ex : List Addr
  fn : Str → Bool
  calm : Bool
  pn : List (Addr × Obj)
  xe : Value → Shared → Prop
def frs (l : List Env) : List Addr := l.filterMap (·.frame)
abbrev Cx.fs (X : Cx) : List Addr := frs X.outer
def Vis (sc : Scope) (x : Str) : Prop := sc.names.lookup x = some .local ∨ sc.names.lookup x = some .cell ∨ sc.names.lookup x = some .free
def Loc (sc : Scope) (x : Str) : Prop := sc.names.lookup x = some .local ∨ sc.names.lookup x = some .cell
def Look (env : Env) (h : Heap) (m : Str → Option Value) (x : Str) (u : Value) : Prop :=
  (env.kindOf x = some .local ∧ m x = some u) ∨ ((env.kindOf x = some .cell ∨ env.kindOf x = some .free) ∧ ∃ c, env.cells.lookup x = some c ∧ h.IsCell c (some u))
structure Cx.Ok (X : Cx) : Prop where
  mod : Mod X.K X.mg X.base
  kind : X.env.scope.kind = .function
  glob : X.env.globals = mainGlobals
  blt : X.env.builtins = builtinsNs
  above : X.s₀.heap.objs.size ≤ X.env.locals
  inj : ∀ x y c, X.env.cells.lookup x = some c → X.env.cells.lookup y = some c → x = y
  has : ∀ x, (X.env.kindOf x = some .cell ∨ X.env.kindOf x = some .free) → ∃ c, X.env.cells.lookup x = some c
  cab : ∀ x c, X.fn x = true → X.env.cells.lookup x = some c → X.s₀.heap.objs.size ≤ c
  hd : X.calm = true → X.A.handled = none
  frames : X.A.frames = some X.stack
  stk : X.stack = X.outer ∨ (X.stack = X.env :: X.outer ∧ X.env.frame = some X.env.locals)
  exf : ∀ b ∈ X.ex, b ≠ X.env.locals ∧ ∀ x c, X.env.cells.lookup x = some c → c ≠ b
  bs : ∀ b o, X.base.get? b = some o → X.s₀.heap.get? b = some o ∧ X.H₀ b = none
  bsz : X.base.objs.size ≤ X.s₀.heap.objs.size
  noex : ∀ b o, X.base.get? b = some o → b ∉ X.ex
  exfs : ∀ b ∈ X.ex, b ∉ X.fs
  funs : X.s₀.heap.FunFrames X.base X.outer
  frf : ∀ b ∈ X.fs, X.H₀ b = none
structure Inv (X : Cx) (pins : List (Addr × Obj)) (σ : List (Option V)) (H : Hp) (s : Shared) : Prop where
  ok : X.Ok
  os : s.os = X.s₀.os
  bare : AllBare s.gens
  base : Un X.fs X.ex X.H₀ H X.s₀.heap s.heap
  loc : ∃ m, s.heap.Ns X.env.locals m ∧ ∀ (i : Nat) (x : Str) (v : V), X.N[i]? = some x → σ[i]? = some (some v) → Vis X.env.scope x → ∃ u, RelV v u ∧ Look X.env s.heap m x u
  cell : ∀ x c, X.env.cells.lookup x = some c → ∃ v, s.heap.IsCell c v
  free : H X.env.locals = none
  freeC : ∀ x c, X.env.cells.lookup x = some c → H c = none
  pin : ∀ p ∈ X.pn ++ pins, s.heap.get? p.1 = some p.2 ∧ H p.1 = none ∧ p.1 ≠ X.env.locals ∧ p.1 ∉ X.fs ∧ ∀ v, p.2.data ≠ .cell v
  hok : HOk X.prog X.w H s.heap
  len : σ.length = X.N.length
section
variable {X : Cx} {pins : List (Addr × Obj)} {σ : List (Option V)} {H H' : Hp} {s : Shared} {h' : Heap}
theorem Cx.Ok.nofr (ok : X.Ok) {b : Addr} {o : Obj} (e : X.base.get? b = some o) : b ∉ X.fs := fun hb => by
  have := (ok.funs.mem hb).1
  rw [e] at this; cases this
theorem Inv.bs (I : Inv X pins σ H s) : ∀ b o, X.base.get? b = some o → s.heap.get? b = some o ∧ H b = none := fun b o e =>
  ⟨I.base.keep b o (I.ok.bs b o e).1 (I.ok.bs b o e).2 (I.ok.nofr e) (I.ok.noex b o e), I.base.free b o (I.ok.bs b o e).1 (I.ok.bs b o e).2 (I.ok.noex b o e)⟩
theorem Inv.bk (I : Inv X pins σ H s) : ∀ b o, X.base.get? b = some o → s.heap.get? b = some o := fun b o e => (I.bs b o e).1
theorem Inv.mod (I : Inv X pins σ H s) : Mod X.K X.mg X.base := I.ok.mod
theorem Inv.kIn (I : Inv X pins σ H s) : X.K.In s.heap := I.ok.mod.kin.keeps I.bk
theorem Inv.nolimit (I : Inv X pins σ H s) : s.heap.NoLimit := I.ok.mod.nolimit.keeps I.bk
theorem Inv.fr (I : Inv X pins σ H s) : ∃ m, Fr X.base X.env.locals s.heap m :=
  let ⟨m, hn, _⟩ := I.loc
  ⟨m, hn, I.bk, Nat.le_trans I.ok.bsz I.ok.above⟩
theorem Inv.lt (I : Inv X pins σ H s) : X.env.locals < s.heap.objs.size := let ⟨_, hn, _⟩ := I.loc; hn.lt
theorem Inv.sz (I : Inv X pins σ H s) : X.s₀.heap.objs.size ≤ s.heap.objs.size := Nat.le_trans I.ok.above (Nat.le_of_lt I.lt)
theorem Inv.nofs (I : Inv X pins σ H s) {a : Addr} (h : s.heap.objs.size ≤ a) : a ∉ X.fs := fun hb => by
  obtain ⟨_, o, ho, _⟩ := I.ok.funs.mem hb
  exact absurd (Nat.lt_of_lt_of_le (Heap.lt_size ho) (Nat.le_trans I.sz h)) (Nat.lt_irrefl _)
theorem Inv.cne (I : Inv X pins σ H s) : ∀ x c, X.env.cells.lookup x = some c → c ≠ X.env.locals := fun x c e z => by
  obtain ⟨v, o, ho, hd⟩ := I.cell x c e
  obtain ⟨m, ⟨o', es, ep, ho', hd', _⟩, _⟩ := I.loc
  rw [z, ho'] at ho; cases ho; rw [hd'] at hd; cases hd
theorem Inv.funs (I : Inv X pins σ H s) : s.heap.FunFrames X.base X.outer := by
  have all : ∀ (l : List Env), (∀ b ∈ frs l, b ∈ X.fs) → X.s₀.heap.FunFrames X.base l → s.heap.FunFrames X.base l := by
    intro l
    induction l with
    | nil => intro _ _; trivial
    | cons env r ih =>
      intro hs hl
      obtain ⟨hk, ⟨L, o, hf, hn, ho, hd⟩, hr⟩ := hl
      have hL : L ∈ X.fs := hs L (by unfold frs; rw [List.filterMap_cons, hf]; exact List.mem_cons_self)
      obtain ⟨sl, e⟩ := I.base.slot L o ho (I.ok.frf L hL) hL fun z => I.ok.exfs L z hL
      exact ⟨hk, ⟨L, _, hf, hn, e, hd⟩, ih (fun b hb => hs b (by unfold frs; rw [List.filterMap_cons, hf]; exact List.mem_cons_of_mem _ hb)) hr⟩
  exact all X.outer (fun _ hb => hb) I.ok.funs
theorem Inv.stack (I : Inv X pins σ H s) : s.heap.FunFrames X.base X.stack := by
  rcases I.ok.stk with e | ⟨e, hf⟩
  · rw [e]; exact I.funs
  · rw [e]
    obtain ⟨m, hn, _⟩ := I.loc
    refine .cons (by rw [I.ok.kind]; decide) hf hn ?_ I.funs
    exact Heap.get?_none_of_le (Nat.le_trans I.ok.bsz I.ok.above)
theorem Inv.stkSub (I : Inv X pins σ H s) : ∀ b ∈ frs X.stack, b ∈ X.env.locals :: X.fs := fun b hb => by
  rcases I.ok.stk with e | ⟨e, hf⟩
  · rw [e] at hb; exact List.mem_cons_of_mem _ hb
  · rw [e] at hb
    unfold frs at hb
    rw [List.filterMap_cons, hf] at hb
    exact hb
theorem Inv.stkFree (I : Inv X pins σ H s) : ∀ b ∈ frs X.stack, H b = none := fun b hb => by
  rcases List.mem_cons.mp (I.stkSub b hb) with e | hb
  · rw [e]; exact I.free
  · obtain ⟨_, o, ho, _⟩ := I.ok.funs.mem hb
    exact I.base.free b o ho (I.ok.frf b hb) fun z => I.ok.exfs b z hb
theorem Inv.step {g' : Array GenState} {t' : Nat} {d' : Drawn} {ch : List Addr} (I : Inv X pins σ H s)
    (hch : ∀ b ∈ ch, (b ∈ X.ex ∨ X.s₀.heap.objs.size ≤ b) ∧ b ≠ X.env.locals ∧ (∀ x c, X.env.cells.lookup x = some c → c ≠ b) ∧ ∀ p ∈ X.pn ++ pins, p.1 ≠ b)
    (keep : ∀ b o, b ≠ X.env.locals → b ∉ X.fs → b ∉ ch → s.heap.get? b = some o → H b = none → h'.get? b = some o)
    (slot : ∀ b o, b ≠ X.env.locals → b ∈ X.fs → b ∉ ch → s.heap.get? b = some o → H b = none → ∃ sl, h'.get? b = some { o with slots := sl }) (free : ∀ b o, b ∉ ch → s.heap.get? b = some o → H b = none → H' b = none)
    (there : ∀ b o, b ∉ ch → s.heap.get? b = some o → ∃ o', h'.get? b = some o')
    (tups : ∀ b xs, H b = some (.tup xs) → H' b = some (.tup xs)) (frzs : ∀ b o u, H b = some (.frz o u) → H' b = some (.frz o u)) (tbls : ∀ b ps, H b = some (.tbl ps) → ∃ more, H' b = some (.tbl (ps ++ more)))
    (ns : ∀ m, s.heap.Ns X.env.locals m → h'.Ns X.env.locals m) (hok : HOk X.prog X.w H' h') (hg : AllBare g') :
    Inv X pins σ H' { s with heap := h', gens := g', drawn := d', toks := t' } := by
  have neL : ∀ b o, X.s₀.heap.get? b = some o → b ≠ X.env.locals := fun b o e => Nat.ne_of_lt (Nat.lt_of_lt_of_le (Heap.lt_size e) I.ok.above)
  have neC : ∀ b o, X.s₀.heap.get? b = some o → b ∉ X.ex → b ∉ ch := fun b o e hx hb => by
    rcases (hch b hb).1 with z | z
    · exact hx z
    · exact absurd (Nat.lt_of_lt_of_le (Heap.lt_size e) z) (Nat.lt_irrefl _)
  have cellK : ∀ x c, X.env.cells.lookup x = some c → ∀ v, s.heap.IsCell c v → h'.IsCell c v := fun x c e v ⟨o, ho, hd⟩ => by
    have nch : c ∉ ch := fun z => (hch c z).2.2.1 x c e rfl
    by_cases hc : c ∈ X.fs
    · obtain ⟨sl, q⟩ := slot c o (I.cne x c e) hc nch ho (I.freeC x c e)
      exact ⟨_, q, hd⟩
    · exact ⟨o, keep c o (I.cne x c e) hc nch ho (I.freeC x c e), hd⟩
  refine ⟨I.ok, I.os, hg, ⟨fun b o e n hb hx => ?_, fun b o e n hb hx => ?_, fun b o e n hx => ?_, fun b o e hx => ?_, fun b xs e => tups b xs (I.base.tups b xs e), fun b o xs e => frzs b o xs (I.base.frzs b o xs e), fun b ps e => ?_⟩, ?_, fun x c e => ?_, ?_, fun x c e => ?_, fun p hp => ?_, hok, I.len⟩
  · exact keep b o (neL b o e) hb (neC b o e hx) (I.base.keep b o e n hb hx) (I.base.free b o e n hx)
  · obtain ⟨sl, e1⟩ := I.base.slot b o e n hb hx
    obtain ⟨sl', e2⟩ := slot b _ (neL b o e) hb (neC b o e hx) e1 (I.base.free b o e n hx)
    exact ⟨sl', e2⟩
  · obtain ⟨o', e1⟩ := I.base.there b o e hx
    exact free b o' (neC b o e hx) e1 (I.base.free b o e n hx)
  · obtain ⟨o', e1⟩ := I.base.there b o e hx
    exact there b o' (neC b o e hx) e1
  · obtain ⟨m1, e1⟩ := I.base.tbls b ps e
    obtain ⟨m2, e2⟩ := tbls b _ e1
    exact ⟨m1 ++ m2, by rw [e2, Array.append_assoc]⟩
  · obtain ⟨m, hn, hl⟩ := I.loc
    refine ⟨m, ns m hn, fun i x v e1 e2 e3 => ?_⟩
    obtain ⟨u, r, l⟩ := hl i x v e1 e2 e3
    refine ⟨u, r, ?_⟩
    rcases l with l | ⟨k, c, e, z⟩
    · exact .inl l
    · exact .inr ⟨k, c, e, cellK x c e _ z⟩
  · obtain ⟨v, z⟩ := I.cell x c e
    exact ⟨v, cellK x c e v z⟩
  · obtain ⟨m, ⟨o, _, _, ho, _⟩, _⟩ := I.loc
    exact free _ o (fun z => (hch _ z).2.1 rfl) ho I.free
  · obtain ⟨v, o, ho, hd⟩ := I.cell x c e
    exact free c o (fun z => (hch c z).2.2.1 x c e rfl) ho (I.freeC x c e)
  · obtain ⟨e, n, ne, nf, d⟩ := I.pin p hp
    have nch : p.1 ∉ ch := fun z => (hch p.1 z).2.2.2 p hp rfl
    exact ⟨keep p.1 p.2 ne nf nch e n, free p.1 p.2 nch e n, ne, nf, d⟩
theorem Inv.un {t' : Nat} (I : Inv X pins σ H s) (u : Un X.fs [] H H' s.heap h') (hok : HOk X.prog X.w H' h') : Inv X pins σ H' { s with heap := h', toks := t' } := by
  obtain ⟨m, ⟨o, es, ep, ho, r⟩, _⟩ := id I.loc
  obtain ⟨sl, hL⟩ := u.any ho I.free (by simp)
  exact I.step (g' := s.gens) (d' := s.drawn) (ch := []) (fun _ z => nomatch z) (fun b o _ hb _ e n => u.keep b o e n hb (by simp)) (fun b o _ hb _ e n => u.slot b o e n hb (by simp)) (fun b o _ e n => u.free b o e n (by simp)) (fun b o _ e => u.there b o e (by simp)) u.tups u.frzs u.tbls (fun m' hm => by
    obtain ⟨o', es', ep', ho', r'⟩ := hm
    rw [ho] at ho'; cases ho'
    exact ⟨_, es', ep', hL, r'⟩) hok I.bare
theorem Inv.call {g' : Array GenState} {t' : Nat} {d' : Drawn} {ch : List Addr} (I : Inv X pins σ H s) (u : Un (frs X.stack) ch H H' s.heap h') (hok : HOk X.prog X.w H' h') (hg : AllBare g')
    (hch : ∀ b ∈ ch, (b ∈ X.ex ∨ X.s₀.heap.objs.size ≤ b) ∧ b ≠ X.env.locals ∧ (∀ x c, X.env.cells.lookup x = some c → c ≠ b) ∧ ∀ p ∈ X.pn ++ pins, p.1 ≠ b) :
    Inv X pins σ H' { s with heap := h', gens := g', drawn := d', toks := t' } := by
  obtain ⟨m, ⟨o, es, ep, ho, r⟩, _⟩ := id I.loc
  obtain ⟨sl, hL⟩ := u.any ho I.free fun z => (hch _ z).2.1 rfl
  exact I.step (ch := ch) hch (fun b o hL hb hc e n => u.keep b o e n (fun z => (List.mem_cons.mp (I.stkSub b z)).elim hL hb) hc) (fun b o _ _ hc e n => u.any e n hc) (fun b o hc e n => u.free b o e n hc) (fun b o hc e => u.there b o e hc) u.tups u.frzs u.tbls (fun m' hm => by
    obtain ⟨o', es', ep', ho', r'⟩ := hm
    rw [ho] at ho'; cases ho'
    exact ⟨_, es', ep', hL, r'⟩) hok hg
theorem Inv.turned {t' : Nat} {it : Addr} (I : Inv X pins σ H s) (k : ∀ b o, b ≠ it → s.heap.get? b = some o → h'.get? b = some o) (hn : H it = none) (hL : it ≠ X.env.locals)
    (h1 : it ∈ X.ex ∨ X.s₀.heap.objs.size ≤ it) (h2 : ∀ x c, X.env.cells.lookup x = some c → c ≠ it) (h3 : ∀ p ∈ X.pn ++ pins, p.1 ≠ it) : Inv X pins σ H { s with heap := h', toks := t' } := by
  have nit : ∀ b u, H b = some u → b ≠ it := fun b u e z => by rw [z, hn] at e; cases e
  refine I.step (g' := s.gens) (d' := s.drawn) (ch := [it]) (fun b hb => ?_) (fun b o _ _ hc e _ => k b o (fun z => hc (by simp [z])) e) (fun b o _ _ hc e _ => ⟨o.slots, k b o (fun z => hc (by simp [z])) e⟩) (fun _ _ _ _ n => n)
    (fun b o hc e => ⟨o, k b o (fun z => hc (by simp [z])) e⟩) (fun _ _ e => e) (fun _ _ _ e => e) (fun b ps e => ⟨#[], by rw [e]; simp⟩) (fun m hm => ?_) (fun b u e => ?_) I.bare
  · have e : b = it := by simpa using hb
    subst e
    exact ⟨h1, hL, h2, h3⟩
  · obtain ⟨o, es, ep, ho, r⟩ := hm
    exact ⟨o, es, ep, k _ o (Ne.symm hL) ho, r⟩
  · refine (I.hok b u e).stay (fun c v hc q => k c v ?_ q) (fun _ q => q) fun _ _ q => q
    rcases hc with z | z
    · rw [z]; exact nit b u e
    · exact nit c _ z
theorem Inv.tok (I : Inv X pins σ H s) (t : Nat) : Inv X pins σ H { s with toks := t } := I.un (h' := s.heap) (t' := t) Un.refl I.hok
theorem Inv.kept {t' : Nat} (I : Inv X pins σ H s) (k : ∀ b u, s.heap.get? b = some u → h'.get? b = some u) : Inv X pins σ H { s with heap := h', toks := t' } := I.un (Un.kept k) (I.hok.kept k)
theorem Inv.laid {a : Addr} {o : HO} {t' : Nat} (I : Inv X pins σ H s) (k : ∀ b u, s.heap.get? b = some u → h'.get? b = some u) (hp : s.heap.objs.size ≤ a) (new : ObjOk X.prog X.w (upd H a o) h' a o) :
    Inv X pins σ (upd H a o) { s with heap := h', toks := t' } := I.un (Un.laid k hp (I.hok.fresh hp)) (I.hok.laid k hp new)
theorem Inv.write {x e : Addr} {o : HO} {t' : Nat} (I : Inv X pins σ H s) (mu : Mut (H x)) (he : e = x ∨ H e = some (.own x)) (k : ∀ b u, b ≠ e → s.heap.get? b = some u → h'.get? b = some u) (heo : ∃ u, h'.get? e = some u)
    (new : ObjOk X.prog X.w (upd H x o) h' x o) : Inv X pins σ (upd H x o) { s with heap := h', toks := t' } := I.un (Un.write mu he k heo) (I.hok.write mu he k heo new)
theorem Inv.weak {σ' : List (Option V)} (I : Inv X pins σ H s) (hl : σ'.length = σ.length) (w : ∀ (i : Nat) v, σ'[i]? = some (some v) → σ[i]? = some (some v)) : Inv X pins σ' H s :=
  ⟨I.ok, I.os, I.bare, I.base, let ⟨m, hn, hl'⟩ := I.loc; ⟨m, hn, fun i x v e1 e2 e3 => hl' i x v e1 (w i v e2) e3⟩, I.cell, I.free, I.freeC, I.pin, I.hok, hl.trans I.len⟩
theorem Inv.pins_of {pins' : List (Addr × Obj)} (I : Inv X pins σ H s) (h : ∀ p ∈ pins', s.heap.get? p.1 = some p.2 ∧ H p.1 = none ∧ p.1 ≠ X.env.locals ∧ p.1 ∉ X.fs ∧ ∀ v, p.2.data ≠ .cell v) : Inv X pins' σ H s :=
  ⟨I.ok, I.os, I.bare, I.base, I.loc, I.cell, I.free, I.freeC, fun p hp => (List.mem_append.mp hp).elim (fun z => I.pin p (List.mem_append_left _ z)) (h p), I.hok, I.len⟩
theorem nodup_ix {N : List Str} (hN : N.Nodup) {i j : Nat} {x : Str} (a : N[i]? = some x) (b : N[j]? = some x) : i = j := by
  obtain ⟨h1, e1⟩ := List.getElem?_eq_some_iff.mp a
  obtain ⟨h2, e2⟩ := List.getElem?_eq_some_iff.mp b
  exact (List.getElem_inj hN).mp (e1.trans e2.symm)
theorem store_ok2 {M : Model} {A : Around} {E : Value → Shared → Prop} {i : Nat} {x : Str} {v : V} {u : Value} {Q : Unit → Shared → Prop} (I : Inv X pins σ H s) (hN : X.N.Nodup) (hi : X.N[i]? = some x) (hx : Loc X.env.scope x) (r : RelV v u)
    (h : ∀ s', Inv X pins (σ.set i (some v)) H s' → (∃ a, Heap.SameBut a s.heap s'.heap ∧ (a = X.env.locals ∨ X.env.cells.lookup x = some a)) → Q () s') (hf : X.fn x = true ∨ X.env.scope.names.lookup x = some .local := by first | exact .inl rfl | exact .inr rfl | assumption) : wpAny M A (storeName X.env x u) Q E s := by
  obtain ⟨m, hn, hl⟩ := id I.loc
  have hcls : (X.env.scope.kind == .class || (X.env.scope.kind == .module && X.env.locals != X.env.globals)) = false := by rw [I.ok.kind]; rfl
  have hiσ : i < σ.length := by rw [I.len]; exact (List.getElem?_eq_some_iff.mp hi).1
  have cne := I.cne
  have tracked : ∀ {a : Addr} {h' : Heap}, (∃ o, s.heap.get? a = some o ∧ H a = none) → Heap.SameBut a s.heap h' → HOk X.prog X.w H h' := fun {a h'} ha hs b ob e => by
    obtain ⟨_, _, hfree⟩ := ha
    refine (I.hok b ob e).stay (fun c w' hc q => (hs.2 c ?_).trans q) (fun _ q => q) fun _ _ q => q
    rintro rfl
    rcases hc with rfl | hc
    · rw [hfree] at e; cases e
    · rw [hfree] at hc; cases hc
  rcases hx with hk | hk
  · refine wpAny_storeName_local hk hn (fun h' hn' hs => ?_) hcls
    obtain ⟨oL, _, _, hoL, _⟩ := id hn
    refine h _ ⟨I.ok, I.os, I.bare, ⟨fun b o e n hb hx => ?_, fun b o e n hb hx => ?_, I.base.free, fun b o e hx => ?_, I.base.tups, I.base.frzs, I.base.tbls⟩, ⟨_, hn', fun j y v' e1 e2 e3 => ?_⟩, fun y c e => ?_, I.free, I.freeC, fun p hp => ?_, tracked ⟨oL, hoL, I.free⟩ hs, by simpa using I.len⟩ ⟨_, hs, .inl rfl⟩
    · exact (hs.2 b (Nat.ne_of_lt (Nat.lt_of_lt_of_le (Heap.lt_size e) I.ok.above))).trans (I.base.keep b o e n hb hx)
    · obtain ⟨sl, e1⟩ := I.base.slot b o e n hb hx
      exact ⟨sl, (hs.2 b (Nat.ne_of_lt (Nat.lt_of_lt_of_le (Heap.lt_size e) I.ok.above))).trans e1⟩
    · obtain ⟨o', e1⟩ := I.base.there b o e hx
      exact ⟨o', (hs.2 b (Nat.ne_of_lt (Nat.lt_of_lt_of_le (Heap.lt_size e) I.ok.above))).trans e1⟩
    · by_cases hj : j = i
      · subst hj
        rw [hi] at e1; cases e1
        rw [List.getElem?_set_self hiσ] at e2
        cases e2
        exact ⟨u, r, .inl ⟨hk, by simp⟩⟩
      · rw [List.getElem?_set_ne (Ne.symm hj)] at e2
        obtain ⟨u', r', q⟩ := hl j y v' e1 e2 e3
        refine ⟨u', r', ?_⟩
        rcases q with ⟨k, e⟩ | ⟨k, c, e, z⟩
        · refine .inl ⟨k, ?_⟩
          have : y ≠ x := fun e => hj (nodup_ix hN e1 (e ▸ hi))
          simp [this, e]
        · exact .inr ⟨k, c, e, z.sameBut hs (cne y c e)⟩
    · obtain ⟨w', z⟩ := I.cell y c e
      exact ⟨w', z.sameBut hs (cne y c e)⟩
    · obtain ⟨e, n, ne, nf, d⟩ := I.pin p hp
      exact ⟨(hs.2 p.1 ne).trans e, n, ne, nf, d⟩
  · have hfn : X.fn x = true := by
      rcases hf with z | z
      · exact z
      · rw [z] at hk; cases hk
    obtain ⟨c, hc⟩ := I.ok.has x (.inl hk)
    obtain ⟨w', z⟩ := I.cell x c hc
    refine wpAny_storeName_cell I.ok.kind hk hc z (fun h' hc' hs => ?_)
    obtain ⟨oc, hoc, hocd⟩ := id z
    refine h { s with heap := h' } ⟨I.ok, I.os, I.bare, ⟨fun b o e n hb hx => ?_, fun b o e n hb hx => ?_, I.base.free, fun b o e hx => ?_, I.base.tups, I.base.frzs, I.base.tbls⟩, ⟨m, hn.sameBut hs (Ne.symm (cne x c hc)), fun j y v' e1 e2 e3 => ?_⟩, fun y c' e => ?_, I.free, I.freeC, fun p hp => ?_, tracked ⟨oc, hoc, I.freeC x c hc⟩ hs, by simpa using I.len⟩ ⟨c, hs, .inr hc⟩
    · exact (hs.2 b (Nat.ne_of_lt (Nat.lt_of_lt_of_le (Heap.lt_size e) (I.ok.cab x c hfn hc)))).trans (I.base.keep b o e n hb hx)
    · obtain ⟨sl, e1⟩ := I.base.slot b o e n hb hx
      exact ⟨sl, (hs.2 b (Nat.ne_of_lt (Nat.lt_of_lt_of_le (Heap.lt_size e) (I.ok.cab x c hfn hc)))).trans e1⟩
    · obtain ⟨o', e1⟩ := I.base.there b o e hx
      exact ⟨o', (hs.2 b (Nat.ne_of_lt (Nat.lt_of_lt_of_le (Heap.lt_size e) (I.ok.cab x c hfn hc)))).trans e1⟩
    · by_cases hj : j = i
      · subst hj
        rw [hi] at e1; cases e1
        rw [List.getElem?_set_self hiσ] at e2
        cases e2
        exact ⟨u, r, .inr ⟨.inl hk, c, hc, hc'⟩⟩
      · rw [List.getElem?_set_ne (Ne.symm hj)] at e2
        obtain ⟨u', r', q⟩ := hl j y v' e1 e2 e3
        refine ⟨u', r', ?_⟩
        rcases q with q | ⟨k, c', e, z'⟩
        · exact .inl q
        · refine .inr ⟨k, c', e, z'.sameBut hs ?_⟩
          rintro rfl
          exact hj (nodup_ix hN e1 (I.ok.inj _ _ _ e hc ▸ hi))
    · by_cases hcc : c' = c
      · subst hcc; exact ⟨_, hc'⟩
      · obtain ⟨w2, z2⟩ := I.cell y c' e
        exact ⟨w2, z2.sameBut hs hcc⟩
    · obtain ⟨e, n, ne, nf, d⟩ := I.pin p hp
      refine ⟨(hs.2 p.1 ?_).trans e, n, ne, nf, d⟩
      intro q
      rw [q, hoc] at e
      have q' : oc = p.2 := Option.some.inj e
      exact d w' (by rw [← q']; exact hocd)
theorem store_ok {M : Model} {A : Around} {E : Value → Shared → Prop} {i : Nat} {x : Str} {v : V} {u : Value} {Q : Unit → Shared → Prop} (I : Inv X pins σ H s) (hN : X.N.Nodup) (hi : X.N[i]? = some x) (hx : Loc X.env.scope x) (r : RelV v u)
    (h : ∀ s', Inv X pins (σ.set i (some v)) H s' → Q () s') (hf : X.fn x = true ∨ X.env.scope.names.lookup x = some .local := by first | exact .inl rfl | exact .inr rfl | assumption) : wpAny M A (storeName X.env x u) Q E s :=
  store_ok2 I hN hi hx r (fun s' I' _ => h s' I') hf
theorem Inv.call' {s' : Shared} {ch : List Addr} (I : Inv X pins σ H s) (ho : s'.os = s.os) (u : Un (frs X.stack) ch H H' s.heap s'.heap) (hok : HOk X.prog X.w H' s'.heap) (hg : AllBare s'.gens)
    (hch : ∀ b ∈ ch, (b ∈ X.ex ∨ X.s₀.heap.objs.size ≤ b) ∧ b ≠ X.env.locals ∧ (∀ x c, X.env.cells.lookup x = some c → c ≠ b) ∧ ∀ p ∈ X.pn ++ pins, p.1 ≠ b) : Inv X pins σ H' s' := by
  obtain ⟨h', g', d', t', o'⟩ := s'
  have e : o' = s.os := ho
  subst e
  exact I.call (g' := g') (t' := t') (d' := d') u hok hg hch
end
abbrev XK := Value → Option Addr → Hp → Prop
abbrev St := List (Option V)
abbrev VK := V → Hp → Prop
abbrev TE := St → Hp → VK → Prop
abbrev TT := St → Hp → (Bool → Hp → Prop) → Prop
abbrev TA := St → Hp → (List V → Hp → Prop) → Prop
structure Ends where
  nx : St → Hp → Prop
  rt : VK
  bk : St → Hp → Prop := fun _ _ => False
  ct : St → Hp → Prop := fun _ _ => False
abbrev TS := Ends → St → Hp → Prop
def EP (X : Cx) (pins : List (Addr × Obj)) (σ : St) (Q : VK) (u : Value) (s' : Shared) : Prop := ∃ v H', Inv X pins σ H' s' ∧ RelV v u ∧ Q v H'
def TP (X : Cx) (pins : List (Addr × Obj)) (σ : St) (Q : Bool → Hp → Prop) (b : Bool) (s' : Shared) : Prop := ∃ H', Inv X pins σ H' s' ∧ Q b H'
def AP (X : Cx) (pins : List (Addr × Obj)) (σ : St) (Q : List V → Hp → Prop) (us : List Value) (s' : Shared) : Prop := ∃ vs H', Inv X pins σ H' s' ∧ Vals vs us ∧ Q vs H'
def SP (X : Cx) (pins : List (Addr × Obj)) (D : Ends) (f : Flow) (s' : Shared) : Prop :=
  match f with
  | .next => ∃ σ' H', Inv X pins σ' H' s' ∧ D.nx σ' H'
  | .brk => ∃ σ' H', Inv X pins σ' H' s' ∧ D.bk σ' H'
  | .cont => ∃ σ' H', Inv X pins σ' H' s' ∧ D.ct σ' H'
  | .ret u => ∃ v σ' H', Inv X pins σ' H' s' ∧ RelV v u ∧ D.rt v H'
def PE (X : Cx) (e : Expr) (t : TE) : Prop :=
  ∀ (pins : List (Addr × Obj)) (s : Shared) (σ : St) (H : Hp) (Q : VK), Inv X pins σ H s → t σ H Q → wpAny (model X.prog X.w) X.A (eval e X.env) (EP X pins σ Q) X.xe s
def PT (X : Cx) (e : Expr) (t : TT) : Prop :=
  ∀ (pins : List (Addr × Obj)) (s : Shared) (σ : St) (H : Hp) (Q : Bool → Hp → Prop), Inv X pins σ H s → t σ H Q → wpAny (model X.prog X.w) X.A (isTrue e X.env (eval e X.env)) (TP X pins σ Q) X.xe s
def PW (X : Cx) (e : Expr) (t : TT) : Prop :=
  ∀ (whole : Sem Value) (pins : List (Addr × Obj)) (s : Shared) (σ : St) (H : Hp) (Q : Bool → Hp → Prop), Inv X pins σ H s → t σ H Q → wpAny (model X.prog X.w) X.A (isTrue e X.env whole) (TP X pins σ Q) X.xe s
theorem PW.pt {X : Cx} {e : Expr} {t : TT} (h : PW X e t) : PT X e t := h _
def PA (X : Cx) (es : List Expr) (t : TA) : Prop :=
  ∀ (pos : Pos) (pins : List (Addr × Obj)) (s : Shared) (σ : St) (H : Hp) (Q : List V → Hp → Prop), Inv X pins σ H s → t σ H Q → wpAny (model X.prog X.w) X.A (spliced (backTo pos (starEach es X.env))) (AP X pins σ Q) X.xe s
def PS (X : Cx) (st : Stmt) (t : TS) : Prop :=
  ∀ (pins : List (Addr × Obj)) (s : Shared) (σ : St) (H : Hp) (D : Ends), Inv X pins σ H s → t D σ H → wpAny (model X.prog X.w) X.A (exec st X.env) (SP X pins D) X.xe s
def PSs (X : Cx) (st : List Stmt) (t : TS) : Prop :=
  ∀ (pins : List (Addr × Obj)) (s : Shared) (σ : St) (H : Hp) (D : Ends), Inv X pins σ H s → t D σ H → wpAny (model X.prog X.w) X.A (execs st X.env) (SP X pins D) X.xe s
theorem thn {α : Type} {t : Sem α} {Q Q' : α → Shared → Prop} {M : Model} {A : Around} {E : Value → Shared → Prop} {s : Shared} (h : wpAny M A t Q E s) (hQ : ∀ a s, Q a s → Q' a s) : wpAny M A t Q' E s := wpAny_mono h hQ fun _ _ x => x
end L2
namespace L2
open PySem PySem.Spec PyProof.Rows
section
variable {X : Cx}
def tVar (i : Nat) : TE := fun σ H Q => ∃ v, σ[i]? = some (some v) ∧ Q v H
def tC (v : V) : TE := fun _ H Q => Q v H
theorem pe_var {i : Nat} {x : Str} {pos : Pos} (hN : X.N[i]? = some x) (hv : Vis X.env.scope x) (hd : (x == ("__debug__" : Str)) = false := by decide) (hcd : (x == ("__classdict__" : Str)) = false := by decide) : PE X (.Name x pos) (tVar i) := by
  intro pins s σ H Q I h
  obtain ⟨v, e, h⟩ := h
  obtain ⟨m, hn, hl⟩ := I.loc
  obtain ⟨u, r, l⟩ := hl i x v hN e hv
  have fin : EP X pins σ Q u s := ⟨v, H, I, r, h⟩
  rcases l with ⟨hk, hm⟩ | ⟨hk, c, hc, hcell⟩
  · exact wpAny_Name (wpAny_loadName_local I.ok.kind hk hn hm fin) hd
  · rcases hk with hk | hk
    · exact wpAny_Name (wpAny_loadName_cell I.ok.kind hk hc hcell fin) hd
    · exact wpAny_Name (wpAny_loadName_free I.ok.kind hk hc hcell fin hcd) hd
theorem pe_int {i j pos} : PE X (.Constant (.int i) j pos) (tC (.int i)) := fun _ _ _ H _ I h => wpAny_Constant_int ⟨.int i, H, I.tok _, ⟨_, rfl⟩, h⟩
theorem pe_bl {b j pos} : PE X (.Constant (.bool b) j pos) (tC (.bl b)) := fun _ _ _ H _ I h => Constant_bool ⟨.bl b, H, I, rfl, h⟩
theorem pe_str {x j pos} : PE X (.Constant (.str x) j pos) (tC (.str x)) := fun _ _ _ H _ I h => Calls.Constant_str ⟨.str x, H, I.tok _, ⟨_, rfl⟩, h⟩
def Gl (X : Cx) (x : Str) : Prop := X.env.kindOf x = some .globalImplicit
theorem ld_glob {E : Value → Shared → Prop} {pins : List (Addr × Obj)} {s : Shared} {σ : St} {H : Hp} {x : Str} {u : Value} {pos : Pos} {Q : Value → Shared → Prop} (I : Inv X pins σ H s) (hg : Gl X x) (hm : X.mg x = some u) (h : Q u s)
    (hd : (x == ("__debug__" : Str)) = false := by decide) : wpAny (model X.prog X.w) X.A (eval (.Name x pos) X.env) Q E s :=
  Calls.Name_function_global I.ok.kind hg (Calls.loadGlobal_global (by rw [I.ok.glob]; exact I.mod.glob.keeps I.bk) hm h) hd
theorem ld_blt {E : Value → Shared → Prop} {pins : List (Addr × Obj)} {s : Shared} {σ : St} {H : Hp} {x : Str} {u : Value} {pos : Pos} {Q : Value → Shared → Prop} (I : Inv X pins σ H s) (hg : Gl X x) (hm : X.mg x = none) (hv : bootBuiltins x = some u) (h : Q u s)
    (hn : x ≠ "__name__" := by decide) (hd : (x == ("__debug__" : Str)) = false := by decide) : wpAny (model X.prog X.w) X.A (eval (.Name x pos) X.env) Q E s := by
  obtain ⟨mb, h1, h2⟩ := I.mod.blt
  exact Calls.Name_function_global I.ok.kind hg (Calls.loadGlobal_builtin (by rw [I.ok.glob]; exact I.mod.glob.keeps I.bk) hm (by rw [I.ok.blt]; exact h1.keeps I.bk) ((h2 x hn).trans hv) h) hd
theorem pe_glob {x : Str} {v : V} {u : Value} {pos : Pos} (hg : Gl X x) (hm : X.mg x = some u) (r : RelV v u) (hd : (x == ("__debug__" : Str)) = false := by decide) : PE X (.Name x pos) (tC v) :=
  fun _ _ _ H _ I h => ld_glob I hg hm ⟨v, H, I, r, h⟩ hd
theorem pe_bltn {x : Str} {v : V} {u : Value} {pos : Pos} (hg : Gl X x) (hm : X.mg x = none) (hv : bootBuiltins x = some u) (r : RelV v u) (hn : x ≠ "__name__" := by decide) (hd : (x == ("__debug__" : Str)) = false := by decide) : PE X (.Name x pos) (tC v) :=
  fun _ _ _ H _ I h => ld_blt I hg hm hv ⟨v, H, I, r, h⟩ hn hd
variable {a b : Expr} {ta tb : TE} {pos : Pos}
def PC (X : Cx) (op : CmpOp) (a b : Expr) (t : TE) : Prop :=
  ∀ (pins : List (Addr × Obj)) (s : Shared) (σ : St) (H : Hp) (Q : VK), Inv X pins σ H s → t σ H Q →
    wpAny (model X.prog X.w) X.A (eval a X.env) (fun v s₁ => wpAny (model X.prog X.w) X.A (eval b X.env) (fun u s₂ => wpAny (model X.prog X.w) X.A (compareOp op v u) (EP X pins σ Q) X.xe s₂) X.xe s₁) X.xe s
theorem nobehind (b : Expr) {op : CmpOp} (h : op ≠ .In) (h2 : op ≠ .NotIn) : behindInMarks op b = false := by
  have e1 : (op == CmpOp.In) = false := by cases op <;> first | rfl | exact absurd rfl h
  have e2 : (op == CmpOp.NotIn) = false := by cases op <;> first | rfl | exact absurd rfl h2
  cases b <;> simp [behindInMarks, e1, e2]
def tB (t : TE) : TT := fun σ H Q => t σ H fun x H1 => ∃ c, x = .bl c ∧ Q c H1
theorem pt_cmp {op : CmpOp} {t : TE} (h : PC X op a b t) (h1 : behindInMarks op b = false := by first | exact nobehind _ (by decide) (by decide) | rfl) : PT X (.Compare a [op] [b] pos) (tB t) := by
  intro pins s σ H Q I hw
  refine wpAny_isTrue_Compare1 (thn (h pins s σ H _ I hw) fun v s1 h1 => thn h1 fun u s2 h2 => thn h2 fun c s3 ⟨x, H1, I1, r1, q1⟩ => ?_) h1
  obtain ⟨d, rfl, q⟩ := q1
  cases r1
  exact wpAny_truthy_bool ⟨H1, I1, q⟩
theorem pt_val {e : Expr} {t : TE} (h : PE X e t) (he : ∀ whole, isTrue e X.env whole = (do let v ← whole; standAt e.pos; holding [v] (truthy v)) := by intro _; rfl) : PT X e (tB t) := by
  intro pins s σ H Q I hw
  refine isTrue_plain (thn (h pins s σ H _ I hw) fun v s1 ⟨x, H1, I1, r1, q1⟩ => ?_) (he _)
  obtain ⟨d, rfl, q⟩ := q1
  cases r1
  exact wpAny_truthy_bool ⟨H1, I1, q⟩
variable {tA tB' : TT} {rest : List Expr}
def tAnd (t u : TT) : TT := fun σ H Q => t σ H fun c H1 => if c = true then u σ H1 Q else Q false H1
def tOr (t u : TT) : TT := fun σ H Q => t σ H fun c H1 => if c = true then Q true H1 else u σ H1 Q
def tNot (t : TT) : TT := fun σ H Q => t σ H fun c H1 => Q (!c) H1
theorem pw_and1 (ha : PT X a tA) : PW X (.BoolOp .And [a] pos) tA := by
  intro wh pins s σ H Q I h
  refine isTrue_and (thn (ha pins s σ H Q I h) fun c s1 e => ?_)
  cases c with
  | true => exact isTrue_and_nil e
  | false => exact e
theorem pw_or1 (ha : PT X a tA) : PW X (.BoolOp .Or [a] pos) tA := by
  intro wh pins s σ H Q I h
  refine isTrue_or (thn (ha pins s σ H Q I h) fun c s1 e => ?_)
  cases c with
  | false => exact isTrue_or_nil e
  | true => exact e
theorem pw_and (ha : PT X a tA) (hb : PW X (.BoolOp .And (b :: rest) pos) tB') : PW X (.BoolOp .And (a :: b :: rest) pos) (tAnd tA tB') := by
  intro wh pins s σ H Q I h
  refine isTrue_and (thn (ha pins s σ H _ I h) fun c s1 ⟨H1, I1, q1⟩ => ?_)
  cases c with
  | true => exact hb wh pins s1 σ H1 Q I1 q1
  | false => exact ⟨H1, I1, q1⟩
theorem pw_or (ha : PT X a tA) (hb : PW X (.BoolOp .Or (b :: rest) pos) tB') : PW X (.BoolOp .Or (a :: b :: rest) pos) (tOr tA tB') := by
  intro wh pins s σ H Q I h
  refine isTrue_or (thn (ha pins s σ H _ I h) fun c s1 ⟨H1, I1, q1⟩ => ?_)
  cases c with
  | true => exact ⟨H1, I1, q1⟩
  | false => exact hb wh pins s1 σ H1 Q I1 q1
theorem pt_not (ha : PT X a tA) : PT X (.UnaryOp .Not a pos) (tNot tA) := by
  intro pins s σ H Q I h
  exact isTrue_not (ha pins s σ H (fun c H1 => Q (!c) H1) I h)
def tAndV (ta tb : TE) : TE := fun σ H Q => ta σ H fun x H1 => ∃ c, x = .bl c ∧ if c = true then tb σ H1 Q else Q (.bl false) H1
def tOrV (ta tb : TE) : TE := fun σ H Q => ta σ H fun x H1 => ∃ c, x = .bl c ∧ if c = true then Q (.bl true) H1 else tb σ H1 Q
def tNotV (ta : TE) : TE := fun σ H Q => ta σ H fun x H1 => ∃ c, x = .bl c ∧ Q (.bl (!c)) H1
theorem pe_one {op} {t : TE} (h : PE X a t) : PE X (.BoolOp op [a] pos) t := fun pins s σ H Q I hw => BoolOp_one (h pins s σ H Q I hw)
theorem pe_and (ha : PE X a ta) (hb : PE X (.BoolOp .And (b :: rest) pos) tb) : PE X (.BoolOp .And (a :: b :: rest) pos) (tAndV ta tb) := by
  intro pins s σ H Q I h
  refine BoolOp_and (thn (ha pins s σ H _ I h) fun v s1 ⟨x, H1, I1, r1, q1⟩ => ?_)
  obtain ⟨c, rfl, q1⟩ := q1
  cases r1
  refine wpAny_truthy_bool ?_
  cases c with
  | true => exact hb pins s1 σ H1 Q I1 q1
  | false => exact ⟨.bl false, H1, I1, rfl, q1⟩
theorem pe_or (ha : PE X a ta) (hb : PE X (.BoolOp .Or (b :: rest) pos) tb) : PE X (.BoolOp .Or (a :: b :: rest) pos) (tOrV ta tb) := by
  intro pins s σ H Q I h
  refine BoolOp_or (thn (ha pins s σ H _ I h) fun v s1 ⟨x, H1, I1, r1, q1⟩ => ?_)
  obtain ⟨c, rfl, q1⟩ := q1
  cases r1
  refine wpAny_truthy_bool ?_
  cases c with
  | false => exact hb pins s1 σ H1 Q I1 q1
  | true => exact ⟨.bl true, H1, I1, rfl, q1⟩
theorem pe_not (ha : PE X a ta) : PE X (.UnaryOp .Not a pos) (tNotV ta) := by
  intro pins s σ H Q I h
  refine UnaryOp_ (thn (ha pins s σ H _ I h) fun v s1 ⟨x, H1, I1, r1, q1⟩ => ?_)
  obtain ⟨c, rfl, q1⟩ := q1
  cases r1
  exact not_of (wpAny_truthy_bool ⟨.bl (!c), H1, I1, rfl, q1⟩)
end
end L2
namespace L2
open PySem PySem.Spec PyProof.Rows
def SqL (K : PySem.W.Frag) (H : Hp) (a : Addr) (xs : List V) : Prop :=
  Rd H a (.lst xs) ∨
    ∃ (o : Obj) (its : Array Value) (n : Nat), K.lookup a = some o ∧ o.cls = .type "list" ∧ o.dict = none ∧ o.data = .seq its n ∧ its.size ≤ sizeLine ∧ Vals xs its.toList
def SqT (K : PySem.W.Frag) (H : Hp) (a : Addr) (xs : List V) : Prop :=
  Rd H a (.tup xs) ∨
    ∃ (o : Obj) (its : Array Value) (n : Nat), K.lookup a = some o ∧ o.cls = .type "tuple" ∧ o.data = .seq its n ∧ its.size ≤ sizeLine ∧ Vals xs its.toList
def absV : Value → Option V
  | .none => some .non
  | .bool b => some (.bl b)
  | .int i _ => some (.int i)
  | .str x _ => some (.str x)
  | .bytes b _ => some (.byt b)
  | .float b _ => some (.flt b)
  | .ref a => some (.ref a)
  | .type n => some (.ty n)
  | _ => none
theorem RelV.abs {x : V} {u : Value} (r : RelV x u) : absV u = some x := by
  cases x with
  | non => cases r; rfl
  | bl _ => cases r; rfl
  | int _ => obtain ⟨t, rfl⟩ := r; rfl
  | str _ => obtain ⟨t, rfl⟩ := r; rfl
  | byt _ => obtain ⟨t, rfl⟩ := r; rfl
  | flt _ => obtain ⟨t, rfl⟩ := r; rfl
  | ref _ => cases r; rfl
  | ty _ => cases r; rfl
theorem RelV.inj {x y : V} {u : Value} (r : RelV x u) (q : RelV y u) : x = y := Option.some.inj (r.abs.symm.trans q.abs)
theorem Vals.inj : ∀ {xs ys : List V} {us : List Value}, Vals xs us → Vals ys us → xs = ys
  | _, _, _, .nil, .nil => rfl
  | _, _, _, .cons r t, .cons r' t' => by rw [r.inj r', Vals.inj t t']
section
variable {X : Cx} {pins : List (Addr × Obj)} {σ : St} {H : Hp} {s : Shared} {a : Addr} {xs ys : List V}
theorem SqL.of {K : PySem.W.Frag} (h : H a = some (.lst xs)) : SqL K H a xs := .inl (.inl h)
theorem SqT.of {K : PySem.W.Frag} (h : H a = some (.tup xs)) : SqT K H a xs := .inl (.inl h)
theorem Inv.list (I : Inv X pins σ H s) (h : SqL X.K H a xs) : ∃ its : List Value, Vals xs its ∧ PlainL s.heap a its.toArray ∧ xs.length ≤ sizeLine := by
  rcases h with h | ⟨o, its, n, hk, hc, hd, hs, hz, r⟩
  · obtain ⟨z, its, n, r, e⟩ := h.ok I.hok
    exact ⟨its, r, ⟨_, n, e, rfl, rfl, rfl⟩, z⟩
  · refine ⟨its.toList, r, ⟨o, n, I.kIn a o hk, hc, hd, by simpa using hs⟩, ?_⟩
    have e := r.length
    simp only [Array.length_toList] at e
    omega
theorem Inv.tuple (I : Inv X pins σ H s) (h : SqT X.K H a xs) : ∃ its : List Value, Vals xs its ∧ IsTup s.heap a its.toArray ∧ xs.length ≤ sizeLine := by
  rcases h with h | ⟨o, its, n, hk, hc, hs, hz, r⟩
  · obtain ⟨z, its, r, p⟩ := h.ok I.hok
    exact ⟨its, r, p, z⟩
  · refine ⟨its.toList, r, ⟨o, I.kIn a o hk, hc, n, by simpa using hs⟩, ?_⟩
    have e := r.length
    simp only [Array.length_toList] at e
    omega
theorem Inv.list_inj (I : Inv X pins σ H s) (h : SqL X.K H a xs) (h' : SqL X.K H a ys) : xs = ys := by
  obtain ⟨its, r, ⟨o, n, e, _, _, d⟩, _⟩ := I.list h
  obtain ⟨its', r', ⟨o', n', e', _, _, d'⟩, _⟩ := I.list h'
  rw [e] at e'; cases e'
  rw [d] at d'
  injection d' with d1 _
  have : its = its' := by simpa using congrArg Array.toList d1
  subst this
  exact r.inj r'
end
abbrev Cx.wish (X : Cx) (E : Value → Shared → Prop) : Cx := { X with xe := E }
abbrev Cx.nox (X : Cx) : Cx := X.wish fun _ _ => False
theorem Cx.Ok.wish {X : Cx} (ok : X.Ok) (E : Value → Shared → Prop) : (X.wish E).Ok :=
  ⟨ok.mod, ok.kind, ok.glob, ok.blt, ok.above, ok.inj, ok.has, ok.cab, ok.hd, ok.frames, ok.stk, ok.exf, ok.bs, ok.bsz, ok.noex, ok.exfs, ok.funs, ok.frf⟩
theorem Cx.Ok.unwish {X : Cx} {E : Value → Shared → Prop} (ok : (X.wish E).Ok) : X.Ok :=
  ⟨ok.mod, ok.kind, ok.glob, ok.blt, ok.above, ok.inj, ok.has, ok.cab, ok.hd, ok.frames, ok.stk, ok.exf, ok.bs, ok.bsz, ok.noex, ok.exfs, ok.funs, ok.frf⟩
section
variable {X : Cx} {pins : List (Addr × Obj)} {σ : St} {H : Hp} {s : Shared} {E : Value → Shared → Prop}
theorem Inv.wish (I : Inv X pins σ H s) (E : Value → Shared → Prop) : Inv (X.wish E) pins σ H s := ⟨I.ok.wish E, I.os, I.bare, I.base, I.loc, I.cell, I.free, I.freeC, I.pin, I.hok, I.len⟩
theorem Inv.unwish (I : Inv (X.wish E) pins σ H s) : Inv X pins σ H s := ⟨I.ok.unwish, I.os, I.bare, I.base, I.loc, I.cell, I.free, I.freeC, I.pin, I.hok, I.len⟩
theorem SP.unwish {D : Ends} {f : Flow} {s' : Shared} (h : SP (X.wish E) pins D f s') : SP X pins D f s' := by
  cases f with
  | next => obtain ⟨σ', H', I, q⟩ := h; exact ⟨σ', H', I.unwish, q⟩
  | brk => obtain ⟨σ', H', I, q⟩ := h; exact ⟨σ', H', I.unwish, q⟩
  | cont => obtain ⟨σ', H', I, q⟩ := h; exact ⟨σ', H', I.unwish, q⟩
  | ret u => obtain ⟨v, σ', H', I, r, q⟩ := h; exact ⟨v, σ', H', I.unwish, r, q⟩
theorem PE.nox {e : Expr} {t : TE} (h : PE X.nox e t) : PE X e t := fun pins s σ H Q I hw =>
  wpAny_mono (h pins s σ H Q (I.wish _) hw) (fun _ _ ⟨v, H', I', r, q⟩ => ⟨v, H', I'.unwish, r, q⟩) fun _ _ z => False.elim z
theorem PT.nox {e : Expr} {t : TT} (h : PT X.nox e t) : PT X e t := fun pins s σ H Q I hw =>
  wpAny_mono (h pins s σ H Q (I.wish _) hw) (fun _ _ ⟨H', I', q⟩ => ⟨H', I'.unwish, q⟩) fun _ _ z => False.elim z
theorem PSs.nox {st : List Stmt} {t : TS} (h : PSs X.nox st t) : PSs X st t := fun pins s σ H D I hw =>
  wpAny_mono (h pins s σ H D (I.wish _) hw) (fun _ _ q => q.unwish) fun _ _ z => False.elim z
end
section
variable {X : Cx} {st : Stmt} {rest : List Stmt} {t u : TS} {e : Expr} {te : TE} {pos : Pos}
def tNext : TS := fun D σ H => D.nx σ H
def tSeq (t u : TS) : TS := fun D σ H => t { D with nx := u D } σ H
theorem pss_nil : PSs X [] tNext := fun _ _ σ H _ I h => wpAny_execs_nil ⟨σ, H, I, h⟩
theorem pss_cons (h1 : PS X st t) (h2 : PSs X rest u) : PSs X (st :: rest) (tSeq t u) := by
  intro pins s σ H D I h
  refine wpAny_execs_cons (thn (h1 pins s σ H { D with nx := u D } I h) fun f s1 q => ?_)
  cases f with
  | next =>
    obtain ⟨σ', H', I', q⟩ := q
    exact h2 pins s1 σ' H' D I' q
  | ret v => exact q
  | brk => exact q
  | cont => exact q
theorem pss_one (h1 : PS X st t) : PSs X [st] t := by
  intro pins s σ H D I h
  refine wpAny_execs_cons (thn (h1 pins s σ H D I h) fun f s1 q => ?_)
  cases f with
  | next => exact wpAny_execs_nil q
  | ret v => exact q
  | brk => exact q
  | cont => exact q
theorem Inv.quiet {pins : List (Addr × Obj)} {σ : St} {H : Hp} {s : Shared} (I : Inv X pins σ H s) : interactive X.env = false := by simp [interactive, I.ok.kind]
def tDrop (te : TE) : TS := fun D σ H => te σ H fun _ H1 => D.nx σ H1
theorem ps_expr (he : PE X e te) (hs : swapsWith e none pos.line X.env = pure false := by rfl) : PS X (.Expr e pos) (tDrop te) := by
  intro pins s σ H D I h
  exact wpAny_Expr_any (thn (he pins s σ H _ I h) fun v s1 ⟨x, H1, I1, r1, q1⟩ => ⟨σ, H1, I1, q1⟩) I.quiet hs
def tRet (te : TE) : TS := fun D σ H => te σ H D.rt
theorem ps_ret (he : PE X e te) : PS X (.Return (some e) pos) (tRet te) := by
  intro pins s σ H D I h
  exact wpAny_Return_some (thn (he pins s σ H _ I h) fun v s1 ⟨x, H1, I1, r1, q1⟩ => ⟨x, σ, H1, I1, r1, q1⟩)
def tIfS (c : TT) (t u : TS) : TS := fun D σ H => c σ H fun b H1 => if b = true then t D σ H1 else u D σ H1
theorem ps_if {c : Expr} {a b : List Stmt} {tc : TT} (hc : PT X c tc) (ha : PSs X a t) (hb : PSs X b u) : PS X (.If c a b pos) (tIfS tc t u) := by
  intro pins s σ H D I h
  refine wpAny_If (thn (hc pins s σ H _ I h) fun d s1 ⟨H1, I1, q1⟩ => ?_)
  cases d with
  | true => exact ha pins s1 σ H1 D I1 q1
  | false => exact hb pins s1 σ H1 D I1 q1
end
abbrev TG := V → St → Hp → (St → Hp → Prop) → Prop
abbrev TGs := List V → St → Hp → (St → Hp → Prop) → Prop
def PG (X : Cx) (target : Expr) (t : TG) : Prop :=
  ∀ (pins : List (Addr × Obj)) (s : Shared) (σ : St) (H : Hp) (v : V) (u : Value) (Q : St → Hp → Prop), Inv X pins σ H s → RelV v u → t v σ H Q →
    wpAny (model X.prog X.w) X.A (assign target X.env u) (fun _ s' => ∃ σ' H', Inv X pins σ' H' s' ∧ Q σ' H') X.xe s
def PGs (X : Cx) (ts : List Expr) (t : TGs) : Prop :=
  ∀ (pins : List (Addr × Obj)) (s : Shared) (σ : St) (H : Hp) (vs : List V) (us : List Value) (Q : St → Hp → Prop), Inv X pins σ H s → Vals vs us → t vs σ H Q →
    wpAny (model X.prog X.w) X.A (assignInOrder ((assignEach ts X.env).map (·.2)) us) (fun _ s' => ∃ σ' H', Inv X pins σ' H' s' ∧ Q σ' H') X.xe s
abbrev TSet := V → V → V → Hp → (Hp → Prop) → Prop
def PSet (X : Cx) (t : TSet) : Prop :=
  ∀ (pins : List (Addr × Obj)) (s : Shared) (σ : St) (H : Hp) (o i v : V) (ov iv u : Value) (Q : Hp → Prop), Inv X pins σ H s → RelV o ov → RelV i iv → RelV v u → t o i v H Q →
    wpAny (model X.prog X.w) X.A (setItem ov iv u) (fun _ s' => ∃ H', Inv X pins σ H' s' ∧ Q H') X.xe s
section
variable {X : Cx} {pos : Pos}
def gName (i : Nat) : TG := fun v σ H Q => Q (σ.set i (some v)) H
theorem pg_name {i : Nat} {x : Str} (hN : X.N.Nodup) (hi : X.N[i]? = some x) (hx : Loc X.env.scope x) (hf : X.fn x = true ∨ X.env.scope.names.lookup x = some .local := by first | exact .inl rfl | exact .inr rfl | assumption) : PG X (.Name x pos) (gName i) := by
  intro pins s σ H v u Q I r h
  exact wpAny_assign_Name (store_ok I hN hi hx r (fun s' I' => ⟨_, H, I', h⟩) hf)
def gNil : TGs := fun vs σ H Q => vs = [] ∧ Q σ H
def gCons (t : TG) (u : TGs) : TGs := fun vs σ H Q => ∃ v r, vs = v :: r ∧ t v σ H fun σ' H' => u r σ' H' Q
theorem pgs_nil : PGs X [] gNil := by
  intro pins s σ H vs us Q I r h
  obtain ⟨e, h⟩ := h
  subst e
  cases r
  exact assignInOrder_nil ⟨σ, H, I, h⟩
theorem pgs_cons {e : Expr} {es : List Expr} {t : TG} {u : TGs} (h1 : PG X e t) (h2 : PGs X es u)
    (hs : (assignEach (e :: es) X.env).map (·.2) = assign e X.env :: (assignEach es X.env).map (·.2) := by rfl) : PGs X (e :: es) (gCons t u) := by
  intro pins s σ H vs us Q I r h
  obtain ⟨v, vr, e1, h⟩ := h
  subst e1
  cases r with
  | cons r rr =>
    rw [hs]
    refine assignInOrder_cons (thn (h1 pins s σ H _ _ _ I r h) fun _ s1 ⟨σ1, H1, I1, q1⟩ => ?_)
    exact h2 pins s1 σ1 H1 _ _ Q I1 rr q1
def gTup (K : PySem.W.Frag) (n : Nat) (t : TGs) : TG := fun v σ H Q => ∃ a xs, v = .ref a ∧ SqT K H a xs ∧ xs.length = n ∧ t xs σ H Q
theorem pg_tup {es : List Expr} {k : Nat} {t : TGs} {n : Nat} (hc : X.calm = true) (h : PGs X es t)
    (hn : (assignEach es X.env).length = n := by rfl) (hst : (assignEach es X.env).findIdx? (·.1) = none := by rfl) : PG X (.Tuple es k pos) (gTup X.K n t) := by
  intro pins s σ H v u Q I r hw
  obtain ⟨a, xs, e1, hq, hl, hw⟩ := hw
  subst e1
  cases r
  obtain ⟨its, rv, ht, hz⟩ := I.tuple hq
  refine assign_Tuple_tuple (I.ok.hd hc) ht (by simp [hn, ← hl, rv.length]) hst fun h' hx => ?_
  have I1 : Inv X pins σ H { s with heap := h' } := I.kept (t' := s.toks) fun b o e => hx b o (Nat.ne_of_lt (Heap.lt_size e)) e
  exact h pins _ σ H xs _ Q I1 (by simpa using rv) hw
def gSub (to ti : TE) (t : TSet) : TG := fun v σ H Q => to σ H fun o H1 => ti σ H1 fun i H2 => t o i v H2 fun H3 => Q σ H3
theorem pg_sub {o i : Expr} {to ti : TE} {t : TSet} (ho : PE X o to) (hi : PE X i ti) (hs : PSet X t)
    (ha : ∀ v, assign (.Subscript o i pos) X.env v = (do
      let ov ← holding [v] (eval o X.env)
      let iv ← holding [v, ov] (eval i X.env)
      standAt pos
      holding [v, ov, iv] (setItem ov iv v)
      release [v, ov, iv] []) := by intro _; rfl) : PG X (.Subscript o i pos) (gSub to ti t) := by
  intro pins s σ H v u Q I r h
  rw [ha]
  refine wpAny_bind (wpAny_holding (thn (ho pins s σ H _ I h) fun ov s1 ⟨x, H1, I1, r1, q1⟩ => ?_))
  refine wpAny_bind (wpAny_holding (thn (hi pins s1 σ H1 _ I1 q1) fun iv s2 ⟨y, H2, I2, r2, q2⟩ => ?_))
  refine wpAny_bind (wpAny_standAt (wpAny_bind (wpAny_holding (thn (hs pins s2 σ H2 x y v ov iv u _ I2 r1 r2 r q2) fun _ s3 ⟨H3, I3, q3⟩ => ?_))))
  exact wpAny_release ⟨σ, H3, I3, q3⟩
def tAsg (te : TE) (g : TG) : TS := fun D σ H => te σ H fun x H1 => g x σ H1 D.nx
theorem ps_asg {tg e : Expr} {te : TE} {g : TG} (he : PE X e te) (hg : PG X tg g) (hs : swapsWithSole [tg] e pos.line X.env = pure false := by rfl) (hw : swappedStores [tg] e X.env = pure none := by rfl)
    (h1 : (assignEach [tg] X.env).map (·.2) = [assign tg X.env] := by rfl) : PS X (.Assign [tg] e pos) (tAsg te g) := by
  intro pins s σ H D I h
  refine wpAny_Assign_stores (thn (he pins s σ H _ I h) fun v s1 ⟨x, H1, I1, r1, q1⟩ => ?_) hs hw
  rw [h1]
  exact thn (hg pins s1 σ H1 x v _ I1 r1 q1) fun _ s2 q => q
theorem ps_set {i : Nat} {x : Str} {e : Expr} {te : TE} {pos' : Pos} (hN : X.N.Nodup) (hi : X.N[i]? = some x) (hx : Loc X.env.scope x) (he : PE X e te) (hs : swapsWith e (some (.Name x pos')) pos.line X.env = pure false := by rfl) (hf : X.fn x = true ∨ X.env.scope.names.lookup x = some .local := by first | exact .inl rfl | exact .inr rfl | assumption) :
    PS X (.Assign [.Name x pos'] e pos) (tAsg te (gName i)) := by
  intro pins s σ H D I h
  refine wpAny_Assign_Name (thn (he pins s σ H _ I h) fun v s1 ⟨y, H1, I1, r1, q1⟩ => ?_) hs
  exact store_ok I1 hN hi hx r1 (fun s2 I2 => ⟨_, H1, I2, q1⟩) hf
end
section
variable {X : Cx} {pos : Pos}
def tWhile (c : TT) (tb : TS) : TS := fun D σ H => ∃ W : Nat → St → Hp → Prop, (∃ m, W m σ H) ∧ ∀ m σ H, W m σ H →
  c σ H fun b H1 => if b = true then ∃ N : St → Hp → Prop, (∀ σ' H', N σ' H' → ∃ m', m' < m ∧ W m' σ' H') ∧ tb { D with nx := N, ct := N, bk := D.nx } σ H1 else D.nx σ H1
theorem ps_while {c : Expr} {body : List Stmt} {tc : TT} {tb : TS} (hp : PassesOwn (model X.prog X.w) X.A X.env X.xe) (hc : PT X c tc) (hb : PSs X body tb) : PS X (.While c body [] pos) (tWhile tc tb) := by
  intro pins s σ H D I h
  obtain ⟨W, ⟨m0, w0⟩, turn⟩ := h
  refine wpAny_While (codeAny_whileLoop (fun n s' => ∃ σ' H', Inv X pins σ' H' s' ∧ W n σ' H') ?_ m0 ⟨σ, H, I, w0⟩)
  rintro n s1 ⟨σ1, H1, I1, w1⟩
  refine wpAny_passesOwn hp (thn (hc pins s1 σ1 H1 _ I1 (turn n σ1 H1 w1)) fun b s2 ⟨H2, I2, q2⟩ => ?_)
  cases b with
  | true =>
    obtain ⟨N, hN, q2⟩ := q2
    rw [if_pos rfl]
    refine wpAny_passesOwn hp (thn (hb pins s2 σ1 H2 _ I2 q2) fun f s3 q3 => ?_)
    cases f with
    | next =>
      obtain ⟨σ3, H3, I3, n3⟩ := q3
      obtain ⟨m', hm, w3⟩ := hN σ3 H3 n3
      exact ⟨m', hm, σ3, H3, I3, w3⟩
    | cont =>
      obtain ⟨σ3, H3, I3, n3⟩ := q3
      obtain ⟨m', hm, w3⟩ := hN σ3 H3 n3
      exact ⟨m', hm, σ3, H3, I3, w3⟩
    | brk => exact q3
    | ret v => exact q3
  | false =>
    rw [if_neg Bool.false_ne_true]
    exact wpAny_execs_nil ⟨σ1, H2, I2, q2⟩
end
structure It where
  go : Nat → Hp → Prop
  yld : Nat → Hp → V → Hp → Prop
  stop : Nat → Hp → Prop
def FpOk (X : Cx) (pins : List (Addr × Obj)) (H : Hp) (b : Addr) : Prop :=
  H b = none ∧ b ≠ X.env.locals ∧ b ∉ X.fs ∧ (b ∈ X.ex ∨ X.s₀.heap.objs.size ≤ b) ∧ (∀ x c, X.env.cells.lookup x = some c → c ≠ b) ∧ ∀ p ∈ X.pn ++ pins, p.1 ≠ b
theorem Inv.fpOk {X : Cx} {pins : List (Addr × Obj)} {σ : St} {H H' : Hp} {s : Shared} {b : Addr} (I : Inv X pins σ H s) (hb : s.heap.objs.size ≤ b) (hn : H' b = none) : FpOk X pins H' b := by
  refine ⟨hn, Nat.ne_of_gt (Nat.lt_of_lt_of_le I.lt hb), I.nofs hb, .inr (Nat.le_trans I.sz hb), fun x c e z => ?_, fun p hp z => ?_⟩
  · obtain ⟨v, q⟩ := I.cell x c e
    exact absurd (Nat.lt_of_lt_of_le q.lt (by rw [z]; exact hb)) (Nat.lt_irrefl _)
  · exact absurd (Nat.lt_of_lt_of_le (Heap.lt_size (I.pin p hp).1) (by rw [z]; exact hb)) (Nat.lt_irrefl _)
structure Turn (P : Program) (w : World) (K : PySem.W.Frag) (tg : Expr) (J : It) (fp : List Addr) (it : Addr) (tn : Nat → Heap → Prop) : Prop where
  mem : it ∈ fp
  obj : ∀ i h, tn i h → ∀ b ∈ fp, ∃ o, h.get? b = some o ∧ ∀ v, o.data ≠ .cell v
  keep : ∀ i h h', tn i h → (∀ b ∈ fp, ∀ o, h.get? b = some o → h'.get? b = some o) → tn i h'
  item : ∀ (X : Cx), X.prog = P → X.w = w → X.K = K → X.calm = true → ∀ (i : Nat) (pins : List (Addr × Obj)) (s : Shared) (σ : St) (H : Hp) (E : Value → Shared → Prop), Inv X pins σ H s → (∀ b ∈ fp, FpOk X pins H b) → tn i s.heap → J.go i H →
    wpAny (model P w) X.A (pyNext (.ref it)) (fun r s1 => ∃ u, r = some u ∧
      wpAny (model P w) X.A (letOwnedTupleGo tg (.ref it) u) (fun _ s2 => ∃ x H', Inv X pins σ H' s2 ∧ RelV x u ∧ J.yld i H x H' ∧ tn (i + 1) s2.heap ∧ ∀ b ∈ fp, H' b = none) E s1) E s
  done : ∀ (X : Cx), X.prog = P → X.w = w → X.K = K → X.calm = true → ∀ (i : Nat) (pins : List (Addr × Obj)) (s : Shared) (σ : St) (H : Hp) (E : Value → Shared → Prop), Inv X pins σ H s → (∀ b ∈ fp, FpOk X pins H b) → tn i s.heap → J.stop i H →
    wpAny (model P w) X.A (pyNext (.ref it)) (fun r s1 => r = none ∧ Inv X pins σ H s1) E s
  self : ∀ (A : Around) (i : Nat) (s : Shared) (Q : Value → Shared → Prop) (E : Value → Shared → Prop), tn i s.heap → Q (.ref it) s → wpAny (model P w) A (pyIter (.ref it)) Q E s
abbrev TI := St → Hp → (It → Hp → Prop) → Prop
def PIE (X : Cx) (pins : List (Addr × Obj)) (σ : St) (tg : Expr) (R : It → Hp → Prop) (itv : Value) (s2 : Shared) : Prop :=
  ∃ (it : Addr) (fp : List Addr) (tn : Nat → Heap → Prop) (J : It) (H' : Hp), itv = .ref it ∧ Inv X pins σ H' s2 ∧ Turn X.prog X.w X.K tg J fp it tn ∧ tn 0 s2.heap ∧ (∀ b ∈ fp, FpOk X pins H' b) ∧ R J H'
def PI (X : Cx) (tg iter : Expr) (wi : TI) : Prop :=
  ∀ (pins : List (Addr × Obj)) (s : Shared) (σ : St) (H : Hp) (R : It → Hp → Prop), Inv X pins σ H s → wi σ H R →
    wpAny (model X.prog X.w) X.A (eval iter X.env) (fun v s1 => wpAny (model X.prog X.w) X.A (pyIter v) (PIE X pins σ tg R) X.xe s1) X.xe s
theorem go_of {M : Model} {A : Around} {E : Value → Shared → Prop} {s : Shared} {tg : Expr} {it : Addr} {u : Value} {o : Obj} {n : String} {vs : Array Value} {Q : Unit → Shared → Prop} (ho : s.heap.get? it = some o) (hc : o.cls = .type n) (hd : o.data = .fields vs)
    (hn : ["enumerate", "zip", "dict_itemiterator", "dict_reverseitemiterator", "odict_iterator", "itertools.zip_longest", "itertools.pairwise"].contains n = false) (hQ : Q () s) : wpAny M A (letOwnedTupleGo tg (.ref it) u) Q E s := by
  unfold letOwnedTupleGo
  cases tg <;> first
    | exact wpAny_pure hQ
    | (cases u <;> first
        | exact wpAny_pure hQ
        | (refine wpAny_bind (wpAny_load ho ?_)
           rw [hc, hd]
           show wpAny M A (if (["enumerate", "zip", "dict_itemiterator", "dict_reverseitemiterator", "odict_iterator", "itertools.zip_longest", "itertools.pairwise"].contains n && vs[0]? == some (rawInt _)) = true then _ else _) Q E s
           rw [if_neg (by intro h; rw [hn, Bool.false_and] at h; cases h)]
           exact wpAny_pure hQ))
def Itl (K : PySem.W.Frag) (a : Addr) : It :=
  ⟨fun i H => ∃ xs x, SqL K H a xs ∧ xs[i]? = some x, fun i H x H' => H' = H ∧ ∀ xs, SqL K H a xs → xs[i]? = some x, fun i H => ∃ xs, SqL K H a xs ∧ xs.length ≤ i⟩
def Itr (lo : Int) (n : Nat) : It := ⟨fun i _ => i < n, fun i H x H' => H' = H ∧ x = .int (lo + i), fun i _ => n ≤ i⟩
theorem turn_list {P : Program} {w : World} {K : PySem.W.Frag} {tg : Expr} (a it : Addr) : Turn P w K tg (Itl K a) [it] it (fun i h => h.IsListIter it a i) where
  mem := by simp
  obj := fun i h st b hb => by
    have e : b = it := by simpa using hb
    subst e
    obtain ⟨o, e, c, d⟩ := st
    exact ⟨o, e, fun v z => by rw [d] at z; cases z⟩
  keep := fun i h h' st k => st.at fun o e => k it (by simp) o e
  item := by
    intro X hP hw hK hc i pins s σ H E I hf st hg
    subst hP hw hK
    obtain ⟨xs, x, hq, hx⟩ := hg
    obtain ⟨its, rv, p, hz⟩ := I.list hq
    obtain ⟨u, hu, ru⟩ := rv.get hx
    obtain ⟨f0, f1, f2, f3, f4, f5⟩ := hf it (by simp)
    refine wpAny_pyNext_list_item st p.isList (x := u) (by simpa using hu) fun h' st' sb => ?_
    have I1 : Inv X pins σ H { s with heap := h' } := I.turned (t' := s.toks) (fun b o hb e => (sb.2 b hb).trans e) f0 f1 f3 f4 f5
    obtain ⟨o, e, c, d⟩ := id st'
    exact ⟨u, rfl, go_of (s := { s with heap := h' }) e c d (by decide) ⟨x, H, I1, ru, ⟨rfl, fun ys hy => by rw [I.list_inj hy hq]; exact hx⟩, st', fun b hb => (hf b hb).1⟩⟩
  done := by
    intro X hP hw hK hc i pins s σ H E I hf st hg
    subst hP hw hK
    obtain ⟨xs, hq, hx⟩ := hg
    obtain ⟨its, rv, p, hz⟩ := I.list hq
    obtain ⟨f0, f1, f2, f3, f4, f5⟩ := hf it (by simp)
    have hl := rv.length
    exact wpAny_pyNext_list_end (I.ok.hd hc) st p.isList (by simp; omega) fun h' eb => ⟨rfl, I.turned (t' := s.toks) (fun b o hb e => eb b o hb e) f0 f1 f3 f4 f5⟩
  self := fun _ _ _ _ _ st h => wpAny_pyIter_listiter st h
theorem turn_range {P : Program} {w : World} {K : PySem.W.Frag} {tg : Expr} (it : Addr) (lo : Int) (n : Nat) : Turn P w K tg (Itr lo n) [it] it (fun i h => IsRangeIter h it (lo + (i : Nat) * 1) ((n : Int) - (i : Nat)) 1) where
  mem := by simp
  obj := fun i h st b hb => by
    have e : b = it := by simpa using hb
    subst e
    exact ⟨_, st, fun v z => by
      have z' : Data.fields _ = Data.cell v := z
      cases z'⟩
  keep := fun i h h' st k => k it (by simp) _ st
  item := by
    intro X hP hw hK hc i pins s σ H E I hf st hg
    subst hP hw hK
    obtain ⟨f0, f1, f2, f3, f4, f5⟩ := hf it (by simp)
    have W := Walks.range (prog := X.prog) (w := X.w) (I.ok.hd hc) it lo 1 n
    refine W.item i s _ _ hg st fun v h' tk hv st' kk => ?_
    obtain ⟨t, rfl⟩ := hv
    have I1 : Inv X pins σ H { s with heap := h', toks := tk } := I.turned (fun b o hb e => kk b o (by simpa using hb) e) f0 f1 f3 f4 f5
    refine ⟨_, rfl, go_of (s := { s with heap := h', toks := tk }) (n := "range_iterator") st' rfl rfl (by decide) ⟨.int (lo + i), H, I1, ⟨t, ?_⟩, ⟨rfl, rfl⟩, st', fun b hb => (hf b hb).1⟩⟩
    rw [Int.mul_one]
  done := by
    intro X hP hw hK hc i pins s σ H E I hf st hg
    subst hP hw hK
    obtain ⟨f0, f1, f2, f3, f4, f5⟩ := hf it (by simp)
    exact wpAny_pyNext_range_end (I.ok.hd hc) st (by have : n ≤ i := hg; omega) fun h' eb => ⟨rfl, I.turned (t' := s.toks) (fun b o hb e => eb b o hb e) f0 f1 f3 f4 f5⟩
  self := fun _ _ _ _ _ st h => wpAny_pyIter_rangeiter st h
end L2
namespace L2
open PySem PySem.Spec PyProof.Rows
section
variable {X : Cx} {tg : Expr}
def iList (K : PySem.W.Frag) (tl : TE) : TI := fun σ H R => tl σ H fun x H1 => ∃ a, x = .ref a ∧ (∃ xs, SqL K H1 a xs) ∧ R (Itl K a) H1
theorem pi_list {l : Expr} {tl : TE} (hl : PE X l tl) : PI X tg l (iList X.K tl) := by
  intro pins s σ H R I h
  refine thn (hl pins s σ H _ I h) fun v s1 ⟨x, H1, I1, r1, q1⟩ => ?_
  obtain ⟨a, e, ⟨xs, hq⟩, q⟩ := q1
  subst e
  cases r1
  obtain ⟨its, rv, p, hz⟩ := I1.list hq
  refine wpAny_pyIter_list p.isList ?_
  refine ⟨s1.heap.objs.size, [s1.heap.objs.size], _, _, H1, rfl, I1.kept (t' := s1.toks) fun b o e => Heap.get?_push_of_some _ e, turn_list a _, ⟨_, Heap.get?_push_size _ rfl, rfl, rfl⟩, fun b hb => ?_, q⟩
  have e : b = s1.heap.objs.size := by simpa using hb
  subst e
  exact I1.fpOk (Nat.le_refl _) (I1.hok.fresh (Nat.le_refl _))
theorem range_it {pins : List (Addr × Obj)} {σ : St} {H : Hp} {s : Shared} {R : It → Hp → Prop} {E : Value → Shared → Prop} {lo hi : Int} {t u v : Tok} {tk : Nat} (I : Inv X pins σ H s) (h1 : -(2 ^ 62) ≤ lo) (h2 : lo < 2 ^ 62) (h3 : -(2 ^ 62) ≤ hi) (h4 : hi < 2 ^ 62)
    (q : R (Itr lo (hi - lo).toNat) H) : wpAny (model X.prog X.w) X.A (pyIter (.ref s.heap.objs.size)) (PIE X pins σ tg R) E { s with heap := s.heap.push { cls := .type "range", data := .fields #[.int lo t, .int hi u, .int 1 v] }, toks := tk } := by
  refine wpAny_pyIter_range (IsRange.new ..) (small_one h1 h2 h3 h4) ?_
  have I1 : Inv X pins σ H { s with heap := s.heap.push { cls := .type "range", data := .fields #[.int lo t, .int hi u, .int 1 v] }, toks := tk } := I.kept fun b o e => Heap.get?_push_of_some _ e
  refine ⟨(s.heap.push { cls := .type "range", data := .fields #[.int lo t, .int hi u, .int 1 v] }).objs.size, [(s.heap.push { cls := .type "range", data := .fields #[.int lo t, .int hi u, .int 1 v] }).objs.size], _, _, H, rfl,
    I1.kept (t' := tk) fun b o e => Heap.get?_push_of_some _ e, turn_range _ lo (hi - lo).toNat, ?_, fun b hb => ?_, q⟩
  · have e1 : lo + ((0 : Nat) : Int) * 1 = lo := by simp
    have e2 : (((hi - lo).toNat : Nat) : Int) - ((0 : Nat) : Int) = Builtin.Range.rangeSize lo hi 1 := by rw [rangeSize_one]; split <;> omega
    show IsRangeIter _ _ (lo + ((0 : Nat) : Int) * 1) ((((hi - lo).toNat : Nat) : Int) - ((0 : Nat) : Int)) 1
    rw [e1, e2]
    exact Heap.get?_push_size _ rfl
  · have e : b = (s.heap.push { cls := .type "range", data := .fields #[.int lo t, .int hi u, .int 1 v] }).objs.size := by simpa using hb
    subst e
    exact I1.fpOk (Nat.le_refl _) (I1.hok.fresh (Nat.le_refl _))
def iRng1 (ta : TA) : TI := fun σ H R => ta σ H fun vs H1 => ∃ j : Int, vs = [.int j] ∧ -(2 ^ 62) ≤ j ∧ j < 2 ^ 62 ∧ R (Itr 0 j.toNat) H1
def iRng2 (ta : TA) : TI := fun σ H R => ta σ H fun vs H1 => ∃ i j : Int, vs = [.int i, .int j] ∧ (-(2 ^ 62) ≤ i ∧ i < 2 ^ 62 ∧ -(2 ^ 62) ≤ j ∧ j < 2 ^ 62) ∧ R (Itr i (j - i).toNat) H1
theorem pi_range1 {a : Expr} {ta : TA} {p pos : Pos} (hg : Gl X "range") (hm : X.mg "range" = none) (ha : PA X [a] ta) (hs : starEach [a] X.env = [(false, eval a X.env)] := by rfl) : PI X tg (.Call (.Name "range" p) [a] [] pos) (iRng1 ta) := by
  intro pins s σ H R I h
  refine Call_ (ld_blt I hg hm boot_range (PyProof.Rows.callWith_type1 (thn (ha pos pins s σ H _ I h) fun us s1 ⟨vs, H1, I1, r1, q1⟩ => ?_) hs rfl))
  obtain ⟨j, e, q1, q2, q⟩ := q1
  subst e
  cases r1 with
  | cons r rr =>
    cases rr
    obtain ⟨t, rfl⟩ := r
    exact call_range_1 (range_it I1 (by omega) (by omega) q1 q2 (by simpa using q))
theorem pi_range2 {a b : Expr} {ta : TA} {p pos : Pos} (hg : Gl X "range") (hm : X.mg "range" = none) (ha : PA X [a, b] ta) (hs : starEach [a, b] X.env = [(false, eval a X.env), (false, eval b X.env)] := by rfl) (hs2 : starEach [b] X.env = [(false, eval b X.env)] := by rfl) :
    PI X tg (.Call (.Name "range" p) [a, b] [] pos) (iRng2 ta) := by
  intro pins s σ H R I h
  refine Call_ (ld_blt I hg hm boot_range (PyProof.Rows.callWith_type1 (thn (ha pos pins s σ H _ I h) fun us s1 ⟨vs, H1, I1, r1, q1⟩ => ?_) (by rw [hs, hs2]) (by rw [hs2]; rfl)))
  obtain ⟨i, j, e, ⟨q1, q2, q3, q4⟩, q⟩ := q1
  subst e
  cases r1 with
  | cons r rr =>
    cases rr with
    | cons r' rr =>
      cases rr
      obtain ⟨t, rfl⟩ := r
      obtain ⟨t', rfl⟩ := r'
      exact call_range_2 (range_it I1 q1 q2 q3 q4 q)
def tFor (wi : TI) (g : TG) (tb : TS) : TS := fun D σ H => wi σ H fun J H1 => ∃ W : Nat → Nat → St → Hp → Prop, (∃ m, W 0 m σ H1) ∧ ∀ i m σ H, W i m σ H →
  (J.stop i H ∧ D.nx σ H) ∨ (J.go i H ∧ ∃ N : St → Hp → Prop, (∀ σ' H', N σ' H' → ∃ m', m' < m ∧ W (i + 1) m' σ' H') ∧ ∀ x H', J.yld i H x H' → g x σ H' fun σ2 H2 => tb { D with nx := N, ct := N, bk := D.nx } σ2 H2)
def pinsAt (fp : List Addr) (h : Heap) : List (Addr × Obj) := fp.filterMap fun b => (h.get? b).map fun o => (b, o)
theorem mem_pinsAt {fp : List Addr} {h : Heap} {b : Addr} {o : Obj} (hb : b ∈ fp) (e : h.get? b = some o) : (b, o) ∈ pinsAt fp h := List.mem_filterMap.mpr ⟨b, hb, by rw [e]; rfl⟩
theorem of_pinsAt {fp : List Addr} {h : Heap} {p : Addr × Obj} (hp : p ∈ pinsAt fp h) : p.1 ∈ fp ∧ h.get? p.1 = some p.2 := by
  obtain ⟨b, hb, e⟩ := List.mem_filterMap.mp hp
  cases q : h.get? b with
  | none => rw [q] at e; cases e
  | some o =>
    rw [q] at e
    have e' : (b, o) = p := Option.some.inj e
    subst e'
    exact ⟨hb, q⟩
theorem Inv.pinned {pins : List (Addr × Obj)} {σ : St} {H : Hp} {s : Shared} {fp : List Addr} (I : Inv X pins σ H s) (hf : ∀ b ∈ fp, FpOk X pins H b) (ho : ∀ b ∈ fp, ∃ o, s.heap.get? b = some o ∧ ∀ v, o.data ≠ .cell v) : Inv X (pins ++ pinsAt fp s.heap) σ H s :=
  I.pins_of fun p hp => (List.mem_append.mp hp).elim (fun z => I.pin p (List.mem_append_right _ z)) fun z => by
    obtain ⟨hb, e⟩ := of_pinsAt z
    obtain ⟨f0, f1, f2, _⟩ := hf p.1 hb
    obtain ⟨o, e', d⟩ := ho p.1 hb
    rw [e] at e'; cases e'
    exact ⟨e, f0, f1, f2, d⟩
theorem Inv.unpinned {pins pl : List (Addr × Obj)} {σ : St} {H : Hp} {s : Shared} (I : Inv X (pins ++ pl) σ H s) : Inv X pins σ H s := I.pins_of fun p hp => I.pin p (List.mem_append_right _ (List.mem_append_left _ hp))
theorem ps_for {iter : Expr} {body : List Stmt} {wi : TI} {g : TG} {tb : TS} {pos : Pos} (hp : PassesOwn (model X.prog X.w) X.A X.env X.xe) (hc : X.calm = true) (hi : PI X tg iter wi) (hg : PG X tg g) (hb : PSs X body tb)
    (hs : ∀ x, foldedSetIterable iter X.env x = pure x := by intro _; rfl) : PS X (.For tg iter body [] pos) (tFor wi g tb) := by
  intro pins s σ H D I h
  refine wpAny_For (thn (hi pins s σ H _ I h) fun v s1 h1 => thn h1 fun itv s2 h2 => ?_) hs
  obtain ⟨it, fp, tn, J, H2, e, I2, T, st2, f2, W, ⟨m0, w0⟩, turn⟩ := h2
  subst e
  have stat : ∀ {H' : Hp}, (∀ b ∈ fp, H' b = none) → ∀ b ∈ fp, FpOk X pins H' b := fun hn b hb => ⟨hn b hb, (f2 b hb).2⟩
  refine codeAny_forLoop_any (fun n s' => ∃ i σ' H', Inv X pins σ' H' s' ∧ tn i s'.heap ∧ (∀ b ∈ fp, H' b = none) ∧ W i n σ' H') ?_ m0 ⟨0, σ, H2, I2, st2, fun b hb => (f2 b hb).1, w0⟩
  rintro n s3 ⟨i, σ3, H3, I3, st3, fr3, w3⟩
  rcases turn i n σ3 H3 w3 with ⟨stop, qn⟩ | ⟨go, N, hN, step⟩
  · refine wpAny_passesOwn hp (thn (T.done X rfl rfl rfl hc i pins s3 σ3 H3 X.xe I3 (stat fr3) st3 stop) fun r s4 ⟨hr, I4⟩ => ?_)
    subst hr
    exact wpAny_execs_nil ⟨σ3, H3, I4, qn⟩
  · refine wpAny_passesOwn hp (thn (T.item X rfl rfl rfl hc i pins s3 σ3 H3 X.xe I3 (stat fr3) st3 go) fun r s4 ⟨u, hr, h4⟩ => ?_)
    subst hr
    refine wpAny_passesOwn hp (thn h4 fun _ s5 ⟨x, H5, I5, r5, y5, st5, fr5⟩ => ?_)
    have I5' := I5.pinned (stat fr5) (T.obj _ _ st5)
    refine wpAny_passesOwn hp (thn (hg _ s5 σ3 H5 x u _ I5' r5 (step x H5 y5)) fun _ s6 ⟨σ6, H6, I6, q6⟩ => ?_)
    refine wpAny_passesOwn hp (thn (hb _ s6 σ6 H6 _ I6 q6) fun f s7 q7 => ?_)
    have again : ∀ {σ7 : St} {H7 : Hp}, Inv X (pins ++ pinsAt fp s5.heap) σ7 H7 s7 → N σ7 H7 → ∃ m, m < n ∧ ∃ i σ' H', Inv X pins σ' H' s7 ∧ tn i s7.heap ∧ (∀ b ∈ fp, H' b = none) ∧ W i m σ' H' := fun {σ7 H7} I7 n7 => by
      obtain ⟨m', hm, w7⟩ := hN σ7 H7 n7
      refine ⟨m', hm, i + 1, σ7, H7, I7.unpinned, T.keep _ _ _ st5 fun b hb o e => (I7.pin (b, o) (List.mem_append_right _ (List.mem_append_right _ (mem_pinsAt hb e)))).1, fun b hb => ?_, w7⟩
      obtain ⟨o, e, d⟩ := T.obj _ _ st5 b hb
      exact (I7.pin (b, o) (List.mem_append_right _ (List.mem_append_right _ (mem_pinsAt hb e)))).2.1
    cases f with
    | next => obtain ⟨σ7, H7, I7, n7⟩ := q7; exact again I7 n7
    | cont => obtain ⟨σ7, H7, I7, n7⟩ := q7; exact again I7 n7
    | brk => obtain ⟨σ7, H7, I7, q7⟩ := q7; exact ⟨σ7, H7, I7.unpinned, q7⟩
    | ret v => obtain ⟨x7, σ7, H7, I7, r7, q7⟩ := q7; exact ⟨x7, σ7, H7, I7.unpinned, r7, q7⟩
end
theorem for_list {K : PySem.W.Frag} {a : Addr} {xs : List V} {g : TG} {tb : TS} {D : Ends} {σ : St} {H : Hp} (Pv : Nat → St → Hp → Prop) (h0 : Pv 0 σ H) (hl : ∀ i σ H, i ≤ xs.length → Pv i σ H → SqL K H a xs)
    (hs : ∀ i x σ H, xs[i]? = some x → Pv i σ H → g x σ H fun σ2 H2 => tb { D with nx := Pv (i + 1), ct := Pv (i + 1), bk := D.nx } σ2 H2) (hd : ∀ σ H, Pv xs.length σ H → D.nx σ H) :
    ∃ W : Nat → Nat → St → Hp → Prop, (∃ m, W 0 m σ H) ∧ ∀ i m σ H, W i m σ H →
      ((Itl K a).stop i H ∧ D.nx σ H) ∨ ((Itl K a).go i H ∧ ∃ N : St → Hp → Prop, (∀ σ' H', N σ' H' → ∃ m', m' < m ∧ W (i + 1) m' σ' H') ∧ ∀ x H', (Itl K a).yld i H x H' → g x σ H' fun σ2 H2 => tb { D with nx := N, ct := N, bk := D.nx } σ2 H2) := by
  refine ⟨fun i m σ H => m = xs.length - i ∧ i ≤ xs.length ∧ Pv i σ H, ⟨xs.length, by simp, Nat.zero_le _, h0⟩, ?_⟩
  rintro i m σ H ⟨rfl, hi, p⟩
  have q := hl i σ H hi p
  by_cases hlt : i < xs.length
  · refine .inr ⟨⟨xs, xs[i], q, by simp [hlt]⟩, Pv (i + 1), fun σ' H' p' => ⟨xs.length - (i + 1), by omega, rfl, hlt, p'⟩, fun x H' y => ?_⟩
    obtain ⟨e, y⟩ := y
    subst e
    exact hs i x σ _ (y xs q) p
  · have e : i = xs.length := by omega
    subst e
    exact .inl ⟨⟨xs, q, Nat.le_refl _⟩, hd σ H p⟩
theorem for_range {lo : Int} {n : Nat} {g : TG} {tb : TS} {D : Ends} {σ : St} {H : Hp} (Pv : Nat → St → Hp → Prop) (h0 : Pv 0 σ H)
    (hs : ∀ i σ H, i < n → Pv i σ H → g (.int (lo + i)) σ H fun σ2 H2 => tb { D with nx := Pv (i + 1), ct := Pv (i + 1), bk := D.nx } σ2 H2) (hd : ∀ σ H, Pv n σ H → D.nx σ H) :
    ∃ W : Nat → Nat → St → Hp → Prop, (∃ m, W 0 m σ H) ∧ ∀ i m σ H, W i m σ H →
      ((Itr lo n).stop i H ∧ D.nx σ H) ∨ ((Itr lo n).go i H ∧ ∃ N : St → Hp → Prop, (∀ σ' H', N σ' H' → ∃ m', m' < m ∧ W (i + 1) m' σ' H') ∧ ∀ x H', (Itr lo n).yld i H x H' → g x σ H' fun σ2 H2 => tb { D with nx := N, ct := N, bk := D.nx } σ2 H2) := by
  refine ⟨fun i m σ H => m = n - i ∧ i ≤ n ∧ Pv i σ H, ⟨n, by simp, Nat.zero_le _, h0⟩, ?_⟩
  rintro i m σ H ⟨rfl, hi, p⟩
  by_cases hlt : i < n
  · refine .inr ⟨hlt, Pv (i + 1), fun σ' H' p' => ⟨n - (i + 1), by omega, rfl, hlt, p'⟩, fun x H' y => ?_⟩
    obtain ⟨e, y⟩ := y
    subst e y
    exact hs i σ _ hlt p
  · have e : i = n := by omega
    subst e
    exact .inl ⟨Nat.le_refl _, hd σ H p⟩
end L2
namespace L2
open PySem PySem.Spec PyProof.Rows
abbrev R2 := V → V → Hp → VK → Prop
def OpR (X : Cx) (f : Value → Value → Sem Value) (r : R2) : Prop :=
  ∀ (pins : List (Addr × Obj)) (s : Shared) (σ : St) (H : Hp) (x y : V) (v u : Value) (Q : VK), Inv X pins σ H s → RelV x v → RelV y u → r x y H Q →
    wpAny (model X.prog X.w) X.A (f v u) (EP X pins σ Q) X.xe s
def UnR (X : Cx) (f : Value → Sem Value) (r : V → Hp → VK → Prop) : Prop :=
  ∀ (pins : List (Addr × Obj)) (s : Shared) (σ : St) (H : Hp) (x : V) (v : Value) (Q : VK), Inv X pins σ H s → RelV x v → r x H Q →
    wpAny (model X.prog X.w) X.A (f v) (EP X pins σ Q) X.xe s
def CallR (X : Cx) (f : Value) (r : List V → Hp → VK → Prop) : Prop :=
  ∀ (pins : List (Addr × Obj)) (s : Shared) (σ : St) (H : Hp) (xs : List V) (us : List Value) (Q : VK), Inv X pins σ H s → Vals xs us → r xs H Q →
    wpAny (model X.prog X.w) X.A (call f us) (EP X pins σ Q) X.xe s
def tOp (r : R2) (ta tb : TE) : TE := fun σ H Q => ta σ H fun x H1 => tb σ H1 fun y H2 => r x y H2 Q
def tUn (r : V → Hp → VK → Prop) (ta : TE) : TE := fun σ H Q => ta σ H fun x H1 => r x H1 Q
def rI (C : Int → Int → Prop) (g : Int → Int → V) : R2 := fun x y H Q => ∃ i j, x = .int i ∧ y = .int j ∧ C i j ∧ Q (g i j) H
def rI0 (g : Int → Int → V) : R2 := fun x y H Q => ∃ i j, x = .int i ∧ y = .int j ∧ Q (g i j) H
def rU (g : Int → V) : V → Hp → VK → Prop := fun x H Q => ∃ i, x = .int i ∧ Q (g i) H
section
variable {X : Cx} {a b c : Expr} {ta tb tc : TE} {pos : Pos}
theorem binT (ha : PE X a ta) (hb : PE X b tb) {pins : List (Addr × Obj)} {s : Shared} {σ : St} {H : Hp} {R : V → V → Hp → Prop} (I : Inv X pins σ H s)
    (h : ta σ H fun x H1 => tb σ H1 fun y H2 => R x y H2) {Q : Value → Shared → Prop} {f : Value → Value → Sem Value}
    (hf : ∀ v u s2 x y H2, Inv X pins σ H2 s2 → RelV x v → RelV y u → R x y H2 → wpAny (model X.prog X.w) X.A (f v u) Q X.xe s2) :
    wpAny (model X.prog X.w) X.A (eval a X.env) (fun v s₁ => wpAny (model X.prog X.w) X.A (eval b X.env) (fun u s₂ => wpAny (model X.prog X.w) X.A (f v u) Q X.xe s₂) X.xe s₁) X.xe s := by
  refine thn (ha pins s σ H _ I h) fun v s1 ⟨x, H1, I1, r1, q1⟩ => ?_
  refine thn (hb pins s1 σ H1 _ I1 q1) fun u s2 ⟨y, H2, I2, r2, q2⟩ => ?_
  exact hf v u s2 x y H2 I2 r1 r2 q2
theorem pe_op {op : Operator} {r : R2} (ho : OpR X (binaryOp op) r) (ha : PE X a ta) (hb : PE X b tb) : PE X (.BinOp a op b pos) (tOp r ta tb) := by
  intro pins s σ H Q I h
  exact wpAny_BinOp (binT ha hb I h fun v u s2 x y H2 I2 rx ry q => ho pins s2 σ H2 x y v u Q I2 rx ry q)
theorem pe_un {op : UnaryOp} {r : V → Hp → VK → Prop} (ho : UnR X (unaryOp op) r) (ha : PE X a ta) : PE X (.UnaryOp op a pos) (tUn r ta) := by
  intro pins s σ H Q I h
  exact UnaryOp_ (thn (ha pins s σ H _ I h) fun v s1 ⟨x, H1, I1, r1, q1⟩ => ho pins s1 σ H1 x v Q I1 r1 q1)
theorem opI {f : Value → Value → Sem Value} {C : Int → Int → Prop} {g : Int → Int → Int}
    (rule : ∀ (i j : Int) (t u : Tok) (s : Shared) (Q : Value → Shared → Prop) (E : Value → Shared → Prop), C i j → Q (.int (g i j) s.toks) { s with toks := s.toks + 1 } → wpAny (model X.prog X.w) X.A (f (.int i t) (.int j u)) Q E s) :
    OpR X f (rI C fun i j => .int (g i j)) := by
  intro pins s σ H x y v u Q I rx ry h
  obtain ⟨i, j, rfl, rfl, hc, q⟩ := h
  obtain ⟨t, rfl⟩ := rx
  obtain ⟨t', rfl⟩ := ry
  exact rule i j t t' s _ _ hc ⟨.int (g i j), H, I.tok _, ⟨_, rfl⟩, q⟩
theorem opI0 {f : Value → Value → Sem Value} {g : Int → Int → Int}
    (rule : ∀ (i j : Int) (t u : Tok) (s : Shared) (Q : Value → Shared → Prop) (E : Value → Shared → Prop), Q (.int (g i j) s.toks) { s with toks := s.toks + 1 } → wpAny (model X.prog X.w) X.A (f (.int i t) (.int j u)) Q E s) :
    OpR X f (rI0 fun i j => .int (g i j)) := by
  intro pins s σ H x y v u Q I rx ry h
  obtain ⟨i, j, rfl, rfl, q⟩ := h
  obtain ⟨t, rfl⟩ := rx
  obtain ⟨t', rfl⟩ := ry
  exact rule i j t t' s _ _ ⟨.int (g i j), H, I.tok _, ⟨_, rfl⟩, q⟩
theorem opB0 {f : Value → Value → Sem Value} {g : Int → Int → Bool}
    (rule : ∀ (i j : Int) (t u : Tok) (s : Shared) (Q : Value → Shared → Prop) (E : Value → Shared → Prop), Q (.bool (g i j)) s → wpAny (model X.prog X.w) X.A (f (.int i t) (.int j u)) Q E s) :
    OpR X f (rI0 fun i j => .bl (g i j)) := by
  intro pins s σ H x y v u Q I rx ry h
  obtain ⟨i, j, rfl, rfl, q⟩ := h
  obtain ⟨t, rfl⟩ := rx
  obtain ⟨t', rfl⟩ := ry
  exact rule i j t t' s _ _ ⟨.bl (g i j), H, I, rfl, q⟩
def CDiv (i j : Int) : Prop := 0 < j ∧ j < 1073741824
def CPow (i j : Int) : Prop := 0 ≤ j ∧ j ≤ 1000000 ∧ i.natAbs < 2 ^ 64
def CMul (i j : Int) : Prop := (-(2 ^ 64) < i ∧ i < 2 ^ 64) ∨ (-(2 ^ 64) < j ∧ j < 2 ^ 64)
theorem CMul.ok {i j : Int} (h : CMul i j) : IntMulOk i j := by
  rcases h with ⟨h1, h2⟩ | ⟨h1, h2⟩
  · exact .of_left (intBits_le_64 h1 h2)
  · exact .of_right (intBits_le_64 h1 h2)
theorem op_add : OpR X (binaryOp .Add) (rI0 fun i j => .int (i + j)) := opI0 fun _ _ _ _ _ _ _ q => add_int q
theorem op_sub : OpR X (binaryOp .Sub) (rI0 fun i j => .int (i - j)) := opI0 fun _ _ _ _ _ _ _ q => sub_int q
theorem op_mul : OpR X (binaryOp .Mult) (rI CMul fun i j => .int (i * j)) := opI fun _ _ _ _ _ _ _ hc q => mul_int q hc.ok
theorem op_fdiv : OpR X (binaryOp .FloorDiv) (rI CDiv fun i j => .int (i / j)) := opI fun i j _ _ _ _ _ hc q => by
  have h1 : (0 : Int) < j := hc.1
  have h2 : j < 1073741824 := hc.2
  exact floordiv_int (by omega) (by rw [Int.fdiv_eq_ediv_of_nonneg i (by omega)]; exact q) (.inl (PyProof.noPylong_small (by omega)))
theorem op_mod : OpR X (binaryOp .Mod) (rI (fun _ j => 0 < j) fun i j => .int (i % j)) := opI fun i j _ _ _ _ _ hc q => by
  have h1 : (0 : Int) < j := hc
  exact mod_int' (by omega) (by rw [Int.fmod_eq_emod_of_nonneg i (by omega)]; exact q)
theorem op_pow : OpR X (binaryOp .Pow) (rI CPow fun i j => .int (i ^ j.toNat)) := opI fun _ _ _ _ _ _ _ hc q => pow_int_small hc.1 hc.2.1 hc.2.2 q
theorem unI {f : Value → Sem Value} {g : Int → Int}
    (rule : ∀ (i : Int) (t : Tok) (s : Shared) (Q : Value → Shared → Prop) (E : Value → Shared → Prop), Q (.int (g i) s.toks) { s with toks := s.toks + 1 } → wpAny (model X.prog X.w) X.A (f (.int i t)) Q E s) :
    UnR X f (rU fun i => .int (g i)) := by
  intro pins s σ H x v Q I rx h
  obtain ⟨i, rfl, q⟩ := h
  obtain ⟨t, rfl⟩ := rx
  exact rule i t s _ _ ⟨.int (g i), H, I.tok _, ⟨_, rfl⟩, q⟩
theorem un_neg : UnR X (unaryOp .USub) (rU fun i => .int (-i)) := unI fun _ _ _ _ _ q => neg_int q
end
def scal : V → V → Bool
  | .non, .non => true | .non, .int _ => true | .int _, .non => true | .non, .bl _ => true | .bl _, .non => true | .non, .str _ => true | .str _, .non => true
  | .int _, .int _ => true | .bl _, .bl _ => true | .str _, .str _ => true | .byt _, .byt _ => true
  | .int _, .str _ => true | .str _, .int _ => true | .bl _, .str _ => true | .str _, .bl _ => true
  | _, _ => false
def rEq : R2 := fun x y H Q => scal x y = true ∧ Q (.bl (decide (x = y))) H
theorem dec_int {i j : Int} : decide (V.int i = V.int j) = (i == j) := by
  rw [Bool.eq_iff_iff]
  simp
theorem dec_bl {i j : Bool} : decide (V.bl i = V.bl j) = (i == j) := by
  rw [Bool.eq_iff_iff]
  simp
theorem dec_str {i j : Str} : decide (V.str i = V.str j) = (i == j) := by
  rw [Bool.eq_iff_iff]
  simp
theorem dec_byt {i j : Array UInt8} : decide (V.byt i = V.byt j) = (i.toList == j.toList) := by
  rw [Bool.eq_iff_iff]
  cases i
  cases j
  simp
section
variable {X : Cx} {a b c : Expr} {ta tb tc : TE} {pos : Pos}
theorem fin_bl {pins : List (Addr × Obj)} {σ : St} {H : Hp} {s : Shared} {Q : VK} {k k' : Bool} (I : Inv X pins σ H s) (q : Q (.bl k) H) (e : k = k') : EP X pins σ Q (.bool k') s := by
  subst e
  exact ⟨.bl k, H, I, rfl, q⟩
theorem op_eq : OpR X (compareOp .Eq) rEq := by
  intro pins s σ H x y v u Q I rx ry h
  obtain ⟨hs, q⟩ := h
  cases x with
  | non =>
    cases rx
    cases y with
    | non => cases ry; exact PySem.EqNone.eq_none_none (fin_bl I q (by simp))
    | bl j => cases ry; exact PySem.EqNone.eq_none_bool (fin_bl I q (by simp))
    | int j => obtain ⟨t', rfl⟩ := ry; exact PySem.EqNone.eq_none_int (fin_bl I q (by simp))
    | str j => obtain ⟨t', rfl⟩ := ry; exact PySem.EqNone.eq_none_str (fin_bl I q (by simp))
    | _ => exact absurd (show false = true from hs) Bool.false_ne_true
  | bl i =>
    cases rx
    cases y with
    | non => cases ry; exact PySem.EqNone.eq_bool_none (fin_bl I q (by simp))
    | bl j => cases ry; exact eq_bool (fin_bl I q dec_bl)
    | str j => obtain ⟨t', rfl⟩ := ry; exact PySem.EqMixed.eq_bool_str (fin_bl I q (by simp))
    | _ => exact absurd (show false = true from hs) Bool.false_ne_true
  | int i =>
    obtain ⟨t, rfl⟩ := rx
    cases y with
    | non => cases ry; exact PySem.EqNone.eq_int_none (fin_bl I q (by simp))
    | int j => obtain ⟨t', rfl⟩ := ry; exact eq_int (fin_bl I q dec_int)
    | str j => obtain ⟨t', rfl⟩ := ry; exact PySem.EqMixed.eq_int_str (fin_bl I q (by simp))
    | _ => exact absurd (show false = true from hs) Bool.false_ne_true
  | str i =>
    obtain ⟨t, rfl⟩ := rx
    cases y with
    | non => cases ry; exact PySem.EqNone.eq_str_none (fin_bl I q (by simp))
    | bl j => cases ry; exact PySem.EqMixed.eq_str_bool (fin_bl I q (by simp))
    | int j => obtain ⟨t', rfl⟩ := ry; exact PySem.EqMixed.eq_str_int (fin_bl I q (by simp))
    | str j => obtain ⟨t', rfl⟩ := ry; exact eq_str (fin_bl I q dec_str)
    | _ => exact absurd (show false = true from hs) Bool.false_ne_true
  | byt i =>
    obtain ⟨t, rfl⟩ := rx
    cases y with
    | byt j => obtain ⟨t', rfl⟩ := ry; exact PySem.W.eq_bytes (fin_bl I q dec_byt)
    | _ => exact absurd (show false = true from hs) Bool.false_ne_true
  | _ => cases y <;> exact absurd (show false = true from hs) Bool.false_ne_true
theorem op_lt : OpR X (compareOp .Lt) (rI0 fun i j => .bl (decide (i < j))) := opB0 fun _ _ _ _ _ _ _ q => lt_int q
theorem OpR.or {f : Value → Value → Sem Value} {r r' : R2} (h : OpR X f r) (h' : OpR X f r') : OpR X f (fun x y H Q => r x y H Q ∨ r' x y H Q) := by
  intro pins s σ H x y v u Q I rx ry q
  rcases q with q | q
  · exact h pins s σ H x y v u Q I rx ry q
  · exact h' pins s σ H x y v u Q I rx ry q
theorem nomark (b : Expr) {op : CmpOp} (h : op ≠ .In := by decide) (h2 : op ≠ .NotIn := by decide) : behindInMarks op b = false := by
  have e1 : (op == CmpOp.In) = false := by cases op <;> first | rfl | exact absurd rfl h
  have e2 : (op == CmpOp.NotIn) = false := by cases op <;> first | rfl | exact absurd rfl h2
  cases b <;> simp [behindInMarks, e1, e2]
def tTest (t : TE) : TT := fun σ H Q => t σ H fun x H' => ∃ k, x = .bl k ∧ Q k H'
theorem pt_cmpR {op : CmpOp} {r : R2} (ho : OpR X (compareOp op) r) (ha : PE X a ta) (hb : PE X b tb) (hm : behindInMarks op b = false) : PT X (.Compare a [op] [b] pos) (tTest (tOp r ta tb)) := by
  intro pins s σ H Q I h
  refine wpAny_isTrue_Compare1 (thn (ha pins s σ H _ I h) fun v s1 ⟨x, H1, I1, r1, q1⟩ => thn (hb pins s1 σ H1 _ I1 q1) fun u s2 ⟨y, H2, I2, r2, q2⟩ =>
    thn (ho pins s2 σ H2 x y v u _ I2 r1 r2 q2) fun c s3 ⟨z, H3, I3, r3, k, e, q3⟩ => ?_) hm
  subst e
  cases r3
  exact wpAny_truthy_bool ⟨H3, I3, q3⟩
theorem line63 : (sizeLine : Nat) < 2 ^ 63 := by rw [sizeLine_eq]; decide
theorem op_add_str : OpR X (binaryOp .Add) (fun x y H Q => ∃ i j, x = .str i ∧ y = .str j ∧ i.length + j.length ≤ sizeLine ∧ Q (.str (i ++ j)) H) := by
  intro pins s σ H x y v u Q I rx ry h
  obtain ⟨i, j, rfl, rfl, hz, q⟩ := h
  obtain ⟨t, rfl⟩ := rx
  obtain ⟨t', rfl⟩ := ry
  exact add_str (fun t' tk => ⟨.str (i ++ j), H, I.tok _, ⟨_, rfl⟩, q⟩) hz
theorem vals1 {x : V} {us : List Value} (r : Vals [x] us) : ∃ u, us = [u] ∧ RelV x u := by
  cases r with
  | cons r1 r2 => cases r2; exact ⟨_, rfl, r1⟩
theorem vals2 {x y : V} {us : List Value} (r : Vals [x, y] us) : ∃ u w', us = [u, w'] ∧ RelV x u ∧ RelV y w' := by
  cases r with
  | cons r1 r2 =>
    cases r2 with
    | cons r3 r4 => cases r4; exact ⟨_, _, rfl, r1, r3⟩
theorem call_min2 (hc : X.calm = true) : CallR X (.builtin "min") (fun xs H Q => ∃ i j, xs = [.int i, .int j] ∧ Q (.int (if j < i then j else i)) H) := by
  intro pins s σ H xs us Q I r h
  obtain ⟨i, j, rfl, q⟩ := h
  obtain ⟨u, w', rfl, ⟨t, rfl⟩, ⟨t', rfl⟩⟩ := vals2 r
  refine min_two_ints (I.ok.hd hc) fun h' tk k => ⟨_, H, I.kept k, ?_, q⟩
  by_cases hj : j < i
  · rw [if_pos hj, if_pos hj]; exact ⟨_, rfl⟩
  · rw [if_neg hj, if_neg hj]; exact ⟨_, rfl⟩
end
end L2
namespace L2
open PySem PySem.Spec PyProof.Rows
structure ObjM (h : Heap) (x dx C : Addr) (mA : Str → Option Value) : Prop where
  obj : h.get? x = some (PySem.W.instObj C dx)
  ns : h.Ns1 dx mA
  ne : dx ≠ x
theorem lookIn_ns {h : Heap} {dx : Addr} {mA : Str → Option Value} (n : h.Ns1 dx mA) : ∃ od, h.get? dx = some od ∧ ∀ name, PySem.W.lookIn name od = some (mA name) := by
  obtain ⟨o, es, ep, ho, hd, hk, _, hm⟩ := n
  refine ⟨o, ho, fun name => ?_⟩
  have e := hm name
  unfold nsFind findBy at e
  rw [← Array.find?_toList] at e
  unfold PySem.W.lookIn
  rw [hd]
  dsimp only
  split
  · rename_i y q
    rw [q] at e
    exact congrArg some e
  · rename_i q
    rw [q] at e
    have a : es.toList.any (·.refKey) = false := by
      rw [List.any_eq_false]
      intro y hy
      obtain ⟨z, t, hkey⟩ := hk y (Array.mem_toList_iff.mp hy)
      simp [DictEntry.refKey, hkey]
    have a' : ¬ es.toList.any (·.refKey) = true := by rw [a]; exact Bool.false_ne_true
    rw [if_neg a']
    exact congrArg some e
theorem ObjM.look {h : Heap} {x dx C : Addr} {mA : Str → Option Value} (I : ObjM h x dx C mA) : ∃ od, PySem.W.InstAt h x (PySem.W.instObj C dx) C (some od) ∧ ∀ name, PySem.W.lookIn name od = some (mA name) :=
  let ⟨od, ho, hl⟩ := lookIn_ns I.ns
  ⟨od, ⟨I.obj, rfl, rfl, ho⟩, hl⟩
section
variable {prog : Program} {w : World} {A : Around} {E : Value → Shared → Prop} {s : Shared} {K : PySem.W.Frag} {x dx C f : Addr} {mA : Str → Option Value} {name : Str} {v : Value}
theorem get_map {expr : Bool} {Q : Value → Shared → Prop} (X : K.In s.heap) (I : ObjM s.heap x dx C mA) (hg : PySem.W.plainGet K C name = true) (hh : PySem.W.hasDictIn K C = true)
    (ha : PySem.W.findIn K (.ref C) name = some none) (hv : mA name = some v) (hv' : PySem.W.handedIn v = true) (h : Q v { s with toks := s.toks + 1 }) :
    wpAny (model prog w) A (getAttr (.ref x) name expr) Q E s := by
  obtain ⟨od, J, hl⟩ := I.look
  exact PySem.W.get_value X J (PySem.W.plainGet_of hg).1 (PySem.W.findObj_own hh ha rfl (by rw [hl, hv])) hv' h
theorem get_meth {pl : Sem Bool} {Q : Value × List Value → Shared → Prop} (X : K.In s.heap) (I : ObjM s.heap x dx C mA) (hg : PySem.W.plainGet K C name = true)
    (hf : PySem.W.findIn K (.ref C) name = some (some (.ref f))) (ht : PySem.W.isFn K (.ref f) = true) (hv : mA name = none) (h : Q (.ref f, [.ref x]) s) :
    wpAny (model prog w) A (getMethod (.ref x) name pl) Q E s := by
  obtain ⟨od, J, hl⟩ := I.look
  exact PySem.W.method_fn X J (PySem.W.plainGet_of hg).1 (PySem.W.plainGet_of hg).2 hf (beq_iff_eq.mp ht) (by show (PySem.W.lookIn name od).map (·.isSome) = some false; rw [hl, hv]; rfl) h
theorem set_map {ns : List Str} {Q : Unit → Shared → Prop} (X : K.In s.heap) (I : ObjM s.heap x dx C mA)
    (hs : PySem.W.findIn K (.ref C) "__setattr__" = some (some (.builtin "object.__setattr__"))) (hp : PySem.W.plainOver K C = true) (ht : PySem.W.takerIn K C name = some none) (hh : PySem.W.hasDictIn K C = true)
    (hw : PySem.Within mA ns) (hsz : ns.length ≤ sizeLine)
    (h : ∀ h', ObjM h' x dx C (fun y => if y = name then some v else mA y) → Heap.SameBut dx s.heap h' → Q () { s with heap := h', toks := s.toks + 2 }) :
    wpAny (model prog w) A (setAttr (.ref x) name v) Q E s := by
  obtain ⟨od, J, hl⟩ := I.look
  refine PySem.W.set_plain X J hs (PySem.W.osa_open (s := { s with toks := s.toks + 1 }) (r := none) X J hp ht fun b => ?_)
  obtain ⟨cd, hc, hd'⟩ := PySem.W.any_some hh
  have hx : s.heap.get? x = some ⟨.ref C, some dx, .plain, #[]⟩ := I.obj
  refine wpAny_bind (wpAny_pure (wpAny_bind (wpAny_bind (wpAny_loadPart hx (wpAny_bind (PySem.W.Looks.here (s := { s with toks := s.toks + 1 }) (PySem.W.looks_clsIn X hc) ?_))))))
  rw [hd']
  refine wpAny_pure (a := some dx) (wpAny_bind (wpAny_pure (wpAny_bind ?_)))
  refine wpAny_nsSet1 (s := { s with toks := s.toks + 1 }) I.ns fun h' hn2 hs2 => ?_
  obtain ⟨oD, esD, epD, hoD, hdD, hcD⟩ := hn2.count (PySem.Within.cons name v hw)
  refine wpAny_bind (wpAny_lookBehind hoD (by rw [hdD]; exact pastItsLine_dict (Nat.le_trans hcD (by rw [List.length_cons]; omega))) ?_)
  exact wpAny_pure (h _ ⟨(hs2.2 _ (Ne.symm I.ne)).trans I.obj, hn2, I.ne⟩ hs2)
theorem make_map {R : Result → Shared → Prop} {vs : List Value} {kw : List (Str × Value)} (X : K.In s.heap) (hm : PySem.W.makesIn K C = true)
    (hi : PySem.W.findIn K (.ref C) "__init__" = some (some (.ref f))) (hf : PySem.W.typeIn K (.ref f) = some (.type "function"))
    (h : codeAny (model prog w) (A.under (.builtin "type.__call__" ⟨.ref C :: vs, kw⟩)) (.call (.ref f) ⟨.ref (s.heap.objs.size + 1) :: vs, kw⟩) (PySem.W.InitBack (s.heap.objs.size + 1) R)
      { s with heap := (s.heap.push PySem.W.emptyDict).push (PySem.W.instObj C s.heap.objs.size) }) :
    codeAny (model prog w) A (.call (.ref C) ⟨vs, kw⟩) R s := by
  obtain ⟨hh, g, d, t, os⟩ := s
  exact PySem.W.make_core (PySem.W.makes_of X hm) (PySem.W.looks_findIn X hi) (fun self => PySem.W.bind_fn X self hf) (.inl rfl) h
end
def putF (f : Str) (v : V) : List (Str × V) → List (Str × V)
  | [] => [(f, v)]
  | (g, x) :: r => if g = f then (g, v) :: r else (g, x) :: putF f v r
theorem lookup_putF (f g : Str) (v : V) : ∀ fs : List (Str × V), (putF f v fs).lookup g = if g = f then some v else fs.lookup g
  | [] => by
    show List.lookup g [(f, v)] = _
    by_cases h : g = f
    · have hb : (g == f) = true := beq_iff_eq.mpr h
      simp only [List.lookup, hb, if_pos h]
    · have hb : (g == f) = false := beq_eq_false_iff_ne.mpr h
      simp only [List.lookup, hb, if_neg h]
  | (k, x) :: r => by
    have ih := lookup_putF f g v r
    rw [show putF f v ((k, x) :: r) = (if k = f then (k, v) :: r else (k, x) :: putF f v r) from rfl]
    by_cases hk : k = f
    · rw [if_pos hk]
      by_cases h : g = k
      · have hb : (g == k) = true := beq_iff_eq.mpr h
        simp only [List.lookup, hb, if_pos (h.trans hk)]
      · have hb : (g == k) = false := beq_eq_false_iff_ne.mpr h
        simp only [List.lookup, hb, if_neg (fun e : g = f => h (e.trans hk.symm))]
    · rw [if_neg hk]
      by_cases h : g = k
      · have hb : (g == k) = true := beq_iff_eq.mpr h
        simp only [List.lookup, hb, if_neg (fun e : g = f => hk (h.symm.trans e))]
      · have hb : (g == k) = false := beq_eq_false_iff_ne.mpr h
        simp only [List.lookup, hb]
        exact ih
theorem keys_putF (f : Str) (v : V) : ∀ fs : List (Str × V), f ∈ (putF f v fs).map (·.1) ∧ ∀ g, g ∈ fs.map (·.1) → g ∈ (putF f v fs).map (·.1)
  | [] => ⟨by simp [putF], fun g h => by simp at h⟩
  | (k, x) :: r => by
    obtain ⟨i1, i2⟩ := keys_putF f v r
    rw [show putF f v ((k, x) :: r) = (if k = f then (k, v) :: r else (k, x) :: putF f v r) from rfl]
    by_cases hk : k = f
    · rw [if_pos hk]
      subst hk
      exact ⟨by simp, fun g h => by simpa using h⟩
    · rw [if_neg hk]
      refine ⟨?_, fun g h => ?_⟩
      · rw [List.map_cons]
        exact List.mem_cons_of_mem _ i1
      · rw [List.map_cons] at h ⊢
        rcases List.mem_cons.mp h with e | e
        · exact List.mem_cons.mpr (.inl e)
        · exact List.mem_cons_of_mem _ (i2 g e)
theorem length_putF (f : Str) (v : V) : ∀ fs : List (Str × V), (putF f v fs).length ≤ fs.length + 1
  | [] => by simp [putF]
  | (k, x) :: r => by
    have ih := length_putF f v r
    rw [show putF f v ((k, x) :: r) = (if k = f then (k, v) :: r else (k, x) :: putF f v r) from rfl]
    by_cases hk : k = f
    · rw [if_pos hk, List.length_cons, List.length_cons]; omega
    · rw [if_neg hk, List.length_cons, List.length_cons]; omega
theorem RelO.some_of {v : V} {o : Option Value} (r : RelO (some v) o) : ∃ u, o = some u ∧ RelV v u := by
  cases o with
  | none => exact (show False from r).elim
  | some u => exact ⟨u, rfl, r⟩
theorem RelO.none_of {o : Option Value} (r : RelO none o) : o = none := by
  cases o with
  | none => rfl
  | some u => exact (show False from r).elim
theorem handed_of {v : V} {u : Value} (r : RelV v u) : PySem.W.handedIn u = true := by
  cases v with
  | non => cases (show u = Value.none from r); rfl
  | bl b => cases (show u = Value.bool b from r); rfl
  | int i => obtain ⟨t, e⟩ := (show ∃ t, u = Value.int i t from r); cases e; rfl
  | str x => obtain ⟨t, e⟩ := (show ∃ t, u = Value.str x t from r); cases e; rfl
  | byt b => obtain ⟨t, e⟩ := (show ∃ t, u = Value.bytes b t from r); cases e; rfl
  | flt b => obtain ⟨t, e⟩ := (show ∃ t, u = Value.float b t from r); cases e; rfl
  | ref a => cases (show u = Value.ref a from r); rfl
  | ty n => cases (show u = Value.type n from r); rfl
section
variable {P : Program} {w : World} {H H' : Hp} {h h' : Heap} {a C dx : Addr} {fs fs' : List (Str × V)}
theorem ins_get (hok : HOk P w H h) (e : H a = some (.ins C dx fs)) : ∃ mA, ObjM h a dx C mA ∧ (∀ f, RelO (fs.lookup f) (mA f)) ∧ PySem.Within mA (fs.map (·.1)) ∧ fs.length ≤ 1000 ∧ H dx = some (.own a) := by
  obtain ⟨d, z, ne, ob, mA, n, r, q⟩ := (show ObjOk P w H h a (.ins C dx fs) from hok a _ e)
  exact ⟨mA, ⟨ob, n, ne⟩, r, q, z, d⟩
end
structure Cls (K : PySem.W.Frag) (C : Addr) : Prop where
  pg : PySem.W.plainGet K C Str.empty = true
  hd : PySem.W.hasDictIn K C = true
  po : PySem.W.plainOver K C = true
  sa : PySem.W.findIn K (.ref C) "__setattr__" = some (some (.builtin "object.__setattr__"))
theorem Cls.get {K : PySem.W.Frag} {C : Addr} (c : Cls K C) (f : Str) : PySem.W.plainGet K C f = true := c.pg
def NoAttr (K : PySem.W.Frag) (C : Addr) (f : Str) : Prop := PySem.W.findIn K (.ref C) f = some none
theorem NoAttr.taker {K : PySem.W.Frag} {C : Addr} {f : Str} (n : NoAttr K C f) : PySem.W.takerIn K C f = some none := by
  unfold PySem.W.takerIn
  rw [show PySem.W.findIn K (.ref C) f = some none from n]
  rfl
structure Con (K : PySem.W.Frag) (C : Addr) (f : Str) (v : V) (u : Value) : Prop where
  at_ : PySem.W.findIn K (.ref C) f = some (some u)
  rel : RelV v u
  get : PySem.W.specialIn K u "__get__" = some none
  cp : PySem.W.copiedNames.contains f = false
structure Meth (K : PySem.W.Frag) (C : Addr) (m : Str) (f : Addr) : Prop where
  at_ : PySem.W.findIn K (.ref C) m = some (some (.ref f))
  fn : PySem.W.isFn K (.ref f) = true
  kp : PySem.W.keepIn K (.ref f) = true
section
variable {X : Cx} {pins : List (Addr × Obj)} {σ : St} {H : Hp} {s : Shared} {a C dx : Addr} {fs : List (Str × V)} {f : Str} {v : V} {A : Around} {E : Value → Shared → Prop}
theorem getattr_ok {b : Bool} {Q : Value → Shared → Prop} (I : Inv X pins σ H s) (e : H a = some (.ins C dx fs)) (c : Cls X.K C) (n : NoAttr X.K C f) (l : fs.lookup f = some v)
    (h : ∀ u s', Inv X pins σ H s' → RelV v u → Q u s') : wpAny (model X.prog X.w) A (getAttr (.ref a) f b) Q E s := by
  obtain ⟨mA, O, r, _, _, _⟩ := ins_get I.hok e
  obtain ⟨u, hu, ru⟩ := RelO.some_of (v := v) (o := mA f) (by rw [← l]; exact r f)
  exact get_map I.kIn O (c.get f) c.hd n hu (handed_of ru) (h u _ (I.tok _) ru)
theorem getmeth_ok {m : Str} {g : Addr} {pl : Sem Bool} {Q : Value × List Value → Shared → Prop} (I : Inv X pins σ H s) (e : H a = some (.ins C dx fs)) (c : Cls X.K C) (k : Meth X.K C m g) (l : fs.lookup m = none)
    (h : Q (.ref g, [.ref a]) s) : wpAny (model X.prog X.w) A (getMethod (.ref a) m pl) Q E s := by
  obtain ⟨mA, O, r, _, _, _⟩ := ins_get I.hok e
  have hn : mA m = none := RelO.none_of (by rw [← l]; exact r m)
  exact get_meth I.kIn O (c.get m) k.at_ k.fn hn h
theorem setattr_ok {y : V} {u : Value} {Q : Unit → Shared → Prop} (I : Inv X pins σ H s) (e : H a = some (.ins C dx fs)) (c : Cls X.K C) (n : NoAttr X.K C f) (hl : fs.length < 1000) (ry : RelV y u)
    (h : ∀ s', Inv X pins σ (upd H a (.ins C dx (putF f y fs))) s' → Q () s') : wpAny (model X.prog X.w) A (setAttr (.ref a) f u) Q E s := by
  obtain ⟨mA, O, r, wi, _, ho⟩ := ins_get I.hok e
  have hz : (fs.map (·.1)).length ≤ sizeLine := by rw [List.length_map, sizeLine_eq]; omega
  refine set_map I.kIn O c.sa c.po n.taker c.hd wi hz fun h' O' sb => h _ ?_
  have hd : ∃ o, h'.get? dx = some o := let ⟨o, _, _, e', _⟩ := O'.ns; ⟨o, e'⟩
  refine I.write (x := a) (e := dx) (by rw [e]; exact True.intro) (.inr ho) (fun b q hb z => (sb.2 b hb).trans z) hd ?_
  refine ⟨by rw [upd_ne O.ne]; exact ho, ?_, O.ne, O'.obj, _, O'.ns, fun g => ?_, fun g hg => ?_⟩
  · have := length_putF f y fs; omega
  · show RelO ((putF f y fs).lookup g) (if g = f then some u else mA g)
    rw [lookup_putF]
    by_cases q : g = f
    · rw [if_pos q, if_pos q]; exact ry
    · rw [if_neg q, if_neg q]; exact r g
  · by_cases q : g = f
    · rw [q]; exact (keys_putF f y fs).1
    · refine (keys_putF f y fs).2 g (wi g fun z => hg ?_)
      show (if g = f then some u else mA g) = none
      rw [if_neg q]; exact z
theorem Inv.made (I : Inv X pins σ H s) : Inv X pins σ (upd (upd H s.heap.objs.size (.own (s.heap.objs.size + 1))) (s.heap.objs.size + 1) (.ins C s.heap.objs.size []))
    { s with heap := (s.heap.push PySem.W.emptyDict).push (PySem.W.instObj C s.heap.objs.size) } := by
  have e1 : (s.heap.push PySem.W.emptyDict).get? s.heap.objs.size = some PySem.W.emptyDict := Heap.get?_push_size s.heap rfl
  have e2 : ((s.heap.push PySem.W.emptyDict).push (PySem.W.instObj C s.heap.objs.size)).get? (s.heap.objs.size + 1) = some (PySem.W.instObj C s.heap.objs.size) := by
    have := Heap.get?_push_size (s.heap.push PySem.W.emptyDict) (o := PySem.W.instObj C s.heap.objs.size) rfl
    rwa [Heap.size_push] at this
  have e3 : (s.heap.push PySem.W.emptyDict).Ns s.heap.objs.size (fun _ => none) := ⟨PySem.W.emptyDict, #[], _, e1, rfl, (fun e he => absurd he (by simp)), fun _ => rfl⟩
  have I1 := I.laid (a := s.heap.objs.size) (o := .own (s.heap.objs.size + 1)) (h' := s.heap.push PySem.W.emptyDict) (t' := s.toks) (fun b u q => Heap.get?_push_of_some _ q) (Nat.le_refl _) ⟨_, e1⟩
  refine I1.laid (a := s.heap.objs.size + 1) (o := .ins C s.heap.objs.size []) (t' := s.toks) (fun b u q => Heap.get?_push_of_some _ q) (Nat.le_of_eq (Heap.size_push _ _)) ?_
  have ne : s.heap.objs.size ≠ s.heap.objs.size + 1 := Nat.ne_of_lt (Nat.lt_succ_self _)
  refine ⟨by rw [upd_ne ne, upd_same], Nat.zero_le _, ne, e2, fun _ => none, (Heap.Ns1.of_empty e3).at fun o q => Heap.get?_push_of_some _ q, fun _ => True.intro, fun y hy => absurd rfl hy⟩
theorem attr_of {prog : Program} {w : World} {env : Env} {e : Expr} {f : Str} {pos : Pos} {s : Shared} {Q : Value → Shared → Prop} (hb : attributeBase e f env (eval e env) = eval e env)
    (h : wpAny (model prog w) A (eval e env) (fun o s₁ => wpAny (model prog w) A (getAttr o f true) Q E s₁) E s) : wpAny (model prog w) A (eval (.Attribute e f pos) env) Q E s :=
  Attribute_any_ h (by rw [arm_eval_Attribute, hb])
end
def tFld (K : PySem.W.Frag) (ta : TE) (f : Str) : TE := fun σ H Q => ta σ H fun x H1 => ∃ a C dx fs v, x = .ref a ∧ H1 a = some (.ins C dx fs) ∧ Cls K C ∧ NoAttr K C f ∧ fs.lookup f = some v ∧ Q v H1
def sFld (K : PySem.W.Frag) (ta tv : TE) (f : Str) : TS := fun D σ H => tv σ H fun y H1 => ta σ H1 fun x H2 => ∃ a C dx fs, x = .ref a ∧ H2 a = some (.ins C dx fs) ∧ Cls K C ∧ NoAttr K C f ∧ fs.length < 1000 ∧
  D.nx σ (upd H2 a (.ins C dx (putF f y fs)))
section
variable {X : Cx} {o e value : Expr} {f : Str} {pos pos' tpos : Pos} {ta tv : TE}
theorem pe_fld (he : PE X e ta) (hb : attributeBase e f X.env (eval e X.env) = eval e X.env) : PE X (.Attribute e f pos) (tFld X.K ta f) := by
  intro pins s σ H Q I h
  refine attr_of hb (thn (he pins s σ H _ I h) fun u s1 ⟨x, H1, I1, rx, a, C, dx, fs, v, ex, ea, c, n, l, q⟩ => ?_)
  subst ex
  obtain rfl : u = Value.ref a := rx
  exact getattr_ok I1 ea c n l fun u' s2 I2 ru => ⟨v, H1, I2, ru, q⟩
theorem ps_fld (ha : PE X o ta) (hv : PE X value tv) (hs : swapsWith value (some (.Attribute o f pos')) pos.line X.env = pure false) : PS X (.Assign [.Attribute o f pos'] value pos) (sFld X.K ta tv f) := by
  intro pins s σ H D I h
  refine plainObj_wpAny_Assign_Attribute (thn (hv pins s σ H _ I h) fun u s1 ⟨y, H1, I1, ry, q⟩ => thn (ha pins s1 σ H1 _ I1 q) fun ov s2 ⟨x, H2, I2, rx, a, C, dx, fs, ex, ea, c, n, l, q2⟩ => ?_) hs
  subst ex
  obtain rfl : ov = Value.ref a := rx
  exact setattr_ok I2 ea c n l ry fun s3 I3 => ⟨σ, _, I3, q2⟩
end
section
variable {X : Cx} {pins : List (Addr × Obj)} {σ : St} {H : Hp} {s : Shared} {A : Around} {E : Value → Shared → Prop} {Q : Value → Shared → Prop} {c : Value} {b : Bool}
inductive TyOf (K : PySem.W.Frag) (H : Hp) : V → Value → Prop where
  | non : TyOf K H .non (.type "NoneType")
  | bl (x : Bool) : TyOf K H (.bl x) (.type "bool")
  | int (i : Int) : TyOf K H (.int i) (.type "int")
  | str (x : Str) : TyOf K H (.str x) (.type "str")
  | flt (x : UInt64) : TyOf K H (.flt x) (.type "float")
  | lst {a : Addr} {xs : List V} (e : H a = some (.lst xs)) : TyOf K H (.ref a) (.type "list")
  | frz {a : Addr} {o : Obj} {xs : List V} (e : H a = some (.frz o (.lst xs))) : TyOf K H (.ref a) (.type "list")
  | tup {a : Addr} {xs : List V} (e : H a = some (.tup xs)) : TyOf K H (.ref a) (.type "tuple")
  | dK {a : Addr} {kvs : List (Key × V)} (e : H a = some (.dK kvs)) : TyOf K H (.ref a) (.type "dict")
  | dT {a : Addr} {kvs : List (List NI × V)} (e : H a = some (.dT kvs)) : TyOf K H (.ref a) (.type "dict")
  | ins {a C dx : Addr} {fs : List (Str × V)} (e : H a = some (.ins C dx fs)) (cl : Cls K C) (ha : PySem.W.findIn K (.ref C) "__class__" = some (some (.builtin "object.__class__")))
      (hn : PySem.W.specialIn K (.builtin "object.__class__") "__get__" = some (some (.builtin "getset_descriptor.__get__"))) (htk : PySem.W.takesIn K (.builtin "object.__class__") = some true)
      (hm : PySem.W.mroIn K C (.type "object") = some true) : TyOf K H (.ref a) (.ref C)
theorem isinst_ok {x : V} {u t : Value} (I : Inv X pins σ H s) (rx : RelV x u) (ty : TyOf X.K H x t) (e : PySem.W.kitOne X.K t c = some b) (h : ∀ tk, Q (.bool b) { s with toks := tk }) :
    wpAny (model X.prog X.w) A (call (.builtin "isinstance") [u, c]) Q E s := by
  cases ty with
  | non => cases (show u = Value.none from rx); exact PySem.W.kia_one PySem.W.kitx_none I.kIn True.intro e (fun z => nomatch z) h
  | bl y => cases (show u = Value.bool y from rx); exact PySem.W.kia_one PySem.W.kitx_bool I.kIn True.intro e (fun z => nomatch z) h
  | int i => obtain ⟨t, q⟩ := (show ∃ t, u = Value.int i t from rx); cases q; exact PySem.W.kia_one PySem.W.kitx_int I.kIn True.intro e (fun z => nomatch z) h
  | str y => obtain ⟨t, q⟩ := (show ∃ t, u = Value.str y t from rx); cases q; exact PySem.W.kia_one PySem.W.kitx_str I.kIn True.intro e (fun z => nomatch z) h
  | flt y => obtain ⟨t, q⟩ := (show ∃ t, u = Value.float y t from rx); cases q; exact PySem.W.kia_one PySem.W.kitx_float I.kIn True.intro e (fun z => nomatch z) h
  | @lst a xs ea =>
    cases (show u = Value.ref a from rx)
    obtain ⟨_, _, n, _, h1⟩ := (show ObjOk X.prog X.w H s.heap a (.lst xs) from I.hok a _ ea)
    exact PySem.W.kia_one PySem.W.kitx_list I.kIn ⟨_, h1, rfl⟩ e (fun z => nomatch z) h
  | @frz a ob xs ea =>
    cases (show u = Value.ref a from rx)
    obtain ⟨_, _, _, n, _, h1⟩ := (show ObjOk X.prog X.w H s.heap a (.frz ob (.lst xs)) from I.hok a _ ea)
    exact PySem.W.kia_one PySem.W.kitx_list I.kIn ⟨_, h1, rfl⟩ e (fun z => nomatch z) h
  | @tup a xs ea =>
    cases (show u = Value.ref a from rx)
    obtain ⟨_, _, _, p⟩ := (show ObjOk X.prog X.w H s.heap a (.tup xs) from I.hok a _ ea)
    obtain ⟨o, h1, h2, _⟩ := p
    exact PySem.W.kia_one PySem.W.kitx_tuple I.kIn ⟨o, h1, h2⟩ e (fun z => nomatch z) h
  | @dK a kvs ea =>
    cases (show u = Value.ref a from rx)
    obtain ⟨_, _, vs, _, p⟩ := (show ObjOk X.prog X.w H s.heap a (.dK kvs) from I.hok a _ ea)
    obtain ⟨o, es, ep, h1, h2, _⟩ := p
    exact PySem.W.kia_one PySem.W.kitx_dict I.kIn ⟨o, h1, h2.1⟩ e (fun z => nomatch z) h
  | @dT a kvs ea =>
    cases (show u = Value.ref a from rx)
    obtain ⟨_, _, xs, _, o, es, ep, h1, h2, _⟩ := (show ObjOk X.prog X.w H s.heap a (.dT kvs) from I.hok a _ ea)
    exact PySem.W.kia_one PySem.W.kitx_dict I.kIn ⟨o, h1, h2.1⟩ e (fun z => nomatch z) h
  | @ins a C dx fs ea cl ha hn htk hm =>
    cases (show u = Value.ref a from rx)
    obtain ⟨mA, O, _⟩ := ins_get I.hok ea
    obtain ⟨od, J, _⟩ := O.look
    exact PySem.W.kia_one (PySem.W.kitx_own (cl.get _) cl.hd ha hn htk hm) I.kIn J e (fun z => nomatch z) h
end
end L2
namespace L2
open PySem PySem.Spec PyProof.Rows
structure Room (k : Nat) (A : Around) : Prop where
  hd : A.handled = none
  dp : A.depth + 3 * k + 5 < recursionLimit
  un : A.units + 16 * k + 200 < cLine
  gd : A.guards = some []
theorem Room.mono {j k : Nat} {A : Around} (r : Room k A) (h : j ≤ k) : Room j A := ⟨r.hd, by have := r.dp; omega, by have := r.un; omega, r.gd⟩
theorem Room.deeper {k : Nat} {A : Around} (r : Room (k + 1) A) (env : Env) : Room k (A.deeper env) :=
  ⟨r.hd, by have := r.dp; show A.depth + 1 + 3 * k + 5 < _; omega, by have := r.un; show A.units + 3 + 16 * k + 200 < _; omega, r.gd⟩
theorem Room.in1 {k : Nat} {A : Around} (r : Room (k + 1) A) : Room k A.in1 :=
  ⟨r.hd, by have := r.dp; show A.depth + 3 * k + 5 < _; omega, by have := r.un; show A.units + 1 + 16 * k + 200 < _; omega, r.gd⟩
theorem make_depth {A : Around} {C : Addr} {us : List Value} {kw : List (Str × Value)} : (A.under (.builtin "type.__call__" ⟨.ref C :: us, kw⟩)).depth = A.depth + 1 := by
  first | rfl | simp [Around.under, Code.weight, Code.isCreation, Code.isGuard, Code.isCaller, Code.frames, Code.isFrame, guardIds]
theorem make_units {A : Around} {C : Addr} {us : List Value} {kw : List (Str × Value)} : (A.under (.builtin "type.__call__" ⟨.ref C :: us, kw⟩)).units = A.units + 1 := by
  first | rfl | simp [Around.under, Code.cUnits, Code.frames, Code.isFrame]
theorem make_guards {A : Around} {C : Addr} {us : List Value} {kw : List (Str × Value)} : (A.under (.builtin "type.__call__" ⟨.ref C :: us, kw⟩)).guards = A.guards := by
  first | rfl | simp [Around.under, pushGuards, Code.guards, Code.isGuard, guardIds]
theorem Room.make {k : Nat} {A : Around} (r : Room (k + 1) A) (C : Addr) (us : List Value) (kw : List (Str × Value)) : Room k (A.under (.builtin "type.__call__" ⟨.ref C :: us, kw⟩)) :=
  ⟨r.hd, by have := r.dp; rw [make_depth]; omega, by have := r.un; rw [make_units]; omega, make_guards.trans r.gd⟩
theorem Room.depth {k : Nat} {A : Around} (r : Room k A) : A.depth < recursionLimit := by have := r.dp; omega
theorem Room.units {k : Nat} {A : Around} (r : Room k A) : A.units + 64 < cLine := by have := r.un; omega
def tNil : TA := fun _ H Q => Q [] H
def tCons (ta : TE) (tr : TA) : TA := fun σ H Q => ta σ H fun x H1 => tr σ H1 fun xs H2 => Q (x :: xs) H2
section
variable {X : Cx} {e : Expr} {es : List Expr} {te : TE} {t : TA} {pos : Pos}
theorem pa_nil : PA X [] tNil := fun _ _ _ _ H Q I h => Calls.spliced_nil ⟨[], H, I, .nil, h⟩
theorem pa_cons (ha : PE X e te) (hr : PA X es t) (hs : starEach (e :: es) X.env = (false, eval e X.env) :: starEach es X.env := by rfl) : PA X (e :: es) (tCons te t) := by
  intro pos pins s σ H Q I h
  rw [hs]
  show wpAny _ _ (spliced ((false, eval e X.env) :: backTo pos (starEach es X.env))) _ _ s
  refine Calls.spliced_cons (thn (ha pins s σ H _ I h) fun u s1 ⟨x, H1, I1, r1, q1⟩ => ?_)
  exact thn (hr pos pins s1 σ H1 _ I1 q1) fun us s2 ⟨xs, H2, I2, r2, q2⟩ => ⟨x :: xs, H2, I2, .cons r1 r2, q2⟩
def tTup (t : TA) : TE := fun σ H Q => t σ H fun xs H1 => xs.length ≤ sizeLine ∧ ∀ p, H1 p = none → Q (.ref p) (upd H1 p (.tup xs))
def tLst (t : TA) : TE := fun σ H Q => t σ H fun xs H1 => xs.length ≤ sizeLine ∧ ∀ p, H1 p = none → Q (.ref p) (upd H1 p (.lst xs))
theorem pe_tup {x1} (h : PA X es t) : PE X (.Tuple es x1 pos) (tTup t) := by
  intro pins s σ H Q I hq
  refine wpAny_Tuple_spliced (thn (h pos pins s σ H _ I hq) fun us s1 ⟨xs, H1, I1, r, z, q⟩ => ⟨by rw [← r.length]; exact z, ?_⟩)
  have hf : H1 s1.heap.objs.size = none := I1.hok.fresh (Nat.le_refl _)
  refine ⟨.ref s1.heap.objs.size, upd H1 s1.heap.objs.size (.tup xs), I1.laid (t' := s1.toks) (fun b u e => Heap.get?_push_of_some _ e) (Nat.le_refl _) ?_, rfl, q _ hf⟩
  exact ⟨z, us, r, ⟨_, Heap.get?_push_size _ rfl, rfl, _, rfl⟩⟩
theorem pe_lst (h : PA X es t) : PE X (.List es pos) (tLst t) := by
  intro pins s σ H Q I hq
  refine wpAny_List_spliced (thn (h pos pins s σ H _ I hq) fun us s1 ⟨xs, H1, I1, r, z, q⟩ => ⟨by rw [← r.length]; exact z, ?_⟩)
  have hf : H1 s1.heap.objs.size = none := I1.hok.fresh (Nat.le_refl _)
  refine ⟨.ref s1.heap.objs.size, upd H1 s1.heap.objs.size (.lst xs), I1.laid (t' := s1.toks) (fun b u e => Heap.get?_push_of_some _ e) (Nat.le_refl _) ?_, rfl, q _ hf⟩
  exact ⟨z, us, 0, r, Heap.get?_push_size _ rfl⟩
end
abbrev Sp := List V → Hp → VK → XK → Prop
abbrev CXT := List Env → Hp → Shared → XK → Value → Shared → Prop
structure Env0 (P : Program) (w : World) (K : PySem.W.Frag) (mg : Str → Option Value) (base : Heap) (A : Around) (outer : List Env) (s : Shared) (H : Hp) : Prop where
  frames : A.frames = some outer
  mod : Mod K mg base
  bs : ∀ b o, base.get? b = some o → s.heap.get? b = some o ∧ H b = none
  bsz : base.objs.size ≤ s.heap.objs.size
  funs : s.heap.FunFrames base outer
  frf : ∀ b ∈ frs outer, H b = none
  hok : HOk P w H s.heap
  bare : AllBare s.gens
def CE (outer : List Env) (P : Program) (w : World) (H : Hp) (s : Shared) (Q : VK) (u : Value) (s' : Shared) : Prop :=
  ∃ v H', s'.os = s.os ∧ AllBare s'.gens ∧ Un (frs outer) [] H H' s.heap s'.heap ∧ HOk P w H' s'.heap ∧ RelV v u ∧ Q v H'
def CR (CX : CXT) (outer : List Env) (P : Program) (w : World) (H : Hp) (s : Shared) (Q : VK) (E : XK) (r : Result) (s' : Shared) : Prop :=
  match r with
  | .ok (.ret u) => CE outer P w H s Q u s'
  | .ok _ => False
  | .error e => CX outer H s E e s'
structure FnOk (P : Program) (w : World) (K : PySem.W.Frag) (mg : Str → Option Value) (base : Heap) (CX : CXT) (k : Nat) (f : Addr) (fd : FuncData) (ps : List Str) (sp : Sp) : Prop where
  len : ∀ vs H Q E, sp vs H Q E → vs.length = ps.length
  run : ∀ (A : Around) (outer : List Env) (s : Shared) (H : Hp) (args : Args) (us : List Value) (vs : List V) (Q : VK) (E : XK), Room k A → Env0 P w K mg base A outer s H → BindsTo s fd args (ps.zip us) → Vals vs us → sp vs H Q E →
    codeAny (model P w) A (.call (.ref f) args) (CR CX outer P w H s Q E) s
theorem FnOk.mono {P : Program} {w : World} {K : PySem.W.Frag} {mg : Str → Option Value} {base : Heap} {CX : CXT} {j k : Nat} {f : Addr} {fd : FuncData} {ps : List Str} {sp : Sp} (F : FnOk P w K mg base CX j f fd ps sp) (h : j ≤ k) :
    FnOk P w K mg base CX k f fd ps sp := ⟨F.len, fun A outer s H args us vs Q E hr => F.run A outer s H args us vs Q E (hr.mono h)⟩
theorem Env0.make {P : Program} {w : World} {K : PySem.W.Frag} {mg : Str → Option Value} {base : Heap} {A : Around} {outer : List Env} {s : Shared} {H : Hp} (e : Env0 P w K mg base A outer s H) (C : Addr) (us : List Value) (kw : List (Str × Value)) :
    Env0 P w K mg base (A.under (.builtin "type.__call__" ⟨.ref C :: us, kw⟩)) outer s H := ⟨by first | exact e.frames | (simpa [Around.under, Code.envs, Code.isFrame, pushEnvs] using e.frames), e.mod, e.bs, e.bsz, e.funs, e.frf, e.hok, e.bare⟩
theorem Env0.in1 {P : Program} {w : World} {K : PySem.W.Frag} {mg : Str → Option Value} {base : Heap} {A : Around} {outer : List Env} {s : Shared} {H : Hp} (e : Env0 P w K mg base A outer s H) :
    Env0 P w K mg base A.in1 outer s H := ⟨e.frames, e.mod, e.bs, e.bsz, e.funs, e.frf, e.hok, e.bare⟩
section
variable {X : Cx} {pins : List (Addr × Obj)} {σ : St} {H : Hp} {s s' : Shared}
theorem Inv.env0 (I : Inv X pins σ H s) : Env0 X.prog X.w X.K X.mg X.base X.A X.stack s H :=
  ⟨I.ok.frames, I.ok.mod, I.bs, Nat.le_trans I.ok.bsz I.sz, I.stack, I.stkFree, I.hok, I.bare⟩
theorem Inv.after {Q : VK} {u : Value} (I : Inv X pins σ H s) (h : CE X.stack X.prog X.w H s Q u s') : EP X pins σ Q u s' := by
  obtain ⟨v, H', os, bare, un, hok, r, q⟩ := h
  obtain ⟨hh, g, d, t, os'⟩ := s'
  obtain rfl : os' = s.os := os
  exact ⟨v, H', I.call (h' := hh) (g' := g) (d' := d) (t' := t) (ch := []) un hok bare (fun b z => absurd z (by simp)), r, q⟩
end
def tCall (sp : Sp) (dvs : List V) (E : XK) (t : TA) : TE := fun σ H Q => t σ H fun vs H1 => sp (vs ++ dvs) H1 Q E
def tMeth (C : Addr) (m : Str) (sp : Sp) (dvs : List V) (E : XK) (ta : TE) (t : TA) : TE := fun σ H Q => ta σ H fun x H1 => ∃ a dx fs, x = .ref a ∧ H1 a = some (.ins C dx fs) ∧ fs.lookup m = none ∧
  t σ H1 fun vs H2 => sp (x :: (vs ++ dvs)) H2 Q E
def tMake (C : Addr) (sp : Sp) (dvs : List V) (E : XK) (t : TA) : TE := fun σ H Q => t σ H fun vs H1 => ∀ x dx, H1 x = none → H1 dx = none → dx ≠ x →
  sp (.ref x :: (vs ++ dvs)) (upd (upd H1 dx (.own x)) x (.ins C dx [])) (fun v H2 => v = .non ∧ Q (.ref x) H2) E
def Binds (K : PySem.W.Frag) (fd : FuncData) (ps : List Str) (ds : List Value) : Prop :=
  ∀ (s : Shared) (us : List Value), K.In s.heap → (us ++ ds).length = ps.length → BindsTo s fd ⟨us, []⟩ (ps.zip (us ++ ds))
theorem Binds.all {K : PySem.W.Frag} {fd : FuncData} {ps : List Str} (h : ∀ us : List Value, us.length = ps.length → bindArgs fd ⟨us, []⟩ = pure (ps.zip us)) : Binds K fd ps [] := fun s us _ hl => by
  rw [List.append_nil] at hl ⊢
  exact .of_eq (h us hl)
def Passes (CX : CXT) (X : Cx) (E : XK) : Prop := ∀ (pins : List (Addr × Obj)) (σ : St) (H : Hp) (s : Shared) (e : Value) (s' : Shared), Inv X pins σ H s → CX X.stack H s E e s' → X.xe e s'
section
variable {X : Cx} {CX : CXT} {k : Nat} {f C : Addr} {fd : FuncData} {ps : List Str} {sp : Sp} {dvs : List V} {ds : List Value} {E : XK} {x m : Str} {p pos apos : Pos} {e o : Expr} {es : List Expr} {ta : TE} {t : TA}
theorem run_fn {pins : List (Addr × Obj)} {σ : St} {H : Hp} {s : Shared} {Q : VK} {us : List Value} {vs : List V} (F : FnOk X.prog X.w X.K X.mg X.base CX k f fd ps sp) (hr : Room k X.A) (hb : Binds X.K fd ps ds) (hd : Vals dvs ds) (hx : Passes CX X E)
    (I : Inv X pins σ H s) (r : Vals vs us) (h : sp (vs ++ dvs) H Q E) : wpAny (model X.prog X.w) X.A (call (.ref f) us) (EP X pins σ Q) X.xe s := by
  have r2 : Vals (vs ++ dvs) (us ++ ds) := r.append hd
  have hl : (us ++ ds).length = ps.length := by rw [← r2.length]; exact F.len _ _ _ _ h
  refine wpAny_call (codeAny_mono (F.run X.A X.stack s H ⟨us, []⟩ (us ++ ds) (vs ++ dvs) Q E hr I.env0 (hb s us I.kIn hl) r2 h) fun r s' hq => ?_)
  cases r with
  | error e => exact hx pins σ H s e s' I hq
  | ok fl =>
    cases fl with
    | ret u => exact I.after hq
    | next => exact False.elim hq
    | brk => exact False.elim hq
    | cont => exact False.elim hq
theorem pe_call (F : FnOk X.prog X.w X.K X.mg X.base CX k f fd ps sp) (hr : Room k X.A) (hg : Gl X x) (hm : X.mg x = some (.ref f)) (hk : PySem.W.keepIn X.K (.ref f) = true) (hb : Binds X.K fd ps ds) (hd : Vals dvs ds) (hx : Passes CX X E)
    (ha : PA X (e :: es) t) (hdb : (x == ("__debug__" : Str)) = false := by decide) (he : starEach (e :: es) X.env = (false, eval e X.env) :: starEach es X.env := by rfl) (hpl : (backTo pos (starEach es X.env)).any (·.1) = false := by rfl) :
    PE X (.Call (.Name x p) (e :: es) [] pos) (tCall sp dvs E t) := by
  intro pins s σ H Q I h
  refine wpAny_Call_Name_kw (ld_glob I hg hm ?_ hdb)
  refine PySem.W.callWith_K (h₀ := X.base) I.ok.mod.kin hk (thn (ha pos pins s σ H _ I h) fun us s1 ⟨vs, H1, I1, r, q⟩ => ⟨I1.kIn, ?_⟩) he hpl
  exact run_fn F hr hb hd hx I1 r q
theorem pe_meth {pl : Sem Bool} (he : PE X o ta) (c : Cls X.K C) (hm : Meth X.K C m f) (F : FnOk X.prog X.w X.K X.mg X.base CX k f fd ps sp) (hr : Room k X.A) (hb : Binds X.K fd ps ds) (hd : Vals dvs ds) (hx : Passes CX X E) (ha : PA X (e :: es) t)
    (hst : starEach (e :: es) X.env = (false, eval e X.env) :: starEach es X.env := by rfl) (hpl : (backTo pos (starEach es X.env)).any (·.1) = false := by rfl)
    (ht : eval (.Call (.Attribute o m apos) (e :: es) [] pos) X.env = (do
      let ov ← eval o X.env
      standAt apos.atName
      let (f, first) ← holding [ov] (getMethod ov m pl)
      callWith pos f first (backTo pos (starEach (e :: es) X.env)) (backToKw pos (keywordEach [] X.env))) := by rfl) :
    PE X (.Call (.Attribute o m apos) (e :: es) [] pos) (tMeth C m sp dvs E ta t) := by
  intro pins s σ H Q I h
  refine PySem.W.methodCall_KW (pl := pl) (thn (he pins s σ H _ I h) fun u s1 ⟨x, H1, I1, rx, a, dx, fs, ex, ea, l, q⟩ => ?_) ht
  subst ex
  obtain rfl : u = Value.ref a := rx
  refine getmeth_ok I1 ea c hm l ?_
  refine PySem.W.callWith_K (first := [.ref a]) (h₀ := X.base) I.ok.mod.kin hm.kp (thn (ha pos pins s1 σ H1 _ I1 q) fun us s2 ⟨vs, H2, I2, r, q2⟩ => ⟨I2.kIn, ?_⟩) hst hpl
  exact run_fn (us := .ref a :: us) (vs := .ref a :: vs) F hr hb hd hx I2 (.cons rfl r) q2
theorem pe_meth0 {pl : Sem Bool} (he : PE X o ta) (c : Cls X.K C) (hm : Meth X.K C m f) (F : FnOk X.prog X.w X.K X.mg X.base CX k f fd ps sp) (hr : Room k X.A) (hb : Binds X.K fd ps ds) (hd : Vals dvs ds) (hx : Passes CX X E)
    (ht : eval (.Call (.Attribute o m apos) [] [] pos) X.env = (do
      let ov ← eval o X.env
      standAt apos.atName
      let (f, first) ← holding [ov] (getMethod ov m pl)
      callWith pos f first (backTo pos (starEach [] X.env)) (backToKw pos (keywordEach [] X.env))) := by rfl) :
    PE X (.Call (.Attribute o m apos) [] [] pos) (tMeth C m sp dvs E ta tNil) := by
  intro pins s σ H Q I h
  refine PySem.W.methodCall_KW (pl := pl) (thn (he pins s σ H _ I h) fun u s1 ⟨x, H1, I1, rx, a, dx, fs, ex, ea, l, q⟩ => ?_) ht
  subst ex
  obtain rfl : u = Value.ref a := rx
  refine getmeth_ok I1 ea c hm l ?_
  exact PySem.W.callWith_K0 (first := [.ref a]) I1.kIn hm.kp (run_fn (us := [.ref a]) (vs := [.ref a]) F hr hb hd hx I1 (.cons rfl .nil) q)
structure Mk (K : PySem.W.Frag) (C f : Addr) : Prop where
  makes : PySem.W.makesIn K C = true
  init : PySem.W.findIn K (.ref C) "__init__" = some (some (.ref f))
  fn : PySem.W.isFn K (.ref f) = true
  kp : PySem.W.keepIn K (.ref C) = true
theorem run_make {pins : List (Addr × Obj)} {σ : St} {H : Hp} {s : Shared} {Q : VK} {us : List Value} {vs : List V} (M : Mk X.K C f) (F : FnOk X.prog X.w X.K X.mg X.base CX k f fd ps sp) (hr : Room (k + 1) X.A) (hb : Binds X.K fd ps ds) (hd : Vals dvs ds)
    (hx : Passes CX X E) (I : Inv X pins σ H s) (r : Vals vs us)
    (h : ∀ x dx, H x = none → H dx = none → dx ≠ x → sp (.ref x :: (vs ++ dvs)) (upd (upd H dx (.own x)) x (.ins C dx [])) (fun v H2 => v = .non ∧ Q (.ref x) H2) E) :
    wpAny (model X.prog X.w) X.A (call (.ref C) us) (EP X pins σ Q) X.xe s := by
  have hq := h (s.heap.objs.size + 1) s.heap.objs.size (I.hok.fresh (Nat.le_succ _)) (I.hok.fresh (Nat.le_refl _)) (Nat.ne_of_lt (Nat.lt_succ_self _))
  have I2 := Inv.made (C := C) I
  have r2 : Vals (V.ref (s.heap.objs.size + 1) :: (vs ++ dvs)) (Value.ref (s.heap.objs.size + 1) :: (us ++ ds)) := .cons rfl (r.append hd)
  have hl : (Value.ref (s.heap.objs.size + 1) :: us ++ ds).length = ps.length := by
    have e := r2.length
    rw [F.len _ _ _ _ hq] at e
    exact e.symm
  refine wpAny_call (make_map (f := f) I.kIn M.makes M.init (beq_iff_eq.mp M.fn) (codeAny_mono (F.run _ X.stack _ _ ⟨Value.ref (s.heap.objs.size + 1) :: us, []⟩ (Value.ref (s.heap.objs.size + 1) :: (us ++ ds)) _ _ E (hr.make C us [])
    (I2.env0.make C us []) (hb _ (Value.ref (s.heap.objs.size + 1) :: us) I2.kIn hl) r2 hq) fun r s' hq' => ?_))
  cases r with
  | error e => exact hx pins σ _ _ e s' I2 hq'
  | ok fl =>
    cases fl with
    | ret u =>
      obtain ⟨v, H', I3, rv, ev, q3⟩ := I2.after hq'
      subst ev
      exact ⟨rv, ⟨V.ref (s.heap.objs.size + 1), H', I3, rfl, q3⟩⟩
    | next => exact False.elim hq'
    | brk => exact False.elim hq'
    | cont => exact False.elim hq'
theorem pe_make (M : Mk X.K C f) (F : FnOk X.prog X.w X.K X.mg X.base CX k f fd ps sp) (hr : Room (k + 1) X.A) (hg : Gl X x) (hm : X.mg x = some (.ref C)) (hb : Binds X.K fd ps ds) (hd : Vals dvs ds) (hx : Passes CX X E)
    (ha : PA X (e :: es) t) (hdb : (x == ("__debug__" : Str)) = false := by decide) (he : starEach (e :: es) X.env = (false, eval e X.env) :: starEach es X.env := by rfl) (hpl : (backTo pos (starEach es X.env)).any (·.1) = false := by rfl) :
    PE X (.Call (.Name x p) (e :: es) [] pos) (tMake C sp dvs E t) := by
  intro pins s σ H Q I h
  refine wpAny_Call_Name_kw (ld_glob I hg hm ?_ hdb)
  refine PySem.W.callWith_K (h₀ := X.base) I.ok.mod.kin M.kp (thn (ha pos pins s σ H _ I h) fun us s1 ⟨vs, H1, I1, r, q⟩ => ⟨I1.kIn, ?_⟩) he hpl
  exact run_make M F hr hb hd hx I1 r q
end
section
variable {X : Cx} {CX : CXT} {k : Nat} {f C : Addr} {fd : FuncData} {ps ks : List Str} {sp : Sp} {E : XK} {x m : Str} {p pos apos kpos : Pos} {e o : Expr} {es : List Expr} {kws : List Keyword} {te ta : TE} {t tk : TA} {nm : Option Str}
structure KBinds (K : PySem.W.Frag) (fd : FuncData) (ps ks : List Str) (g : List Value → List Value → List Value) (gV : List V → List V → List V) : Prop where
  to : ∀ (s : Shared) (us ws : List Value), K.In s.heap → (g us ws).length = ps.length → BindsTo s fd ⟨us, ks.zip ws⟩ (ps.zip (g us ws))
  rel : ∀ {vs : List V} {us : List Value} {zs : List V} {ws : List Value}, Vals vs us → Vals zs ws → Vals (gV vs zs) (g us ws)
variable {g : List Value → List Value → List Value} {gV : List V → List V → List V}
end
structure FnScope (N P : List Str) (sc : Scope) : Prop where
  kind : sc.kind = .function
  co : sc.isCoroutine = false
  gen : sc.isGenerator = false
  nd : N.Nodup
  pre : N.take P.length = P
  par : ∀ x ∈ P, sc.names.lookup x = some .local ∨ sc.names.lookup x = some .cell
  nofree : ∀ y ∈ sc.names, y.2 ≠ .free
theorem bindL_out {kindOf : Str → Option NameKind} {x : Str} : ∀ {binds : List (Str × Value)} {m : Str → Option Value}, (∀ v, (x, v) ∉ binds) → bindL kindOf binds m x = m x
  | [], _, _ => rfl
  | (n, v) :: r, m, h => by
    unfold bindL
    rw [bindL_out fun w hw => h w (List.mem_cons_of_mem _ hw)]
    split
    · have : x ≠ n := by rintro rfl; exact h v List.mem_cons_self
      simp [this]
    · rfl
theorem bindC_out {kindOf : Str → Option NameKind} {x : Str} : ∀ {binds : List (Str × Value)} {m : Str → Option Value}, (∀ v, (x, v) ∉ binds) → bindC kindOf binds m x = m x
  | [], _, _ => rfl
  | (n, v) :: r, m, h => by
    unfold bindC
    rw [bindC_out fun w hw => h w (List.mem_cons_of_mem _ hw)]
    split
    · rfl
    · have : x ≠ n := by rintro rfl; exact h v List.mem_cons_self
      simp [this]
theorem bindL_get {kindOf : Str → Option NameKind} {x : Str} {v : Value} : ∀ {P : List Str} {vs : List Value} {i : Nat} {m : Str → Option Value}, P.Nodup → P[i]? = some x → vs[i]? = some v → kindOf x = some .local →
    bindL kindOf (P.zip vs) m x = some v
  | [], _, _, _, _, h, _, _ => by simp at h
  | _ :: _, [], _, _, _, _, h, _ => by simp at h
  | p :: P, w :: vs, 0, m, nd, h1, h2, hk => by
    simp at h1 h2; subst h1; subst h2
    show bindL kindOf ((p, w) :: P.zip vs) m p = _
    unfold bindL
    rw [bindL_out fun v hv => (List.nodup_cons.mp nd).1 (List.of_mem_zip hv).1, if_pos hk]
    simp
  | p :: P, w :: vs, i + 1, m, nd, h1, h2, hk => by
    show bindL kindOf ((p, w) :: P.zip vs) m x = _
    unfold bindL
    exact bindL_get (i := i) (List.nodup_cons.mp nd).2 (by simpa using h1) (by simpa using h2) hk
theorem bindC_get {kindOf : Str → Option NameKind} {x : Str} {v : Value} : ∀ {P : List Str} {vs : List Value} {i : Nat} {m : Str → Option Value}, P.Nodup → P[i]? = some x → vs[i]? = some v → kindOf x ≠ some .local →
    bindC kindOf (P.zip vs) m x = some v
  | [], _, _, _, _, h, _, _ => by simp at h
  | _ :: _, [], _, _, _, _, h, _ => by simp at h
  | p :: P, w :: vs, 0, m, nd, h1, h2, hk => by
    simp at h1 h2; subst h1; subst h2
    show bindC kindOf ((p, w) :: P.zip vs) m p = _
    unfold bindC
    rw [bindC_out fun v hv => (List.nodup_cons.mp nd).1 (List.of_mem_zip hv).1, if_neg hk]
    simp
  | p :: P, w :: vs, i + 1, m, nd, h1, h2, hk => by
    show bindC kindOf ((p, w) :: P.zip vs) m x = _
    unfold bindC
    exact bindC_get (i := i) (List.nodup_cons.mp nd).2 (by simpa using h1) (by simpa using h2) hk
def start (N : List Str) (vs : List V) : St := vs.map some ++ List.replicate (N.length - vs.length) none
def cxOf (CX : CXT) (P : Program) (w : World) (K : PySem.W.Frag) (mg : Str → Option Value) (base : Heap) (N : List Str) (qual : Str) (scope : Scope) (f : Addr) (cd : Value) (A : Around) (outer : List Env) (s : Shared) (H : Hp) (E : XK) : Cx where
  prog := P
  w := w
  K := K
  mg := mg
  base := base
  A := A.deeper (envOfC qual scope s.heap.objs.size f cd)
  N := N
  s₀ := s
  H₀ := H
  env := envOfC qual scope s.heap.objs.size f cd
  outer := outer
  stack := envOfC qual scope s.heap.objs.size f cd :: outer
  ex := []
  calm := true
  fn := fun _ => true
  pn := []
  xe := fun e s' => wpAny (model P w) (A.deeper (envOfC qual scope s.heap.objs.size f cd)) (leaving (envOfC qual scope s.heap.objs.size f cd) e) (fun _ s'' => CX outer H s E e s'') (fun e' s'' => CX outer H s E e' s'') s'
theorem cell_has {sc : Scope} {n : Nat} {x : Str} (h : sc.names.lookup x = some .cell) : ∃ c, (cellsFrom n sc.names []).lookup x = some c := by
  have q := PySem.W.cellsFrom_some sc.names n [] (.inl h)
  exact Option.isSome_iff_exists.mp q
theorem inv_start {CX : CXT} {P : Program} {w : World} {K : PySem.W.Frag} {mg : Str → Option Value} {base : Heap} {N ps : List Str} {qual : Str} {scope : Scope} {f : Addr} {cd : Value} {A : Around} {outer : List Env} {s s1 : Shared} {H : Hp} {E : XK} {us : List Value} {vs : List V}
    (S : FnScope N ps scope) (hd : A.handled = none) (e0 : Env0 P w K mg base A outer s H) (hl : vs.length = ps.length) (r : Vals vs us)
    (x : InCallC s s.heap.objs.size (bindL (envOfC qual scope s.heap.objs.size f cd).kindOf (ps.zip us) fun _ => none) (cellsFrom (s.heap.objs.size + 1) scope.names []) (bindC (envOfC qual scope s.heap.objs.size f cd).kindOf (ps.zip us) fun _ => none) s1) :
    Inv (cxOf CX P w K mg base N qual scope f cd A outer s H E) [] (start N vs) H s1 := by
  have hpl : ps.length ≤ N.length := by have := congrArg List.length S.pre; rw [List.length_take] at this; omega
  obtain ⟨h1, tk, rfl, hk⟩ := x.done
  have noA : ∀ b : Addr, b ∉ (cxOf CX P w K mg base N qual scope f cd A outer s H E).ex := fun b z => absurd (show b ∈ ([] : List Addr) from z) (by simp)
  refine ⟨⟨e0.mod, S.kind, rfl, rfl, Nat.le_refl _, fun y z c h1 h2 => ?_, fun y hy => ?_, fun y c _ h => ?_, fun _ => hd, Around.frames_deeper e0.frames, .inr ⟨rfl, rfl⟩, fun b z => absurd z (noA b), e0.bs, e0.bsz, fun b _ _ => noA b, fun b z => absurd z (noA b), e0.funs, e0.frf⟩,
    rfl, e0.bare, Un.kept hk, ⟨_, x.toInCall.ns, fun i y v h1 h2 h3 => ?_⟩, fun y c h => ⟨_, x.cell y c h⟩, e0.hok.fresh (Nat.le_refl _), fun y c h => ?_, fun p hp => absurd (show p ∈ ([] : List (Addr × Obj)) from hp) (by simp), e0.hok.kept hk, ?_⟩
  · exact name_of_addr x.apart (PySem.mem_of_lookup h1) (PySem.mem_of_lookup h2)
  · have hy : scope.names.lookup y = some .cell ∨ scope.names.lookup y = some .free := hy
    rcases hy with hy | hy
    · exact cell_has hy
    · exact absurd rfl (S.nofree _ (PySem.mem_of_lookup hy))
  · exact Nat.le_of_lt (x.above y c (PySem.mem_of_lookup h))
  · have hi : i < vs.length := by
      unfold start at h2
      by_cases hi : i < vs.length
      · exact hi
      · rw [List.getElem?_append_right (by simpa using hi)] at h2
        rw [List.getElem?_replicate] at h2
        split at h2 <;> cases h2
    have ha : vs[i]? = some v := by
      unfold start at h2
      rw [List.getElem?_append_left (by simpa using hi), List.getElem?_map] at h2
      cases e : vs[i]? with
      | none => rw [e] at h2; cases h2
      | some a => rw [e] at h2; cases h2; rfl
    obtain ⟨u, hu, rv⟩ := r.get ha
    have hp : ps[i]? = some y := by
      rw [← S.pre, List.getElem?_take_of_lt (by omega)]; exact h1
    have ndP : ps.Nodup := by rw [← S.pre]; exact S.nd.sublist (List.take_sublist _ _)
    refine ⟨u, rv, ?_⟩
    rcases S.par y (List.mem_of_getElem? hp) with k | k
    · exact .inl ⟨k, bindL_get ndP hp hu k⟩
    · obtain ⟨c, e⟩ := cell_has (n := s.heap.objs.size + 1) k
      refine .inr ⟨.inl k, c, e, ?_⟩
      have q := x.cell y c e
      rw [bindC_get ndP hp hu (by show scope.names.lookup y ≠ _; rw [k]; decide)] at q
      exact q
  · exact e0.hok.fresh (Nat.le_of_lt (x.above y c (PySem.mem_of_lookup h)))
  · unfold start
    show _ = N.length
    rw [List.length_append, List.length_map, List.length_replicate]
    omega
theorem fn_of {CX : CXT} {P : Program} {w : World} {K : PySem.W.Frag} {mg : Str → Option Value} {base : Heap} {k : Nat} {f : Addr} {name qual : Str} {params : Arguments} {body : List Stmt} {scope : Scope} {dV kV doc pm cdv ct oc : Value} {an od : Option Addr}
    {osl : Array (Option Value)} {N ps : List Str} {sp : Sp} (lk : K.lookup f = some ⟨oc, od, .func (PySem.W.fnOf name qual params body scope dV kV doc pm an cdv ct), osl⟩) (hcd : PySem.W.codeIn K cdv qual = true) (S : FnScope N ps scope)
    (len : ∀ vs H Q E, sp vs H Q E → vs.length = ps.length)
    (hbody : ∀ (A : Around) (outer : List Env) (s : Shared) (H : Hp) (vs : List V) (Q : VK) (E : XK), Room k (A.deeper (envOfC qual scope s.heap.objs.size f cdv)) → sp vs H Q E →
      ∃ t, PSs (cxOf CX P w K mg base N qual scope f cdv A outer s H E) body t ∧ t { nx := fun _ H' => Q .non H', rt := Q } (start N vs) H) :
    FnOk P w K mg base CX (k + 1) f (PySem.W.fnOf name qual params body scope dV kV doc pm an cdv ct) ps sp := by
  refine ⟨len, fun A outer s H args us vs Q E hr e0 hb r hsp => ?_⟩
  have hl := len _ _ _ _ hsp
  have KX : K.In s.heap := e0.mod.kin.keeps fun b o e => (e0.bs b o e).1
  have lim : s.heap.NoLimit := e0.mod.nolimit.keeps fun b o e => (e0.bs b o e).1
  have hkind : ∀ y ∈ ps.zip us, scope.names.lookup y.1 = some .local ∨ (scope.names.lookup y.1 = some .cell ∧ ((cellsFrom (s.heap.objs.size + 1) scope.names []).lookup y.1).isSome = true) := fun ⟨n, v⟩ hy => by
    rcases S.par n (List.of_mem_zip hy).1 with q | q
    · exact .inl q
    · exact .inr ⟨q, PySem.W.cellsFrom_some _ _ _ (.inl q)⟩
  refine codeAny_call_function hr.depth (KX _ _ lk) rfl S.co S.gen rfl (PySem.W.codeRec_of KX hcd) (hb _ _ _ _ ?_)
  refine wpAny_newFunctionEnv_cells S.kind hkind fun env he s1 x => ?_
  subst he
  refine ⟨lim.keeps x.toInCall.keep, codeAny_func ?_⟩
  obtain ⟨t, ht, hq⟩ := hbody A outer s H vs Q E (hr.deeper _) hsp
  have I : Inv (cxOf CX P w K mg base N qual scope f cdv A outer s H E) [] (start N vs) H s1 := inv_start S hr.hd e0 hl r x
  refine wpAny_mono (ht [] s1 (start N vs) H _ I hq) (fun fl s' hs => ?_) fun e s' hs => hs
  have fin : ∀ {σ' : St} {H' : Hp} {v : V} {u : Value}, Inv (cxOf CX P w K mg base N qual scope f cdv A outer s H E) [] σ' H' s' → RelV v u → Q v H' → CE outer P w H s Q u s' :=
    fun {σ' H' v u} J rv q => ⟨v, H', J.os, J.bare, J.base, J.hok, rv, q⟩
  cases fl with
  | ret u =>
    obtain ⟨v, σ', H', J, rv, q⟩ := hs
    exact fin J rv q
  | next =>
    obtain ⟨σ', H', J, q⟩ := hs
    exact fin (v := V.non) (u := Value.none) J rfl q
  | brk =>
    obtain ⟨_, _, _, q⟩ := hs
    exact False.elim q
  | cont =>
    obtain ⟨_, _, _, q⟩ := hs
    exact False.elim q
end L2
namespace L2
open PySem PySem.Spec PyProof.Rows
section
variable {X : Cx} {x : Str} {p pos : Pos} {e : Expr} {es : List Expr} {t : TA} {id T : String} {r : List V → Hp → VK → Prop}
def tCB (r : List V → Hp → VK → Prop) (t : TA) : TE := fun σ H Q => t σ H fun vs H1 => r vs H1 Q
theorem pe_callB (hc : CallR X (.builtin id) r) (hg : Gl X x) (hm : X.mg x = none) (hv : bootBuiltins x = some (.builtin id)) (ha : PA X (e :: es) t) (hn : x ≠ "__name__" := by decide) (hdb : (x == ("__debug__" : Str)) = false := by decide)
    (he : starEach (e :: es) X.env = (false, eval e X.env) :: starEach es X.env := by rfl) (hpl : (backTo pos (starEach es X.env)).any (·.1) = false := by rfl) : PE X (.Call (.Name x p) (e :: es) [] pos) (tCB r t) := by
  intro pins s σ H Q I h
  refine wpAny_Call_Name_kw (ld_blt I hg hm hv ?_ hn hdb)
  exact PyProof.Rows.callWith_builtin1 (thn (ha pos pins s σ H _ I h) fun us s1 ⟨vs, H1, I1, r1, q1⟩ => hc pins s1 σ H1 vs us Q I1 r1 q1) he hpl
theorem pe_callTy (hc : CallR X (.type T) r) (hg : Gl X x) (hm : X.mg x = none) (hv : bootBuiltins x = some (.type T)) (ha : PA X (e :: es) t) (hn : x ≠ "__name__" := by decide) (hdb : (x == ("__debug__" : Str)) = false := by decide)
    (he : starEach (e :: es) X.env = (false, eval e X.env) :: starEach es X.env := by rfl) (hpl : (backTo pos (starEach es X.env)).any (·.1) = false := by rfl) : PE X (.Call (.Name x p) (e :: es) [] pos) (tCB r t) := by
  intro pins s σ H Q I h
  refine wpAny_Call_Name_kw (ld_blt I hg hm hv ?_ hn hdb)
  exact PyProof.Rows.callWith_type1 (thn (ha pos pins s σ H _ I h) fun us s1 ⟨vs, H1, I1, r1, q1⟩ => hc pins s1 σ H1 vs us Q I1 r1 q1) he hpl
end
end L2
namespace HT
open PySem PyProof.Rows
def lexLt : List Int → List Int → Bool
  | [], [] => false
  | [], _ :: _ => true
  | _ :: _, [] => false
  | x :: xs, y :: ys => if x = y then lexLt xs ys else decide (x < y)
theorem lexLt_cons (x y : Int) (xs ys : List Int) : lexLt (x :: xs) (y :: ys) = if x = y then lexLt xs ys else decide (x < y) := rfl
theorem lexLt_nil_nil : lexLt [] [] = false := rfl
theorem lexLt_nil_cons (y : Int) (ys : List Int) : lexLt [] (y :: ys) = true := rfl
theorem lexLt_cons_nil (x : Int) (xs : List Int) : lexLt (x :: xs) [] = false := rfl
theorem eqAt_int (A : Around) (s : Shared) (a : Int) (t : Tok) (c : Int) (u : Tok) : ∃ e, SeqAt.EqAt A s (.int a t) (.int c u) e ∧ (e = true ↔ a = c) :=
  ⟨(a == c), SeqAt.EqAt.int_int a t c u, by simp⟩
theorem rcLt_int (A : Around) (s : Shared) (a : Int) (t : Tok) (c : Int) (u : Tok) (prog : Program) (w : World) (E : Value → Shared → Prop) (Q : Value → Shared → Prop) (h : Q (.bool (decide (a < c))) s) :
    wpAny (model prog w) A (richCompare .Lt (.int a t) (.int c u)) Q E s :=
  (PyProof.Rows.lt_int h : wpAny (model prog w) A (compareOp .Lt (.int a t) (.int c u)) Q E s)
section
open PySem.SeqAt
open PySem.AutoSeq1 (wpAny_loadPart')
open PySem.MeetsSeq PySem.MeetsSeq2 PySem.MeetsSeq3
end
section
variable {prog : Program} {w : World} {A : Around} {E : Value → Shared → Prop} {s : Shared}
theorem cat_tup {t b : Addr} {vs ws : List Value} {Q : Value → Shared → Prop} (ht : IsTup s.heap t vs.toArray) (hb : IsTup s.heap b ws.toArray) (hv : vs ≠ [])
    (h1 : ws = [] → Q (.ref t) s) (h2 : ws ≠ [] → Q (.ref s.heap.objs.size) { s with heap := s.heap.push { cls := .type "tuple", data := .seq (vs ++ ws).toArray } })
    (hsz : vs.length + ws.length ≤ sizeLine) : wpAny (model prog w) A (binaryOp .Add (.ref t) (.ref b)) Q E s := by
  obtain ⟨⟨cls, dd, data, sl⟩, ho, hc, n, hd⟩ := id ht
  obtain ⟨⟨cls2, dd2, data2, sl2⟩, ho2, hc2, n2, hd2⟩ := id hb
  simp only at hc hd hc2 hd2
  subst hc hd hc2 hd2
  have e : vs.toArray ++ ws.toArray = (vs ++ ws).toArray := by simp
  by_cases hw : ws = []
  · exact concat_meets ⟨_, ho, rfl⟩ ⟨_, ho2, rfl⟩ noFill_tuple_add seq_tuple_add PySem.F.slot_tuple_add PySem.F.entry_tuple_add (PySem.F.args_tuple_add_2 _ _)
      (tuple_addW1 t b vs.toArray ws.toArray n n2 dd dd2 sl sl2 (by simpa using hv) (by simp [hw])) ⟨ho, ho2, h1 hw⟩
  · refine concat_meets ⟨_, ho, rfl⟩ ⟨_, ho2, rfl⟩ noFill_tuple_add seq_tuple_add PySem.F.slot_tuple_add PySem.F.entry_tuple_add (PySem.F.args_tuple_add_2 _ _)
      (tuple_addW2 t b vs.toArray ws.toArray n n2 dd dd2 sl sl2 (by simpa using hv) (by simpa using hw) (by rw [List.size_toArray, List.size_toArray]; exact hsz)) ⟨ho, ho2, ?_⟩
    rw [e]
    exact h2 hw
def sIx (n d : Nat) : Option Int → Nat
  | none => d
  | some v => if v < 0 then (v + (n : Int)).toNat else min v.toNat n
theorem sIx_none (n d : Nat) : sIx n d none = d := rfl
theorem sIx_nat (n d k : Nat) : sIx n d (some (k : Int)) = min k n := by
  show (if (k : Int) < 0 then ((k : Int) + (n : Int)).toNat else min (k : Int).toNat n) = min k n
  rw [if_neg (by omega), Int.toNat_natCast]
end
end HT
namespace L2
open PySem PySem.Spec PyProof.Rows
abbrev TO := St → Hp → (Option Int → Hp → Prop) → Prop
def PO (X : Cx) (e : Option Expr) (t : TO) : Prop :=
  ∀ (pins : List (Addr × Obj)) (s : Shared) (σ : St) (H : Hp) (Q : Option Int → Hp → Prop), Inv X pins σ H s → t σ H Q →
    wpAny (model X.prog X.w) X.A (evalPart e X.env) (fun u s' => ∃ o H', Inv X pins σ H' s' ∧ IsPart u o ∧ Q o H') X.xe s
def tNoPart : TO := fun _ H Q => Q none H
def tPart (t : TE) : TO := fun σ H Q => t σ H fun x H1 => ∃ i, x = .int i ∧ Q (some i) H1
theorem intsAre_of {ns : List Int} : ∀ {us : List Value}, Vals (ns.map V.int) us → IntsAre us ns := by
  induction ns with
  | nil => intro us r; rw [List.map_nil] at r; cases r; exact .nil
  | cons n ns ih =>
    intro us r
    rw [List.map_cons] at r
    cases r with
    | cons r1 r2 =>
      obtain ⟨t, e⟩ := r1
      subst e
      exact .cons n t (ih r2)
section
variable {X : Cx} {e : Expr} {te : TE} {lo hi : Option Expr} {tl th : TO} {pos p2 : Pos}
theorem po_none : PO X none tNoPart := by
  intro pins s σ H Q I h
  rw [evalPart_none]
  exact wpAny_pure ⟨none, H, I, .none, h⟩
theorem po_some (h : PE X e te) : PO X (some e) (tPart te) := by
  intro pins s σ H Q I hw
  rw [evalPart_some]
  refine thn (h pins s σ H _ I hw) fun u s1 ⟨x, H1, I1, r1, q1⟩ => ?_
  obtain ⟨i, rfl, q⟩ := q1
  obtain ⟨t, rfl⟩ := r1
  exact ⟨some i, H1, I1, .int i t, q⟩
def SlR (X : Cx) (r : V → Option Int → Option Int → Hp → VK → Prop) : Prop :=
  ∀ (pins : List (Addr × Obj)) (s : Shared) (σ : St) (H : Hp) (x : V) (v vl vu : Value) (lo hi : Option Int) (sl : Addr) (Q : VK), Inv X pins σ H s → RelV x v → s.heap.IsSliceOf sl vl vu .none → IsPart vl lo → IsPart vu hi → r x lo hi H Q →
    ∃ T id, typeLookup (.type T) "__getitem__" = pure (some (.builtin id)) ∧ s.TypeIs v T ∧ wpAny (model X.prog X.w) X.A (getItem v (.ref sl)) (EP X pins σ Q) X.xe s
theorem SlR.or {r r' : V → Option Int → Option Int → Hp → VK → Prop} (h : SlR X r) (h' : SlR X r') : SlR X (fun x lo hi H Q => r x lo hi H Q ∨ r' x lo hi H Q) := by
  intro pins s σ H x v vl vu lo hi sl Q I rx hs pl pu q
  rcases q with q | q
  · exact h pins s σ H x v vl vu lo hi sl Q I rx hs pl pu q
  · exact h' pins s σ H x v vl vu lo hi sl Q I rx hs pl pu q
def tSl (r : V → Option Int → Option Int → Hp → VK → Prop) (te : TE) (tl th : TO) : TE := fun σ H Q => te σ H fun x H1 => tl σ H1 fun l H2 => th σ H2 fun u H3 => r x l u H3 Q
theorem pe_slice {r : V → Option Int → Option Int → Hp → VK → Prop} (hr : SlR X r) (he : PE X e te) (hl : PO X lo tl) (hu : PO X hi th) : PE X (.Subscript e (.Slice lo hi none p2) pos) (tSl r te tl th) := by
  intro pins s σ H Q I h
  refine Subscript_ (thn (he pins s σ H _ I h) fun v s1 ⟨x, H1, I1, r1, q1⟩ => ?_)
  refine wpAny_Slice (thn (hl pins s1 σ H1 _ I1 q1) fun vl s2 ⟨l, H2, I2, pl, q2⟩ => thn (hu pins s2 σ H2 _ I2 q2) fun vu s3 ⟨u, H3, I3, pu, q3⟩ => ?_)
  rw [evalPart_none]
  refine wpAny_pure ?_
  have I4 : Inv X pins σ H3 { s3 with heap := s3.heap.push { cls := .type "slice", data := .fields #[vl, vu, .none] } } := I3.kept (t' := s3.toks) fun b ob q => Heap.get?_push_of_some _ q
  obtain ⟨T, id, hT, ht, hg⟩ := hr pins { s3 with heap := s3.heap.push { cls := .type "slice", data := .fields #[vl, vu, .none] } } σ H3 x v vl vu l u s3.heap.objs.size Q I4 r1 (Heap.IsSliceOf.new ..) pl pu q3
  show wpAny (model X.prog X.w) X.A (subscriptTail e (.Slice lo hi none p2) v (.ref s3.heap.objs.size)) (EP X pins σ Q) X.xe { s3 with heap := s3.heap.push { cls := .type "slice", data := .fields #[vl, vu, .none] } }
  exact tail_any (ops := [.ref s3.heap.objs.size, v]) ht hT hg (by with_unfolding_all rfl)
def cutV (xs : List V) (lo hi : Option Int) : List V := (xs.drop (HT.sIx xs.length 0 lo)).take (HT.sIx xs.length xs.length hi - HT.sIx xs.length 0 lo)
theorem cutV_length (xs : List V) (lo hi : Option Int) : (cutV xs lo hi).length ≤ xs.length := by
  unfold cutV
  rw [List.length_take, List.length_drop]
  omega
def rCatT (K : PySem.W.Frag) : R2 := fun x y H Q => ∃ a b xs ys, x = .ref a ∧ y = .ref b ∧ SqT K H a xs ∧ SqT K H b ys ∧ xs ≠ [] ∧ xs.length + ys.length ≤ sizeLine ∧
  (ys = [] → Q (.ref a) H) ∧ (ys ≠ [] → ∀ p, H p = none → Q (.ref p) (upd H p (.tup (xs ++ ys))))
theorem Vals.nil_iff {xs : List V} {us : List Value} (r : Vals xs us) : us = [] ↔ xs = [] := by
  cases r with
  | nil => simp
  | cons _ _ => simp
theorem op_catT : OpR X (binaryOp .Add) (rCatT X.K) := by
  intro pins s σ H x y v u Q I rx ry h
  obtain ⟨a, b, xs, ys, rfl, rfl, ha, hb, hx, hz, q1, q2⟩ := h
  cases rx
  cases ry
  obtain ⟨its, r1, p1, _⟩ := I.tuple ha
  obtain ⟨its2, r2, p2, _⟩ := I.tuple hb
  refine HT.cat_tup p1 p2 (fun z => hx (r1.nil_iff.mp z)) (fun z => ⟨.ref a, H, I, rfl, q1 (r2.nil_iff.mp z)⟩) (fun z => ?_) (by rw [← r1.length, ← r2.length]; exact hz)
  refine ⟨.ref s.heap.objs.size, _, I.laid (t' := s.toks) (o := .tup (xs ++ ys)) (fun b ob q => Heap.get?_push_of_some _ q) (Nat.le_refl _) ?_, rfl, q2 (fun w => z (r2.nil_iff.mpr w)) _ (I.hok.fresh (Nat.le_refl _))⟩
  exact ⟨by rw [List.length_append]; exact hz, _, r1.append r2, IsTup.new _ _⟩
end
end L2
namespace L2
open PySem PySem.Spec PyProof.Rows
def ixN (n : Nat) (i : Int) : Option Nat := if 0 ≤ i then (if i < n then some i.toNat else none) else if -(n : Int) ≤ i then some (i + n).toNat else none
def atI {α : Type} (xs : List α) (i : Int) : Option α := (ixN xs.length i).bind fun j => xs[j]?
theorem ixN_seq {n : Nat} {i : Int} {j : Nat} (h : ixN n i = some j) : seqIndex? i n = some j ∧ j < n ∧ -(n : Int) ≤ i ∧ i < n := by
  unfold ixN at h
  by_cases h0 : 0 ≤ i
  · rw [if_pos h0] at h
    by_cases h1 : i < n
    · rw [if_pos h1] at h
      have e : i.toNat = j := Option.some.inj h
      exact ⟨by rw [seqIndex_of h0 h1, e], by omega, by omega, h1⟩
    · rw [if_neg h1] at h; cases h
  · rw [if_neg h0] at h
    by_cases h1 : -(n : Int) ≤ i
    · rw [if_pos h1] at h
      have e : (i + n).toNat = j := Option.some.inj h
      exact ⟨by rw [seqIndex_neg (by omega) h1, e], by omega, h1, by omega⟩
    · rw [if_neg h1] at h; cases h
theorem atI_get {α : Type} {xs : List α} {i : Int} {v : α} (h : atI xs i = some v) : ∃ j, seqIndex? i xs.length = some j ∧ xs[j]? = some v ∧ j < xs.length ∧ -(xs.length : Int) ≤ i ∧ i < xs.length := by
  unfold atI at h
  cases e : ixN xs.length i with
  | none => rw [e] at h; cases h
  | some j =>
    rw [e] at h
    obtain ⟨h1, h2, h3, h4⟩ := ixN_seq e
    exact ⟨j, h1, h, h2, h3, h4⟩
theorem atI_nat {α : Type} {xs : List α} {j : Nat} {v : α} (h : xs[j]? = some v) : atI xs (j : Int) = some v := by
  have hj : j < xs.length := (List.getElem?_eq_some_iff.mp h).1
  have e : ixN xs.length (j : Int) = some j := by
    unfold ixN
    rw [if_pos (by omega), if_pos (by omega)]; simp
  unfold atI; rw [e]; exact h
def PlainIx (b : Expr) : Prop := ∀ o i, subscripted b false o i = operate [o, i] (getItem o i)
def IxR (X : Cx) (r : R2) : Prop :=
  ∀ (value slice : Expr) (pins : List (Addr × Obj)) (s : Shared) (σ : St) (H : Hp) (x y : V) (v u : Value) (Q : VK), Inv X pins σ H s → RelV x v → RelV y u → r x y H Q →
    subscripted slice false v u = operate [v, u] (getItem v u) → wpAny (model X.prog X.w) X.A (subscriptTail value slice v u) (EP X pins σ Q) X.xe s
def MtR (X : Cx) (id : String) (r : V → List V → Hp → VK → Prop) : Prop :=
  ∀ (pins : List (Addr × Obj)) (s : Shared) (σ : St) (H : Hp) (x : V) (xs : List V) (v : Value) (us : List Value) (Q : VK), Inv X pins σ H s → RelV x v → Vals xs us → r x xs H Q →
    wpAny (model X.prog X.w) X.A (call (.builtin id) (v :: us)) (EP X pins σ Q) X.xe s
section
variable {X : Cx} {a b : Expr} {ta tb : TE} {pos : Pos}
theorem IxR.or {r r' : R2} (h : IxR X r) (h' : IxR X r') : IxR X (fun x y H Q => r x y H Q ∨ r' x y H Q) := by
  intro value slice pins s σ H x y v u Q I rx ry q hs
  rcases q with q | q
  · exact h value slice pins s σ H x y v u Q I rx ry q hs
  · exact h' value slice pins s σ H x y v u Q I rx ry q hs
theorem MtR.or {id : String} {r r' : V → List V → Hp → VK → Prop} (h : MtR X id r) (h' : MtR X id r') : MtR X id (fun x xs H Q => r x xs H Q ∨ r' x xs H Q) := by
  intro pins s σ H x xs v us Q I rx rs q
  rcases q with q | q
  · exact h pins s σ H x xs v us Q I rx rs q
  · exact h' pins s σ H x xs v us Q I rx rs q
theorem pe_ix {r : R2} (hr : IxR X r) (ha : PE X a ta) (hb : PE X b tb) (hs : PlainIx b) : PE X (.Subscript a b pos) (tOp r ta tb) := by
  intro pins s σ H Q I h
  exact Subscript_ (binT ha hb I h fun v u s2 x y H2 I2 rx ry q => hr a b pins s2 σ H2 x y v u Q I2 rx ry q (hs _ _))
def rIxL (K : PySem.W.Frag) : R2 := fun x y H Q => ∃ p xs i v, x = .ref p ∧ y = .int i ∧ SqL K H p xs ∧ atI xs i = some v ∧ Q v H
def rIxT (K : PySem.W.Frag) : R2 := fun x y H Q => ∃ p xs i v, x = .ref p ∧ y = .int i ∧ SqT K H p xs ∧ atI xs i = some v ∧ Q v H
def rIxS : R2 := fun x y H Q => ∃ z i c, x = .str z ∧ y = .int i ∧ z.length ≤ sizeLine ∧ atI z.cps.toList i = some c ∧ Q (.str ⟨#[c]⟩) H
theorem ix_list : IxR X (rIxL X.K) := by
  intro value slice pins s σ H x y v u Q I rx ry h hs
  obtain ⟨p, xs, i, z, rfl, rfl, hq, he, q⟩ := h
  cases rx
  obtain ⟨t, rfl⟩ := ry
  obtain ⟨its, r, pl, hz⟩ := I.list hq
  obtain ⟨j, h1, h2, h3, h4, h5⟩ := atI_get he
  obtain ⟨w, ew, rw'⟩ := r.get h2
  have hl := r.length
  have hn := line63
  have fin : EP X pins σ Q w s := ⟨z, H, I, rw', q⟩
  by_cases h0 : 0 ≤ i
  · have hj : i.toNat = j := by
      rw [seqIndex_of h0 h5] at h1
      exact Option.some.inj h1
    exact item_listR pl.isList h0 (by omega) (by rw [hj]; simpa using ew) fin hs
  · have hj : (i + (its.toArray.size : Int)).toNat = j := by
      rw [seqIndex_neg (by omega) h4] at h1
      rw [List.size_toArray, ← hl]
      exact Option.some.inj h1
    exact subscriptTail_builtinR (x := w) pl.isList.typeIs slot_list_getitem.lookup
      (wpAny_getItem_list_neg (Q := fun r s' => r = w ∧ EP X pins σ Q r s') pl.isList (by omega) (by rw [List.size_toArray] <;> omega) (by omega) (by rw [hj]; simpa using ew) ⟨rfl, fin⟩) hs
theorem ix_tup : IxR X (rIxT X.K) := by
  intro value slice pins s σ H x y v u Q I rx ry h hs
  obtain ⟨p, xs, i, z, rfl, rfl, hq, he, q⟩ := h
  cases rx
  obtain ⟨t, rfl⟩ := ry
  obtain ⟨its, r, pl, hz⟩ := I.tuple hq
  obtain ⟨j, h1, h2, h3, h4, h5⟩ := atI_get he
  obtain ⟨w, ew, rw'⟩ := r.get h2
  have hl := r.length
  have hn := line63
  have fin : EP X pins σ Q w s := ⟨z, H, I, rw', q⟩
  exact subscriptTail_builtinR (x := w) pl.typeIs slot_tuple_getitem.lookup
    (getItem_tuple (j := j) (Q := fun r s' => r = w ∧ EP X pins σ Q r s') pl (by omega) (by omega) (by rw [List.size_toArray, ← hl]; exact h1) (by simpa using ew) ⟨rfl, fin⟩) hs
theorem ix_str : IxR X rIxS := by
  intro value slice pins s σ H x y v u Q I rx ry h hs
  obtain ⟨z, i, c, rfl, rfl, hz, he, q⟩ := h
  obtain ⟨t, rfl⟩ := rx
  obtain ⟨t', rfl⟩ := ry
  obtain ⟨j, h1, h2, h3, h4, h5⟩ := atI_get he
  have hl : z.cps.toList.length = z.length := by simp [Str.length]
  rw [hl] at h1 h4 h5
  have hn := line63
  exact tail_any (typeIs_str s z t) slot_str_getitem.lookup (getItem_str (c := c) (by
    have e1 : decide (i < -(2 ^ 63 : Int)) = false := decide_eq_false (by omega)
    have e2 : decide (i ≥ 2 ^ 63) = false := decide_eq_false (by omega)
    rw [e1, e2, Bool.or_false]) (by rw [h1]; simpa using h2) ⟨.str ⟨#[c]⟩, H, I.tok _, ⟨_, rfl⟩, q⟩) hs
theorem mapSeq_set (its : List Value) (n j : Nat) (u : Value) : Obj.mapSeq (·.setIfInBounds j u) { cls := .type "list", data := .seq its.toArray n } = { cls := .type "list", data := .seq (its.set j u).toArray n } := by
  simp [Obj.mapSeq]
theorem Inv.lst {pins : List (Addr × Obj)} {σ : St} {H : Hp} {s : Shared} {p : Addr} {xs : List V} (I : Inv X pins σ H s) (h : H p = some (.lst xs)) :
    ∃ (its : List Value) (n : Nat), Vals xs its ∧ s.heap.get? p = some { cls := .type "list", data := .seq its.toArray n } ∧ xs.length ≤ sizeLine := by
  obtain ⟨z, its, n, r, e⟩ := I.hok p _ h
  exact ⟨its, n, r, e, z⟩
theorem Inv.lstUpd {pins : List (Addr × Obj)} {σ : St} {H : Hp} {s : Shared} {p : Addr} {xs ys : List V} {its its' : List Value} {n n' : Nat} {f : Obj → Obj} (I : Inv X pins σ H s) (h : H p = some (.lst xs))
    (ho : s.heap.get? p = some { cls := .type "list", data := .seq its.toArray n }) (hf : f { cls := .type "list", data := .seq its.toArray n } = { cls := .type "list", data := .seq its'.toArray n' }) (r : Vals ys its') (hz : ys.length ≤ sizeLine) (t : Nat) :
    Inv X pins σ (upd H p (.lst ys)) { s with heap := s.heap.update p f, toks := t } := by
  have e : (s.heap.update p f).get? p = some { cls := .type "list", data := .seq its'.toArray n' } := by
    rw [Heap.get?_update_self f ho (by rw [hf] <;> rfl), hf]
  refine I.write (x := p) (e := p) (by rw [h]; trivial) (.inl rfl) (fun b u hb q => (Heap.get?_update_other _ _ (Ne.symm hb)).trans q) ⟨_, e⟩ ?_
  exact ⟨hz, its', n', r, e⟩
def rSetL : V → V → V → Hp → (Hp → Prop) → Prop := fun o i v H Q => ∃ p xs k j, o = .ref p ∧ i = .int k ∧ H p = some (.lst xs) ∧ ixN xs.length k = some j ∧ Q (upd H p (.lst (xs.set j v)))
theorem set_list : PSet X rSetL := by
  intro pins s σ H o i v ov iv u Q I ro ri rv h
  obtain ⟨p, xs, k, j, rfl, rfl, hp, hj, q⟩ := h
  cases ro
  obtain ⟨t, rfl⟩ := ri
  obtain ⟨its, n, r, ho, hz⟩ := I.lst hp
  obtain ⟨h1, h2, h3, h4⟩ := ixN_seq hj
  have hl := r.length
  have hn := line63
  have I' : Inv X pins σ (upd H p (.lst (xs.set j v))) { s with heap := s.heap.update p (Obj.mapSeq (·.setIfInBounds j u)) } :=
    I.lstUpd hp ho (mapSeq_set its n j u) (r.set rv j) (by rw [List.length_set]; exact hz) s.toks
  by_cases h0 : 0 ≤ k
  · have hk : k.toNat = j := by
      rw [seqIndex_of h0 h4] at h1
      exact Option.some.inj h1
    exact PySem.W.ki_setAt ho h0 (by omega) (by rw [List.size_toArray, ← hl]; exact h4) (by rw [hk]; exact ⟨_, I', q⟩)
  · have hk : (k + (its.toArray.size : Int)).toNat = j := by
      rw [seqIndex_neg (by omega) h3] at h1
      rw [List.size_toArray, ← hl]
      exact Option.some.inj h1
    exact PySem.W.ki_setBack ho (by omega) (by rw [List.size_toArray, ← hl]; exact h3) (by omega) (by rw [hk]; exact ⟨_, I', q⟩)
theorem slice_bounds (lo hi : Option Int) (n : Nat) : (sliceBounds lo hi none n).1 = ((HT.sIx n 0 lo : Nat) : Int) ∧ (sliceBounds lo hi none n).2.1 = ((HT.sIx n n hi : Nat) : Int) ∧ (sliceBounds lo hi none n).2.2 = 1 := by
  refine ⟨?_, ?_, rfl⟩
  · cases lo with
    | none => simp [sliceBounds, HT.sIx]
    | some i =>
      simp only [sliceBounds, HT.sIx, Option.getD_none, show (1 : Int) > 0 by decide, if_true]
      by_cases h : i < 0
      · simp only [h, if_true] <;> omega
      · simp only [h, if_false] <;> omega
  · cases hi with
    | none => simp [sliceBounds, HT.sIx]
    | some i =>
      simp only [sliceBounds, HT.sIx, Option.getD_none, show (1 : Int) > 0 by decide, if_true]
      by_cases h : i < 0
      · simp only [h, if_true] <;> omega
      · simp only [h, if_false] <;> omega
theorem slicePick_cut (its : List Value) (lo hi : Option Int) : slicePick its.toArray lo hi none = ((its.drop (HT.sIx its.length 0 lo)).take (HT.sIx its.length its.length hi - HT.sIx its.length 0 lo)).toArray := by
  obtain ⟨h1, h2, h3⟩ := slice_bounds lo hi its.toArray.size
  unfold slicePick
  rw [h1, h2, h3]
  simp only [sliceRange_one, pick_run, List.size_toArray] <;> rfl
def rSlL (K : PySem.W.Frag) : V → Option Int → Option Int → Hp → VK → Prop := fun x lo hi H Q => ∃ a xs, x = .ref a ∧ SqL K H a xs ∧ ∀ p, H p = none → Q (.ref p) (upd H p (.lst (cutV xs lo hi)))
theorem sl_list : SlR X (rSlL X.K) := by
  intro pins s σ H x v vl vu lo hi sl Q I rx hs pl pu h
  obtain ⟨a, xs, rfl, hx, q⟩ := h
  cases rx
  obtain ⟨its, r, ht, hz⟩ := I.list hx
  have hlen := r.length
  refine ⟨"list", _, slot_list_getitem.lookup, ht.isList.typeIs, ?_⟩
  refine wpAny_getItem_list_slice ht.isList hs pl pu .none (by simp) ?_ (by rw [List.size_toArray] <;> omega)
  rw [slicePick_cut, ← hlen]
  refine ⟨.ref s.heap.objs.size, _, I.laid (t' := s.toks) (o := .lst (cutV xs lo hi)) (fun b ob q => Heap.get?_push_of_some _ q) (Nat.le_refl _) ?_, rfl, q _ (I.hok.fresh (Nat.le_refl _))⟩
  exact ⟨Nat.le_trans (cutV_length xs lo hi) hz, _, 0, (r.drop (HT.sIx xs.length 0 lo)).take (HT.sIx xs.length xs.length hi - HT.sIx xs.length 0 lo), Heap.get?_push_size _ rfl⟩
theorem call_len_seq : CallR X (.builtin "len") (fun xs H Q => ∃ p ys, xs = [.ref p] ∧ (SqL X.K H p ys ∨ SqT X.K H p ys) ∧ Q (.int ys.length) H) := by
  intro pins s σ H xs us Q I r h
  obtain ⟨p, ys, rfl, hq, q⟩ := h
  obtain ⟨u, rfl, rx⟩ := vals1 r
  cases rx
  have hn := line63
  rcases hq with hq | hq
  · obtain ⟨its, r', pl, hz⟩ := I.list hq
    have hlen := r'.length
    exact Calls.call_len_list pl.isList (by simp only [List.size_toArray] <;> omega) ⟨.int ys.length, H, I.tok _, ⟨s.toks + 1, by rw [List.size_toArray, hlen]⟩, q⟩
  · obtain ⟨its, r', pl, hz⟩ := I.tuple hq
    have hlen := r'.length
    exact len_tuple pl (by simp only [List.size_toArray] <;> omega) ⟨.int ys.length, H, I.tok _, ⟨s.toks + 1, by rw [List.size_toArray, hlen]⟩, q⟩
theorem call_len_str : CallR X (.builtin "len") (fun xs H Q => ∃ z, xs = [.str z] ∧ z.length ≤ sizeLine ∧ Q (.int z.length) H) := by
  intro pins s σ H xs us Q I r h
  obtain ⟨z, rfl, hz, q⟩ := h
  obtain ⟨u, rfl, t, rfl⟩ := vals1 r
  have hn := line63
  exact len_str (by omega) ⟨.int z.length, H, I.tok _, ⟨_, rfl⟩, q⟩
theorem CallR.or {f : Value} {r r' : List V → Hp → VK → Prop} (h : CallR X f r) (h' : CallR X f r') : CallR X f (fun xs H Q => r xs H Q ∨ r' xs H Q) := by
  intro pins s σ H xs us Q I rs q
  rcases q with q | q
  · exact h pins s σ H xs us Q I rs q
  · exact h' pins s σ H xs us Q I rs q
theorem call_list_of : CallR X (.type "list") (fun xs H Q => ∃ p ys, xs = [.ref p] ∧ (SqL X.K H p ys ∨ SqT X.K H p ys) ∧ ∀ l, H l = none → Q (.ref l) (upd H l (.lst ys))) := by
  intro pins s σ H xs us Q I r h
  obtain ⟨p, ys, rfl, hq, q⟩ := h
  obtain ⟨u, rfl, rx⟩ := vals1 r
  cases rx
  have fin : ∀ (its : List Value), Vals ys its → ys.length ≤ sizeLine → ∀ (h' : Heap) (c' : Nat), (∀ b o', s.heap.get? b = some o' → h'.get? b = some o') →
      h'.get? s.heap.objs.size = some { cls := .type "list", dict := none, data := .seq its.toArray c', slots := #[] } → EP X pins σ Q (.ref s.heap.objs.size) { s with heap := h' } := fun its r' hz h' c' kp e =>
    ⟨.ref s.heap.objs.size, _, I.laid (t' := s.toks) kp (Nat.le_refl _) (show ObjOk X.prog X.w _ h' _ (.lst ys) from ⟨hz, its, c', r', e⟩), rfl, q _ (I.hok.fresh (Nat.le_refl _))⟩
  rcases hq with hq | hq
  · obtain ⟨its, r', pl, hz⟩ := I.list hq
    have hlen := r'.length
    obtain ⟨o, ho, hc, n, hd⟩ := pl.isList
    exact call_list_seq p (.inl rfl) ho hc hd (fun h' c' kp e => fin its r' hz h' c' kp e) (by simp only [List.size_toArray] <;> omega)
  · obtain ⟨its, r', pl, hz⟩ := I.tuple hq
    have hlen := r'.length
    obtain ⟨o, ho, hc, n, hd⟩ := pl
    exact call_list_seq p (.inr rfl) ho hc hd (fun h' c' kp e => fin its r' hz h' c' kp e) (by simp only [List.size_toArray] <;> omega)
theorem call_tuple_of : CallR X (.type "tuple") (fun xs H Q => ∃ p ys, xs = [.ref p] ∧ ((SqL X.K H p ys ∧ ∀ l, H l = none → Q (.ref l) (upd H l (.tup ys))) ∨ (SqT X.K H p ys ∧ Q (.ref p) H))) := by
  intro pins s σ H xs us Q I r h
  obtain ⟨p, ys, rfl, h⟩ := h
  obtain ⟨u, rfl, rx⟩ := vals1 r
  cases rx
  rcases h with ⟨hq, q⟩ | ⟨hq, q⟩
  · obtain ⟨its, r', pl, hz⟩ := I.list hq
    have hlen := r'.length
    refine call_tuple_list pl.isList (fun h' kp => ?_) (by simp only [List.size_toArray] <;> omega)
    have I1 : Inv X pins σ H { s with heap := h' } := I.kept (t' := s.toks) kp
    have I2 : Inv X pins σ (upd H h'.objs.size (.tup ys)) { s with heap := h'.push { cls := .type "tuple", data := .seq its.toArray } } :=
      I1.laid (t' := s.toks) (fun b o e => Heap.get?_push_of_some _ e) (Nat.le_refl _) (show ObjOk X.prog X.w _ _ _ (.tup ys) from ⟨hz, its, r', IsTup.new _ _⟩)
    exact ⟨.ref h'.objs.size, _, I2, rfl, q _ (I1.hok.fresh (Nat.le_refl _))⟩
  · obtain ⟨its, r', pl, hz⟩ := I.tuple hq
    exact call_tuple_same pl ⟨.ref p, H, I, rfl, q⟩
def tyV (K : PySem.W.Frag) (T : String) (x : V) (H : Hp) : Prop := match x with
  | .str _ => T = "str"
  | .int _ => T = "int"
  | .ref p => (T = "list" ∧ ∃ xs, SqL K H p xs) ∨ (T = "tuple" ∧ ∃ o, K.lookup p = some o ∧ o.cls = .type "tuple" ∧ o.dict = none) ∨
      (T = "dict" ∧ ((∃ kvs, H p = some (.dK kvs)) ∨ ∃ kvs, H p = some (.dT kvs))) ∨ (T = "set" ∧ ∃ S n, H p = some (.set S n))
  | _ => False
theorem tyV_is {pins : List (Addr × Obj)} {σ : St} {H : Hp} {s : Shared} {T : String} {x : V} {v : Value} (I : Inv X pins σ H s) (r : RelV x v) (ty : tyV X.K T x H) :
    s.TypeIs v T ∧ ∀ a, v = .ref a → ∃ ob, s.heap.get? a = some ob ∧ ob.dict = none := by
  cases x with
  | str z =>
    obtain ⟨t, rfl⟩ := r
    cases (show T = "str" from ty)
    exact ⟨typeIs_str s z t, fun _ e => nomatch e⟩
  | int i =>
    obtain ⟨t, rfl⟩ := r
    cases (show T = "int" from ty)
    exact ⟨typeIs_int s i t, fun _ e => nomatch e⟩
  | ref p =>
    cases r
    rcases ty with ⟨rfl, xs, hq⟩ | ⟨rfl, o, hk, hc, hd⟩ | ⟨rfl, hk⟩ | ⟨rfl, S, n, hk⟩
    · obtain ⟨its, _, pl, _⟩ := I.list hq
      refine ⟨pl.isList.typeIs, fun a e => ?_⟩
      cases e
      obtain ⟨o, n, e, c, hd, _⟩ := pl
      exact ⟨o, e, hd⟩
    · refine ⟨⟨o, I.kIn p o hk, hc⟩, fun a e => ?_⟩
      cases e
      exact ⟨o, I.kIn _ o hk, hd⟩
    · have z : ∃ o, s.heap.get? p = some o ∧ o.ExactDict := by
        rcases hk with ⟨kvs, hk⟩ | ⟨kvs, hk⟩
        · obtain ⟨_, _, _, _, o, _, _, e, ex, _⟩ := I.hok p _ hk
          exact ⟨o, e, ex⟩
        · obtain ⟨_, _, _, _, o, _, _, e, ex, _⟩ := I.hok p _ hk
          exact ⟨o, e, ex⟩
      obtain ⟨o, e, ex⟩ := z
      refine ⟨⟨o, e, ex.1⟩, fun a e2 => ?_⟩
      cases e2
      exact ⟨o, e, ex.2.1⟩
    · obtain ⟨o, _, _, _, e, ex, _⟩ := I.hok p _ hk
      refine ⟨⟨o, e, ex.1⟩, fun a e2 => ?_⟩
      cases e2
      exact ⟨o, e, ex.2.1⟩
  | _ => exact False.elim ty
def tBM0 (K : PySem.W.Frag) (T : String) (r : V → List V → Hp → VK → Prop) (to : TE) : TE := fun σ H Q => to σ H fun x H1 => tyV K T x H1 ∧ r x [] H1 Q
def tBM (K : PySem.W.Frag) (T : String) (r : V → List V → Hp → VK → Prop) (to : TE) (t : TA) : TE := fun σ H Q => to σ H fun x H1 => tyV K T x H1 ∧ t σ H1 fun xs H2 => r x xs H2 Q
variable {o e : Expr} {es : List Expr} {to : TE} {t : TA} {name : Str} {apos cpos : Pos} {T id : String} {r : V → List V → Hp → VK → Prop}
theorem pe_bm0 (pa : PlainAttrs T) (slot : Slot T name id) (hty : typeOf (.builtin id) = pure (.type "method_descriptor")) (hm : MtR X id r) (ho : PE X o to)
    (hbase : attributeBase o name X.env (eval o X.env) = eval o X.env := by rfl) (hline : (apos.endLine == cpos.line) = true := by rfl) : PE X (.Call (.Attribute o name apos) [] [] cpos) (tBM0 X.K T r to) := by
  intro pins s σ H Q I h
  refine wpAny_Call_method0_late hbase hline (thn (ho pins s σ H _ I h) fun v s1 ⟨x, H1, I1, r1, ty, q1⟩ => ?_)
  obtain ⟨h1, h2⟩ := tyV_is I1 r1 ty
  exact ⟨T, id, pa, slot, hty, h1, h2, Calls.callWith_builtin rfl (PySem.evalArgs_none (hm pins s1 σ H1 x [] v [] Q I1 r1 .nil q1))⟩
theorem pe_bm (pa : PlainAttrs T) (slot : Slot T name id) (hty : typeOf (.builtin id) = pure (.type "method_descriptor")) (hm : MtR X id r) (ho : PE X o to) (ha : PA X (e :: es) t)
    (hbase : attributeBase o name X.env (eval o X.env) = eval o X.env := by rfl)
    (hfew : ((backTo cpos (starEach (e :: es) X.env)).all (fun x => !x.1) && (backToKw cpos (keywordEach [] X.env)).all (fun x => x.1.isSome)
      && decide ((e :: es).length + ([] : List Keyword).length + (if ([] : List Keyword).isEmpty then 0 else 1) < 30)) = true := by rfl)
    (hline : (apos.endLine == cpos.line) = true := by rfl) (hs : starEach (e :: es) X.env = (false, eval e X.env) :: starEach es X.env := by rfl) (hplain : (backTo cpos (starEach es X.env)).any (·.1) = false := by rfl) :
    PE X (.Call (.Attribute o name apos) (e :: es) [] cpos) (tBM X.K T r to t) := by
  intro pins s σ H Q I h
  refine wpAny_Call_method_late hbase hfew hline rfl (thn (ho pins s σ H _ I h) fun v s1 ⟨x, H1, I1, r1, ty, q1⟩ => ?_)
  obtain ⟨h1, h2⟩ := tyV_is I1 r1 ty
  refine ⟨T, id, pa, slot, hty, h1, h2, ?_⟩
  have hA := ha cpos pins s1 σ H1 _ I1 q1
  rw [hs] at hA ⊢
  refine Calls.callWith_builtin (by show (false || (backTo cpos (starEach es X.env)).any (·.1)) = false; rw [hplain] <;> rfl) (Calls.evalArgs_plain ?_)
  exact thn hA fun us s2 ⟨vs, H2, I2, r2, q2⟩ => hm pins s2 σ H2 x vs v us Q I2 r1 r2 q2
end
end L2
namespace L2
open PySem PySem.Spec PyProof.Rows
def MtM (X : Cx) (id : String) (r : V → List V → Hp → VK → Prop) : Prop :=
  ∀ (pins : List (Addr × Obj)) (s : Shared) (σ : St) (H : Hp) (x : V) (xs : List V) (v : Value) (us : List Value) (Q : VK), Inv X pins σ H s → RelV x v → Vals xs us → r x xs H Q →
    wpAny (model X.prog X.w) X.A (call (.builtin id) (v :: us)) (EP X pins σ Q) X.xe s
theorem Vals.one : ∀ {x : V} {us : List Value}, Vals [x] us → ∃ u, us = [u] ∧ RelV x u
  | _, _, .cons r .nil => ⟨_, rfl, r⟩
theorem Vals.two : ∀ {x y : V} {us : List Value}, Vals [x, y] us → ∃ u v, us = [u, v] ∧ RelV x u ∧ RelV y v
  | _, _, _, .cons r (.cons q .nil) => ⟨_, _, rfl, r, q⟩
theorem Vals.zero : ∀ {us : List Value}, Vals [] us → us = []
  | _, .nil => rfl
theorem Vals.eraseIdx : ∀ {xs : List V} {us : List Value} (i : Nat), Vals xs us → Vals (xs.eraseIdx i) (us.eraseIdx i)
  | _, _, _, .nil => .nil
  | _, _, 0, .cons _ t => t
  | _, _, i + 1, .cons r t => .cons r (Vals.eraseIdx i t)
theorem Vals.reverse {xs : List V} {us : List Value} (h : Vals xs us) : Vals xs.reverse us.reverse := by
  induction h with
  | nil => exact .nil
  | cons r t ih => rw [List.reverse_cons, List.reverse_cons]; exact Vals.append ih (.cons r .nil)
section
variable {X : Cx} {pins : List (Addr × Obj)} {σ : St} {H : Hp} {s : Shared} {l b : Addr} {xs ys zs : List V}
theorem Inv.lset {its its' : List Value} {n : Nat} {f : Array Value → Array Value} {t' : Nat} (I : Inv X pins σ H s) (hH : H l = some (.lst xs))
    (e : s.heap.get? l = some { cls := .type "list", data := .seq its.toArray n }) (hf : f its.toArray = its'.toArray) (hv : Vals ys its') (hz : ys.length ≤ sizeLine) :
    Inv X pins σ (upd H l (.lst ys)) { s with heap := s.heap.update l (Obj.mapSeq f), toks := t' } := by
  have q := PySem.IsL.update e f
  rw [hf] at q
  refine I.write (x := l) (e := l) (by rw [hH]; exact trivial) (.inl rfl) (fun b' u hb hu => (Heap.get?_update_other s.heap (Obj.mapSeq f) (Ne.symm hb)).trans hu) ⟨_, q⟩ ?_
  exact ⟨hz, its', _, hv, q⟩
theorem Inv.lnew {its : List Value} {t' : Nat} (I : Inv X pins σ H s) (hv : Vals ys its) (hz : ys.length ≤ sizeLine) :
    Inv X pins σ (upd H s.heap.objs.size (.lst ys)) { s with heap := s.heap.push { cls := .type "list", data := .seq its.toArray }, toks := t' } :=
  I.laid (fun _ _ q => Heap.get?_push_of_some _ q) (Nat.le_refl _) ⟨hz, its, 0, hv, Heap.get?_push_size _ rfl⟩
theorem Inv.fresh (I : Inv X pins σ H s) : H s.heap.objs.size = none := I.hok.fresh (Nat.le_refl _)
theorem Inv.lstM (I : Inv X pins σ H s) (hH : H l = some (.lst xs)) : xs.length ≤ sizeLine ∧ ∃ (its : List Value) (n : Nat), Vals xs its ∧ xs.length = its.length ∧ s.heap.get? l = some { cls := .type "list", data := .seq its.toArray n } := by
  obtain ⟨z, its, n, r, e⟩ := I.hok l _ hH
  exact ⟨z, its, n, r, r.length, e⟩
end
section
variable {X : Cx}
def rAppend : V → List V → Hp → VK → Prop := fun x vs H Q => ∃ l xs y, x = .ref l ∧ vs = [y] ∧ H l = some (.lst xs) ∧ xs.length < sizeLine ∧ Q .non (upd H l (.lst (xs ++ [y])))
theorem mt_append : MtM X "list.append" rAppend := by
  intro pins s σ H x vs v us Q I rx rv h
  obtain ⟨l, xs, y, rfl, rfl, hH, hz, q⟩ := h
  cases rx
  obtain ⟨u, rfl, ru⟩ := rv.one
  obtain ⟨z, its, n, r, hl, e⟩ := I.lstM hH
  refine call_meets F.slot_list_append ⟨_, e, rfl⟩ F.entry_list_append (F.args_list_append_2 _ _) (PySem.list_append l its.toArray n u (by rw [List.size_toArray]; omega)) ⟨e, ?_⟩
  refine ⟨.non, _, I.lset (its' := its ++ [u]) hH e (by simp) (r.append (.cons ru .nil)) ?_, rfl, q⟩
  rw [List.length_append, List.length_singleton]
  omega
def rClear : V → List V → Hp → VK → Prop := fun x vs H Q => ∃ l xs, x = .ref l ∧ vs = [] ∧ H l = some (.lst xs) ∧ Q .non (upd H l (.lst []))
theorem mt_clear : MtM X "list.clear" rClear := by
  intro pins s σ H x vs v us Q I rx rv h
  obtain ⟨l, xs, rfl, rfl, hH, q⟩ := h
  cases rx
  have hus := rv.zero
  subst hus
  obtain ⟨z, its, n, r, hl, e⟩ := I.lstM hH
  refine call_meets F.slot_list_clear ⟨_, e, rfl⟩ F.entry_list_clear (F.args_list_clear_1 _) (AutoSeq1.list_clear_list_0 l its.toArray n (by rw [List.size_toArray]; omega)) ⟨e, ?_⟩
  exact ⟨.non, _, I.lset (its' := []) (ys := []) hH e rfl .nil (Nat.zero_le _), rfl, q⟩
end
section
variable {prog : Program} {w : World} {A : Around} {E : Value → Shared → Prop} {s : Shared}
set_option maxRecDepth 100000 in
end
section
variable {X : Cx}
end
end L2
namespace L2
open PySem PySem.Spec PyProof.Rows
section
variable {κ : Type} [DecidableEq κ]
def valV (kvs : List (κ × V)) (k : κ) : Option V := (kvs.find? fun kv => decide (kv.1 = k)).map (·.2)
def putK (kvs : List (κ × V)) (k : κ) (v : V) : List (κ × V) :=
  if (kvs.any fun kv => decide (kv.1 = k)) = true then kvs.map (fun kv => if kv.1 = k then (kv.1, v) else kv) else kvs ++ [(k, v)]
def dropK (kvs : List (κ × V)) (k : κ) : List (κ × V) := kvs.filter fun kv => decide (kv.1 ≠ k)
theorem valV_pos {p : κ × V} {r : List (κ × V)} {k : κ} (e : p.1 = k) : valV (p :: r) k = some p.2 := by simp [valV, List.find?_cons, e]
theorem valV_neg {p : κ × V} {r : List (κ × V)} {k : κ} (e : ¬ p.1 = k) : valV (p :: r) k = valV r k := by simp [valV, List.find?_cons, e]
theorem valV_any (k : κ) : ∀ kvs : List (κ × V), (kvs.any fun kv => decide (kv.1 = k)) = (valV kvs k).isSome
  | [] => rfl
  | p :: r => by
    rw [List.any_cons]
    by_cases e : p.1 = k
    · simp only [valV_pos e, decide_eq_true e, Bool.true_or, Option.isSome_some]
    · rw [valV_neg e, decide_eq_false e, Bool.false_or]; exact valV_any k r
theorem valV_map (k j : κ) (y : V) : ∀ kvs : List (κ × V), valV (kvs.map fun kv => if kv.1 = k then (kv.1, y) else kv) j = (valV kvs j).map fun x => if j = k then y else x
  | [] => rfl
  | p :: r => by
    have ih := valV_map k j y r
    rw [List.map_cons]
    by_cases h : p.1 = k
    · rw [if_pos h]
      by_cases e : p.1 = j
      · rw [valV_pos (p := (p.1, y)) e, valV_pos e, Option.map_some, if_pos (e.symm.trans h)]
      · rw [valV_neg (p := (p.1, y)) e, valV_neg e, ih]
    · rw [if_neg h]
      by_cases e : p.1 = j
      · rw [valV_pos (p := p) e, valV_pos e, Option.map_some, if_neg (fun z => h (e.trans z))]
      · rw [valV_neg (p := p) e, valV_neg e, ih]
theorem valV_snoc (k j : κ) (y : V) : ∀ kvs : List (κ × V), valV kvs k = none → valV (kvs ++ [(k, y)]) j = if j = k then some y else valV kvs j
  | [], _ => by
    by_cases e : k = j
    · rw [if_pos e.symm]; exact valV_pos (p := (k, y)) e
    · rw [if_neg (fun z => e z.symm)]; exact valV_neg (p := (k, y)) e
  | p :: r, hn => by
    rw [List.cons_append]
    have hk : ¬ p.1 = k := fun z => by rw [valV_pos z] at hn; cases hn
    rw [valV_neg hk] at hn
    have ih := valV_snoc k j y r hn
    by_cases e : p.1 = j
    · rw [valV_pos e, valV_pos e, if_neg (fun z => hk (e.trans z))]
    · rw [valV_neg e, valV_neg e, ih]
theorem valV_put (kvs : List (κ × V)) (k j : κ) (y : V) : valV (putK kvs k y) j = if j = k then some y else valV kvs j := by
  unfold putK
  by_cases a : (kvs.any fun kv => decide (kv.1 = k)) = true
  · rw [if_pos a, valV_map]
    rw [valV_any] at a
    by_cases e : j = k
    · obtain ⟨x, hx⟩ := Option.isSome_iff_exists.mp a
      rw [if_pos e, e, hx, Option.map_some, if_pos rfl]
    · rw [if_neg e]
      cases valV kvs j with
      | none => rfl
      | some x => rw [Option.map_some, if_neg e]
  · rw [if_neg a]
    refine valV_snoc k j y kvs ?_
    rw [valV_any] at a
    cases q : valV kvs k with
    | none => rfl
    | some x => rw [q] at a; exact (a rfl).elim
theorem length_putK (kvs : List (κ × V)) (k : κ) (v : V) : (putK kvs k v).length ≤ kvs.length + 1 := by
  unfold putK
  split
  · rw [List.length_map]; omega
  · rw [List.length_append, List.length_cons, List.length_nil]; omega
theorem putK_new {kvs : List (κ × V)} {k : κ} (v : V) (h : valV kvs k = none) : putK kvs k v = kvs ++ [(k, v)] := by
  unfold putK
  rw [valV_any, h]
  exact if_neg (by decide)
theorem RelO.isSome_eq {o : Option V} {u : Option Value} (r : RelO o u) : o.isSome = u.isSome := by
  cases o with
  | none => cases u with
    | none => rfl
    | some _ => exact (show False from r).elim
  | some _ => cases u with
    | none => exact (show False from r).elim
    | some _ => rfl
theorem RelO.getD {o : Option V} {u : Option Value} {d : V} {d' : Value} (r : RelO o u) (rd : RelV d d') : RelV (o.getD d) (u.getD d') := by
  cases o with
  | none => cases u with
    | none => exact rd
    | some _ => exact (show False from r).elim
  | some _ => cases u with
    | none => exact (show False from r).elim
    | some _ => exact r
theorem KV.val {kvs : List (κ × V)} {vs : List (κ × Value)} (r : KV kvs vs) (k : κ) : RelO (valV kvs k) (valueAt vs k) := by
  unfold KV at r
  induction r with
  | nil => exact True.intro
  | @cons p q ps qs h t ih =>
    obtain ⟨h1, h2⟩ := h
    by_cases e : p.1 = k
    · have e' : q.1 = k := h1.symm.trans e
      have b : valueAt (q :: qs) k = some q.2 := by simp [valueAt, List.find?_cons, e']
      rw [valV_pos e, b]; exact h2
    · have e' : ¬ q.1 = k := fun z => e (h1.trans z)
      have b : valueAt (q :: qs) k = valueAt qs k := by simp [valueAt, List.find?_cons, e']
      rw [valV_neg e, b]; exact ih
theorem KV.any {kvs : List (κ × V)} {vs : List (κ × Value)} (r : KV kvs vs) (k : κ) : (kvs.any fun kv => decide (kv.1 = k)) = vs.any fun kv => decide (kv.1 = k) := by
  unfold KV at r
  induction r with
  | nil => rfl
  | cons h t ih => rw [List.any_cons, List.any_cons, ih, h.1]
theorem KV.repl {kvs : List (κ × V)} {vs : List (κ × Value)} (r : KV kvs vs) (k : κ) {y : V} {u : Value} (ry : RelV y u) :
    KV (kvs.map fun kv => if kv.1 = k then (kv.1, y) else kv) (vs.map fun kv => if kv.1 = k then (kv.1, u) else kv) := by
  unfold KV at r ⊢
  induction r with
  | nil => exact .nil
  | @cons p q ps qs h t ih =>
    rw [List.map_cons, List.map_cons]
    refine .cons ?_ ih
    obtain ⟨h1, h2⟩ := h
    by_cases e : p.1 = k
    · rw [if_pos e, if_pos (h1.symm.trans e)]; exact ⟨h1, ry⟩
    · rw [if_neg e, if_neg (fun z => e (h1.trans z))]; exact ⟨h1, h2⟩
theorem KV.put {kvs : List (κ × V)} {vs : List (κ × Value)} (r : KV kvs vs) (k : κ) {y : V} {u : Value} (ry : RelV y u) : KV (putK kvs k y) (stored vs k u) := by
  unfold putK stored
  rw [r.any k]
  by_cases e : (vs.any fun kv => decide (kv.1 = k)) = true
  · rw [if_pos e, if_pos e]; exact r.repl k ry
  · rw [if_neg e, if_neg e]; exact Paired.snoc r ⟨rfl, ry⟩
theorem KV.drop {kvs : List (κ × V)} {vs : List (κ × Value)} (r : KV kvs vs) (k : κ) : KV (dropK kvs k) (without vs k) := by
  unfold KV at r ⊢
  unfold dropK without
  induction r with
  | nil => exact .nil
  | @cons p q ps qs h t ih =>
    obtain ⟨h1, h2⟩ := h
    rw [List.filter_cons, List.filter_cons]
    by_cases e : p.1 = k
    · have a : ¬ decide (p.1 ≠ k) = true := by simp [e]
      have b : ¬ decide (q.1 ≠ k) = true := by simp [h1.symm.trans e]
      rw [if_neg a, if_neg b]; exact ih
    · have e' : ¬ q.1 = k := fun z => e (h1.trans z)
      have a : decide (p.1 ≠ k) = true := by simp [e]
      have b : decide (q.1 ≠ k) = true := by simp [e']
      rw [if_pos a, if_pos b]; exact .cons ⟨h1, h2⟩ ih
theorem KV.keys {kvs : List (κ × V)} {vs : List (κ × Value)} (r : KV kvs vs) : kvs.map (·.1) = vs.map (·.1) := by
  unfold KV at r
  induction r with
  | nil => rfl
  | cons h t ih => rw [List.map_cons, List.map_cons, ih, h.1]
theorem KV.length {kvs : List (κ × V)} {vs : List (κ × Value)} (r : KV kvs vs) : kvs.length = vs.length := Paired.length r
end
theorem kV_is {P : Program} {w : World} {k : Key} {u : Value} (r : RelV (kV k) u) : (mixKind P w).is k u = true := by
  cases k with
  | inl i => obtain ⟨t, e⟩ := (show ∃ t, u = Value.int i t from r); subst e; exact mixKind_int P w i t
  | inr x => obtain ⟨t, e⟩ := (show ∃ t, u = Value.str x t from r); subst e; exact mixKind_str P w x t
theorem items_are {P : Program} {w : World} : ∀ {ks : List Key} {us : List Value}, Vals (ks.map kV) us → ItemsAre (mixKind P w) ks us
  | [], _, r => by rw [List.map_nil] at r; cases r; exact .nil
  | k :: ks, _, r => by
    rw [List.map_cons] at r
    cases r with
    | cons h t => exact .cons (kV_is h) (items_are t)
abbrev KT (H : Hp) : List (List NI × V) → List (List NI × Addr × Value) → Prop := Paired fun p q => p.1 = q.1 ∧ NAt H p.1 q.2.1 ∧ RelV p.2 q.2.2
theorem KT.val {H : Hp} {kvs : List (List NI × V)} {xs : List (List NI × Addr × Value)} (r : KT H kvs xs) (k : List NI) : RelO (valV kvs k) ((atKey xs k).map (·.2)) := by
  induction r with
  | nil => exact True.intro
  | @cons p q ps qs h t ih =>
    obtain ⟨h1, _, h2⟩ := h
    by_cases e : p.1 = k
    · have e' : q.1 = k := h1.symm.trans e
      have b : atKey (q :: qs) k = some q.2 := by simp [atKey, List.find?_cons, e']
      rw [valV_pos e, b]; exact h2
    · have e' : ¬ q.1 = k := fun z => e (h1.trans z)
      have b : atKey (q :: qs) k = atKey qs k := by simp [atKey, List.find?_cons, e']
      rw [valV_neg e, b]; exact ih
theorem KT.repl {H : Hp} {kvs : List (List NI × V)} {xs : List (List NI × Addr × Value)} (r : KT H kvs xs) (k : List NI) {y : V} {u : Value} (ry : RelV y u) :
    KT H (kvs.map fun kv => if kv.1 = k then (kv.1, y) else kv) (xs.map (putAt k u)) := by
  induction r with
  | nil => exact .nil
  | @cons p q ps qs h t ih =>
    rw [List.map_cons, List.map_cons]
    refine .cons ?_ ih
    obtain ⟨h1, h2, h3⟩ := h
    unfold putAt
    by_cases e : p.1 = k
    · rw [if_pos e, if_pos (h1.symm.trans e)]; exact ⟨h1, h2, ry⟩
    · rw [if_neg e, if_neg (fun z => e (h1.trans z))]; exact ⟨h1, h2, h3⟩
theorem KT.put {H : Hp} {kvs : List (List NI × V)} {xs : List (List NI × Addr × Value)} (r : KT H kvs xs) (k : List NI) {b : Addr} {y : V} {u : Value} (hb : NAt H k b) (ry : RelV y u) :
    KT H (putK kvs k y) (storedH xs k b u) := by
  have e : (kvs.any fun kv => decide (kv.1 = k)) = (atKey xs k).isSome := by
    rw [valV_any, (r.val k).isSome_eq, Option.isSome_map]
  unfold putK storedH
  rw [e]
  by_cases q : (atKey xs k).isSome = true
  · rw [if_pos q, if_pos q]; exact r.repl k ry
  · rw [if_neg q, if_neg q]; exact Paired.snoc r ⟨rfl, hb, ry⟩
theorem KT.keeps {H H' : Hp} {kvs : List (List NI × V)} {xs : List (List NI × Addr × Value)} (r : KT H kvs xs) (ht : ∀ b ys, H b = some (.tup ys) → H' b = some (.tup ys)) : KT H' kvs xs :=
  Paired.mapP r fun _ _ z => ⟨z.1, z.2.1.keeps ht, z.2.2⟩
section
variable {P : Program} {w : World} {H : Hp} {h : Heap} {a : Addr}
theorem rd_of {u : HO} (ok : HOk P w H h) (e : Rd H a u) : ObjOk P w H h a u := e.ok ok
theorem dk_rd {kvs : List (Key × V)} (ok : HOk P w H h) (e : Rd H a (.dK kvs)) : kvs.length ≤ sizeLine ∧ (a == sysModules) = false ∧ ∃ vs, KV kvs vs ∧ h.DictOf (mixKind P w) a vs :=
  show ObjOk P w H h a (.dK kvs) from rd_of ok e
theorem dk_of {kvs : List (Key × V)} (ok : HOk P w H h) (e : H a = some (.dK kvs)) : kvs.length ≤ sizeLine ∧ (a == sysModules) = false ∧ ∃ vs, KV kvs vs ∧ h.DictOf (mixKind P w) a vs := dk_rd ok (.inl e)
theorem nitems_of {ks : List NI} {vs : List V} {us : List Value} (ok : HOk P w H h) (x : NVs H ks vs) (r : Vals vs us) : NItems P w h ks us := by
  induction x generalizing us with
  | nil => cases r; exact .nil
  | @cons i v ks vs p _ ih =>
    cases r with
    | cons rv rr =>
      refine .cons ?_ (ih rr)
      cases i with
      | inl k =>
        have p : v = kV k := p
        subst p
        exact kV_is (P := P) (w := w) rv
      | inr l =>
        obtain ⟨b, rfl, e⟩ := p
        cases rv
        obtain ⟨_, its, r2, o, h1, h2, n, h3⟩ := (show ObjOk P w H h b (.tup (l.map kV)) from ok b _ e)
        exact ⟨b, rfl, o, its.toArray, n, h1, h2, h3, by simpa using items_are r2⟩
theorem key_of {ks : List NI} (ok : HOk P w H h) (e : NAt H ks a) : (nestKind P w).is h ks a := by
  obtain ⟨vs, e, x⟩ := e
  obtain ⟨_, its, r, o, h1, h2, n, h3⟩ := (show ObjOk P w H h a (.tup vs) from ok a _ e)
  exact ⟨o, its.toArray, n, h1, h2, h3, by simpa using nitems_of ok x r⟩
theorem dt_rd {kvs : List (List NI × V)} (ok : HOk P w H h) (e : Rd H a (.dT kvs)) : kvs.length ≤ sizeLine ∧ (a == sysModules) = false ∧
    ∃ xs, KT H kvs xs ∧ h.DictOfH (nestKind P w) a xs := by
  obtain ⟨z, y, xs, r, o, es, ep, h1, h2, h3, h4, h5⟩ := (show ObjOk P w H h a (.dT kvs) from rd_of ok e)
  refine ⟨z, y, xs, r, o, es, ep, h1, h2, h3, h4, fun x hx => ?_, h5⟩
  have all : ∀ {l : List (List NI × V)} {m : List (List NI × Addr × Value)}, KT H l m → ∀ x ∈ m, (nestKind P w).is h x.1 x.2.1 := by
    intro l m q
    induction q with
    | nil => intro x hx; exact nomatch hx
    | @cons p q ps qs hq t ih =>
      intro x hx
      rcases List.mem_cons.mp hx with e | hx
      · subst e
        exact key_of ok (by rw [← hq.1]; exact hq.2.1)
      · exact ih x hx
  exact all r x hx
theorem dt_of {kvs : List (List NI × V)} (ok : HOk P w H h) (e : H a = some (.dT kvs)) : kvs.length ≤ sizeLine ∧ (a == sysModules) = false ∧
    ∃ xs, KT H kvs xs ∧ h.DictOfH (nestKind P w) a xs := dt_rd ok (.inl e)
end
def DGet (H : Hp) (a : Addr) (y : V) (r : Option V) : Prop :=
  (∃ kvs k, Rd H a (.dK kvs) ∧ y = kV k ∧ r = valV kvs k) ∨ ∃ kvs k b, Rd H a (.dT kvs) ∧ y = .ref b ∧ NAt H k b ∧ r = valV kvs k
def DPut (H : Hp) (a : Addr) (y v : V) (H' : Hp) : Prop :=
  (∃ kvs k, H a = some (.dK kvs) ∧ y = kV k ∧ kvs.length < sizeLine ∧ H' = upd H a (.dK (putK kvs k v))) ∨
  ∃ kvs k b, H a = some (.dT kvs) ∧ y = .ref b ∧ NAt H k b ∧ kvs.length < sizeLine ∧ H' = upd H a (.dT (putK kvs k v))
theorem DGet.k {H : Hp} {a : Addr} {kvs : List (Key × V)} {k : Key} (e : H a = some (.dK kvs)) : DGet H a (kV k) (valV kvs k) := .inl ⟨kvs, k, .inl e, rfl, rfl⟩
theorem DGet.t {H : Hp} {a b : Addr} {kvs : List (List NI × V)} {k : List NI} (e : H a = some (.dT kvs)) (eb : NAt H k b) : DGet H a (.ref b) (valV kvs k) := .inr ⟨kvs, k, b, .inl e, rfl, eb, rfl⟩
theorem DPut.k {H : Hp} {a : Addr} {kvs : List (Key × V)} {k : Key} {v : V} (e : H a = some (.dK kvs)) (hl : kvs.length < sizeLine) : DPut H a (kV k) v (upd H a (.dK (putK kvs k v))) := .inl ⟨kvs, k, e, rfl, hl, rfl⟩
theorem DPut.t {H : Hp} {a b : Addr} {kvs : List (List NI × V)} {k : List NI} {v : V} (e : H a = some (.dT kvs)) (eb : NAt H k b) (hl : kvs.length < sizeLine) :
    DPut H a (.ref b) v (upd H a (.dT (putK kvs k v))) := .inr ⟨kvs, k, b, e, rfl, eb, hl, rfl⟩
section
variable {X : Cx} {pins : List (Addr × Obj)} {σ : St} {H : Hp} {s : Shared} {a : Addr} {y v : V} {u r : Value} {o : Option V} {A : Around} {E : Value → Shared → Prop}
theorem Inv.big (I : Inv X pins σ H s) : sysModules < s.heap.objs.size := by
  have h : mainGlobals < s.heap.objs.size := (I.mod.glob.keeps I.bk).lt
  exact Nat.lt_trans (by decide) h
theorem d_getItem {Q : Value → Shared → Prop} (hu : A.units + 64 < cLine) (I : Inv X pins σ H s) (g : DGet H a y (some v)) (ry : RelV y u) (h : ∀ w' s', Inv X pins σ H s' → RelV v w' → Q w' s') :
    wpAny (model X.prog X.w) A (getItem (.ref a) u) Q E s := by
  rcases g with ⟨kvs, k, e, ey, l⟩ | ⟨kvs, k, b, e, ey, eb, l⟩
  · subst ey
    obtain ⟨z, hd, vs, rel, dd⟩ := dk_rd I.hok e
    obtain ⟨w', hw, rw'⟩ := RelO.some_of (v := v) (o := valueAt vs k) (by rw [l]; exact rel.val k)
    exact wpAny_getItem_of (kV_is ry) dd.mapOf hw (h w' _ (I.tok _) rw')
  · subst ey
    cases (show u = Value.ref b from ry)
    obtain ⟨z, hd, xs, rel, dd⟩ := dt_rd I.hok e
    obtain ⟨w', hw, rw'⟩ := RelO.some_of (v := v) (o := (atKey xs k).map (·.2)) (by rw [l]; exact rel.val k)
    obtain ⟨p, hp, hp2⟩ := Option.map_eq_some_iff.mp hw
    refine wpAny_getItem_heap (nestKind_room hu) (key_of I.hok eb) dd hp ?_
    rw [hp2]
    exact h w' _ (I.tok _) rw'
theorem d_in {Q : Value → Shared → Prop} (hu : A.units + 64 < cLine) (I : Inv X pins σ H s) (g : DGet H a y o) (ry : RelV y u) (h : ∀ s', Inv X pins σ H s' → Q (.bool o.isSome) s') :
    wpAny (model X.prog X.w) A (compareOp .In u (.ref a)) Q E s := by
  rcases g with ⟨kvs, k, e, ey, l⟩ | ⟨kvs, k, b, e, ey, eb, l⟩
  · subst ey
    obtain ⟨z, hd, vs, rel, dd⟩ := dk_rd I.hok e
    refine wpAny_in_of (kV_is ry) hd dd.mapOf ?_
    rw [← (rel.val k).isSome_eq, ← l]
    exact h _ (I.tok _)
  · subst ey
    cases (show u = Value.ref b from ry)
    obtain ⟨z, hd, xs, rel, dd⟩ := dt_rd I.hok e
    refine wpAny_in_heap (nestKind_room hu) (key_of I.hok eb) hd dd ?_
    have q := (rel.val k).isSome_eq
    rw [Option.isSome_map] at q
    rw [← q, ← l]
    exact h _ (I.tok _)
theorem d_notIn {Q : Value → Shared → Prop} (hu : A.units + 64 < cLine) (I : Inv X pins σ H s) (g : DGet H a y o) (ry : RelV y u) (h : ∀ s', Inv X pins σ H s' → Q (.bool (!o.isSome)) s') :
    wpAny (model X.prog X.w) A (compareOp .NotIn u (.ref a)) Q E s := by
  rcases g with ⟨kvs, k, e, ey, l⟩ | ⟨kvs, k, b, e, ey, eb, l⟩
  · subst ey
    obtain ⟨z, hd, vs, rel, dd⟩ := dk_rd I.hok e
    refine wpAny_notIn_of (kV_is ry) hd dd.mapOf ?_
    rw [← (rel.val k).isSome_eq, ← l]
    exact h _ (I.tok _)
  · subst ey
    cases (show u = Value.ref b from ry)
    obtain ⟨z, hd, xs, rel, dd⟩ := dt_rd I.hok e
    refine wpAny_notIn_heap (nestKind_room hu) (key_of I.hok eb) hd dd ?_
    have q := (rel.val k).isSome_eq
    rw [Option.isSome_map] at q
    rw [← q, ← l]
    exact h _ (I.tok _)
theorem d_write {h' : Heap} {t' : Nat} {ob : HO} (I : Inv X pins σ H s) (mu : Mut (H a)) (hs : Heap.SameBut a s.heap h') (he : ∃ q, h'.get? a = some q) (new : ObjOk X.prog X.w (upd H a ob) h' a ob) :
    Inv X pins σ (upd H a ob) { s with heap := h', toks := t' } :=
  I.write (x := a) (e := a) mu (.inl rfl) (fun b q hb z => (hs.2 b hb).trans z) he new
theorem dk_new {P : Program} {w : World} {H' : Hp} {h' : Heap} {kvs : List (Key × V)} {vs : List (Key × Value)} (z : kvs.length ≤ sizeLine) (hd : (a == sysModules) = false) (rel : KV kvs vs) (dd : h'.DictOf (mixKind P w) a vs) :
    ObjOk P w H' h' a (.dK kvs) := ⟨z, hd, vs, rel, dd⟩
theorem d_setItem {H' : Hp} {Q : Unit → Shared → Prop} (hu : A.units + 64 < cLine) (I : Inv X pins σ H s) (g : DPut H a y v H') (ry : RelV y u) (rv : RelV v r) (h : ∀ s', Inv X pins σ H' s' → Q () s') :
    wpAny (model X.prog X.w) A (setItem (.ref a) u r) Q E s := by
  rcases g with ⟨kvs, k, e, ey, l, eH⟩ | ⟨kvs, k, b, e, ey, eb, l, eH⟩
  · subst ey eH
    obtain ⟨z, hd, vs, rel, dd⟩ := dk_of I.hok e
    have hz : vs.length ≤ sizeLine := by rw [← rel.length]; exact z
    have hl : (putK kvs k v).length ≤ sizeLine := by have := length_putK kvs k v; omega
    refine wpAny_setItem_pairs (hsz := hz) (kV_is ry) dd fun h' dd' hs => h _ ?_
    have he : ∃ q, h'.get? a = some q := let ⟨q, _, _, hq, _⟩ := dd'; ⟨q, hq⟩
    exact d_write I (by rw [e]; exact True.intro) hs he (dk_new hl hd (rel.put k rv) dd')
  · subst ey eH
    cases (show u = Value.ref b from ry)
    obtain ⟨z, hd, xs, rel, dd⟩ := dt_of I.hok e
    have hz : xs.length ≤ sizeLine := by rw [← Paired.length rel]; exact z
    have hl : (putK kvs k v).length ≤ sizeLine := by have := length_putK kvs k v; omega
    refine wpAny_setItem_heap (hsz := hz) (nestKind_room hu) (key_of I.hok eb) dd fun h' dd' hs => h _ ?_
    obtain ⟨q, es, ep, hq, h2, h3, h4, _, h5⟩ := dd'
    refine d_write I (by rw [e]; exact True.intro) hs ⟨q, hq⟩ ⟨hl, hd, _, (rel.put k eb rv).keeps fun c ys ec => ?_, q, es, ep, hq, h2, h3, h4, h5⟩
    rw [upd_ne (ne_of ec e (fun z => nomatch z))]
    exact ec
end
section
variable {X : Cx} {pins : List (Addr × Obj)} {σ : St} {H : Hp} {s : Shared} {a : Addr} {kvs : List (Key × V)} {k : Key} {u : Value} {A : Around} {E : Value → Shared → Prop}
end
def NoSl (i : Expr) : Prop := ∀ ov iv, subscripted i false ov iv = operate [ov, iv] (getItem ov iv)
theorem subD_of {prog : Program} {w : World} {A : Around} {E : Value → Shared → Prop} {s : Shared} {env : Env} {value slice : Expr} {pos : Pos} {T id : String} {Q : Value → Shared → Prop}
    (hl : typeLookup (.type T) "__getitem__" = pure (some (.builtin id))) (hs : NoSl slice)
    (h : wpAny (model prog w) A (eval value env) (fun o s₁ => wpAny (model prog w) A (eval slice env) (fun i s₂ => s₂.TypeIs o T ∧ wpAny (model prog w) A (getItem o i) Q E s₂) E s₁) E s) :
    wpAny (model prog w) A (eval (.Subscript value slice pos) env) Q E s := by
  refine Subscript_ (wpAny_mono h (fun o s₁ h₁ => wpAny_mono h₁ (fun i s₂ h₂ => ?_) fun _ _ x => x) fun _ _ x => x)
  obtain ⟨hT, h₂⟩ := h₂
  unfold subscriptTail
  refine wpAny_bind ?_
  rw [getitemInPython_of_ne hT.not_modules]
  refine wpAny_bind (wpAny_specialOf hT hl ?_)
  have fin : wpAny (model prog w) A (subscripted slice false o i) (fun r s₃ => wpAny (model prog w) A (letTemporaryGo value o r >>= fun _ => pure r) Q E s₃) E s₂ := by
    rw [hs o i]
    exact wpAny_operating (wpAny_mono h₂ (fun r s₃ h₃ => wpAny_bind (wpAny_letTemporaryGo (wpAny_pure h₃))) fun _ _ x => x)
  first
    | exact wpAny_pure (wpAny_bind fin)
    | exact wpAny_bind (wpAny_pure (wpAny_bind fin))
    | exact wpAny_bind fin
theorem dict_typeIs {X : Cx} {pins : List (Addr × Obj)} {σ : St} {H : Hp} {s : Shared} {a : Addr} {y : V} {o : Option V} (I : Inv X pins σ H s) (g : DGet H a y o) : s.TypeIs (.ref a) "dict" := by
  rcases g with ⟨kvs, k, e, _, _⟩ | ⟨kvs, k, b, e, _, _, _⟩
  · obtain ⟨_, _, vs, _, dd⟩ := dk_rd I.hok e
    exact dd.typeIs
  · obtain ⟨_, _, xs, _, dd⟩ := dt_rd I.hok e
    exact dd.typeIs
def tDGet (td ty : TE) : TE := fun σ H Q => td σ H fun x H1 => ty σ H1 fun y H2 => ∃ a v, x = .ref a ∧ DGet H2 a y (some v) ∧ Q v H2
def tDIn (ty td : TE) : TE := fun σ H Q => ty σ H fun y H1 => td σ H1 fun x H2 => ∃ a o, x = .ref a ∧ DGet H2 a y o ∧ Q (.bl o.isSome) H2
def tDNotIn (ty td : TE) : TE := fun σ H Q => ty σ H fun y H1 => td σ H1 fun x H2 => ∃ a o, x = .ref a ∧ DGet H2 a y o ∧ Q (.bl (!o.isSome)) H2
def sDPut (td ty tv : TE) : TS := fun D σ H => tv σ H fun v H1 => td σ H1 fun x H2 => ty σ H2 fun y H3 => ∃ a H4, x = .ref a ∧ DPut H3 a y v H4 ∧ D.nx σ H4
section
variable {X : Cx} {o i e value : Expr} {pos pos' tpos : Pos} {td ty tv : TE}
theorem pe_dget (hu : X.A.units + 64 < cLine) (ho : PE X o td) (hi : PE X i ty) (hs : NoSl i) : PE X (.Subscript o i pos) (tDGet td ty) := by
  intro pins s σ H Q I h
  refine subD_of PySem.F.slot_dict_getitem.lookup hs (thn (ho pins s σ H _ I h) fun u s1 ⟨x, H1, I1, rx, q1⟩ => thn (hi pins s1 σ H1 _ I1 q1) fun iv s2 ⟨y, H2, I2, ry, a, v, ex, g, q2⟩ => ?_)
  subst ex
  obtain rfl : u = Value.ref a := rx
  exact ⟨dict_typeIs I2 g, d_getItem hu I2 g ry fun w' s3 I3 rw' => ⟨v, H2, I3, rw', q2⟩⟩
theorem pc_din (hu : X.A.units + 64 < cLine) (hi : PE X i ty) (ho : PE X o td) : PC X .In i o (tDIn ty td) := by
  intro pins s σ H Q I h
  refine thn (hi pins s σ H _ I h) fun iv s1 ⟨y, H1, I1, ry, q1⟩ => thn (ho pins s1 σ H1 _ I1 q1) fun u s2 ⟨x, H2, I2, rx, a, ov, ex, g, q2⟩ => ?_
  subst ex
  obtain rfl : u = Value.ref a := rx
  exact d_in hu I2 g ry fun s3 I3 => ⟨.bl ov.isSome, H2, I3, rfl, q2⟩
theorem pc_dnotin (hu : X.A.units + 64 < cLine) (hi : PE X i ty) (ho : PE X o td) : PC X .NotIn i o (tDNotIn ty td) := by
  intro pins s σ H Q I h
  refine thn (hi pins s σ H _ I h) fun iv s1 ⟨y, H1, I1, ry, q1⟩ => thn (ho pins s1 σ H1 _ I1 q1) fun u s2 ⟨x, H2, I2, rx, a, ov, ex, g, q2⟩ => ?_
  subst ex
  obtain rfl : u = Value.ref a := rx
  exact d_notIn hu I2 g ry fun s3 I3 => ⟨.bl (!ov.isSome), H2, I3, rfl, q2⟩
theorem ps_dput (hu : X.A.units + 64 < cLine) (ho : PE X o td) (hi : PE X i ty) (hv : PE X value tv) (hs : swapsWith value (some (.Subscript o i pos')) pos.line X.env = pure false) :
    PS X (.Assign [.Subscript o i pos'] value pos) (sDPut td ty tv) := by
  intro pins s σ H D I h
  refine wpAny_Assign_Subscript (thn (hv pins s σ H _ I h) fun r s1 ⟨v, H1, I1, rv, q1⟩ => thn (ho pins s1 σ H1 _ I1 q1) fun u s2 ⟨x, H2, I2, rx, q2⟩ => thn (hi pins s2 σ H2 _ I2 q2) fun iv s3 ⟨y, H3, I3, ry, a, H4, ex, g, q3⟩ => ?_) hs
  subst ex
  obtain rfl : u = Value.ref a := rx
  exact d_setItem hu I3 g ry rv fun s4 I4 => ⟨σ, H4, I4, q3⟩
end
theorem dk_empty {P : Program} {w : World} {H : Hp} (h : Heap) (hb : sysModules < h.objs.size) : ObjOk P w H (h.push { cls := .type "dict", data := .dict #[] }) h.objs.size (.dK []) :=
  ⟨Nat.zero_le _, beq_eq_false_iff_ne.mpr (Ne.symm (Nat.ne_of_lt hb)), [], .nil, Heap.DictOf.new h⟩
theorem dt_empty {P : Program} {w : World} {H : Hp} (h : Heap) (hb : sysModules < h.objs.size) : ObjOk P w H (h.push { cls := .type "dict", data := .dict #[] }) h.objs.size (.dT []) :=
  ⟨Nat.zero_le _, beq_eq_false_iff_ne.mpr (Ne.symm (Nat.ne_of_lt hb)), [], .nil, _, #[], 0, Heap.get?_push_size _ rfl, ⟨rfl, rfl, rfl⟩, rfl, rfl, List.nodup_nil⟩
def tDNewK : TE := fun _ H Q => ∀ p, H p = none → Q (.ref p) (upd H p (.dK []))
def tDNewT : TE := fun _ H Q => ∀ p, H p = none → Q (.ref p) (upd H p (.dT []))
section
variable {X : Cx} {pos : Pos}
theorem pe_dnewK : PE X (.Dict [] [] pos) tDNewK := fun pins s σ H Q I h =>
  wpAny_Dict_empty ⟨.ref s.heap.objs.size, _, I.laid (a := s.heap.objs.size) (o := .dK []) (t' := s.toks) (fun _ _ q => Heap.get?_push_of_some _ q) (Nat.le_refl _) (dk_empty s.heap I.big), rfl, h _ (I.hok.fresh (Nat.le_refl _))⟩
theorem pe_dnewT : PE X (.Dict [] [] pos) tDNewT := fun pins s σ H Q I h =>
  wpAny_Dict_empty ⟨.ref s.heap.objs.size, _, I.laid (a := s.heap.objs.size) (o := .dT []) (t' := s.toks) (fun _ _ q => Heap.get?_push_of_some _ q) (Nat.le_refl _) (dt_empty s.heap I.big), rfl, h _ (I.hok.fresh (Nat.le_refl _))⟩
end
structure M1 (X : Cx) (o : Expr) (m : Str) (apos : Pos) (e : Expr) (cpos : Pos) : Prop where
  base : attributeBase o m X.env (eval o X.env) = eval o X.env
  few : ((backTo cpos (starEach [e] X.env)).all (fun x => !x.1) && (backToKw cpos (keywordEach [] X.env)).all (fun x => x.1.isSome)
    && decide (([e] : List Expr).length + ([] : List Keyword).length + (if ([] : List Keyword).isEmpty then 0 else 1) < 30)) = true
  line : (apos.endLine == cpos.line) = true
  trees : backTo cpos (starEach [e] X.env) = [(false, eval e X.env)]
structure M2 (X : Cx) (o : Expr) (m : Str) (apos : Pos) (e f : Expr) (cpos : Pos) : Prop where
  base : attributeBase o m X.env (eval o X.env) = eval o X.env
  few : ((backTo cpos (starEach [e, f] X.env)).all (fun x => !x.1) && (backToKw cpos (keywordEach [] X.env)).all (fun x => x.1.isSome)
    && decide (([e, f] : List Expr).length + ([] : List Keyword).length + (if ([] : List Keyword).isEmpty then 0 else 1) < 30)) = true
  line : (apos.endLine == cpos.line) = true
  trees : backTo cpos (starEach [e, f] X.env) = [(false, eval e X.env), (false, eval f X.env)]
def IsD (H : Hp) (a : Addr) : Prop := (∃ kvs, Rd H a (.dK kvs)) ∨ ∃ kvs, Rd H a (.dT kvs)
theorem isD_at {X : Cx} {pins : List (Addr × Obj)} {σ : St} {H : Hp} {s : Shared} {a : Addr} (I : Inv X pins σ H s) (d : IsD H a) :
    s.TypeIs (.ref a) "dict" ∧ (∀ b, Value.ref a = .ref b → ∃ ob, s.heap.get? b = some ob ∧ ob.dict = none) ∧ (a == sysModules) = false := by
  rcases d with ⟨kvs, e⟩ | ⟨kvs, e⟩
  · obtain ⟨_, hd, vs, _, dd⟩ := dk_rd I.hok e
    refine ⟨dd.typeIs, fun b q => ?_, hd⟩
    cases q
    obtain ⟨ob, _, _, h1, h2, _⟩ := dd
    exact ⟨ob, h1, h2.2.1⟩
  · obtain ⟨_, hd, xs, _, dd⟩ := dt_rd I.hok e
    refine ⟨dd.typeIs, fun b q => ?_, hd⟩
    cases q
    obtain ⟨ob, _, _, h1, h2, _⟩ := dd
    exact ⟨ob, h1, h2.2.1⟩
section
variable {X : Cx} {pins : List (Addr × Obj)} {σ : St} {H : Hp} {s : Shared} {a : Addr} {y d : V} {u r : Value} {o : Option V} {A : Around} {E : Value → Shared → Prop}
theorem d_get2 {Q : Value → Shared → Prop} (hu : A.units + 64 < cLine) (I : Inv X pins σ H s) (g : DGet H a y o) (ry : RelV y u) (rd : RelV d r) (h : ∀ w' s', Inv X pins σ H s' → RelV (o.getD d) w' → Q w' s') :
    wpAny (model X.prog X.w) A (call (.builtin "dict.get") [.ref a, u, r]) Q E s := by
  rcases g with ⟨kvs, k, e, ey, l⟩ | ⟨kvs, k, b, e, ey, eb, l⟩
  · subst ey
    obtain ⟨z, hd, vs, rel, dd⟩ := dk_rd I.hok e
    refine call_meetsIn PySem.F.slot_dict_get dd.typeIs PySem.F.entry_dict_get (PySem.F.args_dict_get_3 _ _ _) (meets_dict_get_default (mixKind X.prog X.w) a (kV_is ry) hd r) ⟨_, dd.mapOf, h _ _ (I.tok _) ?_⟩
    rw [l]
    exact (rel.val k).getD rd
  · subst ey
    cases (show u = Value.ref b from ry)
    obtain ⟨z, hd, xs, rel, dd⟩ := dt_rd I.hok e
    refine call_meetsIn PySem.F.slot_dict_get dd.typeIs PySem.F.entry_dict_get (PySem.F.args_dict_get_3 _ _ _) (meetsH_dict_get_default (nestKind X.prog X.w) a b hd r) ⟨nestKind_room hu, k, xs, key_of I.hok eb, dd, h _ _ (I.tok _) ?_⟩
    rw [l]
    exact (rel.val k).getD rd
end
def tDGet2 (td ty tx : TE) : TE := fun σ H Q => td σ H fun x H1 => ∃ a, x = .ref a ∧ IsD H1 a ∧ ty σ H1 fun y H2 => tx σ H2 fun z H3 => ∃ o, DGet H3 a y o ∧ Q (o.getD z) H3
section
variable {X : Cx} {o e f : Expr} {apos cpos : Pos} {td ty tx : TE}
theorem pe_dget2 (hu : X.A.units + 64 < cLine) (ho : PE X o td) (he : PE X e ty) (hf : PE X f tx) (m : M2 X o "get" apos e f cpos) : PE X (.Call (.Attribute o "get" apos) [e, f] [] cpos) (tDGet2 td ty tx) := by
  intro pins s σ H Q I h
  refine wpAny_Call_method m.base m.few m.line PySem.F.plainAttrs_dict PySem.F.slot_dict_get PySem.F.type_dict_get (thn (ho pins s σ H _ I h) fun u s1 ⟨x, H1, I1, rx, a, ex, d, q1⟩ => ?_)
  subst ex
  obtain rfl : u = Value.ref a := rx
  obtain ⟨t1, t2, _⟩ := isD_at I1 d
  refine ⟨t1, t2, ?_⟩
  rw [m.trees]
  refine Calls.callWith_builtin rfl (Calls.evalArgs_plain (Calls.spliced_cons (thn (he pins s1 σ H1 _ I1 q1) fun iv s2 ⟨y, H2, I2, ry, q2⟩ =>
    Calls.spliced_cons (thn (hf pins s2 σ H2 _ I2 q2) fun fv s3 ⟨z, H3, I3, rz, ov, g, q3⟩ => Calls.spliced_nil ?_))))
  exact d_get2 hu I3 g ry rz fun w' s4 I4 rw' => ⟨_, H3, I4, rw', q3⟩
end
section
variable {X : Cx} {pins : List (Addr × Obj)} {σ : St} {H : Hp} {s : Shared} {a : Addr} {kvs : List (Key × V)} {A : Around} {E : Value → Shared → Prop}
end
section
variable {X : Cx} {pins : List (Addr × Obj)} {σ : St} {H : Hp} {s : Shared} {a : Addr} {y : V} {u : Value} {A : Around} {E : Value → Shared → Prop}
end
end L2
namespace Att
open PySem PySem.W PySem.Calls PyProof.Rows
theorem ints_of_wellAll {P : Params} {h : Heap} : ∀ (ns : List Int) (vs : List Value), WellAll P h vs (ns.map WData.int) → IntsAre vs ns := by
  intro ns
  induction ns with
  | nil =>
    intro vs w
    rw [List.map_nil] at w
    cases w
    exact .nil
  | cons n ns ih =>
    intro vs w
    rw [List.map_cons] at w
    cases w with
    | cons a b =>
      cases a
      exact .cons _ _ (ih _ b)
theorem script_of {l : OpenLaw} {n : Nat} (hn : l.most = some n) {P : Params} {h : Heap} {args : List WData} {vals : List Value}
    (hpre : l.row.toRowW.claim.pre args = true) (hwl : WellAll P h vals args) :
    ∃ a vs ns, vals = [Value.ref a] ∧ args = [WData.list (ns.map WData.int)] ∧ h.get? a = some { cls := .type "list", data := .seq vs.toArray } ∧ IntsAre vs ns ∧ ns.length ≤ n := by
  have hsh : WShape.hasAll [] args [.list .int] = true := (pre_splitW hpre).1
  have hc : l.pre.holds [] { args := args } = true := (pre_splitW hpre).2
  obtain ⟨d, r, rfl, h1, h2⟩ := hasAllW_cons hsh
  obtain rfl := hasAllW_nil h2
  obtain ⟨xs, rfl, h3⟩ := hasW_list h1
  obtain ⟨ns, rfl⟩ := items_int h3
  have hlen : ns.length ≤ n := by
    unfold OpenLaw.pre at hc
    have h4 : (WTm.not (.lt (.lit (.int (n : Int))) (.len (.arg 0)))).holds [] { args := [.list (ns.map .int)] } = true := by
      have h4 := (holds_andW hc).1
      rw [hn] at h4
      exact h4
    have h5 := condW_of h4 (w_not (w_lt w_lit (w_len_list (w_arg rfl))))
    rw [List.length_map] at h5
    refine Nat.le_of_not_lt fun q => ?_
    have q' : (n : Int) < ((ns.length : Nat) : Int) := by omega
    first
      | (rw [decide_eq_true q'] at h5; exact absurd h5 (by decide))
      | (simp at h5; omega)
  cases hwl with
  | cons w1 w2 =>
    cases w2
    cases w1 with
    | list ho hall => exact ⟨_, _, ns, rfl, rfl, ho, ints_of_wellAll ns _ hall, hlen⟩
theorem post_true (l : OpenLaw) (args : List WData) : l.row.toRowW.claim.post args (.bool true) args = true :=
  postW_of (r := l.row.toRowW) (X := (true == true))
    (show WShape.has [] (.bool true) .bool = true by first | rfl | decide | simp [WShape.has, WShape.arms, WShape.armsAll])
    (show (WTm.eq .res (.lit (.bool true))).value [] { args := args, res := some (.bool true), after := args } = some (.bool (true == true)) from w_eq_bool (w_res rfl) w_lit) rfl
theorem attach_call {l : OpenLaw} {n : Nat} {q : Program} {loose : List Str} {XP : (Str → Option Value) → Heap → Prop} {YP : World → Heap → Prop} {d : DefRec}
    (hn : l.most = some n) (hdf : d.params.defaults = [])
    (call : ∀ (w : World) (s₀ s₁ : Shared) (mg mb : Str → Option Value) (fa : Addr) (o : Obj) (pm cd doc : Value) (a : Addr) (vs : List Value) (ns : List Int),
      Ground q loose [] XP w s₀ mg mb s₁.heap → YP w s₁.heap →
      s₁.heap.get? fa = some o → o.data = .func (docDef d.name d.params d.body d.scope pm cd doc) → s₁.heap.CodeRec cd d.name → mg d.name = some (.ref fa) →
      s₁.heap.get? a = some { cls := .type "list", data := .seq vs.toArray } → IntsAre vs ns → ns.length ≤ n → s₁.gens = #[] →
      codeAny (model l.prog w) callerA (.call (.ref fa) ⟨[.ref a], []⟩) (fun r s' => r = .ok (.ret (.bool true)) ∧ OldK s₁.heap s'.heap ∧ s'.os = s₁.os ∧ AllBare s'.gens) s₁) :
    WalkO q loose XP YP l.row.toRowW d [] (fun f vs => PySem.call f vs) := by
  intro w s₀ s₁ mg mb G Y fa o pm cd doc dV kV ho hd hcd hD hmg hg args vals as hpre hlay hrd hwl hlo
  obtain rfl : dV = .none := Dflts.none hD hdf
  obtain rfl : kV = .none := Dflts.noKw hD
  obtain ⟨a, vs, ns, rfl, rfl, hobj, hints, hlen⟩ := script_of hn hpre hwl
  refine enter_call (codeAny_mono (call w s₀ s₁ mg mb fa o pm cd doc a vs ns G Y ho (fd_plain hd) hcd hmg hobj hints hlen hg) fun r s' hq => ?_)
  obtain ⟨rfl, h2, h3, h4⟩ := hq
  exact ⟨.inl ⟨.bool true, .bool true, [], rfl, fun _ => rfl, .bool true, post_true l _, fun _ => ⟨List.Pairwise.nil, fun _ hm => (nomatch hm)⟩⟩, h2, h3, h4⟩
section
variable {prog : Program} {w : World} {A : Around} {E : Value → Shared → Prop} {s : Shared} {K : Frag}
end
end Att
namespace L2
open PySem PySem.Spec PyProof.Rows
theorem vals_ints : ∀ {vs : List Value} {ns : List Int}, IntsAre vs ns → Vals (ns.map V.int) vs
  | _, _, .nil => .nil
  | _, _, .cons n t h => .cons ⟨t, rfl⟩ (vals_ints h)
def Only (H : Hp) : Prop := ∀ b, H b = none ∨ ∃ o xs, H b = some (.frz o (.lst xs))
theorem law_call {P : Program} {w : World} {K : PySem.W.Frag} {mg mb : Str → Option Value} {CX : CXT} {k : Nat} {fa a : Addr} {fd : FuncData} {x : Str} {sp : Sp} {s₁ : Shared} {vs : List Value} {ns : List Int}
    (KX : K.In s₁.heap) (hns : s₁.heap.Ns mainGlobals mg) (hb : s₁.heap.Ns builtinsNs mb) (hbb : ∀ x : Str, x ≠ "__name__" → mb x = bootBuiltins x) (hlim : s₁.heap.NoLimit) (hg : s₁.gens = #[])
    (ha : s₁.heap.get? a = some { cls := .type "list", data := .seq vs.toArray }) (hi : IntsAre vs ns) (hl : ns.length ≤ sizeLine) (hr : Room k callerA)
    (F : ∀ base : Heap, K.In base → base.Ns mainGlobals mg → FnOk P w K mg base CX k fa fd [x] sp) (hbind : ∀ (s : Shared) (u : Value), BindsTo s fd ⟨[u], []⟩ [(x, u)])
    (hsp : ∀ H : Hp, Only H → SqL K H a (ns.map V.int) → sp [.ref a] H (fun v _ => v = .bl true) fun _ _ _ => False)
    (hCX : ∀ H e s', CX [] H s₁ (fun _ _ _ => False) e s' → False) :
    codeAny (model P w) callerA (.call (.ref fa) ⟨[.ref a], []⟩) (fun r s' => r = .ok (.ret (.bool true)) ∧ OldK s₁.heap s'.heap ∧ s'.os = s₁.os ∧ AllBare s'.gens) s₁ := by
  have rv := vals_ints hi
  have lenV := hi.length
  have core : ∀ H : Hp, Only H → SqL K H a (ns.map V.int) → HOk P w H s₁.heap → (∀ b, H b ≠ none → b = a) → (H a ≠ none → K.lookup a = none) →
      codeAny (model P w) callerA (.call (.ref fa) ⟨[.ref a], []⟩) (fun r s' => r = .ok (.ret (.bool true)) ∧ OldK s₁.heap s'.heap ∧ s'.os = s₁.os ∧ AllBare s'.gens) s₁ := by
    intro H hO hS hok hA hK
    have base_of : ∀ {b : Addr} {o : Obj}, s₁.heap.get? b = some o → H b = none → (hidT s₁.heap H).get? b = some o := fun e n => hidT_get e n
    have noA : ∀ {b : Addr} {o : Obj} {es : Array DictEntry} {ep : Nat}, s₁.heap.get? b = some o → o.data = .dict es ep → H b = none := fun {b o es ep} e d => by
      cases q : H b with
      | none => rfl
      | some u =>
        have e' : b = a := hA b (by rw [q]; simp)
        subst e'
        rw [ha] at e; cases e
        have d' : Data.seq vs.toArray _ = Data.dict es ep := d
        cases d'
    have nsK : ∀ {b : Addr} {m : Str → Option Value}, s₁.heap.Ns b m → (hidT s₁.heap H).Ns b m := fun {b m} ⟨o, es, ep, e, d, r⟩ => ⟨o, es, ep, base_of e (noA e d), d, r⟩
    have hKb : K.In (hidT s₁.heap H) := fun b o e => base_of (KX b o e) (by
      cases q : H b with
      | none => rfl
      | some u =>
        have e' : b = a := hA b (by rw [q]; simp)
        subst e'
        rw [hK (by rw [q]; simp)] at e; cases e)
    have hM : Mod K mg (hidT s₁.heap H) := ⟨hKb, nsK hns, ⟨mb, nsK hb, hbb⟩, let ⟨mc, h1, h2⟩ := hlim; ⟨mc, nsK h1, h2⟩⟩
    have e0 : Env0 P w K mg (hidT s₁.heap H) callerA [] s₁ H := ⟨rfl, hM, fun b o e => of_hidT e, Nat.le_of_eq (hidT_size _ _), trivial, fun b hb => absurd (show b ∈ ([] : List Addr) from hb) (by simp), hok, .of_eq hg⟩
    refine codeAny_mono ((F _ hKb (nsK hns)).run callerA [] s₁ H ⟨[.ref a], []⟩ [.ref a] [.ref a] _ _ hr e0 (hbind s₁ (.ref a)) (.cons rfl .nil) (hsp H hO hS)) fun r s' h => ?_
    cases r with
    | error e => exact (hCX H e s' h).elim
    | ok fl =>
      cases fl with
      | next => exact False.elim h
      | brk => exact False.elim h
      | cont => exact False.elim h
      | ret u =>
        obtain ⟨v, H', os, bare, un, hok', r', q⟩ := h
        have q' : v = .bl true := q
        subst q'
        obtain rfl : u = Value.bool true := r'
        refine ⟨rfl, OldK.of_keep fun b o e => ?_, os, bare⟩
        cases q : H b with
        | none => exact un.keep b o e q (by intro z; exact absurd (show b ∈ ([] : List Addr) from z) (by simp)) (by simp)
        | some u =>
          rcases hO b with z | ⟨ob, xs, z⟩
          · rw [q] at z; cases z
          · have z2 := un.frzs b ob _ z
            obtain ⟨e1, _⟩ := hok b _ z
            obtain ⟨e2, _⟩ := hok' b _ z2
            rw [e] at e1; cases e1
            exact e2
  cases hk : K.lookup a with
  | some o =>
    have e := KX a o hk
    rw [ha] at e
    cases e
    refine core (fun _ => none) (fun _ => .inl rfl) (.inr ⟨_, vs.toArray, _, hk, rfl, rfl, rfl, by rw [List.size_toArray, lenV]; exact hl, by simpa using rv⟩) (fun b u z => by have z' : (none : Option HO) = some u := z; cases z') (fun b z => absurd rfl z) fun z => absurd rfl z
  | none =>
    refine core (fun b => if b = a then some (.frz { cls := .type "list", data := .seq vs.toArray } (.lst (ns.map V.int))) else none) (fun b => ?_) (.inl (.inr ⟨{ cls := .type "list", data := .seq vs.toArray }, if_pos rfl⟩)) (fun b u z => ?_) (fun b z => ?_) fun _ => hk
    · by_cases hb : b = a
      · exact .inr ⟨_, _, if_pos hb⟩
      · exact .inl (if_neg hb)
    · by_cases hb : b = a
      · have z' := (if_pos hb).symm.trans z
        cases z'
        subst hb
        exact ⟨ha, by rw [List.length_map]; exact hl, vs, _, rv, ha⟩
      · have z' := (if_neg hb).symm.trans z
        cases z'
    · by_cases hb : b = a
      · exact hb
      · exact absurd (if_neg hb) z
end L2
namespace L2
open PySem PySem.Spec PyProof.Rows
theorem walk_of {l : PySem.W.OpenLaw} {n k : Nat} {q : Program} {loose : List Str} {XP : (Str → Option Value) → Heap → Prop} {YP : World → Heap → Prop} {d : DefRec} {K : Params → PySem.W.Frag} {CX : World → CXT} {sp : World → Sp} {x : Str}
    (hn : l.most = some n) (hn2 : n ≤ sizeLine) (hdf : d.params.defaults = []) (hr : Room k callerA)
    (hY : ∀ (w : World) (h : Heap), YP w h → (K w.params).In h)
    (F : ∀ (w : World) (mg : Str → Option Value) (fa : Addr) (h : Heap), (K w.params).In h → h.Ns mainGlobals mg → mg d.name = some (.ref fa) →
      ∃ fd : FuncData, (∀ (s : Shared) (u : Value), BindsTo s fd ⟨[u], []⟩ [(x, u)]) ∧
        ∀ base : Heap, (K w.params).In base → base.Ns mainGlobals mg → FnOk l.prog w (K w.params) mg base (CX w) k fa fd [x] (sp w))
    (hsp : ∀ (w : World) (H : Hp) (a : Addr) (ns : List Int), ns.length ≤ n → Only H → SqL (K w.params) H a (ns.map V.int) → sp w [.ref a] H (fun v _ => v = .bl true) fun _ _ _ => False)
    (hCX : ∀ (w : World) (H : Hp) (s : Shared) (e : Value) (s' : Shared), CX w [] H s (fun _ _ _ => False) e s' → False) :
    PySem.W.WalkO q loose XP YP l.row.toRowW d [] (fun f vs => PySem.call f vs) := by
  refine Att.attach_call hn hdf fun w s₀ s₁ mg mb fa o pm cd doc a vs ns G Y ho hd hcd hmg hobj hints hlen hg => ?_
  have KX := hY w _ Y
  obtain ⟨fd, hb, hF⟩ := F w mg fa _ KX G.T.g hmg
  exact law_call KX G.T.g G.T.b G.T.builtins G.T.nolimit hg hobj hints (Nat.le_trans hlen hn2) hr hF hb (fun H hO hS => hsp w H a ns hlen hO hS) fun H e s' => hCX w H s₁ e s'
end L2
namespace L2
open PySem PySem.Spec PyProof.Rows
def inClass (s : Stmt) (j : Nat) : Stmt := match s with
  | .ClassDef _ _ _ body _ _ _ _ _ _ _ => body.getD j (.Pass ⟨0, 0, 0, 0⟩)
  | _ => .Pass ⟨0, 0, 0, 0⟩
def defArgs (s : Stmt) : Arguments := match s with
  | .FunctionDef _ a _ _ _ _ _ _ _ _ => a
  | _ => { posonlyargs := [], args := [], vararg := none, kwonlyargs := [], kw_defaults := [], kwarg := none, defaults := [] }
def defBody (s : Stmt) : List Stmt := match s with
  | .FunctionDef _ _ b _ _ _ _ _ _ _ => b
  | _ => []
def defScope (s : Stmt) : Scope := match s with
  | .FunctionDef _ _ _ _ _ _ sc _ _ _ => sc
  | _ => { kind := .function, names := [], isGenerator := false, isCoroutine := false }
abbrev CX0 : CXT := fun _ _ _ _ _ _ => False
abbrev E0 : XK := fun _ _ _ => False
theorem pass0 {X : Cx} : Passes CX0 X E0 := fun _ _ _ _ _ _ _ h => h.elim
structure Fun (K : PySem.W.Frag) (x qual : Str) (st : Stmt) (f : Addr) (fd : FuncData) : Prop where
  ex : ∃ (oc : Value) (od : Option Addr) (kV doc pm : Value) (an : Option Addr) (cdv ct : Value) (osl : Array (Option Value)),
    fd = PySem.W.fnOf x qual (defArgs st) (defBody st) (defScope st) .none kV doc pm an cdv ct ∧ K.lookup f = some ⟨oc, od, .func fd, osl⟩ ∧ PySem.W.codeIn K cdv qual = true
  kp : PySem.W.keepIn K (.ref f) = true
section
variable {P : Program} {w : World} {K : PySem.W.Frag} {mg : Str → Option Value} {base : Heap}
theorem Fun.ok {x qual : Str} {st : Stmt} {f : Addr} {fd : FuncData} {N ps : List Str} {k : Nat} {sp : Sp} (F : Fun K x qual st f fd) (S : FnScope N ps (defScope st)) (len : ∀ vs H Q E, sp vs H Q E → vs.length = ps.length)
    (hbody : ∀ (cdv : Value) (A : Around) (outer : List Env) (s : Shared) (H : Hp) (vs : List V) (Q : VK) (E : XK), Room k (A.deeper (envOfC qual (defScope st) s.heap.objs.size f cdv)) → sp vs H Q E →
      ∃ t, PSs (cxOf CX0 P w K mg base N qual (defScope st) f cdv A outer s H E).nox (defBody st) t ∧ t { nx := fun _ H' => Q .non H', rt := Q } (start N vs) H) : FnOk P w K mg base CX0 (k + 1) f fd ps sp := by
  obtain ⟨oc, od, kV, doc, pm, an, cdv, ct, osl, rfl, lk, hcd⟩ := F.ex
  refine fn_of lk hcd S len fun A outer s H vs Q E hr hsp => ?_
  obtain ⟨t, h, q⟩ := hbody cdv A outer s H vs Q E hr hsp
  exact ⟨t, h.nox, q⟩
theorem Fun.binds {x qual : Str} {st : Stmt} {f : Addr} {fd : FuncData} {ps : List Str} (F : Fun K x qual st f fd)
    (h : ∀ (kV doc pm : Value) (an : Option Addr) (cdv ct : Value) (us : List Value), us.length = ps.length → bindArgs (PySem.W.fnOf x qual (defArgs st) (defBody st) (defScope st) .none kV doc pm an cdv ct) ⟨us, []⟩ = pure (ps.zip us)) : Binds K fd ps [] := by
  obtain ⟨oc, od, kV, doc, pm, an, cdv, ct, osl, rfl, lk, hcd⟩ := F.ex
  exact .all (h kV doc pm an cdv ct)
theorem fun_mk {x qual : Str} {st : Stmt} {f : Addr} {oc : Value} {od an : Option Addr} {osl : Array (Option Value)} {kV doc pm cdv ct : Value} (l : K.lookup f = some ⟨oc, od, .func (PySem.W.fnOf x qual (defArgs st) (defBody st) (defScope st) .none kV doc pm an cdv ct), osl⟩)
    (c : PySem.W.codeIn K cdv qual = true) (k : PySem.W.keepIn K (.ref f) = true) : Fun K x qual st f (PySem.W.fnOf x qual (defArgs st) (defBody st) (defScope st) .none kV doc pm an cdv ct) := ⟨⟨oc, od, kV, doc, pm, an, cdv, ct, osl, rfl, l, c⟩, k⟩
end
theorem small1000 {n : Nat} (h : n ≤ 1000) : n < sizeLine := Nat.lt_of_le_of_lt h (by decide)
section
variable {X : Cx}
theorem pv (i : Nat) {x : Str} {pos : Pos} (hN : X.N[i]? = some x := by rfl) (hv : Vis X.env.scope x := by first | exact Or.inl rfl | exact Or.inr (Or.inl rfl) | exact Or.inr (Or.inr rfl)) (hd : (x == ("__debug__" : Str)) = false := by decide)
    (hcd : (x == ("__classdict__" : Str)) = false := by decide) : PE X (.Name x pos) (tVar i) := pe_var hN hv hd hcd
end
theorem iteF {A B : Prop} (h : B) : if false = true then A else B := by
  rw [if_neg Bool.false_ne_true]
  exact h
theorem iteT {A B : Prop} (h : A) : if true = true then A else B := by
  rw [if_pos rfl]
  exact h
theorem ite2 {c A B : Prop} [Decidable c] (h1 : c → A) (h2 : ¬ c → B) : if c then A else B := by
  by_cases h : c
  · rw [if_pos h]
    exact h1 h
  · rw [if_neg h]
    exact h2 h
def Same (H H' : Hp) : Prop := ∀ b o, H b = some o → H' b = some o
theorem Same.refl (H : Hp) : Same H H := fun _ _ h => h
theorem Same.trans {H H1 H2 : Hp} (a : Same H H1) (b : Same H1 H2) : Same H H2 := fun c o h => b c o (a c o h)
theorem Same.free {H H' : Hp} (e : Same H H') {l : Addr} (h : H' l = Option.none) : H l = Option.none := by
  cases q : H l with
  | none => rfl
  | some o =>
    rw [e l o q] at h
    cases h
theorem Same.seq {K : PySem.W.Frag} {H H' : Hp} {a : Addr} {xs : List V} (e : Same H H') (h : SqL K H a xs) : SqL K H' a xs := by
  rcases h with (h | ⟨o, h⟩) | h
  · exact .inl (.inl (e _ _ h))
  · exact .inl (.inr ⟨o, e _ _ h⟩)
  · exact .inr h
section
variable {κ : Type} [DecidableEq κ]
theorem valV_not {kvs : List (κ × V)} {k : κ} (h : valV kvs k = none) : ¬ k ∈ kvs.map (·.1) := by
  intro m
  obtain ⟨p, hp, e⟩ := List.mem_map.mp m
  have q : (kvs.any fun kv => decide (kv.1 = k)) = true := List.any_eq_true.mpr ⟨p, hp, decide_eq_true e⟩
  rw [valV_any, h] at q
  exact absurd q (by simp)
theorem valV_in {kvs : List (κ × V)} {k : κ} {v : V} (h : valV kvs k = some v) : k ∈ kvs.map (·.1) := by
  have q : (kvs.any fun kv => decide (kv.1 = k)) = true := by
    rw [valV_any, h]
    all_goals rfl
  obtain ⟨p, hp, e⟩ := List.any_eq_true.mp q
  exact List.mem_map.mpr ⟨p, hp, of_decide_eq_true e⟩
end
end L2

set_option Elab.async false
set_option linter.all false
set_option maxRecDepth 100000
set_option maxHeartbeats 4000000

namespace L2
open PySem PySem.Spec PyProof.Rows

/-! ### heaps -/
theorem same_upd {H : Hp} {p : Addr} {o : HO} (h : H p = none) : Same H (upd H p o) := fun b u e => by
  rw [upd_ne (ne_of_none e h)]; exact e
theorem same_upd' {H0 H : Hp} {p : Addr} {o : HO} (s : Same H0 H) (h : H0 p = none) : Same H0 (upd H p o) := fun b u e => by
  rw [upd_ne (ne_of_none e h)]; exact s b u e
theorem same_sqT {K : PySem.W.Frag} {H H' : Hp} {a : Addr} {xs : List V} (e : Same H H') (h : SqT K H a xs) : SqT K H' a xs := by
  rcases h with (h | ⟨o, h⟩) | h
  · exact .inl (.inl (e _ _ h))
  · exact .inl (.inr ⟨o, e _ _ h⟩)
  · exact .inr h

/-! ### texts: their size and their signs -/
abbrev TxtOk (x : Str) : Prop := PyData.strOk x = true
theorem txtOk_iff {x : Str} : TxtOk x ↔ ∀ c ∈ x.cps.toList, c < 0x110000 := by
  unfold TxtOk PyData.strOk
  rw [Array.all_eq_true']
  simp
theorem txtOk_app {x y : Str} (hx : TxtOk x) (hy : TxtOk y) : TxtOk (x ++ y) := by
  rw [txtOk_iff] at *
  intro c hc
  have e : (x ++ y).cps.toList = x.cps.toList ++ y.cps.toList := by
    show (x.cps ++ y.cps).toList = _
    simp
  rw [e, List.mem_append] at hc
  exact hc.elim (hx c) (hy c)
theorem txtOk_slice {x : Str} (hx : TxtOk x) (l u : Option Int) : TxtOk (Txt.slice x l u) := by
  unfold Txt.slice
  split
  · exact hx
  · rw [txtOk_iff] at *
    intro c hc
    have hc' : c ∈ (Builtin.Str.strSliceIndices l u 1 x.length).filterMap (x.cps[·]?) := by simpa using hc
    obtain ⟨i, _, hi⟩ := List.mem_filterMap.mp hc'
    refine hx c ?_
    have := Array.mem_of_getElem? hi
    simpa using this
theorem txtOk_one {c : Nat} (h : c < 0x110000) : TxtOk ⟨#[c]⟩ := by
  rw [txtOk_iff]
  intro d hd
  have e : d = c := by simpa using hd
  rw [e]; exact h
theorem len_app (x y : Str) : (x ++ y).length = x.length + y.length := by
  show (x.cps ++ y.cps).size = _
  rw [Array.size_append]; rfl
theorem len_one (c : Nat) : (⟨#[c]⟩ : Str).length = 1 := rfl
/-! ### slices of texts -/
section
variable {X : Cx}
def rSlS : V → Option Int → Option Int → Hp → VK → Prop := fun x lo hi H Q => ∃ z, x = .str z ∧ z.length ≤ sizeLine ∧ Q (.str (Txt.slice z lo hi)) H
theorem sl_str : SlR X rSlS := by
  intro pins s σ H x v vl vu lo hi sl Q I rx hs pl pu h
  obtain ⟨z, rfl, hz, q⟩ := h
  obtain ⟨t, rfl⟩ := rx
  refine ⟨"str", _, PyProof.Rows.slot_str_getitem.lookup, typeIs_str _ _ _, ?_⟩
  obtain ⟨o, ho, hc, hd⟩ := hs
  have fin : ∀ (l u : Option (Int × Tok)), vl = partValue l → vu = partValue u → lo = l.map (·.1) → hi = u.map (·.1) → wpAny (model X.prog X.w) X.A (getItem (.str z t) (.ref sl)) (EP X pins σ Q) X.xe s := by
    intro l u e1 e2 e3 e4
    subst e1 e2 e3 e4
    refine wpAny_getItem_str_slice (l := l) (u := u) (st := none) ⟨o, ho, hc, hd⟩ rfl ?_
    exact post_val_or_str ⟨Nat.le_trans (Txt.slice_le z _ _) hz, fun t' k => ⟨.str (Txt.slice z (l.map (·.1)) (u.map (·.1))), H, I.tok _, ⟨_, rfl⟩, q⟩⟩
  cases pl with
  | none =>
    cases pu with
    | none => exact fin none none rfl rfl rfl rfl
    | int j tj => exact fin none (some (j, tj)) rfl rfl rfl rfl
  | int i ti =>
    cases pu with
    | none => exact fin (some (i, ti)) none rfl rfl rfl rfl
    | int j tj => exact fin (some (i, ti)) (some (j, tj)) rfl rfl rfl rfl

/-! ### isinstance of a built-in type -/
theorem call_isi : CallR X (.builtin "isinstance") (fun xs H Q => ∃ x t c b, xs = [x, .ty c] ∧ TyOf X.K H x t ∧ PySem.W.kitOne X.K t (.type c) = some b ∧ Q (.bl b) H) := by
  intro pins s σ H xs us Q I r h
  obtain ⟨x, t, c, b, rfl, ty, e, q⟩ := h
  obtain ⟨u, u2, rfl, r1, r2⟩ := vals2 r
  cases (show u2 = Value.type c from r2)
  exact isinst_ok I r1 ty e fun tk => ⟨.bl b, H, I.tok tk, rfl, q⟩
end
end L2

/-! ### tuples of ints: not ahead -/
namespace HT
open PySem PyProof.Rows
theorem rcGe_int (A : Around) (s : Shared) (a : Int) (t : Tok) (c : Int) (u : Tok) (prog : Program) (w : World) (E : Value → Shared → Prop) (Q : Value → Shared → Prop) (h : Q (.bool (decide (c ≤ a))) s) :
    wpAny (model prog w) A (richCompare .GtE (.int a t) (.int c u)) Q E s :=
  (PyProof.Rows.ge_int h : wpAny (model prog w) A (compareOp .GtE (.int a t) (.int c u)) Q E s)
section
open PySem.SeqAt
open PySem.AutoSeq1 (wpAny_loadPart')
open PySem.MeetsSeq PySem.MeetsSeq2 PySem.MeetsSeq3
end
section
variable {prog : Program} {w : World} {A : Around} {E : Value → Shared → Prop} {s : Shared}
end
end HT

namespace L2
open PySem PySem.Spec PyProof.Rows
section
variable {X : Cx}
end

/-! ### deep data -/
mutual
inductive DV (K : PySem.W.Frag) (H : Hp) : V → PySem.W.Dat → Prop
  | non : DV K H .non .none
  | int (i : Int) : DV K H (.int i) (.int i)
  | str (x : Str) : DV K H (.str x) (.str x)
  | tup {a : Addr} {xs : List V} {ds : List PySem.W.Dat} : SqT K H a xs → DVs K H xs ds → DV K H (.ref a) (.tuple ds)
  | lst {a : Addr} {xs : List V} {ds : List PySem.W.Dat} : SqL K H a xs → DVs K H xs ds → DV K H (.ref a) (.list ds)
inductive DVs (K : PySem.W.Frag) (H : Hp) : List V → List PySem.W.Dat → Prop
  | nil : DVs K H [] []
  | cons {x : V} {d : PySem.W.Dat} {xs : List V} {ds : List PySem.W.Dat} : DV K H x d → DVs K H xs ds → DVs K H (x :: xs) (d :: ds)
end
theorem dvs_ints {K : PySem.W.Frag} {H : Hp} : ∀ ns : List Int, DVs K H (ns.map V.int) (ns.map PySem.W.Dat.int)
  | [] => .nil
  | n :: ns => .cons (.int n) (dvs_ints ns)
theorem dvs_strs {K : PySem.W.Frag} {H : Hp} : ∀ xs : List Str, DVs K H (xs.map V.str) (xs.map PySem.W.Dat.str)
  | [] => .nil
  | n :: ns => .cons (.str n) (dvs_strs ns)
section
variable {X : Cx} {pins : List (Addr × Obj)} {σ : St} {H : Hp} {s : Shared}
mutual
theorem DV.reads (I : Inv X pins σ H s) : ∀ {x : V} {d : PySem.W.Dat} {u : Value}, DV X.K H x d → RelV x u → ∃ as, Reads s.heap u (PySem.W.kqdP d) as
  | _, _, _, .non, r => by cases r; exact ⟨_, Reads.none⟩
  | _, _, _, .int i, r => by obtain ⟨t, rfl⟩ := r; exact ⟨_, Reads.int i t⟩
  | _, _, _, .str x, r => by obtain ⟨t, rfl⟩ := r; exact ⟨_, Reads.str x t⟩
  | _, _, _, .tup h q, r => by
    cases r
    obtain ⟨its, rv, ⟨o, e, c, n, d⟩, _⟩ := I.tuple h
    obtain ⟨as, z⟩ := DVs.reads I q rv
    rw [PySem.W.kqdP]
    exact ⟨as, reads_tuple_at e c d (by simpa using z)⟩
  | _, _, _, .lst h q, r => by
    cases r
    obtain ⟨its, rv, ⟨o, n, e, c, _, d⟩, _⟩ := I.list h
    obtain ⟨as, z⟩ := DVs.reads I q rv
    rw [PySem.W.kqdP]
    exact ⟨_, reads_list_at e c d (by simpa using z)⟩
theorem DVs.reads (I : Inv X pins σ H s) : ∀ {xs : List V} {ds : List PySem.W.Dat} {us : List Value}, DVs X.K H xs ds → Vals xs us → ∃ as, ReadsAll s.heap us (PySem.W.kqdPs ds) as
  | _, _, _, .nil, .nil => ⟨_, ReadsAll.nil⟩
  | _, _, _, .cons q qs, .cons r rs => by
    obtain ⟨as, z⟩ := DV.reads I q r
    obtain ⟨bs, y⟩ := DVs.reads I qs rs
    rw [PySem.W.kqdPs]
    exact ⟨_, ReadsAll.cons z y⟩
end
end
theorem dat_shaped {d : PySem.W.Dat} (h : PySem.W.kqdOk 9 d = true) : SeqAt.shaped (PySem.W.kqdP d) = true := by
  have l := PySem.W.kqd_lay 9 d h
  unfold SeqAt.shaped
  rw [l.1, Bool.true_and]
  exact decide_eq_true (Nat.le_trans l.2 (by decide))
section
variable {X : Cx}
theorem op_neD (hu : X.A.units + 64 < cLine) : OpR X (compareOp .NotEq) (fun x y H Q => ∃ d e, DV X.K H x d ∧ DV X.K H y e ∧ PySem.W.kqdOk 9 d = true ∧ PySem.W.kqdOk 9 e = true ∧ ∀ b : Bool, (b = true ↔ d = e) → Q (.bl (!b)) H) := by
  intro pins s σ H x y v u Q I rx ry h
  obtain ⟨d, e, hd, he, od, oe, q⟩ := h
  obtain ⟨as, ra⟩ := hd.reads I rx
  obtain ⟨bs, rb⟩ := he.reads I ry
  exact ne_dataH ra rb (dat_shaped od) (dat_shaped oe) hu ⟨.bl _, H, I, rfl, q _ (PySem.W.kqd_eqv 9 d e 9 od oe)⟩
end
end L2

namespace L2
open PySem PySem.Spec PyProof.Rows
/-! ### a cut between two statements: M is what holds there -/
section
variable {X : Cx} {st : Stmt} {rest : List Stmt} {t u : TS}
def tCut (M : St → Hp → Prop) (t u : TS) : TS := fun D σ H => t { D with nx := M } σ H ∧ ∀ σ' H', M σ' H' → u D σ' H'
theorem pss_cut (M : St → Hp → Prop) (h1 : PS X st t) (h2 : PSs X rest u) : PSs X (st :: rest) (tCut M t u) := by
  intro pins s σ H D I h
  refine wpAny_execs_cons (thn (h1 pins s σ H { D with nx := M } I h.1) fun f s1 q => ?_)
  cases f with
  | next =>
    obtain ⟨σ', H', I', q⟩ := q
    exact h2 pins s1 σ' H' D I' (h.2 σ' H' q)
  | ret v => exact q
  | brk => exact q
  | cont => exact q
end

/-! ### small facts -/
theorem free_upd {H : Hp} {p t : Addr} {o : HO} (h : upd H p o t = none) : t ≠ p ∧ H t = none := by
  by_cases e : t = p
  · subst e; rw [upd_same] at h; cases h
  · exact ⟨e, by rw [upd_ne e] at h; exact h⟩
theorem fit {a b : Str} (ha : a.length ≤ 100) (hb : b.length ≤ 100) : a.length + b.length ≤ sizeLine := Nat.le_of_lt (small1000 (by omega))
theorem fit1 {a : Str} (ha : a.length ≤ 100) : a.length ≤ sizeLine := Nat.le_of_lt (small1000 (by omega))
theorem cutV_take {xs : List V} {k : Int} (h : 0 ≤ k) : cutV xs none (some k) = xs.take k.toNat := by
  obtain ⟨n, rfl⟩ : ∃ n : Nat, k = n := ⟨k.toNat, by omega⟩
  unfold cutV
  rw [HT.sIx_none, HT.sIx_nat, List.drop_zero, Nat.sub_zero]
  exact List.take_eq_take_iff.mpr (by simp)
theorem ixN_in {n : Nat} {r : Int} (h0 : 0 ≤ r) (h1 : r < n) : ixN n r = some r.toNat := by
  unfold ixN
  rw [if_pos h0, if_pos h1]
theorem atI_in {α : Type} {xs : List α} {r : Int} (h0 : 0 ≤ r) (h1 : r < xs.length) : ∃ v, atI xs r = some v ∧ xs[r.toNat]? = some v := by
  obtain ⟨n, rfl⟩ : ∃ n : Nat, r = n := ⟨r.toNat, by omega⟩
  have hn : n < xs.length := by omega
  have e : xs[n]? = some (xs[n]'hn) := by simp
  exact ⟨_, atI_nat e, by simpa using e⟩
theorem atI_ints {ns : List Int} {r : Int} (h0 : 0 ≤ r) (h1 : r < ns.length) : ∃ z, atI (ns.map V.int) r = some (V.int z) ∧ ns[r.toNat]? = some z := by
  obtain ⟨v, e, e2⟩ := atI_in (xs := ns.map V.int) h0 (by rw [List.length_map]; exact h1)
  rw [List.getElem?_map] at e2
  cases q : ns[r.toNat]? with
  | none => rw [q] at e2; cases e2
  | some z =>
    rw [q] at e2
    cases e2
    exact ⟨z, e, rfl⟩
theorem set_ints (ns : List Int) (j : Nat) (z : Int) : (ns.map V.int).set j (V.int z) = (ns.set j z).map V.int := by
  rw [List.map_set]
theorem take_ints (ns : List Int) (k : Nat) : (ns.map V.int).take k = (ns.take k).map V.int := by
  rw [List.map_take]

/-! ### a def of the top -/
def DefAt (K : PySem.W.Frag) (mg : Str → Option Value) (x : Str) (st : Stmt) : Prop := ∃ f fd, mg x = some (.ref f) ∧ Fun K x x st f fd ∧ PySem.W.keepIn K (.ref f) = true
theorem defAt_mk {K : PySem.W.Frag} {h : Heap} {mg : Str → Option Value} {x : Str} {st : Stmt} {f : Addr} {od an : Option Addr} {sl : Array (Option Value)} {oc kV dc pm cd ct : Value} (X : K.In h) (G : h.Ns mainGlobals mg)
    (a : PySem.W.nsIn K mainGlobals x = some (some (.ref f))) (l : K.lookup f = some ⟨oc, od, .func (PySem.W.fnOf x x (defArgs st) (defBody st) (defScope st) .none kV dc pm an cd ct), sl⟩) (c : PySem.W.codeIn K cd x = true) (k : PySem.W.keepIn K (.ref f) = true) :
    DefAt K mg x st := ⟨f, _, PySem.W.mg_of X G a, fun_mk l c k, k⟩
end L2

set_option Elab.async false
set_option linter.all false
set_option maxRecDepth 100000
set_option maxHeartbeats 4000000

namespace L2
open PySem PySem.Spec PyProof.Rows

/-! ### a comprehension's tests -/
abbrev testsOf (ifs : List Expr) (env : Env) : Sem Bool :=
  forIn ifs true fun c r => if r = true then do let ok ← isTrue c env (eval c env); pure (ForInStep.yield ok) else pure (ForInStep.yield r)
def PTs (X : Cx) (ifs : List Expr) (t : TT) : Prop :=
  ∀ (pins : List (Addr × Obj)) (s : Shared) (σ : St) (H : Hp) (Q : Bool → Hp → Prop), Inv X pins σ H s → t σ H Q → wpAny (model X.prog X.w) X.A (testsOf ifs X.env) (TP X pins σ Q) X.xe s
def tTrue : TT := fun _ H Q => Q true H
theorem pts_nil {X : Cx} : PTs X [] tTrue := fun _ _ _ H _ I h => wpAny_tests_nil ⟨H, I, h⟩
theorem pts_one {X : Cx} {c : Expr} {t : TT} (h : PT X c t) : PTs X [c] t := fun pins s σ H Q I q => wpAny_tests_one (h pins s σ H Q I q)

/-! ### a comprehension's loop -/
section
variable {prog : Program} {w : World} {A : Around} {R : Result → Shared → Prop} {s : Shared}
theorem comp_loop {elt target iter : Expr} {ifs : List Expr} {scope : Scope} {pos : Pos} {it acc : Value} {env : Env} (I : Nat → Shared → Prop)
    (turn : ∀ n s, I n s → wpAny (model prog w) A (pyNext it) (fun r s₁ => match r with
      | none => R (.ok .next) s₁
      | some v => wpAny (model prog w) A (letOwnedTupleGo target it v) (fun _ s₀ => wpAny (model prog w) A (assign target env v) (fun _ s₂ =>
          wpAny (model prog w) A (testsOf ifs env) (fun ok s₃ =>
            if ok = true then wpAny (model prog w) A (eval elt env) (fun x s₄ =>
              wpAny (model prog w) A (call (.builtin "list.append") [acc, x]) (fun _ s₅ => ∃ m, m < n ∧ I m s₅) (notedBy (model prog w) A env fun e s' => R (.error e) s') s₄) (notedBy (model prog w) A env fun e s' => R (.error e) s') s₃
            else ∃ m, m < n ∧ I m s₃) (notedBy (model prog w) A env fun e s' => R (.error e) s') s₂) (notedBy (model prog w) A env fun e s' => R (.error e) s') s₀) (notedBy (model prog w) A env fun e s' => R (.error e) s') s₁) (notedBy (model prog w) A env fun e s' => R (.error e) s') s)
    (n : Nat) (h : I n s) : codeAny (model prog w) A (.compLoop (.ListComp elt [⟨target, iter, ifs, 0⟩] scope pos) 0 it acc env) R s := by
  refine codeAny_loop rfl I (fun n s hI => ?_) n h
  show wpAny _ A ((compTurn (.ListComp elt [⟨target, iter, ifs, 0⟩] scope pos) 0 it acc env).onRaise (fun x => do noteFrame x env; theTreesLotGoes x)) _ _ s
  refine wpAny_noted ?_
  rw [compTurn_list]
  refine wpAny_bind (wpAny_standAt (wpAny_bind (wpAny_mono (turn n s hI) (fun r s₁ h₁ => ?_) fun _ _ h' => h')))
  cases r with
  | none => exact wpAny_pure h₁
  | some v =>
    refine wpAny_bind (wpAny_mono h₁ (fun _ s₀ h₀ => ?_) fun _ _ h' => h')
    refine wpAny_bind (wpAny_mono h₀ (fun _ s₂ h₂ => wpAny_bind (wpAny_mono h₂ (fun ok s₃ h₃ => ?_) fun _ _ h' => h')) fun _ _ h' => h')
    cases ok with
    | false => exact wpAny_pure ⟨rfl, h₃⟩
    | true =>
      exact wpAny_bind (wpAny_bind (wpAny_mono h₃ (fun x s₄ h₄ => wpAny_bind (wpAny_mono h₄ (fun _ s₅ h₅ => wpAny_pure (wpAny_pure ⟨rfl, h₅⟩)) fun _ _ h' => h')) fun _ _ h' => h'))
end

/-! ### its context: a frame of its own (its names), the same stack -/
def cxComp (X : Cx) (N : List Str) (sc : Scope) (s₀ : Shared) (H₀ : Hp) (C : Addr) (ex : List Addr) : Cx where
  prog := X.prog
  w := X.w
  K := X.K
  mg := X.mg
  base := X.base
  A := X.A
  N := N
  s₀ := s₀
  H₀ := H₀
  env := compEnv sc C X.env
  outer := X.stack
  stack := X.stack
  ex := ex
  fn := fun _ => true
  calm := X.calm
  pn := []
  xe := fun _ _ => False

/-- the scope of a comprehension whose names are all its own or global -/
structure CompScope (N : List Str) (sc : Scope) : Prop where
  kind : sc.kind = .function
  nofree : ∀ y ∈ sc.names, y.2 ≠ .free
  nocell : ∀ y ∈ sc.names, y.2 ≠ .cell
  names : ∀ y ∈ sc.names, y.2 = .local → sc.names.lookup y.1 = some .local
  nd : N.Nodup

theorem un_but {fs ex : List Addr} {H H' : Hp} {h h1 h2 : Heap} {C : Addr} (u : Un fs ex H H' h h1) (sb : Heap.SameBut C h1 h2) (hC : h.objs.size ≤ C) : Un fs ex H H' h h2 := by
  have ne : ∀ b o, h.get? b = some o → b ≠ C := fun b o e => Nat.ne_of_lt (Nat.lt_of_lt_of_le (Heap.lt_size e) hC)
  refine ⟨fun b o e n hb hx => (sb.2 b (ne b o e)).trans (u.keep b o e n hb hx), fun b o e n hb hx => ?_, u.free, fun b o e hx => ?_, u.tups, u.frzs, u.tbls⟩
  · obtain ⟨sl, q⟩ := u.slot b o e n hb hx
    exact ⟨sl, (sb.2 b (ne b o e)).trans q⟩
  · obtain ⟨o', q⟩ := u.there b o e hx
    exact ⟨o', (sb.2 b (ne b o e)).trans q⟩
theorem hok_but {P : Program} {w : World} {H : Hp} {h1 h2 : Heap} {C : Addr} (ok : HOk P w H h1) (sb : Heap.SameBut C h1 h2) (hn : H C = none) : HOk P w H h2 := fun b ob e => by
  refine (ok b ob e).stay (fun c w' hc q => (sb.2 c ?_).trans q) (fun _ q => q) fun _ _ q => q
  rintro rfl
  rcases hc with rfl | hc
  · rw [hn] at e; cases e
  · rw [hn] at hc; cases hc

/-- what the loop asks: W the invariant by the turn, a measure, the names' values and the heap; the list that grows stands at D -/
def CompAsk (J : It) (g : TG) (tt : TT) (te : TE) (D : Addr) (Qd : Hp → Prop) (W : Nat → Nat → St → Hp → Prop) : Prop :=
  ∀ i m σ H, W i m σ H → (J.stop i H ∧ Qd H) ∨ (J.go i H ∧ ∀ x H2, J.yld i H x H2 → g x σ H2 fun σ3 H3 => tt σ3 H3 fun ok H4 =>
    if ok = true then te σ3 H4 fun y H5 => ∃ ys, H5 D = some (.lst ys) ∧ ys.length < sizeLine ∧ ∃ m', m' < m ∧ W (i + 1) m' σ3 (upd H5 D (.lst (ys ++ [y])))
    else ∃ m', m' < m ∧ W (i + 1) m' σ3 H4)
def tComp (wi : TI) (n : Nat) (g : TG) (tt : TT) (te : TE) : TE := fun σ H Q => wi σ H fun J H1 => ∀ D, H1 D = none →
  ∃ W : Nat → Nat → St → Hp → Prop, (∃ m, W 0 m (List.replicate n none) (upd H1 D (.lst []))) ∧ CompAsk J g tt te D (fun H' => Q (.ref D) H') W

section
variable {X : Cx} {pins : List (Addr × Obj)} {σ : St} {H3 : Hp} {s3 : Shared}
theorem comp_core {elt tg iter : Expr} {ifs : List Expr} {sc : Scope} {pos : Pos} {N : List Str} {g : TG} {tt : TT} {te : TE} {it C D : Addr} {fp : List Addr} {tn : Nat → Heap → Prop} {J : It} {h4 : Heap} {tk : Nat} {m : Str → Option Value}
    {W : Nat → Nat → St → Hp → Prop} {Qd : Hp → Prop} {m0 : Nat} (S : CompScope N sc) (hc : X.calm = true) (I3 : Inv X pins σ H3 s3) (T : Turn X.prog X.w X.K tg J fp it tn) (st3 : tn 0 s3.heap) (f3 : ∀ b ∈ fp, FpOk X pins H3 b)
    (eC : C = s3.heap.objs.size) (hns : h4.Ns C m) (hk : ∀ b o, s3.heap.get? b = some o → h4.get? b = some o)
    (hg : PG (cxComp X N sc s3 H3 C fp) tg g) (ht : PTs (cxComp X N sc s3 H3 C fp) ifs tt) (he : PE (cxComp X N sc s3 H3 C fp) elt te)
    (w0 : W 0 m0 (List.replicate N.length none) H3) (ask : CompAsk J g tt te D Qd W) :
    codeAny (model X.prog X.w) X.A (.compStart (.ListComp elt [⟨tg, iter, ifs, 0⟩] sc pos) 0 (.ref it) (.ref D) (compEnv sc C X.env))
      (fun r s' => r = .ok .next ∧ ∃ m' H', s'.heap.Ns C m' ∧ s'.os = s3.os ∧ AllBare s'.gens ∧ Un (frs X.stack) fp H3 H' s3.heap s'.heap ∧ HOk X.prog X.w H' s'.heap ∧ H' C = none ∧ Qd H') { s3 with heap := h4, toks := tk } := by
  have noL : ∀ (x : Str) (c : Addr), (cxComp X N sc s3 H3 C fp).env.cells.lookup x = some c → False := fun x c e => by
    have e' : ([] : List (Str × Addr)).lookup x = some c := e
    cases e'
  have fpl : ∀ b ∈ fp, b < s3.heap.objs.size := fun b hb => by
    obtain ⟨o, e, _⟩ := T.obj 0 _ st3 b hb
    exact Heap.lt_size e
  have ok' : (cxComp X N sc s3 H3 C fp).Ok := by
    refine ⟨I3.ok.mod, S.kind, I3.ok.glob, I3.ok.blt, Nat.le_of_eq eC.symm, fun x y c e _ => (noL x c e).elim, fun x hx => ?_, fun x c _ e => (noL x c e).elim, I3.ok.hd, I3.ok.frames, .inl rfl, fun b hb => ?_,
      I3.bs, Nat.le_trans I3.ok.bsz I3.sz, fun b o e hb => ?_, fun b hb hs => ?_, I3.stack, I3.stkFree⟩
    · have hx' : sc.names.lookup x = some .cell ∨ sc.names.lookup x = some .free := hx
      rcases hx' with z | z
      · exact absurd rfl (S.nocell _ (PySem.mem_of_lookup z))
      · exact absurd rfl (S.nofree _ (PySem.mem_of_lookup z))
    · refine ⟨?_, fun x c e => (noL x c e).elim⟩
      show b ≠ C
      rw [eC]
      exact Nat.ne_of_lt (fpl b hb)
    · rcases (f3 b hb).2.2.2.1 with z | z
      · exact I3.ok.noex b o e z
      · have h1 : b < X.base.objs.size := Heap.lt_size e
        exact absurd (Nat.lt_of_lt_of_le h1 (Nat.le_trans I3.ok.bsz z)) (Nat.lt_irrefl _)
    · obtain ⟨_, f1, f2, _⟩ := f3 b hb
      rcases List.mem_cons.mp (I3.stkSub b hs) with z | z
      · exact f1 z
      · exact f2 z
  have hCn : H3 C = none := by rw [eC]; exact I3.hok.fresh (Nat.le_refl _)
  have I4 : Inv (cxComp X N sc s3 H3 C fp) [] (List.replicate N.length none) H3 { s3 with heap := h4, toks := tk } := by
    refine ⟨ok', rfl, I3.bare, Un.kept hk, ⟨m, hns, fun i x v _ e2 _ => ?_⟩, fun x c e => (noL x c e).elim, hCn, fun x c e => (noL x c e).elim, fun p hp => ?_, I3.hok.kept hk, ?_⟩
    · rw [List.getElem?_replicate] at e2
      split at e2
      · cases e2
      · cases e2
    · have hp' : p ∈ ([] : List (Addr × Obj)) := hp
      cases hp'
    · show (List.replicate N.length (none : Option V)).length = N.length
      rw [List.length_replicate]
  have fpS : ∀ {H' : Hp}, (∀ b ∈ fp, H' b = none) → ∀ b ∈ fp, FpOk (cxComp X N sc s3 H3 C fp) [] H' b := fun {H'} hn b hb => by
    refine ⟨hn b hb, ?_, fun hs => ok'.exfs b hb hs, .inl hb, fun x c e => (noL x c e).elim, fun p hp => ?_⟩
    · show b ≠ C
      rw [eC]
      exact Nat.ne_of_lt (fpl b hb)
    · have hp' : p ∈ ([] : List (Addr × Obj)) := hp
      cases hp'
  have st4 : tn 0 h4 := T.keep 0 _ _ st3 fun b _ o e => hk b o e
  have loop : codeAny (model X.prog X.w) X.A (.compLoop (.ListComp elt [⟨tg, iter, ifs, 0⟩] sc pos) 0 (.ref it) (.ref D) (compEnv sc C X.env))
      (fun r s' => r = .ok .next ∧ ∃ m' H', s'.heap.Ns C m' ∧ s'.os = s3.os ∧ AllBare s'.gens ∧ Un (frs X.stack) fp H3 H' s3.heap s'.heap ∧ HOk X.prog X.w H' s'.heap ∧ H' C = none ∧ Qd H') { s3 with heap := h4, toks := tk } := by
    refine comp_loop (fun n s' => ∃ i σ' H', Inv (cxComp X N sc s3 H3 C fp) [] σ' H' s' ∧ tn i s'.heap ∧ (∀ b ∈ fp, H' b = none) ∧ W i n σ' H') ?_ m0 ⟨0, _, H3, I4, st4, fun b hb => (f3 b hb).1, w0⟩
    rintro n s' ⟨i, σ', H', J', st', fr', w'⟩
    rcases ask i n σ' H' w' with ⟨stop, qd⟩ | ⟨go, step⟩
    · refine thn (T.done (cxComp X N sc s3 H3 C fp) rfl rfl rfl hc i [] s' σ' H' _ J' (fpS fr') st' stop) fun r s1 ⟨hr, J1⟩ => ?_
      subst hr
      obtain ⟨m1, hn1, _⟩ := J1.loc
      exact ⟨rfl, m1, H', hn1, J1.os, J1.bare, J1.base, J1.hok, J1.free, qd⟩
    · refine thn (T.item (cxComp X N sc s3 H3 C fp) rfl rfl rfl hc i [] s' σ' H' _ J' (fpS fr') st' go) fun r s1 ⟨u, hr, h1⟩ => ?_
      subst hr
      refine thn h1 fun _ s2 ⟨x, H5, J5, r5, y5, st5, fr5⟩ => ?_
      have J5' := J5.pinned (fpS fr5) (T.obj _ _ st5)
      refine wpAny_mono (hg _ s2 σ' H5 x u _ J5' r5 (step x H5 y5)) (fun _ s6 ⟨σ6, H6, J6, q6⟩ => ?_) (fun _ _ z => z.elim)
      refine wpAny_mono (ht _ s6 σ6 H6 _ J6 q6) (fun ok s7 ⟨H7, J7, q7⟩ => ?_) (fun _ _ z => z.elim)
      have again : ∀ {s9 : Shared} {H9 : Hp} {m' : Nat}, Inv (cxComp X N sc s3 H3 C fp) ([] ++ pinsAt fp s2.heap) σ6 H9 s9 → m' < n → W (i + 1) m' σ6 H9 →
          ∃ m, m < n ∧ ∃ i σ' H', Inv (cxComp X N sc s3 H3 C fp) [] σ' H' s9 ∧ tn i s9.heap ∧ (∀ b ∈ fp, H' b = none) ∧ W i m σ' H' := fun {s9 H9 m'} J9 hm w9 => by
        refine ⟨m', hm, i + 1, σ6, H9, J9.unpinned, T.keep _ _ _ st5 fun b hb o e => (J9.pin (b, o) (List.mem_append_right _ (List.mem_append_right _ (mem_pinsAt hb e)))).1, fun b hb => ?_, w9⟩
        obtain ⟨o, e, d⟩ := T.obj _ _ st5 b hb
        exact (J9.pin (b, o) (List.mem_append_right _ (List.mem_append_right _ (mem_pinsAt hb e)))).2.1
      cases ok with
      | false =>
        rw [if_neg Bool.false_ne_true] at q7 ⊢
        obtain ⟨m', hm, w7⟩ := q7
        exact again J7 hm w7
      | true =>
        rw [if_pos rfl] at q7 ⊢
        refine wpAny_mono (he _ s7 σ6 H7 _ J7 q7) (fun y s8 ⟨yv, H8, J8, r8, ys, hD8, hz, m', hm, w8⟩ => ?_) (fun _ _ z => z.elim)
        refine wpAny_mono (mt_append (X := cxComp X N sc s3 H3 C fp) _ s8 σ6 H8 (.ref D) [yv] (.ref D) [y] (fun v H9 => H9 = upd H8 D (.lst (ys ++ [yv]))) J8 rfl (.cons r8 .nil) ⟨D, ys, yv, rfl, rfl, hD8, hz, rfl⟩) (fun _ s9 ⟨_, H9, J9, _, eH⟩ => ?_) (fun _ _ z => z.elim)
        subst eH
        exact again J9 hm w8
  exact codeAny_compStart_list loop (T.self X.A 0 _ _ _ st4 loop)

theorem pe_comp {elt tg iter : Expr} {ifs : List Expr} {sc : Scope} {pos : Pos} {N : List Str} {wi : TI} {g : TG} {tt : TT} {te : TE} (S : CompScope N sc) (hc : X.calm = true) (hi : PI X tg iter wi)
    (hg : ∀ s₀ H₀ C ex, PG (cxComp X N sc s₀ H₀ C ex) tg g) (ht : ∀ s₀ H₀ C ex, PTs (cxComp X N sc s₀ H₀ C ex) ifs tt) (he : ∀ s₀ H₀ C ex, PE (cxComp X N sc s₀ H₀ C ex) elt te)
    (hs : ∀ x, foldedSetIterable iter X.env x = pure x := by intro _; rfl) : PE X (.ListComp elt [⟨tg, iter, ifs, 0⟩] sc pos) (tComp wi N.length g tt te) := by
  intro pins s σ H Q I h
  refine wpAny_ListComp S.nofree S.kind S.names (thn (hi pins s σ H _ I h) fun v s1 h1 => thn h1 fun itv s2 h2 => ?_) hs
  obtain ⟨it, fp, tn, J, H2, e, I2, T, st2, f2, q2⟩ := h2
  subst e
  have hDn : H2 s2.heap.objs.size = none := I2.fresh
  obtain ⟨W, ⟨m0, w0⟩, ask⟩ := q2 _ hDn
  have I3 := I2.lnew (ys := []) (its := []) (t' := s2.toks) .nil (Nat.zero_le _)
  have fpl : ∀ b ∈ fp, b < s2.heap.objs.size := fun b hb => by
    obtain ⟨o, e, _⟩ := T.obj 0 _ st2 b hb
    exact Heap.lt_size e
  have f3 : ∀ b ∈ fp, FpOk X pins (upd H2 s2.heap.objs.size (.lst [])) b := fun b hb => by
    refine ⟨?_, (f2 b hb).2⟩
    rw [upd_ne (Nat.ne_of_lt (fpl b hb))]
    exact (f2 b hb).1
  refine wpAny_newObj_type (hd := by size_fits) (wpAny_newFunctionEnv S.nocell (by intro y hy; simp at hy) (fun h4 hns hsb => ?_) S.kind)
  dsimp only at hns hsb ⊢
  have hkp : ∀ b o, (s2.heap.push { cls := .type "list", dict := none, data := .seq ([] : List Value).toArray }).get? b = some o → h4.get? b = some o := fun b o e =>
    hsb.extBut b o (Nat.ne_of_lt (Heap.lt_size e)) (Heap.get?_push_of_some _ e)
  have st3 : tn 0 (s2.heap.push { cls := .type "list", dict := none, data := .seq ([] : List Value).toArray }) := T.keep 0 _ _ st2 fun b _ o e => Heap.get?_push_of_some _ e
  refine codeAny_mono (comp_core (s3 := { s2 with heap := s2.heap.push { cls := .type "list", dict := none, data := .seq ([] : List Value).toArray } }) (tk := s2.toks + ([] : List (Str × Value)).length) S hc I3 T st3 f3 rfl hns hkp (hg _ _ _ _) (ht _ _ _ _) (he _ _ _ _) w0 ask) fun r s' hr => ?_
  obtain ⟨er, m', H', hn', os', bare', un', hok', free', qd⟩ := hr
  subst er
  refine ⟨m', hn', fun h' sb => ?_⟩
  show EP X pins σ Q (.ref s2.heap.objs.size) { s' with heap := h' }
  have un1 : Un (frs X.stack) fp H2 (upd H2 s2.heap.objs.size (.lst [])) s2.heap (s2.heap.push { cls := .type "list", dict := none, data := .seq ([] : List Value).toArray }) := Un.laid (fun b o e => Heap.get?_push_of_some _ e) (Nat.le_refl _) hDn
  have un2 : Un (frs X.stack) fp H2 H' s2.heap h' := un_but (un1.trans un') sb (show s2.heap.objs.size ≤ (s2.heap.push { cls := .type "list", dict := none, data := .seq ([] : List Value).toArray }).objs.size by rw [Heap.size_push]; exact Nat.le_succ _)
  exact ⟨.ref s2.heap.objs.size, H', I2.call' (s' := { s' with heap := h' }) (ch := fp) os' un2 (hok_but hok' sb free') bare' (fun b hb => ⟨(f2 b hb).2.2.2.1, (f2 b hb).2.1, (f2 b hb).2.2.2.2.1, (f2 b hb).2.2.2.2.2⟩), rfl, qd⟩
end
end L2

set_option Elab.async false
set_option linter.all false
set_option maxRecDepth 100000
set_option maxHeartbeats 4000000

namespace L2
open PySem PySem.Spec PyProof.Rows

/-! ### the cells that a comprehension takes from around it -/
def takenFrom (env : Env) : List (Str × NameKind) → List (Str × Addr) → List (Str × Addr)
  | [], cs => cs
  | (n, k) :: r, cs => if k = .free then takenFrom env r ((n, (env.cells.lookup n).getD 0) :: cs) else takenFrom env r cs
theorem closureFor_taken {scope : Scope} {env : Env} (h : ∀ y ∈ scope.names, y.2 = .free → ∃ c, env.cells.lookup y.1 = some c) : closureFor scope env = pure (takenFrom env scope.names []) := by
  unfold closureFor
  generalize scope.names = l at h
  have go : ∀ (l : List (Str × NameKind)) (cs : List (Str × Addr)), (∀ y ∈ l, y.2 = .free → ∃ c, env.cells.lookup y.1 = some c) →
      (forIn l cs fun (x : Str × NameKind) (r : List (Str × Addr)) => (if (x.2 == .free) = true then do let y ← cellOf env x.1; pure (ForInStep.yield ((x.1, y) :: r)) else pure (ForInStep.yield r) : Sem (ForInStep (List (Str × Addr))))) = pure (takenFrom env l cs) := by
    intro l
    induction l with
    | nil => intro cs _; rfl
    | cons x l ih =>
      intro cs h
      obtain ⟨n, k⟩ := x
      rw [List.forIn_cons]
      by_cases e : k = .free
      · subst e
        obtain ⟨c, hc⟩ := h _ List.mem_cons_self rfl
        have hc : env.cells.lookup n = some c := hc
        have e1 : cellOf env n = pure c := by unfold cellOf; rw [hc]
        simp only [e1, takenFrom, hc, if_true, Option.getD_some, beq_self_eq_true, pure_bind]
        exact ih _ fun y hy => h y (List.mem_cons_of_mem _ hy)
      · have e' : (k == NameKind.free) = false := by simpa using e
        simp only [e', takenFrom, e, if_false, Bool.false_eq_true, pure_bind]
        exact ih _ fun y hy => h y (List.mem_cons_of_mem _ hy)
  have := go l [] h
  simpa using this
theorem takenFrom_some {env : Env} : ∀ {l : List (Str × NameKind)} {cs : List (Str × Addr)} {x : Str} {c : Addr}, (∀ y ∈ l, y.2 = .free → ∃ c, env.cells.lookup y.1 = some c) → (∀ x c, cs.lookup x = some c → env.cells.lookup x = some c) →
    (takenFrom env l cs).lookup x = some c → env.cells.lookup x = some c
  | [], _, _, _, _, hc, e => hc _ _ e
  | (n, k) :: l, cs, x, c, h, hc, e => by
    unfold takenFrom at e
    have h' : ∀ y ∈ l, y.2 = .free → ∃ c, env.cells.lookup y.1 = some c := fun y hy => h y (List.mem_cons_of_mem _ hy)
    split at e
    · refine takenFrom_some h' (fun z d hz => ?_) e
      rename_i hk
      rw [List.lookup_cons] at hz
      split at hz
      · rename_i q
        obtain ⟨d', hd⟩ := h (n, k) List.mem_cons_self hk
        have hd : env.cells.lookup n = some d' := hd
        have : z = n := by simpa using q
        subst this
        rw [hd] at hz ⊢
        exact hz
      · exact hc _ _ hz
    · exact takenFrom_some h' hc e
theorem takenFrom_mono {env : Env} : ∀ {l : List (Str × NameKind)} {cs : List (Str × Addr)} {x : Str}, (cs.lookup x).isSome = true → ((takenFrom env l cs).lookup x).isSome = true
  | [], _, _, h => h
  | (n, k) :: l, cs, x, h => by
    unfold takenFrom
    split
    · refine takenFrom_mono ?_
      rw [List.lookup_cons]
      split
      · rfl
      · exact h
    · exact takenFrom_mono h
theorem takenFrom_has {env : Env} {x : Str} : ∀ {l : List (Str × NameKind)} {cs : List (Str × Addr)}, (x, NameKind.free) ∈ l → ((takenFrom env l cs).lookup x).isSome = true
  | (n, k) :: l, cs, h => by
    unfold takenFrom
    rcases List.mem_cons.mp h with e | e
    · cases e
      rw [if_pos rfl]
      refine takenFrom_mono ?_
      rw [List.lookup_cons]
      simp
    · split
      · exact takenFrom_has e
      · exact takenFrom_has e

def cxCompF (X : Cx) (N : List Str) (sc : Scope) (s₀ : Shared) (H₀ : Hp) (C : Addr) (ex : List Addr) : Cx where
  prog := X.prog
  w := X.w
  K := X.K
  mg := X.mg
  base := X.base
  A := X.A
  N := N
  s₀ := s₀
  H₀ := H₀
  env := compEnvC sc (takenFrom X.env sc.names []) C X.env
  outer := X.stack
  stack := X.stack
  ex := ex
  fn := fun _ => false
  calm := X.calm
  pn := []
  xe := fun _ _ => False

/-- the scope of a comprehension: own names, then names of the block around it (slots js there) -/
structure CompScopeF (X : Cx) (own cap : List Str) (js : List Nat) (sc : Scope) : Prop where
  kind : sc.kind = .function
  nocell : ∀ y ∈ sc.names, y.2 ≠ .cell
  names : ∀ y ∈ sc.names, y.2 = .local → sc.names.lookup y.1 = some .local
  nd : (own ++ cap).Nodup
  frees : ∀ y ∈ sc.names, y.2 = .free → y.1 ∈ cap
  slots : js.map (fun j => X.N[j]?) = cap.map some
  outer' : cap.map X.env.kindOf = cap.map fun _ => some NameKind.cell
  capk' : cap.map (fun x => (relabel sc X.env).names.lookup x) = cap.map fun _ => some NameKind.cell
theorem map_all {α β : Type} {f : α → β} {c : β} : ∀ {l : List α}, l.map f = l.map (fun _ => c) → ∀ x ∈ l, f x = c
  | [], _, _, h => nomatch h
  | y :: l, e, x, h => by
    rw [List.map_cons, List.map_cons] at e
    injection e with e1 e2
    rcases List.mem_cons.mp h with q | q
    · rw [q]; exact e1
    · exact map_all e2 x q
theorem CompScopeF.outer {X : Cx} {own cap : List Str} {js : List Nat} {sc : Scope} (S : CompScopeF X own cap js sc) : ∀ x ∈ cap, X.env.kindOf x = some .cell := map_all S.outer'
theorem CompScopeF.capk {X : Cx} {own cap : List Str} {js : List Nat} {sc : Scope} (S : CompScopeF X own cap js sc) : ∀ x ∈ cap, (relabel sc X.env).names.lookup x ≠ some .local := fun x hx h => by
  rw [map_all S.capk' x hx] at h; cases h

/-- its names' values at the start -/
def compStart (n : Nat) (js : List Nat) (σ : St) : St := List.replicate n none ++ js.map fun j => (σ[j]?).join
def tCompF (wi : TI) (n : Nat) (js : List Nat) (g : TG) (tt : TT) (te : TE) : TE := fun σ H Q => wi σ H fun J H1 => ∀ D, H1 D = none →
  ∃ W : Nat → Nat → St → Hp → Prop, (∃ m, W 0 m (compStart n js σ) (upd H1 D (.lst []))) ∧ CompAsk J g tt te D (fun H' => Q (.ref D) H') W

section
variable {X : Cx} {pins : List (Addr × Obj)} {σ : St} {H3 : Hp} {s3 : Shared}
theorem kind_relabel {sc : Scope} {env : Env} {x : Str} {k : NameKind} (h : (relabel sc env).names.lookup x = some k) : k = .local ∨ k = .globalImplicit ∨ (x, k) ∈ sc.names ∨ (x, NameKind.free) ∈ sc.names := by
  have hm := PySem.mem_of_lookup h
  unfold relabel at hm
  obtain ⟨⟨n, k'⟩, hn, e⟩ := List.mem_map.mp hm
  dsimp only at e
  split at e
  · rename_i c
    cases e
    simp only [Bool.and_eq_true, beq_iff_eq] at c
    obtain ⟨⟨c, _⟩, _⟩ := c
    subst c
    exact .inr (.inr (.inr hn))
  · cases e
    exact .inr (.inr (.inl hn))
theorem comp_coreF {elt tg iter : Expr} {ifs : List Expr} {sc : Scope} {pos : Pos} {own cap : List Str} {js : List Nat} {g : TG} {tt : TT} {te : TE} {it C D : Addr} {fp : List Addr} {tn : Nat → Heap → Prop} {J : It} {h4 : Heap} {tk : Nat} {m : Str → Option Value}
    {W : Nat → Nat → St → Hp → Prop} {Qd : Hp → Prop} {m0 : Nat} (S : CompScopeF X own cap js sc) (hc : X.calm = true) (I3 : Inv X pins σ H3 s3) (T : Turn X.prog X.w X.K tg J fp it tn) (st3 : tn 0 s3.heap) (f3 : ∀ b ∈ fp, FpOk X pins H3 b)
    (eC : C = s3.heap.objs.size) (hns : h4.Ns C m) (hk : ∀ b o, s3.heap.get? b = some o → h4.get? b = some o)
    (hg : PG (cxCompF X (own ++ cap) sc s3 H3 C fp) tg g) (ht : PTs (cxCompF X (own ++ cap) sc s3 H3 C fp) ifs tt) (he : PE (cxCompF X (own ++ cap) sc s3 H3 C fp) elt te)
    (w0 : W 0 m0 (compStart own.length js σ) H3) (ask : CompAsk J g tt te D Qd W) :
    codeAny (model X.prog X.w) X.A (.compStart (.ListComp elt [⟨tg, iter, ifs, 0⟩] sc pos) 0 (.ref it) (.ref D) (compEnvC sc (takenFrom X.env sc.names []) C X.env))
      (fun r s' => r = .ok .next ∧ ∃ m' H', s'.heap.Ns C m' ∧ s'.os = s3.os ∧ AllBare s'.gens ∧ Un (frs X.stack) fp H3 H' s3.heap s'.heap ∧ HOk X.prog X.w H' s'.heap ∧ H' C = none ∧ Qd H') { s3 with heap := h4, toks := tk } := by
  have frs' : ∀ y ∈ sc.names, y.2 = .free → ∃ c, X.env.cells.lookup y.1 = some c := fun y hy e => I3.ok.has _ (.inl (S.outer _ (S.frees y hy e)))
  have toL : ∀ (x : Str) (c : Addr), (cxCompF X (own ++ cap) sc s3 H3 C fp).env.cells.lookup x = some c → X.env.cells.lookup x = some c := fun x c e =>
    takenFrom_some frs' (fun x c h => by cases (show ([] : List (Str × Addr)).lookup x = some c from h)) e
  have ltC : ∀ (x : Str) (c : Addr), X.env.cells.lookup x = some c → c < s3.heap.objs.size := fun x c e => by
    obtain ⟨v, q⟩ := I3.cell x c e
    exact q.lt
  have fpl : ∀ b ∈ fp, b < s3.heap.objs.size := fun b hb => by
    obtain ⟨o, e, _⟩ := T.obj 0 _ st3 b hb
    exact Heap.lt_size e
  have ok' : (cxCompF X (own ++ cap) sc s3 H3 C fp).Ok := by
    refine ⟨I3.ok.mod, S.kind, I3.ok.glob, I3.ok.blt, Nat.le_of_eq eC.symm, fun x y c e1 e2 => I3.ok.inj x y c (toL x c e1) (toL y c e2), fun x hx => ?_, (fun x c z _ => nomatch (show false = true from z)), I3.ok.hd, I3.ok.frames, .inl rfl, fun b hb => ?_,
      I3.bs, Nat.le_trans I3.ok.bsz I3.sz, fun b o e hb => ?_, fun b hb hs => ?_, I3.stack, I3.stkFree⟩
    · have hx' : (relabel sc X.env).names.lookup x = some .cell ∨ (relabel sc X.env).names.lookup x = some .free := hx
      have hm : (x, NameKind.free) ∈ sc.names := by
        rcases hx' with z | z
        · rcases kind_relabel z with q | q | q | q
          · cases q
          · cases q
          · exact absurd rfl (S.nocell _ q)
          · exact q
        · rcases kind_relabel z with q | q | q | q
          · cases q
          · cases q
          · exact q
          · exact q
      exact Option.isSome_iff_exists.mp (takenFrom_has hm)
    · refine ⟨?_, fun x c e => (f3 b hb).2.2.2.2.1 x c (toL x c e)⟩
      show b ≠ C
      rw [eC]
      exact Nat.ne_of_lt (fpl b hb)
    · rcases (f3 b hb).2.2.2.1 with z | z
      · exact I3.ok.noex b o e z
      · have h1 : b < X.base.objs.size := Heap.lt_size e
        exact absurd (Nat.lt_of_lt_of_le h1 (Nat.le_trans I3.ok.bsz z)) (Nat.lt_irrefl _)
    · obtain ⟨_, f1, f2, _⟩ := f3 b hb
      rcases List.mem_cons.mp (I3.stkSub b hs) with z | z
      · exact f1 z
      · exact f2 z
  have hCn : H3 C = none := by rw [eC]; exact I3.hok.fresh (Nat.le_refl _)
  have sl : js.length = cap.length := by have := congrArg List.length S.slots; simpa using this
  have I4 : Inv (cxCompF X (own ++ cap) sc s3 H3 C fp) [] (compStart own.length js σ) H3 { s3 with heap := h4, toks := tk } := by
    refine ⟨ok', rfl, I3.bare, Un.kept hk, ⟨m, hns, fun i x v e1 e2 hv => ?_⟩, fun x c e => ?_, hCn, fun x c e => I3.freeC x c (toL x c e), fun p hp => ?_, I3.hok.kept hk, ?_⟩
    · have e1 : (own ++ cap)[i]? = some x := e1
      unfold compStart at e2
      by_cases hi : i < own.length
      · rw [List.getElem?_append_left (by simpa using hi), List.getElem?_replicate, if_pos hi] at e2
        cases e2
      · rw [List.getElem?_append_right (by omega)] at e1
        rw [List.getElem?_append_right (by simpa using hi), List.length_replicate, List.getElem?_map] at e2
        obtain ⟨j, hj⟩ : ∃ j, js[i - own.length]? = some j := by
          cases q : js[i - own.length]? with
          | none => rw [q] at e2; cases e2
          | some j => exact ⟨j, rfl⟩
        rw [hj] at e2
        have e2 : (σ[j]?).join = some v := Option.some.inj e2
        have e3 : σ[j]? = some (some v) := by
          cases q : σ[j]? with
          | none => rw [q] at e2; cases e2
          | some z => rw [q] at e2; rw [show z = some v from e2]
        have hs := congrArg (fun l => l[i - own.length]?) S.slots
        simp only [List.getElem?_map, hj, e1, Option.map_some] at hs
        have hN : X.N[j]? = some x := Option.some.inj hs
        have hx : x ∈ cap := List.mem_of_getElem? e1
        obtain ⟨m2, hn2, hl2⟩ := I3.loc
        obtain ⟨u, ru, lk⟩ := hl2 j x v hN e3 (.inr (.inl (S.outer x hx)))
        refine ⟨u, ru, ?_⟩
        rcases lk with ⟨k1, _⟩ | ⟨_, c, hc1, hc2⟩
        · rw [S.outer x hx] at k1; cases k1
        · have hv : Vis (relabel sc X.env) x := hv
          have kd : (cxCompF X (own ++ cap) sc s3 H3 C fp).env.kindOf x = some .cell ∨ (cxCompF X (own ++ cap) sc s3 H3 C fp).env.kindOf x = some .free ∨ (cxCompF X (own ++ cap) sc s3 H3 C fp).env.kindOf x = some .local := by
            rcases hv with z | z | z
            · exact .inr (.inr z)
            · exact .inl z
            · exact .inr (.inl z)
          rcases kd with kd | kd | kd
          · obtain ⟨c', hc'⟩ := ok'.has x (.inl kd)
            have := toL x c' hc'
            rw [hc1] at this
            cases this
            exact .inr ⟨.inl kd, c, hc', hc2.keeps hk⟩
          · obtain ⟨c', hc'⟩ := ok'.has x (.inr kd)
            have := toL x c' hc'
            rw [hc1] at this
            cases this
            exact .inr ⟨.inr kd, c, hc', hc2.keeps hk⟩
          · have kd : (relabel sc X.env).names.lookup x = some .local := kd
            exact absurd kd (S.capk x hx)
    · obtain ⟨v, q⟩ := I3.cell x c (toL x c e)
      exact ⟨v, q.keeps hk⟩
    · have hp' : p ∈ ([] : List (Addr × Obj)) := hp
      cases hp'
    · show (compStart own.length js σ).length = (own ++ cap).length
      unfold compStart
      rw [List.length_append, List.length_replicate, List.length_map, List.length_append, sl]
  have fpS : ∀ {H' : Hp}, (∀ b ∈ fp, H' b = none) → ∀ b ∈ fp, FpOk (cxCompF X (own ++ cap) sc s3 H3 C fp) [] H' b := fun {H'} hn b hb => by
    refine ⟨hn b hb, ?_, fun hs => ok'.exfs b hb hs, .inl hb, fun x c e => (f3 b hb).2.2.2.2.1 x c (toL x c e), fun p hp => ?_⟩
    · show b ≠ C
      rw [eC]
      exact Nat.ne_of_lt (fpl b hb)
    · have hp' : p ∈ ([] : List (Addr × Obj)) := hp
      cases hp'
  have st4 : tn 0 h4 := T.keep 0 _ _ st3 fun b _ o e => hk b o e
  have loop : codeAny (model X.prog X.w) X.A (.compLoop (.ListComp elt [⟨tg, iter, ifs, 0⟩] sc pos) 0 (.ref it) (.ref D) (compEnvC sc (takenFrom X.env sc.names []) C X.env))
      (fun r s' => r = .ok .next ∧ ∃ m' H', s'.heap.Ns C m' ∧ s'.os = s3.os ∧ AllBare s'.gens ∧ Un (frs X.stack) fp H3 H' s3.heap s'.heap ∧ HOk X.prog X.w H' s'.heap ∧ H' C = none ∧ Qd H') { s3 with heap := h4, toks := tk } := by
    refine comp_loop (fun n s' => ∃ i σ' H', Inv (cxCompF X (own ++ cap) sc s3 H3 C fp) [] σ' H' s' ∧ tn i s'.heap ∧ (∀ b ∈ fp, H' b = none) ∧ W i n σ' H') ?_ m0 ⟨0, _, H3, I4, st4, fun b hb => (f3 b hb).1, w0⟩
    rintro n s' ⟨i, σ', H', J', st', fr', w'⟩
    rcases ask i n σ' H' w' with ⟨stop, qd⟩ | ⟨go, step⟩
    · refine thn (T.done (cxCompF X (own ++ cap) sc s3 H3 C fp) rfl rfl rfl hc i [] s' σ' H' _ J' (fpS fr') st' stop) fun r s1 ⟨hr, J1⟩ => ?_
      subst hr
      obtain ⟨m1, hn1, _⟩ := J1.loc
      exact ⟨rfl, m1, H', hn1, J1.os, J1.bare, J1.base, J1.hok, J1.free, qd⟩
    · refine thn (T.item (cxCompF X (own ++ cap) sc s3 H3 C fp) rfl rfl rfl hc i [] s' σ' H' _ J' (fpS fr') st' go) fun r s1 ⟨u, hr, h1⟩ => ?_
      subst hr
      refine thn h1 fun _ s2 ⟨x, H5, J5, r5, y5, st5, fr5⟩ => ?_
      have J5' := J5.pinned (fpS fr5) (T.obj _ _ st5)
      refine wpAny_mono (hg _ s2 σ' H5 x u _ J5' r5 (step x H5 y5)) (fun _ s6 ⟨σ6, H6, J6, q6⟩ => ?_) (fun _ _ z => z.elim)
      refine wpAny_mono (ht _ s6 σ6 H6 _ J6 q6) (fun ok s7 ⟨H7, J7, q7⟩ => ?_) (fun _ _ z => z.elim)
      have again : ∀ {s9 : Shared} {H9 : Hp} {m' : Nat}, Inv (cxCompF X (own ++ cap) sc s3 H3 C fp) ([] ++ pinsAt fp s2.heap) σ6 H9 s9 → m' < n → W (i + 1) m' σ6 H9 →
          ∃ m, m < n ∧ ∃ i σ' H', Inv (cxCompF X (own ++ cap) sc s3 H3 C fp) [] σ' H' s9 ∧ tn i s9.heap ∧ (∀ b ∈ fp, H' b = none) ∧ W i m σ' H' := fun {s9 H9 m'} J9 hm w9 => by
        refine ⟨m', hm, i + 1, σ6, H9, J9.unpinned, T.keep _ _ _ st5 fun b hb o e => (J9.pin (b, o) (List.mem_append_right _ (List.mem_append_right _ (mem_pinsAt hb e)))).1, fun b hb => ?_, w9⟩
        obtain ⟨o, e, d⟩ := T.obj _ _ st5 b hb
        exact (J9.pin (b, o) (List.mem_append_right _ (List.mem_append_right _ (mem_pinsAt hb e)))).2.1
      cases ok with
      | false =>
        rw [if_neg Bool.false_ne_true] at q7 ⊢
        obtain ⟨m', hm, w7⟩ := q7
        exact again J7 hm w7
      | true =>
        rw [if_pos rfl] at q7 ⊢
        refine wpAny_mono (he _ s7 σ6 H7 _ J7 q7) (fun y s8 ⟨yv, H8, J8, r8, ys, hD8, hz, m', hm, w8⟩ => ?_) (fun _ _ z => z.elim)
        refine wpAny_mono (mt_append (X := cxCompF X (own ++ cap) sc s3 H3 C fp) _ s8 σ6 H8 (.ref D) [yv] (.ref D) [y] (fun v H9 => H9 = upd H8 D (.lst (ys ++ [yv]))) J8 rfl (.cons r8 .nil) ⟨D, ys, yv, rfl, rfl, hD8, hz, rfl⟩) (fun _ s9 ⟨_, H9, J9, _, eH⟩ => ?_) (fun _ _ z => z.elim)
        subst eH
        exact again J9 hm w8
  exact codeAny_compStart_list loop (T.self X.A 0 _ _ _ st4 loop)

/-- what stands behind the block, ahead of letting its names go -/
theorem comp_runF {elt tg iter : Expr} {ifs : List Expr} {sc : Scope} {pos : Pos} {own cap : List Str} {js : List Nat} {g : TG} {tt : TT} {te : TE} {it : Addr} {fp : List Addr} {tn : Nat → Heap → Prop} {J : It} {H2 : Hp} {s2 : Shared} {use : Option (Value → Sem Unit)} {Qr : Value → Shared → Prop} {Er : Value → Shared → Prop}
    {Q : V → Hp → Prop} (S : CompScopeF X own cap js sc) (hc : X.calm = true) (I2 : Inv X pins σ H2 s2) (T : Turn X.prog X.w X.K tg J fp it tn) (st2 : tn 0 s2.heap) (f2 : ∀ b ∈ fp, FpOk X pins H2 b)
    (hg : ∀ s₀ H₀ C ex, PG (cxCompF X (own ++ cap) sc s₀ H₀ C ex) tg g) (ht : ∀ s₀ H₀ C ex, PTs (cxCompF X (own ++ cap) sc s₀ H₀ C ex) ifs tt) (he : ∀ s₀ H₀ C ex, PE (cxCompF X (own ++ cap) sc s₀ H₀ C ex) elt te)
    (q2 : ∀ D, H2 D = none → ∃ W : Nat → Nat → St → Hp → Prop, (∃ m, W 0 m (compStart own.length js σ) (upd H2 D (.lst []))) ∧ CompAsk J g tt te D (fun H' => Q (.ref D) H') W)
    (fin : ∀ (D C : Addr) (H' : Hp) (s' : Shared) (m' : Str → Option Value), s2.heap.objs.size < C → s'.heap.Ns C m' → Inv X pins σ H' s' → H' C = none → Q (.ref D) H' → compPost (model X.prog X.w) X.A Er use Qr (.ref D) C (.ok .next) s') :
    wpAny (model X.prog X.w) X.A (newList []) (fun acc s₃ => wpAny (model X.prog X.w) X.A (newFunctionEnv sc X.env.globals (takenFrom X.env sc.names []) [] X.env.qual none .none (some X.env)) (fun cenv s₄ =>
      codeAny (model X.prog X.w) X.A (.compStart (.ListComp elt [⟨tg, iter, ifs, 0⟩] sc pos) 0 (.ref it) acc { cenv with scope := relabel sc X.env }) (compPost (model X.prog X.w) X.A Er use Qr acc cenv.locals) s₄) Er s₃) Er s2 := by
  have hDn : H2 s2.heap.objs.size = none := I2.fresh
  obtain ⟨W, ⟨m0, w0⟩, ask⟩ := q2 _ hDn
  have I3 := I2.lnew (ys := []) (its := []) (t' := s2.toks) .nil (Nat.zero_le _)
  have fpl : ∀ b ∈ fp, b < s2.heap.objs.size := fun b hb => by
    obtain ⟨o, e, _⟩ := T.obj 0 _ st2 b hb
    exact Heap.lt_size e
  have f3 : ∀ b ∈ fp, FpOk X pins (upd H2 s2.heap.objs.size (.lst [])) b := fun b hb => by
    refine ⟨?_, (f2 b hb).2⟩
    rw [upd_ne (Nat.ne_of_lt (fpl b hb))]
    exact (f2 b hb).1
  refine wpAny_newObj_type (hd := by size_fits) (wpAny_newFunctionEnv S.nocell (by intro y hy; simp at hy) (fun h4 hns hsb => ?_) S.kind)
  dsimp only at hns hsb ⊢
  have hkp : ∀ b o, (s2.heap.push { cls := .type "list", dict := none, data := .seq ([] : List Value).toArray }).get? b = some o → h4.get? b = some o := fun b o e =>
    hsb.extBut b o (Nat.ne_of_lt (Heap.lt_size e)) (Heap.get?_push_of_some _ e)
  have st3 : tn 0 (s2.heap.push { cls := .type "list", dict := none, data := .seq ([] : List Value).toArray }) := T.keep 0 _ _ st2 fun b _ o e => Heap.get?_push_of_some _ e
  refine codeAny_mono (comp_coreF (s3 := { s2 with heap := s2.heap.push { cls := .type "list", dict := none, data := .seq ([] : List Value).toArray } }) (tk := s2.toks + ([] : List (Str × Value)).length) S hc I3 T st3 f3 rfl hns hkp (hg _ _ _ _) (ht _ _ _ _) (he _ _ _ _) w0 ask) fun r s' hr => ?_
  obtain ⟨er, m', H', hn', os', bare', un', hok', free', qd⟩ := hr
  subst er
  have un1 : Un (frs X.stack) fp H2 (upd H2 s2.heap.objs.size (.lst [])) s2.heap (s2.heap.push { cls := .type "list", dict := none, data := .seq ([] : List Value).toArray }) := Un.laid (fun b o e => Heap.get?_push_of_some _ e) (Nat.le_refl _) hDn
  refine fin _ _ H' s' m' ?_ hn' (I2.call' (s' := s') (ch := fp) os' (un1.trans un') hok' bare' (fun b hb => ⟨(f2 b hb).2.2.2.1, (f2 b hb).2.1, (f2 b hb).2.2.2.2.1, (f2 b hb).2.2.2.2.2⟩)) free' qd
  show s2.heap.objs.size < (s2.heap.push { cls := .type "list", dict := none, data := .seq ([] : List Value).toArray }).objs.size
  rw [Heap.size_push]
  exact Nat.lt_succ_self _

/-- a block's frame is let go: the state around is as it was -/
theorem Inv.letGo {H : Hp} {s : Shared} {C : Addr} {h' : Heap} (I : Inv X pins σ H s) (sb : Heap.SameBut C s.heap h') (hn : H C = none) (h0 : X.s₀.heap.objs.size ≤ C) (h1 : C ≠ X.env.locals) (h2 : ∀ x c, X.env.cells.lookup x = some c → c ≠ C) (h3 : ∀ p ∈ X.pn ++ pins, p.1 ≠ C) :
    Inv X pins σ H { s with heap := h' } := by
  refine I.call' (s' := { s with heap := h' }) (ch := [C]) rfl ⟨fun b o e _ _ hb => ?_, fun b o e _ _ hb => ⟨o.slots, ?_⟩, fun _ _ _ n _ => n, fun b o e hb => ⟨o, ?_⟩, fun _ _ q => q, fun _ _ _ q => q, fun _ ps q => ⟨#[], by rw [q]; simp⟩⟩ (hok_but I.hok sb hn) I.bare (fun b hb => ?_)
  · exact (sb.2 b (by simpa using hb)).trans e
  · exact (sb.2 b (by simpa using hb)).trans e
  · exact (sb.2 b (by simpa using hb)).trans e
  · have : b = C := by simpa using hb
    subst this
    exact ⟨.inr h0, h1, h2, h3⟩
theorem Inv.goes {H2 H : Hp} {s2 s : Shared} {σ' : St} {C : Addr} {h' : Heap} (I2 : Inv X pins σ' H2 s2) (hC : s2.heap.objs.size < C) (I : Inv X pins σ H s) (sb : Heap.SameBut C s.heap h') (hn : H C = none) : Inv X pins σ H { s with heap := h' } := by
  refine I.letGo sb hn (Nat.le_of_lt (Nat.lt_of_le_of_lt I2.sz hC)) (Nat.ne_of_gt (Nat.lt_trans I2.lt hC)) (fun x c e z => ?_) (fun p hp z => ?_)
  · obtain ⟨v, q⟩ := I2.cell x c e
    exact absurd (Nat.lt_trans q.lt hC) (by rw [z]; exact Nat.lt_irrefl _)
  · exact absurd (Nat.lt_trans (Heap.lt_size (I2.pin p hp).1) hC) (by rw [z]; exact Nat.lt_irrefl _)

theorem CompScopeF.clos {own cap : List Str} {js : List Nat} {sc : Scope} (S : CompScopeF X own cap js sc) (ok : X.Ok) : closureFor sc X.env = pure (takenFrom X.env sc.names []) :=
  closureFor_taken fun y hy e => ok.has _ (.inl (S.outer _ (S.frees y hy e)))

theorem pe_compF {elt tg iter : Expr} {ifs : List Expr} {sc : Scope} {pos : Pos} (own cap : List Str) (js : List Nat) {wi : TI} {g : TG} {tt : TT} {te : TE} (S : CompScopeF X own cap js sc) (hc : X.calm = true) (hi : PI X tg iter wi)
    (hg : ∀ s₀ H₀ C ex, PG (cxCompF X (own ++ cap) sc s₀ H₀ C ex) tg g) (ht : ∀ s₀ H₀ C ex, PTs (cxCompF X (own ++ cap) sc s₀ H₀ C ex) ifs tt) (he : ∀ s₀ H₀ C ex, PE (cxCompF X (own ++ cap) sc s₀ H₀ C ex) elt te)
    (hs : ∀ x, foldedSetIterable iter X.env x = pure x := by intro _; rfl) : PE X (.ListComp elt [⟨tg, iter, ifs, 0⟩] sc pos) (tCompF wi own.length js g tt te) := by
  intro pins s σ H Q I h
  rw [eval_ListComp]
  refine wpAny_comprehension_free (use := none) rfl hs (S.clos I.ok) S.kind S.names (thn (hi pins s σ H _ I h) fun v s1 h1 => thn h1 fun itv s2 h2 => ?_)
  obtain ⟨it, fp, tn, J, H2, e, I2, T, st2, f2, q2⟩ := h2
  subst e
  refine comp_runF (Q := Q) S hc I2 T st2 f2 hg ht he q2 fun D C H' s' m' hC hn' I' free' qd => ?_
  exact ⟨m', hn', fun h' sb => ⟨.ref D, H', I2.goes hC I' sb free', rfl, qd⟩⟩

end
end L2

set_option Elab.async false
set_option linter.all false
set_option maxRecDepth 100000
set_option maxHeartbeats 4000000

namespace L2
open PySem PySem.Spec PyProof.Rows
section
variable {X : Cx} {e k : Expr} {te tk : TE} {pos p2 : Pos}
/-- xs[::-1] of a list: a new list -/
def tRevL (K : PySem.W.Frag) (te tk : TE) : TE := fun σ H Q => te σ H fun x H1 => tk σ H1 fun z H2 => z = .int (-1) ∧ ∃ a xs, x = .ref a ∧ SqL K H2 a xs ∧ ∀ p, H2 p = none → Q (.ref p) (upd H2 p (.lst xs.reverse))
theorem Paired.rev {α β : Type} {R : α → β → Prop} : ∀ {xs : List α} {ys : List β}, Paired R xs ys → ∀ {xs' : List α} {ys' : List β}, Paired R xs' ys' → Paired R (xs.reverseAux xs') (ys.reverseAux ys')
  | _, _, .nil, _, _, h => h
  | _, _, .cons r rs, _, _, h => Paired.rev rs (.cons r h)
theorem pe_rev (he : PE X e te) (hk : PE X k tk) : PE X (.Subscript e (.Slice none none (some k) p2) pos) (tRevL X.K te tk) := by
  intro pins s σ H Q I h
  refine Subscript_ (thn (he pins s σ H _ I h) fun v s1 ⟨x, H1, I1, r1, q1⟩ => ?_)
  refine wpAny_Slice ?_
  rw [evalPart_none]
  refine wpAny_pure (wpAny_pure ?_)
  rw [evalPart_some]
  refine thn (hk pins s1 σ H1 _ I1 q1) fun u s3 ⟨z, H3, I3, r3, q3⟩ => ?_
  obtain ⟨ez, a, xs, ex, hx, q⟩ := q3
  subst ez ex
  obtain ⟨t, rfl⟩ := r3
  cases r1
  have I4 : Inv X pins σ H3 { s3 with heap := s3.heap.push { cls := .type "slice", data := .fields #[.none, .none, .int (-1) t] } } := I3.kept (t' := s3.toks) fun b ob q => Heap.get?_push_of_some _ q
  obtain ⟨its, r, ht, hz⟩ := I4.list hx
  have hlen := r.length
  show wpAny (model X.prog X.w) X.A (subscriptTail e (.Slice none none (some k) p2) (.ref a) (.ref s3.heap.objs.size)) (EP X pins σ Q) X.xe { s3 with heap := s3.heap.push { cls := .type "slice", data := .fields #[.none, .none, .int (-1) t] } }
  refine tail_any (ops := [.ref a, .ref s3.heap.objs.size]) (T := "list") ht.isList.typeIs slot_list_getitem.lookup ?_ (by with_unfolding_all rfl)
  refine wpAny_getItem_list_slice ht.isList (Heap.IsSliceOf.new ..) .none .none (.int (-1) t) (by decide) ?_ (by rw [List.size_toArray]; omega)
  rw [PySem.W.krv_pick]
  refine ⟨.ref _, _, I4.laid (t' := s3.toks) (o := .lst xs.reverse) (fun b ob q => Heap.get?_push_of_some _ q) (Nat.le_refl _) ?_, rfl, q _ (I4.hok.fresh (Nat.le_refl _))⟩
  exact ⟨by rw [List.length_reverse]; exact hz, _, 0, Paired.rev r .nil, Heap.get?_push_size _ rfl⟩
end

section
variable {X : Cx} {a b c d : Expr} {ta tb tc td : TE} {pos : Pos}
end
end L2

set_option Elab.async false
set_option linter.all false
set_option maxRecDepth 100000
set_option maxHeartbeats 4000000

namespace L2
open PySem PySem.Spec PyProof.Rows
/-! ### what is new stands in some heap over the one ahead -/
abbrev New (H : Hp) (o : HO) (Q : V → Hp → Prop) : Prop := ∀ p H', H p = none → Same H H' → H' p = some o → Q (.ref p) H'
theorem New.at {H : Hp} {o : HO} {Q : V → Hp → Prop} (h : New H o Q) : ∀ p, H p = none → Q (.ref p) (upd H p o) := fun p hp => h p _ hp (same_upd hp) upd_same
theorem OpR.weak {X : Cx} {f : Value → Value → Sem Value} {r r' : R2} (h : OpR X f r) (w : ∀ x y H Q, r' x y H Q → r x y H Q) : OpR X f r' := fun pins s σ H x y v u Q I rx ry q => h pins s σ H x y v u Q I rx ry (w _ _ _ _ q)
theorem CallR.weak {X : Cx} {f : Value} {r r' : List V → Hp → VK → Prop} (h : CallR X f r) (w : ∀ xs H Q, r' xs H Q → r xs H Q) : CallR X f r' := fun pins s σ H xs us Q I rx q => h pins s σ H xs us Q I rx (w _ _ _ q)
theorem SlR.weak {X : Cx} {r r' : V → Option Int → Option Int → Hp → VK → Prop} (h : SlR X r) (w : ∀ x l u H Q, r' x l u H Q → r x l u H Q) : SlR X r' := fun pins s σ H x v vl vu lo hi sl Q I rx hs pl pu q => h pins s σ H x v vl vu lo hi sl Q I rx hs pl pu (w _ _ _ _ _ q)
section
variable {X : Cx} {e k : Expr} {es : List Expr} {te tk : TE} {t : TA} {pos p2 : Pos}
theorem call_listN : CallR X (.type "list") (fun xs H Q => ∃ p ys, xs = [.ref p] ∧ (SqL X.K H p ys ∨ SqT X.K H p ys) ∧ New H (.lst ys) Q) := call_list_of.weak fun xs H Q ⟨p, ys, a1, a2, a3⟩ => ⟨p, ys, a1, a2, a3.at⟩
def tTupN (t : TA) : TE := fun σ H Q => t σ H fun xs H1 => xs.length ≤ sizeLine ∧ New H1 (.tup xs) Q
def tLstN (t : TA) : TE := fun σ H Q => t σ H fun xs H1 => xs.length ≤ sizeLine ∧ New H1 (.lst xs) Q
theorem PA.thn {t : TA} (h : PA X es t) {A : Hp → Prop} {F : VK → List V → Hp → Prop} {G : VK → List V → Hp → Prop} (w : ∀ Q xs H, F Q xs H → G Q xs H) : PA X es (fun σ H R => ∃ Q : VK, t σ H (F Q) ∧ R = G Q) := by
  intro pos pins s σ H R I ⟨Q, q, e⟩
  subst e
  exact L2.thn (h pos pins s σ H _ I q) fun us s1 ⟨vs, H1, I1, r1, q1⟩ => ⟨vs, H1, I1, r1, w _ _ _ q1⟩
theorem pe_tupN {x1} (h : PA X es t) : PE X (.Tuple es x1 pos) (tTupN t) := by
  intro pins s σ H Q I q
  exact pe_tup (PA.thn (A := fun _ => True) (F := fun Q xs H1 => xs.length ≤ sizeLine ∧ New H1 (.tup xs) Q) (G := fun Q xs H1 => xs.length ≤ sizeLine ∧ ∀ p, H1 p = none → Q (.ref p) (upd H1 p (.tup xs))) h (fun Q xs H ⟨a, b⟩ => ⟨a, b.at⟩)) pins s σ H Q I ⟨Q, q, rfl⟩
theorem pe_lstN (h : PA X es t) : PE X (.List es pos) (tLstN t) := by
  intro pins s σ H Q I q
  exact pe_lst (PA.thn (A := fun _ => True) (F := fun Q xs H1 => xs.length ≤ sizeLine ∧ New H1 (.lst xs) Q) (G := fun Q xs H1 => xs.length ≤ sizeLine ∧ ∀ p, H1 p = none → Q (.ref p) (upd H1 p (.lst xs))) h (fun Q xs H ⟨a, b⟩ => ⟨a, b.at⟩)) pins s σ H Q I ⟨Q, q, rfl⟩
def tRevN (K : PySem.W.Frag) (te : TE) : TE := fun σ H Q => te σ H fun x H2 => ∃ a xs, x = .ref a ∧ SqL K H2 a xs ∧ New H2 (.lst xs.reverse) Q
theorem PE.thn {t : TE} {F G : VK → VK} (h : PE X e t) (w : ∀ Q v H, F Q v H → G Q v H) : PE X e (fun σ H R => ∃ Q : VK, t σ H (F Q) ∧ R = G Q) := by
  intro pins s σ H R I ⟨Q, q, e⟩
  subst e
  exact L2.thn (h pins s σ H _ I q) fun u s1 ⟨v, H1, I1, r1, q1⟩ => ⟨v, H1, I1, r1, w _ _ _ q1⟩
/-- xs[::-1] -/
theorem pe_revN {j p3 p4} (he : PE X e te) : PE X (.Subscript e (.Slice none none (some (.UnaryOp .USub (.Constant (.int 1) j p3) p4)) p2) pos) (tRevN X.K te) := by
  intro pins s σ H Q I q
  refine pe_rev (k := .UnaryOp .USub (.Constant (.int 1) j p3) p4) (PE.thn (F := fun Q x H2 => ∃ a xs, x = .ref a ∧ SqL X.K H2 a xs ∧ New H2 (.lst xs.reverse) Q)
    (G := fun Q x H1 => ∃ i, V.int 1 = .int i ∧ (V.int (-i) = .int (-1) ∧ ∃ a xs, x = .ref a ∧ SqL X.K H1 a xs ∧ ∀ p, H1 p = none → Q (.ref p) (upd H1 p (.lst xs.reverse)))) he
    fun Q v H ⟨a, xs, a1, a2, a3⟩ => ⟨1, rfl, rfl, a, xs, a1, a2, a3.at⟩) (pe_un un_neg pe_int) pins s σ H Q I ⟨Q, q, rfl⟩
end

/-! ### comprehensions: the shapes one uses -/
section
variable {g : TG} {tt : TT} {te : TE} {H1 : Hp} {Q : Addr → Hp → Prop}
end
end L2

set_option Elab.async false
set_option linter.all false
set_option maxRecDepth 100000
set_option maxHeartbeats 4000000
namespace Lcp
open PySem
/-- how many lines at the begin of both are alike -/
def lcp : List Str → List Str → Nat
  | x :: xs, y :: ys => if x = y then lcp xs ys + 1 else 0
  | _, _ => 0
theorem lcp_le : ∀ (xs ys : List Str), lcp xs ys ≤ xs.length ∧ lcp xs ys ≤ ys.length
  | [], _ => by simp [lcp]
  | _ :: _, [] => by simp [lcp]
  | x :: xs, y :: ys => by
    unfold lcp
    have := lcp_le xs ys
    split <;> simp only [List.length_cons] <;> omega
theorem lcp_take : ∀ (xs ys : List Str), xs.take (lcp xs ys) = ys.take (lcp xs ys)
  | [], _ => by simp [lcp]
  | _ :: _, [] => by simp [lcp]
  | x :: xs, y :: ys => by
    unfold lcp
    split
    · rename_i h
      rw [List.take_succ_cons, List.take_succ_cons, h, lcp_take xs ys]
    · simp
/-- the block's start; how many are alike at the end of what is left -/
def fst (xs ys : List Str) : Nat := lcp xs ys
def bck (xs ys : List Str) : Nat := lcp (xs.drop (fst xs ys)).reverse (ys.drop (fst xs ys)).reverse
def stp (xs ys : List Str) : Nat := xs.length - bck xs ys
def mid (xs ys : List Str) : List Str := (ys.drop (fst xs ys)).take (ys.length - bck xs ys - fst xs ys)
theorem fb_le (xs ys : List Str) : fst xs ys + bck xs ys ≤ xs.length ∧ fst xs ys + bck xs ys ≤ ys.length := by
  have h1 := lcp_le xs ys
  have h2 := lcp_le (xs.drop (fst xs ys)).reverse (ys.drop (fst xs ys)).reverse
  rw [List.length_reverse, List.length_drop, List.length_reverse, List.length_drop] at h2
  unfold bck
  unfold fst at *
  omega
theorem fst_take (xs ys : List Str) : xs.take (fst xs ys) = ys.take (fst xs ys) := lcp_take xs ys
theorem bck_drop (xs ys : List Str) : xs.drop (stp xs ys) = ys.drop (ys.length - bck xs ys) := by
  have h := lcp_take (xs.drop (fst xs ys)).reverse (ys.drop (fst xs ys)).reverse
  obtain ⟨l1, l2⟩ := fb_le xs ys
  have h' : (xs.drop (fst xs ys)).reverse.take (bck xs ys) = (ys.drop (fst xs ys)).reverse.take (bck xs ys) := h
  rw [List.take_reverse, List.take_reverse] at h'
  have h2 := List.reverse_inj.mp h'
  rw [List.drop_drop, List.drop_drop, List.length_drop, List.length_drop] at h2
  unfold stp
  have e1 : fst xs ys + (xs.length - fst xs ys - bck xs ys) = xs.length - bck xs ys := by omega
  have e2 : fst xs ys + (ys.length - fst xs ys - bck xs ys) = ys.length - bck xs ys := by omega
  rw [e1, e2] at h2
  exact h2
theorem whole (xs ys : List Str) : xs.take (fst xs ys) ++ mid xs ys ++ xs.drop (stp xs ys) = ys := by
  obtain ⟨l1, l2⟩ := fb_le xs ys
  rw [fst_take, bck_drop]
  unfold mid
  have e : ys.drop (ys.length - bck xs ys) = (ys.drop (fst xs ys)).drop (ys.length - bck xs ys - fst xs ys) := by
    rw [List.drop_drop]
    congr 1
    omega
  rw [e, List.append_assoc, List.take_append_drop, List.take_append_drop]
end Lcp

set_option Elab.async false
set_option linter.all false
set_option maxRecDepth 100000
set_option maxHeartbeats 4000000
namespace L2
open PySem PySem.Spec PyProof.Rows
/-! ### lines: texts that are short enough and good; lists of them -/
structure Ln (x : Str) : Prop where
  ok : TxtOk x
  len : x.length ≤ 60
structure Lns (xs : List Str) : Prop where
  len : xs.length ≤ 20
  all : ∀ x ∈ xs, Ln x
theorem strs_rev (xs : List Str) : (xs.map V.str).reverse = xs.reverse.map V.str := List.map_reverse.symm
theorem smallL {n : Nat} (h : n ≤ 1000) : n ≤ sizeLine := Nat.le_of_lt (small1000 h)
/-- deep data of a list of texts -/
abbrev dS (xs : List Str) : PySem.W.Dat := .list (xs.map PySem.W.Dat.str)
theorem dS_dv {K : PySem.W.Frag} {H : Hp} {a : Addr} {xs : List Str} (h : SqL K H a (xs.map V.str)) : DV K H (.ref a) (dS xs) := .lst h (dvs_strs xs)
theorem small_log {i : Int} (h0 : 0 ≤ i) (h1 : i < 4294967296) : i.natAbs.log2 < 1920 := by
  have : i.natAbs.log2 < 32 := by
    by_cases q : i.natAbs = 0
    · rw [q]; decide
    · exact (Nat.log2_lt q).mpr (by omega)
  omega
end L2
namespace L2
open PySem PySem.Spec PyProof.Rows
end L2

set_option Elab.async false
set_option linter.all false
set_option maxRecDepth 100000
set_option maxHeartbeats 4000000
namespace Lcp
open PySem L2
/-- two changes in their places, x's ahead -/
def both (b x y : List Str) : List Str := (((b.take (fst b x) ++ mid b x) ++ (b.drop (stp b x)).take (fst b y - stp b x)) ++ mid b y) ++ b.drop (stp b y)
def apI (a1 b1 a2 b2 : Int) : Bool := if (a1 = b1 ∧ a2 = b2) ∧ a1 = a2 then false else (decide (b1 ≤ a2) || decide (b2 ≤ a1))
def apart (b o n : List Str) : Bool := apI (fst b o) (stp b o) (fst b n) (stp b n)
end Lcp
namespace L2
open PySem PySem.Spec PyProof.Rows Lcp
/-- what lies beside -/
def BesAt (H : Hp) (r : V) : Option (List Str) → Prop
  | none => r = .non
  | some z => ∃ l2, r = .ref l2 ∧ H l2 = some (.lst (z.map V.str))
structure PutAt (H : Hp) (t l : Addr) (r : V) (m : List Str × Option (List Str)) : Prop where
  tup : H t = some (.tup [.ref l, r])
  lst : H l = some (.lst (m.1.map V.str))
  bes : BesAt H r m.2
theorem besAt_same {H H' : Hp} {r : V} {o : Option (List Str)} (s : Same H H') (h : BesAt H r o) : BesAt H' r o := by
  cases o with
  | none => exact h
  | some z => obtain ⟨l2, e, h⟩ := h; exact ⟨l2, e, s _ _ h⟩
theorem PutAt.same {H H' : Hp} {t l : Addr} {r : V} {m : List Str × Option (List Str)} (s : Same H H') (h : PutAt H t l r m) : PutAt H' t l r m := ⟨s _ _ h.tup, s _ _ h.lst, besAt_same s h.bes⟩
theorem keep_upd {H : Hp} {p b : Addr} {o ob : HO} (h : H b = some ob) (ne : b ≠ p) : upd H p o b = some ob := by rw [upd_ne ne]; exact h
end L2

set_option Elab.async false
set_option linter.all false
set_option maxRecDepth 100000
set_option maxHeartbeats 4000000
namespace L2
open PySem PySem.Spec PyProof.Rows
/-! ### str.join -/
section
variable {X : Cx}
end
/-! ### the same rules with the fragment named: for what stands within a comprehension -/
section
variable {X : Cx} {K : PySem.W.Frag}
theorem ix_tupK (K : PySem.W.Frag) (h : X.K = K := by rfl) : IxR X (rIxT K) := h ▸ ix_tup
end
end L2
namespace Lcp
open PySem L2
/-- it stands there, one behind the other -/
def In (s l : List Str) : Prop := ∃ p q, l = p ++ s ++ q
end Lcp

set_option Elab.async false
set_option linter.all false
set_option maxRecDepth 100000
set_option maxHeartbeats 4000000

namespace L2
open PySem PySem.Spec PyProof.Rows
section
variable {X : Cx} {pins : List (Addr × Obj)} {σ : St} {H : Hp} {s : Shared}

/-! ### a tracked dict, kept as it is for a while: frozen, and let go -/
theorem Inv.rehp {H' : Hp} (I : Inv X pins σ H s) (h0 : ∀ b, H b = none → H' b = none) (ht : ∀ b xs, H b = some (.tup xs) → H' b = some (.tup xs)) (hf : ∀ b o u, X.H₀ b = some (.frz o u) → H' b = some (.frz o u))
    (hb : ∀ b ps, H b = some (.tbl ps) → H' b = some (.tbl ps)) (hok : HOk X.prog X.w H' s.heap) : Inv X pins σ H' s :=
  ⟨I.ok, I.os, I.bare, ⟨I.base.keep, I.base.slot, fun b o e n hx => h0 b (I.base.free b o e n hx), I.base.there, fun b xs e => ht b xs (I.base.tups b xs e), hf, fun b ps e => let ⟨m, q⟩ := I.base.tbls b ps e; ⟨m, hb _ _ q⟩⟩, I.loc, I.cell, h0 _ I.free,
    fun x c e => h0 _ (I.freeC x c e), fun p hp => ⟨(I.pin p hp).1, h0 _ (I.pin p hp).2.1, (I.pin p hp).2.2⟩, hok, I.len⟩
end

/-! ### dict(d), d.clear(), d.setdefault(k, v) -/
section
variable {X : Cx}
theorem wpAny_dictSetDefault_pairs {prog : Program} {w : World} {K : Type} [DecidableEq K] {knd : KeyKind prog w K} {A : Around} {E : Value → Shared → Prop} {s : Shared} {d : Addr} {kvs : List (K × Value)} {k : K} {key dflt : Value} {Q : Value → Shared → Prop} (hkey : knd.is k key = true) (hm : s.heap.DictOf knd d kvs)
    (hthere : ∀ v, valueAt kvs k = some v → Q v { s with toks := s.toks + 1 })
    (hnew : valueAt kvs k = none → ∀ h', h'.DictOf knd d (kvs ++ [(k, dflt)]) → Heap.SameBut d s.heap h' → Q dflt { s with heap := h', toks := s.toks + 1 }) (hsz : kvs.length ≤ sizeLine) :
    wpAny (model prog w) A (dictSetDefault d key dflt) Q E s := by
  have hmap := hm.mapOf
  obtain ⟨o, es, ep, ho, hc, hd, hk, hp, hn⟩ := hm
  obtain ⟨o', es', ep', ho', hc', hd', hk', hf⟩ := hmap
  rw [ho] at ho'; cases ho'
  rw [hd] at hd'; cases hd'
  have hes : es.size ≤ sizeLine := by
    have e1 := hp.length
    have e2 : es.toList.length = es.size := by simp
    omega
  unfold dictSetDefault
  try with_reducible refine wpAny_holding ?_
  refine wpAny_bind (knd.pyHash hkey ?_)
  refine wpAny_bind (wpAny_dictFind_of (s := { s with toks := s.toks + 1 }) hkey ho hd hk ?_)
  have hidx : (es.findIdx? fun e => knd.is k e.key) = kvs.findIdx? fun kv => decide (kv.1 = k) := by
    rw [← hp.findIdx k]; obtain ⟨l⟩ := es; simp
  cases hi : es.findIdx? fun e => knd.is k e.key with
  | some i =>
    have hfk : valueAt kvs k = (es[i]?).map (·.val) := by rw [← hf k, findBy_of_findIdx?, hi]
    refine wpAny_bind (wpAny_dictEntries (s := { s with toks := s.toks + 1 }) ho hd ?_)
    cases he : es[i]? with
    | none =>
      exfalso
      have := Array.findIdx?_eq_some_iff_findIdx_eq.mp hi
      have hlt : i < es.size := this.1
      rw [Array.getElem?_eq_getElem hlt] at he
      exact nomatch he
    | some e =>
      rw [he] at hfk
      exact wpAny_bind (wpAny_rule (wpAny_pure (hthere e.val hfk)))
  | none =>
    have hfk : valueAt kvs k = none := by rw [← hf k, findBy_of_findIdx?, hi]
    have hnot : k ∉ kvs.map (·.1) := not_mem_of_findIdx_none (hidx ▸ hi)
    refine wpAny_bind (wpAny_rule (wpAny_bind (wpAny_updateDictKeys (hz := hes) (s := { s with toks := s.toks + 1 }) ho hd (wpAny_pure (hnew hfk _ ⟨_, _, ep + 1, Heap.get?_update_self _ ho (Obj.isFreed_of_dict (Obj.data_mapDictKeys hd _)),
      hc.mapDictKeys _, Obj.data_mapDictKeys hd _, hk.push hkey _, ?_, ?_⟩ (Heap.SameBut.update ..))))))
    · have := hp.append hkey (knd.hash k) dflt
      obtain ⟨l⟩ := es
      simpa using this
    · rw [List.map_append, List.nodup_append]
      refine ⟨hn, by simp, ?_⟩
      intro a ha b hb
      simp only [List.map_cons, List.map_nil, List.mem_singleton] at hb
      subst hb
      exact fun e => hnot (e ▸ ha)
theorem meets_setdefault {prog : Program} {w : World} {K : Type} [DecidableEq K] {knd : KeyKind prog w K} {d : Addr} {k : K} {key : Value} (hkey : knd.is k key = true) (hd : (d == sysModules) = false) (dflt : Value) :
    MeetsIn prog w (Builtin.«dict.setdefault» ⟨[.ref d, key, dflt], []⟩) (fun _ R s => ∃ kvs, s.heap.DictOf knd d kvs ∧ kvs.length ≤ sizeLine ∧
      (∀ v, valueAt kvs k = some v → R (.ok (.ret v)) { s with toks := s.toks + 1 }) ∧
      (valueAt kvs k = none → ∀ h', h'.DictOf knd d (kvs ++ [(k, dflt)]) → Heap.SameBut d s.heap h' → R (.ok (.ret dflt)) { s with heap := h', toks := s.toks + 1 })) :=
  .of_wp fun A R s ⟨kvs, hm, hz, h1, h2⟩ => by
    unfold Builtin.«dict.setdefault»
    refine wpAny_bind ?_
    unfold Builtin.Dict.keyAndDefault
    refine wpAny_bind (wpAny_notOrdered_dict hm.typeIs ?_)
    show wpAny _ _ (pure (d, key, some dflt)) _ _ s
    refine wpAny_pure ?_
    show wpAny _ _ (if (d == sysModules) = true then _ else (dictSetDefault d key dflt >>= _)) _ _ s
    rw [if_neg (by rw [hd]; exact Bool.false_ne_true)]
    exact wpAny_bind (wpAny_dictSetDefault_pairs hkey hm (fun v hv => wpAny_pure ⟨v, rfl, h1 v hv⟩) (fun hn h' hm' hs' => wpAny_pure ⟨dflt, rfl, h2 hn h' hm' hs'⟩) hz)
def rSetDef : V → List V → Hp → VK → Prop := fun x vs H Q => ∃ a kvs k y, x = .ref a ∧ vs = [kV k, y] ∧ H a = some (.dK kvs) ∧ kvs.length < sizeLine ∧ (∀ z, valV kvs k = some z → Q z H) ∧ (valV kvs k = none → Q y (upd H a (.dK (putK kvs k y))))
theorem mt_setdef : MtM X "dict.setdefault" rSetDef := by
  intro pins s σ H x xs v us Q I rx rs h
  obtain ⟨a, kvs, k, y, rfl, rfl, e, hl, q1, q2⟩ := h
  cases rx
  cases rs with
  | cons r1 r2 =>
    cases r2 with
    | cons r3 r4 =>
      cases r4
      obtain ⟨z, hd, vs, rel, dd⟩ := dk_of I.hok e
      refine call_meetsIn PySem.F.slot_dict_setdefault dd.typeIs PySem.F.entry_dict_setdefault (PySem.F.args_dict_setdefault_3 _ _ _) (meets_setdefault (knd := mixKind X.prog X.w) (kV_is r1) hd _) ⟨vs, dd, by rw [← rel.length]; exact z, fun u hu => ?_, fun hn h' dd' hs => ?_⟩
      · obtain ⟨z', hz', rz⟩ : ∃ z', valV kvs k = some z' ∧ RelV z' u := by
          have := rel.val k
          rw [hu] at this
          cases q : valV kvs k with
          | none => rw [q] at this; cases this
          | some z' => rw [q] at this; exact ⟨z', rfl, this⟩
        exact ⟨z', H, I.tok _, rz, q1 z' hz'⟩
      · have hnv : valV kvs k = none := by
          have := rel.val k
          rw [hn] at this
          cases q : valV kvs k with
          | none => rfl
          | some z' => rw [q] at this; cases this
        have he : ∃ q, h'.get? a = some q := let ⟨q, _, _, hq, _⟩ := dd'; ⟨q, hq⟩
        have hput := rel.put k r3
        rw [putK_new _ hnv] at hput
        refine ⟨y, _, d_write I (ob := .dK (putK kvs k y)) (by rw [e]; exact True.intro) hs he ?_, r3, q2 hnv⟩
        rw [putK_new _ hnv]
        refine dk_new (by rw [List.length_append]; simp; omega) hd ?_ dd'
        have e2 : ∀ b, stored vs k b = vs ++ [(k, b)] := by
          intro b
          unfold stored
          rw [if_neg]
          rw [List.any_eq_true]
          rintro ⟨kv, hkv, he⟩
          have : valueAt vs k ≠ none := by
            unfold valueAt
            rw [Ne, Option.map_eq_none_iff, List.find?_eq_none]
            exact fun z => z kv hkv he
          exact this hn
        rw [e2] at hput
        exact hput
end

/-! ### lists of texts, sorted; the keys of a dict, sorted or as they stand -/
theorem vals_strs : ∀ {us : List Value} {ys : List Str}, StrsAre us ys → Vals (ys.map V.str) us
  | _, _, .nil => .nil
  | _, _, .cons x t r => .cons ⟨t, rfl⟩ (vals_strs r)
section
variable {prog : Program} {w : World} {A : Around} {E : Value → Shared → Prop} {s : Shared}
/-- sorted of what collects to texts -/
theorem sorted_collects {r : Addr} {Q : Value → Shared → Prop} (hcol : wpAny (model prog w) A.in1 (collect (.ref r)) (fun us s' => ∃ (ys : List Str) (h' : Heap) (tk : Nat), s' = { s with heap := h', toks := tk } ∧ StrsAre us ys ∧ us.length < 64 ∧
      ∀ (h2 : Heap) (out : List Value) (ys' : List Str) (e : Nat), (∀ b o, h'.get? b = some o → h2.get? b = some o) → h2.get? h'.objs.size = some (seqObj "list" out.toArray e) → StrsAre out ys' → ys'.Perm ys → sortedS ys' = true → Q (.ref h'.objs.size) { s with heap := h2, toks := tk }) E s) :
    wpAny (model prog w) A (call (.builtin "sorted") [.ref r]) Q E s := by
  refine Calls.call_function_entry kind_sorted plain_sorted entry_sorted (args_sorted1 _) ?_
  unfold Builtin.«sorted»
  refine wpAny_bind (m := checkCount "sorted" 1 1 _) (wpAny_pure ?_)
  refine wpAny_bind (wpAny_mono hcol (fun us s' ⟨ys, h', tk, es, hS, h64, fin⟩ => ?_) fun _ _ e => e)
  subst es
  refine wpAny_bind (wpAny_newList ?_ (by rw [sizeLine_eq]; omega))
  have hoL : (h'.push (seqObj "list" us.toArray 0)).get? h'.objs.size = some (seqObj "list" us.toArray 0) := Heap.get?_push_size _ rfl
  show wpAny _ _ _ _ _ { s with heap := h'.push (seqObj "list" us.toArray 0), toks := tk }
  refine wpAny_bind (wpAny_holding (wpAny_call_entry slot_list_sort ⟨_, hoL, rfl⟩ entry_list_sort (list_sort_treeK strKind_oneLt hoL hS.keysOf (fun v₁ v₂ rest e => keyKind_strs (by rw [← e]; exact hS)) h64 fun st' a1 a2 => ⟨_, rfl, ?_⟩) (args_list_sort _)))
  obtain ⟨ys', h1, h2, h3⟩ := sorted_out_str hS a1 a2
  obtain ⟨e, he⟩ := sortedHeap_at (vs := us) (out := (arrOf st').map (·.2)) hoL
  refine wpAny_pure ⟨_, rfl, fin _ ((arrOf st').map (·.2)).toList ys' e (fun b o q => ?_) (by rw [Array.toArray_toList]; exact he) h1 h2 h3⟩
  have hb := Heap.lt_size q
  rw [sortedHeap_old (Nat.ne_of_lt hb) (by rw [Heap.size_push]; exact Nat.lt_succ_of_lt hb)]
  exact Heap.get?_push_of_some _ q
end
section
variable {X : Cx}
theorem inv_sorted {pins : List (Addr × Obj)} {σ : St} {H : Hp} {s : Shared} {h' h2 : Heap} {tk e : Nat} {out : List Value} {ys' : List Str} (I : Inv X pins σ H { s with heap := h', toks := tk }) (k : ∀ b o, h'.get? b = some o → h2.get? b = some o)
    (he : h2.get? h'.objs.size = some (seqObj "list" out.toArray e)) (hS : StrsAre out ys') (hl : ys'.length ≤ sizeLine) : Inv X pins σ (upd H h'.objs.size (.lst (ys'.map V.str))) { s with heap := h2, toks := tk } :=
  I.laid (s := { s with heap := h', toks := tk }) (t' := tk) k (Nat.le_refl _) ⟨by rw [List.length_map]; exact hl, out, e, vals_strs hS, he⟩
/-- keys that are texts -/
def KeysS (kvs : List (Key × V)) (ks : List Str) : Prop := kvs.map (·.1) = ks.map Sum.inr
theorem keysS_items {kvs : List (Key × V)} {ks : List Str} (h : KeysS kvs ks) {vs : List (Key × Value)} (rel : KV kvs vs) {us : List Value} (hl : us.length = vs.length) (hv : ∀ (j : Nat) (v : Value), us[j]? = some v → ∃ k x, vs[j]? = some (k, x) ∧ (mixKind X.prog X.w).is k v = true) : StrsAre us ks := by
  induction us generalizing kvs vs ks with
  | nil =>
    have : vs = [] := List.length_eq_zero_iff.mp hl.symm
    subst this
    cases rel
    unfold KeysS at h
    cases ks with
    | nil => exact .nil
    | cons a b => cases h
  | cons u us ih =>
    cases rel with
    | nil => cases hl
    | @cons p q ps qs r rr =>
      cases ks with
      | nil => cases h
      | cons a ks =>
        unfold KeysS at h
        rw [List.map_cons, List.map_cons] at h
        injection h with h1 h2
        obtain ⟨k, x, e, hk⟩ := hv 0 u rfl
        have e : q = (k, x) := Option.some.inj e
        have hp : p.1 = k := by rw [r.1, e]
        have hk : keyIs k u = true := hk
        rw [← hp, h1] at hk
        rcases keyIs_shape hk with ⟨i, t, e1, e2⟩ | ⟨x', t, e1, e2⟩
        · cases e1
        · cases e1
          subst e2
          exact .cons _ _ (ih h2 rr (by simpa using hl) fun j v hj => hv (j + 1) v (by simpa using hj))
/-- d.keys() -/
def rKeys : V → List V → Hp → VK → Prop := fun x vs H Q => ∃ d kvs, x = .ref d ∧ vs = [] ∧ H d = some (.dK kvs) ∧ ∀ p H', H p = none → Same H H' → H' p = some (.ext fun h => PySem.W.KdlKeysView h p d) → Q (.ref p) H'
theorem mt_keys : MtM X "dict.keys" rKeys := by
  intro pins s σ H x xs v us Q I rx rs h
  obtain ⟨d, kvs, rfl, rfl, e, q⟩ := h
  cases rx
  cases rs
  obtain ⟨z, hd, vs, rel, dd⟩ := dk_of I.hok e
  refine call_meetsIn PySem.F.slot_dict_keys dd.typeIs PySem.F.entry_dict_keys (PySem.F.args_dict_keys_1 _) (PySem.W.kdl_meets_keys (mixKind X.prog X.w) d hd) ⟨⟨vs, dd⟩, ?_⟩
  have hn := I.hok.fresh (Nat.le_refl s.heap.objs.size)
  have hg : (s.heap.push { cls := .type "dict_keys", data := .fields #[.ref d] }).get? s.heap.objs.size = some { cls := .type "dict_keys", data := .fields #[.ref d] } := Heap.get?_push_size _ rfl
  refine ⟨.ref s.heap.objs.size, _, I.laid (t' := s.toks) (a := s.heap.objs.size) (o := .ext fun h => PySem.W.KdlKeysView h s.heap.objs.size d) (fun b ob q => Heap.get?_push_of_some _ q) (Nat.le_refl _) ⟨⟨_, hg, rfl, rfl⟩, ⟨_, hg⟩, ?_⟩, rfl, q _ _ hn (same_upd hn) upd_same⟩
  rintro h1 h2 ⟨o, ho, c1, c2⟩ k
  exact ⟨o, k o ho, c1, c2⟩
/-- sorted(d.keys()) -/
theorem call_sortedK (hc : X.calm = true) : CallR X (.builtin "sorted") (fun xs H Q => ∃ p d kvs ks, xs = [.ref p] ∧ H p = some (.ext fun h => PySem.W.KdlKeysView h p d) ∧ H d = some (.dK kvs) ∧ KeysS kvs ks ∧ kvs.length < 64 ∧ ∀ ys', ys'.Perm ks → sortedS ys' = true → New H (.lst (ys'.map V.str)) Q) := by
  intro pins s σ H xs us Q I r h
  obtain ⟨p, d, kvs, ks, rfl, ep', e, hks, h64, q⟩ := h
  obtain ⟨u, rfl, ru⟩ := vals1 r
  cases ru
  obtain ⟨z, hd, vs, rel, dd⟩ := dk_of I.hok e
  obtain ⟨ep, hat⟩ := dd.dictAt
  have hv : PySem.W.KdlKeysView s.heap p d := (show ObjOk X.prog X.w H s.heap p (.ext fun h => PySem.W.KdlKeysView h p d) from I.hok p _ ep').1
  have hlen := rel.length
  refine sorted_collects (PySem.W.kdu_collect (PySem.W.kdl_keys (knd := mixKind X.prog X.w) (r := p) (d := d) (kvs := vs) (ep := ep)) (I.ok.hd hc) ⟨hv, hat⟩ (by omega) fun h' tk acc hk hacc => ?_)
  have hS : StrsAre acc.toList ks := keysS_items (X := X) hks rel (by rw [Array.length_toList]; exact hacc.1) fun j v hj => hacc.2 j v (by rw [← Array.getElem?_toList]; exact hj)
  have hl2 : acc.toList.length = vs.length := by rw [Array.length_toList]; exact hacc.1
  have I' : Inv X pins σ H { s with heap := h', toks := tk } := I.kept hk
  refine ⟨ks, h', tk, rfl, hS, by omega, fun h2 out ys' e' k2 he hS' hp' hs' => ?_⟩
  have hl := hp'.length_eq
  have hl3 := StrsAre.length hS
  exact ⟨.ref h'.objs.size, _, inv_sorted I' k2 he hS' (smallL (by omega)), rfl, (q ys' hp' hs').at _ (I'.hok.fresh (Nat.le_refl _))⟩
end
end L2

set_option Elab.async false
set_option linter.all false
set_option maxRecDepth 100000
set_option maxHeartbeats 4000000

namespace L2
open PySem PySem.Spec PyProof.Rows
section
variable {X : Cx}
/-! ### in, not in: items that are data -/
end

/-! ### for k, v in d.items() -/
def epOf (o : Obj) : Nat := match o.data with
  | .dict _ ep => ep
  | _ => 0
/-! ### the readings made monotone -/
section
variable {X : Cx}
theorem PE.weak {e : Expr} {t : TE} (h : PE X e t) : PE X e (fun σ H Q => ∃ Q' : VK, t σ H Q' ∧ ∀ v H, Q' v H → Q v H) := by
  intro pins s σ H Q I ⟨Q', q, w⟩
  exact L2.thn (h pins s σ H _ I q) fun u s1 ⟨v, H1, I1, r1, q1⟩ => ⟨v, H1, I1, r1, w _ _ q1⟩
theorem PG.weak {e : Expr} {g : TG} (h : PG X e g) : PG X e (fun x σ H Q => ∃ Q' : St → Hp → Prop, g x σ H Q' ∧ ∀ σ H, Q' σ H → Q σ H) := by
  intro pins s σ H v u Q I r ⟨Q', q, w⟩
  exact L2.thn (h pins s σ H v u _ I r q) fun _ s1 ⟨σ1, H1, I1, q1⟩ => ⟨σ1, H1, I1, w _ _ q1⟩
theorem PSs.weak {b : List Stmt} {t : TS} (h : PSs X b t) : PSs X b (fun D σ H => ∃ D' : Ends, t D' σ H ∧ (∀ σ H, D'.nx σ H → D.nx σ H) ∧ (∀ v H, D'.rt v H → D.rt v H) ∧ (∀ σ H, D'.bk σ H → D.bk σ H) ∧ ∀ σ H, D'.ct σ H → D.ct σ H) := by
  intro pins s σ H D I ⟨D', q, w1, w2, w3, w4⟩
  refine L2.thn (h pins s σ H D' I q) fun f s1 q1 => ?_
  cases f with
  | next => obtain ⟨σ1, H1, I1, q1⟩ := q1; exact ⟨σ1, H1, I1, w1 _ _ q1⟩
  | ret v => obtain ⟨x, σ1, H1, I1, r, q1⟩ := q1; exact ⟨x, σ1, H1, I1, r, w2 _ _ q1⟩
  | brk => obtain ⟨σ1, H1, I1, q1⟩ := q1; exact ⟨σ1, H1, I1, w3 _ _ q1⟩
  | cont => obtain ⟨σ1, H1, I1, q1⟩ := q1; exact ⟨σ1, H1, I1, w4 _ _ q1⟩
end
end L2

set_option Elab.async false
set_option linter.all false
set_option maxRecDepth 100000
set_option maxHeartbeats 4000000

namespace L2
open PySem PySem.Spec PyProof.Rows
/-! ### an empty set, walked -/
theorem slot_si_next : Slot "set_iterator" "__next__" "set_iterator.__next__" :=
  .of (owner := "set_iterator") (n := "__next__") (by rw [typeLookup_type, builtinLookup_eq_fast]; kernel_rfl) (by decide +kernel) (by decide +kernel) (by decide +kernel)
    (by first | exact .inl (by decide +kernel) | exact .inr (by decide +kernel)) (by rw [isSubtype_type]; kernel_rfl)
theorem slot_si_iter : Slot "set_iterator" "__iter__" "set_iterator.__iter__" :=
  .of (owner := "set_iterator") (n := "__iter__") (by rw [typeLookup_type, builtinLookup_eq_fast]; kernel_rfl) (by decide +kernel) (by decide +kernel) (by decide +kernel)
    (by first | exact .inl (by decide +kernel) | exact .inr (by decide +kernel)) (by rw [isSubtype_type]; kernel_rfl)
theorem entry_si_next : entryFor table "set_iterator.__next__" = some Builtin.«set_iterator.__next__» := entryFor_of_tree (by kernel_rfl)
theorem entry_si_iter : entryFor table "set_iterator.__iter__" = some Builtin.«dict_keyiterator.__iter__» := entryFor_alias (id' := "dict_keyiterator.__iter__") (by kernel_rfl) rfl (by decide +kernel) (by kernel_rfl)
theorem entry_set_iter' : entryFor table "set.__iter__" = some Builtin.«frozenset.__iter__» := entryFor_alias (id' := "frozenset.__iter__") (by kernel_rfl) rfl (by decide +kernel) (by kernel_rfl)
theorem owner_si : Manifest.owners.lookup (String.ofList ['r', 'o', 't', 'a', 'r', 'e', 't', 'i', '_', 't', 'e', 's'].reverse) = some Manifest.sig_set_iterator := by kernel_rfl
theorem args_si_next (a : Value) : argsOk "set_iterator.__next__" ⟨[a], []⟩ := by
  unfold argsOk; rw [signature?_of (id := "set_iterator.__next__") (n := ['_', '_', 't', 'x', 'e', 'n', '_', '_']) (o := ['r', 'o', 't', 'a', 'r', 'e', 't', 'i', '_', 't', 'e', 's']) (by kernel_rfl) owner_si]; kernel_rfl
theorem args_si_iter (a : Value) : argsOk "set_iterator.__iter__" ⟨[a], []⟩ := by
  unfold argsOk; rw [signature?_of (id := "set_iterator.__iter__") (n := ['_', '_', 'r', 'e', 't', 'i', '_', '_']) (o := ['r', 'o', 't', 'a', 'r', 'e', 't', 'i', '_', 't', 'e', 's']) (by kernel_rfl) owner_si]; kernel_rfl
def Empt (h : Heap) (a : Addr) (ep : Nat) (t : SetTable) : Prop := ∃ o, h.get? a = some o ∧ o.cls = .type "set" ∧ o.data = .set #[] ep t ∧ t.fits 0 = true
def EmIt (h : Heap) (it a : Addr) (ep : Nat) : Prop := ∃ o, h.get? it = some o ∧ o.cls = .type "set_iterator" ∧ o.data = .fields #[rawInt 0, rawInt 0, .ref a, rawInt 0, rawInt ep]
theorem Empt.typeIs {s : Shared} {a : Addr} {ep : Nat} {t : SetTable} (x : Empt s.heap a ep t) : s.TypeIs (.ref a) "set" := let ⟨o, ho, hc, _⟩ := x; ⟨o, ho, hc⟩
theorem EmIt.typeIs {s : Shared} {it a : Addr} {ep : Nat} (x : EmIt s.heap it a ep) : s.TypeIs (.ref it) "set_iterator" := let ⟨o, ho, hc, _⟩ := x; ⟨o, ho, hc⟩
section
variable {prog : Program} {w : World} {A : Around} {E : Value → Shared → Prop} {s : Shared} {a it : Addr} {ep : Nat} {t : SetTable}
theorem Empt.at' {h h' : Heap} (x : Empt h a ep t) (e : ∀ o, h.get? a = some o → h'.get? a = some o) : Empt h' a ep t := let ⟨o, ho, r⟩ := x; ⟨o, e _ ho, r⟩
theorem EmIt.at' {h h' : Heap} (x : EmIt h it a ep) (e : ∀ o, h.get? it = some o → h'.get? it = some o) : EmIt h' it a ep := let ⟨o, ho, r⟩ := x; ⟨o, e _ ho, r⟩
theorem set_len_lookup : typeLookup (.type "set") "__len__" = pure (some (.builtin "set.__len__")) := by rw [typeLookup_type, builtinLookup_eq_fast]; kernel_rfl
theorem hint_set {Q : Bool → Shared → Prop} (hT : s.TypeIs (.ref a) "set") (h : Q false s) : wpAny (model prog w) A (Builtin.List.listLengthHint (.ref a)) Q E s := by
  unfold Builtin.List.listLengthHint
  refine wpAny_bind (wpAny_specialOf hT set_len_lookup ?_)
  generalize hid : ("set.__len__" : String) = id0
  wp_delta
  rw [show splitId id0 = some ("set", "__len__") from by subst hid; decide +kernel]
  subst hid
  refine wpAny_bind (wpAny_isInstance (T := "set") (b := true) hT (by rw [isSubtype_type]; kernel_rfl) ?_)
  refine wpAny_ite_split (fun hab => absurd hab (by decide)) (fun _ => ?_)
  refine wpAny_ite_split (fun _ => ?_) (fun hab => absurd (by decide +kernel) hab)
  refine wpAny_bind (wpAny_typeOf hT ?_)
  exact wpAny_pure h
end
section
variable {X : Cx}
/-! ### new dicts, in some heap over the one ahead; fields, with the fragment named -/
theorem pe_dnewN {pos : Pos} : PE X (.Dict [] [] pos) (fun _ H Q => New H (.dK []) Q) := fun pins s σ H Q I h => pe_dnewK pins s σ H Q I h.at
theorem pe_dnewTN {pos : Pos} : PE X (.Dict [] [] pos) (fun _ H Q => New H (.dT []) Q) := fun pins s σ H Q I h => pe_dnewT pins s σ H Q I h.at
end
end L2

set_option Elab.async false
set_option linter.all false
set_option maxRecDepth 100000
set_option maxHeartbeats 4000000

namespace L2
open PySem PySem.Spec PyProof.Rows
section
variable {X : Cx}
/-! ### f-strings of texts -/
theorem str_empty_app (x : Str) : Str.empty ++ x = x := by
  obtain ⟨c⟩ := x
  show (⟨#[] ++ c⟩ : Str) = ⟨c⟩
  rw [Array.empty_append]
variable {e e1 e2 : Expr} {te t1 t2 : TE} {pos : Pos}
end
end L2

set_option Elab.async false
set_option linter.all false
set_option maxRecDepth 100000
set_option maxHeartbeats 4000000

namespace L2
open PySem
/-- a cut whose statement is given in the reading, so that it may speak of what the walk has met -/
theorem pss_cutE {X : Cx} {st : Stmt} {sts : List Stmt} {t u : TS} (h1 : PS X st t) (h2 : PSs X sts u) : PSs X (st :: sts) (fun D σ H => ∃ P : St → Hp → Prop, t { D with nx := P } σ H ∧ ∀ σ' H', P σ' H' → u D σ' H') := by
  intro pins s σ H D I ⟨P, a, b⟩
  exact pss_cut P h1 h2 pins s σ H D I ⟨a, b⟩
end L2

set_option Elab.async false
set_option linter.all false
set_option maxRecDepth 100000
set_option maxHeartbeats 4000000

/-! ### isinstance of an exception of a class of one's own -/
namespace L2
open PySem PySem.Spec PyProof.Rows PySem.W PySem.Builtin PySem.Builtin.ObjectAttr PySem.Builtin.Getset_descriptor
/-- an exception that has landed, by its class -/
abbrev excO (a : Addr) (c : Value) : HO := .ext fun h => ∃ o, h.get? a = some o ∧ o.cls = c
theorem excO_ok {P : Program} {w : World} {H : Hp} {h : Heap} {a : Addr} {c : Value} (e : ∃ o, h.get? a = some o ∧ o.cls = c) : ObjOk P w H h a (excO a c) := by
  obtain ⟨o, e1, e2⟩ := e
  exact ⟨⟨o, e1, e2⟩, ⟨o, e1⟩, fun h1 h2 z k => by
    obtain ⟨o', x, y⟩ := z
    exact ⟨o', k _ x, y⟩⟩
abbrev bmV : List Value := [.type "ValueError", .type "Exception", .type "BaseException", .type "object"]
/-- what is known of such a class -/
structure XCls (K : PySem.W.Frag) (C : Addr) : Prop where
  exc : PySem.W.excIn K C bmV "ValueError.__new__" = true
  ga : PySem.W.findIn K (.ref C) "__getattribute__" = some (some (.builtin "BaseException.__getattribute__"))
  gh : PySem.W.findIn K (.ref C) "__getattr__" = some none
  cls : PySem.W.findIn K (.ref C) "__class__" = some (some (.builtin "object.__class__"))
  spc : PySem.W.specialIn K (.builtin "object.__class__") "__get__" = some (some (.builtin "getset_descriptor.__get__"))
  tak : PySem.W.takesIn K (.builtin "object.__class__") = some true
  mro : PySem.W.mroIn K C (.type "object") = some true
  mrb : PySem.W.mroIn K C (.type "BaseException") = some true
section
variable {K : PySem.W.Frag} {D a : Addr} {M : Model} {h : Heap}
theorem XCls.there (x : XCls K D) : ∃ cd, PySem.W.clsIn K D = some cd := by
  have e := x.mro
  unfold PySem.W.mroIn at e
  obtain ⟨cd, q, _⟩ := Option.bind_eq_some_iff.mp e
  exact ⟨cd, q⟩
theorem XCls.obj (x : XCls K D) : ∃ c d cd sl, K.lookup D = some ⟨c, d, .cls cd, sl⟩ := by
  obtain ⟨cd, e⟩ := x.there
  unfold PySem.W.clsIn at e
  split at e
  · exact ⟨_, _, _, _, ‹_›⟩
  · cases e
theorem looks_ex (e : ∃ o, h.get? a = some o ∧ o.cls = .ref D) : Looks M h (typeOf (.ref a)) (.ref D) := by
  obtain ⟨o, e1, e2⟩ := e
  exact e2 ▸ (Looks.ld e1).andThen .now
end
section
variable {prog : Program} {w : World} {A : Around} {E : Value → Shared → Prop} {s : Shared} {K : PySem.W.Frag} {D a : Addr}
theorem exc_class_get {R : Result → Shared → Prop} {tp : Value} (x : XCls K D) (X : K.In s.heap) (p : ∃ o, s.heap.get? a = some o ∧ o.cls = .ref D) (q : R (.ok (.ret (.ref D))) s) :
    codeAny (model prog w) A (.call (.builtin "getset_descriptor.__get__") ⟨[.builtin "object.__class__", .ref a, tp], []⟩) R s := by
  obtain ⟨hh, gg, dr, tk, os⟩ := s
  have LT := looks_ex (M := model prog w) p
  have LM := looks_mroIn (M := model prog w) X x.mro
  refine codeAny_call_builtin KF.slot_gs.plain KF.entry_gs
    (KF.slot_gs.check _ _ _ _ _ _ _ _ KF.type_class (KF.args_gs _ _ _) ?_)
  unfold Builtin.«getset_descriptor.__get__»
  unfold descrGet
  rw [dga_obj]
  refine wpAny_bind (wpAny_pure ?_)
  unfold descrGetter descrCheckInstance
  unfold descrNameAndClass isInstance
  simp only [KF.owner_class]
  repeat lk
  refine ⟨Code.quiet_builtin _ (by decide +kernel),
    codeAny_builtin KF.entry_class ?_⟩
  unfold Builtin.«object.__class__»
  unfold shownTypeOf
  repeat lk
  exact q
theorem exc_class_entry (x : XCls K D) {tk : Tok} {Q : PySem.Fin → Shared → Prop} (X : K.In s.heap) (p : ∃ o, s.heap.get? a = some o ∧ o.cls = .ref D) (q : Q (.done (.ret (.ref D))) s) :
    wpAny (model prog w) A (Builtin.«object.__getattribute__» ⟨[.ref a, .str "__class__" tk], []⟩) Q E s := by
  obtain ⟨hh, gg, dr, tt, os⟩ := s
  have LT := looks_ex (M := model prog w) p
  have LF : Looks (model prog w) hh (find (.ref a) (.ref D) "__class__") (.bind (.builtin "getset_descriptor.__get__") (.builtin "object.__class__")) :=
    (looks_findIn X x.cls).andThen ((looks_specialIn X x.spc).andThen ((show Looks (model prog w) hh (dataDescriptor? (some (.builtin "object.__class__")) (some (.builtin "getset_descriptor.__get__"))) (some (.builtin "getset_descriptor.__get__", .builtin "object.__class__")) from (looks_takesIn X x.tak).andThen .now).andThen (Looks.tag .now)))
  unfold Builtin.«object.__getattribute__»
  repeat (any_goals (first | assumption | with_reducible refine LT.at ?_ | with_reducible refine LF.at ?_ | wp_step))
  refine exc_class_get x X p ?_
  repeat (any_goals (first | assumption | wp_step))
theorem exc_check (x : XCls K D) {nameV : Value} {Q : Unit → Shared → Prop} (X : K.In s.heap) (p : ∃ o, s.heap.get? a = some o ∧ o.cls = .ref D) (q : Q () s) :
    wpAny (model prog w) A (checkBuiltinCall "BaseException.__getattribute__" ⟨[.ref a, nameV], []⟩) Q E s := by
  obtain ⟨hh, gg, dr, tt, os⟩ := s
  have hk : builtinKind "BaseException.__getattribute__" = some .slot := by decide +kernel
  have hsp : splitId "BaseException.__getattribute__" = some ("BaseException", "__getattribute__") := by decide +kernel
  have LM := looks_mroIn (M := model prog w) X x.mrb
  obtain ⟨o, hx, hc⟩ := id p
  have ha := F.args_bexc_ga (.ref a) nameV
  simp only [checkBuiltinCall, hk, hsp]
  refine wpAny_bind ?_
  unfold isInstance
  repeat (first | (with_reducible refine wpAny_loadPart_at hx ?_; rw [hc]) | with_reducible refine LM.at ?_ | wp_step)
  exact q
theorem exc_class_call (x : XCls K D) {tk : Tok} {R : Result → Shared → Prop} (X : K.In s.heap) (p : ∃ o, s.heap.get? a = some o ∧ o.cls = .ref D) (q : R (.ok (.ret (.ref D))) s) :
    codeAny (model prog w) A (.call (.builtin "BaseException.__getattribute__") ⟨[.ref a, .str "__class__" tk], []⟩) R s :=
  codeAny_call_builtin F.excAttr_ValueError.ga.plain F.entry_bexc_ga (exc_check x X p (exc_class_entry x X p q))
theorem exc_class_by (x : XCls K D) {tk : Tok} {Q : Value → Shared → Prop} (X : K.In s.heap) (p : ∃ o, s.heap.get? a = some o ∧ o.cls = .ref D) (q : Q (.ref D) s) :
    wpAny (model prog w) A (getAttrBy (.ref a) (.str "__class__" tk) false) Q E s := by
  obtain ⟨hh, gg, dr, tt, os⟩ := s
  have LT := looks_ex (M := model prog w) p
  have LG := looks_findIn (M := model prog w) X x.ga
  have LH := looks_findIn (M := model prog w) X x.gh
  have f3 := F.excAttr_ValueError.ga.bind (.ref a)
  have hx0 : (false && onTheHeap (Value.builtin "BaseException.__getattribute__")) = false := rfl
  have hx2 : (Value.builtin "BaseException.__getattribute__" == Value.builtin "object.__getattribute__") = false := by decide +kernel
  have hx1 : (onTheHeap (Value.ref D) && Value.builtin "BaseException.__getattribute__" == Value.builtin "object.__getattribute__") = false := by rw [hx2]; rfl
  repeat (any_goals (first | assumption | with_reducible refine LT.at ?_ | with_reducible refine LG.at ?_ | with_reducible refine LH.at ?_ | wp_step))
  refine exc_class_call x X p ?_
  repeat (any_goals (first | assumption | wp_step))
theorem exc_class (x : XCls K D) {Q : Option Value → Shared → Prop} (X : K.In s.heap) (p : ∃ o, s.heap.get? a = some o ∧ o.cls = .ref D) (q : Q (some (.ref D)) { s with toks := s.toks + 1 }) :
    wpAny (model prog w) A (getAttr? (.ref a) "__class__") Q E s := by
  obtain ⟨hh, gg, dr, tt, os⟩ := s
  unfold getAttr?
  refine wpAny_bind (wpAny_mkText ?_)
  unfold getAttrBy?
  refine wpAny_bind (wpAny_attempt (exc_class_by x X p ?_))
  exact wpAny_pure q
theorem kitx_exc (x : XCls K D) : PySem.W.KitX K (.ref a) (.ref D) (fun h => ∃ o, h.get? a = some o ∧ o.cls = .ref D) where
  ty := fun _ _ _ p => looks_ex p
  it := fun M h X _ => by
    obtain ⟨c, d, cd, sl, e⟩ := x.obj
    intro A' Q' E' s' k q
    unfold isType loadHead
    exact wpAny_bind (wpAny_loadPart (k _ _ (X _ _ e)) (wpAny_pure q))
  ne := fun h tp dd its n sl X e => by
    obtain ⟨c, d, cd, sl', e'⟩ := x.obj
    refine Bool.eq_false_iff.mpr fun q => ?_
    obtain rfl : D = tp := Value.ref.inj (beq_iff_eq.mp q)
    cases (X _ _ e').symm.trans e
  ca := fun X p q => exc_class x X p q
end
end L2

set_option Elab.async false
set_option linter.all false
set_option maxRecDepth 100000
set_option maxHeartbeats 4000000
/-! ### exceptions in flight -/
namespace L2
open PySem PySem.Spec PyProof.Rows PySem.W
theorem ObjOk.obj {P : Program} {w : World} {H : Hp} {h : Heap} {a : Addr} {o : HO} (x : ObjOk P w H h a o) : ∃ u, h.get? a = some u := by
  cases o with
  | lst xs => obtain ⟨_, _, _, _, e⟩ := x; exact ⟨_, e⟩
  | tup xs => obtain ⟨_, _, _, ob, e, _⟩ := x; exact ⟨_, e⟩
  | dK kvs => obtain ⟨_, _, _, _, o, _, _, e, _⟩ := x; exact ⟨_, e⟩
  | dT kvs => obtain ⟨_, _, _, _, o, _, _, e, _⟩ := x; exact ⟨_, e⟩
  | set S n => obtain ⟨o, _, _, _, e, _⟩ := x; exact ⟨_, e⟩
  | ins C dx fs => obtain ⟨_, _, _, e, _⟩ := x; exact ⟨_, e⟩
  | own y => obtain ⟨_, e⟩ := x; exact ⟨_, e⟩
  | xd fs => obtain ⟨_, ⟨_, _, _, e, _⟩, _⟩ := x; exact ⟨_, e⟩
  | rng lo hi => obtain ⟨_, _, _, e⟩ := x; exact ⟨_, e⟩
  | frz ob u => obtain ⟨e, _⟩ := x; exact ⟨_, e⟩
  | tbl ps => exact ⟨_, (show h.get? a = some _ from x)⟩
  | met f y => exact ⟨_, (show h.get? a = some _ from x)⟩
  | ext φ => obtain ⟨_, ⟨_, e⟩, _⟩ := x; exact ⟨_, e⟩
/-- what lies behind a flight: all that is tracked or was there at h0 stands in B and stays; the frames stay up to slots -/
structure Flew (l : List Env) (B : Heap) (H : Hp) (h0 h h' : Heap) : Prop where
  big : ∀ b o, h.get? b = some o → ((H b).isSome = true ∨ ∃ o', h0.get? b = some o') → b ∉ frs l → B.get? b = some o
  stay : B.StaysIn h'
  slots : ∀ b o, h.get? b = some o → b ∈ frs l → ∃ sl, h'.get? b = some { o with slots := sl }
section
variable {l : List Env} {B : Heap} {H H0 : Hp} {h0 h h' h'' : Heap} {P : Program} {w : World}
theorem Flew.at (f : Flew l B H h0 h h') {b : Addr} {o : Obj} (e : h.get? b = some o) (t : (H b).isSome = true ∨ ∃ o', h0.get? b = some o') (n : b ∉ frs l) : h'.get? b = some o := f.stay _ _ (f.big b o e t n)
theorem Flew.hok (f : Flew l B H h0 h h') (ok : HOk P w H h) (fr : ∀ b ∈ frs l, H b = none) : HOk P w H h' := fun b o e => by
  have nf : ∀ c u, H c = some u → c ∉ frs l := fun c u q z => by rw [fr c z] at q; cases q
  refine (ok b o e).stay (fun c u hc q => ?_) (fun _ q => q) fun _ _ q => q
  rcases hc with rfl | hc
  · exact f.at q (.inl (by rw [e]; rfl)) (nf _ _ e)
  · exact f.at q (.inl (by rw [hc]; rfl)) (nf _ _ hc)
theorem Flew.un {fs : List Addr} (f : Flew l B H h0 h h') (u : Un fs [] H0 H h0 h) (hs : ∀ b ∈ frs l, b ∈ fs ∨ h0.get? b = none) (hf : ∀ b ∈ fs, b ∈ frs l) : Un fs [] H0 H h0 h' where
  keep := fun b o q n hb hx => f.at (u.keep b o q n hb hx) (.inr ⟨o, q⟩) fun z => by
    rcases hs b z with y | y
    · exact hb y
    · rw [y] at q; cases q
  slot := fun b o q n hb hx => by
    obtain ⟨sl, e⟩ := u.slot b o q n hb hx
    obtain ⟨sl', e'⟩ := f.slots b _ e (hf b hb)
    exact ⟨sl', e'⟩
  free := u.free
  there := fun b o q hx => by
    obtain ⟨o', e⟩ := u.there b o q hx
    by_cases hb : b ∈ frs l
    · obtain ⟨sl, e'⟩ := f.slots b _ e hb
      exact ⟨_, e'⟩
    · exact ⟨o', f.at e (.inr ⟨o, q⟩) hb⟩
  tups := u.tups
  frzs := u.frzs
  tbls := u.tbls
theorem Flew.on (f : Flew l B H h0 h h') (st : B.StaysIn h'') (sm : h'.UpToSlots h'') (nf : ∀ b o, h.get? b = some o → b ∈ frs l → ∀ vs, o.data ≠ .fields vs) : Flew l B H h0 h h'' := ⟨f.big, st, fun b o e hb => by
  obtain ⟨sl, q⟩ := f.slots b o e hb
  obtain ⟨sl', q'⟩ := sm b _ q (nf b o e hb)
  exact ⟨sl', q'⟩⟩
end
/-- a call that ended in an exception of the class c: what lies there -/
def CXR (P : Program) (w : World) : CXT := fun outer H s E e s' => ∃ (a : Addr) (c : Value) (H' : Hp) (B : Heap) (a0 : Value), e = .ref a ∧ s'.os = s.os ∧ AllBare s'.gens ∧ Un (frs outer) [] H H' s.heap s'.heap ∧ HOk P w H' s'.heap ∧ s.heap.get? a = none ∧
  Heap.FlyingW B outer a c a0 s'.heap ∧ (∀ b o, s'.heap.get? b = some o → ((H' b).isSome = true ∨ ∃ o', s.heap.get? b = some o') → b ∉ frs outer → B.get? b = some o) ∧ E c none H'
section
variable {X : Cx} {pins : List (Addr × Obj)} {σ : St} {H : Hp} {s : Shared} {E : XK}
theorem Inv.nofld (I : Inv X pins σ H s) {b : Addr} (hb : b ∈ frs X.stack) : ∃ o, s.heap.get? b = some o ∧ ∀ vs, o.data ≠ .fields vs := (I.stack.mem hb).2
theorem cxr_of {B h' : Heap} {a : Addr} {c a0 : Value} {g' : Array GenState} {d' : Drawn} {t' : Nat} (I : Inv X pins σ H s) (hex : X.ex = []) (hst : X.stack = X.env :: X.outer) (hfr : X.env.frame = some X.env.locals) (f : Flew X.stack B H X.s₀.heap s.heap h') (na : X.s₀.heap.get? a = none)
    (fl : Heap.FlyingW B X.outer a c a0 h') (hg : AllBare g') (e : E c none H) : CXR X.prog X.w X.outer X.H₀ X.s₀ E (.ref a) { s with heap := h', gens := g', drawn := d', toks := t' } := by
  have sub : ∀ b ∈ frs X.outer, b ∈ frs X.stack := fun b hb => by
    rw [hst]
    unfold frs at hb ⊢
    rw [List.filterMap_cons, hfr]
    exact List.mem_cons_of_mem _ hb
  have sup : ∀ b ∈ frs X.stack, b ∈ frs X.outer ∨ X.s₀.heap.get? b = none := fun b hb => by
    rcases List.mem_cons.mp (I.stkSub b hb) with z | z
    · rw [z]; exact .inr (Heap.get?_none_of_le I.ok.above)
    · exact .inl z
  have u0 := I.base
  rw [hex] at u0
  refine ⟨a, c, H, B, a0, rfl, I.os, hg, f.un u0 sup sub, f.hok I.hok I.stkFree, na, fl, fun b o q t nb => ?_, e⟩
  have q : h'.get? b = some o := q
  have nst : b ∉ frs X.stack ∨ X.s₀.heap.get? b = none := by
    by_cases z : b ∈ frs X.stack
    · rcases sup b z with y | y
      · exact absurd y nb
      · exact .inr y
    · exact .inl z
  have tr : ∀ o2, s.heap.get? b = some o2 → b ∉ frs X.stack → B.get? b = some o := fun o2 e2 z => by
    have := f.big b o2 e2 t z
    have q2 := f.stay _ _ this
    rw [q] at q2
    cases q2
    exact this
  rcases t with t | ⟨o', t⟩
  · obtain ⟨u, hu⟩ := Option.isSome_iff_exists.mp t
    obtain ⟨o2, e2⟩ := (I.hok b u hu).obj
    exact tr o2 e2 fun z => by rw [I.stkFree b z] at hu; cases hu
  · obtain ⟨o2, e2⟩ := u0.there b o' t (by simp)
    refine tr o2 e2 fun z => ?_
    rcases nst with y | y
    · exact y z
    · rw [y] at t; cases t
/-- a def's body, where an exception may leave it -/
abbrev cxR (P : Program) (w : World) (K : PySem.W.Frag) (mg : Str → Option Value) (base : Heap) (N : List Str) (qual : Str) (scope : Scope) (f : Addr) (cd : Value) (A : Around) (outer : List Env) (s : Shared) (H : Hp) (E : XK) : Cx := cxOf (CXR P w) P w K mg base N qual scope f cd A outer s H E
end
section
variable {P : Program} {w : World} {K : PySem.W.Frag} {mg : Str → Option Value} {base : Heap} {N : List Str} {qual : Str} {scope : Scope} {f : Addr} {cd : Value} {A : Around} {outer : List Env} {s0 : Shared} {H0 : Hp} {E : XK}
theorem exc_obj {C : Addr} {h : Heap} (X : K.In h) (x : XCls K C) : ∃ bm Nn nm q bs hdct sn sub ab col dd k0 k1 k2 k3 k5 mN, h.get? C = some (excClassObj nm q C Nn bs bm hdct sn sub ab col dd k0 k1 k2 k3 k5 "ValueError.__new__") ∧ h.Ns Nn mN ∧ mN "__init__" = none ∧ OwnTail h bmV bm := by
  have q := x.exc
  unfold excIn at q
  split at q
  case h_2 => cases q
  rename_i dd cdd sl ho
  split at q
  case h_2 => cases q
  rename_i C' bm k0 k1 k2 k3 n k5 hm hs
  rw [Bool.and_eq_true, Bool.and_eq_true, Bool.and_eq_true, Bool.and_eq_true, Bool.and_eq_true] at q
  obtain ⟨⟨⟨⟨⟨z1, z2⟩, z3⟩, z4⟩, z5⟩, z6⟩ := q
  have z1 := beq_iff_eq.mp z1
  have z2 := beq_iff_eq.mp z2
  have z3 : cdd.hasDel = false := by simpa using z3
  subst z1 z2
  obtain ⟨nm, bs, mro, ns, qn, hd, sn, sub, ab, col, del⟩ := cdd
  have hm : mro = .ref C' :: bm := hm
  have z3 : del = false := z3
  subst hm z3
  obtain ⟨sll⟩ := sl
  have hs : sll = [k0, k1, k2, k3, some (.builtin "ValueError.__new__"), k5] := hs
  subst hs
  exact ⟨bm, ns, nm, qn, bs, hd, sn, sub, ab, col, dd, k0, k1, k2, k3, k5, _, X _ _ ho, .of_isNs (isNs_of_in X z5), nsMap_none_of_in X z5 (beq_iff_eq.mp z6), tail_of_in X z4⟩
/-- raise C(e) -/
theorem ps_raise {C : Addr} {x : Str} {np cpos pos : Pos} {e : Expr} {te : TE} (xc : XCls K C) (hm : mg x = some (.ref C)) (he : PE (cxR P w K mg base N qual scope f cd A outer s0 H0 E) e te) (hg : Gl (cxR P w K mg base N qual scope f cd A outer s0 H0 E) x := by rfl)
    (hs : starEach [e] (envOfC qual scope s0.heap.objs.size f cd) = [(false, eval e (envOfC qual scope s0.heap.objs.size f cd))] := by rfl) (hd : (x == ("__debug__" : Str)) = false := by decide) :
    PS (cxR P w K mg base N qual scope f cd A outer s0 H0 E) (.Raise (some (.Call (.Name x np) [e] [] cpos)) none pos) (fun _ σ H => te σ H fun v H1 => [v].length ≤ 1 ∧ E (.ref C) none H1) := by
  intro pins s σ H D I h
  obtain ⟨bm, Nn, nm, q, bs, hdct, sn, sub, ab, col, dd, k0, k1, k2, k3, k5, mN, hC, hN, hni, T⟩ := exc_obj I.mod.kin xc
  have hh : (A.deeper (envOfC qual scope s0.heap.objs.size f cd)).handled = none := I.ok.hd rfl
  refine wpAny_Raise_call_subT (C := C) (nm := nm) (q := q) (N := Nn) (bs := bs) (bm := bm) (hdct := hdct) (sn := sn) (sub := sub) (ab := ab) (col := col) (dd := dd) (k0 := k0) (k1 := k1) (k2 := k2) (k3 := k3) (k5 := k5)
    PySem.F.excBase_ValueError (mN := mN) (T.hasType PySem.F.excBase_ValueError.hasBase) hh (by show (backTo cpos (starEach [e] (envOfC qual scope s0.heap.objs.size f cd))).any (·.1) = false; rw [hs]; rfl) hni (ld_glob I hg hm ⟨rfl, ?_⟩ hd)
  have ha : PA (cxR P w K mg base N qual scope f cd A outer s0 H0 E) [e] (tCons te tNil) := pa_cons he pa_nil hs
  have go := ha cpos pins s σ H (fun vs H1 => vs.length ≤ 1 ∧ E (.ref C) none H1) I h
  have go : wpAny (model P w) (A.deeper (envOfC qual scope s0.heap.objs.size f cd)) (spliced (backTo cpos (starEach [e] (envOfC qual scope s0.heap.objs.size f cd)))) (AP (cxR P w K mg base N qual scope f cd A outer s0 H0 E) pins σ (fun vs H1 => vs.length ≤ 1 ∧ E (.ref C) none H1)) (cxR P w K mg base N qual scope f cd A outer s0 H0 E).xe s := go
  show wpAny (model P w) (A.deeper (envOfC qual scope s0.heap.objs.size f cd)) (evalArgs (.ref C) true (backTo cpos (starEach [e] (envOfC qual scope s0.heap.objs.size f cd))) []) _ _ s
  rw [hs] at go ⊢
  refine Calls.evalArgs_plain (wpAny_mono go (fun us s2 z => ?_) fun _ _ y => y)
  obtain ⟨vs, H1, I1, rv, l1, q1⟩ := z
  have hl : us.length ≤ sizeLine := by
    rw [← rv.length]
    exact Nat.le_trans l1 (by decide)
  refine ⟨rfl, hl, I1.bk _ _ hC, hN.keeps I1.bk, T.keeps I1.bk, fun h' a hx => ?_⟩
  have na0 : s0.heap.get? a = none := by
    cases z : s0.heap.get? a with
    | none => rfl
    | some o =>
      obtain ⟨o', y⟩ := I1.base.there a o z (fun z => nomatch z)
      rw [hx.new] at y; cases y
  refine wpAny_leaves_madeW (base := hideAll s2.heap (frs (envOfC qual scope s0.heap.objs.size f cd :: outer))) (L := (envOfC qual scope s0.heap.objs.size f cd).locals) (h := s2.heap) I1.ok.frames rfl (fun b o z => of_hideAll _ z)
    (funFrames_hide I1.stack fun env hev b hb => List.mem_filterMap.mpr ⟨env, hev, hb⟩) hx fun h2 t x1 x2 x3 x4 => ?_
  refine cxr_of (g' := s2.gens) (d' := s2.drawn) (t' := s2.toks) I1 rfl rfl rfl ⟨fun b o z _ nb => hideAll_get _ z nb, x1.1, fun b o z hb => ?_⟩ na0 x1 I1.bare q1
  obtain ⟨o1, e1, n1⟩ := I1.nofld hb
  rw [z] at e1; cases e1
  exact x4 b o (hx.keeps _ _ z) n1
end
end L2

set_option Elab.async false
set_option linter.all false
set_option maxRecDepth 100000
set_option maxHeartbeats 4000000
/-! ### try .. except C as e -/
namespace L2
open PySem PySem.Spec PyProof.Rows PySem.W
section
variable {X : Cx} {pins : List (Addr × Obj)} {σ : St} {H : Hp} {s : Shared}
/-- a name is let go behind the suite -/
theorem name_gone {M : Model} {A : Around} {E : Value → Shared → Prop} {i : Nat} {x : Str} {pos : Pos} {Q : Unit → Shared → Prop} (I : Inv X pins σ H s) (hN : X.N.Nodup) (hi : X.N[i]? = some x) (hk : X.env.kindOf x = some .local)
    (h : ∀ s', Inv X pins (σ.set i none) H s' → Q () s') : wpAny M A (do bindName X.env x .none; unbindBehindTheSuite X.env x pos) Q E s := by
  obtain ⟨m, hn, hl⟩ := id I.loc
  have hcls : (X.env.scope.kind == .class || (X.env.scope.kind == .module && X.env.locals != X.env.globals)) = false := by rw [I.ok.kind]; rfl
  have cne := I.cne
  refine wpAny_nameGoes_keeps hk hn hcls fun h' v hn' hs => ?_
  obtain ⟨oL, _, _, hoL, _⟩ := id hn
  have old : ∀ {b : Addr} {o : Obj}, X.s₀.heap.get? b = some o → b ≠ X.env.locals := fun e => Nat.ne_of_lt (Nat.lt_of_lt_of_le (Heap.lt_size e) I.ok.above)
  refine h _ ⟨I.ok, I.os, I.bare, ⟨fun b o e n hb hx => (hs.2 b (old e)).trans (I.base.keep b o e n hb hx), fun b o e n hb hx => ?_, I.base.free, fun b o e hx => ?_, I.base.tups, I.base.frzs, I.base.tbls⟩, ⟨_, hn', fun j y v' e1 e2 e3 => ?_⟩, fun y c e => ?_, I.free, I.freeC, fun p hp => ?_, fun b ob e => ?_, by simpa using I.len⟩
  · obtain ⟨sl, e1⟩ := I.base.slot b o e n hb hx
    exact ⟨sl, (hs.2 b (old e)).trans e1⟩
  · obtain ⟨o', e1⟩ := I.base.there b o e hx
    exact ⟨o', (hs.2 b (old e)).trans e1⟩
  · by_cases hj : j = i
    · subst hj
      have hiσ : j < σ.length := by rw [I.len]; exact (List.getElem?_eq_some_iff.mp hi).1
      rw [List.getElem?_set_self hiσ] at e2
      cases e2
    · rw [List.getElem?_set_ne (Ne.symm hj)] at e2
      obtain ⟨u', r', q⟩ := hl j y v' e1 e2 e3
      refine ⟨u', r', ?_⟩
      rcases q with ⟨k, e⟩ | ⟨k, c, e, z⟩
      · have ne : y ≠ x := fun e => hj (nodup_ix hN e1 (e ▸ hi))
        exact .inl ⟨k, by simp [ne, e]⟩
      · exact .inr ⟨k, c, e, z.sameBut hs (cne y c e)⟩
  · obtain ⟨w', z⟩ := I.cell y c e
    exact ⟨w', z.sameBut hs (cne y c e)⟩
  · obtain ⟨e, n, ne, nf, d⟩ := I.pin p hp
    exact ⟨(hs.2 p.1 ne).trans e, n, ne, nf, d⟩
  · refine (I.hok b ob e).stay (fun c w' hc q => (hs.2 c ?_).trans q) (fun _ q => q) fun _ _ q => q
    rintro rfl
    rcases hc with rfl | hc
    · rw [I.free] at e; cases e
    · rw [I.free] at hc; cases hc
/-- within a try's body; within an except suite -/
abbrev Cx.tr (X : Cx) (XE : Value → Shared → Prop) (pn : List (Addr × Obj)) : Cx := { X with xe := XE, pn := X.pn ++ pn }
abbrev Cx.exs (X : Cx) (a : Addr) : Cx := { X with A := X.A.mark (some (.ref a)), calm := false, xe := fun _ _ => False }
theorem Inv.tr (I : Inv X pins σ H s) (XE : Value → Shared → Prop) : Inv (X.tr XE pins) [] σ H s :=
  ⟨⟨I.ok.mod, I.ok.kind, I.ok.glob, I.ok.blt, I.ok.above, I.ok.inj, I.ok.has, I.ok.cab, I.ok.hd, I.ok.frames, I.ok.stk, I.ok.exf, I.ok.bs, I.ok.bsz, I.ok.noex, I.ok.exfs, I.ok.funs, I.ok.frf⟩, I.os, I.bare, I.base, I.loc, I.cell, I.free, I.freeC, fun p hp => I.pin p (by simpa using hp), I.hok, I.len⟩
theorem Inv.untr {XE : Value → Shared → Prop} {ps : List (Addr × Obj)} (I : Inv (X.tr XE pins) ps σ H s) : Inv X pins σ H s :=
  ⟨⟨I.ok.mod, I.ok.kind, I.ok.glob, I.ok.blt, I.ok.above, I.ok.inj, I.ok.has, I.ok.cab, I.ok.hd, I.ok.frames, I.ok.stk, I.ok.exf, I.ok.bs, I.ok.bsz, I.ok.noex, I.ok.exfs, I.ok.funs, I.ok.frf⟩, I.os, I.bare, I.base, I.loc, I.cell, I.free, I.freeC, fun p hp => I.pin p (List.mem_append_left _ hp), I.hok, I.len⟩
theorem Inv.exs (I : Inv X pins σ H s) (a : Addr) : Inv (X.exs a) pins σ H s :=
  ⟨⟨I.ok.mod, I.ok.kind, I.ok.glob, I.ok.blt, I.ok.above, I.ok.inj, I.ok.has, I.ok.cab, fun z => (nomatch z), I.ok.frames, I.ok.stk, I.ok.exf, I.ok.bs, I.ok.bsz, I.ok.noex, I.ok.exfs, I.ok.funs, I.ok.frf⟩, I.os, I.bare, I.base, I.loc, I.cell, I.free, I.freeC, I.pin, I.hok, I.len⟩
theorem Inv.unexs {a : Addr} (ok : X.Ok) (I : Inv (X.exs a) pins σ H s) : Inv X pins σ H s := ⟨ok, I.os, I.bare, I.base, I.loc, I.cell, I.free, I.freeC, I.pin, I.hok, I.len⟩
theorem SP.untr {XE : Value → Shared → Prop} {ps : List (Addr × Obj)} {D : Ends} {f : Flow} {s' : Shared} (h : SP (X.tr XE pins) ps D f s') : SP X pins D f s' := by
  cases f with
  | next => obtain ⟨σ', H', I, q⟩ := h; exact ⟨σ', H', I.untr, q⟩
  | brk => obtain ⟨σ', H', I, q⟩ := h; exact ⟨σ', H', I.untr, q⟩
  | cont => obtain ⟨σ', H', I, q⟩ := h; exact ⟨σ', H', I.untr, q⟩
  | ret u => obtain ⟨v, σ', H', I, r, q⟩ := h; exact ⟨v, σ', H', I.untr, r, q⟩
end
/-- an exception of a callee reaches what is wanted, by the names' values -/
def PassesS (CX : CXT) (X : Cx) (E : St → XK) : Prop := ∀ (pins : List (Addr × Obj)) (σ : St) (H : Hp) (s : Shared) (e : Value) (s' : Shared), Inv X pins σ H s → CX X.stack H s (E σ) e s' → X.xe e s'
section
variable {X : Cx} {CX : CXT} {k : Nat} {f C : Addr} {fd : FuncData} {ps : List Str} {sp : Sp} {dvs : List V} {ds : List Value} {E : St → XK} {x m : Str} {p pos apos : Pos} {e o : Expr} {es : List Expr} {ta : TE} {t : TA}
theorem run_fnS {pins : List (Addr × Obj)} {σ : St} {H : Hp} {s : Shared} {Q : VK} {us : List Value} {vs : List V} (F : FnOk X.prog X.w X.K X.mg X.base CX k f fd ps sp) (hr : Room k X.A) (hb : Binds X.K fd ps ds) (hd : Vals dvs ds) (hx : PassesS CX X E)
    (I : Inv X pins σ H s) (r : Vals vs us) (h : sp (vs ++ dvs) H Q (E σ)) : wpAny (model X.prog X.w) X.A (call (.ref f) us) (EP X pins σ Q) X.xe s := by
  have r2 : Vals (vs ++ dvs) (us ++ ds) := r.append hd
  have hl : (us ++ ds).length = ps.length := by rw [← r2.length]; exact F.len _ _ _ _ h
  refine wpAny_call (codeAny_mono (F.run X.A X.stack s H ⟨us, []⟩ (us ++ ds) (vs ++ dvs) Q (E σ) hr I.env0 (hb s us I.kIn hl) r2 h) fun r s' hq => ?_)
  cases r with
  | error e => exact hx pins σ H s e s' I hq
  | ok fl =>
    cases fl with
    | ret u => exact I.after hq
    | next => exact False.elim hq
    | brk => exact False.elim hq
    | cont => exact False.elim hq
def tMethS (C : Addr) (m : Str) (sp : Sp) (dvs : List V) (E : St → XK) (ta : TE) (t : TA) : TE := fun σ H Q => tMeth C m sp dvs (E σ) ta t σ H Q
theorem pe_methS {pl : Sem Bool} (he : PE X o ta) (c : Cls X.K C) (hm : Meth X.K C m f) (F : FnOk X.prog X.w X.K X.mg X.base CX k f fd ps sp) (hr : Room k X.A) (hb : Binds X.K fd ps ds) (hd : Vals dvs ds) (hx : PassesS CX X E) (ha : PA X (e :: es) t)
    (hst : starEach (e :: es) X.env = (false, eval e X.env) :: starEach es X.env := by rfl) (hpl : (backTo pos (starEach es X.env)).any (·.1) = false := by rfl)
    (ht : eval (.Call (.Attribute o m apos) (e :: es) [] pos) X.env = (do
      let ov ← eval o X.env
      standAt apos.atName
      let (f, first) ← holding [ov] (getMethod ov m pl)
      callWith pos f first (backTo pos (starEach (e :: es) X.env)) (backToKw pos (keywordEach [] X.env))) := by rfl) :
    PE X (.Call (.Attribute o m apos) (e :: es) [] pos) (tMethS C m sp dvs E ta t) := by
  intro pins s σ H Q I h
  refine PySem.W.methodCall_KW (pl := pl) (thn (he pins s σ H _ I h) fun u s1 ⟨x, H1, I1, rx, a, dx, fs, ex, ea, l, q⟩ => ?_) ht
  subst ex
  obtain rfl : u = Value.ref a := rx
  refine getmeth_ok I1 ea c hm l ?_
  refine PySem.W.callWith_K (first := [.ref a]) (h₀ := X.base) I.ok.mod.kin hm.kp (thn (ha pos pins s1 σ H1 _ I1 q) fun us s2 ⟨vs, H2, I2, r, q2⟩ => ⟨I2.kIn, ?_⟩) hst hpl
  exact run_fnS (us := .ref a :: us) (vs := .ref a :: vs) F hr hb hd hx I2 (.cons rfl r) q2
end
section
variable {X : Cx}
/-- the wish of a try's body about exceptions of the class at M, and what the suite then asks -/
def trE (K : PySem.W.Frag) (M : Addr) (i : Nat) (ts : TS) (D : Ends) : St → XK := fun σ c _ H => exmOne K c (.ref M) = some true ∧ ∀ a, H a = none →
  ts { nx := fun σ2 H2 => D.nx (σ2.set i none) H2, rt := D.rt, bk := fun σ2 H2 => D.bk (σ2.set i none) H2, ct := fun σ2 H2 => D.ct (σ2.set i none) H2 } (σ.set i (some (.ref a))) (upd H a (excO a c))
theorem ps_tryAs {i : Nat} {M : Addr} {x n : Str} {body : List Stmt} {b0 : Stmt} {suite : List Stmt} {np hpos pos : Pos} {tb : (St → XK) → TS} {ts : TS} (nd : X.N.Nodup) (hi : X.N[i]? = some n) (hl : X.env.kindOf n = some .local)
    (hst : X.stack = X.env :: X.outer) (hfr : X.env.frame = some X.env.locals) (hm : X.mg x = some (.ref M)) (hg : Gl X x)
    (hb : ∀ XE pn E, PassesS (CXR X.prog X.w) (X.tr XE pn) E → PSs (X.tr XE pn) body (tb E)) (hs : ∀ a, PSs (X.exs a) (b0 :: suite) ts) (hdb : (x == ("__debug__" : Str)) = false := by decide) :
    PS X (.Try body [.ExceptHandler (some (.Name x np)) (some n) (b0 :: suite) hpos] [] [] pos) (fun D σ H => tb (trE X.K M i ts D) D σ H) := by
  intro pins s σ H D I h
  refine wpAny_Try_except ?_
  refine wpAny_mono (hb (fun e s₁ => wpAny (model X.prog X.w) X.A (noteFrame e X.env) (fun _ s₂ => wpAny (model X.prog X.w) X.A (setFlight e none) (fun _ s₃ => wpAny (model X.prog X.w) X.A (handleBy e X.env [.ExceptHandler (some (.Name x np)) (some n) (b0 :: suite) hpos]) (SP X pins D) X.xe s₃) X.xe s₂) X.xe s₁)
    pins (trE X.K M i ts D) ?_ [] s σ H D (I.tr _) h) (fun f s1 z => ?_) fun _ _ z => z
  · intro ps σ1 H1 s1 e s' I1 hx
    have I1 := I1.untr
    obtain ⟨a, c, H', B, a0, rfl, os, bare, un, hok, na, fl, big, hx1, hx2⟩ := hx
    have fl : Heap.FlyingW B (X.env :: X.outer) a c a0 s'.heap := hst ▸ fl
    have hfm : X.A.frames = some (X.env :: X.outer) := hst ▸ I1.ok.frames
    have un : Un (frs X.stack) [] H1 H' s1.heap s'.heap := un
    have big : ∀ b o, s'.heap.get? b = some o → ((H' b).isSome = true ∨ ∃ o', s1.heap.get? b = some o') → b ∉ frs X.stack → B.get? b = some o := big
    have J0 := I1.call' (ch := []) os un hok bare (fun b z => nomatch z)
    have nf : ∀ b o, s'.heap.get? b = some o → b ∈ frs X.stack → ∀ vs, o.data ≠ .fields vs := fun b o e hb => by
      obtain ⟨o1, e1, n1⟩ := J0.nofld hb
      rw [e] at e1; cases e1
      exact n1
    refine wpAny_looks_onW hfm hfr fl fun h4 held sm4 => ?_
    refine wpAny_landsW held fun h5 fl5 sm5 => ?_
    have f5 : Flew X.stack B H' s1.heap s'.heap h5 := ⟨big, fl5.1, fun b o e hb => (sm4.trans sm5) b o e (nf b o e hb)⟩
    have J5 : Inv X pins σ1 H' { s' with heap := h5 } := I1.call' (ch := []) os (f5.un un (fun _ z => .inl z) fun _ z => z) (f5.hok hok J0.stkFree) bare (fun b z => nomatch z)
    refine wpAny_handleBy_cons (codeAny_handlers_test ?_) (by intro q; cases q)
    refine ld_glob (J5.exs a) hg hm ?_ hdb
    have LT : Looks (model X.prog X.w) h5 (typeOf (.ref a)) c := by
      obtain ⟨ob, o1, o2⟩ := fl5.there
      exact o2 ▸ (Looks.ld o1).andThen .now
    refine (exm_one J5.kIn LT hx1).here ?_
    refine codeAny_handlers_suite_as ?_
    refine lands_againW fl5 fun h6 fl6 sm6 => ?_
    have f6 := f5.on fl6.1 sm6 nf
    have un6 := f6.un un (fun _ z => .inl z) fun _ z => z
    have hok6 := f6.hok hok J0.stkFree
    obtain ⟨oe, oe1, oe2⟩ := fl6.there
    have nst : a ∉ frs X.stack := fun z => by
      obtain ⟨o1, e1, n1⟩ := I1.nofld z
      rw [na] at e1; cases e1
    have na' : H' a = none := by
      cases z : H' a with
      | none => rfl
      | some u =>
        obtain ⟨o1, e1⟩ := (hok a u z).obj
        have := big a o1 e1 (.inl (by rw [z]; rfl)) nst
        rw [fl.2.1] at this; cases this
    have un7 : Un (frs X.stack) [] H1 (upd H' a (excO a c)) s1.heap h6 := ⟨un6.keep, un6.slot, fun b o q n hx => by rw [upd_ne (fun z => by rw [z, na] at q; cases q)]; exact un6.free b o q n hx, un6.there,
      fun b xs q => by rw [upd_ne (ne_of_none (un6.tups b xs q) na')]; exact un6.tups b xs q, fun b o u q => by rw [upd_ne (ne_of_none (un6.frzs b o u q) na')]; exact un6.frzs b o u q, fun b ps q => by
        obtain ⟨more, z⟩ := un6.tbls b ps q
        exact ⟨more, by rw [upd_ne (ne_of_none z na')]; exact z⟩⟩
    have hok7 : HOk X.prog X.w (upd H' a (excO a c)) h6 := fun b u q => by
      by_cases hb : b = a
      · subst hb
        rw [upd_same] at q; cases q
        exact excO_ok ⟨oe, oe1, oe2⟩
      · rw [upd_ne hb] at q
        exact (hok6 b u q).stay (fun _ _ _ z => z) (fun d z => by rw [upd_ne (ne_of_none z na')]; exact z) fun d xs z => by rw [upd_ne (ne_of_none z na')]; exact z
    have J6 : Inv X pins σ1 (upd H' a (excO a c)) { s' with heap := h6 } := I1.call' (ch := []) os un7 hok7 bare (fun b z => nomatch z)
    refine store_ok J6 nd hi (Or.inl hl) (v := .ref a) rfl (fun s7 J7 => ?_) (.inr hl)
    refine wpAny_mono (hs a pins s7 _ _ _ (J7.exs a) (hx2 a na')) (fun f s8 z => ?_) fun _ _ z => z.elim
    cases f with
    | next =>
      obtain ⟨σ8, H8, J8, q8⟩ := z
      exact name_gone (J8.unexs J7.ok) nd hi hl fun s9 J9 => ⟨_, H8, J9, q8⟩
    | brk =>
      obtain ⟨σ8, H8, J8, q8⟩ := z
      exact name_gone (J8.unexs J7.ok) nd hi hl fun s9 J9 => ⟨_, H8, J9, q8⟩
    | cont =>
      obtain ⟨σ8, H8, J8, q8⟩ := z
      exact name_gone (J8.unexs J7.ok) nd hi hl fun s9 J9 => ⟨_, H8, J9, q8⟩
    | ret u =>
      obtain ⟨v, σ8, H8, J8, r8, q8⟩ := z
      exact name_gone (J8.unexs J7.ok) nd hi hl fun s9 J9 => ⟨v, _, H8, J9, r8, q8⟩
  · have z := z.untr
    cases f with
    | next => exact wpAny_execs_nil z
    | brk => exact z
    | cont => exact z
    | ret u => exact z
end
end L2

set_option Elab.async false
set_option linter.all false
set_option maxRecDepth 100000
set_option maxHeartbeats 4000000
namespace L2
open PySem PySem.Spec PyProof.Rows PySem.W
/-! ### a def that an exception may leave -/
theorem Fun.okR {P : Program} {w : World} {K : PySem.W.Frag} {mg : Str → Option Value} {base : Heap} {x qual : Str} {st : Stmt} {f : Addr} {fd : FuncData} {N ps : List Str} {k : Nat} {sp : Sp} (F : Fun K x qual st f fd) (S : FnScope N ps (defScope st)) (len : ∀ vs H Q E, sp vs H Q E → vs.length = ps.length)
    (hbody : ∀ (cdv : Value) (A : Around) (outer : List Env) (s : Shared) (H : Hp) (vs : List V) (Q : VK) (E : XK), Room k (A.deeper (envOfC qual (defScope st) s.heap.objs.size f cdv)) → sp vs H Q E →
      ∃ t, PSs (cxR P w K mg base N qual (defScope st) f cdv A outer s H E) (defBody st) t ∧ t { nx := fun _ H' => Q .non H', rt := Q } (start N vs) H) : FnOk P w K mg base (CXR P w) (k + 1) f fd ps sp := by
  obtain ⟨oc, od, kV, doc, pm, an, cdv, ct, osl, rfl, lk, hcd⟩ := F.ex
  exact fn_of lk hcd S len fun A outer s H vs Q E hr hsp => hbody cdv A outer s H vs Q E hr hsp
/-! ### isinstance of an exception -/
section
variable {X : Cx}
theorem exc_at {H : Hp} {h : Heap} {P : Program} {w : World} {a : Addr} {c : Value} (ok : HOk P w H h) (e : H a = some (excO a c)) : ∃ o, h.get? a = some o ∧ o.cls = c := (ok a _ e).1
theorem call_isiO : CallR X (.builtin "isinstance") (fun xs H Q => ∃ a C D b, xs = [.ref a, .ref D] ∧ H a = some (excO a (.ref C)) ∧ XCls X.K C ∧ kitOne X.K (.ref C) (.ref D) = some b ∧ Q (.bl b) H) := by
  intro pins s σ H xs us Q I r h
  obtain ⟨a, C, D, b, rfl, e, xc, k, q⟩ := h
  obtain ⟨u, u2, rfl, r1, r2⟩ := vals2 r
  cases (show u = Value.ref a from r1)
  cases (show u2 = Value.ref D from r2)
  exact kia_one (kitx_exc xc) I.kIn (exc_at I.hok e) k (by intro z; cases z) fun tk => ⟨.bl b, H, I.tok tk, rfl, q⟩
theorem call_isiT : CallR X (.builtin "isinstance") (fun xs H Q => ∃ a C T b, xs = [.ref a, .ty T] ∧ H a = some (excO a (.ref C)) ∧ XCls X.K C ∧ kitOne X.K (.ref C) (.type T) = some b ∧ Q (.bl b) H) := by
  intro pins s σ H xs us Q I r h
  obtain ⟨a, C, T, b, rfl, e, xc, k, q⟩ := h
  obtain ⟨u, u2, rfl, r1, r2⟩ := vals2 r
  cases (show u = Value.ref a from r1)
  cases (show u2 = Value.type T from r2)
  exact kia_one (kitx_exc xc) I.kIn (exc_at I.hok e) k (by intro z; cases z) fun tk => ⟨.bl b, H, I.tok tk, rfl, q⟩
end
/-! ### dicts that are alike -/
section
variable {X : Cx}
end
end L2

set_option Elab.async false
set_option linter.all false
set_option maxRecDepth 100000
set_option maxHeartbeats 4000000
namespace L2
open PySem PySem.Spec PyProof.Rows
/-! ### sorting by a pure comparison -/
def kRun {α : Type} (n : Nat) (f : Nat → Nat → Bool) : PySem.W.KasT α → Option α
  | .ret a => some a
  | .ask i j k => if (decide (i < n) && decide (j < n) && decide (i ≠ j)) = true then kRun n f (k (f i j)) else none
theorem kRun_wp {α : Type} {n : Nat} {f : Nat → Nat → Bool} {cmp : Nat → Nat → (Bool → Shared → Prop) → Shared → Prop} {s : Shared} (hc : ∀ i j C, i < n → j < n → i ≠ j → C (f i j) s → cmp i j C s) :
    ∀ (t : PySem.W.KasT α) {a : α}, kRun n f t = some a → ∀ {Q : α → Shared → Prop}, Q a s → t.kasWp cmp Q s
  | .ret b, a, e, Q, q => by
    cases e
    exact q
  | .ask i j k, a, e, Q, q => by
    unfold kRun at e
    split at e
    · rename_i h
      simp only [Bool.and_eq_true, decide_eq_true_eq] at h
      exact hc i j _ h.1.1 h.1.2 h.2 (kRun_wp hc (k (f i j)) e q)
    · cases e
theorem kRun_congr {α : Type} {n : Nat} {f g : Nat → Nat → Bool} (h : ∀ i j, i < n → j < n → i ≠ j → f i j = g i j) : ∀ t : PySem.W.KasT α, kRun n f t = kRun n g t
  | .ret b => rfl
  | .ask i j k => by
    unfold kRun
    split
    · rename_i q
      simp only [Bool.and_eq_true, decide_eq_true_eq] at q
      rw [h i j q.1.1 q.1.2 q.2]
      exact kRun_congr h _
    · rfl
def fb (a b c d e g : Bool) (i j : Nat) : Bool :=
  match i, j with
  | 0, 1 => a
  | 1, 0 => !a
  | 0, 2 => b
  | 2, 0 => !b
  | 0, 3 => c
  | 3, 0 => !c
  | 1, 2 => d
  | 2, 1 => !d
  | 1, 3 => e
  | 3, 1 => !e
  | 2, 3 => g
  | 3, 2 => !g
  | _, _ => false
def adj (f : Nat → Nat → Bool) : List Nat → Bool
  | [] => true
  | [_] => true
  | x :: y :: r => f x y && adj f (y :: r)
def okS (n : Nat) (f : Nat → Nat → Bool) : Bool :=
  match kRun n f (PySem.W.kas_sort n) with
  | none => false
  | some p => p.toList.isPerm (List.range n) && adj f p.toList
def trB (n : Nat) (f : Nat → Nat → Bool) : Bool :=
  (List.range n).all fun i => (List.range n).all fun j => (List.range n).all fun k => !(f i j && f j k && decide (i ≠ k)) || f i k
theorem sort2 : ∀ a b c d e g : Bool, okS 2 (fb a b c d e g) = true := by decide +kernel
theorem sort3 : ∀ a b c d e g : Bool, trB 3 (fb a b c d e g) = true → okS 3 (fb a b c d e g) = true := by decide +kernel
theorem sort4 : ∀ a b c d e g : Bool, trB 4 (fb a b c d e g) = true → okS 4 (fb a b c d e g) = true := by decide +kernel
theorem fb_self {a b c d e g : Bool} (i : Nat) : fb a b c d e g i i = false := by
  match i with
  | 0 => rfl
  | 1 => rfl
  | 2 => rfl
  | 3 => rfl
  | n + 4 => rfl
theorem lt4 {i n : Nat} (h : i < n) (hn : n ≤ 4) : i = 0 ∨ i = 1 ∨ i = 2 ∨ i = 3 := by omega
theorem adj_congr {n : Nat} {f g : Nat → Nat → Bool} (h : ∀ i j, i < n → j < n → i ≠ j → f i j = g i j) : ∀ l : List Nat, (∀ x ∈ l, x < n) → l.Nodup → adj g l = true → adj f l = true
  | [], _, _, _ => rfl
  | [_], _, _, _ => rfl
  | x :: y :: r, hm, hd, e => by
    unfold adj at e ⊢
    rw [Bool.and_eq_true] at e ⊢
    have hd' := List.nodup_cons.mp hd
    refine ⟨?_, adj_congr h (y :: r) (fun z hz => hm z (List.mem_cons_of_mem _ hz)) hd'.2 e.2⟩
    rw [h x y (hm x List.mem_cons_self) (hm y (List.mem_cons_of_mem _ List.mem_cons_self)) fun q => hd'.1 (q ▸ List.mem_cons_self)]
    exact e.1
theorem sortP {n : Nat} (h2 : 2 ≤ n) (h4 : n ≤ 4) {f : Nat → Nat → Bool} (anti : ∀ i j, i < n → j < n → i ≠ j → f i j = !f j i) (tr : ∀ i j k, i < n → j < n → k < n → f i j = true → f j k = true → f i k = true) :
    ∃ p : Array Nat, kRun n f (PySem.W.kas_sort n) = some p ∧ p.toList.Perm (List.range n) ∧ adj f p.toList = true := by
  have fg : ∀ i j, i < n → j < n → i ≠ j → f i j = fb (f 0 1) (f 0 2) (f 0 3) (f 1 2) (f 1 3) (f 2 3) i j := by
    intro i j hi hj hne
    rcases lt4 hi h4 with rfl | rfl | rfl | rfl <;> rcases lt4 hj h4 with rfl | rfl | rfl | rfl <;> first | exact absurd rfl hne | rfl | exact anti _ _ hi hj hne
  have tg : trB n (fb (f 0 1) (f 0 2) (f 0 3) (f 1 2) (f 1 3) (f 2 3)) = true := by
    unfold trB
    rw [List.all_eq_true]
    intro i hi
    rw [List.all_eq_true]
    intro j hj
    rw [List.all_eq_true]
    intro k hk
    have hi := List.mem_range.mp hi
    have hj := List.mem_range.mp hj
    have hk := List.mem_range.mp hk
    by_cases hij : i = j
    · subst hij
      rw [fb_self]
      rfl
    by_cases hjk : j = k
    · subst hjk
      rw [fb_self, Bool.and_false, Bool.false_and]
      rfl
    by_cases hik : i = k
    · subst hik
      rw [decide_eq_false (fun z => z rfl), Bool.and_false]
      rfl
    rw [← fg i j hi hj hij, ← fg j k hj hk hjk, ← fg i k hi hk hik]
    cases e1 : f i j with
    | false => rfl
    | true =>
      cases e2 : f j k with
      | false => rfl
      | true =>
        rw [tr i j k hi hj hk e1 e2, Bool.or_true]
  have ok : okS n (fb (f 0 1) (f 0 2) (f 0 3) (f 1 2) (f 1 3) (f 2 3)) = true := by
    have h3 : n = 2 ∨ n = 3 ∨ n = 4 := by omega
    rcases h3 with rfl | rfl | rfl
    · exact sort2 _ _ _ _ _ _
    · exact sort3 _ _ _ _ _ _ tg
    · exact sort4 _ _ _ _ _ _ tg
  unfold okS at ok
  rw [← kRun_congr fg] at ok
  cases e : kRun n f (PySem.W.kas_sort n) with
  | none => rw [e] at ok; cases ok
  | some p =>
    rw [e] at ok
    have ok : (p.toList.isPerm (List.range n) && adj (fb (f 0 1) (f 0 2) (f 0 3) (f 1 2) (f 1 3) (f 2 3)) p.toList) = true := ok
    rw [Bool.and_eq_true] at ok
    have hp := List.isPerm_iff.mp ok.1
    exact ⟨p, rfl, hp, adj_congr fg _ (fun x hx => List.mem_range.mp (hp.mem_iff.mp hx)) (hp.nodup_iff.mpr List.nodup_range) ok.2⟩
/-! ### tuples of ints in their order -/
theorem lexLt_anti : ∀ x y : List Int, x ≠ y → HT.lexLt x y = !HT.lexLt y x
  | [], [], h => absurd rfl h
  | [], _ :: _, _ => rfl
  | _ :: _, [], _ => rfl
  | a :: x, b :: y, h => by
    rw [HT.lexLt_cons, HT.lexLt_cons]
    by_cases e : a = b
    · subst e
      rw [if_pos rfl, if_pos rfl]
      exact lexLt_anti x y fun q => h (by rw [q])
    · rw [if_neg e, if_neg (fun q => e q.symm)]
      by_cases l : a < b
      · rw [decide_eq_true l, decide_eq_false (by omega)]
        rfl
      · rw [decide_eq_false l, decide_eq_true (by omega)]
        rfl
theorem lexLt_trans : ∀ x y z : List Int, HT.lexLt x y = true → HT.lexLt y z = true → HT.lexLt x z = true
  | [], [], _, h, _ => by cases h
  | [], _ :: _, [], _, h => by cases h
  | [], _ :: _, _ :: _, _, _ => rfl
  | _ :: _, [], _, h, _ => by cases h
  | _ :: _, _ :: _, [], _, h => by cases h
  | a :: x, b :: y, c :: z, h1, h2 => by
    rw [HT.lexLt_cons] at h1 h2 ⊢
    by_cases e1 : a = b
    · subst e1
      rw [if_pos rfl] at h1
      by_cases e2 : a = c
      · subst e2
        rw [if_pos rfl] at h2 ⊢
        exact lexLt_trans x y z h1 h2
      · rw [if_neg e2] at h2 ⊢
        exact h2
    · rw [if_neg e1] at h1
      have l1 := of_decide_eq_true h1
      by_cases e2 : b = c
      · subst e2
        rw [if_neg e1]
        exact h1
      · rw [if_neg e2] at h2
        have l2 := of_decide_eq_true h2
        rw [if_neg (by omega)]
        exact decide_eq_true (by omega)
end L2

set_option Elab.async false
set_option linter.all false
set_option maxRecDepth 100000
set_option maxHeartbeats 4000000
namespace L2
open PySem PySem.Spec PyProof.Rows
section
variable {prog : Program} {w : World} {A : Around} {E : Value → Shared → Prop} {s : Shared}
theorem katLex_ints {b : Bool} {Q : Bool → Shared → Prop} {xs : List Value} {is : List Int} (hx : IntsAre xs is) : ∀ {ys : List Value} {js : List Int} (i : Nat), IntsAre ys js → Q (HT.lexLt is js) s →
    PySem.W.KatLex prog w A b (decide (is.length < js.length)) Q (xs.zip ys) i s := by
  induction hx with
  | nil =>
    intro ys js i hy q
    cases hy with
    | nil => exact PySem.W.kat_nil q
    | cons c u hy =>
      refine PySem.W.kat_nil (show Q (decide _) s from ?_)
      rw [decide_eq_true (by rw [List.length_nil, List.length_cons]; exact Nat.succ_pos _)]
      exact q
  | cons a t hx ih =>
    intro ys js i hy q
    cases hy with
    | nil =>
      refine PySem.W.kat_nil (show Q (decide _) s from ?_)
      rw [decide_eq_false (by rw [List.length_nil]; exact Nat.not_lt_zero _)]
      exact q
    | cons c u hy =>
      rename_i xs is ys js
      rw [HT.lexLt_cons] at q
      refine PySem.W.kat_cons (wpAny_eqBool_int (PySem.W.kat_go (fun e => PySem.W.kat_yes ?_) fun e => PySem.W.kat_no ?_))
      · have e := eq_of_beq e
        rw [if_pos e] at q
        have z : decide ((a :: is).length < (c :: js).length) = decide (is.length < js.length) := by
          rw [List.length_cons, List.length_cons]
          exact decide_eq_decide.mpr Nat.succ_lt_succ_iff
        rw [z]
        exact ih (i + 1) hy q
      · have e : a ≠ c := fun z => by
          rw [z, beq_self_eq_true] at e
          cases e
        rw [if_neg e] at q
        cases hb : (b && i == 0) with
        | true => exact oneLt_int q
        | false => exact PySem.W.kat_one _ _ (HT.rcLt_int _ _ _ _ _ _ _ _ _ _ q)
/-- a tuple of ints in the heap, not empty -/
def TupI (h : Heap) (v : Value) (is : List Int) : Prop := ∃ a o xs n, v = .ref a ∧ h.get? a = some o ∧ o.cls = .type "tuple" ∧ o.data = .seq xs n ∧ IntsAre xs.toList is ∧ is ≠ []
theorem keyLt_tups {b : Bool} {Q : Bool → Shared → Prop} {x y : Value} {is js : List Int} (hx : TupI s.heap x is) (hy : TupI s.heap y js) (q : Q (HT.lexLt is js) s) : wpAny (model prog w) A (keyLt' (tuples' b) x y) Q E s := by
  obtain ⟨ax, ox, xs, n, rfl, x1, x2, x3, x4, _⟩ := hx
  obtain ⟨ay, oy, ys, k, rfl, y1, y2, y3, y4, _⟩ := hy
  refine PySem.W.kat_lt x1 x3 y1 y3 ?_
  have e1 := x4.length
  have e2 := y4.length
  have z : decide (xs.size < ys.size) = decide (is.length < js.length) := by
    rw [← e1, ← e2, Array.length_toList, Array.length_toList]
  rw [z]
  exact katLex_ints x4 0 y4 q
end
end L2

set_option Elab.async false
set_option linter.all false
set_option maxRecDepth 100000
set_option maxHeartbeats 4000000
namespace L2
open PySem PySem.Spec PyProof.Rows
section
variable {prog : Program} {w : World} {A : Around} {E : Value → Shared → Prop} {s : Shared}
theorem TupI.keep {h h' : Heap} {v : Value} {is : List Int} (t : TupI h v is) (k : ∀ b o, h.get? b = some o → o.cls = .type "tuple" → h'.get? b = some o) : TupI h' v is := by
  obtain ⟨a, o, xs, n, e, h1, h2, h3, h4⟩ := t
  exact ⟨a, o, xs, n, e, k a o h1 h2, h2, h3, h4⟩
theorem tups_first {h : Heap} : ∀ {vs : List Value} {ks : List (List Int)}, Paired (TupI h) vs ks → ∃ fs : List Value, PySem.W.KatTups h vs fs ∧ fs.length = vs.length ∧ ∀ v ∈ fs, ∃ (i : Int) (t : Tok), v = .int i t := by
  intro vs ks p
  induction p with
  | nil => exact ⟨[], trivial, rfl, fun _ h => nomatch h⟩
  | cons x p ih =>
    obtain ⟨fs, h1, h2, h3⟩ := ih
    obtain ⟨a, o, xs, n, rfl, x1, x2, x3, x4, x5⟩ := x
    cases hl : xs.toList with
    | nil =>
      rw [hl] at x4
      cases x4
      exact absurd rfl x5
    | cons f r =>
      rw [hl] at x4
      cases x4 with
      | cons i t z =>
        refine ⟨.int i t :: fs, PySem.W.KatTups.cons x1 x2 x3 (by rw [← Array.getElem?_toList, hl]; rfl) h1, by rw [List.length_cons, List.length_cons, h2], fun v hv => ?_⟩
        rcases List.mem_cons.mp hv with rfl | hv
        · exact ⟨i, t, rfl⟩
        · exact h3 v hv
theorem paired_at {α β : Type} {R : α → β → Prop} : ∀ {xs : List α} {ys : List β}, Paired R xs ys → ∀ i, i < xs.length → ∀ (d : α) (e : β), R (xs.getD i d) (ys.getD i e) := by
  intro xs ys p
  induction p with
  | nil => exact fun i h => absurd h (Nat.not_lt_zero _)
  | cons x p ih =>
    intro i hi d e
    cases i with
    | zero => exact x
    | succ i => exact ih i (Nat.lt_of_succ_lt_succ hi) d e
end
end L2

set_option Elab.async false
set_option linter.all false
set_option maxRecDepth 100000
set_option maxHeartbeats 4000000
namespace L2
open PySem PySem.Spec PyProof.Rows
section
variable {prog : Program} {w : World} {A : Around} {E : Value → Shared → Prop} {s : Shared}
theorem getD_range {vs : List Value} : (List.range vs.length).map (fun i => vs.getD i Value.none) = vs := by
  apply List.ext_getElem
  · rw [List.length_map, List.length_range]
  · intro i h1 h2
    rw [List.getElem_map, List.getElem_range, List.getD_eq_getElem?_getD, List.getElem?_eq_getElem h2]
    rfl
theorem paired_lenT {α β : Type} {R : α → β → Prop} {xs : List α} {ys : List β} (p : Paired R xs ys) : xs.length = ys.length := by
  induction p with
  | nil => rfl
  | cons _ _ ih => rw [List.length_cons, List.length_cons, ih]
def fK (ks : List (List Int)) (i j : Nat) : Bool := HT.lexLt (ks.getD i []) (ks.getD j [])
theorem nodup_ne {ks : List (List Int)} (nd : ks.Nodup) {i j : Nat} (hi : i < ks.length) (hj : j < ks.length) (h : i ≠ j) : ks.getD i [] ≠ ks.getD j [] := by
  rw [List.getD_eq_getElem?_getD, List.getD_eq_getElem?_getD, List.getElem?_eq_getElem hi, List.getElem?_eq_getElem hj]
  exact fun z => h ((List.getElem_inj nd).mp z)
theorem list_sortT {a : Addr} {vs : List Value} {ks : List (List Int)} {n : Nat} {P : PySem.Fin → Shared → Prop} (ho : s.heap.get? a = some (seqObj "list" vs.toArray n)) (hk : Paired (TupI s.heap) vs ks) (h4 : vs.length ≤ 4) (nd : ks.Nodup)
    (h : ∀ p : List Nat, p.Perm (List.range vs.length) → adj (fK ks) p = true → P (.done (.ret .none)) { s with heap := sortedHeap s.heap a vs (p.map fun i => vs.getD i Value.none).toArray }) :
    wpAny (model prog w) A (Builtin.«list.sort» ⟨[.ref a], []⟩) P E s := by
  have hla : a < s.heap.objs.size := Heap.lt_size ho
  have hkl : vs.length = ks.length := paired_lenT hk
  rw [list_sort_plain]
  obtain ⟨ep, hz1⟩ : ∃ ep, (s.heap.update a (Obj.mapSeq fun _ => (#[] : Array Value))).get? a = some (seqObj "list" #[] ep) := ⟨_, get?_update_seq ho (fun _ => #[])⟩
  refine wpAny_bind (listItems_at ho rfl ?_); refine wpAny_bind (listUpdate_at ho rfl ?_)
  refine wpAny_bind (seqEpoch_at hz1 rfl ?_); refine wpAny_bind (wpAny_newTuple ?_); refine wpAny_bind (wpAny_newList ?_)
  refine wpAny_holding ?_
  have hz6 : (((s.heap.update a (Obj.mapSeq fun _ => (#[] : Array Value))).push (seqObj "tuple" vs.toArray 0)).push (seqObj "list" #[] 0)).get? a = some (seqObj "list" #[] ep) :=
    Heap.get?_push_of_some _ (Heap.get?_push_of_some _ hz1)
  have kp : ∀ b o, s.heap.get? b = some o → o.cls = .type "tuple" → (((s.heap.update a (Obj.mapSeq fun _ => (#[] : Array Value))).push (seqObj "tuple" vs.toArray 0)).push (seqObj "list" #[] 0)).get? b = some o := fun b o e c => by
    have hb : b ≠ a := fun z => by
      rw [z, ho] at e
      cases e
      exact absurd (show Value.type "list" = Value.type "tuple" from c) (by decide)
    refine Heap.get?_push_of_some _ (Heap.get?_push_of_some _ ?_)
    rw [Heap.get?_update_ne _ _ _ _ hb]
    exact e
  have hk6 : Paired (TupI (((s.heap.update a (Obj.mapSeq fun _ => (#[] : Array Value))).push (seqObj "tuple" vs.toArray 0)).push (seqObj "list" #[] 0))) vs ks := paired_mapP hk fun _ _ t => t.keep kp
  have e7 : ∀ out : Array Value, sortedHeap s.heap a vs out = (((s.heap.update a (Obj.mapSeq fun _ => (#[] : Array Value))).push (seqObj "tuple" vs.toArray 0)).push (seqObj "list" #[] 0)).update a (Obj.mapSeq fun _ => out) := fun _ => rfl
  show wpAny (model prog w) A _ P E { s with heap := (((s.heap.update a (Obj.mapSeq fun _ => (#[] : Array Value))).push (seqObj "tuple" vs.toArray 0)).push (seqObj "list" #[] 0)) }
  simp only [e7] at h
  generalize ((s.heap.update a (Obj.mapSeq fun _ => (#[] : Array Value))).push (seqObj "tuple" vs.toArray 0)).push (seqObj "list" #[] 0) = h6 at hz6 hk6 h ⊢
  dsimp only
  by_cases h2 : vs.toArray.size < 2
  · have h2' : vs.length < 2 := h2
    rw [if_pos h2, if_pos h2]
    refine wpAny_bind (wpAny_pure ?_); rw [StateT.run_pure]
    refine wpAny_bind (wpAny_pure ?_); dsimp only
    have eo : (arrOf (SortSt.mk' general' (vs.toArray.zip vs.toArray) #[] 7 none)).map (·.2) = vs.toArray := by
      show (vs.toArray.zip vs.toArray).map (·.2) = vs.toArray
      apply Array.toList_inj.mp
      rw [Array.toList_map, Array.toList_zip]
      exact List.map_snd_zip (Nat.le_refl _)
    rw [eo]
    refine wpAny_bind (seqEpoch_at hz6 rfl ?_); refine wpAny_bind (listUpdate_at hz6 rfl ?_ (hsz2 := by show vs.length ≤ _; rw [sizeLine_eq]; omega))
    simp only [bne_self_eq_false, if_false, Bool.false_eq_true]
    have q := h (List.range vs.length) (List.Perm.refl _) (by
      have : vs.length = 0 ∨ vs.length = 1 := by omega
      rcases this with z | z <;> rw [z] <;> rfl)
    rw [getD_range] at q
    exact wpAny_pure q
  · have h2' : 2 ≤ vs.length := Nat.le_of_not_lt h2
    rw [if_neg h2, if_neg h2]
    obtain ⟨fs, t1, t2, t3⟩ := tups_first hk6
    refine wpAny_bind (PySem.W.kat_kind (T := .type "int") t1 (by omega) (fun v hv => ?_) rfl ?_)
    · obtain ⟨i, t, rfl⟩ := t3 v hv
      exact .of_pure rfl
    obtain ⟨p, hr, hp, ha'⟩ := sortP h2' h4 (f := fK ks) (fun i j hi hj hne => lexLt_anti _ _ (nodup_ne nd (hkl ▸ hi) (hkl ▸ hj) hne)) (fun i j k _ _ _ => lexLt_trans _ _ _)
    have psz : p.size = vs.length := by
      have := hp.length_eq
      rw [List.length_range, Array.length_toList] at this
      exact this
    have run : (PySem.W.kas_sort vs.length).kasWp (PySem.W.kas_ask prog w A (tuples' (Value.type "int" != Value.type "tuple")) vs) (fun p' s' => p' = p ∧ s' = { s with heap := h6 }) { s with heap := h6 } :=
      kRun_wp (n := vs.length) (f := fK ks) (fun i j C hi hj _ c => keyLt_tups (paired_at hk6 i hi _ _) (paired_at hk6 j hj _ _) c) _ hr ⟨rfl, rfl⟩
    refine wpAny_bind (wpAny_mono (PySem.W.kat_run (Q := fun st' s' => arrOf st' = p.map (PySem.W.kas_item (vs.toArray.zip vs.toArray)) ∧ failedOf st' = none ∧ s' = { s with heap := h6 }) (G := fun p' s' => p' = p ∧ s' = { s with heap := h6 }) rfl h2' (by omega)
      (fun p' st' s' a1 a2 a3 a4 => ⟨a4.1 ▸ a2, a3, a4.2⟩) run) ?_ fun _ _ e => e)
    rintro ⟨⟨⟩, st'⟩ s' ⟨har, hf, rfl⟩
    dsimp only
    rw [PySem.W.kat_snds rfl har]
    refine wpAny_bind (seqEpoch_at hz6 rfl ?_); refine wpAny_bind (listUpdate_at hz6 rfl ?_ (hsz2 := by show (p.toList.map _).length ≤ _; rw [List.length_map, Array.length_toList, psz, sizeLine_eq]; omega))
    rw [hf]; simp only [bne_self_eq_false, if_false, Bool.false_eq_true]
    exact wpAny_pure (h p.toList hp ha')
end
end L2

set_option Elab.async false
set_option linter.all false
set_option maxRecDepth 100000
set_option maxHeartbeats 4000000
namespace L2
open PySem PySem.Spec PyProof.Rows
section
variable {prog : Program} {w : World} {A : Around} {E : Value → Shared → Prop} {s : Shared}
/-- sorted of what collects to tuples of ints, each once, four at most -/
theorem sorted_collectsT {r : Addr} {Q : Value → Shared → Prop} (hcol : wpAny (model prog w) A.in1 (collect (.ref r)) (fun us s' => ∃ (ks : List (List Int)) (h' : Heap) (tk : Nat), s' = { s with heap := h', toks := tk } ∧ Paired (TupI h') us ks ∧ us.length ≤ 4 ∧ ks.Nodup ∧
      ∀ (h2 : Heap) (p : List Nat) (e : Nat), (∀ b o, h'.get? b = some o → h2.get? b = some o) → h2.get? h'.objs.size = some (seqObj "list" (p.map fun i => us.getD i Value.none).toArray e) → p.Perm (List.range us.length) → adj (fK ks) p = true → Q (.ref h'.objs.size) { s with heap := h2, toks := tk }) E s) :
    wpAny (model prog w) A (call (.builtin "sorted") [.ref r]) Q E s := by
  refine Calls.call_function_entry kind_sorted plain_sorted entry_sorted (args_sorted1 (.ref r)) ?_
  unfold Builtin.«sorted»
  refine wpAny_bind (m := checkCount "sorted" 1 1 _) (wpAny_pure (wpAny_bind (wpAny_mono hcol (fun us s' z => ?_) fun _ _ e => e)))
  obtain ⟨ks, h', tk, rfl, hT, h4, nd, fin⟩ := z
  refine wpAny_bind (wpAny_newList ?_ (by rw [sizeLine_eq]; omega))
  have hoL : (h'.push (seqObj "list" us.toArray 0)).get? h'.objs.size = some (seqObj "list" us.toArray 0) := Heap.get?_push_size _ rfl
  show wpAny _ _ _ _ _ { s with heap := h'.push (seqObj "list" us.toArray 0), toks := tk }
  have hT' : Paired (TupI (h'.push (seqObj "list" us.toArray 0))) us ks := paired_mapP hT fun _ _ t => t.keep fun b o e _ => Heap.get?_push_of_some _ e
  refine wpAny_bind (wpAny_holding (wpAny_call_entry slot_list_sort ⟨_, hoL, rfl⟩ entry_list_sort (list_sortT hoL hT' h4 nd fun p a1 a2 => ⟨_, rfl, ?_⟩) (args_list_sort _)))
  obtain ⟨e, he⟩ := sortedHeap_at (vs := us) (out := (p.map fun i => us.getD i Value.none).toArray) hoL
  refine wpAny_pure ⟨_, rfl, fin _ p e (fun b o q => ?_) he a1 a2⟩
  have hb := Heap.lt_size q
  rw [sortedHeap_old (Nat.ne_of_lt hb) (by rw [Heap.size_push]; exact Nat.lt_succ_of_lt hb)]
  exact Heap.get?_push_of_some _ q
end
/-! ### what comes out -/
def adjT : List (List Int) → Bool
  | [] => true
  | [_] => true
  | x :: y :: r => HT.lexLt x y && adjT (y :: r)
theorem adj_map {ks : List (List Int)} : ∀ p : List Nat, adjT (p.map fun i => ks.getD i []) = adj (fK ks) p
  | [] => rfl
  | [_] => rfl
  | x :: y :: r => by
    show (HT.lexLt _ _ && adjT ((y :: r).map fun i => ks.getD i [])) = (fK ks x y && adj (fK ks) (y :: r))
    rw [adj_map (y :: r)]
    rfl
theorem getD_rangeK {α : Type} {d : α} {ks : List α} : (List.range ks.length).map (fun i => ks.getD i d) = ks := by
  apply List.ext_getElem
  · rw [List.length_map, List.length_range]
  · intro i h1 h2
    rw [List.getElem_map, List.getElem_range, List.getD_eq_getElem?_getD, List.getElem?_eq_getElem h2]
    rfl
theorem perm_getD {α : Type} {d : α} {ks : List α} {p : List Nat} (hp : p.Perm (List.range ks.length)) : (p.map fun i => ks.getD i d).Perm ks := by
  have h := hp.map fun i => ks.getD i d
  rw [getD_rangeK] at h
  exact h
theorem paired_pick {α β : Type} {R : α → β → Prop} {xs : List α} {ys : List β} (h : Paired R xs ys) (d : α) (e : β) : ∀ p : List Nat, (∀ i ∈ p, i < xs.length) → Paired R (p.map fun i => xs.getD i d) (p.map fun i => ys.getD i e)
  | [], _ => .nil
  | i :: p, hi => .cons (paired_at h i (hi i List.mem_cons_self) d e) (paired_pick h d e p fun j hj => hi j (List.mem_cons_of_mem _ hj))
theorem paired_join {α β γ : Type} {R : α → β → Prop} {S : α → γ → Prop} {T : β → γ → Prop} (h : ∀ x y z, R x y → S x z → T y z) : ∀ {xs : List α} {ys : List β} {zs : List γ}, Paired R xs ys → Paired S xs zs → Paired T ys zs := by
  intro xs ys zs p
  induction p generalizing zs with
  | nil =>
    intro q
    cases q
    exact .nil
  | cons x p ih =>
    intro q
    cases q with
    | cons y q => exact .cons (h _ _ _ x y) (ih q)
/-- values that are tuples of ints, not empty -/
def TupsAt (K : PySem.W.Frag) (H : Hp) (ys : List V) (ks : List (List Int)) : Prop := Paired (fun (y : V) (k : List Int) => ∃ t, y = .ref t ∧ SqT K H t (k.map V.int) ∧ k ≠ []) ys ks
section
variable {X : Cx}
theorem Inv.tups {pins : List (Addr × Obj)} {σ : St} {H : Hp} {s : Shared} (I : Inv X pins σ H s) {ys : List V} {ks : List (List Int)} {its : List Value} (h : TupsAt X.K H ys ks) (r : Vals ys its) : Paired (TupI s.heap) its ks :=
  paired_join (R := RelV) (fun y v k rv z => by
    obtain ⟨t, rfl, hs, hk⟩ := z
    cases rv
    obtain ⟨is, r1, p1, _⟩ := I.tuple hs
    obtain ⟨o, e1, c1, n, d1⟩ := p1
    exact ⟨t, o, is.toArray, n, rfl, e1, c1, d1, intsAre_of r1, hk⟩) r h
/-- sorted of a list of tuples of ints, each once, four at most -/
theorem call_sortedT : CallR X (.builtin "sorted") (fun xs H Q => ∃ q ys ks, xs = [.ref q] ∧ SqL X.K H q ys ∧ TupsAt X.K H ys ks ∧ ys.length ≤ 4 ∧ ks.Nodup ∧ ∀ ys' ks', TupsAt X.K H ys' ks' → ks'.Perm ks → adjT ks' = true → New H (.lst ys') Q) := by
  intro pins s σ H xs us Q I r h
  obtain ⟨q, ys, ks, rfl, hq, ht, h4, nd, fin⟩ := h
  obtain ⟨u, rfl, ru⟩ := vals1 r
  cases ru
  obtain ⟨its, rv, hl, hz⟩ := I.list hq
  have hlen := paired_lenT rv
  have hlk := paired_lenT ht
  have tp := I.tups ht rv
  have kp : ∀ b o, s.heap.get? b = some o → ((s.heap.push (seqObj "list" #[] 0)).update s.heap.objs.size (Obj.mapSeq (· ++ its.toArray))).get? b = some o := fun b o e => by
    rw [Heap.get?_update_ne _ _ _ _ (Nat.ne_of_lt (Heap.lt_size e))]
    exact Heap.get?_push_of_some _ e
  refine sorted_collectsT (collect_list hl.isList ?_ (smallL (by omega)))
  generalize (s.heap.push (seqObj "list" #[] 0)).update s.heap.objs.size (Obj.mapSeq (· ++ its.toArray)) = h' at kp ⊢
  have I' : Inv X pins σ H { s with heap := h', toks := s.toks } := I.kept kp
  refine ⟨ks, h', s.toks, rfl, paired_mapP tp fun _ _ t => t.keep fun b o e _ => kp b o e, by omega, nd, fun h2 p e k2 he hp ha => ?_⟩
  have hm : ∀ i ∈ p, i < ys.length := fun i hi => by
    have := List.mem_range.mp (hp.mem_iff.mp hi)
    omega
  have hpl := hp.length_eq
  rw [List.length_range] at hpl
  refine ⟨.ref h'.objs.size, _, I'.laid (s := { s with heap := h', toks := s.toks }) (t' := s.toks) (o := .lst (p.map fun i => ys.getD i .non)) k2 (Nat.le_refl _) ⟨by rw [List.length_map]; exact smallL (by omega), _, e, paired_pick rv _ _ p hm, he⟩, rfl, ?_⟩
  exact (fin _ (p.map fun i => ks.getD i []) (paired_pick ht _ _ p hm) (perm_getD (by rw [← hlk, hlen]; exact hp)) (by rw [adj_map]; exact ha)).at _ (I'.hok.fresh (Nat.le_refl _))
end
end L2

set_option Elab.async false
set_option linter.all false
set_option maxRecDepth 100000
set_option maxHeartbeats 4000000
namespace HT
open PySem PyProof.Rows
section
open PySem.SeqAt
open PySem.AutoSeq1 (wpAny_loadPart')
open PySem.MeetsSeq PySem.MeetsSeq2 PySem.MeetsSeq3
theorem drop_head {α : Type} {xs : Array α} {i : Nat} {x : α} {r : List α} (h : xs.toList.drop i = x :: r) : xs[i]? = some x ∧ xs.toList.drop (i + 1) = r := by
  have h1 : (xs.toList.drop i)[0]? = some x := by rw [h]; rfl
  rw [List.getElem?_drop, Nat.add_zero, Array.getElem?_toList] at h1
  refine ⟨h1, ?_⟩
  rw [← List.drop_drop, h]
  rfl
theorem drop_none {α : Type} {xs : Array α} {i : Nat} (h : xs.toList.drop i = []) : xs[i]? = none ∧ xs.size ≤ i := by
  have h1 := List.drop_eq_nil_iff.mp h
  rw [Array.length_toList] at h1
  exact ⟨Array.getElem?_eq_none h1, h1⟩
theorem drop_lt {α : Type} {xs : Array α} {i : Nat} {x : α} {r : List α} (h : xs.toList.drop i = x :: r) : i < xs.size := by
  have h1 := congrArg List.length h
  rw [List.length_drop, Array.length_toList, List.length_cons] at h1
  omega
theorem ge_loopI (l b : Addr) (items items2 : Array Value) (n n2 : Nat) (dd dd2 : Option Addr) (sl sl2 : Array (Option Value)) (k : Nat) : ∀ (i : Nat) (vs ws : List Value) (ns ms : List Int), items.toList.drop i = vs → items2.toList.drop i = ws → IntsAre vs ns → IntsAre ws ms → i ≤ items.size → i ≤ items2.size → ns.length = k →
    Meets (Builtin.«list.__eq__.loop» ⟨[.ref l, .ref b, rawInt i, rawInt 5], []⟩) (fun A R s => s.heap.get? l = some { cls := .type "list", dict := dd, data := .seq items n, slots := sl } ∧ s.heap.get? b = some { cls := .type "list", dict := dd2, data := .seq items2 n2, slots := sl2 } ∧
      R (.ok (.ret (.bool (!lexLt ns ms)))) s) := by
  have stop : ∀ (i : Nat) (v : Bool), (items[i]? = none ∨ items2[i]? = none) → v = decide (items2.size ≤ items.size) → Meets (Builtin.«list.__eq__.loop» ⟨[.ref l, .ref b, rawInt i, rawInt 5], []⟩) (fun A R s => s.heap.get? l = some { cls := .type "list", dict := dd, data := .seq items n, slots := sl } ∧ s.heap.get? b = some { cls := .type "list", dict := dd2, data := .seq items2 n2, slots := sl2 } ∧ R (.ok (.ret (.bool v))) s) := by
    intro i v hn hv prog w A R s h
    obtain ⟨hp, g, d, tk, os⟩ := s
    obtain ⟨hl, hb, h⟩ := h
    wp_walk using wpAny_loadPart' hl, wpAny_loadPart' hb
    have e : ((i : Nat) : Int).toNat = i := Int.toNat_natCast i
    rw [e]
    rw [hv] at h
    rcases hn with hn | hn
    · rw [hn]
      wp_walk using wpAny_loadPart' hl, wpAny_loadPart' hb
      exact h
    · rw [hn]
      cases items[i]? with
      | none =>
        wp_walk using wpAny_loadPart' hl, wpAny_loadPart' hb
        exact h
      | some x =>
        wp_walk using wpAny_loadPart' hl, wpAny_loadPart' hb
        exact h
  induction k with
  | zero =>
    intro i vs ws ns ms e1 e2 h1 h2 l1 l2 hk
    cases h1 with
    | cons a t h1 => cases hk
    | nil =>
      obtain ⟨q1, q2⟩ := drop_none e1
      cases h2 with
      | nil =>
        have q3 := (drop_none e2).2
        exact stop i _ (.inl q1) (by rw [lexLt_nil_nil]; exact (decide_eq_true (by omega)).symm)
      | cons c u h2 =>
        have q3 := drop_lt e2
        exact stop i _ (.inl q1) (by rw [lexLt_nil_cons]; exact (decide_eq_false (by omega)).symm)
  | succ k ih =>
    intro i vs ws ns ms e1 e2 h1 h2 l1 l2 hk
    cases h1 with
    | nil => cases hk
    | cons a t h1 =>
      have p1 := drop_lt e1
      cases h2 with
      | nil =>
        obtain ⟨q1, q2⟩ := drop_none e2
        exact stop i _ (.inr q1) (by rw [lexLt_cons_nil]; exact (decide_eq_true (by omega)).symm)
      | cons c u h2 =>
        have p2 := drop_lt e2
        obtain ⟨g1, r1⟩ := drop_head e1
        obtain ⟨g2, r2⟩ := drop_head e2
        intro prog w A R s h
        obtain ⟨hp, g, d, tk, os⟩ := s
        obtain ⟨hl, hb, h⟩ := h
        rw [lexLt_cons] at h
        wp_walk using wpAny_loadPart' hl, wpAny_loadPart' hb
        have e : ((i : Nat) : Int).toNat = i := Int.toNat_natCast i
        rw [e, g1, g2]
        obtain ⟨v, hv, hiff⟩ := eqAt_int A.in1 ⟨hp, g, d, tk, os⟩ a t c u
        refine wpAny_bind (hv prog w _ _ ?_)
        cases v with
        | true =>
          rw [if_pos (hiff.mp rfl)] at h
          wp_walk
          have hc : ((i : Int) + 1) = ((i + 1 : Nat) : Int) := by omega
          rw [hc]
          refine ⟨plainId_quiet plain_eq_loop _, codeAny_builtin entry_eq_loop ?_⟩
          rw [Around.under_plainId plain_eq_loop _]
          exact ih (i + 1) _ _ _ _ r1 r2 h1 h2 p1 p2 (by simpa using hk) prog w A R _ ⟨hl, hb, h⟩
        | false =>
          have hne : a ≠ c := fun q => absurd (hiff.mpr q) Bool.false_ne_true
          rw [if_neg hne] at h
          have eb : (!decide (a < c)) = decide (c ≤ a) := by
            by_cases q : a < c
            · rw [decide_eq_true q, decide_eq_false (by omega)]; rfl
            · rw [decide_eq_false q, decide_eq_true (by omega)]; rfl
          rw [eb] at h
          have hri := rcGe_int A.in1 ⟨hp, g, d, tk, os⟩ a t c u prog w
          wp_walk using wpAny_loadPart' hl, wpAny_loadPart' hb
          rw [g1, g2]
          wp_walk using hri
          first | exact h | exact ⟨_, rfl, by simpa using h⟩
theorem list_geI (l b : Addr) (items items2 : Array Value) (n n2 : Nat) (dd dd2 : Option Addr) (sl sl2 : Array (Option Value)) (ns ms : List Int) (hi : IntsAre items.toList ns) (hj : IntsAre items2.toList ms) :
    Meets (Builtin.«list.__ge__» ⟨[.ref l, .ref b], []⟩) (fun A R s => s.heap.get? l = some { cls := .type "list", dict := dd, data := .seq items n, slots := sl } ∧ s.heap.get? b = some { cls := .type "list", dict := dd2, data := .seq items2 n2, slots := sl2 } ∧
      R (.ok (.ret (.bool (!lexLt ns ms)))) s) := by
  intro prog w A R s h
  obtain ⟨hp, g, d, tk, os⟩ := s
  obtain ⟨hl, hb, h⟩ := h
  have f3 := AutoSeq1.sub_list_list
  wp_walk using wpAny_loadPart' hl, wpAny_loadPart' hb
  refine ⟨plainId_quiet plain_eq_loop _, codeAny_builtin entry_eq_loop ?_⟩
  rw [Around.under_plainId plain_eq_loop _]
  exact ge_loopI l b items items2 n n2 dd dd2 sl sl2 _ 0 _ _ ns ms rfl rfl hi hj (Nat.zero_le _) (Nat.zero_le _) rfl prog w A R _ ⟨hl, hb, h⟩
end
section
variable {prog : Program} {w : World} {A : Around} {E : Value → Shared → Prop} {s : Shared}
theorem ge_lstI {l b : Addr} {items items2 : Array Value} {ns ms : List Int} {Q : Value → Shared → Prop} (hl : ∃ o, s.heap.get? l = some o ∧ o.cls = .type "list" ∧ ∃ n, o.data = .seq items n) (hb : ∃ o, s.heap.get? b = some o ∧ o.cls = .type "list" ∧ ∃ n, o.data = .seq items2 n)
    (hi : IntsAre items.toList ns) (hj : IntsAre items2.toList ms) (hu : A.units < cLine) (h : Q (.bool (!lexLt ns ms)) s) : wpAny (model prog w) A (compareOp .GtE (.ref l) (.ref b)) Q E s := by
  obtain ⟨⟨cls, dd, data, sl⟩, ho, hc, n, hd⟩ := hl
  obtain ⟨⟨cls2, dd2, data2, sl2⟩, ho2, hc2, n2, hd2⟩ := hb
  simp only at hc hd hc2 hd2
  subst hc hd hc2 hd2
  exact richCompare_meets_room (op := .GtE) ⟨_, ho, rfl⟩ ⟨_, ho2, rfl⟩ PySem.F.slot_list_ge PySem.F.entry_list_ge (PySem.F.args_list_ge_2 _ _) (list_geI l b items items2 n n2 dd dd2 sl sl2 ns ms hi hj)
    ⟨ho, ho2, show Value.bool (!lexLt ns ms) ≠ Value.notImplemented ∧ Q (.bool (!lexLt ns ms)) s from ⟨(fun x => nomatch x), h⟩⟩ hu
end
end HT
namespace L2
open PySem PySem.Spec PyProof.Rows
section
variable {X : Cx}
/-- list >= list, of ints -/
def rGeL (K : PySem.W.Frag) : R2 := fun x y H Q => ∃ a b ns ms, x = .ref a ∧ y = .ref b ∧ SqL K H a (ns.map V.int) ∧ SqL K H b (ms.map V.int) ∧ Q (.bl (!HT.lexLt ns ms)) H
theorem op_geL (hu : X.A.units < cLine) : OpR X (compareOp .GtE) (rGeL X.K) := by
  intro pins s σ H x y v u Q I rx ry h
  obtain ⟨a, b, ns, ms, rfl, rfl, ha, hb, q⟩ := h
  cases rx
  cases ry
  obtain ⟨its, r, p, _⟩ := I.list ha
  obtain ⟨its2, r2, p2, _⟩ := I.list hb
  exact HT.ge_lstI p.isList p2.isList (by simpa using intsAre_of r) (by simpa using intsAre_of r2) hu ⟨.bl _, H, I, rfl, q⟩
end
end L2

set_option Elab.async false
set_option linter.all false
set_option maxRecDepth 100000
set_option maxHeartbeats 4000000
/-! ### try .. except C, with no name; dicts alike in another order -/
namespace L2
open PySem PySem.Spec PyProof.Rows PySem.W
section
variable {X : Cx}
theorem passN {P : Program} {w : World} : Passes (CXR P w) X (fun _ _ _ => False) := fun _ _ _ _ _ _ _ h => by
  obtain ⟨_, _, _, _, _, _, _, _, _, _, _, _, _, q⟩ := h
  exact q.elim
end
end L2

set_option linter.all false
set_option maxRecDepth 100000
set_option maxHeartbeats 4000000
namespace L2
open PySem
/-! ### a table laid anew loses nothing -/
def Msk (m : Nat) : Prop := m = 7 ∨ m = 15 ∨ m = 31 ∨ m = 63
def itI (mask : Nat) : Nat → Nat → Nat
  | 0, i => i
  | m + 1, i => itI mask m ((i * 5 + 1) % (mask + 1))
def visits (mask : Nat) : Bool := (List.range (mask + 1)).all fun i => (List.range (mask + 1)).all fun j => (List.range (mask + 1)).any fun m => itI mask m i == j
theorem visits_ok {mask : Nat} (h : Msk mask) : visits mask = true := by
  rcases h with rfl | rfl | rfl | rfl
  · decide +kernel
  · decide +kernel
  · decide +kernel
  · decide +kernel
theorem visits_at {mask i j : Nat} (h : Msk mask) (hi : i ≤ mask) (hj : j ≤ mask) : ∃ m, m ≤ mask ∧ itI mask m i = j := by
  have := visits_ok h
  unfold visits at this
  rw [List.all_eq_true] at this
  have := this i (List.mem_range.mpr (by omega))
  rw [List.all_eq_true] at this
  have := this j (List.mem_range.mpr (by omega))
  obtain ⟨m, hm, e⟩ := List.any_eq_true.mp this
  exact ⟨m, by have := List.mem_range.mp hm; omega, eq_of_beq e⟩
/-- the walk of the places, with what is left of the hash -/
def itP (mask : Nat) : Nat → Nat → Nat → Nat × Nat
  | 0, i, p => (i, p)
  | m + 1, i, p => itP mask m ((i * 5 + 1 + p / 32) % (mask + 1)) (p / 32)
theorem itP_zero (mask : Nat) : ∀ (m i : Nat), itP mask m i 0 = (itI mask m i, 0)
  | 0, i => rfl
  | m + 1, i => by
    show itP mask m ((i * 5 + 1 + 0 / 32) % (mask + 1)) (0 / 32) = _
    rw [Nat.zero_div, Nat.add_zero, itP_zero mask m]
    rfl
theorem itP_add (mask : Nat) : ∀ (m k i p : Nat), itP mask (m + k) i p = itP mask k (itP mask m i p).1 (itP mask m i p).2
  | 0, k, i, p => by rw [Nat.zero_add]; rfl
  | m + 1, k, i, p => by
    rw [Nat.succ_add]
    exact itP_add mask m k _ _
theorem itP_snd (mask : Nat) : ∀ (m i p : Nat), (itP mask m i p).2 = p / 32 ^ m
  | 0, i, p => by simp [itP]
  | m + 1, i, p => by
    show (itP mask m _ (p / 32)).2 = _
    rw [itP_snd mask m, Nat.div_div_eq_div_mul, Nat.pow_succ, Nat.mul_comm]
theorem itP_le (mask : Nat) : ∀ (m i p : Nat), i ≤ mask → (itP mask m i p).1 ≤ mask
  | 0, i, p, h => h
  | m + 1, i, p, h => itP_le mask m _ _ (Nat.le_of_lt_succ (Nat.mod_lt (i * 5 + 1 + p / 32) (Nat.succ_pos mask)))
theorem all_met {mask i p j : Nat} (h : Msk mask) (hi : i ≤ mask) (hp : p < 2 ^ 64) (hj : j ≤ mask) : ∃ m, m < SetTable.turns mask ∧ (itP mask m i p).1 = j := by
  have h2 : (itP mask 13 i p).2 = 0 := by
    rw [itP_snd]
    exact Nat.div_eq_of_lt (Nat.lt_trans hp (by decide))
  obtain ⟨m, hm, e⟩ := visits_at h (itP_le mask 13 i p hi) hj
  refine ⟨13 + m, by unfold SetTable.turns; omega, ?_⟩
  rw [itP_add, h2, itP_zero]
  exact e
theorem free_none (mask : Nat) (ow : Array (Option Nat)) : ∀ (f i p : Nat), SetTable.layClean.free mask ow f i p = none → ∀ m, m < f → (ow.getD (itP mask m i p).1 (some 0)).isNone = false
  | 0, i, p, _, m, h => absurd h (Nat.not_lt_zero _)
  | f + 1, i, p, e, m, h => by
    unfold SetTable.layClean.free at e
    cases hq : (List.range (SetTable.runEnd mask i + 1 - i)).find? fun k => (ow.getD (i + k) (some 0)).isNone with
    | some k => rw [hq] at e; cases e
    | none =>
      rw [hq] at e
      cases m with
      | zero =>
        have := List.find?_eq_none.mp hq 0 (List.mem_range.mpr (by unfold SetTable.runEnd; split <;> omega))
        rw [Nat.add_zero] at this
        cases hz : (ow.getD i (some 0)).isNone with
        | true => exact absurd hz this
        | false => exact hz
      | succ m => exact free_none mask ow f _ _ e m (by omega)
theorem free_some (mask : Nat) (ow : Array (Option Nat)) : ∀ (f i p j : Nat), SetTable.layClean.free mask ow f i p = some j → (ow.getD j (some 0)).isNone = true
  | 0, i, p, j, e => by cases e
  | f + 1, i, p, j, e => by
    unfold SetTable.layClean.free at e
    cases hq : (List.range (SetTable.runEnd mask i + 1 - i)).find? fun k => (ow.getD (i + k) (some 0)).isNone with
    | some k =>
      rw [hq] at e
      cases e
      exact List.find?_some (p := fun k => (ow.getD (i + k) (some 0)).isNone) hq
    | none =>
      rw [hq] at e
      exact free_some mask ow f _ _ j e
theorem set_perm {α : Type} : ∀ {l : List (Option α)} {j : Nat} {x : α}, l[j]? = some none → ((l.set j (some x)).filterMap id).Perm (x :: l.filterMap id)
  | [], j, x, h => by cases h
  | o :: l, 0, x, h => by
    cases h
    simp
  | o :: l, j + 1, x, h => by
    have ih := set_perm (l := l) (j := j) (x := x) h
    rw [List.set_cons_succ]
    cases o with
    | none => simpa using ih
    | some y =>
      simp only [List.filterMap_cons, id]
      exact (ih.cons y).trans (.swap ..)
structure Lay (mask : Nat) (r : Array (Option Nat) × Nat) : Prop where
  size : r.1.size = mask + 1
  perm : (r.1.toList.filterMap id).Perm (List.range r.2)
theorem Lay.step {mask : Nat} (hm : Msk mask) {r : Array (Option Nat) × Nat} (x : Lay mask r) (hk : r.2 ≤ mask) (h : Int) : ∃ j, SetTable.layClean.free mask r.1 (SetTable.turns mask) (SetTable.bits h % (mask + 1)) (SetTable.bits h) = some j ∧ Lay mask (r.1.setIfInBounds j (some r.2), r.2 + 1) := by
  obtain ⟨ow, k⟩ := r
  dsimp only at *
  have hz : ow.size = mask + 1 := x.size
  have hlen := x.perm.length_eq
  dsimp only at hlen
  rw [List.length_range] at hlen
  cases hf : SetTable.layClean.free mask ow (SetTable.turns mask) (SetTable.bits h % (mask + 1)) (SetTable.bits h) with
  | none =>
    exfalso
    have hall : ∀ j, j ≤ mask → (ow.getD j (some 0)).isNone = false := fun j hj => by
      obtain ⟨m, h1, h2⟩ := all_met hm (i := SetTable.bits h % (mask + 1)) (p := SetTable.bits h) (Nat.le_of_lt_succ (Nat.mod_lt (SetTable.bits h) (Nat.succ_pos mask))) (by
        unfold SetTable.bits
        have h1 := Int.emod_lt_of_pos h (show (0 : Int) < 2 ^ 64 by decide)
        have h0 := Int.emod_nonneg h (show (2 ^ 64 : Int) ≠ 0 by decide)
        omega) hj
      have := free_none mask ow _ _ _ hf m h1
      rwa [h2] at this
    have : (ow.toList.filterMap id).length = ow.toList.length := by
      rw [List.length_filterMap_eq_countP, List.countP_eq_length]
      intro o ho
      obtain ⟨j, hj, e⟩ := List.mem_iff_getElem.mp ho
      rw [Array.length_toList] at hj
      have := hall j (by omega)
      rw [Array.getD_eq_getD_getElem?, Array.getElem?_eq_getElem hj] at this
      rw [← e, Array.getElem_toList]
      cases hq : ow[j] with
      | none => rw [hq] at this; cases this
      | some y => rfl
    have e9 : ow.toList.length = ow.size := Array.length_toList
    omega
  | some j =>
    have hs := free_some mask ow _ _ _ _ hf
    have hj : j < ow.size := by
      refine Nat.lt_of_not_le fun z => ?_
      rw [Array.getD_eq_getD_getElem?, Array.getElem?_eq_none z] at hs
      cases hs
    have hn : ow.toList[j]? = some none := by
      rw [Array.getD_eq_getD_getElem?, Array.getElem?_eq_getElem hj] at hs
      rw [Array.getElem?_toList, Array.getElem?_eq_getElem hj]
      cases hq : ow[j] with
      | none => rfl
      | some y => rw [hq] at hs; cases hs
    refine ⟨j, rfl, ⟨by simp [hz], ?_⟩⟩
    dsimp only
    rw [Array.toList_setIfInBounds, List.range_succ]
    exact (set_perm hn).trans ((x.perm.cons k).trans (List.perm_append_singleton k _).symm)
end L2

set_option Elab.async false
set_option linter.all false
set_option maxRecDepth 100000
set_option maxHeartbeats 4000000

namespace L2
open PySem PySem.Spec PyProof.Rows
/-! ### sets of texts -/
def setBy (w : World) : Bool := w.params.followText "set-order"
def keyE (e : Int × Value) : Str := match e.2 with
  | .str y _ => y
  | _ => Str.ofString ""
def GoodE (w : World) (e : Int × Value) : Prop := ∃ y tk, e = (keyH w (.inr y), Value.str y tk)
structure TObj (w : World) (o : Obj) (es : Array (Int × Value)) (ep : Nat) (t : SetTable) (xs : List Str) : Prop where
  ex : o.ExactSet
  dat : o.data = .set es ep t
  good : ∀ e ∈ es.toList, GoodE w e
  perm : (es.toList.map keyE).Perm xs
  nd : xs.Nodup
  len : xs.length ≤ 1000
  fit : t.fits es.size = true
  led : t.led = !setBy w
  pl : es.size ≠ 0 → t.plain = false
  msk : es.size = 0 → Msk t.mask
def TxS (w : World) (h : Heap) (a : Addr) (xs : List Str) : Prop := ∃ o es ep t, h.get? a = some o ∧ TObj w o es ep t xs
theorem TxS.at' {w : World} {h h' : Heap} {a : Addr} {xs : List Str} (x : TxS w h a xs) (k : ∀ o, h.get? a = some o → h'.get? a = some o) : TxS w h' a xs :=
  let ⟨o, es, ep, t, e, r⟩ := x; ⟨o, es, ep, t, k o e, r⟩
theorem TxS.typeIs {w : World} {s : Shared} {a : Addr} {xs : List Str} (x : TxS w s.heap a xs) : s.TypeIs (.ref a) "set" := let ⟨o, _, _, _, e, r⟩ := x; ⟨o, e, r.ex.1⟩
section
variable {w : World} {P : Program} {o : Obj} {es : Array (Int × Value)} {ep : Nat} {t : SetTable} {xs : List Str}
theorem TObj.elems (x : TObj w o es ep t xs) : ElemsOf (mixKind P w) es.toList := fun e he => by
  obtain ⟨y, tk, rfl⟩ := x.good e he
  exact ⟨⟨.inr y, mixKind_str P w y tk, rfl⟩, rfl⟩
theorem TObj.size (x : TObj w o es ep t xs) : es.size = xs.length := by
  have := x.perm.length_eq
  rw [List.length_map, Array.length_toList] at this
  exact this
theorem TObj.bnd (x : TObj w o es ep t xs) : es.size < scanBound := by
  rw [x.size]
  have := x.len
  show _ < 4096
  omega
theorem key_is {y : Str} {e : Int × Value} (g : GoodE w e) : (mixKind P w).is (.inr y) e.2 = true ↔ keyE e = y := by
  obtain ⟨z, tk, rfl⟩ := g
  constructor
  · intro h
    have := (mixKind P w).inj _ _ _ h (mixKind_str P w z tk)
    injection this with this
    exact this.symm
  · intro h
    rw [← h]
    exact mixKind_str P w z tk
theorem TObj.find_some (x : TObj w o es ep t xs) {y : Str} {j : Nat} (h : List.findIdx? (fun e => (mixKind P w).is (.inr y) e.2) es.toList = some j) : y ∈ xs := by
  obtain ⟨hj, hp, _⟩ := List.findIdx?_eq_some_iff_getElem.mp h
  have hm := List.getElem_mem hj
  exact x.perm.mem_iff.mp (List.mem_map.mpr ⟨_, hm, (key_is (x.good _ hm)).mp hp⟩)
theorem TObj.find_none (x : TObj w o es ep t xs) {y : Str} (h : List.findIdx? (fun e => (mixKind P w).is (.inr y) e.2) es.toList = none) : y ∉ xs := fun hy => by
  obtain ⟨e, he, hk⟩ := List.mem_map.mp (x.perm.mem_iff.mpr hy)
  have := List.findIdx?_eq_none_iff.mp h e he
  rw [(key_is (x.good _ he)).mpr hk] at this
  cases this
end
theorem layNew_led (t : SetTable) (es : Array (Int × Value)) (h : Int) (x : Value) : (layNew t es h x).2.1.led = t.led := by
  unfold layNew
  split
  · dsimp only
    unfold SetTable.orStandIn
    split <;> rfl
  · rfl
theorem laid_led {mask f m : Nat} {led plain : Bool} {hs : Array Int} {r : SetTable × Array Nat} (e : SetTable.laid mask f m led plain hs = some r) : r.1.led = led ∧ r.1.plain = plain ∧ r.1.mask = mask ∧ r.1.dummies = #[] := by
  unfold SetTable.laid at e
  cases hq : SetTable.layClean mask hs with
  | none => rw [hq] at e; cases e
  | some ow =>
    rw [hq] at e
    cases e
    exact ⟨rfl, rfl, rfl, rfl⟩
theorem relayAll_led (t : SetTable) (es : Array (Int × Value)) (n : Nat) : (relayAll t es n).2.1.led = t.led ∧ (t.plain = false → (relayAll t es n).2.1.plain = false) := by
  unfold relayAll
  split
  · rename_i t' order e
    dsimp only
    split
    · obtain ⟨h1, h2, _⟩ := laid_led e
      exact ⟨h1, fun z => h2.trans z⟩
    · exact ⟨rfl, fun _ => rfl⟩
  · exact ⟨rfl, fun _ => rfl⟩
/-- what a set has behind one more -/
def addS (xs : List Str) (y : Str) : List Str := if y ∈ xs then xs else xs ++ [y]
theorem addS_nd {xs : List Str} {y : Str} (h : xs.Nodup) : (addS xs y).Nodup := by
  unfold addS
  split
  · exact h
  · rename_i z
    rw [List.nodup_append]
    exact ⟨h, by simp, fun a ha b hb => by rw [List.mem_singleton.mp hb]; exact fun q => z (q ▸ ha)⟩
theorem addS_mem {xs : List Str} {y z : Str} : z ∈ addS xs y ↔ z ∈ xs ∨ z = y := by
  unfold addS
  split
  · rename_i h
    exact ⟨.inl, fun q => q.elim id fun q => q ▸ h⟩
  · simp
theorem addS_len (xs : List Str) (y : Str) : (addS xs y).length ≤ xs.length + 1 := by
  unfold addS
  split
  · omega
  · simp
section
variable {prog : Program} {w : World} {A : Around} {E : Value → Shared → Prop} {s : Shared} {a : Addr}
theorem TObj.store {h : Heap} {o : Obj} {es es' : Array (Int × Value)} {ep : Nat} {t t' : SetTable} (ho : h.get? a = some o) (x : o.ExactSet) (d : o.data = .set es ep t) : (h.update a (Obj.putSet es' t')).get? a = some { o with data := .set es' (ep + 1) t' } := by
  have q := Heap.get?_update_self (Obj.putSet es' t') ho (by rw [putSet_of es' t' d]; rfl)
  rwa [putSet_of es' t' d] at q
/-- the last part of an adding -/
theorem tset_tail {g : Bool → Sem Unit} (hg : ∀ (b : Bool) (s₁ : Shared) (Q' : Unit → Shared → Prop), Q' () s₁ → wpAny (model prog w) A (g b) Q' E s₁) {o : Obj} {es es1 : Array (Int × Value)} {ep : Nat} {t t2 : SetTable} {ys : List Str} {wd : Bool} {R : Option Bool → Shared → Prop}
    (ho : s.heap.get? a = some o) (hx : o.ExactSet) (hd : o.data = .set es ep t) (gd : ∀ e ∈ es1.toList, GoodE w e) (pm : (es1.toList.map keyE).Perm ys) (nd : ys.Nodup) (ln : ys.length ≤ 1000) (hf : t2.fits es1.size = true) (ld : t2.led = !setBy w) (pl : t2.plain = false) (ne : es1.size ≠ 0)
    (h : ∀ h', Heap.SameBut a s.heap h' → TxS w h' a ys → R (some true) { s with heap := h' }) :
    wpAny (model prog w) A (do { storeSet a es1 t2; if (!wd && t2.tooFull) = true then do { g (relayAll t2 es1 (SetTable.grown es1.size)).2.2; storeSet a (relayAll t2 es1 (SetTable.grown es1.size)).1 (relayAll t2 es1 (SetTable.grown es1.size)).2.1; pure (some true) } else pure (some true) }) R E s := by
  have sz : es1.size = ys.length := by have := pm.length_eq; rw [List.length_map, Array.length_toList] at this; exact this
  have b1 : es1.size < scanBound := by rw [sz]; show _ < 4096; omega
  refine wpAny_bind (wpAny_storeSet_of ho hd ?_ (fits_of_scanBound b1))
  have o1 := TObj.store (es' := es1) (t' := t2) ho hx hd
  have sb := Heap.SameBut.update s.heap a (Obj.putSet es1 t2)
  split
  · have hp := relayAll_perm t2 es1 (SetTable.grown es1.size)
    have hfr := relayAll_fits t2 es1 (SetTable.grown es1.size)
    have hld := relayAll_led t2 es1 (SetTable.grown es1.size)
    generalize hR : relayAll t2 es1 (SetTable.grown es1.size) = Rl at hp hfr hld ⊢
    obtain ⟨es2, t3, g2⟩ := Rl
    dsimp only at hp hfr hld ⊢
    have sz2 : es2.size = es1.size := by rw [← Array.length_toList, hp.length_eq, Array.length_toList]
    refine wpAny_bind (hg _ _ _ (wpAny_bind (wpAny_storeSet_of o1 rfl ?_ (fits_of_scanBound (by rw [sz2]; exact b1)))))
    have o2 := TObj.store (es' := es2) (t' := t3) o1 hx rfl
    exact wpAny_pure (h _ (sb.trans (Heap.SameBut.update _ a _)) ⟨_, es2, _, t3, o2, hx, rfl, fun e he => gd e (hp.mem_iff.mp he), (hp.map keyE).trans pm, nd, ln, hfr, hld.1.trans ld, fun _ => hld.2 pl, fun z => absurd (sz2.symm.trans z) ne⟩)
  · exact wpAny_pure (h _ sb ⟨_, es1, _, t2, o1, hx, rfl, gd, pm, nd, ln, hf, ld, fun _ => pl, fun z => absurd z ne⟩)
/-- a text is added -/
theorem tset_add {xs : List Str} {y : Str} {tk : Tok} {Q : Bool → Shared → Prop} (hS : TxS w s.heap a xs) (hl : xs.length < 1000) (h : ∀ b h', Heap.SameBut a s.heap h' → TxS w h' a (addS xs y) → Q b { s with heap := h' }) :
    wpAny (model prog w) A (setAddHashed a (.str y tk) (keyH w (.inr y))) Q E s := by
  obtain ⟨o, es, ep, t, ho, x⟩ := hS
  have el : ElemsOf (mixKind prog w) es.toList := x.elems
  unfold setAddHashed setAddHashedIn
  refine wpAny_holding (wpAny_bind (wpAny_setState_of ho x.dat x.fit ?_))
  dsimp only
  rw [byScan_of (x := .str y tk) rfl x.bnd el]
  simp only [↓reduceIte]
  unfold setAddByScan
  refine wpAny_bind (wpAny_bind (wpAny_rule (wpAny_bind (wpAny_setScan_of (knd := mixKind prog w) (k := .inr y) (mixKind_str prog w y tk) ho x.dat x.fit el ?_))))
  cases hr : List.findIdx? (fun e => (mixKind prog w).is (.inr y) e.2) es.toList with
  | some j =>
    dsimp only
    refine wpAny_pure (wpAny_pure ?_)
    have hy := x.find_some hr
    exact h false s.heap (Heap.SameBut.refl a s.heap) (by unfold addS; rw [if_pos hy]; exact ⟨o, es, ep, t, ho, x⟩)
  | none =>
    dsimp only
    have hy := x.find_none hr
    have hperm := layNew_perm t es (keyH w (.inr y)) (.str y tk)
    have hfits := layNew_fits t es (keyH w (.inr y)) (.str y tk)
    have hled := layNew_led t es (keyH w (.inr y)) (.str y tk)
    have e0 : (mixKind prog w).hash (.inr y) = keyH w (.inr y) := rfl
    try rw [e0]
    generalize hL : layNew t es (keyH w (.inr y)) (.str y tk) = L at hperm hfits hled ⊢
    obtain ⟨es1, t1, wd, gave⟩ := L
    dsimp only at hperm hfits hled ⊢
    rw [Array.toList_push] at hperm
    have gd : ∀ e ∈ es1.toList, GoodE w e := fun e he => by
      rcases List.mem_append.mp (hperm.mem_iff.mp he) with z | z
      · exact x.good e z
      · exact ⟨y, tk, List.mem_singleton.mp z⟩
    have ea : addS xs y = xs ++ [y] := by unfold addS; rw [if_neg hy]
    have pm : (es1.toList.map keyE).Perm (addS xs y) := by
      rw [ea]
      refine (hperm.map keyE).trans ?_
      rw [List.map_append]
      exact x.perm.append_right _
    have ne : es1.size ≠ 0 := fun z => by
      have := pm.length_eq
      rw [ea, List.length_map, Array.length_toList, z, List.length_append] at this
      simp at this
    have ln : (addS xs y).length ≤ 1000 := by have := addS_len xs y; omega
    have hgw : ∀ (b : Bool) {s₁ : Shared} {Q' : Unit → Shared → Prop}, Q' () s₁ → wpAny (model prog w) A (match b with | true => rule "set.scan.the-table-gave-way" | false => pure ()) Q' E s₁ := fun b s₁ Q' hq => by
      cases b
      · exact wpAny_pure hq
      · exact wpAny_rule hq
    refine wpAny_bind (hgw _ ?_)
    have fin : ∀ h', Heap.SameBut a s.heap h' → TxS w h' a (addS xs y) → wpAny (model prog w) A (pure true : Sem Bool) Q E { s with heap := h' } := fun h' k z => wpAny_pure (h true h' k z)
    split
    · refine wpAny_bind ?_
      rw [hashByValue_scannable (x := .str y tk) 8 rfl]
      refine wpAny_pure ?_
      refine tset_tail ?_ ho x.ex x.dat gd pm (addS_nd x.nd) ln ?_ ?_ ?_ ne (fun h' k z => fin h' k z)
      · intro b s₁ Q' hq
        cases b
        · exact wpAny_pure hq
        · exact wpAny_rule hq
      · exact SetTable.fits_plain_off hfits
      · exact hled.trans x.led
      · rfl
    · rename_i hp1
      refine wpAny_bind (wpAny_pure ?_)
      simp only [↓reduceIte]
      refine tset_tail ?_ ho x.ex x.dat gd pm (addS_nd x.nd) ln hfits (hled.trans x.led) (by simpa using hp1) ne (fun h' k z => fin h' k z)
      intro b s₁ Q' hq
      cases b
      · exact wpAny_pure hq
      · exact wpAny_rule hq
end

/-! ### the order in which a set is walked -/
theorem idx_perm {α : Type} : ∀ {l : List α} {i : Nat} (h : i < l.length), (l[i] :: l.eraseIdx i).Perm l
  | [], i, h => absurd h (Nat.not_lt_zero _)
  | x :: r, 0, h => .refl _
  | x :: r, i + 1, h => by
    have h' : i < r.length := by simpa using h
    show (r[i] :: x :: r.eraseIdx i).Perm _
    exact (List.Perm.swap ..).trans ((idx_perm (l := r) (i := i) h').cons x)
theorem pick_perm {α : Type} (next : Nat → Nat) : ∀ (f k : Nat) (left : List α) (out : Array α), f = left.length → (pickOrder.go next f k left out).toList.Perm (out.toList ++ left)
  | 0, k, left, out, h => by
    rw [List.length_eq_zero_iff.mp h.symm]
    simp [pickOrder.go]
  | f + 1, k, left, out, h => by
    have hp : next k % left.length < left.length := Nat.mod_lt _ (by omega)
    unfold pickOrder.go
    rw [List.getElem?_eq_getElem hp]
    dsimp only
    refine (pick_perm next f (k + 1) _ _ (by rw [List.length_eraseIdx_of_lt hp]; omega)).trans ?_
    rw [Array.toList_push, List.append_assoc]
    exact List.Perm.append_left _ (idx_perm hp)
theorem pickOrder_perm {α : Type} (next : Nat → Nat) (xs : Array α) : (pickOrder next xs).toList.Perm xs.toList := by
  have := pick_perm next xs.size 0 xs.toList #[] (by simp)
  simpa [pickOrder] using this
section
variable {prog : Program} {w : World} {A : Around} {E : Value → Shared → Prop} {s : Shared} {a : Addr}
theorem wp_chooseO {n : Nat} (hn : n ≠ 0) {Q : Nat → Shared → Prop} (h : ∀ i d, i < n → Q i { s with drawn := d }) : wpAny (model prog w) A (choose .order n) Q E s := fun Γ p hΓ => by
  unfold choose
  rw [Sem.wp_choose]
  refine ⟨hn, ?_⟩
  simp only [Sem.wp_pure]
  exact h _ _ (Nat.mod_lt _ (Nat.pos_of_ne_zero hn))
theorem wp_drawOrder {α : Type} : ∀ (n : Nat) (l : List α) (s : Shared) (Q : List α → Shared → Prop), n = l.length → (∀ out d, out.Perm l → Q out { s with drawn := d }) → wpAny (model prog w) A (drawOrder n l) Q E s
  | 0, l, s, Q, hn, h => by
    have hl := List.length_eq_zero_iff.mp hn.symm
    subst hl
    exact wpAny_pure (h [] s.drawn .nil)
  | n + 1, l, s, Q, hn, h => by
    cases l with
    | nil => cases hn
    | cons x r =>
      show wpAny _ _ (choose .order (x :: r).length >>= _) _ _ _
      refine wpAny_bind (wp_chooseO (by simp) fun i d hi => ?_)
      rw [List.getElem?_eq_getElem hi]
      dsimp only
      refine wpAny_bind (wp_drawOrder n ((x :: r).eraseIdx i) _ _ (by rw [List.length_eraseIdx_of_lt hi]; simp at hn ⊢; omega) fun out d2 hp => wpAny_pure ?_)
      exact h _ d2 ((hp.cons _).trans (idx_perm hi))
end
end L2

set_option Elab.async false
set_option linter.all false
set_option maxRecDepth 100000
set_option maxHeartbeats 4000000

namespace L2
open PySem PySem.Spec PyProof.Rows
/-! ### a set of texts, walked -/
def TIt (h : Heap) (it a : Addr) (ep n : Nat) (f : Value) (i : Nat) : Prop := ∃ o, h.get? it = some o ∧ o.cls = .type "set_iterator" ∧ o.data = .fields #[f, rawInt i, .ref a, rawInt n, rawInt ep]
theorem TIt.at' {h h' : Heap} {it a : Addr} {ep n i : Nat} {f : Value} (x : TIt h it a ep n f i) (k : ∀ o, h.get? it = some o → h'.get? it = some o) : TIt h' it a ep n f i := let ⟨o, e, r⟩ := x; ⟨o, k _ e, r⟩
theorem TIt.typeIs {s : Shared} {it a : Addr} {ep n i : Nat} {f : Value} (x : TIt s.heap it a ep n f i) : s.TypeIs (.ref it) "set_iterator" := let ⟨o, e, r, _⟩ := x; ⟨o, e, r⟩
inductive Md (w : World) (h : Heap) (I a T : Addr) (es : Array (Int × Value)) (ep : Nat) (t : SetTable) (os : List (Int × Value)) (i : Nat) : Prop
  | text (b : setBy w = true) (e : os = (pickOrder (w.params.setOrder a ep) es).toList) (x : TIt h I a ep es.size (rawInt 0) i)
  | draw (pl : List Nat) (b : setBy w = false) (e : os.length = pl.length ∧ ∀ (k j : Nat), pl[k]? = some j → os[k]? = es[j]?) (x : TIt h I a ep es.size (.ref T) i) (y : ∃ o n, h.get? T = some o ∧ o.data = .seq (pl.map fun j => rawInt (j : Nat)).toArray n) (z : I ≠ T)
  | tab (sl : Nat) (b : setBy w = false) (l : es.size ≤ 1) (e : os = es.toList) (x : TIt h I a ep es.size (rawInt sl) i) (y : SetTable.below t.place sl = i)
def TWk (w : World) (I a T : Addr) (os : List (Int × Value)) (i : Nat) (h : Heap) : Prop := ∃ o es ep t xs, h.get? a = some o ∧ TObj w o es ep t xs ∧ os.Perm es.toList ∧ I ≠ a ∧ Md w h I a T es ep t os i
section
variable {prog : Program} {w : World} {A : Around} {E : Value → Shared → Prop} {s : Shared} {a it : Addr}
theorem tit_set0 {ep n i : Nat} {f v : Value} {Q : Unit → Shared → Prop} (x : TIt s.heap it a ep n f i) (q : ∀ h', Heap.SameBut it s.heap h' → TIt h' it a ep n v i → Q () { s with heap := h' }) : wpAny (model prog w) A (setField (.ref it) 0 v) Q E s := by
  obtain ⟨o, ho, hc, hd⟩ := x
  exact wpAny_setField ho hd (by simp) (q _ (Heap.SameBut.update ..) ⟨_, Heap.get?_update_self _ ho (Obj.isFreed_of_fields (Obj.data_mapFields hd _)), (Obj.cls_mapFields ..).trans hc, by rw [Obj.data_mapFields hd]; simp⟩)
theorem tit_set1 {ep n i : Nat} {f : Value} {Q : Unit → Shared → Prop} (x : TIt s.heap it a ep n f i) (q : ∀ h', Heap.SameBut it s.heap h' → TIt h' it a ep n f (i + 1) → Q () { s with heap := h' }) : wpAny (model prog w) A (setField (.ref it) 1 (rawInt ((i : Int) + 1))) Q E s := by
  obtain ⟨o, ho, hc, hd⟩ := x
  exact wpAny_setField ho hd (by simp) (q _ (Heap.SameBut.update ..) ⟨_, Heap.get?_update_self _ ho (Obj.isFreed_of_fields (Obj.data_mapFields hd _)), (Obj.cls_mapFields ..).trans hc, by rw [Obj.data_mapFields hd]; simp [rawInt]⟩)
theorem si_stop {ep n i : Nat} {f : Value} {R : PySem.Fin → Shared → Prop} {E' : Value → Shared → Prop} (hh : A.handled = none) (x : TIt s.heap it a ep n f i)
    (q : ∀ h' e, Heap.ExtBut it s.heap h' → Shared.TypeIs { s with heap := h' } e "StopIteration" → E' e { s with heap := h' }) : wpAny (model prog w) A.in1 (do { setField (.ref it) 2 .none; raiseNew (← newExc (.type "StopIteration") []) }) R E' s := by
  obtain ⟨o, ho, hc, hd⟩ := x
  refine wpAny_bind (wpAny_setField ho hd (by simp) ?_)
  show wpAny _ _ (newExc (.type "StopIteration") [] >>= _) _ _ _
  refine wpAny_bind ?_
  simp only [newExc, newTuple]
  refine wpAny_bind (wpAny_newObj_type ?_ (by size_fits))
  refine wpAny_bind (m := firstArgMember _ _) (wpAny_of_eq (a := Value.none) (by first | rfl | (simp only [firstArgMember]; rfl)) ?_)
  refine wpAny_newObj_type ?_ (by size_fits)
  simp only [raiseNew]
  refine wpAny_bind (wpAny_handled ?_)
  rw [show A.in1.handled = none from hh]
  refine wpAny_bind (wpAny_pure (wpAny_throw ?_))
  refine q _ _ (((Heap.SameBut.update ..).extBut.push _).push _) ?_
  exact ⟨_, Heap.get?_push_size _ rfl, rfl⟩
theorem below_one (j : Nat) : SetTable.below #[j] 0 = 0 ∧ SetTable.below #[j] (j + 1) = 1 := by
  constructor
  · simp [SetTable.below, SetTable.below.go]
  · simp [SetTable.below, SetTable.below.go]
/-- the table, asked for the next one -/
theorem setNext_text {o : Obj} {es : Array (Int × Value)} {ep : Nat} {t : SetTable} {i : Nat} {Q : Option (Value × Nat) → Shared → Prop} (b : setBy w = true) (ho : s.heap.get? a = some o) (hd : o.data = .set es ep t) (hf : t.fits es.size = true)
    (q : Q (((pickOrder (w.params.setOrder a ep) es)[i]?).map fun e => (e.2, 0)) s) : wpAny (model prog w) A (setNext a 0 i ep) Q E s := by
  have hb : w.params.followText "set-order" = true := b
  unfold setNext
  refine wpAny_bind (wpAny_setState_of ho hd hf ?_)
  refine wpAny_bind (m := setsByText) (wpAny_bind (wpAny_askSetting (wpAny_pure ?_)))
  show wpAny _ _ (if w.params.followText "set-order" = true then _ else _) _ _ s
  rw [if_pos hb, if_neg (show ¬ ((ep != ep) = true) by simp)]
  refine wpAny_bind ?_
  unfold setWalk
  refine wpAny_bind (wpAny_setState_of ho hd hf ?_)
  refine wpAny_bind (m := setsByText) (wpAny_bind (wpAny_askSetting (wpAny_pure ?_)))
  show wpAny _ _ (if w.params.followText "set-order" = true then _ else _) _ _ s
  rw [if_pos hb]
  exact wpAny_bind (wpAny_askSetting (wpAny_pure (wpAny_pure q)))
theorem setNext_tab {o : Obj} {es : Array (Int × Value)} {ep : Nat} {t : SetTable} {sl i : Nat} {Q : Option (Value × Nat) → Shared → Prop} (b : setBy w = false) (ho : s.heap.get? a = some o) (hd : o.data = .set es ep t) (hf : t.fits es.size = true) (hl : t.led = !setBy w) (l : es.size ≤ 1)
    (q : Q (match es[SetTable.below t.place sl]?, t.place[SetTable.below t.place sl]? with | some (_, x), some j => some (x, j + 1) | _, _ => none) s) : wpAny (model prog w) A (setNext a sl i ep) Q E s := by
  have hb : w.params.followText "set-order" = false := b
  unfold setNext
  refine wpAny_bind (wpAny_setState_of ho hd hf ?_)
  refine wpAny_bind (m := setsByText) (wpAny_bind (wpAny_askSetting (wpAny_pure ?_)))
  show wpAny _ _ (if w.params.followText "set-order" = true then _ else _) _ _ s
  rw [if_neg (by rw [hb]; exact Bool.false_ne_true)]
  show wpAny _ _ (if (!t.plain && decide (es.size > 1)) = true then _ else _) _ _ s
  rw [if_neg (by rw [decide_eq_false (by omega), Bool.and_false]; exact Bool.false_ne_true)]
  show wpAny _ _ ((if (!t.led && !es.isEmpty) = true then _ else _) >>= _) _ _ s
  rw [if_neg (by rw [hl, b]; exact Bool.false_ne_true)]
  exact wpAny_bind (wpAny_pure (wpAny_pure q))
/-- the iterator's step, up to where the ways part -/
theorem si_next {ep n i : Nat} {f : Value} {o : Obj} {es : Array (Int × Value)} {t : SetTable} {Q : Option Value → Shared → Prop} (x : TIt s.heap it a ep es.size f i) (ho : s.heap.get? a = some o) (hd : o.data = .set es ep t) (hf : t.fits es.size = true)
    {E1 : Value → Shared → Prop}
    (q : wpAny (model prog w) A.in1 (if let .int slot _ := f then
      (do match ← setNext a slot.toNat i ep with
          | some (x, next) => setField (.ref it) 0 (rawInt next); setField (.ref it) 1 (rawInt ((i : Int) + 1)); ret x
          | none => setField (.ref it) 2 .none; raiseNew (← newExc (.type "StopIteration") []))
      else (do
        let some places ← seqItems? f | unsupported "internal:set_iterator"
        match places[i]? with
        | some (.int place _) => let x ← setNextDrawn a place.toNat ep; setField (.ref it) 1 (rawInt ((i : Int) + 1)); ret x
        | some _ => unsupported "internal:set_iterator"
        | none => setField (.ref it) 0 (rawInt 0); setField (.ref it) 2 .none; raiseNew (← newExc (.type "StopIteration") [])))
      (fun fin s' => ∃ v, fin = .done (.ret v) ∧ Q (some v) s') (fun e s' => Shared.TypeIs s' e "StopIteration" ∧ Q none s') s) :
    wpAny (model prog w) A (pyNext (.ref it)) Q E s := by
  obtain ⟨oi, hoi, hc, hdi⟩ := id x
  unfold pyNext
  refine wpAny_bind (wpAny_attempt (wpAny_callSpecial?_slot (name := Str.ofString "__next__") x.typeIs slot_si_next (wpAny_call_entry slot_si_next x.typeIs entry_si_next ?_ (args_si_next _))))
  unfold Builtin.«set_iterator.__next__»
  refine wpAny_bind (wpAny_pure ?_)
  refine wpAny_bind (wpAny_fieldsOf hoi hdi ?_)
  show wpAny _ _ (setEntries a >>= _) _ _ s
  unfold setEntries
  refine wpAny_bind (wpAny_bind (wpAny_setState_of ho hd hf (wpAny_pure ?_)))
  dsimp only
  rw [if_neg (by simp)]
  refine wpAny_mono q (fun fin s' z => ?_) (fun e s' z => ?_)
  · obtain ⟨v, rfl, z⟩ := z
    exact ⟨v, rfl, wpAny_pure z⟩
  · exact wpAny_bind (wpAny_isInstance (T := "StopIteration") (b := true) z.1 isSubtype_stop (wpAny_pure z.2))
end
end L2

set_option Elab.async false
set_option linter.all false
set_option maxRecDepth 100000
set_option maxHeartbeats 4000000

namespace L2
open PySem PySem.Spec PyProof.Rows
section
variable {prog : Program} {w : World} {A : Around} {E : Value → Shared → Prop} {s : Shared} {a I T : Addr}
theorem Md.keep {h h' : Heap} {es : Array (Int × Value)} {ep : Nat} {t : SetTable} {os : List (Int × Value)} {i : Nat} (x : Md w h I a T es ep t os i) (k : ∀ b, b = I ∨ b = T → ∀ o, h.get? b = some o → h'.get? b = some o) : Md w h' I a T es ep t os i := by
  cases x with
  | text b e x => exact .text b e (x.at' (k I (.inl rfl)))
  | draw pl b e x y z =>
    obtain ⟨o, n, e1, e2⟩ := y
    exact .draw pl b e (x.at' (k I (.inl rfl))) ⟨o, n, k T (.inr rfl) o e1, e2⟩ z
  | tab sl b l e x y => exact .tab sl b l e (x.at' (k I (.inl rfl))) y
theorem twk_item {os : List (Int × Value)} {i : Nat} {e : Int × Value} {Q : Option Value → Shared → Prop} (x : TWk w I a T os i s.heap) (hi : os[i]? = some e) (q : ∀ h', Heap.SameBut I s.heap h' → TWk w I a T os (i + 1) h' → Q (some e.2) { s with heap := h' }) :
    wpAny (model prog w) A (pyNext (.ref I)) Q E s := by
  obtain ⟨o, es, ep, t, xs, ho, X, pm, hIa, m⟩ := x
  have done : ∀ h', Heap.SameBut I s.heap h' → Md w h' I a T es ep t os (i + 1) → Q (some e.2) { s with heap := h' } := fun h' k m' => q h' k ⟨o, es, ep, t, xs, by rw [k.2 a (fun z => hIa z.symm)]; exact ho, X, pm, hIa, m'⟩
  cases m with
  | text b eo x =>
    have hi' : (pickOrder (w.params.setOrder a ep) es)[i]? = some e := by rw [eo, Array.getElem?_toList] at hi; exact hi
    refine si_next (E1 := E) (n := 0) x ho X.dat X.fit ?_
    show wpAny _ _ (setNext a 0 i ep >>= _) _ _ _
    refine wpAny_bind (setNext_text b ho X.dat X.fit ?_)
    rw [hi']
    refine wpAny_bind (tit_set0 x fun h1 k1 x1 => wpAny_bind (tit_set1 (s := { s with heap := h1 }) x1 fun h2 k2 x2 => wpAny_pure ⟨_, rfl, done h2 (k1.trans k2) (.text b eo x2)⟩))
  | draw pl b eo x y z =>
    obtain ⟨oT, nT, hT, hTd⟩ := y
    have hlt : i < pl.length := by
      rw [← eo.1]
      exact (List.getElem?_eq_some_iff.mp hi).1
    have hpl : pl[i]? = some pl[i] := List.getElem?_eq_getElem hlt
    have he : es[pl[i]]? = some e := (eo.2 i _ hpl).symm.trans hi
    refine si_next (E1 := E) (n := 0) x ho X.dat X.fit ?_
    show wpAny _ _ (seqItems? (.ref T) >>= _) _ _ _
    refine wpAny_bind (wpAny_seqItems hT hTd ?_)
    have hpi : (pl.map fun j => rawInt (j : Nat)).toArray[i]? = some (rawInt (pl[i] : Nat)) := by simp [hlt]
    dsimp only
    rw [hpi]
    show wpAny _ _ (setNextDrawn a pl[i] ep >>= _) _ _ _
    refine wpAny_bind ?_
    unfold setNextDrawn
    refine wpAny_bind (wpAny_setState_of ho X.dat X.fit ?_)
    dsimp only
    rw [if_neg (show ¬ ((ep != ep) = true) by simp), he]
    refine wpAny_pure ?_
    refine wpAny_bind (tit_set1 x fun h2 k2 x2 => wpAny_pure ⟨_, rfl, done h2 k2 (.draw pl b eo x2 ⟨oT, nT, by rw [k2.2 T (fun q => z q.symm)]; exact hT, hTd⟩ z)⟩)
  | tab sl b l eo x y =>
    have hz : es.size = 1 ∧ i = 0 := by
      rw [eo] at hi
      have := (List.getElem?_eq_some_iff.mp hi).1
      rw [Array.length_toList] at this
      omega
    have hei : es[i]? = some e := by rw [eo, Array.getElem?_toList] at hi; exact hi
    have hps : t.place.size = 1 := by
      have := X.fit
      unfold SetTable.fits at this
      simp only [Bool.and_eq_true, beq_iff_eq] at this
      omega
    obtain ⟨j, hj⟩ : ∃ j, t.place = #[j] := by
      rcases hp : t.place with ⟨l⟩
      rw [hp] at hps
      match l, hps with
      | [j], _ => exact ⟨j, rfl⟩
    refine si_next (E1 := E) (n := 0) x ho X.dat X.fit ?_
    show wpAny _ _ (setNext a sl i ep >>= _) _ _ _
    refine wpAny_bind (setNext_tab b ho X.dat X.fit X.led l ?_)
    have hpj : t.place[i]? = some j := by rw [hj, hz.2]; rfl
    rw [y, hei, hpj]
    refine wpAny_bind (tit_set0 x fun h1 k1 x1 => wpAny_bind (tit_set1 (s := { s with heap := h1 }) x1 fun h2 k2 x2 => wpAny_pure ⟨_, rfl, done h2 (k1.trans k2) (.tab (j + 1) b l eo x2 (by rw [hj, (below_one j).2, hz.2]))⟩))
theorem twk_done {os : List (Int × Value)} {Q : Option Value → Shared → Prop} (hh : A.handled = none) (x : TWk w I a T os os.length s.heap) (q : ∀ h', Heap.ExtBut I s.heap h' → Q none { s with heap := h' }) : wpAny (model prog w) A (pyNext (.ref I)) Q E s := by
  obtain ⟨o, es, ep, t, xs, ho, X, pm, hIa, m⟩ := x
  have hn : os.length = es.size := by rw [pm.length_eq, Array.length_toList]
  have hq : ∀ h' e, Heap.ExtBut I s.heap h' → Shared.TypeIs { s with heap := h' } e "StopIteration" → Shared.TypeIs { s with heap := h' } e "StopIteration" ∧ Q none { s with heap := h' } := fun h' e k z => ⟨z, q h' k⟩
  cases m with
  | text b eo x =>
    refine si_next (E1 := E) (n := 0) x ho X.dat X.fit ?_
    show wpAny _ _ (setNext a 0 os.length ep >>= _) _ _ _
    refine wpAny_bind (setNext_text b ho X.dat X.fit ?_)
    have hi' : (pickOrder (w.params.setOrder a ep) es)[os.length]? = none := by
      have : (pickOrder (w.params.setOrder a ep) es).toList[os.length]? = none := by rw [← eo]; simp
      rwa [Array.getElem?_toList] at this
    rw [hi']
    exact si_stop hh x hq
  | draw pl b eo x y z =>
    obtain ⟨oT, nT, hT, hTd⟩ := y
    refine si_next (E1 := E) (n := 0) x ho X.dat X.fit ?_
    show wpAny _ _ (seqItems? (.ref T) >>= _) _ _ _
    refine wpAny_bind (wpAny_seqItems hT hTd ?_)
    have hpi : (pl.map fun j => rawInt (j : Nat)).toArray[os.length]? = none := by simp [eo.1]
    dsimp only
    rw [hpi]
    refine wpAny_bind (tit_set0 x fun h1 k1 x1 => ?_)
    refine si_stop (s := { s with heap := h1 }) hh x1 fun h' e k z => hq h' e (k1.extBut.trans k) z
  | tab sl b l eo x y =>
    refine si_next (E1 := E) (n := 0) x ho X.dat X.fit ?_
    show wpAny _ _ (setNext a sl os.length ep >>= _) _ _ _
    refine wpAny_bind (setNext_tab b ho X.dat X.fit X.led l ?_)
    have hei : es[os.length]? = none := by rw [hn]; simp
    rw [y, hei]
    exact si_stop hh x hq
theorem walks_tset (hh : A.handled = none) (I a T : Addr) (os : List (Int × Value)) : Walks prog w A I [I, a, T] [I] os.length (fun i v => ∃ e, os[i]? = some e ∧ v = e.2) (fun i h => TWk w I a T os i h) where
  sub := fun b hb => by simp at hb; simp [hb]
  frame := fun i h h' st hk => by
    obtain ⟨o, es, ep, t, xs, ho, X, pm, hIa, m⟩ := st
    exact ⟨o, es, ep, t, xs, hk a (by simp) o ho, X, pm, hIa, m.keep fun b hb o e => hk b (by rcases hb with rfl | rfl <;> simp) o e⟩
  item := fun i s Q E hi st hQ => by
    refine twk_item st (List.getElem?_eq_getElem hi) fun h' k st' => ?_
    exact hQ _ h' s.toks ⟨_, List.getElem?_eq_getElem hi, rfl⟩ st' fun b o hb e => k.extBut b o (fun h => hb (by simp [h])) e
  done := fun s Q E st hQ => twk_done hh st fun h' he' => hQ h' s.toks fun b o hb e => he' b o (fun h => hb (by simp [h])) e
  self := fun i s Q E st hQ => by
    obtain ⟨o, es, ep, t, xs, ho, X, pm, hIa, m⟩ := st
    have hT : s.TypeIs (.ref I) "set_iterator" := by
      cases m with
      | text b e x => exact x.typeIs
      | draw pl b e x y z => exact x.typeIs
      | tab sl b l e x y => exact x.typeIs
    refine wpAny_pyIter_slot hT slot_si_iter (wpAny_call_entry slot_si_iter hT entry_si_iter ?_ (args_si_iter _))
    show wpAny _ _ (ret (.ref I)) _ _ s
    exact wpAny_pure ⟨_, rfl, "set_iterator", _, hT, slot_si_next.lookup, hQ⟩
theorem pl_get {es : Array (Int × Value)} : ∀ {pl : List Nat}, (∀ j ∈ pl, j < es.size) → (pl.filterMap (es[·]?)).length = pl.length ∧ ∀ (k j : Nat), pl[k]? = some j → (pl.filterMap (es[·]?))[k]? = es[j]?
  | [], _ => ⟨rfl, fun k j h => by cases h⟩
  | p :: r, h => by
    have hps : p < es.size := h p (by simp)
    have hp : es[p]? = some es[p] := Array.getElem?_eq_getElem hps
    obtain ⟨h1, h2⟩ := pl_get (pl := r) fun j hj => h j (List.mem_cons_of_mem _ hj)
    rw [List.filterMap_cons_some hp]
    refine ⟨by simp [h1], fun k j hk => ?_⟩
    cases k with
    | zero => cases hk; exact hp.symm
    | succ k => exact h2 k j hk
/-- iter of a set of texts -/
theorem pyIter_tset {xs : List Str} {Q : Value → Shared → Prop} (x : TxS w s.heap a xs) (hQ : ∀ I T d h' os, s.heap.objs.size ≤ I → (∀ b o, s.heap.get? b = some o → h'.get? b = some o) → (T = a ∨ s.heap.objs.size ≤ T) → TWk w I a T os 0 h' → (os.map keyE).Perm xs → (∀ e ∈ os, GoodE w e) → Q (.ref I) { s with heap := h', drawn := d }) :
    wpAny (model prog w) A (pyIter (.ref a)) Q E s := by
  obtain ⟨o, es, ep, t, ho, X⟩ := id x
  have hlt := Heap.lt_size ho
  refine wpAny_pyIter_slot x.typeIs PySem.F.slot_set_iter (wpAny_call_entry PySem.F.slot_set_iter x.typeIs entry_set_iter' ?_ (PySem.F.args_set_iter_1 _))
  unfold Builtin.«frozenset.__iter__»
  refine wpAny_bind (m := Builtin.Frozenset.slot0 _ _) (wpAny_pure ?_)
  refine wpAny_bind ?_
  unfold Builtin.Frozenset.sizeOf setEntries
  refine wpAny_bind (wpAny_bind (wpAny_setState_of ho X.dat X.fit (wpAny_pure (wpAny_pure ?_))))
  refine wpAny_bind ?_
  unfold setDrawn
  refine wpAny_bind (wpAny_setState_of ho X.dat X.fit ?_)
  refine wpAny_bind (m := setsByText) (wpAny_bind (wpAny_askSetting (wpAny_pure ?_)))
  show wpAny _ _ (pure (!setBy w && (!t.plain && decide (es.size > 1)))) _ _ _
  refine wpAny_pure ?_
  have fin : ∀ (f : Value) (d : _) (h1 : Heap), (∀ b o, s.heap.get? b = some o → h1.get? b = some o) → s.heap.objs.size ≤ h1.objs.size →
      (∀ h', (∀ b o, h1.get? b = some o → h'.get? b = some o) → TIt h' h1.objs.size a ep es.size f 0 → h1.objs.size < h'.objs.size → ∃ T os, (T = a ∨ s.heap.objs.size ≤ T) ∧ os.Perm es.toList ∧ Md w h' h1.objs.size a T es ep t os 0) →
      wpAny (model prog w) A.in1 (setEpoch a >>= fun e => newFields "set_iterator" [f, rawInt 0, .ref a, rawInt es.size, rawInt e] >>= fun v => ret v) (fun fin s' => ∃ v, fin = .done (.ret v) ∧ ∃ T r, s'.TypeIs v T ∧ typeLookup (.type T) "__next__" = pure (some r) ∧ Q v s') E { s with heap := h1, drawn := d } := by
    intro f d h1 k1 hz hm
    refine wpAny_bind ?_
    unfold setEpoch
    refine wpAny_bind (wpAny_setState_of (s := { s with heap := h1, drawn := d }) (k1 a o ho) X.dat X.fit (wpAny_pure ?_))
    refine wpAny_bind (wpAny_newObj_type ?_)
    have ht : TIt (h1.push { cls := .type "set_iterator", data := .fields #[f, rawInt 0, .ref a, rawInt es.size, rawInt ep] }) h1.objs.size a ep es.size f 0 := ⟨_, Heap.get?_push_size _ rfl, rfl, rfl⟩
    obtain ⟨T, os, hT, pm, m⟩ := hm _ (fun b o e => Heap.get?_push_of_some _ e) ht (by rw [Heap.size_push]; exact Nat.lt_succ_self _)
    refine wpAny_pure ⟨_, rfl, "set_iterator", _, ht.typeIs (s := { s with heap := _, drawn := d }), slot_si_next.lookup, ?_⟩
    refine hQ h1.objs.size T d _ os hz (fun b o e => Heap.get?_push_of_some _ (k1 b o e)) hT ⟨o, es, ep, t, xs, Heap.get?_push_of_some _ (k1 a o ho), X, pm, Nat.ne_of_gt (Nat.lt_of_lt_of_le hlt hz), m⟩ ((pm.map keyE).trans X.perm) fun e he => X.good e (pm.mem_iff.mp he)
  cases hb : (!setBy w && (!t.plain && decide (es.size > 1))) with
  | false =>
    rw [if_neg Bool.false_ne_true]
    refine wpAny_bind (m := pure (rawInt 0)) (wpAny_pure ?_)
    refine fin (rawInt 0) s.drawn s.heap (fun b o e => e) (Nat.le_refl _) fun h' k ht hl => ?_
    cases hw : setBy w with
    | true => exact ⟨a, _, .inl rfl, pickOrder_perm _ _, .text hw rfl ht⟩
    | false =>
      have hs : es.size ≤ 1 := by
        refine Nat.le_of_not_lt fun z => ?_
        rw [hw, X.pl (by omega), decide_eq_true (by omega : es.size > 1)] at hb
        cases hb
      refine ⟨a, _, .inl rfl, .refl _, .tab 0 hw hs rfl ht ?_⟩
      have hps : t.place.size = es.size := by
        have := X.fit
        unfold SetTable.fits at this
        simp only [Bool.and_eq_true, beq_iff_eq] at this
        exact this.1
      rcases hp : t.place with ⟨l⟩
      rw [hp] at hps
      match l, hps with
      | [], _ => rfl
      | [j], _ => exact (below_one j).1
      | _ :: _ :: _, z => simp at z; omega
  | true =>
    have hw : setBy w = false := by cases hw : setBy w with | false => rfl | true => rw [hw] at hb; cases hb
    rw [if_pos rfl]
    refine wpAny_bind (wp_drawOrder es.size (List.range es.size) s _ (by simp) fun pl d hp => ?_)
    have hsz : es.size ≤ sizeLine := fits_of_scanBound X.bnd
    refine wpAny_bind (wpAny_newTuple ?_ (by rw [List.length_map, hp.length_eq, List.length_range]; exact hsz))
    have hpl : ∀ j ∈ pl, j < es.size := fun j hj => List.mem_range.mp (hp.mem_iff.mp hj)
    obtain ⟨g1, g2⟩ := pl_get hpl
    refine fin (.ref s.heap.objs.size) d (s.heap.push { cls := .type "tuple", data := .seq (pl.map fun (i : Nat) => rawInt i).toArray }) (fun b o e => Heap.get?_push_of_some _ e) (by rw [Heap.size_push]; exact Nat.le_succ _) fun h' k ht hl => ?_
    refine ⟨s.heap.objs.size, pl.filterMap (es[·]?), .inr (Nat.le_refl _), ?_, .draw pl hw ⟨g1, g2⟩ ht ⟨_, 0, k _ _ (Heap.get?_push_size _ rfl), rfl⟩ (Nat.ne_of_gt (by rw [Heap.size_push]; exact Nat.lt_succ_self _))⟩
    exact (hp.filterMap _).trans (by rw [filterMap_getElem?_range])
end
end L2

set_option Elab.async false
set_option linter.all false
set_option maxRecDepth 100000
set_option maxHeartbeats 4000000

namespace L2
open PySem PySem.Spec PyProof.Rows
/-! ### a set of texts, collected and sorted -/
theorem strs_of {w : World} : ∀ {os : List (Int × Value)}, (∀ e ∈ os, GoodE w e) → StrsAre (os.map (·.2)) (os.map keyE)
  | [], _ => .nil
  | e :: r, h => by
    obtain ⟨y, tk, rfl⟩ := h e (by simp)
    exact .cons y tk (strs_of fun e he => h e (List.mem_cons_of_mem _ he))
section
variable {prog : Program} {w : World} {A : Around} {E : Value → Shared → Prop} {s : Shared} {a : Addr}
theorem tset_extend {xs : List Str} {R : Result → Shared → Prop} (hh : A.handled = none) (x : TxS w s.heap a xs) (S : Addr) (hSa : S ≠ a) (res : Value) (c₀ : Nat) (hS : s.heap.get? S = some { cls := .type "list", data := .seq #[] c₀ })
    (hR : ∀ (h' : Heap) (tk : Nat) (d : Drawn) (os : List (Int × Value)) (acc : Array Value) (c' : Nat), (∀ b o, b ≠ S → s.heap.get? b = some o → h'.get? b = some o) → h'.get? S = some { cls := .type "list", dict := none, data := .seq acc c', slots := #[] } → acc.toList = os.map (·.2) → (os.map keyE).Perm xs → (∀ e ∈ os, GoodE w e) → R (.ok (.ret res)) { s with heap := h', toks := tk, drawn := d }) (hn : xs.length ≤ sizeLine) :
    wpAny (model prog w) A.in1 (Builtin.List.listExtendWith (.ref S) (.ref a) res) (fun fin s' => match fin with | .done f => R (.ok f) s' | .again c' => c'.quiet = true ∧ codeAny (model prog w) A c' R s') (fun e s' => R (.error e) s') s := by
  unfold Builtin.List.listExtendWith
  refine wpAny_bind (wpAny_typeOf (T := "set") x.typeIs ?_)
  have h1 : Builtin.List.listSameRef (.ref S) (.ref a) = false := by simp [Builtin.List.listSameRef, hSa]
  have h2 : (Value.type "set" == Value.type "list") = false := by decide
  have h3 : (Value.type "set" == Value.type "tuple") = false := by decide
  simp only [h1, h2, h3, Bool.or_false, Bool.false_eq_true, if_false]
  refine wpAny_bind (pyIter_tset x fun I T d hp os hI kp hT st pm gd => ?_)
  have hlS := Heap.lt_size hS
  have ln : os.length = xs.length := by have := pm.length_eq; rwa [List.length_map] at this
  have hST : S ≠ T := fun z => hT.elim (fun q => hSa (z.trans q)) fun q => absurd (Nat.lt_of_lt_of_le (z ▸ hlS) q) (Nat.lt_irrefl _)
  have hSf : S ∉ [I, a, T] := by
    simp only [List.mem_cons, List.not_mem_nil, or_false, not_or]
    exact ⟨Nat.ne_of_lt (Nat.lt_of_lt_of_le hlS hI), hSa, hST⟩
  have W := walks_tset (prog := prog) (w := w) (A := A.in1) hh I a T os
  have key : ∀ (h : Heap) (c₁ tk : Nat), TWk w I a T os 0 h → (∀ b o, b ≠ S → s.heap.get? b = some o → h.get? b = some o) → h.get? S = some { cls := .type "list", data := .seq #[] c₁ } →
      codeAny (model prog w) A (.builtin "list.extend.loop" ⟨[.ref S, .ref I, res], []⟩) R { s with heap := h, toks := tk, drawn := d } := by
    intro h c₁ tk hst hk hS₁
    refine codeAny_extend_loopS W.toS (by omega) S hSf res os.length 0 _ #[] c₁ rfl (Nat.zero_le _) hst hS₁ (ItemsOf.nil _) fun s' acc' c' hm hS' hacc => ?_
    rw [Moved.eq_with hm]
    refine hR s'.heap s'.toks d os acc' c' (fun b o hb e => hm.heap b o (fun hmem => ?_) (hk b o hb e)) hS' ?_ pm gd
    · rcases List.mem_cons.mp hmem with e' | hmem
      · exact hb e'
      · have hlt := Heap.lt_size e
        rw [List.mem_singleton.mp hmem] at hlt
        exact absurd (Nat.lt_of_lt_of_le hlt hI) (Nat.lt_irrefl _)
    · refine List.ext_getElem? fun j => ?_
      rw [Array.getElem?_toList, List.getElem?_map]
      by_cases hj : j < os.length
      · have hja : j < acc'.size := by rw [hacc.1]; exact hj
        obtain ⟨e, he, hv⟩ := hacc.2 j _ (Array.getElem?_eq_getElem hja)
        rw [he, Array.getElem?_eq_getElem hja, hv]
        rfl
      · rw [Array.getElem?_eq_none (by rw [hacc.1]; omega), List.getElem?_eq_none (by omega)]
        rfl
  have hS₁ := kp _ _ hS
  refine wpAny_bind (wpAny_holding (hint_set (TxS.typeIs (s := { s with heap := hp, drawn := d }) (x.at' fun o e => kp a o e)) ?_))
  refine wpAny_ite_split (fun _ => ?_) (fun _ => wpAny_pure ⟨plainId_quiet PySem.F.plain_extend_loop _, key _ c₀ _ st (fun b o _ e => kp b o e) hS₁⟩)
  refine wpAny_bind (wpAny_rule (wpAny_bind ?_))
  show wpAny _ _ (updateSeq S (·.push .none) >>= fun _ => updateSeq S (·.pop)) _ _ _
  refine wpAny_bind (wpAny_updateSeq (s := { s with heap := hp, drawn := d }) hS₁ rfl ?_)
  have hS₂ := Heap.get?_update_self (Obj.mapSeq (·.push Value.none)) hS₁ rfl
  refine wpAny_updateSeq (hz := by seq_fits) hS₂ rfl ?_
  have hS₃ := Heap.get?_update_self (Obj.mapSeq (·.pop)) hS₂ rfl
  refine wpAny_pure ⟨plainId_quiet PySem.F.plain_extend_loop _, key _ _ _ (W.frame 0 _ _ st fun b hb o e => ?_) (fun b o hb e => ?_) hS₃⟩
  · have hbS : b ≠ S := fun h => hSf (h ▸ hb)
    exact (Heap.get?_update_other _ _ (Ne.symm hbS)).trans ((Heap.get?_update_other _ _ (Ne.symm hbS)).trans e)
  · exact (Heap.get?_update_other _ _ (Ne.symm hb)).trans ((Heap.get?_update_other _ _ (Ne.symm hb)).trans (kp b o e))
theorem tset_collect {xs : List Str} {R : List Value → Shared → Prop} (hh : A.handled = none) (x : TxS w s.heap a xs)
    (h : ∀ (h' : Heap) (tk : Nat) (d : Drawn) (us : List Value) (ys : List Str), (∀ b o, s.heap.get? b = some o → h'.get? b = some o) → StrsAre us ys → ys.Perm xs → R us { s with heap := h', toks := tk, drawn := d }) (hn : xs.length ≤ sizeLine) : wpAny (model prog w) A (collect (.ref a)) R E s := by
  obtain ⟨o, _, _, _, ho, _⟩ := id x
  have hlt := Heap.lt_size ho
  unfold collect
  refine wpAny_bind (wpAny_runValue (codeAny_builtin PyProof.Rows.entry_proto_collect' ?_))
  rw [Around.under_plainId PySem.F.plain_proto_collect _]
  show wpAny _ A.in1 (newList [] >>= fun l => again (.builtin "list.__iadd__" ⟨[l, .ref a], []⟩)) _ _ s
  refine wpAny_bind (wpAny_newObj_type (wpAny_pure ⟨plainId_quiet PySem.F.plain_list_iadd _, codeAny_builtin PyProof.Rows.entry_list_iadd' ?_⟩))
  rw [Around.under_plainId PySem.F.plain_list_iadd _]
  show wpAny _ A.in1 (Builtin.List.listExtendWith (.ref s.heap.objs.size) (.ref a) (.ref s.heap.objs.size)) _ _ _
  have key := tset_extend (prog := prog) (A := A) (s := { s with heap := s.heap.push { cls := .type "list", data := .seq ([] : List Value).toArray } })
    (R := fun (q : Result) (s' : Shared) => ∃ (h' : Heap) (tk : Nat) (d : Drawn) (os : List (Int × Value)) (acc : Array Value) (c' : Nat), q = .ok (.ret (.ref s.heap.objs.size)) ∧ s' = { s with heap := h', toks := tk, drawn := d } ∧ (∀ b o, s.heap.get? b = some o → h'.get? b = some o) ∧
      h'.get? s.heap.objs.size = some { cls := .type "list", dict := none, data := .seq acc c', slots := #[] } ∧ acc.toList = os.map (·.2) ∧ (os.map keyE).Perm xs ∧ ∀ e ∈ os, GoodE w e)
    hh (x.at' fun o e => Heap.get?_push_of_some _ e) s.heap.objs.size (Nat.ne_of_gt hlt) (.ref s.heap.objs.size) 0 (Heap.get?_push_size _ rfl)
    (fun h' tk d os acc c' hk hS' e1 e2 e3 => ⟨h', tk, d, os, acc, c', rfl, rfl, fun b o e => hk b o (Nat.ne_of_lt (Heap.lt_size e)) (Heap.get?_push_of_some _ e), hS', e1, e2, e3⟩) hn
  refine wpAny_mono key (fun fin s' z => ?_) fun e s' z => ?_
  · cases fin with
    | done f =>
      obtain ⟨h', tk, d, os, acc, c', e, rfl, hk, hS', e1, e2, e3⟩ := z
      cases e
      show wpAny _ A (load s.heap.objs.size >>= _) _ _ _
      refine wpAny_bind (wpAny_load (s := { s with heap := h', toks := tk, drawn := d }) hS' (wpAny_pure ?_))
      exact h h' tk d _ _ hk (by rw [e1]; exact strs_of e3) e2
    | again c₁ =>
      refine ⟨z.1, codeAny_mono z.2 fun q s₂ y => ?_⟩
      obtain ⟨h', tk, d, os, acc, c', rfl, rfl, hk, hS', e1, e2, e3⟩ := y
      show wpAny _ A (load s.heap.objs.size >>= _) _ _ _
      refine wpAny_bind (wpAny_load (s := { s with heap := h', toks := tk, drawn := d }) hS' (wpAny_pure ?_))
      exact h h' tk d _ _ hk (by rw [e1]; exact strs_of e3) e2
  · obtain ⟨_, _, _, _, _, _, e', _⟩ := z
    cases e'
/-- sorted of what collects to texts, with draws -/
theorem sorted_collectsD {r : Addr} {Q : Value → Shared → Prop} (hcol : wpAny (model prog w) A.in1 (collect (.ref r)) (fun us s' => ∃ (ys : List Str) (h' : Heap) (tk : Nat) (d : Drawn), s' = { s with heap := h', toks := tk, drawn := d } ∧ StrsAre us ys ∧ us.length < 64 ∧
      ∀ (h2 : Heap) (out : List Value) (ys' : List Str) (e : Nat), (∀ b o, h'.get? b = some o → h2.get? b = some o) → h2.get? h'.objs.size = some (seqObj "list" out.toArray e) → StrsAre out ys' → ys'.Perm ys → sortedS ys' = true → Q (.ref h'.objs.size) { s with heap := h2, toks := tk, drawn := d }) E s) :
    wpAny (model prog w) A (call (.builtin "sorted") [.ref r]) Q E s := by
  refine Calls.call_function_entry kind_sorted plain_sorted entry_sorted (args_sorted1 _) ?_
  unfold Builtin.«sorted»
  refine wpAny_bind (m := checkCount "sorted" 1 1 _) (wpAny_pure ?_)
  refine wpAny_bind (wpAny_mono hcol (fun us s' ⟨ys, h', tk, d, es, hS, h64, fin⟩ => ?_) fun _ _ e => e)
  subst es
  refine wpAny_bind (wpAny_newList ?_ (by rw [sizeLine_eq]; omega))
  have hoL : (h'.push (seqObj "list" us.toArray 0)).get? h'.objs.size = some (seqObj "list" us.toArray 0) := Heap.get?_push_size _ rfl
  show wpAny _ _ _ _ _ { s with heap := h'.push (seqObj "list" us.toArray 0), toks := tk, drawn := d }
  refine wpAny_bind (wpAny_holding (wpAny_call_entry slot_list_sort ⟨_, hoL, rfl⟩ entry_list_sort (list_sort_treeK strKind_oneLt hoL hS.keysOf (fun v₁ v₂ rest e => keyKind_strs (by rw [← e]; exact hS)) h64 fun st' a1 a2 => ⟨_, rfl, ?_⟩) (args_list_sort _)))
  obtain ⟨ys', h1, h2, h3⟩ := sorted_out_str hS a1 a2
  obtain ⟨e, he⟩ := sortedHeap_at (vs := us) (out := (arrOf st').map (·.2)) hoL
  refine wpAny_pure ⟨_, rfl, fin _ ((arrOf st').map (·.2)).toList ys' e (fun b o q => ?_) (by rw [Array.toArray_toList]; exact he) h1 h2 h3⟩
  have hb := Heap.lt_size q
  rw [sortedHeap_old (Nat.ne_of_lt hb) (by rw [Heap.size_push]; exact Nat.lt_succ_of_lt hb)]
  exact Heap.get?_push_of_some _ q
end
/-- a set of texts, in the tracked heap -/
def tset (w : World) (a : Addr) (xs : List Str) : HO := .ext fun h => TxS w h a xs
theorem tset_ok {P : Program} {w : World} {H : Hp} {h : Heap} {a : Addr} {xs : List Str} (x : TxS w h a xs) : ObjOk P w H h a (tset w a xs) :=
  ⟨x, let ⟨o, _, _, _, e, _⟩ := x; ⟨o, e⟩, fun _ _ z k => z.at' k⟩
theorem tset_rd {P : Program} {w : World} {H : Hp} {h : Heap} {a : Addr} {xs : List Str} (ok : HOk P w H h) (e : H a = some (tset w a xs)) : TxS w h a xs := (show ObjOk P w H h a (tset w a xs) from ok a _ e).1
section
variable {X : Cx} {pins : List (Addr × Obj)} {σ : List (Option V)} {H : Hp} {s : Shared}
theorem Inv.drew {d : Drawn} (I : Inv X pins σ H s) : Inv X pins σ H { s with drawn := d } := ⟨I.ok, I.os, I.bare, I.base, I.loc, I.cell, I.free, I.freeC, I.pin, I.hok, I.len⟩
/-- sorted of a set of texts -/
theorem call_sortedY (hc : X.calm = true) : CallR X (.builtin "sorted") (fun vs H Q => ∃ p xs, vs = [.ref p] ∧ H p = some (tset X.w p xs) ∧ xs.length < 64 ∧ ∀ ys, ys.Perm xs → sortedS ys = true → New H (.lst (ys.map V.str)) Q) := by
  intro pins s σ H xs us Q I r h
  obtain ⟨p, zs, rfl, e, h64, q⟩ := h
  obtain ⟨u, rfl, ru⟩ := vals1 r
  cases ru
  refine sorted_collectsD (tset_collect (I.ok.hd hc) (tset_rd I.hok e) (fun h' tk d us ys k hs hp => ?_) (smallL (by omega)))
  have hl := hp.length_eq
  have hl2 := StrsAre.length hs
  have I' : Inv X pins σ H { s with heap := h', toks := tk, drawn := d } := (I.kept (t' := tk) k).drew
  refine ⟨ys, h', tk, d, rfl, hs, by omega, fun h2 out ys' e' k2 he hS' hp' hs' => ?_⟩
  have hl3 := hp'.length_eq
  exact ⟨.ref h'.objs.size, _, inv_sorted (s := { s with drawn := d }) I' k2 he hS' (smallL (by omega)), rfl, (q ys' (hp'.trans hp) hs').at _ (I'.hok.fresh (Nat.le_refl _))⟩
end
end L2

set_option Elab.async false
set_option linter.all false
set_option maxRecDepth 100000
set_option maxHeartbeats 4000000

namespace L2
open PySem PySem.Spec PyProof.Rows
/-! ### sets of texts, laid anew, filled of one another -/
section
variable {prog : Program} {w : World} {A : Around} {E : Value → Shared → Prop} {s : Shared} {a : Addr}
theorem tset_fresh : TObj w { cls := .type "set", dict := none, data := .set #[] 0 (.fresh 0 0 (!setBy w)) } #[] 0 (.fresh 0 0 (!setBy w)) [] :=
  ⟨⟨rfl, rfl, rfl⟩, rfl, (fun e he => by cases he), .nil, .nil, by decide, rfl, rfl, fun h => absurd rfl h, fun _ => .inl rfl⟩
end
end L2

set_option Elab.async false
set_option linter.all false
set_option maxRecDepth 100000
set_option maxHeartbeats 4000000

namespace L2
open PySem PySem.Spec PyProof.Rows
section
variable {prog : Program} {w : World} {A : Around} {E : Value → Shared → Prop} {s : Shared} {a f : Addr}
end
end L2

set_option Elab.async false
set_option linter.all false
set_option maxRecDepth 100000
set_option maxHeartbeats 4000000

namespace L2
open PySem PySem.Spec PyProof.Rows
theorem nodup_len {α : Type} [DecidableEq α] : ∀ {xs ys : List α}, xs.Nodup → (∀ z ∈ xs, z ∈ ys) → xs.length ≤ ys.length
  | [], ys, _, _ => Nat.zero_le _
  | x :: xs, ys, hn, h => by
    have hx := h x (by simp)
    have hn' := List.nodup_cons.mp hn
    have := nodup_len (xs := xs) (ys := ys.erase x) hn'.2 fun z hz => (List.mem_erase_of_ne (fun e => hn'.1 (by rw [← e]; exact hz))).mpr (h z (List.mem_cons_of_mem _ hz))
    rw [List.length_erase_of_mem hx] at this
    have hp : 0 < ys.length := List.length_pos_of_mem hx
    rw [List.length_cons]
    omega
section
variable {prog : Program} {w : World} {A : Around} {E : Value → Shared → Prop} {s : Shared} {a f : Addr}
end
end L2

set_option Elab.async false
set_option linter.all false
set_option maxRecDepth 100000
set_option maxHeartbeats 4000000

namespace L2
open PySem PySem.Spec PyProof.Rows
section
variable {prog : Program} {w : World} {A : Around} {E : Value → Shared → Prop} {s : Shared} {a f : Addr}
/-- an empty set, as it is laid -/
def newS (w : World) : Obj := { cls := .type "set", dict := none, data := .set #[] 0 (.fresh 0 0 (!setBy w)) }
theorem code_set_newT (v : Value) {Q₁ : Value → Shared → Prop} (h : Q₁ (.ref s.heap.objs.size) { s with heap := s.heap.push (newS w) }) : codeAny (model prog w) A (.call (.builtin "set.__new__") ⟨[.type "set", v], []⟩) (wants Q₁ E) s := by
  refine codeAny_of_tree ?_
  show wpAny _ A.in1 (do { checkBuiltinCall "set.__new__" ⟨[.type "set", v], []⟩; again (.builtin "set.__new__" ⟨[.type "set", v], []⟩) }) _ _ s
  refine wpAny_bind (wpAny_of_eq (PySem.F.newCall_set_1 v) (wpAny_pure ⟨plainId_quiet PySem.F.plain_set_new _, codeAny_builtin PySem.F.entry_set_new ?_⟩))
  rw [Around.under_plainId PySem.F.plain_set_new _]; unfold Builtin.«set.__new__» Builtin.Frozenset.newClass
  have hsub := sub_set_self; obtain ⟨hp, g, d, tk, os⟩ := s; dsimp only
  wp_walk
  refine wpAny_askSetting (wpAny_pure ?_); dsimp only; simp only [newObj]
  exact wpAny_bind (wpAny_alloc (wpAny_pure (wpAny_pure h)))
/-- set(v), by what it is filled with -/
theorem call_set_by {v : Value} {Q : Value → Shared → Prop} (hq : ∀ A' : Around, A'.handled = A.handled → wpAny (model prog w) A' (Builtin.Frozenset.updateFrom "set.__init__" s.heap.objs.size v) (fun _ s' => Q (.ref s.heap.objs.size) s') E { s with heap := s.heap.push (newS w) }) :
    wpAny (model prog w) A (call (.type "set") [v]) Q E s := by
  obtain ⟨c, tl, hmro⟩ := PySem.F.called_set.mro; have hmade := PySem.F.called_set.made; have hsub := PySem.F.called_set.sub
  refine wpAny_call (codeAny_of_tree ?_)
  show wpAny _ _ (callAny (.type "set") _) _ _ _
  refine wpAny_pure ⟨Code.quiet_builtin _ (by decide +kernel), codeAny_builtin PySem.F.entry_type_call ?_⟩
  rw [Around.under_plain (weight_type_call_type "set" [v] []) rfl]
  have h1 := PySem.F.called_set.notType; have h2 := PySem.F.called_set.canCreate; have hct := PySem.F.typeCall_set_1 v
  repeat (any_goals (first | assumption | wp_step))
  refine codeAny_mono (code_set_newT v (E := E) (Q₁ := fun obj s₁ => obj = .ref s.heap.objs.size ∧ s₁ = { s with heap := s.heap.push (newS w) }) ⟨rfl, rfl⟩) fun r s₁ hr => ?_
  cases r with
  | error e => exact hr
  | ok fl =>
    cases fl with
    | ret obj =>
      obtain ⟨rfl, rfl⟩ := hr
      have hS : (s.heap.push (newS w)).get? s.heap.objs.size = some (newS w) := Heap.get?_push_size _ rfl
      have hT : Shared.TypeIs { s with heap := s.heap.push (newS w) } (.ref s.heap.objs.size) "set" := ⟨_, hS, rfl⟩
      have hli := PySem.F.called_set.init.lookup; have hbi := PySem.F.called_set.init.bind (.ref s.heap.objs.size)
      repeat (any_goals (first | assumption | wp_step))
      refine codeAny_mono (codeAny_call_builtin (R := wants (fun r s₂ => r = .none ∧ Q (.ref s.heap.objs.size) s₂) E) PySem.F.called_set.init.plain PySem.F.entry_set_init (check_set_init_1 hT ?_)) fun r₂ s₂ hr₂ => ?_
      · unfold Builtin.«set.__init__» noKeywords
        have hq' := hq
        generalize hUF : Builtin.Frozenset.updateFrom = UF at hq' ⊢
        have hS' : (s.heap.push (newS w)).get? s.heap.objs.size = some { cls := .type "set", dict := none, data := .set #[] 0 (.fresh 0 0 (!setBy w)) } := hS
        wp_walk
        exact wpAny_mono (hq' _ rfl) (fun _ s' z => wpAny_pure ⟨rfl, z⟩) fun _ _ e => e
      · cases r₂ with
        | error e => exact hr₂
        | ok fl₂ =>
          cases fl₂ with
          | ret r =>
            obtain ⟨rfl, z⟩ := hr₂
            repeat (any_goals (first | assumption | wp_step))
          | _ => exact hr₂.elim
    | _ => exact hr.elim
theorem any_list {v : Value} {Q : Bool → Shared → Prop} (hT : s.TypeIs v "list") (q : Q false s) : wpAny (model prog w) A (Builtin.Frozenset.isAnySet v) Q E s := by
  unfold Builtin.Frozenset.isAnySet
  show wpAny _ _ (isInstance v (.type "set") >>= _) _ _ _
  refine wpAny_bind (wpAny_isInstance (T := "list") (b := false) hT PySem.F.sub_list_set ?_)
  exact wpAny_isInstance (T := "list") (b := false) hT PySem.F.sub_list_frozenset q
/-- the loop that fills a set -/
theorem tset_loop {R : Result → Shared → Prop} {I S : Addr} {fp wr : List Addr} {n : Nat} {P : Nat → Value → Prop} {St : Nat → Heap → Prop} (W : Walks prog w A.in1 I fp wr n P St) (hSf : S ∉ fp) {ys : List Str} (hv : ∀ i v, P i v → ∃ y tk, ys[i]? = some y ∧ v = .str y tk) (hb : n ≤ 500) (hn : ys.length = n) :
    ∀ (k i : Nat) (s : Shared) (xs : List Str), n - i = k → i ≤ n → St i s.heap → TxS w s.heap S xs → xs.length ≤ i → (∀ h' tk zs, (∀ b o, b ≠ S → b ∉ wr → s.heap.get? b = some o → h'.get? b = some o) → TxS w h' S zs → (∀ z, z ∈ zs ↔ z ∈ xs ∨ z ∈ ys.drop i) → R (.ok (.ret .none)) { s with heap := h', toks := tk }) →
      codeAny (model prog w) A (.builtin "set.update.loop" ⟨[.ref S, .ref I], []⟩) R s := by
  have hSw : S ∉ wr := fun h => hSf (W.sub _ h)
  intro k
  induction k with
  | zero =>
    intro i s xs hk hi hst hS hl hR
    have hin : i = n := by omega
    subst hin
    refine codeAny_builtin PyProof.Rows.F.entry_set_update_loop ?_
    rw [Around.under_plainId PyProof.Rows.F.plain_set_update_loop _]; show wpAny _ A.in1 (pyNext (.ref I) >>= _) _ _ s
    refine wpAny_bind (W.done s _ _ hst fun h' tk hm => ?_)
    show wpAny _ A.in1 (ret Value.none) _ _ _
    exact wpAny_pure (hR h' tk xs (fun b o _ hb e => hm b o hb e) (hS.at' fun o e => hm S o hSw e) fun z => by rw [List.drop_eq_nil_of_le (by omega)]; simp)
  | succ k ih =>
    intro i s xs hk hi hst hS hl hR
    have hlt : i < n := by omega
    refine codeAny_builtin PyProof.Rows.F.entry_set_update_loop ?_
    rw [Around.under_plainId PyProof.Rows.F.plain_set_update_loop _]; show wpAny _ A.in1 (pyNext (.ref I) >>= _) _ _ s
    refine wpAny_bind (W.item i s _ _ hlt hst fun v h1 tk1 hP hst' hm => ?_)
    obtain ⟨y, tk, hy, rfl⟩ := hv i v hP
    have hS' : TxS w h1 S xs := hS.at' fun o e => hm S o hSw e
    show wpAny _ A.in1 (holding [Value.str y tk] (setAdd S (.str y tk)) >>= _) _ _ _
    refine wpAny_bind (wpAny_holding ?_)
    unfold setAdd
    refine wpAny_holding (wpAny_bind ((mixKind prog w).pyHash (k := .inr y) (mixKind_str prog w y tk) ?_))
    refine tset_add (s := { s with heap := h1, toks := tk1 + 1 }) hS' (by omega) fun b h2 k2 S2 => ?_
    have ld := addS_len xs y
    have hd : ys.drop i = y :: ys.drop (i + 1) := by
      obtain ⟨hi', e⟩ := List.getElem?_eq_some_iff.mp hy
      rw [← e]
      exact List.drop_eq_getElem_cons hi'
    refine wpAny_pure ⟨plainId_quiet PyProof.Rows.F.plain_set_update_loop _, ih (i + 1) { s with heap := h2, toks := tk1 + 1 } (addS xs y) (by omega) hlt (W.frame _ h1 _ hst' fun b hb o e => ?_) S2 (by omega) fun h' tk' zs kk Z mem => ?_⟩
    · rw [k2.2 b (fun h : b = S => hSf (by rw [← h]; exact hb))]; exact e
    · refine hR h' tk' zs (fun b o hb hw e => kk b o hb hw ?_) Z fun z => ?_
      · rw [k2.2 b hb]; exact hm b o hw e
      · rw [mem z, addS_mem, hd, List.mem_cons]
        constructor
        · rintro ((p | p) | p)
          · exact .inl p
          · exact .inr (.inl p)
          · exact .inr (.inr p)
        · rintro (p | p | p)
          · exact .inl (.inl p)
          · exact .inl (.inr p)
          · exact .inr p
/-- set(l), l a list of texts -/
theorem call_set_listT {l : Addr} {items : Array Value} {ys : List Str} {Q : Value → Shared → Prop} (hh : A.handled = none) (hl : s.heap.IsList l items) (hv : ∀ (i : Nat) (v : Value), items[i]? = some v → ∃ y tk, ys[i]? = some y ∧ v = Value.str y tk) (hb : items.size ≤ 500) (hn : ys.length = items.size)
    (q : ∀ h' tk zs, (∀ b o, s.heap.get? b = some o → h'.get? b = some o) → TxS w h' s.heap.objs.size zs → (∀ z, z ∈ zs ↔ z ∈ ys) → Q (.ref s.heap.objs.size) { s with heap := h', toks := tk }) : wpAny (model prog w) A (call (.type "set") [.ref l]) Q E s := by
  refine call_set_by fun A' hA => ?_
  have hl1 : (s.heap.push (newS w)).IsList l items := hl.push _
  obtain ⟨ol, hol, hcl, nl, hdl⟩ := id hl
  have hlS : l < s.heap.objs.size := Heap.lt_size hol
  unfold Builtin.Frozenset.updateFrom
  refine wpAny_bind (any_list (s := { s with heap := _ }) hl1.typeIs ?_)
  rw [if_neg Bool.false_ne_true]
  refine wpAny_bind (wpAny_typeOf (s := { s with heap := _ }) hl1.typeIs ?_)
  rw [if_neg (by decide)]
  refine wpAny_bind (wpAny_pyIter_list (s := { s with heap := _ }) hl1 ?_)
  refine wpAny_bind (wpAny_runValue ?_)
  have hz : (s.heap.push (newS w)).objs.size = s.heap.objs.size + 1 := Heap.size_push _ _
  have hneI : l ≠ (s.heap.push (newS w)).objs.size := by rw [hz]; exact Nat.ne_of_lt (Nat.lt_succ_of_lt hlS)
  refine tset_loop (Walks.list (A := A'.in1) (by rw [show A'.in1.handled = A'.handled from rfl, hA, hh]) _ l hneI items) (S := s.heap.objs.size) ?_ hv hb hn (items.size - 0) 0 _ [] (by omega) (Nat.zero_le _) ⟨⟨_, Heap.get?_push_size _ rfl, rfl, rfl⟩, hl1.push _⟩
    ⟨_, _, _, _, Heap.get?_push_of_some _ (Heap.get?_push_size _ rfl), tset_fresh⟩ (Nat.zero_le _) fun h' tk zs k Z m => ?_
  · simp only [List.mem_cons, List.not_mem_nil, or_false, not_or]
    exact ⟨by rw [hz]; exact Nat.ne_of_lt (Nat.lt_succ_self _), Nat.ne_of_gt hlS⟩
  · show wpAny _ _ _ _ _ _
    refine wpAny_pure (q h' tk zs (fun b o e => k b o (Nat.ne_of_lt (Heap.lt_size e)) (fun hb => ?_) (Heap.get?_push_of_some _ (Heap.get?_push_of_some _ e))) Z fun z => by rw [m z]; simp)
    have := Heap.lt_size e
    rw [List.mem_singleton.mp hb, hz] at this
    exact absurd (Nat.lt_of_succ_lt this) (Nat.lt_irrefl _)
end
end L2

set_option Elab.async false
set_option linter.all false
set_option maxRecDepth 100000
set_option maxHeartbeats 4000000

namespace L2
open PySem PySem.Spec PyProof.Rows
section
variable {prog : Program} {w : World} {A : Around} {E : Value → Shared → Prop} {s : Shared}
end
end L2

set_option Elab.async false
set_option linter.all false
set_option maxRecDepth 100000
set_option maxHeartbeats 4000000

namespace L2
open PySem PySem.Spec PyProof.Rows
/-! ### sets of texts, as rules -/
/-- a new set of texts that has just these -/
def NewS (w : World) (H : Hp) (ys : List Str) (Q : VK) : Prop := ∀ r xs H', H r = none → Same H H' → H' r = some (tset w r xs) → xs.Nodup → (∀ z, z ∈ xs ↔ z ∈ ys) → Q (.ref r) H'
theorem TxS.nd {w : World} {h : Heap} {a : Addr} {xs : List Str} (x : TxS w h a xs) : xs.Nodup := let ⟨_, _, _, _, _, X⟩ := x; X.nd
theorem strs_at {us : List Value} {ys : List Str} (h : StrsAre us ys) : us.length = ys.length ∧ ∀ (i : Nat) (v : Value), us[i]? = some v → ∃ y tk, ys[i]? = some y ∧ v = Value.str y tk := by
  induction h with
  | nil => exact ⟨rfl, fun i v e => by cases e⟩
  | cons y t _ ih =>
    refine ⟨by simp [ih.1], fun i v e => ?_⟩
    cases i with
    | zero => cases e; exact ⟨y, t, rfl, rfl⟩
    | succ i => exact ih.2 i v e
theorem vals_strs' : ∀ {ys : List Str} {us : List Value}, Vals (ys.map V.str) us → StrsAre us ys
  | [], us, r => by cases r; exact .nil
  | y :: ys, us, r => by
    cases r with
    | cons a b =>
      obtain ⟨t, rfl⟩ := a
      exact .cons y t (vals_strs' b)
section
variable {X : Cx}
theorem call_setL (hc : X.calm = true) : CallR X (.type "set") (fun vs H Q => ∃ p ys, vs = [.ref p] ∧ SqL X.K H p (ys.map V.str) ∧ ys.length ≤ 500 ∧ NewS X.w H ys Q) := by
  intro pins s σ H xs us Q I r h
  obtain ⟨p, ys, rfl, hp, hz, q⟩ := h
  obtain ⟨u, rfl, ru⟩ := vals1 r
  cases ru
  obtain ⟨its, rv, ht, hz'⟩ := I.list hp
  have hs := strs_at (vals_strs' rv)
  refine call_set_listT (I.ok.hd hc) ht.isList (ys := ys) (fun i v e => hs.2 i v (by simpa using e)) (by simp; omega) (by simp [hs.1]) fun h' tk zs k Z m => ?_
  have hn := I.hok.fresh (Nat.le_refl s.heap.objs.size)
  exact ⟨.ref s.heap.objs.size, _, I.laid (t' := tk) (a := s.heap.objs.size) (o := tset X.w s.heap.objs.size zs) k (Nat.le_refl _) (tset_ok Z), rfl, q _ zs _ hn (same_upd hn) upd_same Z.nd m⟩
end
end L2

set_option Elab.async false
set_option linter.all false
set_option maxRecDepth 100000
set_option maxHeartbeats 4000000

namespace L2
open PySem PySem.Spec PyProof.Rows
/-! ### dicts of any keys, walked -/
def RawD (h : Heap) (d : Addr) (es : Array DictEntry) (ep : Nat) : Prop := ∃ o, h.get? d = some o ∧ o.cls = .type "dict" ∧ o.data = .dict es ep
theorem RawD.at' {h h' : Heap} {d : Addr} {es : Array DictEntry} {ep : Nat} (x : RawD h d es ep) (k : ∀ o, h.get? d = some o → h'.get? d = some o) : RawD h' d es ep := let ⟨o, e, r⟩ := x; ⟨o, k o e, r⟩
theorem RawD.typeIs {s : Shared} {d : Addr} {es : Array DictEntry} {ep : Nat} (x : RawD s.heap d es ep) : s.TypeIs (.ref d) "dict" := let ⟨o, e, c, _⟩ := x; ⟨o, e, c⟩
section
variable {prog : Program} {w : World} {A : Around} {E : Value → Shared → Prop} {s : Shared} {d it : Addr} {es : Array DictEntry} {ep i : Nat}
theorem raw_iter {Q : Value → Shared → Prop} (hd : (d == sysModules) = false) (hm : RawD s.heap d es ep) (hQ : Q (.ref s.heap.objs.size) { s with heap := s.heap.push { cls := .type "dict_keyiterator", data := .fields #[.ref d, .int 0 0, .int es.size 0, .int ep 0] } }) :
    wpAny (model prog w) A (pyIter (.ref d)) Q E s := by
  obtain ⟨o, ho, hc, hdat⟩ := id hm
  refine wpAny_pyIter_slot hm.typeIs PySem.F.slot_dict_iter (wpAny_call_entry PySem.F.slot_dict_iter hm.typeIs PySem.F.entry_dict_iter ?_ (PySem.F.args_dict_iter_1 _))
  unfold Builtin.«dict.__iter__»; refine wpAny_bind ?_; unfold Builtin.Dict.dictSlotNone
  refine wpAny_bind (wpAny_notOrdered_dict hm.typeIs ?_); show wpAny _ _ (pure (Value.ref d)) _ _ s
  refine wpAny_pure ?_; show wpAny _ _ (Builtin.Dict.showsAll d >>= _) _ _ s
  unfold Builtin.Dict.showsAll; rw [if_neg (by rw [hd]; exact Bool.false_ne_true)]
  refine wpAny_bind (wpAny_pure (wpAny_bind (wpAny_dictEntries ho hdat (wpAny_bind (wpAny_dictEpoch ho hdat ?_)))))
  exact wpAny_bind (wpAny_newObj_type (wpAny_pure ⟨_, rfl, "dict_keyiterator", _, ⟨_, Heap.get?_push_size _ rfl, rfl⟩, PySem.F.slot_dict_keyiterator_next.lookup, hQ⟩))
theorem raw_iterK {v : Addr} {Q : Value → Shared → Prop} (hv : PySem.W.KdlKeysView s.heap v d) (hm : RawD s.heap d es ep) (hQ : Q (.ref s.heap.objs.size) { s with heap := s.heap.push { cls := .type "dict_keyiterator", data := .fields #[.ref d, .int 0 0, .int es.size 0, .int ep 0] } }) :
    wpAny (model prog w) A (pyIter (.ref v)) Q E s := by
  obtain ⟨ov, hov, hcv, hdv⟩ := id hv
  obtain ⟨o, ho, hc, hdat⟩ := id hm
  refine wpAny_pyIter_slot hv.typeIs PySem.W.kdl_slot_keys_iter (wpAny_call_entry PySem.W.kdl_slot_keys_iter hv.typeIs PySem.W.kdl_entry_keys_iter ?_ (PySem.W.kdl_args_keys_iter _))
  unfold Builtin.«dict_keys.__iter__»; refine wpAny_bind (wpAny_pure (wpAny_bind ?_)); unfold Builtin.Dict_items.dictOf
  refine wpAny_bind (wpAny_field hov hdv (x := .ref d) rfl (wpAny_pure (wpAny_bind ?_))); unfold Builtin.Dict_items.newIterator
  refine wpAny_bind (wpAny_dictEntries ho hdat (wpAny_bind (wpAny_dictEpoch ho hdat ?_)))
  have hown : Builtin.Dict_items.ownsTuple "dict_keyiterator" = false := (by decide)
  simp only [hown, Bool.false_eq_true, if_false]
  exact wpAny_newObj_type (wpAny_pure ⟨_, rfl, "dict_keyiterator", _, ⟨_, Heap.get?_push_size _ rfl, rfl⟩, PySem.F.slot_dict_keyiterator_next.lookup, hQ⟩)
theorem raw_item {Q : Option Value → Shared → Prop} (hit : s.heap.IsKeyIter it d i es.size ep) (hm : RawD s.heap d es ep) (hx : i < es.size) (hQ : ∀ h', h'.IsKeyIter it d (i + 1) es.size ep → Heap.SameBut it s.heap h' → Q (some es[i].key) { s with heap := h' }) :
    wpAny (model prog w) A (pyNext (.ref it)) Q E s := by
  obtain ⟨o, ho, hc, hd⟩ := id hit
  obtain ⟨od, hod, hcd, hdd⟩ := id hm
  unfold pyNext
  refine wpAny_bind (wpAny_attempt (wpAny_callSpecial?_slot (name := Str.ofString "__next__") hit.typeIs PySem.F.slot_dict_keyiterator_next (wpAny_call_entry PySem.F.slot_dict_keyiterator_next hit.typeIs PySem.F.entry_dict_keyiterator_next ?_ (PySem.F.args_dict_keyiterator_next_1 _))))
  refine wpAny_bind (wpAny_pure (wpAny_bind (wpAny_bind ?_)))
  first | refine wpAny_bind (wpAny_typeNameOfWhole_keyiter hit.typeIs (wpAny_pure ?_)) | refine wpAny_bind (wpAny_typeNameOf_keyiter hit.typeIs (wpAny_pure ?_)); skip
  refine wpAny_bind (wpAny_fieldsOf ho hd ?_); have hown : Builtin.Dict_items.ownsTuple "dict_keyiterator" = false := by decide
  simp only [hown, Bool.false_eq_true, if_false]; show wpAny _ _ (if (Value.ref d == Value.none) = true then _ else _) _ _ s
  rw [if_neg (show ¬ ((Value.ref d == Value.none) = true) from Bool.false_ne_true)]; refine wpAny_bind (wpAny_pure (wpAny_bind (wpAny_dictEntries hod hdd ?_)))
  rw [if_neg (by simp)]; refine wpAny_bind (wpAny_pure (wpAny_bind (wpAny_dictEpoch hod hdd ?_)))
  rw [if_neg (by simp)]; refine wpAny_pure ?_
  simp only [show ¬ ((i : Int) < 0) from by omega, if_false, Int.toNat_natCast, Array.getElem?_eq_getElem hx]; refine wpAny_bind ?_
  first | refine wpAny_bind (wpAny_typeNameOfWhole_keyiter hit.typeIs (wpAny_pure ?_)) | refine wpAny_bind (wpAny_typeNameOf_keyiter hit.typeIs (wpAny_pure ?_)); skip
  refine wpAny_bind (wpAny_isOneOf_keyiter hit.typeIs ?_); show wpAny _ _ (setField (.ref it) 1 (rawInt ((i : Int) + 1)) >>= _) _ _ s
  refine wpAny_bind (wpAny_setField ho hd (by simp) ?_)
  have hit' : (s.heap.update it (Obj.mapFields (·.setIfInBounds 1 (rawInt ((i : Int) + 1))))).IsKeyIter it d (i + 1) es.size ep :=
    ⟨_, Heap.get?_update_self _ ho (Obj.isFreed_of_fields (Obj.data_mapFields hd _)), (Obj.cls_mapFields ..).trans hc, by rw [Obj.data_mapFields hd]; simp [rawInt]⟩
  refine wpAny_bind (wpAny_holding (wpAny_bind (wpAny_isOneOf_keyiter (s := { s with heap := s.heap.update it (Obj.mapFields (·.setIfInBounds 1 (rawInt ((i : Int) + 1)))) }) hit'.typeIs ?_)))
  show wpAny _ _ (pure es[i].key) _ _ _
  exact wpAny_pure (wpAny_pure ⟨_, rfl, wpAny_pure (hQ _ hit' (Heap.SameBut.update ..))⟩)
theorem raw_end {Q : Option Value → Shared → Prop} (hh : A.handled = none) (hit : s.heap.IsKeyIter it d i es.size ep) (hm : RawD s.heap d es ep) (hge : es.size ≤ i) (hQ : ∀ h', Heap.ExtBut it s.heap h' → Q none { s with heap := h' }) : wpAny (model prog w) A (pyNext (.ref it)) Q E s := by
  obtain ⟨o, ho, hc, hd⟩ := id hit
  obtain ⟨od, hod, hcd, hdd⟩ := id hm
  unfold pyNext
  refine wpAny_bind (wpAny_attempt (wpAny_callSpecial?_slot (name := Str.ofString "__next__") hit.typeIs PySem.F.slot_dict_keyiterator_next (wpAny_call_entry PySem.F.slot_dict_keyiterator_next hit.typeIs PySem.F.entry_dict_keyiterator_next ?_ (PySem.F.args_dict_keyiterator_next_1 _))))
  refine wpAny_bind (wpAny_pure (wpAny_bind (wpAny_bind ?_)))
  first | refine wpAny_bind (wpAny_typeNameOfWhole_keyiter hit.typeIs (wpAny_pure ?_)) | refine wpAny_bind (wpAny_typeNameOf_keyiter hit.typeIs (wpAny_pure ?_)); skip
  refine wpAny_bind (wpAny_fieldsOf ho hd ?_); have hown : Builtin.Dict_items.ownsTuple "dict_keyiterator" = false := by decide
  simp only [hown, Bool.false_eq_true, if_false]; show wpAny _ _ (if (Value.ref d == Value.none) = true then _ else _) _ _ s
  rw [if_neg (show ¬ ((Value.ref d == Value.none) = true) from Bool.false_ne_true)]; refine wpAny_bind (wpAny_pure (wpAny_bind (wpAny_dictEntries hod hdd ?_)))
  rw [if_neg (by simp)]; refine wpAny_bind (wpAny_pure (wpAny_bind (wpAny_dictEpoch hod hdd ?_)))
  rw [if_neg (by simp)]; refine wpAny_pure ?_
  simp only [show ¬ ((i : Int) < 0) from by omega, if_false, Int.toNat_natCast, Array.getElem?_eq_none hge]; refine wpAny_bind ?_
  first | refine wpAny_bind (wpAny_typeNameOfWhole_keyiter hit.typeIs (wpAny_pure ?_)) | refine wpAny_bind (wpAny_typeNameOf_keyiter hit.typeIs (wpAny_pure ?_)); skip
  show wpAny _ _ (setField (.ref it) 0 .none >>= _) _ _ s; refine wpAny_bind (wpAny_setField ho hd (by simp) ?_)
  show wpAny _ _ (newExc (.type "StopIteration") [] >>= _) _ _ _; refine wpAny_bind ?_
  simp only [newExc, newTuple]; refine wpAny_bind (wpAny_newObj_type ?_ (by size_fits))
  refine wpAny_bind (m := firstArgMember _ _) (wpAny_of_eq (a := Value.none) (by first | rfl | (simp only [firstArgMember]; rfl)) ?_); refine wpAny_newObj_type ?_ (by size_fits)
  simp only [raiseNew]; refine wpAny_bind (wpAny_handled ?_)
  rw [show A.in1.handled = none from hh]; refine wpAny_bind (wpAny_pure (wpAny_throw ?_))
  refine wpAny_bind (wpAny_isInstance (T := "StopIteration") (b := true) ⟨_, Heap.get?_push_size _ rfl, rfl⟩ isSubtype_stop (wpAny_pure (hQ _ (((Heap.SameBut.update ..).extBut.push _).push _))))
theorem walks_raw (hh : A.handled = none) (I d : Addr) (hne : d ≠ I) (es : Array DictEntry) (ep : Nat) : Walks prog w A I [I, d] [I] es.size (fun i v => ∃ e, es[i]? = some e ∧ v = e.key) (fun i h => h.IsKeyIter I d i es.size ep ∧ RawD h d es ep) where
  sub := fun b hb => by simp at hb; simp [hb]
  frame := fun _ _ _ st hk => ⟨let ⟨o, e, r⟩ := st.1; ⟨o, hk I (by simp) o e, r⟩, st.2.at' fun o e => hk d (by simp) o e⟩
  item := fun i s Q E hi st hQ => raw_item st.1 st.2 hi fun h' hit' hs' => hQ _ h' s.toks ⟨_, Array.getElem?_eq_getElem hi, rfl⟩ ⟨hit', st.2.at' fun o e => (hs'.2 d hne).trans e⟩ fun b o hb e => hs'.extBut b o (fun h => hb (by simp [h])) e
  done := fun s Q E st hQ => raw_end hh st.1 st.2 (Nat.le_refl _) fun h' he' => hQ h' s.toks fun b o hb e => he' b o (fun h => hb (by simp [h])) e
  self := fun _ _ _ _ st hQ => wpAny_pyIter_keyiter st.1 hQ
theorem RawD.lt {h : Heap} (x : RawD h d es ep) : d < h.objs.size := let ⟨_, e, _⟩ := x; Heap.lt_size e
theorem kdl_rawK {r : Addr} : PySem.W.KdlSrc prog w "dict_keys" r d es.size (fun i v => ∃ e, es[i]? = some e ∧ v = e.key) (fun h => PySem.W.KdlKeysView h r d ∧ RawD h d es ep) where
  type := fun _ hm => hm.1.typeIs
  there := fun _ hm => ⟨let ⟨_, ho, _⟩ := hm.1; Heap.lt_size ho, hm.2.lt⟩
  keep := fun _ _ hm hk => ⟨let ⟨o, ho, x⟩ := hm.1; ⟨o, hk r (.inl rfl) o ho, x⟩, hm.2.at' fun o e => hk d (.inr rfl) o e⟩
  notList := by decide
  notTuple := by decide
  hint := fun _ _ _ _ hm hq => PySem.W.kdl_hint_keys hm.1.typeIs hq
  iter := fun _ _ hh hm => ⟨_, _, (fun _ _ hq => raw_iterK hm.1 hm.2 hq), walks_raw hh _ d (Nat.ne_of_lt hm.2.lt) es ep, ⟨⟨_, Heap.get?_push_size _ rfl, rfl, rfl⟩, hm.2.at' fun o e => Heap.get?_push_of_some _ e⟩⟩
end
/-! ### a dict with tuples as keys, frozen and let go -/
section
variable {X : Cx} {pins : List (Addr × Obj)} {σ : St} {H : Hp} {s : Shared}
theorem Inv.freezeT {d : Addr} {kvs : List (List NI × V)} {o : Obj} (I : Inv X pins σ H s) (e : H d = some (.dT kvs)) (ho : s.heap.get? d = some o) : Inv X pins σ (upd H d (.frz o (.dT kvs))) s := by
  have ne : ∀ b u, H b = some u → (∀ ks, u ≠ .dT ks) → b ≠ d := fun b u q hu z => by rw [z, e] at q; cases q; exact hu _ rfl
  refine I.rehp (fun b q => ?_) (fun b xs q => ?_) (fun b o' u q => ?_) (fun b ps q => ?_) fun b u q => ?_
  · rw [upd_ne (fun z => by rw [z, e] at q; cases q)]; exact q
  · rw [upd_ne (ne b _ q (by intro ks z; cases z))]; exact q
  · have q := I.base.frzs b o' u q
    rw [upd_ne (ne b _ q (by intro ks z; cases z))]; exact q
  · rw [upd_ne (ne b _ q (by intro ks z; cases z))]; exact q
  · have up : ∀ {c : Addr} {w : HO}, H c = some w → (∀ ks, w ≠ .dT ks) → upd H d (.frz o (.dT kvs)) c = some w := fun {c w} hc hw => by rw [upd_ne (ne c _ hc hw)]; exact hc
    by_cases z : b = d
    · subst z
      rw [upd_same] at q
      cases q
      exact ⟨ho, (I.hok b _ e).stay (fun _ _ _ q => q) (fun c hc => up hc (by intro ks z; cases z)) fun c xs hc => up hc (by intro ks z; cases z)⟩
    · rw [upd_ne z] at q
      exact (I.hok b _ q).stay (fun _ _ _ q => q) (fun c hc => up hc (by intro ks z; cases z)) fun c xs hc => up hc (by intro ks z; cases z)
theorem Inv.thawT {d : Addr} {kvs : List (List NI × V)} {o : Obj} (I : Inv X pins σ H s) (e : H d = some (.frz o (.dT kvs))) (hz : ∀ o' u, X.H₀ d ≠ some (.frz o' u)) : Inv X pins σ (upd H d (.dT kvs)) s := by
  have ne : ∀ b u, H b = some u → (∀ o' u', u ≠ .frz o' u') → b ≠ d := fun b u q hu z => by rw [z, e] at q; cases q; exact hu _ _ rfl
  have up : ∀ {c : Addr} {w : HO}, H c = some w → (∀ o' u', w ≠ .frz o' u') → upd H d (.dT kvs) c = some w := fun {c w} hc hw => by rw [upd_ne (ne c _ hc hw)]; exact hc
  refine I.rehp (fun b q => ?_) (fun b xs q => up q (by intro _ _ z; cases z)) (fun b o' u q => ?_) (fun b ps q => up q (by intro _ _ z; cases z)) fun b u q => ?_
  · rw [upd_ne (fun z => by rw [z, e] at q; cases q)]; exact q
  · have nb : b ≠ d := fun z => hz o' u (z ▸ q)
    rw [upd_ne nb]; exact I.base.frzs b o' u q
  · by_cases z : b = d
    · subst z
      rw [upd_same] at q
      cases q
      exact (show ObjOk X.prog X.w H s.heap b (.dT kvs) from (show ObjOk X.prog X.w H s.heap b (.frz o (.dT kvs)) from I.hok b _ e).2).stay (fun _ _ _ q => q) (fun c hc => up hc (by intro _ _ z; cases z)) fun c xs hc => up hc (by intro _ _ z; cases z)
    · rw [upd_ne z] at q
      exact (I.hok b _ q).stay (fun _ _ _ q => q) (fun c hc => up hc (by intro _ _ z; cases z)) fun c xs hc => up hc (by intro _ _ z; cases z)
end
def Itk (d : Addr) (kvs : List (List NI × V)) (o : Obj) : It :=
  ⟨fun i H => H d = some (.frz o (.dT kvs)) ∧ i < kvs.length, fun i H x H' => ∃ k v b, kvs[i]? = some (k, v) ∧ x = .ref b ∧ NAt H k b ∧ H' = H, fun i H => H d = some (.frz o (.dT kvs)) ∧ kvs.length ≤ i⟩
theorem raw_of {P : Program} {w : World} {H : Hp} {h : Heap} {d : Addr} {kvs : List (List NI × V)} (ok : ObjOk P w H h d (.dT kvs)) : (d == sysModules) = false ∧ ∃ es ep, RawD h d es ep ∧ es.size = kvs.length ∧ (∃ o, h.get? d = some o ∧ epOf o = ep) ∧ ∀ (i : Nat) (k : List NI) (v : V), kvs[i]? = some (k, v) → ∃ (e : DictEntry) (b : Addr), es[i]? = some e ∧ e.key = Value.ref b ∧ NAt H k b := by
  obtain ⟨_, y, xs, r, o, es, ep, h1, h2, h3, h4, _⟩ := ok
  have hl := Paired.length r
  have hs : es.size = xs.length := by have := congrArg List.length h4; simpa using this
  refine ⟨y, es, ep, ⟨o, h1, h2.1, h3⟩, by omega, ⟨o, h1, by unfold epOf; rw [h3]⟩, fun i k v hi => ?_⟩
  have get : ∀ {l : List (List NI × V)} {m : List (List NI × Addr × Value)}, Paired (fun (p : List NI × V) (q : List NI × Addr × Value) => p.1 = q.1 ∧ NAt H p.1 q.2.1 ∧ RelV p.2 q.2.2) l m → ∀ {i : Nat}, l[i]? = some (k, v) → ∃ q, m[i]? = some q ∧ NAt H k q.2.1 := by
    intro l m q
    induction q with
    | nil => intro i h; cases h
    | @cons p q ps qs hq t ih =>
      intro i h
      cases i with
      | zero => cases h; exact ⟨q, rfl, hq.2.1⟩
      | succ i => exact ih h
  obtain ⟨q, hq, hn⟩ := get r hi
  refine ⟨entryOfKey (nestKind P w) q, q.2.1, ?_, rfl, hn⟩
  rw [← Array.getElem?_toList, h4, List.getElem?_map, hq]
  rfl
theorem turn_keysT {P : Program} {w : World} {K : PySem.W.Frag} {tg : Expr} (d it : Addr) (kvs : List (List NI × V)) (o : Obj) : Turn P w K tg (Itk d kvs o) [it] it (fun i h => h.IsKeyIter it d i kvs.length (epOf o)) where
  mem := by simp
  obj := fun i h st b hb => by
    have e : b = it := by simpa using hb
    subst e
    obtain ⟨o, e, c, d⟩ := st
    exact ⟨o, e, fun v z => by rw [d] at z; cases z⟩
  keep := fun i h h' st k => let ⟨o, e, r⟩ := st; ⟨o, k it (by simp) o e, r⟩
  item := by
    intro X hP hw hK hc i pins s σ H E I hf st hg
    subst hP hw hK
    obtain ⟨hd, hlt⟩ := hg
    obtain ⟨f0, f1, f2, f3, f4, f5⟩ := hf it (by simp)
    obtain ⟨ho, hob⟩ := (show ObjOk X.prog X.w H s.heap d (.frz o (.dT kvs)) from I.hok d _ hd)
    obtain ⟨_, es, ep, hr, hsz, ⟨o', ho', hep⟩, hk⟩ := raw_of hob
    rw [ho] at ho'; cases ho'
    obtain ⟨kv, hkv⟩ : ∃ kv, kvs[i]? = some kv := ⟨_, List.getElem?_eq_getElem hlt⟩
    obtain ⟨k, v⟩ := kv
    obtain ⟨e, b, he, hb, hn⟩ := hk i k v hkv
    rw [← hsz, hep] at st
    have hi : i < es.size := by omega
    refine raw_item st hr hi fun h' st' sb => ?_
    have I1 : Inv X pins σ H { s with heap := h' } := I.turned (t' := s.toks) (fun b o hb e => (sb.2 b hb).trans e) f0 f1 f3 f4 f5
    obtain ⟨oi, ei, ci, di⟩ := id st'
    have hkey : es[i].key = .ref b := by rw [Array.getElem?_eq_getElem hi] at he; cases he; exact hb
    rw [hsz, ← hep] at st'
    exact ⟨_, rfl, go_of (s := { s with heap := h' }) ei ci di (by decide) ⟨.ref b, H, I1, hkey, ⟨k, v, b, hkv, rfl, hn, rfl⟩, st', fun b hb => (hf b hb).1⟩⟩
  done := by
    intro X hP hw hK hc i pins s σ H E I hf st hg
    subst hP hw hK
    obtain ⟨hd, hle⟩ := hg
    obtain ⟨f0, f1, f2, f3, f4, f5⟩ := hf it (by simp)
    obtain ⟨ho, hob⟩ := (show ObjOk X.prog X.w H s.heap d (.frz o (.dT kvs)) from I.hok d _ hd)
    obtain ⟨_, es, ep, hr, hsz, ⟨o', ho', hep⟩, hk⟩ := raw_of hob
    rw [ho] at ho'; cases ho'
    rw [← hsz, hep] at st
    exact raw_end (I.ok.hd hc) st hr (by omega) fun h' eb => ⟨rfl, I.turned (t' := s.toks) (fun b o hb e => eb b o hb e) f0 f1 f3 f4 f5⟩
  self := fun _ _ _ _ _ st h => wpAny_pyIter_keyiter st h
theorem pi_keysT {tg e : Expr} {X : Cx} {td : TE} (ho : PE X e td) : PI X tg e (fun σ H R => td σ H fun x H1 => ∃ d kvs, x = .ref d ∧ H1 d = some (.dT kvs) ∧ ∀ ob, (∀ o' u, X.H₀ d ≠ some (.frz o' u)) → R (Itk d kvs ob) (upd H1 d (.frz ob (.dT kvs)))) := by
  intro pins s σ H R I h
  refine thn (ho pins s σ H _ I h) fun v s1 ⟨x, H1, I1, r1, d, kvs, e, ed, q⟩ => ?_
  subst e
  cases r1
  obtain ⟨lo, es, ep, hr, hsz, ⟨o', ho', hep⟩, hk⟩ := raw_of (show ObjOk X.prog X.w H1 s1.heap d (.dT kvs) from I1.hok d _ ed)
  refine raw_iter lo hr ?_
  have hz : ∀ o' u, X.H₀ d ≠ some (.frz o' u) := fun o' u hq => by
    have := I1.base.frzs d o' u hq
    rw [ed] at this
    cases this
  have I2 : Inv X pins σ H1 { s1 with heap := s1.heap.push { cls := .type "dict_keyiterator", data := .fields #[.ref d, .int 0 0, .int es.size 0, .int ep 0] } } := I1.kept (t' := s1.toks) fun b o e => Heap.get?_push_of_some _ e
  have hn := I1.hok.fresh (Nat.le_refl s1.heap.objs.size)
  refine ⟨_, [_], _, _, _, rfl, I2.freezeT ed (Heap.get?_push_of_some _ ho'), turn_keysT d _ kvs o', ?_, fun b hb => ?_, q o' hz⟩
  · rw [← hsz, hep]
    exact ⟨_, Heap.get?_push_size _ rfl, rfl, rfl⟩
  · have e : b = s1.heap.objs.size := by simpa using hb
    subst e
    refine I1.fpOk (Nat.le_refl _) ?_
    rw [upd_ne (Ne.symm (ne_of_none ed hn))]
    exact hn
end L2

set_option Elab.async false
set_option linter.all false
set_option maxRecDepth 100000
set_option maxHeartbeats 4000000

namespace L2
open PySem PySem.Spec PyProof.Rows
/-! ### things shown by !r -/
theorem kqdPs_ints : ∀ ns : List Int, PySem.W.kqdPs (ns.map PySem.W.Dat.int) = ns.map PyData.int
  | [] => rfl
  | n :: ns => by
    show PyData.int n :: PySem.W.kqdPs (ns.map PySem.W.Dat.int) = _
    rw [kqdPs_ints ns]
    rfl
theorem ints_show : ∀ {ns : List Int}, (∀ n ∈ ns, 0 ≤ n ∧ n < 4294967296) → PyData.showableAll (ns.map PyData.int) = true ∧ PyData.hasDictAll (ns.map PyData.int) = false ∧ PyData.depthAll (ns.map PyData.int) = 0 ∧ piled (PyData.shownAll (ns.map PyData.int)) ≤ 22 * ns.length
  | [], _ => ⟨rfl, rfl, rfl, Nat.le_refl _⟩
  | n :: ns, h => by
    obtain ⟨h1, h2, h3, h4⟩ := ints_show (ns := ns) fun m hm => h m (List.mem_cons_of_mem _ hm)
    obtain ⟨n0, n1⟩ := h n List.mem_cons_self
    refine ⟨?_, ?_, ?_, ?_⟩
    · show (decide (n.natAbs.log2 < 1920) && PyData.showableAll (ns.map PyData.int)) = true
      rw [h1, decide_eq_true (small_log n0 n1)]; rfl
    · show (false || PyData.hasDictAll (ns.map PyData.int)) = false
      rw [h2]; rfl
    · show max 0 (PyData.depthAll (ns.map PyData.int)) = 0
      rw [h3]; rfl
    · show piled (Str.ofString (toString n) :: PyData.shownAll (ns.map PyData.int)) ≤ _
      rw [piled_cons, List.length_cons]
      have := toString_length_le n0 (k := 20) (by decide) (by omega)
      omega
theorem tuple_show {ns : List Int} (h : ∀ n ∈ ns, 0 ≤ n ∧ n < 4294967296) (hl : ns.length ≤ 10) : (PyData.shown (.tuple (ns.map PyData.int))).length ≤ 300 := by
  obtain ⟨_, _, _, h4⟩ := ints_show h
  show (tupleText (PyData.shownAll (ns.map PyData.int))).length ≤ 300
  generalize PyData.shownAll (ns.map PyData.int) = ts at h4
  unfold tupleText
  rw [strLen_append, strLen_append]
  have e1 : ((("(" : String) : Str)).length = 1 := rfl
  have e3 : (((if ts.length == 1 then ",)" else ")" : String) : Str)).length ≤ 2 := by split <;> decide
  rw [e1]
  by_cases z : ts = []
  · subst z
    have e4 : (Str.join ", " ([] : List Str)).length = 0 := rfl
    omega
  · have := join_length_add ts z
    omega
section
variable {X : Cx} {e e1 e2 e3 e4 : Expr} {te t1 t2 t3 t4 : TE} {pos : Pos}
def tFmtS (te : TE) : TE := fun σ H Q => te σ H fun x H1 => ∃ y, x = .str y ∧ TxtOk y ∧ y.length ≤ 1000 ∧ ∀ z : Str, z.length ≤ 20000 → Q (.str z) H1
theorem pe_fmtS (he : PE X e te) : PE X (.FormattedValue e 114 none pos) (tFmtS te) := by
  intro pins s σ H Q I h
  refine wpAny_FormattedValue_repr (thn (he pins s σ H _ I h) fun v s1 ⟨x, H1, I1, r1, y, ex, ok, hl, q⟩ => ?_)
  subst ex
  obtain ⟨t, rfl⟩ := r1
  have hz := StrLaws.reprText_len y fun c hc => Nat.lt_trans (txtOk_iff.mp ok c hc) (by decide)
  have hs : (reprText y).length ≤ sizeLine := by rw [sizeLine_eq]; omega
  refine pyReprObj_str (formatField_str (fun t' tk => ⟨.str (reprText y), H1, ?_, ⟨_, rfl⟩, q _ (by omega)⟩) hs) hs
  exact (I1.tok (s.toks)).tok _
def tFmtT (K : PySem.W.Frag) (te : TE) : TE := fun σ H Q => te σ H fun x H1 => ∃ (a : Addr) (ns : List Int), x = .ref a ∧ SqT K H1 a (ns.map V.int) ∧ ns.length ≤ 10 ∧ (∀ n ∈ ns, 0 ≤ n ∧ n < 4294967296) ∧ ∀ z : Str, z.length ≤ 20000 → Q (.str z) H1
theorem pe_fmtT (hg : X.A.guards = some []) (hu : X.A.units + 64 < cLine) (he : PE X e te) : PE X (.FormattedValue e 114 none pos) (tFmtT X.K te) := by
  intro pins s σ H Q I h
  refine wpAny_FormattedValue_repr (thn (he pins s σ H _ I h) fun v s1 ⟨x, H1, I1, r1, a, ns, ex, hs, hl, hn, q⟩ => ?_)
  subst ex
  cases r1
  have dv : DV X.K H1 (.ref a) (.tuple (ns.map PySem.W.Dat.int)) := .tup hs (dvs_ints ns)
  obtain ⟨as, rd⟩ := dv.reads I1 (u := .ref a) rfl
  have e0 : PySem.W.kqdP (.tuple (ns.map PySem.W.Dat.int)) = .tuple (ns.map PyData.int) := by
    show PyData.tuple (PySem.W.kqdPs (ns.map PySem.W.Dat.int)) = _
    rw [kqdPs_ints]
  rw [e0] at rd
  obtain ⟨h1, h2, h3, _⟩ := ints_show hn
  have hz := tuple_show hn hl
  have hs' : (PyData.shown (.tuple (ns.map PyData.int))).length ≤ sizeLine := by rw [sizeLine_eq]; omega
  refine pyReprObj_of_reads rd h1 (PyData.noDict_hsm h2) hg (by show X.A.units + (PyData.depthAll (ns.map PyData.int) + 1) < cLine; rw [h3]; omega) (fun b o e => e) (fun h' u tk k => ?_) hs'
  exact formatField_str (fun t' tk' => ⟨.str (PyData.shown (.tuple (ns.map PyData.int))), H1, (I1.kept (t' := tk') k), ⟨_, rfl⟩, q _ (by omega)⟩) hs'
def tJoin4 (t1 t2 t3 t4 : TE) : TE := fun σ H Q => t1 σ H fun a H1 => ∃ x1, a = .str x1 ∧ x1.length ≤ 20000 ∧ t2 σ H1 fun b H2 => ∃ x2, b = .str x2 ∧ x2.length ≤ 20000 ∧ t3 σ H2 fun c H3 => ∃ x3, c = .str x3 ∧ x3.length ≤ 20000 ∧ t4 σ H3 fun d H4 => ∃ x4, d = .str x4 ∧ x4.length ≤ 20000 ∧ Q (.str (x1 ++ x2 ++ x3 ++ x4)) H4
theorem pe_join4 (h1 : PE X e1 t1) (h2 : PE X e2 t2) (h3 : PE X e3 t3) (h4 : PE X e4 t4) : PE X (.JoinedStr [e1, e2, e3, e4] pos) (tJoin4 t1 t2 t3 t4) := by
  intro pins s σ H Q I h
  refine JoinedStr_many (joinParts_cons (thn (h1 pins s σ H _ I h) fun v s1 ⟨a, H1, I1, r1, x1, ex, l1, q1⟩ => ?_))
  subst ex
  obtain ⟨t, rfl⟩ := r1
  show (Str.empty ++ x1).length ≤ sizeLine ∧ wpAny _ _ (joinParts (Str.empty ++ x1) (eval e2 X.env :: eval e3 X.env :: eval e4 X.env :: evalEach [] X.env)) _ _ s1
  rw [str_empty_app]
  have big : ∀ {n : Nat}, n ≤ 80000 → n ≤ sizeLine := fun h => by rw [sizeLine_eq]; omega
  refine ⟨big (by omega), joinParts_cons (thn (h2 pins s1 σ H1 _ I1 q1) fun v s2 ⟨b, H2, I2, r2, x2, ey, l2, q2⟩ => ?_)⟩
  subst ey
  obtain ⟨t', rfl⟩ := r2
  refine ⟨big (by rw [len_app]; omega), joinParts_cons (thn (h3 pins s2 σ H2 _ I2 q2) fun v s3 ⟨c, H3, I3, r3, x3, ez, l3, q3⟩ => ?_)⟩
  subst ez
  obtain ⟨t3', rfl⟩ := r3
  refine ⟨big (by rw [len_app, len_app]; omega), joinParts_cons (thn (h4 pins s3 σ H3 _ I3 q3) fun v s4 ⟨c, H4, I4, r4, x4, ew, l4, q4⟩ => ?_)⟩
  subst ew
  obtain ⟨t4', rfl⟩ := r4
  have hz : (x1 ++ x2 ++ x3 ++ x4).length ≤ sizeLine := big (by rw [len_app, len_app, len_app]; omega)
  exact ⟨hz, joinParts_nil ⟨.str (x1 ++ x2 ++ x3 ++ x4), H4, I4.tok _, ⟨_, rfl⟩, q4⟩ hz⟩
end
/-! ### a comprehension over a dict with tuples as keys -/
def TAsk (H1 : Hp) (d : Addr) (kvs : List (List NI × V)) (σ0 : St) (g : TG) (tt : TT) (te : TE) (Q : VK) : Prop := ∀ ob D, upd H1 d (.frz ob (.dT kvs)) D = none →
  ∃ W : Nat → Nat → St → Hp → Prop, (∃ m, W 0 m σ0 (upd (upd H1 d (.frz ob (.dT kvs))) D (.lst []))) ∧ CompAsk (Itk d kvs ob) g tt te D (fun H' => H' d = some (.frz ob (.dT kvs)) ∧ Q (.ref D) (upd H' d (.dT kvs))) W
def tCompT (td : TE) (n : Nat) (js : List Nat) (g : TG) (tt : TT) (te : TE) : TE := fun σ H Q => td σ H fun x H1 => ∃ d kvs, x = .ref d ∧ H1 d = some (.dT kvs) ∧ TAsk H1 d kvs (compStart n js σ) g tt te Q
section
variable {X : Cx}
theorem pe_compT {elt tg iter : Expr} {ifs : List Expr} {sc : Scope} {pos : Pos} (own cap : List Str) (js : List Nat) {td : TE} {g : TG} {tt : TT} {te : TE} (S : CompScopeF X own cap js sc) (hc : X.calm = true) (hi : PE X iter td)
    (hg : ∀ s₀ H₀ C ex, PG (cxCompF X (own ++ cap) sc s₀ H₀ C ex) tg g) (ht : ∀ s₀ H₀ C ex, PTs (cxCompF X (own ++ cap) sc s₀ H₀ C ex) ifs tt) (he : ∀ s₀ H₀ C ex, PE (cxCompF X (own ++ cap) sc s₀ H₀ C ex) elt te)
    (hs : ∀ x, foldedSetIterable iter X.env x = pure x := by intro _; rfl) : PE X (.ListComp elt [⟨tg, iter, ifs, 0⟩] sc pos) (tCompT td own.length js g tt te) := by
  intro pins s σ H Q I h
  refine thn (pe_compF own cap js S hc (pi_keysT hi.weak) hg ht he hs pins s σ H (fun v H' => ∃ d kvs ob, H' d = some (.frz ob (.dT kvs)) ∧ (∀ o' u, X.H₀ d ≠ some (.frz o' u)) ∧ Q v (upd H' d (.dT kvs))) I ⟨_, h, fun x H1 ⟨d, kvs, e, ed, q⟩ => ⟨d, kvs, e, ed, fun ob hz D hD => ?_⟩⟩) fun u s' ⟨v, H', I', r, d, kvs, ob, hd, hz, q⟩ => ⟨v, _, I'.thawT hd hz, r, q⟩
  obtain ⟨W, w0, ask⟩ := q ob D hD
  refine ⟨W, w0, fun i m σ H hw => ?_⟩
  rcases ask i m σ H hw with ⟨a, b⟩ | z
  · exact .inl ⟨a, d, kvs, ob, b.1, hz, b.2⟩
  · exact .inr z
/-- d.keys() of such a dict -/
def rKeysT : V → List V → Hp → VK → Prop := fun x vs H Q => ∃ d kvs, x = .ref d ∧ vs = [] ∧ H d = some (.dT kvs) ∧ ∀ p H', H p = none → Same H H' → H' p = some (.ext fun h => PySem.W.KdlKeysView h p d) → Q (.ref p) H'
theorem meets_keysT {prog : Program} {w : World} (d : Addr) (hd : (d == sysModules) = false) : MeetsIn prog w (Builtin.«dict.keys» ⟨[.ref d], []⟩) (fun _ R s => (∃ es ep, RawD s.heap d es ep) ∧ R (.ok (.ret (.ref s.heap.objs.size))) { s with heap := s.heap.push { cls := .type "dict_keys", data := .fields #[.ref d] } }) :=
  .of_wp fun A R s ⟨⟨es, ep, hm⟩, h⟩ => by
    refine wpAny_bind ?_; unfold Builtin.Dict.noArgs
    refine wpAny_bind (wpAny_notOrdered_dict hm.typeIs ?_); show wpAny _ _ (pure d) _ _ s
    refine wpAny_pure ?_; show wpAny _ _ (Builtin.Dict.showsAll d >>= _) _ _ s
    unfold Builtin.Dict.showsAll; rw [if_neg (by rw [hd]; exact Bool.false_ne_true)]
    exact wpAny_bind (wpAny_pure (wpAny_bind (wpAny_newObj_type (wpAny_pure ⟨_, rfl, h⟩))))
theorem mt_keysT : MtM X "dict.keys" rKeysT := by
  intro pins s σ H x xs v us Q I rx rs h
  obtain ⟨d, kvs, rfl, rfl, e, q⟩ := h
  cases rx
  cases rs
  obtain ⟨hd, es, ep, hr, _⟩ := raw_of (show ObjOk X.prog X.w H s.heap d (.dT kvs) from I.hok d _ e)
  refine call_meetsIn PySem.F.slot_dict_keys hr.typeIs PySem.F.entry_dict_keys (PySem.F.args_dict_keys_1 _) (meets_keysT d hd) ⟨⟨es, ep, hr⟩, ?_⟩
  have hn := I.hok.fresh (Nat.le_refl s.heap.objs.size)
  have hg : (s.heap.push { cls := .type "dict_keys", data := .fields #[.ref d] }).get? s.heap.objs.size = some { cls := .type "dict_keys", data := .fields #[.ref d] } := Heap.get?_push_size _ rfl
  refine ⟨.ref s.heap.objs.size, _, I.laid (t' := s.toks) (a := s.heap.objs.size) (o := .ext fun h => PySem.W.KdlKeysView h s.heap.objs.size d) (fun b ob q => Heap.get?_push_of_some _ q) (Nat.le_refl _) ⟨⟨_, hg, rfl, rfl⟩, ⟨_, hg⟩, ?_⟩, rfl, q _ _ hn (same_upd hn) upd_same⟩
  rintro h1 h2 ⟨o, ho, c1, c2⟩ k
  exact ⟨o, k o ho, c1, c2⟩
/-- a key that is a tuple of ints -/
abbrev kI (ns : List Int) : List NI := ns.map fun n => .inl (.inl n)
theorem nvs_ints {H : Hp} : ∀ {ns : List Int} {vs : List V}, NVs H (kI ns) vs → vs = ns.map V.int
  | [], vs, h => by cases h; rfl
  | n :: ns, vs, h => by
    cases h with
    | cons r t =>
      have r : _ = V.int n := r
      rw [r, nvs_ints t]
      rfl
theorem nat_ints {H : Hp} {ns : List Int} {b : Addr} (h : NAt H (kI ns) b) : H b = some (.tup (ns.map V.int)) := by
  obtain ⟨vs, e, r⟩ := h
  rw [e, nvs_ints r]
theorem paired_ofI {α β : Type} {F : α → β → Prop} : ∀ {xs : List α} {ys : List β}, xs.length = ys.length → (∀ (i : Nat) (x : α), xs[i]? = some x → ∃ y, ys[i]? = some y ∧ F x y) → Paired F xs ys
  | [], [], _, _ => .nil
  | [], _ :: _, h, _ => nomatch h
  | _ :: _, [], h, _ => nomatch h
  | x :: xs, y :: ys, h, k => by
    obtain ⟨y', e, r⟩ := k 0 x rfl
    cases e
    exact .cons r (paired_ofI (Nat.succ.inj h) fun i z hz => k (i + 1) z hz)
theorem vals_refsT : ∀ bs : List Addr, Vals (bs.map V.ref) (bs.map Value.ref)
  | [] => .nil
  | b :: bs => .cons rfl (vals_refsT bs)
/-- sorted(d.keys()), the keys tuples of ints, four at most, none empty -/
theorem call_sortedKT (hc : X.calm = true) : CallR X (.builtin "sorted") (fun xs H Q => ∃ p d kvs ks, xs = [.ref p] ∧ H p = some (.ext fun h => PySem.W.KdlKeysView h p d) ∧ H d = some (.dT kvs) ∧ kvs.map (·.1) = ks.map kI ∧ ks.length ≤ 4 ∧ ks.Nodup ∧ (∀ k ∈ ks, k ≠ []) ∧ ∀ ys' ks', TupsAt X.K H ys' ks' → ks'.Perm ks → adjT ks' = true → New H (.lst ys') Q) := by
  intro pins s σ H xs us Q I r h
  obtain ⟨p, d, kvs, ks, rfl, ep', e, hks, h4, nd, ne, fin⟩ := h
  obtain ⟨u, rfl, ru⟩ := vals1 r
  cases ru
  have hv : PySem.W.KdlKeysView s.heap p d := (show ObjOk X.prog X.w H s.heap p (.ext fun h => PySem.W.KdlKeysView h p d) from I.hok p _ ep').1
  obtain ⟨hd, es, ep, hr, hsz, _, hk⟩ := raw_of (show ObjOk X.prog X.w H s.heap d (.dT kvs) from I.hok d _ e)
  have lk : kvs.length = ks.length := by have := congrArg List.length hks; simpa using this
  -- the keys as values
  obtain ⟨bs, hbs⟩ : ∃ bs : List Addr, bs.length = ks.length ∧ ∀ (i : Nat) (b : Addr), bs[i]? = some b → ∃ en k, es[i]? = some en ∧ en.key = Value.ref b ∧ ks[i]? = some k ∧ H b = some (.tup (k.map V.int)) := by
    have step : ∀ n, n ≤ ks.length → ∃ bs : List Addr, bs.length = n ∧ ∀ (i : Nat) (b : Addr), bs[i]? = some b → ∃ en k, es[i]? = some en ∧ en.key = Value.ref b ∧ ks[i]? = some k ∧ H b = some (.tup (k.map V.int)) := by
      intro n
      induction n with
      | zero => exact fun _ => ⟨[], rfl, fun i b h => by cases h⟩
      | succ n ih =>
        intro hn
        obtain ⟨bs, h1, h2⟩ := ih (by omega)
        have hkn : ks[n]? = some ks[n] := List.getElem?_eq_getElem (by omega)
        have hkv : kvs[n]? = some kvs[n] := List.getElem?_eq_getElem (by omega)
        have e1 : kvs[n].1 = kI ks[n] := by
          have : (kvs.map (·.1))[n]? = (ks.map kI)[n]? := by rw [hks]
          rw [List.getElem?_map, List.getElem?_map, hkv, hkn] at this
          exact Option.some.inj this
        obtain ⟨en, b, a1, a2, a3⟩ := hk n kvs[n].1 kvs[n].2 hkv
        rw [e1] at a3
        refine ⟨bs ++ [b], by rw [List.length_append, h1]; rfl, fun i b' hb => ?_⟩
        by_cases hi : i < bs.length
        · rw [List.getElem?_append_left hi] at hb
          exact h2 i b' hb
        · have ei : i = n := by
            have := (List.getElem?_eq_some_iff.mp hb).1
            rw [List.length_append, List.length_singleton] at this
            omega
          subst ei
          rw [List.getElem?_append_right (by omega)] at hb
          have : i - bs.length = 0 := by omega
          rw [this] at hb
          cases hb
          exact ⟨en, ks[i], a1, a2, hkn, nat_ints a3⟩
    exact step ks.length (Nat.le_refl _)
  obtain ⟨lb, hbs⟩ := hbs
  have tA : TupsAt X.K H (bs.map V.ref) ks := by
    unfold TupsAt
    refine paired_ofI (by rw [List.length_map]; exact lb) fun i y hy => ?_
    rw [List.getElem?_map] at hy
    cases hb : bs[i]? with
    | none => rw [hb] at hy; cases hy
    | some b =>
      rw [hb] at hy
      cases hy
      obtain ⟨_, k, _, _, h3, h4'⟩ := hbs i b hb
      exact ⟨k, h3, b, rfl, SqT.of h4', ne k (List.mem_of_getElem? h3)⟩
  have rv : Vals (bs.map V.ref) (bs.map Value.ref) := vals_refsT bs
  refine sorted_collectsT (PySem.W.kdu_collect (kdl_rawK (es := es) (ep := ep)) (I.ok.hd hc) ⟨hv, hr⟩ (by rw [hsz]; exact smallL (by omega)) fun h' tk acc hk' hacc => ?_)
  have eacc : acc.toList = bs.map Value.ref := by
    refine List.ext_getElem? fun i => ?_
    rw [Array.getElem?_toList, List.getElem?_map]
    by_cases hi : i < bs.length
    · have hia : i < acc.size := by rw [hacc.1]; omega
      obtain ⟨en, h1, h2⟩ := hacc.2 i _ (Array.getElem?_eq_getElem hia)
      obtain ⟨en', _, g1, g2, _⟩ := hbs i bs[i] (List.getElem?_eq_getElem hi)
      rw [h1] at g1; cases g1
      rw [Array.getElem?_eq_getElem hia, h2, g2, List.getElem?_eq_getElem hi]
      rfl
    · rw [Array.getElem?_eq_none (by rw [hacc.1]; omega), List.getElem?_eq_none (by omega)]
      rfl
  rw [eacc]
  have I' : Inv X pins σ H { s with heap := h', toks := tk } := I.kept hk'
  have tp : Paired (TupI h') (bs.map Value.ref) ks := I'.tups tA rv
  refine ⟨ks, h', tk, rfl, tp, by rw [List.length_map]; omega, nd, fun h2 pm en k2 he hp ha => ?_⟩
  have hm : ∀ i ∈ pm, i < (bs.map V.ref).length := fun i hi => by
    have := List.mem_range.mp (hp.mem_iff.mp hi)
    rw [List.length_map] at this ⊢
    exact this
  have hpl := hp.length_eq
  rw [List.length_range, List.length_map] at hpl
  refine ⟨.ref h'.objs.size, _, I'.laid (s := { s with heap := h', toks := tk }) (t' := tk) (o := .lst (pm.map fun i => (bs.map V.ref).getD i .non)) k2 (Nat.le_refl _) ⟨by rw [List.length_map]; exact smallL (by omega), _, en, paired_pick rv _ _ pm hm, he⟩, rfl, ?_⟩
  exact (fin _ (pm.map fun i => ks.getD i []) (paired_pick tA _ _ pm hm) (perm_getD (by rw [← lb]; rw [List.length_map] at hp; exact hp)) (by rw [adj_map]; exact ha)).at _ (I'.hok.fresh (Nat.le_refl _))
end
end L2

set_option Elab.async false
set_option linter.all false
set_option maxRecDepth 100000
set_option maxHeartbeats 4000000

namespace L2
open PySem PySem.Spec PyProof.Rows
theorem meets_lenR {prog : Program} {w : World} (d : Addr) (hd : (d == sysModules) = false) :
    MeetsIn prog w (Builtin.«dict.__len__» ⟨[.ref d], []⟩) (fun _ R s => ∃ es ep, RawD s.heap d es ep ∧ R (.ok (.ret (.int es.size s.toks))) { s with toks := s.toks + 1 }) :=
  .of_wp fun A R s ⟨es, ep, ⟨o, ho, hc, hdat⟩, h⟩ => by
    show wpAny _ _ (dictSize d >>= _) _ _ s
    unfold dictSize
    refine wpAny_bind (wpAny_bind (wpAny_dictEntries ho hdat (wpAny_pure ?_)))
    show wpAny _ _ (Builtin.Dict.pendingCount d >>= _) _ _ s
    refine wpAny_bind (wpAny_pendingCount_other hd ?_)
    refine wpAny_ret_mkInt ?_
    rw [Nat.add_zero]; exact h
theorem len_bodyR {prog : Program} {w : World} {A : Around} {E : Value → Shared → Prop} {s : Shared} {d : Addr} {es : Array DictEntry} {ep : Nat} {Q : Value → Shared → Prop} (hd : (d == sysModules) = false) (hm : RawD s.heap d es ep) (hfit : (es.size : Int) < 2 ^ 63)
    (h : Q (.int es.size (s.toks + 1)) { s with toks := s.toks + 1 + 1 }) : wpAny (model prog w) A (Builtin.«len» ⟨[.ref d], []⟩) (fun fin s' => ∃ r, fin = .done (.ret r) ∧ Q r s') E s := by
  unfold Builtin.«len»
  refine wpAny_bind (m := oneArg "len" _) (wpAny_pure ?_)
  refine wpAny_bind (m := callSpecial? (.ref d) (Str.ofString "__len__")) (wpAny_callSpecial?_slot (name := Str.ofString "__len__") hm.typeIs PySem.F.slot_dict_len
    (call_meetsIn PySem.F.slot_dict_len hm.typeIs PySem.F.entry_dict_len (PySem.F.args_dict_len_1 _) (meets_lenR d hd) ⟨es, ep, hm, ?_⟩))
  show wpAny _ _ _ _ _ { s with toks := s.toks + 1 }
  refine wpAny_bind (wpAny_holding (wpAny_pure ?_))
  refine wpAny_bind (wpAny_letGo ?_)
  show wpAny _ _ (if ((es.size : Nat) : Int) < 0 then _ else _) _ _ _
  rw [if_neg (by omega)]
  show wpAny _ _ (if ((es.size : Nat) : Int) ≥ 2 ^ 63 then _ else _) _ _ _
  rw [if_neg (by omega)]
  exact wpAny_bind (wpAny_mkInt (wpAny_pure ⟨_, rfl, h⟩))
section
variable {X : Cx}
/-- len of a dict with tuples as keys -/
theorem call_lenT : CallR X (.builtin "len") (fun xs H Q => ∃ d kvs, xs = [.ref d] ∧ H d = some (.dT kvs) ∧ Q (.int kvs.length) H) := by
  intro pins s σ H xs us Q I r h
  obtain ⟨d, kvs, rfl, e, q⟩ := h
  obtain ⟨u, rfl, ru⟩ := vals1 r
  cases ru
  obtain ⟨z, _⟩ := dt_rd I.hok (.inl e)
  obtain ⟨hd, es, ep, hr, hsz, _⟩ := raw_of (show ObjOk X.prog X.w H s.heap d (.dT kvs) from I.hok d _ e)
  refine Calls.call_function_entry kind_len plain_len entry_len (args_len1 _) (len_bodyR hd hr (by rw [hsz]; rw [sizeLine_eq] at z; omega) ?_)
  rw [hsz]
  exact ⟨.int kvs.length, H, I.tok _, ⟨_, rfl⟩, q⟩
/-- t + u, u just made and not empty -/
def rCatA (K : PySem.W.Frag) : R2 := fun x y H Q => ∃ a b xs ys, x = .ref a ∧ y = .ref b ∧ SqT K H a xs ∧ H b = some (.tup ys) ∧ ys ≠ [] ∧ xs.length + ys.length ≤ sizeLine ∧
  ∀ p H', Same H H' → H' p = some (.tup (xs ++ ys)) → Q (.ref p) H'
theorem op_catA : OpR X (binaryOp .Add) (rCatA X.K) := by
  intro pins s σ H x y v u Q I rx ry h
  obtain ⟨a, b, xs, ys, rfl, rfl, ha, hb, hy, hz, q⟩ := h
  by_cases hx : xs = []
  · subst hx
    cases rx
    cases ry
    obtain ⟨its, r1, p1, _⟩ := I.tuple ha
    obtain ⟨its2, r2, p2, _⟩ := I.tuple (SqT.of hb)
    have z : its = [] := r1.nil_iff.mpr rfl
    subst z
    obtain ⟨⟨cls, dd, data, sl⟩, ho, hc, n, hd⟩ := id p1
    obtain ⟨⟨cls2, dd2, data2, sl2⟩, ho2, hc2, n2, hd2⟩ := id p2
    simp only at hc hd hc2 hd2
    subst hc hd hc2 hd2
    exact concat_meets ⟨_, ho, rfl⟩ ⟨_, ho2, rfl⟩ noFill_tuple_add seq_tuple_add PySem.F.slot_tuple_add PySem.F.entry_tuple_add (PySem.F.args_tuple_add_2 _ _)
      (tuple_addW0 a b _ _ n n2 dd dd2 sl sl2 (by simp)) ⟨ho, ho2, ⟨.ref b, H, I, rfl, q b H (fun _ _ e => e) hb⟩⟩
  · exact op_catT pins s σ H _ _ v u Q I rx ry ⟨a, b, xs, ys, rfl, rfl, ha, SqT.of hb, hx, hz, fun z => absurd z hy, fun _ p hp => q p _ (same_upd hp) upd_same⟩
end
end L2

set_option Elab.async false
set_option linter.all false
set_option maxRecDepth 100000
set_option maxHeartbeats 4000000
namespace K02
open PySem L2
def top (i : Nat) : Stmt := PySem.Challenge.pw_parcelmend_k02_a_shelf.main.body.getD i (.Pass ⟨0, 0, 0, 0⟩)
abbrev sPIn : Stmt := inClass (top 8) 0
abbrev sSIn : Stmt := inClass (top 9) 0
abbrev sSNa : Stmt := inClass (top 9) 1
abbrev sSMo : Stmt := inClass (top 9) 2
abbrev sSPa : Stmt := inClass (top 9) 3
abbrev sCel : Stmt := top 11
abbrev sMix : Stmt := top 12
abbrev sNam : Stmt := top 13
abbrev sMak : Stmt := top 14
abbrev sDra : Stmt := top 15
abbrev sRef : Stmt := top 16
abbrev sAbs : Stmt := top 17
abbrev sRis : Stmt := top 18
abbrev sRig : Stmt := top 19
abbrev sLaw : Stmt := top 20
/-- the names of the built-ins are free at the top -/
structure Blt (mg : Str → Option Value) : Prop where
  range : mg "range" = none
  len : mg "len" = none
  list : mg "list" = none
  tuple : mg "tuple" = none
  sorted : mg "sorted" = none
  set : mg "set" = none
  min : mg "min" = none
  isinstance : mg "isinstance" = none
  valueError : mg "ValueError" = none
def abcS : Str := "abcdefghijklmnopqrstuvwxyz"
theorem abc_all : ∀ r : Fin 26, abcS.cps.toList[r.val]? = some (97 + r.val) := by decide +kernel
theorem abc_at (n : Int) : atI abcS.cps.toList (n % 26) = some (97 + (n % 26).toNat) := by
  have h0 : 0 ≤ n % 26 := by omega
  have h1 : n % 26 < 26 := by omega
  generalize n % 26 = r at h0 h1
  obtain ⟨k, rfl⟩ : ∃ k : Nat, r = k := ⟨r.toNat, by omega⟩
  exact atI_nat (abc_all ⟨k, by omega⟩)
theorem abc_c (n : Int) : 97 + (n % 26).toNat < 0x110000 := by omega
section
variable {P : Program} {w : World} {K : PySem.W.Frag} {mg : Str → Option Value} {base : Heap}
def spMix : Sp := fun vs H Q _ => ∃ c k : Int, vs = [.int c, .int k] ∧ ∀ n : Int, 0 ≤ n → n < 2147483647 → Q (.int n) H
theorem scMix : FnScope ["_law_cell", "_law_k", "_law_number"] ["_law_cell", "_law_k"] (defScope sMix) := ⟨rfl, rfl, rfl, by decide +kernel, rfl, by decide +kernel, by decide +kernel⟩
theorem okMix {f : Addr} {fd : FuncData} (F : Fun K "_law_mixed" "_law_mixed" sMix f fd) : FnOk P w K mg base CX0 1 f fd ["_law_cell", "_law_k"] spMix := by
  refine F.ok scMix (fun vs H Q E h => ?_) (fun cdv A outer s H vs Q E hr h => ?_)
  · obtain ⟨c, k, rfl, _⟩ := h
    rfl
  · obtain ⟨c, k, rfl, q⟩ := h
    refine ⟨_, pss_cons (ps_set (i := 2) scMix.nd rfl (Or.inl rfl) (pe_op op_mod (pe_op op_mul (pe_op op_add (pe_op op_add (pv 0) (pe_op op_mul pe_int (pv 1))) pe_int) pe_int) pe_int))
      (pss_cons (ps_set (i := 2) scMix.nd rfl (Or.inl rfl) (pe_op op_mod (pe_op op_mul (pv 2) (pe_op op_add (pe_op op_fdiv (pv 2) pe_int) pe_int)) pe_int))
      (pss_one (ps_ret (pe_op op_mod (pe_op op_mul (pv 2) (pe_op op_add (pe_op op_fdiv (pv 2) pe_int) pe_int)) pe_int)))), ?_⟩
    refine ⟨_, rfl, _, rfl, _, _, rfl, rfl, .inl ⟨by omega, by omega⟩, _, _, rfl, rfl, _, _, rfl, rfl, _, _, rfl, rfl, .inr ⟨by omega, by omega⟩, _, _, rfl, rfl, (by show (0 : Int) < 2147483647; decide), ?_⟩
    refine ⟨_, rfl, _, rfl, _, _, rfl, rfl, ⟨by omega, by omega⟩, _, _, rfl, rfl, _, _, rfl, rfl, .inl ⟨by omega, by omega⟩, _, _, rfl, rfl, (by show (0 : Int) < 2147483647; decide), ?_⟩
    refine ⟨_, rfl, _, rfl, _, _, rfl, rfl, ⟨by omega, by omega⟩, _, _, rfl, rfl, _, _, rfl, rfl, .inl ⟨by omega, by omega⟩, _, _, rfl, rfl, (by show (0 : Int) < 2147483647; decide), ?_⟩
    exact q _ (Int.emod_nonneg _ (by omega)) (Int.emod_lt_of_pos _ (by omega))
def spCel (K : PySem.W.Frag) : Sp := fun vs H Q _ => ∃ (a : Addr) (k : Int) (ns : List Int), vs = [.ref a, .int k] ∧ 0 ≤ k ∧ SqL K H a (ns.map V.int) ∧ ∀ n : Int, Q (.int n) H
theorem scCel : FnScope ["_law_script", "_law_k"] ["_law_script", "_law_k"] (defScope sCel) := ⟨rfl, rfl, rfl, by decide +kernel, rfl, by decide +kernel, by decide +kernel⟩
theorem okCel {f : Addr} {fd : FuncData} (F : Fun K "_law_cell_at" "_law_cell_at" sCel f fd) (B : Blt mg) : FnOk P w K mg base CX0 1 f fd ["_law_script", "_law_k"] (spCel K) := by
  refine F.ok scCel (fun vs H Q E h => ?_) (fun cdv A outer s H vs Q E hr h => ?_)
  · obtain ⟨a, k, ns, rfl, _⟩ := h
    rfl
  · obtain ⟨a, k, ns, rfl, k0, hA, q⟩ := h
    refine ⟨_, (pss_cons (ps_if (pt_cmpR op_lt (pv 1) (pe_callB call_len_seq (by rfl) B.len PySem.boot_len (pa_cons (pv 0) pa_nil)) (nomark _))
        (pss_one (ps_ret (pe_ix ix_list (pv 0) (pv 1) (fun _ _ => rfl)))) pss_nil)
        (pss_one (ps_ret pe_int))), ?_⟩
    refine ⟨_, rfl, _, rfl, a, _, rfl, .inl hA, _, _, rfl, rfl, _, rfl, ?_⟩
    refine ite2 (fun h => ?_) (fun h => ?_)
    · have h' := of_decide_eq_true h
      rw [List.length_map] at h'
      obtain ⟨z, hz, _⟩ := atI_ints (ns := ns) (r := k) k0 h'
      exact ⟨_, rfl, _, rfl, a, _, _, _, rfl, rfl, hA, hz, q z⟩
    · exact q 0
/-! ### makes -/
def MkOk (ns : List Int) : Prop := 1 ≤ ns.length ∧ ns.length ≤ 3 ∧ ∀ n ∈ ns, 0 ≤ n ∧ n ≤ 1000000000
def spMak : Sp := fun vs H Q _ => ∃ n : Int, vs = [.int n] ∧ ∀ (p : Addr) (ns : List Int) (H' : Hp), H p = none → Same H H' → H' p = some (.tup (ns.map V.int)) → MkOk ns → Q (.ref p) H'
theorem scMak : FnScope ["_law_number", "_law_numbers"] ["_law_number"] (defScope sMak) := ⟨rfl, rfl, rfl, by decide +kernel, rfl, by decide +kernel, by decide +kernel⟩
theorem mem_set_or {α : Type} {xs : List α} {i : Nat} {z y : α} (h : y ∈ xs.set i z) : y = z ∨ y ∈ xs := by
  rcases List.mem_or_eq_of_mem_set h with z | z
  · exact .inr z
  · exact .inl z
theorem okMak {f : Addr} {fd : FuncData} (F : Fun K "_law_make" "_law_make" sMak f fd) (B : Blt mg) : FnOk P w K mg base CX0 1 f fd ["_law_number"] spMak := by
  refine F.ok scMak (fun vs H Q E h => ?_) (fun cdv A outer s H vs Q E hr h => ?_)
  · obtain ⟨n, rfl, _⟩ := h
    rfl
  · obtain ⟨n, rfl, q⟩ := h
    refine ⟨_, pss_cons (ps_set (i := 1) scMak.nd rfl (Or.inl rfl) (pe_lst (pa_cons (pe_op op_mod (pe_op op_fdiv (pv 0) pe_int) pe_int) (pa_cons (pe_op op_mod (pe_op op_fdiv (pv 0) pe_int) pe_int) (pa_cons (pe_op op_mod (pe_op op_fdiv (pv 0) pe_int) pe_int) pa_nil)))))
      (pss_cut (fun σ H2 => ∃ (l : Addr) (ns : List Int), σ = [some (.int n), some (.ref l)] ∧ ns.length = 3 ∧ (∀ m ∈ ns, 0 ≤ m ∧ m ≤ 1000000000) ∧ H2 l = some (.lst (ns.map V.int)) ∧ Same H H2 ∧ H l = none)
        (ps_if (pt_cmpR op_eq (pe_op op_mod (pe_op op_fdiv (pv 0) pe_int) pe_int) pe_int (nomark _))
          (pss_one (ps_asg (pe_ix ix_list (pe_lst (pa_cons (pe_op op_pow pe_int pe_int) (pa_cons (pe_op op_mod (pv 0) (pe_op op_pow pe_int pe_int)) (pa_cons (pe_op op_sub (pe_op op_pow pe_int pe_int) pe_int) pa_nil)))) (pe_op op_mod (pe_op op_fdiv (pv 0) pe_int) pe_int) (fun _ _ => rfl))
            (pg_sub (pv 1) (pe_op op_mod (pe_op op_fdiv (pv 0) pe_int) pe_int) set_list))) pss_nil)
        (pss_one (ps_ret (pe_callTy call_tuple_of (by rfl) B.tuple PyProof.Rows.boot_tuple (pa_cons (pe_slice sl_list (pv 1) po_none (po_some (pe_op op_add pe_int (pe_op op_mod (pv 0) pe_int)))) pa_nil))))), ?_⟩
    refine ⟨_, rfl, _, _, rfl, rfl, ⟨by omega, by omega⟩, _, _, rfl, rfl, (by show (0 : Int) < 3; decide), _, rfl, _, _, rfl, rfl, ⟨by omega, by omega⟩, _, _, rfl, rfl, (by show (0 : Int) < 3; decide), _, rfl, _, _, rfl, rfl, ⟨by omega, by omega⟩, _, _, rfl, rfl, (by show (0 : Int) < 3; decide), (by show 3 ≤ sizeLine; decide), fun l hl => ?_⟩
    have b3 : ∀ m ∈ ([n / 3 % 3, n / 9 % 3, n / 27 % 3] : List Int), 0 ≤ m ∧ m ≤ 1000000000 := fun m hm => by
      rcases List.mem_cons.mp hm with z | z
      · omega
      rcases List.mem_cons.mp z with z | z
      · omega
      rcases List.mem_cons.mp z with z | z
      · omega
      cases z
    refine ⟨?_, ?_⟩
    · refine ⟨_, rfl, _, _, rfl, rfl, ⟨by omega, by omega⟩, _, _, rfl, rfl, (by show (0 : Int) < 4; decide), rfl, _, rfl, ?_⟩
      refine ite2 (fun _ => ?_) (fun _ => ?_)
      · refine ⟨_, _, rfl, rfl, ⟨by decide, by decide, by decide⟩, _, rfl, _, _, rfl, rfl, ⟨by decide, by decide, by decide⟩, _, _, rfl, rfl, (by show (0 : Int) < 10 ^ 9; decide), _, _, rfl, rfl, ⟨by decide, by decide, by decide⟩, _, _, rfl, rfl, (by show 3 ≤ sizeLine; decide), fun l2 hl2 => ?_⟩
        obtain ⟨n1, n2⟩ := free_upd hl2
        obtain ⟨z, hz, hz'⟩ := atI_ints (ns := [(10 : Int) ^ (9 : Int).toNat, n % 10 ^ (9 : Int).toNat, 10 ^ (9 : Int).toNat - 1]) (r := n / 972 % 3) (Int.emod_nonneg _ (by omega)) (by show n / 972 % 3 < 3; omega)
        have bz : 0 ≤ z ∧ z ≤ 1000000000 := by
          have hm := List.mem_of_getElem? hz'
          have e9 : (10 : Int) ^ (9 : Int).toNat = 1000000000 := by decide
          rw [e9] at hm
          rcases List.mem_cons.mp hm with z | z
          · omega
          rcases List.mem_cons.mp z with z | z
          · omega
          rcases List.mem_cons.mp z with z | z
          · omega
          cases z
        refine ⟨_, rfl, _, _, rfl, rfl, ⟨by omega, by omega⟩, _, _, rfl, rfl, (by show (0 : Int) < 3; decide), l2, _, _, _, rfl, rfl, SqL.of upd_same, hz, ?_⟩
        refine ⟨_, rfl, _, rfl, _, _, rfl, rfl, ⟨by omega, by omega⟩, _, _, rfl, rfl, (by show (0 : Int) < 3; decide), l, _, _, _, rfl, rfl, Eq.trans (upd_ne n1.symm) upd_same, ixN_in (Int.emod_nonneg _ (by omega)) (by show n / 324 % 3 < 3; omega), ?_⟩
        refine ⟨l, ([n / 3 % 3, n / 9 % 3, n / 27 % 3] : List Int).set (n / 324 % 3).toNat z, rfl, by simp, fun m hm => ?_, by rw [upd_same, ← set_ints]; rfl, same_upd' (same_upd' (same_upd hl) n2) hl, hl⟩
        rcases mem_set_or hm with e | e
        · rw [e]; exact bz
        · exact b3 m e
      · exact ⟨l, [n / 3 % 3, n / 9 % 3, n / 27 % 3], rfl, rfl, b3, upd_same, same_upd hl, hl⟩
    · rintro σ' H' ⟨l, ns, rfl, hn, hb, hL, hS, hl⟩
      refine ⟨_, rfl, _, rfl, _, _, rfl, rfl, (by show (0 : Int) < 3; decide), _, _, rfl, rfl, _, rfl, l, _, rfl, SqL.of hL, fun p hp => ?_⟩
      refine ⟨p, _, rfl, .inl ⟨SqL.of upd_same, fun t ht => ?_⟩⟩
      obtain ⟨t1, t2⟩ := free_upd ht
      have hp0 := hS.free hp
      have ht0 := hS.free t2
      refine q t (ns.take (1 + n % 3).toNat) _ ht0 (same_upd' (same_upd' hS hp0) ht0) (by rw [upd_same, cutV_take (by omega), take_ints]) ⟨?_, ?_, fun m hm => hb m (List.mem_of_mem_take hm)⟩
      · rw [List.length_take, hn]; omega
      · rw [List.length_take, hn]; omega
/-! ### names -/
def nameK (A B : Str) (x : Int) (k : Nat) : Str := A ++ ⟨#[97 + ((x + 5 * (0 + (k : Int))) % 26).toNat]⟩ ++ B
theorem app_cps (a b : Str) : (a ++ b).cps.toList = a.cps.toList ++ b.cps.toList := by
  show (a.cps ++ b.cps).toList = _
  simp
theorem nameK_ne {A B : Str} {x : Int} {j : Nat} (hj : j < 8) : nameK A B x 8 ≠ nameK A B x j := fun e => by
  have e1 := congrArg (fun z : Str => z.cps.toList) e
  unfold nameK at e1
  simp only [app_cps] at e1
  have e2 := List.append_cancel_left (List.append_cancel_right e1)
  have e3 : 97 + ((x + 5 * (0 + ((8 : Nat) : Int))) % 26).toNat = 97 + ((x + 5 * (0 + (j : Int))) % 26).toNat := by simpa using e2
  omega
def Nm (x : Str) : Prop := TxtOk x ∧ x.length ≤ 20
def spNam : Sp := fun vs H Q _ => ∃ c : Int, vs = [.int c] ∧ ∀ l H' (ys : List Str), H l = none → Same H H' → H' l = some (.lst (ys.map V.str)) → ys.length = 9 → (∀ y ∈ ys, Nm y) → (∀ z j, ys[8]? = some z → j < 8 → ys[j]? ≠ some z) → Q (.ref l) H'
theorem scNam : FnScope ["_law_cell", "_law_stem", "_law_k", "_law_at", "_law_found", "_law_sign"] ["_law_cell"] (defScope sNam) := ⟨rfl, rfl, rfl, by decide +kernel, rfl, by decide +kernel, by decide +kernel⟩
theorem okNam {f : Addr} {fd : FuncData} (F : Fun K "_law_names" "_law_names" sNam f fd) (B : Blt mg) : FnOk P w K mg base CX0 1 f fd ["_law_cell"] spNam := by
  refine F.ok scNam (fun vs H Q E h => ?_) (fun cdv A outer s H vs Q E hr h => ?_)
  · obtain ⟨c, rfl, _⟩ := h
    rfl
  · obtain ⟨c, rfl, q⟩ := h
    refine ⟨_, (pss_cons (ps_set (i := 1) scNam.nd rfl (Or.inl rfl) pe_str)
        (pss_cons (ps_for PassesOwn.never rfl (pi_range1 rfl B.range (pa_cons (pe_op op_mod (pv 0) pe_int) pa_nil)) (pg_name (i := 2) scNam.nd rfl (Or.inl rfl))
        (pss_one (ps_set (i := 1) scNam.nd rfl (Or.inl rfl) (pe_op op_add_str (pv 1) (pe_ix ix_str pe_str (pe_op op_mod (pe_op op_fdiv (pv 0) (pe_op op_add pe_int (pe_op op_mul pe_int (pv 2)))) pe_int) (fun _ _ => rfl))))))
        (pss_cons (ps_set (i := 3) scNam.nd rfl (Or.inl rfl) (pe_op op_mod (pe_op op_fdiv (pv 0) pe_int) (pe_op op_add (pe_callB call_len_str (by rfl) B.len PySem.boot_len (pa_cons (pv 1) pa_nil)) pe_int)))
        (pss_cons (ps_set (i := 4) scNam.nd rfl (Or.inl rfl) (pe_lstN pa_nil))
        (pss_cons (ps_for PassesOwn.never rfl (pi_range1 rfl B.range (pa_cons pe_int pa_nil)) (pg_name (i := 2) scNam.nd rfl (Or.inl rfl))
        (pss_cons (ps_set (i := 5) scNam.nd rfl (Or.inl rfl) (pe_ix ix_str pe_str (pe_op op_mod (pe_op op_add (pe_op op_fdiv (pv 0) pe_int) (pe_op op_mul pe_int (pv 2))) pe_int) (fun _ _ => rfl)))
          (pss_one (ps_expr (pe_bm PySem.F.plainAttrs_list PySem.F.slot_list_append PySem.F.type_list_append mt_append (pv 4) (pa_cons (pe_op op_add_str (pe_op op_add_str (pe_slice sl_str (pv 1) po_none (po_some (pv 3))) (pv 5)) (pe_slice sl_str (pv 1) (po_some (pv 3)) po_none)) pa_nil))))))
        (pss_one (ps_ret (pv 4)))))))), ?_⟩
    refine ⟨_, rfl, _, _, rfl, rfl, (by show (0 : Int) < 8; decide), c % 8, rfl, by omega, by omega, ?_⟩
    refine for_range (n := (c % 8).toNat) (fun i σ H' => ∃ (x : Str) (v : Option V), σ = [some (.int c), some (.str x), v, none, none, none] ∧ H' = H ∧ x.length = i ∧ TxtOk x) ⟨_, none, rfl, rfl, by decide +kernel, by decide +kernel⟩ ?_ ?_
    · rintro i σ H' hi ⟨x, v, rfl, rfl, hx, ht⟩
      have hi8 : i < 8 := by omega
      refine ⟨_, rfl, _, rfl, _, rfl, _, _, rfl, rfl, .inl ⟨by omega, by omega⟩, _, _, rfl, rfl, _, _, rfl, rfl, ⟨by omega, by omega⟩, _, _, rfl, rfl, (by show (0 : Int) < 26; decide), _, _, _, rfl, rfl, (by decide +kernel), abc_at _, _, _, rfl, rfl, fit (by omega) (by rw [len_one]; omega), ?_⟩
      exact ⟨_, some (.int (0 + (i : Int))), rfl, rfl, by rw [len_app, hx]; rfl, txtOk_app ht (txtOk_one (abc_c _))⟩
    · rintro σ H' ⟨x, v, rfl, rfl, hx, ht⟩
      have hx7 : x.length ≤ 7 := by omega
      refine ⟨_, rfl, _, _, rfl, rfl, ⟨by omega, by omega⟩, _, rfl, x, rfl, fit1 (by omega), _, _, rfl, rfl, _, _, rfl, rfl, (by show (0 : Int) < (x.length : Int) + 1; omega), ?_⟩
      obtain ⟨at_, hat⟩ : ∃ a : Int, a = c / 8 % ((x.length : Int) + 1) := ⟨_, rfl⟩
      refine ⟨(by show 0 ≤ sizeLine; decide), fun p1 H1 n1 s1 e1 => ?_⟩
      refine ⟨9, rfl, by omega, by omega, ?_⟩
      refine for_range (n := 9) (fun i σ H2 => ∃ (u v : Option V), σ = [some (.int c), some (.str x), u, some (.int at_), some (.ref p1), v] ∧ Same H' H2 ∧ H2 p1 = some (.lst (((List.range i).map (nameK (Txt.slice x none (some at_)) (Txt.slice x (some at_) none) (c / 64))).map V.str)))
        ⟨_, none, by rw [hat]; rfl, s1, e1⟩ ?_ ?_
      · rintro i σ H2 hi ⟨u, v, rfl, s2, e2⟩
        have h1 : (Txt.slice x none (some at_)).length ≤ 7 := Nat.le_trans (Txt.slice_le x _ _) hx7
        have h2 : (Txt.slice x (some at_) none).length ≤ 7 := Nat.le_trans (Txt.slice_le x _ _) hx7
        refine ⟨_, rfl, _, _, rfl, rfl, ⟨by omega, by omega⟩, _, rfl, _, _, rfl, rfl, .inl ⟨by omega, by omega⟩, _, _, rfl, rfl, _, _, rfl, rfl, (by show (0 : Int) < 26; decide), _, _, _, rfl, rfl, (by decide +kernel), abc_at _, ?_⟩
        refine ⟨_, rfl, .inl ⟨rfl, _, SqL.of e2⟩, _, rfl, _, rfl, _, rfl, _, rfl, fit1 (by omega), _, rfl, _, _, rfl, rfl, fit (by omega) (by rw [len_one]; omega), _, rfl, _, rfl, _, rfl, _, rfl, fit1 (by omega), _, _, rfl, rfl, fit (by rw [len_app, len_one]; omega) (by omega), p1, _, _, rfl, rfl, e2, (by rw [List.length_map, List.length_map, List.length_range]; exact small1000 (by omega)), ?_⟩
        refine ⟨_, _, rfl, fun b o e => ?_, ?_⟩
        · rw [upd_ne (ne_of_none e n1)]
          exact s2 _ _ e
        · rw [upd_same, List.range_succ, List.map_append, List.map_append]
          rfl
      · rintro σ H2 ⟨u, v, rfl, s2, e2⟩
        refine ⟨_, rfl, q p1 H2 _ n1 s2 e2 (by rw [List.length_map, List.length_range]) (fun y hy => ?_) fun z j hz hj hjz => ?_⟩
        · obtain ⟨k, _, rfl⟩ := List.mem_map.mp hy
          refine ⟨txtOk_app (txtOk_app (txtOk_slice ht _ _) (txtOk_one (abc_c _))) (txtOk_slice ht _ _), ?_⟩
          have h1 : (Txt.slice x none (some at_)).length ≤ 7 := Nat.le_trans (Txt.slice_le x _ _) hx7
          have h2 : (Txt.slice x (some at_) none).length ≤ 7 := Nat.le_trans (Txt.slice_le x _ _) hx7
          unfold nameK
          rw [len_app, len_app, len_one]
          omega
        · have e8 : z = nameK (Txt.slice x none (some at_)) (Txt.slice x (some at_) none) (c / 64) 8 := by
            rw [List.getElem?_map] at hz
            exact (Option.some.inj hz).symm
          have ej : z = nameK (Txt.slice x none (some at_)) (Txt.slice x (some at_) none) (c / 64) j := by
            rw [List.getElem?_map, List.getElem?_range (by omega)] at hjz
            exact (Option.some.inj hjz).symm
          exact nameK_ne hj (e8.symm.trans ej)
end
end K02

set_option Elab.async false
set_option linter.all false
set_option maxRecDepth 100000
set_option maxHeartbeats 4000000
namespace K02
open PySem L2
/-- what the walk asks of the class -/
structure Txt (K : PySem.W.Frag) (mg : Str → Option Value) (C : Addr) : Prop where
  cl : Cls K C
  nN : NoAttr K C "name"
  nM : NoAttr K C "make"
  nR : NoAttr K C "rank"
  nF : NoAttr K C "files"
  nE : NoAttr K C "needs"
  nS : NoAttr K C "shuts"
  nO : NoAttr K C "offers"
  mgC : mg "Parcel" = some (.ref C)
/-- the fields of a parcel -/
structure Flds (fl : List (Str × V)) (nm mk rk : V) (pf pn ps po : Addr) : Prop where
  name : fl.lookup ("name" : Str) = some nm
  make : fl.lookup ("make" : Str) = some mk
  rank : fl.lookup ("rank" : Str) = some rk
  files : fl.lookup ("files" : Str) = some (.ref pf)
  needs : fl.lookup ("needs" : Str) = some (.ref pn)
  shuts : fl.lookup ("shuts" : Str) = some (.ref ps)
  offers : fl.lookup ("offers" : Str) = some (.ref po)
def fl7 (nm mk rk : V) (pf pn ps po : Addr) : List (Str × V) := putF "offers" (.ref po) (putF "shuts" (.ref ps) (putF "needs" (.ref pn) (putF "files" (.ref pf) (putF "rank" rk (putF "make" mk (putF "name" nm []))))))
theorem flds7 (nm mk rk : V) (pf pn ps po : Addr) : Flds (fl7 nm mk rk pf pn ps po) nm mk rk pf pn ps po := by
  unfold fl7
  constructor
  · rw [lookup_putF, if_neg (by decide +kernel), lookup_putF, if_neg (by decide +kernel), lookup_putF, if_neg (by decide +kernel), lookup_putF, if_neg (by decide +kernel), lookup_putF, if_neg (by decide +kernel), lookup_putF, if_neg (by decide +kernel), lookup_putF, if_pos rfl]
  · rw [lookup_putF, if_neg (by decide +kernel), lookup_putF, if_neg (by decide +kernel), lookup_putF, if_neg (by decide +kernel), lookup_putF, if_neg (by decide +kernel), lookup_putF, if_neg (by decide +kernel), lookup_putF, if_pos rfl]
  · rw [lookup_putF, if_neg (by decide +kernel), lookup_putF, if_neg (by decide +kernel), lookup_putF, if_neg (by decide +kernel), lookup_putF, if_neg (by decide +kernel), lookup_putF, if_pos rfl]
  · rw [lookup_putF, if_neg (by decide +kernel), lookup_putF, if_neg (by decide +kernel), lookup_putF, if_neg (by decide +kernel), lookup_putF, if_pos rfl]
  · rw [lookup_putF, if_neg (by decide +kernel), lookup_putF, if_neg (by decide +kernel), lookup_putF, if_pos rfl]
  · rw [lookup_putF, if_neg (by decide +kernel), lookup_putF, if_pos rfl]
  · rw [lookup_putF, if_pos rfl]
section
variable {P : Program} {w : World} {K : PySem.W.Frag} {mg : Str → Option Value} {base : Heap}
/-! ### a parcel is made -/
/-- the files handed in: each a path and lines -/
structure FilesAt (K : PySem.W.Frag) (H : Hp) (xs : List V) (fs : List (V × List V)) : Prop where
  len : xs.length = fs.length
  item : ∀ (i : Nat) (p : V) (ls : List V), fs[i]? = some (p, ls) → ∃ t l, xs[i]? = some (.ref t) ∧ SqT K H t [p, .ref l] ∧ SqL K H l ls
/-- the parcel's own: new things of the same content -/
structure FilesNew (H H' : Hp) (D : Addr) (xs : List V) (fs : List (V × List V)) (k : Nat) : Prop where
  len : xs.length = k
  item : ∀ (i : Nat) (p : V) (ls : List V), i < k → fs[i]? = some (p, ls) → ∃ t l, xs[i]? = some (.ref t) ∧ H t = none ∧ H l = none ∧ t ≠ D ∧ l ≠ D ∧ H' t = some (.tup [p, .ref l]) ∧ H' l = some (.lst ls)
def filesComp : Expr := match (defBody sPIn).getD 3 (.Pass ⟨0, 0, 0, 0⟩) with
  | .Assign _ e _ => e
  | _ => .Constant .none 0 ⟨0, 0, 0, 0⟩
def filesScope : Scope := match filesComp with
  | .ListComp _ _ sc _ => sc
  | _ => { kind := .function, names := [], isGenerator := false, isCoroutine := false }
def filesElt : Expr := match filesComp with
  | .ListComp e _ _ _ => e
  | _ => .Constant .none 0 ⟨0, 0, 0, 0⟩
def filesTg : Expr := match filesComp with
  | .ListComp _ [⟨t, _, _, _⟩] _ _ => t
  | _ => .Constant .none 0 ⟨0, 0, 0, 0⟩
def filesIter : Expr := match filesComp with
  | .ListComp _ [⟨_, t, _, _⟩] _ _ => t
  | _ => .Constant .none 0 ⟨0, 0, 0, 0⟩
theorem scFiles : CompScope ["path", "lines"] filesScope := ⟨rfl, by decide +kernel, by decide +kernel, by decide +kernel, by decide +kernel⟩
def rListOf (K : PySem.W.Frag) : List V → Hp → VK → Prop := fun xs H Q => ∃ p ys, xs = [.ref p] ∧ (SqL K H p ys ∨ SqT K H p ys) ∧ ∀ l, H l = none → Q (.ref l) (upd H l (.lst ys))
theorem filesG {X : Cx} (hc : X.calm = true) (s₀ : Shared) (H₀ : Hp) (C₀ : Addr) (ex : List Addr) : PG (cxComp X ["path", "lines"] filesScope s₀ H₀ C₀ ex) filesTg (gTup X.K 2 (gCons (gName 0) (gCons (gName 1) gNil))) :=
  pg_tup (X := cxComp X ["path", "lines"] filesScope s₀ H₀ C₀ ex) hc (pgs_cons (pg_name (i := 0) scFiles.nd rfl (Or.inl rfl)) (pgs_cons (pg_name (i := 1) scFiles.nd rfl (Or.inl rfl)) pgs_nil))
theorem filesE {X : Cx} (ti : X.mg "list" = none) (s₀ : Shared) (H₀ : Hp) (C₀ : Addr) (ex : List Addr) : PE (cxComp X ["path", "lines"] filesScope s₀ H₀ C₀ ex) filesElt (tTup (tCons (tVar 0) (tCons (tCB (rListOf X.K) (tCons (tVar 1) tNil)) tNil))) :=
  pe_tup (X := cxComp X ["path", "lines"] filesScope s₀ H₀ C₀ ex) (pa_cons (pv 0) (pa_cons (pe_callTy (call_list_of (X := cxComp X ["path", "lines"] filesScope s₀ H₀ C₀ ex)) (by rfl) ti PyProof.Rows.boot_list (pa_cons (pv 1) pa_nil)) pa_nil))
theorem filesPE {X : Cx} {wi : TI} (hc : X.calm = true) (ti : X.mg "list" = none) (hi : PI X filesTg filesIter wi) : PE X filesComp (tComp wi 2 (gTup X.K 2 (gCons (gName 0) (gCons (gName 1) gNil))) tTrue (tTup (tCons (tVar 0) (tCons (tCB (rListOf X.K) (tCons (tVar 1) tNil)) tNil)))) :=
  pe_comp (N := ["path", "lines"]) (elt := filesElt) (tg := filesTg) (iter := filesIter) (ifs := []) (sc := filesScope) scFiles hc hi (filesG hc) (fun _ _ _ _ => pts_nil) (filesE ti)
theorem scPIn : FnScope ["self", "name", "make", "rank", "files", "needs", "shuts", "offers"] ["self", "name", "make", "rank", "files", "needs", "shuts", "offers"] (defScope sPIn) := ⟨rfl, rfl, rfl, by decide +kernel, rfl, by decide +kernel, by decide +kernel⟩
def spPIn (K : PySem.W.Frag) (C : Addr) : Sp := fun vs H Q _ => ∃ (x dx fa na sa oa : Addr) (nm mk rk : V) (xs ns ss os : List V) (fs : List (V × List V)), vs = [.ref x, nm, mk, rk, .ref fa, .ref na, .ref sa, .ref oa] ∧ H x = some (.ins C dx []) ∧
  SqL K H fa xs ∧ FilesAt K H xs fs ∧ SqL K H na ns ∧ SqL K H sa ss ∧ SqL K H oa os ∧ fs.length ≤ 1000 ∧
  ∀ (fl : List (Str × V)) (pf pn ps po : Addr) (xs' : List V) (H' : Hp), Flds fl nm mk rk pf pn ps po → H' x = some (.ins C dx fl) → H pf = none → H pn = none → H ps = none → H po = none →
    H' pf = some (.lst xs') → FilesNew H H' pf xs' fs fs.length → H' pn = some (.lst ns) → H' ps = some (.lst ss) → H' po = some (.lst os) → (∀ b o, H b = some o → b ≠ x → H' b = some o) → Q .non H'
/-- all but the object at x is as it was; what is free was free -/
structure Stage (C dx x : Addr) (H Hk : Hp) (fl : List (Str × V)) : Prop where
  same : ∀ b o, H b = some o → b ≠ x → Hk b = some o
  free : ∀ b, Hk b = none → H b = none
  ob : Hk x = some (.ins C dx fl)
section
variable {C dx x p a : Addr} {H Hk : Hp} {fl fl' : List (Str × V)} {o o' : HO} {xs : List V}
theorem Stage.put (S : Stage C dx x H Hk fl) : Stage C dx x H (upd Hk x (.ins C dx fl')) fl' :=
  ⟨fun b o e hb => by rw [upd_ne hb]; exact S.same b o e hb, fun b e => S.free b (free_upd e).2, upd_same⟩
theorem Stage.lay (S : Stage C dx x H Hk fl) (hp : Hk p = none) : Stage C dx x H (upd Hk p o) fl :=
  ⟨fun b u e hb => by rw [upd_ne (ne_of_none (S.same b u e hb) hp)]; exact S.same b u e hb, fun b e => S.free b (free_upd e).2, by rw [upd_ne (ne_of_none S.ob hp)]; exact S.ob⟩
theorem Stage.sqL (S : Stage C dx x H Hk fl) (hx : H x = some (.ins C dx fl')) (h : SqL K H a xs) : SqL K Hk a xs := by
  rcases h with (h | ⟨o, h⟩) | h
  · exact .inl (.inl (S.same _ _ h (ne_of h hx (by intro z; cases z))))
  · exact .inl (.inr ⟨o, S.same _ _ h (ne_of h hx (by intro z; cases z))⟩)
  · exact .inr h
theorem Stage.sqT (S : Stage C dx x H Hk fl) (hx : H x = some (.ins C dx fl')) (h : SqT K H a xs) : SqT K Hk a xs := by
  rcases h with (h | ⟨o, h⟩) | h
  · exact .inl (.inl (S.same _ _ h (ne_of h hx (by intro z; cases z))))
  · exact .inl (.inr ⟨o, S.same _ _ h (ne_of h hx (by intro z; cases z))⟩)
  · exact .inr h
theorem keep_upd (h : Hk a = some o) (n : a ≠ p) : upd Hk p o' a = some o := by rw [upd_ne n]; exact h
theorem lp {f : Str} {v : V} {n : Nat} (h : fl.length ≤ n) : (putF f v fl).length ≤ n + 1 := Nat.le_trans (length_putF _ _ _) (by omega)
theorem few {n : Nat} (h : fl.length ≤ n) (h2 : n < 1000) : fl.length < 1000 := by omega
theorem len0 : ([] : List (Str × V)).length ≤ 0 := Nat.le_refl _
end
theorem filesNew_keep {H Hk Hj : Hp} {D : Addr} {xs : List V} {fs : List (V × List V)} {k : Nat} (fn : FilesNew H Hk D xs fs k) (h : ∀ b o, Hk b = some o → b ≠ D → H b = none → Hj b = some o) : FilesNew H Hj D xs fs k := by
  refine ⟨fn.len, fun i p ls hi hp => ?_⟩
  obtain ⟨t, l, e1, e2, e3, e4, e5, e6, e7⟩ := fn.item i p ls hi hp
  exact ⟨t, l, e1, e2, e3, e4, e5, h t _ e6 e4 e2, h l _ e7 e5 e3⟩
theorem okPIn {f C : Addr} {fd : FuncData} (F : Fun K "__init__" "Parcel.__init__" sPIn f fd) (T : Txt K mg C) (ti : mg "list" = none) :
    FnOk P w K mg base CX0 1 f fd ["self", "name", "make", "rank", "files", "needs", "shuts", "offers"] (spPIn K C) := by
  refine F.ok scPIn (fun vs H Q E h => ?_) (fun cdv A outer s H vs Q E hr h => ?_)
  · obtain ⟨x, dx, fa, na, sa, oa, nm, mk, rk, xs, ns, ss, os, fs, rfl, _⟩ := h
    rfl
  · obtain ⟨x, dx, fa, na, sa, oa, nm, mk, rk, xs, ns, ss, os, fs, rfl, hx, hfa, hfs, hna, hsa, hoa, h1000, k⟩ := h
    refine ⟨_, pss_cons (ps_fld (pv 0) (pv 1) rfl) (pss_cons (ps_fld (pv 0) (pv 2) rfl) (pss_cons (ps_fld (pv 0) (pv 3) rfl)
      (pss_cons (ps_fld (pv 0) (filesPE rfl ti (pi_list (pv 4))) rfl)
      (pss_cons (ps_fld (pv 0) (pe_callTy call_list_of (by rfl) ti PyProof.Rows.boot_list (pa_cons (pv 5) pa_nil)) rfl)
      (pss_cons (ps_fld (pv 0) (pe_callTy call_list_of (by rfl) ti PyProof.Rows.boot_list (pa_cons (pv 6) pa_nil)) rfl)
      (pss_one (ps_fld (pv 0) (pe_callTy call_list_of (by rfl) ti PyProof.Rows.boot_list (pa_cons (pv 7) pa_nil)) rfl))))))), ?_⟩
    have S0 : Stage C dx x H H [] := ⟨fun _ _ e _ => e, fun _ e => e, hx⟩
    refine ⟨_, rfl, _, rfl, x, C, dx, _, rfl, S0.ob, T.cl, T.nN, few len0 (by decide), ?_⟩
    have S1 : Stage C dx x H _ (putF "name" nm []) := S0.put
    refine ⟨_, rfl, _, rfl, x, C, dx, _, rfl, S1.ob, T.cl, T.nM, few (lp len0) (by decide), ?_⟩
    have S2 : Stage C dx x H _ (putF "make" mk (putF "name" nm [])) := S1.put
    refine ⟨_, rfl, _, rfl, x, C, dx, _, rfl, S2.ob, T.cl, T.nR, few (lp (lp len0)) (by decide), ?_⟩
    have S3 : Stage C dx x H _ (putF "rank" rk (putF "make" mk (putF "name" nm []))) := S2.put
    generalize upd (upd (upd H x (.ins C dx (putF "name" nm []))) x (.ins C dx (putF "make" mk (putF "name" nm [])))) x (.ins C dx (putF "rank" rk (putF "make" mk (putF "name" nm [])))) = H1 at S3 ⊢
    refine ⟨_, rfl, fa, rfl, ⟨xs, S3.sqL hx hfa⟩, fun D hD => ?_⟩
    refine ⟨fun i m σ H2 => m = xs.length - i ∧ i ≤ xs.length ∧ ∃ (u v : Option V) (ys : List V), σ = [u, v] ∧ H2 D = some (.lst ys) ∧ Same H1 H2 ∧ FilesNew H H2 D ys fs i, ⟨xs.length, by simp, Nat.zero_le _, none, none, [], rfl, upd_same, same_upd hD, rfl, fun i p ls hi => absurd hi (Nat.not_lt_zero _)⟩, ?_⟩
    rintro i m σ H2 ⟨rfl, hi, u, v, ys, rfl, hys, s2, fn⟩
    have fa2 : SqL K H2 fa xs := s2.seq (S3.sqL hx hfa)
    by_cases hlt : i < xs.length
    · refine .inr ⟨⟨xs, xs[i], fa2, by simp [hlt]⟩, fun z H3 y => ?_⟩
      obtain ⟨e, y⟩ := y
      subst e
      have ez := y xs fa2
      have hif : i < fs.length := by rw [← hfs.len]; exact hlt
      obtain ⟨⟨p, ls⟩, hpl⟩ : ∃ q, fs[i]? = some q := ⟨fs[i], by simp [hif]⟩
      obtain ⟨t, l, e1, e2, e3⟩ := hfs.item i p ls hpl
      rw [ez] at e1
      cases e1
      have t2 := same_sqT s2 (S3.sqT hx e2)
      have l2 := s2.seq (S3.sqL hx e3)
      refine ⟨t, _, rfl, t2, rfl, _, _, rfl, _, _, rfl, rfl, ?_⟩
      refine ⟨_, rfl, _, rfl, l, _, rfl, .inl l2, fun l' hl' => ⟨(by show 2 ≤ sizeLine; decide), fun t' ht' => ?_⟩⟩
      obtain ⟨n1, n2⟩ := free_upd ht'
      have dl : D ≠ l' := ne_of_none hys hl'
      have dt : D ≠ t' := ne_of_none hys n2
      refine ⟨ys, keep_upd (keep_upd hys dl) dt, small1000 (by rw [fn.len]; omega), xs.length - (i + 1), by omega, rfl, hlt, _, _, ys ++ [.ref t'], rfl, upd_same, ?_, ⟨by rw [List.length_append, fn.len]; rfl, fun j p' ls' hj hp' => ?_⟩⟩
      · exact same_upd' (same_upd' (same_upd' s2 (s2.free hl')) (s2.free n2)) hD
      · by_cases hji : j = i
        · subst hji
          rw [hpl] at hp'
          cases hp'
          refine ⟨t', l', by rw [List.getElem?_append_right (by rw [fn.len]; omega), fn.len]; simp, S3.free _ (s2.free n2), S3.free _ (s2.free hl'), dt.symm, dl.symm, keep_upd upd_same dt.symm, keep_upd (keep_upd upd_same n1.symm) dl.symm⟩
        · have hj' : j < i := by omega
          obtain ⟨t0, l0, g1, g2, g3, g4, g5, g6, g7⟩ := fn.item j p' ls' hj' hp'
          exact ⟨t0, l0, by rw [List.getElem?_append_left (by rw [fn.len]; exact hj')]; exact g1, g2, g3, g4, g5, keep_upd (keep_upd (keep_upd g6 (ne_of_none g6 hl')) (ne_of_none g6 n2)) g4, keep_upd (keep_upd (keep_upd g7 (ne_of_none g7 hl')) (ne_of_none g7 n2)) g5⟩
    · have ei : i = xs.length := by omega
      subst ei
      refine .inl ⟨⟨xs, fa2, Nat.le_refl _⟩, ?_⟩
      have S4 : Stage C dx x H H2 (putF "rank" rk (putF "make" mk (putF "name" nm []))) := ⟨fun b o e hb => s2 b o (S3.same b o e hb), fun b e => S3.free b (s2.free e), s2 _ _ S3.ob⟩
      have dx1 : D ≠ x := ne_of hys S4.ob (by intro z; cases z)
      have hD0 : H D = none := S3.free _ hD
      refine ⟨_, rfl, x, C, dx, _, rfl, S4.ob, T.cl, T.nF, few (lp (lp (lp len0))) (by decide), ?_⟩
      have S5 : Stage C dx x H _ (putF "files" (.ref D) (putF "rank" rk (putF "make" mk (putF "name" nm [])))) := S4.put
      refine ⟨_, rfl, na, _, rfl, .inl (S5.sqL hx hna), fun pn hpn => ?_⟩
      have S6 := S5.lay (o := .lst ns) hpn
      have xpn : pn ≠ x := (ne_of_none S5.ob hpn).symm
      refine ⟨_, rfl, x, C, dx, _, rfl, S6.ob, T.cl, T.nE, few (lp (lp (lp (lp len0)))) (by decide), ?_⟩
      have S7 : Stage C dx x H _ (putF "needs" (.ref pn) (putF "files" (.ref D) (putF "rank" rk (putF "make" mk (putF "name" nm []))))) := S6.put
      refine ⟨_, rfl, sa, _, rfl, .inl (S7.sqL hx hsa), fun ps hps => ?_⟩
      have S8 := S7.lay (o := .lst ss) hps
      have xps : ps ≠ x := (ne_of_none S7.ob hps).symm
      refine ⟨_, rfl, x, C, dx, _, rfl, S8.ob, T.cl, T.nS, few (lp (lp (lp (lp (lp len0))))) (by decide), ?_⟩
      have S9 : Stage C dx x H _ (putF "shuts" (.ref ps) (putF "needs" (.ref pn) (putF "files" (.ref D) (putF "rank" rk (putF "make" mk (putF "name" nm [])))))) := S8.put
      refine ⟨_, rfl, oa, _, rfl, .inl (S9.sqL hx hoa), fun po hpo => ?_⟩
      have S10 := S9.lay (o := .lst os) hpo
      have xpo : po ≠ x := (ne_of_none S9.ob hpo).symm
      refine ⟨_, rfl, x, C, dx, _, rfl, S10.ob, T.cl, T.nO, few (lp (lp (lp (lp (lp (lp len0)))))) (by decide), ?_⟩
      have S11 : Stage C dx x H _ (fl7 nm mk rk D pn ps po) := S10.put
      -- what stood ahead, at another place than x
      have k5 : ∀ b o, H2 b = some o → b ≠ x → (upd H2 x (.ins C dx (putF "files" (.ref D) (putF "rank" rk (putF "make" mk (putF "name" nm [])))))) b = some o := fun b o e hb => keep_upd e hb
      have kp := fun b o (e : H2 b = some o) (hb : b ≠ x) => keep_upd (p := x) (o' := .ins C dx (putF "needs" (.ref pn) (putF "files" (.ref D) (putF "rank" rk (putF "make" mk (putF "name" nm [])))))) (keep_upd (p := pn) (o' := .lst ns) (k5 b o e hb) (ne_of_none (k5 b o e hb) hpn)) hb
      have kq := fun b o (e : H2 b = some o) (hb : b ≠ x) => keep_upd (p := x) (o' := .ins C dx (putF "shuts" (.ref ps) (putF "needs" (.ref pn) (putF "files" (.ref D) (putF "rank" rk (putF "make" mk (putF "name" nm []))))))) (keep_upd (p := ps) (o' := .lst ss) (kp b o e hb) (ne_of_none (kp b o e hb) hps)) hb
      have kr := fun b o (e : H2 b = some o) (hb : b ≠ x) => keep_upd (p := x) (o' := .ins C dx (fl7 nm mk rk D pn ps po)) (keep_upd (p := po) (o' := .lst os) (kq b o e hb) (ne_of_none (kq b o e hb) hpo)) hb
      have pn1 : (upd (upd (upd H2 x (.ins C dx (putF "files" (.ref D) (putF "rank" rk (putF "make" mk (putF "name" nm [])))))) pn (.lst ns)) x (.ins C dx (putF "needs" (.ref pn) (putF "files" (.ref D) (putF "rank" rk (putF "make" mk (putF "name" nm []))))))) pn = some (.lst ns) := keep_upd upd_same xpn
      have pn2 := keep_upd (p := x) (o' := .ins C dx (putF "shuts" (.ref ps) (putF "needs" (.ref pn) (putF "files" (.ref D) (putF "rank" rk (putF "make" mk (putF "name" nm []))))))) (keep_upd (p := ps) (o' := .lst ss) pn1 (ne_of_none pn1 hps)) xpn
      have pn3 := keep_upd (p := x) (o' := .ins C dx (fl7 nm mk rk D pn ps po)) (keep_upd (p := po) (o' := .lst os) pn2 (ne_of_none pn2 hpo)) xpn
      have ps1 := keep_upd (p := x) (o' := .ins C dx (putF "shuts" (.ref ps) (putF "needs" (.ref pn) (putF "files" (.ref D) (putF "rank" rk (putF "make" mk (putF "name" nm []))))))) (upd_same (H := upd (upd (upd H2 x (.ins C dx (putF "files" (.ref D) (putF "rank" rk (putF "make" mk (putF "name" nm [])))))) pn (.lst ns)) x (.ins C dx (putF "needs" (.ref pn) (putF "files" (.ref D) (putF "rank" rk (putF "make" mk (putF "name" nm []))))))) (a := ps) (o := .lst ss)) xps
      have ps2 := keep_upd (p := x) (o' := .ins C dx (fl7 nm mk rk D pn ps po)) (keep_upd (p := po) (o' := .lst os) ps1 (ne_of_none ps1 hpo)) xps
      refine k (fl7 nm mk rk D pn ps po) D pn ps po ys _ (flds7 nm mk rk D pn ps po) S11.ob hD0 (S5.free _ hpn) (S7.free _ hps) (S9.free _ hpo) (kr D _ hys dx1) ?_ pn3 ps2 (keep_upd upd_same xpo) S11.same
      rw [hfs.len] at fn
      exact filesNew_keep fn fun b o e hb hn => kr b o e fun z => by rw [z, hx] at hn; cases hn
/-! ### what a parcel is here -/
end
structure Ent where
  nm : Str
  ns : List Int
  rk : Int
def EntAt (C : Addr) (H : Hp) (v : V) (p : Ent) : Prop := ∃ a dx fl m, v = .ref a ∧ H a = some (.ins C dx fl) ∧ fl.lookup ("name" : Str) = some (.str p.nm) ∧ fl.lookup ("make" : Str) = some (.ref m) ∧ fl.lookup ("rank" : Str) = some (.int p.rk) ∧ H m = some (.tup (p.ns.map V.int))
/-- objects and tuples stay -/
def KeepIT (H H' : Hp) : Prop := ∀ b o, H b = some o → ((∃ c d f, o = .ins c d f) ∨ ∃ vs, o = .tup vs) → H' b = some o
theorem KeepIT.of {H H' : Hp} (s : Same H H') : KeepIT H H' := fun b o e _ => s b o e
theorem KeepIT.trans {H H1 H2 : Hp} (a : KeepIT H H1) (b : KeepIT H1 H2) : KeepIT H H2 := fun x o e z => b x o (a x o e z) z
theorem KeepIT.put {H : Hp} {p : Addr} {o : HO} (h : ∀ q, H p = some q → (∀ c d f, q ≠ .ins c d f) ∧ ∀ vs, q ≠ .tup vs) : KeepIT H (upd H p o) := fun b q e z => by
  rw [upd_ne]
  · exact e
  · intro w
    subst w
    obtain ⟨h1, h2⟩ := h q e
    rcases z with ⟨c, d, f, z⟩ | ⟨vs, z⟩
    · exact h1 _ _ _ z
    · exact h2 _ z
theorem EntAt.keep {C : Addr} {H H' : Hp} {v : V} {p : Ent} (k : KeepIT H H') (h : EntAt C H v p) : EntAt C H' v p := by
  obtain ⟨a, dx, fl, m, e, h1, h2, h3, h4, h5⟩ := h
  exact ⟨a, dx, fl, m, e, k _ _ h1 (.inl ⟨_, _, _, rfl⟩), h2, h3, h4, k _ _ h5 (.inr ⟨_, rfl⟩)⟩
theorem EntAt.same {C : Addr} {H H' : Hp} {v : V} {p : Ent} (s : Same H H') (h : EntAt C H v p) : EntAt C H' v p := h.keep (.of s)
section
variable {P : Program} {w : World} {K : PySem.W.Frag} {mg : Str → Option Value} {base : Heap}
/-- what the maker of a parcel asks, and what it tells -/
theorem make_ent {C : Addr} {H : Hp} {Q : Addr → Hp → Prop} {E : XK} {nm : Str} {m fa na sa oa : Addr} {mk : List Int} {rk : Int} (hm : H m = some (.tup (mk.map V.int))) (hf : H fa = some (.lst []))
    (hn : H na = some (.lst [])) (hs : H sa = some (.lst [])) (ho : H oa = some (.lst [])) (q : ∀ x H', H x = none → Same H H' → EntAt C H' (.ref x) ⟨nm, mk, rk⟩ → Q x H') :
    ∀ x dx, H x = none → H dx = none → dx ≠ x → spPIn K C (.ref x :: ([.str nm, .ref m, .int rk, .ref fa, .ref na, .ref sa, .ref oa] ++ [])) (upd (upd H dx (.own x)) x (.ins C dx [])) (fun v H2 => v = .non ∧ Q x H2) E := by
  intro x dx hx hdx nx
  have s1 : Same H (upd (upd H dx (.own x)) x (.ins C dx [])) := same_upd' (same_upd hdx) hx
  refine ⟨x, dx, fa, na, sa, oa, .str nm, .ref m, .int rk, [], [], [], [], [], rfl, upd_same, SqL.of (s1 _ _ hf), ⟨rfl, fun i p ls e => by cases e⟩, SqL.of (s1 _ _ hn), SqL.of (s1 _ _ hs), SqL.of (s1 _ _ ho), Nat.zero_le _, ?_⟩
  intro fl pf pn ps po xs' H' hF hob n1 n2 n3 n4 hpf hfn hpn hps hpo keep
  have s2 : Same H H' := fun b o e => keep b o (s1 _ _ e) (ne_of_none e hx)
  exact ⟨rfl, q x H' hx s2 ⟨x, dx, fl, m, rfl, hob, hF.name, hF.make, hF.rank, s2 _ _ hm⟩⟩
/-! ### paired lists, keys -/
end
theorem paired_get' {α β : Type} {F : α → β → Prop} : ∀ {xs : List α} {ys : List β}, Paired F xs ys → ∀ {i : Nat} {x : α}, xs[i]? = some x → ∃ y, ys[i]? = some y ∧ F x y
  | _, _, .nil, i, y, h => by cases h
  | _, _, .cons r t, 0, y, h => by cases h; exact ⟨_, rfl, r⟩
  | _, _, .cons r t, i + 1, y, h => paired_get' t (i := i) h
theorem paired_len {α β : Type} {F : α → β → Prop} : ∀ {xs : List α} {ys : List β}, Paired F xs ys → xs.length = ys.length
  | _, _, .nil => rfl
  | _, _, .cons _ t => congrArg (· + 1) (paired_len t)
theorem paired_snoc {α β : Type} {F : α → β → Prop} {x : α} {y : β} (h : F x y) : ∀ {xs : List α} {ys : List β}, Paired F xs ys → Paired F (xs ++ [x]) (ys ++ [y])
  | _, _, .nil => .cons h .nil
  | _, _, .cons r t => .cons r (paired_snoc h t)
theorem valV_out {κ : Type} [DecidableEq κ] {kvs : List (κ × V)} {k : κ} (h : k ∉ kvs.map (·.1)) : valV kvs k = none := by
  cases e : valV kvs k with
  | none => rfl
  | some v => exact absurd (valV_in e) h
section
variable {κ β : Type} [DecidableEq κ] {F : κ × V → β → Prop} {key : β → κ}
theorem paired_keys (hk : ∀ kv p, F kv p → kv.1 = key p) : ∀ {kvs : List (κ × V)} {ps : List β}, Paired F kvs ps → kvs.map (·.1) = ps.map key
  | _, _, .nil => rfl
  | _, _, .cons r t => by rw [List.map_cons, List.map_cons, hk _ _ r, paired_keys hk t]
theorem paired_valK (hk : ∀ kv p, F kv p → kv.1 = key p) {k : κ} : ∀ {kvs : List (κ × V)} {ps : List β}, Paired F kvs ps → k ∈ ps.map key → ∃ v p, valV kvs k = some v ∧ p ∈ ps ∧ key p = k ∧ F (k, v) p
  | _, _, .nil, h => nomatch h
  | kv :: kvs, p :: ps, .cons r t, h => by
    by_cases e : kv.1 = k
    · refine ⟨kv.2, p, valV_pos e, List.mem_cons_self, (hk _ _ r).symm.trans e, ?_⟩
      have : kv = (k, kv.2) := by rw [← e]
      rw [← this]
      exact r
    · have h' : k ∈ ps.map key := by
        rw [List.map_cons] at h
        rcases List.mem_cons.mp h with z | z
        · exact absurd ((hk _ _ r).trans z.symm) e
        · exact z
      obtain ⟨v, p', h1, h2, h3, h4⟩ := paired_valK hk t h'
      exact ⟨v, p', by rw [valV_neg e]; exact h1, List.mem_cons_of_mem _ h2, h3, h4⟩
theorem nodup_key {ps : List β} (nd : (ps.map key).Nodup) {p q : β} (hp : p ∈ ps) (hq : q ∈ ps) (e : key p = key q) : p = q := by
  obtain ⟨i, hi⟩ := List.getElem?_of_mem hp
  obtain ⟨j, hj⟩ := List.getElem?_of_mem hq
  have hij : i = j := (List.getElem?_inj (l := ps.map key) (by rw [List.length_map]; exact (List.getElem?_eq_some_iff.mp hi).1) nd).mp (by rw [List.getElem?_map, List.getElem?_map, hi, hj, Option.map_some, Option.map_some, e])
  subst hij
  rw [hi] at hj
  exact Option.some.inj hj
end
/-! ### the shelf -/
abbrev Ky := Str × List Int
def Ent.ky (p : Ent) : Ky := (p.nm, p.ns)
def kyN (k : Ky) : List NI := [.inl (.inr k.1), .inr (k.2.map Sum.inl)]
def keyOf (p : Ent) : List NI := kyN p.ky
theorem ints_inl_inj : ∀ {a b : List Int}, (a.map (Sum.inl : Int → Int ⊕ Str)) = b.map Sum.inl → a = b
  | [], [], _ => rfl
  | [], _ :: _, h => nomatch h
  | _ :: _, [], h => nomatch h
  | x :: a, y :: b, h => by
    rw [List.map_cons, List.map_cons] at h
    injection h with h1 h2
    injection h1 with h1
    rw [h1, ints_inl_inj h2]
theorem kyN_inj {a b : Ky} (h : kyN a = kyN b) : a = b := by
  obtain ⟨a1, a2⟩ := a
  obtain ⟨b1, b2⟩ := b
  unfold kyN at h
  injection h with h1 h2
  injection h2 with h2 _
  injection h1 with h1
  injection h1 with h1
  injection h2 with h2
  have h2 := ints_inl_inj h2
  simp only at h1 h2
  rw [h1, h2]
theorem nat_key {H : Hp} {b m : Addr} {nm : Str} {mk : List Int} (hb : H b = some (.tup [.str nm, .ref m])) (hm : H m = some (.tup (mk.map V.int))) : NAt H (kyN (nm, mk)) b :=
  ⟨_, hb, .cons rfl (.cons ⟨m, rfl, by rw [hm, List.map_map]; rfl⟩ .nil)⟩
def fl1 (d : Addr) : List (Str × V) := [("shelved", .ref d)]
def ShV (C : Addr) (H : Hp) (kv : List NI × V) (p : Ent) : Prop := kv.1 = keyOf p ∧ EntAt C H kv.2 p
def ShelfAt (C S : Addr) (H : Hp) (a : Addr) (ps : List Ent) : Prop := ∃ dx d kvs, H a = some (.ins S dx (fl1 d)) ∧ H d = some (.dT kvs) ∧ Paired (ShV C H) kvs ps
theorem ShelfAt.same {C S : Addr} {H H' : Hp} {a : Addr} {ps : List Ent} (s : Same H H') (h : ShelfAt C S H a ps) : ShelfAt C S H' a ps := by
  obtain ⟨dx, d, kvs, h1, h2, h3⟩ := h
  exact ⟨dx, d, kvs, s _ _ h1, s _ _ h2, paired_mapP h3 fun _ _ z => ⟨z.1, z.2.same s⟩⟩
structure TxtS (K : PySem.W.Frag) (mg : Str → Option Value) (S fN fM fP : Addr) : Prop where
  cl : Cls K S
  nS : NoAttr K S "shelved"
  mN : Meth K S "names" fN
  mM : Meth K S "makes_of" fM
  mP : Meth K S "parcel" fP
  mgC : mg "Shelf" = some (.ref S)
section
variable {P : Program} {w : World} {K : PySem.W.Frag} {mg : Str → Option Value} {base : Heap}
def spSIn (C S : Addr) : Sp := fun vs H Q _ => ∃ (x dx a : Addr) (xs : List V) (ps : List Ent) (H0 : Hp), vs = [.ref x, .ref a] ∧ H x = some (.ins S dx []) ∧ Same H0 H ∧ H0 x = none ∧ H0 a = some (.lst xs) ∧ Paired (EntAt C H0) xs ps ∧ ps.length ≤ 100 ∧ (ps.map keyOf).Nodup ∧
  ∀ H', Same H0 H' → ShelfAt C S H' x ps → Q .non H'
theorem scSIn : FnScope ["self", "parcels", "parcel"] ["self", "parcels"] (defScope sSIn) := ⟨rfl, rfl, rfl, by decide +kernel, rfl, by decide +kernel, by decide +kernel⟩
theorem okSIn {f C S f1 f2 f3 : Addr} {fd : FuncData} (F : Fun K "__init__" "Shelf.__init__" sSIn f fd) (T : Txt K mg C) (U : TxtS K mg S f1 f2 f3) : FnOk P w K mg base CX0 1 f fd ["self", "parcels"] (spSIn C S) := by
  refine F.ok scSIn (fun vs H Q E h => ?_) (fun cdv A outer s H vs Q E hr h => ?_)
  · obtain ⟨x, dx, a, xs, ps, H0, rfl, _⟩ := h
    rfl
  · obtain ⟨x, dx, a, xs, ps, H0, rfl, hx, s0, x0, ha, hps, h100, hnd, q⟩ := h
    have hu := hr.units
    refine ⟨_, (pss_cons (ps_fld (pv 0) pe_dnewTN rfl)
        (pss_one (ps_for PassesOwn.never rfl (pi_list (pv 1)) (pg_name (i := 2) scSIn.nd rfl (Or.inl rfl))
        (pss_one (ps_dput hu (pe_fld (pv 0) rfl) (pe_tupN (pa_cons (pe_fld (pv 2) rfl) (pa_cons (pe_fld (pv 2) rfl) pa_nil))) (pv 2) rfl))))), ?_⟩
    refine fun d H1 n1 s1 e1 => ?_
    refine ⟨_, rfl, x, S, dx, _, rfl, s1 _ _ hx, U.cl, U.nS, (by decide), ?_⟩
    have dx1 : d ≠ x := (ne_of_none hx n1).symm
    have d0 : H0 d = none := s0.free n1
    have up0 : Same H0 (upd H1 x (.ins S dx (fl1 d))) := fun b o e => keep_upd (s1 _ _ (s0 _ _ e)) (ne_of_none e x0)
    have nl := paired_len hps
    refine ⟨_, rfl, a, rfl, ⟨_, SqL.of (up0 _ _ ha)⟩, ?_⟩
    refine for_list (xs := xs) (fun i σ H2 => ∃ u kvs, σ = [some (.ref x), some (.ref a), u] ∧ Same H0 H2 ∧ H2 x = some (.ins S dx (fl1 d)) ∧ H2 d = some (.dT kvs) ∧ Paired (ShV C H0) kvs (ps.take i))
      ⟨none, [], rfl, up0, upd_same, by rw [upd_ne dx1]; exact e1, .nil⟩ ?_ ?_ ?_
    · rintro i σ H2 hi ⟨u, kvs, rfl, k2, _⟩
      exact SqL.of (k2 _ _ ha)
    · rintro i v σ H2 hv ⟨u, kvs, rfl, k2, hx2, hd2, hk⟩
      obtain ⟨p, hp, hE⟩ := paired_get' hps hv
      obtain ⟨b, dy, fl, m, rfl, h1, h2, h3, h4, h5⟩ := hE.same k2
      refine ⟨_, rfl, _, rfl, x, S, dx, _, _, rfl, hx2, U.cl, U.nS, rfl, _, rfl, b, C, dy, _, _, rfl, h1, T.cl, T.nN, h2, _, rfl, b, C, dy, _, _, rfl, h1, T.cl, T.nM, h3, (by show 2 ≤ sizeLine; decide), fun t H3 n3 s3 e3 => ?_⟩
      have hlt := (List.getElem?_eq_some_iff.mp hv).1
      have lk := paired_len hk
      rw [List.length_take] at lk
      have hnew : valV kvs (keyOf p) = none := by
        refine valV_out ?_
        rw [paired_keys (key := keyOf) (fun _ _ z => z.1) hk]
        intro hm
        obtain ⟨p', hp', e'⟩ := List.mem_map.mp hm
        have hmem : p' ∈ ps := List.mem_of_mem_take hp'
        obtain ⟨j, hj⟩ := List.getElem?_of_mem hp'
        have hj' := hj
        rw [List.getElem?_take] at hj
        split at hj
        · have hij : j = i := (List.getElem?_inj (l := ps.map keyOf) (by rw [List.length_map]; exact (List.getElem?_eq_some_iff.mp hj).1) hnd).mp (by rw [List.getElem?_map, List.getElem?_map, hj, hp, Option.map_some, Option.map_some, e'])
          omega
        · cases hj
      refine ⟨d, _, rfl, DPut.t (s3 _ _ hd2) (nat_key e3 (s3 _ _ h5)) (small1000 (by omega)), ?_⟩
      refine ⟨_, _, rfl, fun c o e => ?_, ?_, upd_same, ?_⟩
      · rw [upd_ne (ne_of_none e d0)]
        exact s3 _ _ (k2 _ _ e)
      · rw [upd_ne dx1.symm]
        exact s3 _ _ hx2
      · show Paired (ShV C H0) (putK kvs (keyOf p) (.ref b)) (ps.take (i + 1))
        rw [putK_new _ hnew, List.take_add_one, hp]
        exact paired_snoc ⟨rfl, hE⟩ hk
    · rintro σ H2 ⟨u, kvs, rfl, k2, hx2, hd2, hk⟩
      rw [nl, List.take_length] at hk
      exact q H2 k2 ⟨dx, d, kvs, hx2, hd2, paired_mapP hk fun _ _ z => ⟨z.1, z.2.same k2⟩⟩
/-! ### a parcel looked up -/
def RpOk (ns : List Int) : Prop := ns.length ≤ 10 ∧ ∀ n ∈ ns, 0 ≤ n ∧ n < 4294967296
def spSPa (C S NP : Addr) : Sp := fun vs H Q E => ∃ (a m : Addr) (nm : Str) (ns : List Int) (ps : List Ent), vs = [.ref a, .str nm, .ref m] ∧ ShelfAt C S H a ps ∧ Nm nm ∧ H m = some (.tup (ns.map V.int)) ∧ RpOk ns ∧
  (∀ v p H', p ∈ ps → p.ky = (nm, ns) → Same H H' → EntAt C H v p → Q v H') ∧ ((∀ p ∈ ps, p.ky ≠ (nm, ns)) → ∀ H', Same H H' → E (.ref NP) none H')
theorem scSPa : FnScope ["self", "name", "make"] ["self", "name", "make"] (defScope sSPa) := ⟨rfl, rfl, rfl, by decide +kernel, rfl, by decide +kernel, by decide +kernel⟩
theorem okSPa {f C S f1 f2 NP : Addr} {fd : FuncData} (F : Fun K "parcel" "Shelf.parcel" sSPa f fd) (U : TxtS K mg S f1 f2 f) (xc : XCls K NP) (mN : mg "NoParcel" = some (.ref NP)) : FnOk P w K mg base (CXR P w) 1 f fd ["self", "name", "make"] (spSPa C S NP) := by
  refine F.okR scSPa (fun vs H Q E h => ?_) (fun cdv A outer s H vs Q E hr h => ?_)
  · obtain ⟨a, m, nm, ns, ps, rfl, _⟩ := h
    rfl
  · obtain ⟨a, m, nm, ns, ps, rfl, ⟨dx, d, kvs, h1, h2, h3⟩, hnm, hm, hns, q1, q2⟩ := h
    have hu := hr.units
    refine ⟨_, (pss_cons (ps_if (pt_cmp (pc_dnotin hu (pe_tupN (pa_cons (pv 1) (pa_cons (pv 2) pa_nil))) (pe_fld (pv 0) rfl)) (by rfl))
        (pss_one (ps_raise xc mN (pe_join4 pe_str (pe_fmtS (pv 1)) pe_str (pe_fmtT hr.gd hu (pv 2))))) pss_nil)
        (pss_one (ps_ret (pe_dget hu (pe_fld (pv 0) rfl) (pe_tupN (pa_cons (pv 1) (pa_cons (pv 2) pa_nil))) (fun _ _ => rfl))))), ?_⟩
    refine ⟨_, rfl, _, rfl, (by show 2 ≤ sizeLine; decide), fun t H1 n1 s1 e1 => ?_⟩
    have g1 : DGet H1 d (.ref t) (valV kvs (kyN (nm, ns))) := DGet.t (s1 _ _ h2) (nat_key e1 (s1 _ _ hm))
    refine ⟨_, rfl, a, S, dx, _, _, rfl, s1 _ _ h1, U.cl, U.nS, rfl, d, _, rfl, g1, _, rfl, ?_⟩
    by_cases hin : ∃ p ∈ ps, p.ky = (nm, ns)
    · obtain ⟨p0, hp0, e0⟩ := hin
      obtain ⟨v, p, hv, hp, ek, hE⟩ := paired_valK (key := keyOf) (fun _ _ z => z.1) h3 (k := kyN (nm, ns)) (List.mem_map.mpr ⟨p0, hp0, by unfold keyOf; rw [e0]⟩)
      rw [hv]
      refine ite2 (fun h => absurd h (by show ¬ ((!true) = true); decide)) (fun h => ?_)
      refine ⟨_, rfl, a, S, dx, _, _, rfl, s1 _ _ h1, U.cl, U.nS, rfl, _, rfl, _, rfl, (by show 2 ≤ sizeLine; decide), fun t2 H2 n2 s2 e2 => ?_⟩
      have s12 := s1.trans s2
      have g2 : DGet H2 d (.ref t2) (valV kvs (kyN (nm, ns))) := DGet.t (s12 _ _ h2) (nat_key e2 (s12 _ _ hm))
      rw [hv] at g2
      exact ⟨d, v, rfl, g2, q1 v p H2 hp (kyN_inj ek) s12 hE.2⟩
    · have hout : ∀ p ∈ ps, p.ky ≠ (nm, ns) := fun p hp e => hin ⟨p, hp, e⟩
      have hv : valV kvs (kyN (nm, ns)) = none := by
        refine valV_out ?_
        rw [paired_keys (key := keyOf) (fun _ _ z => z.1) h3]
        intro hmem
        obtain ⟨p, hp, e⟩ := List.mem_map.mp hmem
        exact hout p hp (kyN_inj e)
      rw [hv]
      refine ite2 (fun h => ?_) (fun h => absurd (show (!false) = true from rfl) h)
      refine ⟨_, rfl, by decide +kernel, _, rfl, nm, rfl, hnm.1, by have := hnm.2; omega, fun z hz => ⟨z, rfl, hz, _, rfl, by decide +kernel, _, rfl, m, ns, rfl, SqT.of (s1 _ _ hm), hns.1, hns.2, fun z2 hz2 => ⟨z2, rfl, hz2, Nat.le_refl 1, q2 hout H1 s1⟩⟩⟩
end
end K02

set_option Elab.async false
set_option linter.all false
set_option maxRecDepth 100000
set_option maxHeartbeats 4000000
namespace L2
open PySem PySem.Spec PyProof.Rows
/-- tuples of ints as they stand in the heap -/
def TupsV (H : Hp) (ys : List V) (ks : List (List Int)) : Prop := Paired (fun (y : V) (k : List Int) => ∃ t, y = .ref t ∧ H t = some (.tup (k.map V.int)) ∧ k ≠ []) ys ks
theorem TupsV.at {K : PySem.W.Frag} {H : Hp} {ys : List V} {ks : List (List Int)} (h : TupsV H ys ks) : TupsAt K H ys ks := paired_mapP h fun _ _ ⟨t, e, a, b⟩ => ⟨t, e, SqT.of a, b⟩
theorem TupsV.same {H H' : Hp} {ys : List V} {ks : List (List Int)} (s : Same H H') (h : TupsV H ys ks) : TupsV H' ys ks := paired_mapP h fun _ _ ⟨t, e, a, b⟩ => ⟨t, e, s _ _ a, b⟩
section
variable {X : Cx}
theorem call_sortedTV : CallR X (.builtin "sorted") (fun xs H Q => ∃ q ys ks, xs = [.ref q] ∧ SqL X.K H q ys ∧ TupsV H ys ks ∧ ys.length ≤ 4 ∧ ks.Nodup ∧ ∀ ys' ks', TupsV H ys' ks' → ks'.Perm ks → adjT ks' = true → New H (.lst ys') Q) := by
  intro pins s σ H xs us Q I r h
  obtain ⟨q, ys, ks, rfl, hq, htv, h4, nd, fin⟩ := h
  obtain ⟨u, rfl, ru⟩ := vals1 r
  cases ru
  have ht : TupsAt X.K H ys ks := htv.at
  obtain ⟨its, rv, hl, hz⟩ := I.list hq
  have hlen := paired_lenT rv
  have hlk := paired_lenT ht
  have tp := I.tups ht rv
  have kp : ∀ b o, s.heap.get? b = some o → ((s.heap.push (seqObj "list" #[] 0)).update s.heap.objs.size (Obj.mapSeq (· ++ its.toArray))).get? b = some o := fun b o e => by
    rw [Heap.get?_update_ne _ _ _ _ (Nat.ne_of_lt (Heap.lt_size e))]
    exact Heap.get?_push_of_some _ e
  refine sorted_collectsT (collect_list hl.isList ?_ (smallL (by omega)))
  generalize (s.heap.push (seqObj "list" #[] 0)).update s.heap.objs.size (Obj.mapSeq (· ++ its.toArray)) = h' at kp ⊢
  have I' : Inv X pins σ H { s with heap := h', toks := s.toks } := I.kept kp
  refine ⟨ks, h', s.toks, rfl, paired_mapP tp fun _ _ t => t.keep fun b o e _ => kp b o e, by omega, nd, fun h2 p e k2 he hp ha => ?_⟩
  have hm : ∀ i ∈ p, i < ys.length := fun i hi => by
    have := List.mem_range.mp (hp.mem_iff.mp hi)
    omega
  have hpl := hp.length_eq
  rw [List.length_range] at hpl
  refine ⟨.ref h'.objs.size, _, I'.laid (s := { s with heap := h', toks := s.toks }) (t' := s.toks) (o := .lst (p.map fun i => ys.getD i .non)) k2 (Nat.le_refl _) ⟨by rw [List.length_map]; exact smallL (by omega), _, e, paired_pick rv _ _ p hm, he⟩, rfl, ?_⟩
  exact (fin _ (p.map fun i => ks.getD i []) (paired_pick htv _ _ p hm) (perm_getD (by rw [← hlk, hlen]; exact hp)) (by rw [adj_map]; exact ha)).at _ (I'.hok.fresh (Nat.le_refl _))
end
theorem pg_tupK {X : Cx} (K : PySem.W.Frag) {es : List Expr} {k : Nat} {pos : Pos} {t : TGs} {n : Nat} (hc : X.calm = true) (h : PGs X es t) (hK : X.K = K := by rfl)
    (hn : (assignEach es X.env).length = n := by rfl) (hst : (assignEach es X.env).findIdx? (·.1) = none := by rfl) : PG X (.Tuple es k pos) (gTup K n t) := hK ▸ pg_tup hc h hn hst
/-- a comprehension over a dict with tuples as keys, that makes nothing new on its way -/
theorem comp_T {H1 : Hp} {d : Addr} {kvs : List (List NI × V)} {σ0 : St} {g : TG} {tt : TT} {te : TE} {Q : VK} (hd : H1 d = some (.dT kvs)) (S : St → Prop) (P : Nat → List V → Prop) (s0 : S σ0) (st : P 0 [])
    (turn : ∀ i k v b ys σ H (kk : St → V → Hp → Prop) (k' : St → Hp → Prop), kvs[i]? = some (k, v) → NAt H k b → (∀ c vs, H c = some (.tup vs) → H1 c = some (.tup vs)) → S σ → P i ys →
      (∀ σ3 y, S σ3 → P (i + 1) (ys ++ [y]) → kk σ3 y H) → (∀ σ3, S σ3 → P (i + 1) ys → k' σ3 H) →
      g (.ref b) σ H fun σ3 H3 => tt σ3 H3 fun ok H4 => if ok = true then te σ3 H4 (kk σ3) else k' σ3 H4)
    (small : kvs.length < sizeLine) (long : ∀ i ys, P i ys → ys.length ≤ i)
    (done : ∀ D H' ys, H1 D = none → Same H1 H' → H' D = some (.lst ys) → P kvs.length ys → Q (.ref D) H') :
    TAsk H1 d kvs σ0 g tt te Q := by
  intro ob D hD
  obtain ⟨nDd, hD1⟩ := free_upd hD
  refine ⟨fun i m σ H => m = kvs.length - i ∧ i ≤ kvs.length ∧ S σ ∧ ∃ ys, H = upd (upd H1 d (.frz ob (.dT kvs))) D (.lst ys) ∧ P i ys, ⟨kvs.length, by simp, Nat.zero_le _, s0, [], rfl, st⟩, ?_⟩
  rintro i m σ H ⟨rfl, hi, hS, ys, rfl, hp⟩
  have hfr : upd (upd H1 d (.frz ob (.dT kvs))) D (.lst ys) d = some (.frz ob (.dT kvs)) := by rw [upd_ne nDd.symm, upd_same]
  by_cases hlt : i < kvs.length
  · refine .inr ⟨⟨hfr, hlt⟩, fun x H2 hy => ?_⟩
    obtain ⟨k, v, b, e1, rfl, nb, rfl⟩ := hy
    refine turn i k v b ys σ _ _ _ e1 nb (fun c vs hc => ?_) hS hp (fun σ3 y a1 a2 => ?_) (fun σ3 a1 a2 => ?_)
    · have nc : c ≠ D := fun z => by rw [z, upd_same] at hc; cases hc
      rw [upd_ne nc] at hc
      have nd : c ≠ d := fun z => by rw [z, upd_same] at hc; cases hc
      rw [upd_ne nd] at hc
      exact hc
    · refine ⟨ys, upd_same, Nat.lt_of_le_of_lt (Nat.le_trans (long i ys hp) hi) small, kvs.length - (i + 1), by omega, rfl, hlt, a1, ys ++ [y], upd_upd, a2⟩
    · exact ⟨kvs.length - (i + 1), by omega, rfl, hlt, a1, ys, rfl, a2⟩
  · have e : i = kvs.length := by omega
    subst e
    refine .inl ⟨⟨hfr, Nat.le_refl _⟩, hfr, done D _ ys hD1 (fun b o e => ?_) ?_ hp⟩
    · by_cases hb : b = d
      · subst hb
        rw [upd_same, ← e, hd]
      · rw [upd_ne hb, upd_ne (ne_of_none e hD1), upd_ne hb]
        exact e
    · rw [upd_ne nDd, upd_same]
end L2
namespace K02
open PySem L2 PySem.Spec PyProof.Rows
theorem nat_un {H : Hp} {b : Addr} {nm : Str} {mk : List Int} (h : NAt H (kyN (nm, mk)) b) : ∃ m, H b = some (.tup [.str nm, .ref m]) ∧ H m = some (.tup (mk.map V.int)) := by
  obtain ⟨vs, e, r⟩ := h
  cases r with
  | cons r1 t =>
    cases t with
    | cons r2 t =>
      cases t
      have r1 : _ = V.str nm := r1
      obtain ⟨m, e2, h2⟩ := (show ∃ m, _ = V.ref m ∧ H m = _ from r2)
      subst r1 e2
      refine ⟨m, e, ?_⟩
      rw [h2, List.map_map]
      rfl
section
variable {P : Program} {w : World} {K : PySem.W.Frag} {mg : Str → Option Value} {base : Heap}
def spSNa (C S : Addr) : Sp := fun vs H Q _ => ∃ (a : Addr) (ps : List Ent), vs = [.ref a] ∧ ShelfAt C S H a ps ∧ ps.length < 64 ∧ ∀ l (ys : List Str) H', H l = none → Same H H' → H' l = some (.lst (ys.map V.str)) → sortedS ys = true → ys.Nodup → (∀ z, z ∈ ys ↔ z ∈ ps.map Ent.nm) → Q (.ref l) H'
theorem scSNa : FnScope ["self"] ["self"] (defScope sSNa) := ⟨rfl, rfl, rfl, by decide +kernel, rfl, by decide +kernel, by decide +kernel⟩
theorem nd_len : ∀ {a b : List Str}, a.Nodup → (∀ z ∈ a, z ∈ b) → a.length ≤ b.length := fun h k => nodup_len h k
theorem okSNa {f C S f2 f3 : Addr} {fd : FuncData} (F : Fun K "names" "Shelf.names" sSNa f fd) (B : Blt mg) (U : TxtS K mg S f f2 f3) : FnOk P w K mg base CX0 1 f fd ["self"] (spSNa C S) := by
  refine F.ok scSNa (fun vs H Q E h => ?_) (fun cdv A outer s H vs Q E hr h => ?_)
  · obtain ⟨a, ps, rfl, _⟩ := h
    rfl
  · obtain ⟨a, ps, rfl, ⟨dx, d, kvs, h1, h2, h3⟩, h64, q⟩ := h
    refine ⟨_, (pss_one (ps_ret (pe_callB (call_sortedY rfl) (by rfl) B.sorted PyProof.Rows.boot_sorted (pa_cons (pe_callTy (call_setL rfl) (by rfl) B.set PyProof.Rows.boot_set (pa_cons (pe_compT ["name", "make"] [] [] ⟨rfl, by decide +kernel, by decide +kernel, by decide +kernel, by decide +kernel, rfl, rfl, rfl⟩ rfl (pe_fld (pv 0) rfl)
      (fun _ _ _ _ => (pg_tupK (n := 2) K rfl (pgs_cons (pg_name (i := 0) (show List.Nodup (["name", "make"] : List Str) by decide +kernel) rfl (Or.inl rfl)) (pgs_cons (pg_name (i := 1) (show List.Nodup (["name", "make"] : List Str) by decide +kernel) rfl (Or.inl rfl)) pgs_nil)))) (fun _ _ _ _ => pts_nil) (fun _ _ _ _ => (pv 0))) pa_nil)) pa_nil)))), ?_⟩
    have lk := paired_len h3
    refine ⟨_, rfl, a, S, dx, _, _, rfl, h1, U.cl, U.nS, rfl, d, kvs, rfl, h2, ?_⟩
    refine comp_T h2 (fun σ => ∃ u v, σ = [u, v]) (fun i ys => ys = ((ps.take i).map Ent.nm).map V.str) ⟨_, _, rfl⟩ rfl ?_ (small1000 (by omega)) (fun i ys e => by rw [e, List.length_map, List.length_map, List.length_take]; omega) ?_
    · rintro i k v b ys σ H2 kk k' hk nb up ⟨u, u', rfl⟩ rfl c1 c2
      obtain ⟨p, hp, hE⟩ := paired_get' h3 hk
      rw [show k = kyN (p.nm, p.ns) from hE.1] at nb
      obtain ⟨m, hb, hm⟩ := nat_un nb
      refine ⟨b, _, rfl, SqT.of hb, rfl, _, _, rfl, _, _, rfl, rfl, ?_⟩
      dsimp only [tTrue]
      rw [if_pos rfl]
      refine ⟨_, rfl, c1 _ _ ⟨_, _, rfl⟩ ?_⟩
      rw [List.take_add_one, hp, List.map_append, List.map_append]
      rfl
    · rintro D H2 ys hD s2 eD rfl
      rw [lk, List.take_length] at eD
      refine ⟨D, ps.map Ent.nm, rfl, SqL.of eD, by rw [List.length_map]; omega, fun r xs H3 n3 s3 e3 nd mem => ?_⟩
      have hl := nd_len nd fun z hz => (mem z).mp hz
      rw [List.length_map] at hl
      refine ⟨r, xs, rfl, e3, by omega, fun ys' hp hs => fun l H4 n4 s4 e4 => ?_⟩
      exact q l ys' H4 ((s2.trans s3).free n4) (s2.trans (s3.trans s4)) e4 hs (hp.nodup_iff.mpr nd) fun z => (hp.mem_iff).trans (mem z)
/-! ### makes of a name -/
def mksOf (ps : List Ent) (nm : Str) : List (List Int) := (ps.filter fun p => decide (p.nm = nm)).map Ent.ns
structure PsOk (ps : List Ent) : Prop where
  nd : (ps.map keyOf).Nodup
  mks : ∀ p ∈ ps, MkOk p.ns
  few : ∀ nm, (mksOf ps nm).length ≤ 4
  len : ps.length < 64
theorem mks_nodup {ps : List Ent} (nd : (ps.map keyOf).Nodup) (nm : Str) : (mksOf ps nm).Nodup := by
  unfold mksOf
  have h1 : ((ps.filter fun p => decide (p.nm = nm)).map keyOf).Nodup := (List.filter_sublist.map keyOf).nodup nd
  have h2 : ∀ p ∈ ps.filter fun p => decide (p.nm = nm), p.nm = nm := fun p hp => of_decide_eq_true (List.mem_filter.mp hp).2
  generalize ps.filter (fun p => decide (p.nm = nm)) = qs at h1 h2
  clear nd
  induction qs with
  | nil => exact List.nodup_nil
  | cons p qs ih =>
    rw [List.map_cons, List.nodup_cons] at h1 ⊢
    refine ⟨fun hm => h1.1 ?_, ih h1.2 fun r hr => h2 r (List.mem_cons_of_mem _ hr)⟩
    obtain ⟨r, hr, e⟩ := List.mem_map.mp hm
    refine List.mem_map.mpr ⟨r, hr, ?_⟩
    unfold keyOf Ent.ky
    rw [e, h2 p List.mem_cons_self, h2 r (List.mem_cons_of_mem _ hr)]
theorem mks_mem {ps : List Ent} {nm : Str} {ns : List Int} : ns ∈ mksOf ps nm ↔ ∃ p ∈ ps, p.ky = (nm, ns) := by
  unfold mksOf
  rw [List.mem_map]
  constructor
  · rintro ⟨p, hp, e⟩
    obtain ⟨h1, h2⟩ := List.mem_filter.mp hp
    have h2 : p.nm = nm := of_decide_eq_true h2
    exact ⟨p, h1, by unfold Ent.ky; rw [e, h2]⟩
  · rintro ⟨p, hp, e⟩
    unfold Ent.ky at e
    injection e with e1 e2
    exact ⟨p, List.mem_filter.mpr ⟨hp, decide_eq_true e1⟩, e2⟩
def spSMo (C S : Addr) : Sp := fun vs H Q _ => ∃ (a : Addr) (nm : Str) (ps : List Ent), vs = [.ref a, .str nm] ∧ ShelfAt C S H a ps ∧ PsOk ps ∧ ∀ l ys ks H', H l = none → Same H H' → H' l = some (.lst ys) → TupsV H' ys ks → ks.Perm (mksOf ps nm) → adjT ks = true → Q (.ref l) H'
theorem scSMo : FnScope ["self", "name"] ["self", "name"] (defScope sSMo) := ⟨rfl, rfl, rfl, by decide +kernel, rfl, by decide +kernel, by decide +kernel⟩
theorem okSMo {f C S f1 f3 : Addr} {fd : FuncData} (F : Fun K "makes_of" "Shelf.makes_of" sSMo f fd) (B : Blt mg) (U : TxtS K mg S f1 f f3) : FnOk P w K mg base CX0 1 f fd ["self", "name"] (spSMo C S) := by
  refine F.ok scSMo (fun vs H Q E h => ?_) (fun cdv A outer s H vs Q E hr h => ?_)
  · obtain ⟨a, nm, ps, rfl, _⟩ := h
    rfl
  · obtain ⟨a, nm, ps, rfl, ⟨dx, d, kvs, h1, h2, h3⟩, ok, q⟩ := h
    refine ⟨_, (pss_one (ps_ret (pe_callB call_sortedTV (by rfl) B.sorted PyProof.Rows.boot_sorted (pa_cons (pe_compT ["key"] ["name"] [1] ⟨rfl, by decide +kernel, by decide +kernel, by decide +kernel, by decide +kernel, rfl, rfl, rfl⟩ rfl (pe_fld (pv 0) rfl)
      (fun _ _ _ _ => (pg_name (i := 0) (show List.Nodup (["key", "name"] : List Str) by decide +kernel) rfl (Or.inl rfl))) (fun _ _ _ _ => pts_one (pt_cmpR op_eq (pe_ix (ix_tupK K) (pv 0) pe_int (fun _ _ => rfl)) (pv 1) (nomark _))) (fun _ _ _ _ => (pe_ix (ix_tupK K) (pv 0) pe_int (fun _ _ => rfl)))) pa_nil)))), ?_⟩
    have lk := paired_len h3
    have l64 := ok.len
    refine ⟨_, rfl, a, S, dx, _, _, rfl, h1, U.cl, U.nS, rfl, d, kvs, rfl, h2, ?_⟩
    refine comp_T h2 (fun σ => ∃ u, σ = [u, some (.str nm)]) (fun i ys => ys.length ≤ i ∧ TupsV H ys (mksOf (ps.take i) nm)) ⟨_, rfl⟩ ⟨Nat.le_refl _, .nil⟩ ?_ (small1000 (by omega)) (fun i ys e => e.1) ?_
    · rintro i k v b ys σ H2 kk k' hk nb up ⟨u, rfl⟩ ⟨zl, zt⟩ c1 c2
      obtain ⟨p, hp, hE⟩ := paired_get' h3 hk
      rw [show k = kyN (p.nm, p.ns) from hE.1] at nb
      obtain ⟨m, hb, hm⟩ := nat_un nb
      have hmem : p ∈ ps := List.mem_of_getElem? hp
      have e1 : mksOf (ps.take (i + 1)) nm = mksOf (ps.take i) nm ++ (if p.nm = nm then [p.ns] else []) := by
        unfold mksOf
        rw [List.take_add_one, hp, List.filter_append, List.map_append]
        by_cases z : p.nm = nm
        · rw [if_pos z]; simp [z]
        · rw [if_neg z]; simp [z]
      refine ⟨_, rfl, b, _, _, _, rfl, rfl, SqT.of hb, rfl, _, rfl, rfl, _, rfl, ?_⟩
      refine ite2 (fun h => ?_) (fun h => ?_)
      · have hz : p.nm = nm := by
          have := of_decide_eq_true h
          injection this
        refine ⟨_, rfl, b, _, _, _, rfl, rfl, SqT.of hb, rfl, c1 _ _ ⟨_, rfl⟩ ⟨by rw [List.length_append]; simp; omega, ?_⟩⟩
        rw [e1, if_pos hz]
        refine paired_snoc ⟨m, rfl, up _ _ hm, ?_⟩ zt
        have := (ok.mks p hmem).1
        intro z
        rw [z] at this
        simp at this
      · have hz : p.nm ≠ nm := fun z => h (decide_eq_true (by rw [z]))
        refine c2 _ ⟨_, rfl⟩ ⟨by omega, ?_⟩
        rw [e1, if_neg hz, List.append_nil]
        exact zt
    · rintro D H2 ys hD s2 eD ⟨zl, zt⟩
      rw [lk, List.take_length] at zt
      have hl := paired_len zt
      have h4 := ok.few nm
      refine ⟨D, ys, _, rfl, SqL.of eD, zt.same s2, by omega, mks_nodup ok.nd nm, fun ys' ks' t' p' a' => fun l H3 n3 s3 e3 => ?_⟩
      exact q l ys' ks' H3 (s2.free n3) (s2.trans s3) e3 (t'.same s3) p' a'
end
end K02

set_option Elab.async false
set_option linter.all false
set_option maxRecDepth 100000
set_option maxHeartbeats 4000000
namespace K02
open PySem L2 PySem.Spec PyProof.Rows
/-! ### keys that are tuples of ints -/
theorem nvs_of {H : Hp} : ∀ ns : List Int, NVs H (kI ns) (ns.map V.int)
  | [] => .nil
  | n :: ns => .cons rfl (nvs_of ns)
theorem nat_kI {H : Hp} {b : Addr} {ns : List Int} (h : H b = some (.tup (ns.map V.int))) : NAt H (kI ns) b := ⟨_, h, nvs_of ns⟩
theorem kI_inj : ∀ {a b : List Int}, kI a = kI b → a = b
  | [], [], _ => rfl
  | [], _ :: _, h => nomatch h
  | _ :: _, [], h => nomatch h
  | x :: a, y :: b, h => by
    have h : (Sum.inl (Sum.inl x) : NI) :: kI a = Sum.inl (Sum.inl y) :: kI b := h
    injection h with h1 h2
    injection h1 with h1
    injection h1 with h1
    rw [h1, kI_inj h2]
theorem valI {kvs : List (List NI × V)} {ks : List (List Int)} (h : kvs.map (·.1) = ks.map kI) (x : List Int) : (valV kvs (kI x)).isSome = true ↔ x ∈ ks := by
  constructor
  · intro z
    obtain ⟨v, e⟩ := Option.isSome_iff_exists.mp z
    have := valV_in e
    rw [h] at this
    obtain ⟨y, hy, e⟩ := List.mem_map.mp this
    rw [← kI_inj e]
    exact hy
  · intro z
    cases e : valV kvs (kI x) with
    | some v => rfl
    | none =>
      refine absurd ?_ (valV_not e)
      rw [h]
      exact List.mem_map.mpr ⟨x, z, rfl⟩
section
variable {X : Cx}
def rIsO (K : PySem.W.Frag) : List V → Hp → VK → Prop := fun xs H Q => ∃ a C D b, xs = [.ref a, .ref D] ∧ H a = some (excO a (.ref C)) ∧ XCls K C ∧ PySem.W.kitOne K (.ref C) (.ref D) = some b ∧ Q (.bl b) H
theorem call_isiOK (K : PySem.W.Frag) (h : X.K = K := by rfl) : CallR X (.builtin "isinstance") (rIsO K) := h ▸ call_isiO
def rIsT (K : PySem.W.Frag) : List V → Hp → VK → Prop := fun xs H Q => ∃ a C T b, xs = [.ref a, .ty T] ∧ H a = some (excO a (.ref C)) ∧ XCls K C ∧ PySem.W.kitOne K (.ref C) (.type T) = some b ∧ Q (.bl b) H
theorem call_isiTK (K : PySem.W.Frag) (h : X.K = K := by rfl) : CallR X (.builtin "isinstance") (rIsT K) := h ▸ call_isiT
end
section
variable {P : Program} {w : World} {K : PySem.W.Frag} {mg : Str → Option Value} {base : Heap}
/-! ### rising -/
theorem adj_at : ∀ {ks : List (List Int)}, adjT ks = true → ∀ {i : Nat} {a b : List Int}, ks[i]? = some a → ks[i + 1]? = some b → HT.lexLt a b = true
  | [], _, i, a, b, h, _ => by cases h
  | [_], _, i, a, b, _, h => by cases h
  | x :: y :: r, h, 0, a, b, ha, hb => by
    cases ha
    cases hb
    exact (Bool.and_eq_true_iff.mp h).1
  | x :: y :: r, h, i + 1, a, b, ha, hb => adj_at (ks := y :: r) (Bool.and_eq_true_iff.mp h).2 (i := i) ha hb
def spRis : Sp := fun vs H Q _ => ∃ (l : Addr) (ys : List V) (ks : List (List Int)), vs = [.ref l] ∧ H l = some (.lst ys) ∧ TupsV H ys ks ∧ adjT ks = true ∧ ys.length ≤ 4 ∧ ∀ H', Same H H' → Q (.bl true) H'
theorem scRis : FnScope ["_law_makes", "_law_k"] ["_law_makes"] (defScope sRis) := ⟨rfl, rfl, rfl, by decide +kernel, rfl, by decide +kernel, by decide +kernel⟩
theorem okRis {f : Addr} {fd : FuncData} (F : Fun K "_law_rising" "_law_rising" sRis f fd) (B : Blt mg) : FnOk P w K mg base CX0 1 f fd ["_law_makes"] spRis := by
  refine F.ok scRis (fun vs H Q E h => ?_) (fun cdv A outer s H vs Q E hr h => ?_)
  · obtain ⟨l, ys, ks, rfl, _⟩ := h
    rfl
  · obtain ⟨l, ys, ks, rfl, hl, ht, ha, h4, q⟩ := h
    have hu0 : (A.deeper (PyProof.Rows.envOfC "_law_rising" (defScope sRis) s.heap.objs.size f cdv)).units < cLine := by have := hr.units; omega
    refine ⟨_, (pss_cons (ps_for PassesOwn.never rfl (pi_range2 rfl B.range (pa_cons pe_int (pa_cons (pe_callB call_len_seq (by rfl) B.len PySem.boot_len (pa_cons (pv 0) pa_nil)) pa_nil))) (pg_name (i := 1) scRis.nd rfl (Or.inl rfl))
        (pss_one (ps_if (pt_cmpR (op_geL hu0) (pe_callTy call_listN (by rfl) B.list PyProof.Rows.boot_list (pa_cons (pe_ix ix_list (pv 0) (pe_op op_sub (pv 1) pe_int) (fun _ _ => rfl)) pa_nil)) (pe_callTy call_listN (by rfl) B.list PyProof.Rows.boot_list (pa_cons (pe_ix ix_list (pv 0) (pv 1) (fun _ _ => rfl)) pa_nil)) (nomark _))
          (pss_one (ps_ret pe_bl)) pss_nil)))
        (pss_one (ps_ret pe_bl))), ?_⟩
    refine ⟨_, rfl, l, _, rfl, .inl (SqL.of hl), 1, (ys.length : Int), rfl, ⟨by omega, by omega, by omega, by omega⟩, ?_⟩
    refine for_range (lo := 1) (fun i σ H2 => ∃ u, σ = [some (.ref l), u] ∧ Same H H2) ⟨_, rfl, fun _ _ e => e⟩ ?_ ?_
    · rintro i σ H2 hi ⟨u, rfl, s2⟩
      have hlk := paired_len ht
      have hi1 : i + 1 < ys.length := by omega
      obtain ⟨a, ka, t, ea, hta, nea⟩ := paired_get' ht (i := i) (List.getElem?_eq_getElem (by omega))
      obtain ⟨b, kb, t', eb, htb, neb⟩ := paired_get' ht (i := i + 1) (List.getElem?_eq_getElem hi1)
      have ga : atI ys (1 + (i : Int) - 1) = some (.ref t) := by
        rw [show (1 + (i : Int) - 1) = ((i : Nat) : Int) by omega]
        exact atI_nat (by rw [← ea]; exact List.getElem?_eq_getElem (by omega))
      have gb : atI ys (1 + (i : Int)) = some (.ref t') := by
        rw [show (1 + (i : Int)) = ((i + 1 : Nat) : Int) by omega]
        exact atI_nat (by rw [← eb]; exact List.getElem?_eq_getElem hi1)
      refine ⟨_, rfl, _, rfl, _, _, rfl, rfl, l, _, _, _, rfl, rfl, SqL.of (s2 _ _ hl), ga, t, _, rfl, .inr (SqT.of (s2 _ _ hta)), fun p1 H3 n3 s3 e3 => ?_⟩
      refine ⟨_, rfl, _, rfl, l, _, _, _, rfl, rfl, SqL.of (s3 _ _ (s2 _ _ hl)), gb, t', _, rfl, .inr (SqT.of (s3 _ _ (s2 _ _ htb))), fun p2 H4 n4 s4 e4 => ?_⟩
      refine ⟨p1, p2, a, b, rfl, rfl, SqL.of (s4 _ _ e3), SqL.of e4, _, rfl, ?_⟩
      rw [adj_at ha ka kb]
      exact iteF ⟨_, rfl, s2.trans (s3.trans s4)⟩
    · rintro σ H2 ⟨u, rfl, s2⟩
      exact q H2 s2
/-! ### absent -/
theorem absent_le {as : List Int} {ks : List (List Int)} {j : Nat} (h : ∀ i < j, as ++ [3 + (i : Int)] ∈ ks) : j ≤ ks.length := by
  have nd : ((List.range j).map fun i : Nat => as ++ [3 + (i : Int)]).Nodup := by
    refine List.Pairwise.map (R := fun a b : Nat => a ≠ b) _ (fun a b e z => ?_) (List.nodup_range (n := j))
    have z := List.append_cancel_left z
    injection z with z _
    exact e (by omega)
  have := nodup_len nd fun z hz => by
    obtain ⟨i, hi, rfl⟩ := List.mem_map.mp hz
    exact h i (List.mem_range.mp hi)
  rw [List.length_map, List.length_range] at this
  exact this
def spAbs (K : PySem.W.Frag) : Sp := fun vs H Q _ => ∃ (d t : Addr) (as : List Int) (kvs : List (List NI × V)) (ks : List (List Int)), vs = [.ref d, .ref t] ∧ H d = some (.dT kvs) ∧ kvs.map (·.1) = ks.map kI ∧ ks.length ≤ 4 ∧ H t = some (.tup (as.map V.int)) ∧ as.length ≤ 5 ∧
  ∀ (p : Addr) (n : Int) (H' : Hp), Same H H' → H' p = some (.tup ((as ++ [n]).map V.int)) → 3 ≤ n → n ≤ 7 → as ++ [n] ∉ ks → Q (.ref p) H'
theorem scAbs : FnScope ["_law_due", "_law_ahead", "_law_last"] ["_law_due", "_law_ahead"] (defScope sAbs) := ⟨rfl, rfl, rfl, by decide +kernel, rfl, by decide +kernel, by decide +kernel⟩
theorem okAbs {f : Addr} {fd : FuncData} (F : Fun K "_law_absent" "_law_absent" sAbs f fd) : FnOk P w K mg base CX0 1 f fd ["_law_due", "_law_ahead"] (spAbs K) := by
  refine F.ok scAbs (fun vs H Q E h => ?_) (fun cdv A outer s H vs Q E hr h => ?_)
  · obtain ⟨d, t, as, kvs, ks, rfl, _⟩ := h
    rfl
  · obtain ⟨d, t, as, kvs, ks, rfl, hd, hk, h4, ht, h5, q⟩ := h
    have hu := hr.units
    refine ⟨_, (pss_cons (ps_set (i := 2) scAbs.nd rfl (Or.inl rfl) pe_int)
        (pss_cutE (ps_while PassesOwn.never (pt_cmp (pc_din hu (pe_op op_catA (pv 1) (pe_tupN (pa_cons (pv 2) pa_nil))) (pv 0)) (by rfl)) (pss_one (ps_set (i := 2) scAbs.nd rfl (Or.inl rfl) (pe_op op_add (pv 2) pe_int))))
        (pss_one (ps_ret (pe_op op_catA (pv 1) (pe_tupN (pa_cons (pv 2) pa_nil))))))), ?_⟩
    have tupE : ∀ n : Int, as.map V.int ++ [V.int n] = (as ++ [n]).map V.int := fun n => by rw [List.map_append]; rfl
    have lsz : ∀ n : Int, (as.map V.int).length + [V.int n].length ≤ sizeLine := fun n => by
      rw [List.length_map]
      exact Nat.le_of_lt (small1000 (by show as.length + 1 ≤ 1000; omega))
    refine ⟨fun σ H2 => ∃ n : Int, σ = [some (.ref d), some (.ref t), some (.int n)] ∧ Same H H2 ∧ 3 ≤ n ∧ n ≤ 7 ∧ as ++ [n] ∉ ks, ?_, ?_⟩
    · refine ⟨fun m σ H2 => ∃ j : Nat, m = 5 - j ∧ σ = [some (.ref d), some (.ref t), some (.int (3 + (j : Int)))] ∧ Same H H2 ∧ ∀ i < j, as ++ [3 + (i : Int)] ∈ ks, ⟨5, 0, rfl, rfl, fun _ _ e => e, fun i hi => absurd hi (Nat.not_lt_zero _)⟩, ?_⟩
      rintro m σ H2 ⟨j, rfl, rfl, s2, hj⟩
      have j4 := absent_le hj
      refine ⟨_, rfl, _, rfl, (by show 1 ≤ sizeLine; decide), fun p1 H3 n3 s3 e3 => ?_⟩
      refine ⟨t, p1, _, _, rfl, rfl, SqT.of (s3 _ _ (s2 _ _ ht)), e3, by simp, lsz _, fun p H4 s4 e4 => ?_⟩
      rw [tupE] at e4
      refine ⟨_, rfl, d, _, rfl, DGet.t (s4 _ _ (s3 _ _ (s2 _ _ hd))) (nat_kI e4), _, rfl, ?_⟩
      refine ite2 (fun h => ?_) (fun h => ?_)
      · have hin := (valI hk _).mp h
        have hj' : ∀ i < j + 1, as ++ [3 + (i : Int)] ∈ ks := fun i hi => by
          by_cases z : i = j
          · subst z; exact hin
          · exact hj i (by omega)
        have j5 := absent_le hj'
        refine ⟨fun σ' H' => σ' = [some (.ref d), some (.ref t), some (.int (3 + ((j + 1 : Nat) : Int)))] ∧ Same H H', fun σ' H' ⟨e, s'⟩ => ⟨5 - (j + 1), by omega, j + 1, rfl, e, s', hj'⟩, ?_⟩
        refine ⟨_, rfl, _, _, rfl, rfl, ?_, s2.trans (s3.trans s4)⟩
        show [some (V.ref d), some (V.ref t), some (V.int (3 + (j : Int) + 1))] = _
        rw [show (3 + (j : Int) + 1) = 3 + ((j + 1 : Nat) : Int) by omega]
      · have hout : as ++ [3 + (j : Int)] ∉ ks := fun z => h ((valI hk _).mpr z)
        exact ⟨3 + (j : Int), rfl, s2.trans (s3.trans s4), by omega, by omega, hout⟩
    · rintro σ H2 ⟨n, rfl, s2, n3', n7, hout⟩
      refine ⟨_, rfl, _, rfl, (by show 1 ≤ sizeLine; decide), fun p1 H3 n3 s3 e3 => ?_⟩
      refine ⟨t, p1, _, _, rfl, rfl, SqT.of (s3 _ _ (s2 _ _ ht)), e3, by simp, lsz _, fun p H4 s4 e4 => ?_⟩
      rw [tupE] at e4
      exact q p n H4 (s2.trans (s3.trans s4)) e4 n3' n7 hout
/-! ### refused -/
structure Errs (K : PySem.W.Frag) (mg : Str → Option Value) (M NP c1 c2 c3 c4 : Addr) : Prop where
  xc : XCls K NP
  mM : mg "MendError" = some (.ref M)
  mP : mg "NoParcel" = some (.ref NP)
  m1 : mg "NoName" = some (.ref c1)
  m2 : mg "NoPath" = some (.ref c2)
  m3 : mg "NoRow" = some (.ref c3)
  m4 : mg "NoShelf" = some (.ref c4)
  k1 : PySem.W.kitOne K (.ref NP) (.ref c1) = some false
  k2 : PySem.W.kitOne K (.ref NP) (.ref c2) = some false
  k3 : PySem.W.kitOne K (.ref NP) (.ref c3) = some false
  k4 : PySem.W.kitOne K (.ref NP) (.ref c4) = some false
  kP : PySem.W.kitOne K (.ref NP) (.ref NP) = some true
  kV : PySem.W.kitOne K (.ref NP) (.type "ValueError") = some true
  ex : PySem.W.exmOne K (.ref NP) (.ref M) = some true
def spRef (C S : Addr) : Sp := fun vs H Q _ => ∃ (a m : Addr) (nm : Str) (ns : List Int) (ps : List Ent), vs = [.ref a, .str nm, .ref m] ∧ ShelfAt C S H a ps ∧ Nm nm ∧ H m = some (.tup (ns.map V.int)) ∧ RpOk ns ∧ (∀ p ∈ ps, p.ky ≠ (nm, ns)) ∧ ∀ H', Same H H' → Q (.bl true) H'
theorem scRef : FnScope ["_law_shelf", "_law_name", "_law_make_here", "e", "_law_others"] ["_law_shelf", "_law_name", "_law_make_here"] (defScope sRef) := ⟨rfl, rfl, rfl, by decide +kernel, rfl, by decide +kernel, by decide +kernel⟩
theorem okRef {f C S M NP c1 c2 c3 c4 f1 f2 fSPa : Addr} {fd fdSPa : FuncData} (F : Fun K "_law_refused" "_law_refused" sRef f fd) (B : Blt mg) (R : Errs K mg M NP c1 c2 c3 c4) (U : TxtS K mg S f1 f2 fSPa)
    (FSPa : Fun K "parcel" "Shelf.parcel" sSPa fSPa fdSPa) (GSPa : FnOk P w K mg base (CXR P w) 1 fSPa fdSPa ["self", "name", "make"] (spSPa C S NP)) : FnOk P w K mg base CX0 2 f fd ["_law_shelf", "_law_name", "_law_make_here"] (spRef C S) := by
  have bSPa := FSPa.binds (ps := ["self", "name", "make"]) fun _ _ _ _ _ _ us hl => match us, hl with | [_, _, _], _ => rfl
  refine F.ok scRef (fun vs H Q E h => ?_) (fun cdv A outer s H vs Q E hr h => ?_)
  · obtain ⟨a, m, nm, ns, ps, rfl, _⟩ := h
    rfl
  · obtain ⟨a, m, nm, ns, ps, rfl, hS, hnm, hm, hns, hout, q⟩ := h
    refine ⟨_, (pss_cutE (ps_tryAs (i := 3) scRef.nd rfl rfl rfl rfl R.mM rfl (fun XE pn E hp => pss_one (ps_expr (pe_methS (pv 0) U.cl U.mP GSPa hr bSPa .nil hp (pa_cons (pv 1) (pa_cons (pv 2) pa_nil)))))
          (fun a => pss_cons (ps_set (i := 4) scRef.nd rfl (Or.inl rfl) (pe_or (pe_callB (call_isiOK K) (by rfl) B.isinstance PyProof.Rows.boot_isinstance (pa_cons (pv 3) (pa_cons (pe_glob (v := .ref c1) rfl R.m1 rfl) pa_nil)))
            (pe_or (pe_callB (call_isiOK K) (by rfl) B.isinstance PyProof.Rows.boot_isinstance (pa_cons (pv 3) (pa_cons (pe_glob (v := .ref c2) rfl R.m2 rfl) pa_nil)))
            (pe_or (pe_callB (call_isiOK K) (by rfl) B.isinstance PyProof.Rows.boot_isinstance (pa_cons (pv 3) (pa_cons (pe_glob (v := .ref c3) rfl R.m3 rfl) pa_nil)))
            (pe_one (pe_callB (call_isiOK K) (by rfl) B.isinstance PyProof.Rows.boot_isinstance (pa_cons (pv 3) (pa_cons (pe_glob (v := .ref c4) rfl R.m4 rfl) pa_nil))))))))
            (pss_one (ps_ret (pe_and (pe_callB (call_isiOK K) (by rfl) B.isinstance PyProof.Rows.boot_isinstance (pa_cons (pv 3) (pa_cons (pe_glob (v := .ref NP) rfl R.mP rfl) pa_nil)))
            (pe_and (pe_callB (call_isiTK K) (by rfl) B.isinstance PyProof.Rows.boot_isinstance (pa_cons (pv 3) (pa_cons (pe_bltn (v := .ty "ValueError") rfl B.valueError PyProof.Rows.Boot.«ValueError» rfl) pa_nil)))
            (pe_one (pe_not (pv 4)))))))))
        (pss_one (ps_ret pe_bl))), ?_⟩
    refine ⟨fun σ' H' => False, ?_, fun σ' H' z => z.elim⟩
    have hS' := hS
    obtain ⟨dx, d, kvs, ob, _⟩ := hS'
    refine ⟨_, rfl, a, dx, _, rfl, ob, rfl, _, rfl, _, rfl, a, m, nm, ns, ps, rfl, hS, hnm, hm, hns, fun v p H' hp ek _ _ => absurd ek (hout p hp), fun _ H1 s1 => ⟨R.ex, fun x hx => ?_⟩⟩
    have hx1 : upd H1 x (excO x (.ref NP)) x = some (excO x (.ref NP)) := upd_same
    refine ⟨_, rfl, x, NP, c1, false, rfl, hx1, R.xc, R.k1, _, rfl, iteF ?_⟩
    refine ⟨_, rfl, x, NP, c2, false, rfl, hx1, R.xc, R.k2, _, rfl, iteF ?_⟩
    refine ⟨_, rfl, x, NP, c3, false, rfl, hx1, R.xc, R.k3, _, rfl, iteF ?_⟩
    refine ⟨_, rfl, x, NP, c4, false, rfl, hx1, R.xc, R.k4, ?_⟩
    refine ⟨_, rfl, x, NP, NP, true, rfl, hx1, R.xc, R.kP, _, rfl, iteT ?_⟩
    refine ⟨_, rfl, x, NP, "ValueError", true, rfl, hx1, R.xc, R.kV, _, rfl, iteT ?_⟩
    exact ⟨_, rfl, _, rfl, q _ (same_upd' s1 (s1.free hx))⟩
end
end K02

set_option Elab.async false
set_option linter.all false
set_option maxRecDepth 100000
set_option maxHeartbeats 4000000
namespace K02
open PySem L2 PySem.Spec PyProof.Rows
/-- what is due for a name -/
def tab (ps : List Ent) (x : Str) : List (List NI × V) := (ps.filter fun p => decide (p.nm = x)).map fun p => (kI p.ns, V.int p.rk)
theorem tab_snoc (ps : List Ent) (p : Ent) (y : Str) : tab (ps ++ [p]) y = tab ps y ++ (if p.nm = y then [(kI p.ns, V.int p.rk)] else []) := by
  unfold tab
  rw [List.filter_append, List.map_append]
  by_cases z : p.nm = y
  · rw [if_pos z]; simp [z]
  · rw [if_neg z]; simp [z]
theorem mks_snoc (ps : List Ent) (p : Ent) (y : Str) : mksOf (ps ++ [p]) y = mksOf ps y ++ (if p.nm = y then [p.ns] else []) := by
  unfold mksOf
  rw [List.filter_append, List.map_append]
  by_cases z : p.nm = y
  · rw [if_pos z]; simp [z]
  · rw [if_neg z]; simp [z]
theorem tab_keys (ps : List Ent) (x : Str) : (tab ps x).map (·.1) = (mksOf ps x).map kI := by
  unfold tab mksOf
  rw [List.map_map, List.map_map]
  rfl
theorem tab_len (ps : List Ent) (x : Str) : (tab ps x).length = (mksOf ps x).length := by
  have := congrArg List.length (tab_keys ps x)
  simpa using this
theorem tab_nil {ps : List Ent} {x : Str} (h : x ∉ ps.map Ent.nm) : tab ps x = [] := by
  unfold tab
  rw [List.filter_eq_nil_iff.mpr]
  · rfl
  · intro p hp z
    exact h (List.mem_map.mpr ⟨p, hp, of_decide_eq_true z⟩)
theorem tab_in {ps : List Ent} {x : Str} (h : tab ps x ≠ []) : x ∈ ps.map Ent.nm := Classical.byContradiction fun z => h (tab_nil z)
/-- the state of the drawing -/
structure DrI (H0 : Hp) (C : Addr) (ys : List Str) (F L : Addr) (H : Hp) (kvs : List (Key × V)) (nks : List Str) (xs : List V) (ps : List Ent) : Prop where
  sm : Same H0 H
  hF : H F = some (.dK kvs)
  hL : H L = some (.lst xs)
  ks : KeysS kvs nks
  nd : nks.Nodup
  tb : ∀ x ∈ nks, ∃ d, valV kvs (.inr x) = some (.ref d) ∧ H d = some (.dT (tab ps x)) ∧ H0 d = none
  inj : ∀ x y d, valV kvs (.inr x) = some (.ref d) → valV kvs (.inr y) = some (.ref d) → x = y
  en : Paired (EntAt C H) xs ps
  pk : (ps.map keyOf).Nodup
  mks : ∀ p ∈ ps, MkOk p.ns
  few : ∀ nm, (mksOf ps nm).length ≤ 4
  nmI : ∀ p ∈ ps, ∃ j, j < 8 ∧ ys[j]? = some p.nm
section
variable {H0 H H' : Hp} {C F L d : Addr} {ys : List Str} {kvs : List (Key × V)} {nks : List Str} {xs : List V} {ps : List Ent} {x : Str}
theorem DrI.same (W : DrI H0 C ys F L H kvs nks xs ps) (s : Same H H') : DrI H0 C ys F L H' kvs nks xs ps :=
  ⟨W.sm.trans s, s _ _ W.hF, s _ _ W.hL, W.ks, W.nd, fun x hx => let ⟨d, a, b, c⟩ := W.tb x hx; ⟨d, a, s _ _ b, c⟩, W.inj, paired_mapP W.en fun _ _ z => z.same s, W.pk, W.mks, W.few, W.nmI⟩
theorem DrI.key (W : DrI H0 C ys F L H kvs nks xs ps) (h : valV kvs (.inr x) = none) : x ∉ nks := fun z => by
  obtain ⟨d, a, _⟩ := W.tb x z
  rw [h] at a
  cases a
theorem DrI.val (W : DrI H0 C ys F L H kvs nks xs ps) {v : V} (h : valV kvs (.inr x) = some v) : x ∈ nks := by
  have := valV_in h
  rw [W.ks] at this
  obtain ⟨y, hy, e⟩ := List.mem_map.mp this
  injection e with e
  rw [← e]
  exact hy
theorem DrI.fresh (W : DrI H0 C ys F L H kvs nks xs ps) (mem : ∀ y, y ∈ nks ↔ y ∈ ps.map Ent.nm) (h0F : H0 F = none) (h : valV kvs (.inr x) = none) (hd0 : H d = none) (s : Same H H') (hd : H' d = some (.dT [])) :
    DrI H0 C ys F L (upd H' F (.dK (putK kvs (.inr x) (.ref d)))) (putK kvs (.inr x) (.ref d)) (nks ++ [x]) xs ps := by
  have W' := W.same s
  have hx := W.key h
  have nv : ∀ y, valV kvs (.inr y) ≠ some (.ref d) := fun y z => by
    obtain ⟨d', a, b, _⟩ := W.tb y (W.val z)
    rw [z] at a
    cases a
    rw [hd0] at b
    cases b
  have kp : ∀ b o, H' b = some o → (∀ k, o ≠ .dK k) → upd H' F (.dK (putK kvs (.inr x) (.ref d))) b = some o := fun b o e z => by
    rw [upd_ne (fun w => by rw [w, W'.hF] at e; cases e; exact z _ rfl)]
    exact e
  have kit : KeepIT H' (upd H' F (.dK (putK kvs (.inr x) (.ref d)))) := fun b o e z => kp b o e fun k w => by
    rcases z with ⟨_, _, _, z⟩ | ⟨_, z⟩
    · rw [z] at w; cases w
    · rw [z] at w; cases w
  have h0d : H0 d = none := W.sm.free hd0
  refine ⟨fun b o e => ?_, upd_same, kp _ _ W'.hL (fun k z => by cases z), ?_, ?_, fun y hy => ?_, fun y z e h1 h2 => ?_, paired_mapP W'.en fun _ _ z => z.keep kit, W.pk, W.mks, W.few, W.nmI⟩
  · rw [upd_ne (ne_of_none e h0F)]
    exact W'.sm _ _ e
  · unfold KeysS
    rw [putK_new _ h, List.map_append, W.ks, List.map_append]
    rfl
  · refine List.nodup_append.mpr ⟨W.nd, List.nodup_cons.mpr ⟨by simp, List.nodup_nil⟩, fun a ha b hb => ?_⟩
    rw [List.mem_singleton.mp hb]
    exact fun z => hx (z ▸ ha)
  · by_cases e : y = x
    · subst e
      refine ⟨d, by rw [valV_put, if_pos rfl], ?_, h0d⟩
      rw [tab_nil (fun z => hx ((mem y).mpr z))]
      exact kp _ _ hd (fun k z => by cases z)
    · rcases List.mem_append.mp hy with hy | hy
      · obtain ⟨d', a, b, c⟩ := W'.tb y hy
        refine ⟨d', ?_, kp _ _ b (fun k z => by cases z), c⟩
        rw [valV_put, if_neg (fun z => e (Sum.inr.inj z))]
        exact a
      · exact absurd (List.mem_singleton.mp hy) e
  · rw [valV_put] at h1 h2
    by_cases e1 : y = x
    · by_cases e2 : z = x
      · rw [e1, e2]
      · rw [if_pos (by rw [e1])] at h1
        rw [if_neg (fun w => e2 (Sum.inr.inj w))] at h2
        cases h1
        exact absurd h2 (nv z)
    · rw [if_neg (fun w => e1 (Sum.inr.inj w))] at h1
      by_cases e2 : z = x
      · rw [if_pos (by rw [e2])] at h2
        cases h2
        exact absurd h1 (nv y)
      · rw [if_neg (fun w => e2 (Sum.inr.inj w))] at h2
        exact W.inj y z e h1 h2
theorem DrI.put (W : DrI H0 C ys F L H kvs nks xs ps) (h0L : H0 L = none) {p : Ent} {v : V} (hv : valV kvs (.inr p.nm) = some (.ref d)) (hk : p.ns ∉ mksOf ps p.nm) (h4 : (mksOf ps p.nm).length < 4) (hm : MkOk p.ns) (hj : ∃ j, j < 8 ∧ ys[j]? = some p.nm)
    (kp : ∀ b o, H b = some o → b ≠ d → b ≠ L → H' b = some o) (hd : H' d = some (.dT (tab (ps ++ [p]) p.nm))) (hL : H' L = some (.lst (xs ++ [v]))) (hE : EntAt C H' v p) : DrI H0 C ys F L H' kvs nks (xs ++ [v]) (ps ++ [p]) := by
  obtain ⟨d', a, b, c⟩ := W.tb p.nm (W.val hv)
  rw [hv] at a
  cases a
  have FL : F ≠ L := ne_of W.hF W.hL (by intro z; cases z)
  have Fd : F ≠ d := ne_of W.hF b (by intro z; cases z)
  refine ⟨fun q o e => kp q o (W.sm _ _ e) (ne_of_none e c) (ne_of_none e h0L), kp _ _ W.hF Fd FL, hL, W.ks, W.nd, fun y hy => ?_, W.inj, paired_snoc hE (paired_mapP W.en fun _ _ z => z.keep fun q o e k => kp q o e ?_ ?_), ?_, fun r hr => ?_, fun y => ?_, fun r hr => ?_⟩
  · by_cases e : p.nm = y
    · subst e
      exact ⟨d, hv, hd, c⟩
    · obtain ⟨d2, a2, b2, c2⟩ := W.tb y hy
      refine ⟨d2, a2, ?_, c2⟩
      rw [tab_snoc, if_neg e, List.append_nil]
      refine kp _ _ b2 (fun z => e ?_) (ne_of b2 W.hL (by intro z; cases z))
      rw [z] at a2
      exact W.inj _ _ _ hv a2
  · intro z
    rw [z, b] at e
    cases e
    rcases k with ⟨_, _, _, k⟩ | ⟨_, k⟩ <;> cases k
  · intro z
    rw [z, W.hL] at e
    cases e
    rcases k with ⟨_, _, _, k⟩ | ⟨_, k⟩ <;> cases k
  · rw [List.map_append]
    refine List.nodup_append.mpr ⟨W.pk, List.nodup_cons.mpr ⟨by simp, List.nodup_nil⟩, fun r hr q hq => ?_⟩
    intro z
    have hq : q = keyOf p := by simpa using hq
    obtain ⟨p', hp', e'⟩ := List.mem_map.mp hr
    refine hk (mks_mem.mpr ⟨p', hp', ?_⟩)
    have : p'.ky = p.ky := kyN_inj (e'.trans (z.trans hq))
    rw [this]
    rfl
  · rcases List.mem_append.mp hr with hr | hr
    · exact W.mks r hr
    · rw [List.mem_singleton.mp hr]; exact hm
  · rw [mks_snoc, List.length_append]
    by_cases e : p.nm = y
    · rw [if_pos e, ← e]; show _ + 1 ≤ 4; omega
    · rw [if_neg e]; have := W.few y; show _ + 0 ≤ 4; omega
  · rcases List.mem_append.mp hr with hr | hr
    · exact W.nmI r hr
    · rw [List.mem_singleton.mp hr]; exact hj
end
section
variable {P : Program} {w : World} {K : PySem.W.Frag} {mg : Str → Option Value} {base : Heap}
theorem ite_int (a b : Int) : ∃ c : Int, (if b < a then b else a) = c ∧ c ≤ a ∧ c ≤ b ∧ (c = a ∨ c = b) := by
  by_cases h : b < a
  · exact ⟨b, if_pos h, by omega, by omega, .inr rfl⟩
  · exact ⟨a, if_neg h, by omega, by omega, .inl rfl⟩
def spDra (K : PySem.W.Frag) (C : Addr) : Sp := fun vs H Q _ => ∃ (a b : Addr) (is : List Int) (ys : List Str), vs = [.ref a, .ref b] ∧ SqL K H a (is.map V.int) ∧ is.length ≤ 63 ∧ H b = some (.lst (ys.map V.str)) ∧ ys.length = 9 ∧
  ∀ (t F L : Addr) (H' : Hp) (kvs : List (Key × V)) (nks : List Str) (xs : List V) (ps : List Ent), H F = none → H L = none → H' t = some (.tup [.ref F, .ref L]) → DrI H C ys F L H' kvs nks xs ps → (∀ y, y ∈ nks ↔ y ∈ ps.map Ent.nm) → ps.length < 64 → Q (.ref t) H'
theorem scDra : FnScope ["_law_script", "_law_names_here", "_law_found", "_law_parcels", "_law_k", "_law_number", "_law_name", "_law_make_here", "_law_mine"] ["_law_script", "_law_names_here"] (defScope sDra) := ⟨rfl, rfl, rfl, by decide +kernel, rfl, by decide +kernel, by decide +kernel⟩
theorem okDra {f C fPIn fMix fCel fMak : Addr} {fd fdPIn fdMix fdCel fdMak : FuncData} (F0 : Fun K "_law_drawn" "_law_drawn" sDra f fd) (B : Blt mg) (T : Txt K mg C) (MC : Mk K C fPIn) (FPIn : Fun K "__init__" "Parcel.__init__" sPIn fPIn fdPIn)
    (GPIn : FnOk P w K mg base CX0 1 fPIn fdPIn ["self", "name", "make", "rank", "files", "needs", "shuts", "offers"] (spPIn K C))
    (FMix : Fun K "_law_mixed" "_law_mixed" sMix fMix fdMix) (mMix : mg "_law_mixed" = some (.ref fMix)) (GMix : FnOk P w K mg base CX0 1 fMix fdMix ["_law_cell", "_law_k"] spMix)
    (FCel : Fun K "_law_cell_at" "_law_cell_at" sCel fCel fdCel) (mCel : mg "_law_cell_at" = some (.ref fCel)) (GCel : FnOk P w K mg base CX0 1 fCel fdCel ["_law_script", "_law_k"] (spCel K))
    (FMak : Fun K "_law_make" "_law_make" sMak fMak fdMak) (mMak : mg "_law_make" = some (.ref fMak)) (GMak : FnOk P w K mg base CX0 1 fMak fdMak ["_law_number"] spMak) :
    FnOk P w K mg base CX0 3 f fd ["_law_script", "_law_names_here"] (spDra K C) := by
  have bPIn := FPIn.binds (ps := ["self", "name", "make", "rank", "files", "needs", "shuts", "offers"]) fun _ _ _ _ _ _ us hl => match us, hl with | [_, _, _, _, _, _, _, _], _ => rfl
  have bMix := FMix.binds (ps := ["_law_cell", "_law_k"]) fun _ _ _ _ _ _ us hl => match us, hl with | [_, _], _ => rfl
  have bCel := FCel.binds (ps := ["_law_script", "_law_k"]) fun _ _ _ _ _ _ us hl => match us, hl with | [_, _], _ => rfl
  have bMak := FMak.binds (ps := ["_law_number"]) fun _ _ _ _ _ _ us hl => match us, hl with | [_], _ => rfl
  refine F0.ok scDra (fun vs H Q E h => ?_) (fun cdv A outer s H vs Q E hr h => ?_)
  · obtain ⟨a, b, is, ys, rfl, _⟩ := h
    rfl
  · obtain ⟨a, b, is, ys, rfl, hA, h63, hb, h9, q⟩ := h
    have hu := hr.units
    have hr1 : Room 1 (A.deeper (PyProof.Rows.envOfC "_law_drawn" (defScope sDra) s.heap.objs.size f cdv)) := hr.mono (by decide)
    refine ⟨_, (pss_cons (ps_set (i := 2) scDra.nd rfl (Or.inl rfl) pe_dnewN)
        (pss_cons (ps_set (i := 3) scDra.nd rfl (Or.inl rfl) (pe_lstN pa_nil))
        (pss_cons (ps_for PassesOwn.never rfl (pi_range2 rfl B.range (pa_cons pe_int (pa_cons (pe_callB (call_min2 rfl) (by rfl) B.min PyProof.Rows.boot_min (pa_cons (pe_callB call_len_seq (by rfl) B.len PySem.boot_len (pa_cons (pv 0) pa_nil)) (pa_cons pe_int pa_nil))) pa_nil))) (pg_name (i := 4) scDra.nd rfl (Or.inl rfl))
        (pss_cons (ps_set (i := 5) scDra.nd rfl (Or.inl rfl) (pe_call GMix hr1 rfl mMix FMix.kp bMix .nil pass0 (pa_cons (pe_ix ix_list (pv 0) (pv 4) (fun _ _ => rfl)) (pa_cons (pv 4) pa_nil))))
          (pss_cons (ps_set (i := 6) scDra.nd rfl (Or.inl rfl) (pe_ix ix_list (pv 1) (pe_op op_mod (pv 5) (pe_op op_add pe_int (pe_op op_mod (pe_call GCel hr1 rfl mCel FCel.kp bCel .nil pass0 (pa_cons (pv 0) (pa_cons pe_int pa_nil))) pe_int))) (fun _ _ => rfl)))
          (pss_cons (ps_set (i := 7) scDra.nd rfl (Or.inl rfl) (pe_call GMak hr1 rfl mMak FMak.kp bMak .nil pass0 (pa_cons (pe_op op_fdiv (pv 5) pe_int) pa_nil)))
          (pss_cutE (ps_set (i := 8) scDra.nd rfl (Or.inl rfl) (pe_bm PySem.F.plainAttrs_dict PySem.F.slot_dict_setdefault PySem.F.type_dict_setdefault mt_setdef (pv 2) (pa_cons (pv 6) (pa_cons pe_dnewTN pa_nil))))
          (pss_one (ps_if (PW.pt (pw_and (pt_cmpR op_lt (pe_callB call_lenT (by rfl) B.len PySem.boot_len (pa_cons (pv 8) pa_nil)) pe_int (nomark _)) (pw_and1 (pt_cmp (pc_dnotin hu (pv 7) (pv 8)) (by rfl)))))
          (pss_cons (ps_dput hu (pv 8) (pv 7) (pe_op op_mod (pe_call GMix hr1 rfl mMix FMix.kp bMix .nil pass0 (pa_cons (pe_ix ix_list (pv 0) (pv 4) (fun _ _ => rfl)) (pa_cons pe_int pa_nil))) (pe_op op_add (pe_op op_pow pe_int pe_int) pe_int)) rfl)
            (pss_one (ps_expr (pe_bm PySem.F.plainAttrs_list PySem.F.slot_list_append PySem.F.type_list_append mt_append (pv 3) (pa_cons (pe_make MC GPIn hr rfl T.mgC bPIn .nil pass0 (pa_cons (pv 6) (pa_cons (pv 7) (pa_cons (pe_dget hu (pv 8) (pv 7) (fun _ _ => rfl)) (pa_cons (pe_lstN pa_nil) (pa_cons (pe_lstN pa_nil) (pa_cons (pe_lstN pa_nil) (pa_cons (pe_lstN pa_nil) pa_nil)))))))) pa_nil))))) pss_nil)))))))
        (pss_one (ps_ret (pe_tupN (pa_cons (pv 2) (pa_cons (pv 3) pa_nil)))))))), ?_⟩
    refine fun Fd H1 n1 s1 e1 => ?_
    refine ⟨(by show 0 ≤ sizeLine; decide), fun L H2 n2 s2 e2 => ?_⟩
    have s12 := s1.trans s2
    have h0L : H L = none := s1.free n2
    refine ⟨_, rfl, a, _, rfl, .inl (s12.seq hA), _, _, rfl, ?_⟩
    obtain ⟨hi, ehi, hi1, hi2, hi3⟩ := ite_int ((is.map V.int).length : Int) 34
    rw [List.length_map] at hi1 hi3
    refine ⟨2, hi, by rw [← ehi], ⟨by omega, by omega, by omega, by omega⟩, ?_⟩
    refine for_range (lo := 2) (fun i σ H3 => ∃ u1 u2 u3 u4 u5 kvs nks xs ps, σ = [some (.ref a), some (.ref b), some (.ref Fd), some (.ref L), u1, u2, u3, u4, u5] ∧ DrI H C ys Fd L H3 kvs nks xs ps ∧ (∀ y, y ∈ nks ↔ y ∈ ps.map Ent.nm) ∧ ps.length ≤ i)
      ⟨none, none, none, none, none, [], [], [], [], rfl, ⟨s12, s2 _ _ e1, e2, rfl, List.nodup_nil, fun x hx => (nomatch hx), (fun x y d h => by cases h), .nil, List.nodup_nil, fun p hp => (nomatch hp), fun nm => Nat.zero_le _, fun p hp => (nomatch hp)⟩, fun y => Iff.rfl, Nat.le_refl _⟩ ?_ ?_
    · rintro i σ H3 hi' ⟨u1, u2, u3, u4, u5, kvs, nks, xs, ps, rfl, W, mem, hl⟩
      have hiN : i + 2 < is.length := by omega
      have hi34 : i < 32 := by omega
      obtain ⟨z, hz⟩ : ∃ z, atI (is.map V.int) (2 + (i : Int)) = some (.int z) := by
        obtain ⟨z, hz, _⟩ := atI_ints (ns := is) (r := 2 + (i : Int)) (by omega) (by omega)
        exact ⟨z, hz⟩
      refine ⟨_, rfl, _, rfl, a, _, _, _, rfl, rfl, W.sm.seq hA, hz, _, rfl, z, _, rfl, fun n n0 n1' => ?_⟩
      refine ⟨_, rfl, _, rfl, _, rfl, a, 1, is, rfl, by decide, W.sm.seq hA, fun c => ?_⟩
      have pos : (0 : Int) < 1 + c % 8 := by omega
      have b8 : n % (1 + c % 8) < 8 := by have := Int.emod_lt_of_pos n pos; omega
      have b0 : 0 ≤ n % (1 + c % 8) := Int.emod_nonneg _ (by omega)
      refine ⟨_, _, rfl, rfl, (by show (0 : Int) < 8; decide), _, _, rfl, rfl, _, _, rfl, rfl, pos, ?_⟩
      obtain ⟨r, er⟩ : ∃ r : Int, r = n % (1 + c % 8) := ⟨_, rfl⟩
      rw [← er] at b8 b0
      obtain ⟨x, hx⟩ : ∃ x, ys[r.toNat]? = some x := ⟨_, List.getElem?_eq_getElem (by omega)⟩
      have hxa : atI (ys.map V.str) r = some (.str x) := by
        obtain ⟨k, rfl⟩ : ∃ k : Nat, r = k := ⟨r.toNat, by omega⟩
        exact atI_nat (by rw [List.getElem?_map, show (ys[k]? = some x) from hx]; rfl)
      refine ⟨b, _, r, _, rfl, by rw [er], SqL.of (W.sm _ _ hb), hxa, ?_⟩
      refine ⟨_, rfl, _, _, rfl, rfl, ⟨by omega, by omega⟩, _, rfl, fun m ns H4 n4 s4 e4 hmk => ?_⟩
      have W4 := W.same s4
      refine ⟨fun σ5 H5 => ∃ d kvs5 nks5, σ5 = [some (.ref a), some (.ref b), some (.ref Fd), some (.ref L), some (.int (2 + (i : Int))), some (.int n), some (.str x), some (.ref m), some (.ref d)] ∧ DrI H C ys Fd L H5 kvs5 nks5 xs ps ∧ (∀ y, y ∈ nks5 ↔ y = x ∨ y ∈ ps.map Ent.nm) ∧ valV kvs5 (.inr x) = some (.ref d) ∧ H5 m = some (.tup (ns.map V.int)), ?_, ?_⟩
      · refine ⟨_, rfl, .inr (.inr (.inl ⟨rfl, .inl ⟨_, W4.hF⟩⟩)), _, rfl, fun d0 H5 n5 s5 e5 => ?_⟩
        have hlk : kvs.length = nks.length := by have := congrArg List.length W4.ks; simpa using this
        have hln : nks.length ≤ ps.length := by
          have := nodup_len W4.nd fun z hz => (mem z).mp hz
          rw [List.length_map] at this
          exact this
        refine ⟨Fd, kvs, .inr x, .ref d0, rfl, rfl, s5 _ _ W4.hF, small1000 (by omega), fun z hz => ?_, fun hz => ?_⟩
        · obtain ⟨d, hd1, hd2, _⟩ := W4.tb x (W4.val hz)
          rw [hz] at hd1
          cases hd1
          refine ⟨d, kvs, nks, rfl, W4.same s5, fun y => ⟨fun h => .inr ((mem y).mp h), fun h => ?_⟩, hz, s5 _ _ e4⟩
          rcases h with h | h
          · rw [h]; exact W4.val hz
          · exact (mem y).mpr h
        · refine ⟨d0, _, _, rfl, W4.fresh mem n1 hz n5 s5 e5, fun y => ?_, by rw [valV_put, if_pos rfl], ?_⟩
          · rw [List.mem_append, List.mem_singleton, mem y]
            exact or_comm
          · rw [upd_ne (ne_of (s5 _ _ e4) (s5 _ _ W4.hF) (by intro z; cases z))]
            exact s5 _ _ e4
      · rintro σ5 H5 ⟨d, kvs5, nks5, rfl, W5, mem5, hv, hm5⟩
        obtain ⟨d', hd1, hd5, hd0⟩ := W5.tb x ((mem5 x).mpr (.inl rfl))
        rw [hv] at hd1
        cases hd1
        -- without a new parcel
        have skip : tab ps x ≠ [] → (∀ y, y ∈ nks5 ↔ y ∈ ps.map Ent.nm) := fun h y => by
          rw [mem5 y]
          exact ⟨fun z => z.elim (fun e => by rw [e]; exact tab_in h) id, .inr⟩
        refine ⟨_, rfl, d, _, rfl, hd5, _, _, rfl, rfl, _, rfl, ?_⟩
        refine ite2 (fun h => ?_) (fun h => ?_)
        · have hlt : (tab ps x).length < 4 := by have := of_decide_eq_true h; omega
          refine ⟨_, rfl, _, rfl, d, _, rfl, DGet.t hd5 (nat_kI hm5), _, rfl, ?_⟩
          refine ite2 (fun h => ?_) (fun h => ?_)
          · have hnone : valV (tab ps x) (kI ns) = none := by
              cases hq : valV (tab ps x) (kI ns) with
              | none => rfl
              | some v => rw [hq] at h; exact absurd h (by show ¬ ((!true) = true); decide)
            have hout : ns ∉ mksOf ps x := fun hin => by
              have := (valI (tab_keys ps x) ns).mpr hin
              rw [hnone] at this
              cases this
            refine ⟨_, rfl, _, rfl, a, _, _, _, rfl, rfl, W5.sm.seq hA, hz, z, _, rfl, fun n2' n20 n21 => ?_⟩
            refine ⟨_, _, rfl, rfl, ⟨by decide, by decide, by decide⟩, _, _, rfl, rfl, _, _, rfl, rfl, (by show (0 : Int) < 10 ^ 9 + 1; decide), ?_⟩
            obtain ⟨rk, erk⟩ : ∃ rk : Int, rk = n2' % (10 ^ (9 : Int).toNat + 1) := ⟨_, rfl⟩
            refine ⟨_, rfl, _, rfl, d, _, rfl, DPut.t hd5 (nat_kI hm5) (small1000 (by omega)), ?_⟩
            have hput : putK (tab ps x) (kI ns) (.int rk) = tab (ps ++ [⟨x, ns, rk⟩]) x := by
              rw [putK_new _ hnone, tab_snoc, if_pos rfl]
            have dL : d ≠ L := ne_of hd5 W5.hL (by intro z; cases z)
            have dm : m ≠ d := ne_of hm5 hd5 (by intro z; cases z)
            have eH : ∀ v : V, v = .int rk → upd H5 d (.dT (putK (tab ps x) (kI ns) v)) = upd H5 d (.dT (tab (ps ++ [⟨x, ns, rk⟩]) x)) := fun v ev => by rw [ev, hput]
            rw [eH _ (by rw [erk])]
            obtain ⟨H6, eH6⟩ : ∃ H6, H6 = upd H5 d (.dT (tab (ps ++ [⟨x, ns, rk⟩]) x)) := ⟨_, rfl⟩
            rw [← eH6]
            have hd6 : H6 d = some (.dT (tab (ps ++ [⟨x, ns, rk⟩]) x)) := by rw [eH6, upd_same]
            have k56 : ∀ q o, H5 q = some o → q ≠ d → H6 q = some o := fun q o e z => by rw [eH6, upd_ne z]; exact e
            have f56 : ∀ q, H6 q = none → H5 q = none := fun q e => by
              rw [eH6] at e
              exact (free_upd e).2
            have hL6 := k56 _ _ W5.hL dL.symm
            have hm6 := k56 _ _ hm5 dm
            have hg6 : DGet H6 d (.ref m) (some (.int rk)) := by
              have := DGet.t hd6 (nat_kI hm6)
              rw [← hput, valV_put, if_pos rfl] at this
              exact this
            refine ⟨_, rfl, .inl ⟨rfl, _, SqL.of hL6⟩, _, rfl, _, rfl, _, rfl, _, rfl, d, .int rk, rfl, hg6, (by show 0 ≤ sizeLine; decide), fun p4 H7 n7 s7 e7 => ?_⟩
            refine ⟨(by show 0 ≤ sizeLine; decide), fun p5 H8 n8 s8 e8 => ?_⟩
            refine ⟨(by show 0 ≤ sizeLine; decide), fun p6 H9 n9 s9 e9 => ?_⟩
            refine ⟨(by show 0 ≤ sizeLine; decide), fun p7 H10 n10 s10 e10 => ?_⟩
            have s610 := s7.trans (s8.trans (s9.trans s10))
            dsimp only [List.set, tNil]
            refine make_ent (K := K) (C := C) (rk := rk) (nm := x) (mk := ns) (s610 _ _ hm6) (s10 _ _ (s9 _ _ (s8 _ _ e7))) (s10 _ _ (s9 _ _ e8)) (s10 _ _ e9) e10 fun o H11 n11 s11 hE => ?_
            have s611 := s610.trans s11
            have lx := paired_len W5.en
            refine ⟨L, _, _, rfl, rfl, s611 _ _ hL6, small1000 (by omega), ?_⟩
            refine ⟨_, _, _, _, _, kvs5, nks5, xs ++ [.ref o], ps ++ [⟨x, ns, rk⟩], rfl, ?_, fun y => ?_, by rw [List.length_append]; show ps.length + 1 ≤ i + 1; omega⟩
            · refine W5.put h0L (p := ⟨x, ns, rk⟩) hv hout (by rw [← tab_len]; exact hlt) hmk ⟨r.toNat, by omega, hx⟩ (fun q oo e z1 z2 => ?_) ?_ upd_same (hE.keep (.put fun oo eo => ?_))
              · rw [upd_ne z2]
                exact s611 _ _ (k56 _ _ e z1)
              · rw [upd_ne dL]
                exact s611 _ _ hd6
              · rw [s611 _ _ hL6] at eo
                cases eo
                exact ⟨(fun _ _ _ z => by cases z), (fun _ z => by cases z)⟩
            · rw [mem5 y, List.map_append, List.mem_append]
              constructor
              · rintro (h | h)
                · exact .inr (by rw [h]; exact List.mem_singleton.mpr rfl)
                · exact .inl h
              · rintro (h | h)
                · exact .inr h
                · exact .inl (List.mem_singleton.mp h)
          · have hne : tab ps x ≠ [] := fun z => h (by rw [z]; rfl)
            exact ⟨_, _, _, _, _, kvs5, nks5, xs, ps, rfl, W5, skip hne, by omega⟩
        · have hne : tab ps x ≠ [] := fun z => h (by rw [z]; rfl)
          refine iteF ?_
          exact ⟨_, _, _, _, _, kvs5, nks5, xs, ps, rfl, W5, skip hne, by omega⟩
    · rintro σ H3 ⟨u1, u2, u3, u4, u5, kvs, nks, xs, ps, rfl, W, mem, hl⟩
      refine ⟨_, rfl, _, rfl, (by show 2 ≤ sizeLine; decide), fun t H4 n4 s4 e4 => ?_⟩
      exact q t Fd L H4 kvs nks xs ps n1 h0L e4 (W.same s4) mem (by omega)
end
end K02

set_option Elab.async false
set_option linter.all false
set_option maxRecDepth 100000
set_option maxHeartbeats 4000000
namespace K02
open PySem L2 PySem.Spec PyProof.Rows
/-! ### sorted lists -/
theorem rising_pw : ∀ (p : Str) (l : List Str), risingS p l = true → (p :: l).Pairwise (fun a b => a.cps.toList ≤ b.cps.toList)
  | p, [], _ => List.pairwise_singleton _ _
  | p, x :: r, h => by
    have h : (!ltCps x.cps.toList p.cps.toList && risingS x r) = true := h
    obtain ⟨h1, h2⟩ := Bool.and_eq_true_iff.mp h
    have ih := rising_pw x r h2
    have le : p.cps.toList ≤ x.cps.toList := by
      rw [PyProof.Rows.ltCps_eq] at h1
      intro z
      rw [decide_eq_true z] at h1
      cases h1
    refine List.pairwise_cons.mpr ⟨fun y hy => ?_, ih⟩
    rcases List.mem_cons.mp hy with e | hy
    · rw [e]; exact le
    · exact List.le_trans le (List.rel_of_pairwise_cons ih hy)
theorem sorted_pw : ∀ {l : List Str}, sortedS l = true → l.Pairwise (fun a b => a.cps.toList ≤ b.cps.toList)
  | [], _ => .nil
  | x :: r, h => rising_pw x r h
theorem sorted_eq {a b : List Str} (p : a.Perm b) (h1 : sortedS a = true) (h2 : sortedS b = true) : a = b := by
  refine List.Perm.eq_of_pairwise (fun x y _ _ h h' => ?_) (sorted_pw h1) (sorted_pw h2) p
  have e := List.le_antisymm h h'
  obtain ⟨⟨x⟩⟩ := x
  obtain ⟨⟨y⟩⟩ := y
  have e : x = y := e
  rw [e]
theorem adj_pw : ∀ {l : List (List Int)}, adjT l = true → l.Pairwise (fun a b => HT.lexLt a b = true)
  | [], _ => .nil
  | [_], _ => List.pairwise_singleton _ _
  | x :: y :: r, h => by
    obtain ⟨h1, h2⟩ := Bool.and_eq_true_iff.mp h
    have ih := adj_pw (l := y :: r) h2
    refine List.pairwise_cons.mpr ⟨fun z hz => ?_, ih⟩
    rcases List.mem_cons.mp hz with e | hz
    · rw [e]; exact h1
    · exact lexLt_trans _ _ _ h1 (List.rel_of_pairwise_cons ih hz)
theorem adj_eq {a b : List (List Int)} (p : a.Perm b) (h1 : adjT a = true) (h2 : adjT b = true) : a = b := by
  refine List.Perm.eq_of_pairwise (fun x y _ _ h h' => ?_) (adj_pw h1) (adj_pw h2) p
  exact Classical.byContradiction fun ne => by
    have := lexLt_anti x y ne
    rw [h, h'] at this
    cases this
/-! ### lists of tuples as data -/
abbrev dTp (k : List Int) : PySem.W.Dat := .tuple (k.map PySem.W.Dat.int)
theorem dTp_ok (n : Nat) (k : List Int) : PySem.W.kqdOk (n + 1) (dTp k) = true := by
  simp only [PySem.W.kqdOk, List.all_eq_true, List.mem_map]
  rintro d ⟨x, hx, rfl⟩
  cases n <;> rfl
theorem tups_dv {K : PySem.W.Frag} {H : Hp} : ∀ {ys : List V} {ks : List (List Int)}, TupsAt K H ys ks → DVs K H ys (ks.map dTp)
  | _, _, .nil => .nil
  | _, _, .cons ⟨t, e, h, _⟩ r => by
    subst e
    exact .cons (.tup h (dvs_ints _)) (tups_dv r)
theorem tups_ok (ks : List (List Int)) : PySem.W.kqdOk 9 (.list (ks.map dTp)) = true := by
  rw [PySem.W.kqdOk, List.all_eq_true]
  intro d hd
  obtain ⟨k, _, rfl⟩ := List.mem_map.mp hd
  exact dTp_ok 7 k
theorem strs_ok {xs : List Str} (h : ∀ x ∈ xs, TxtOk x) : PySem.W.kqdOk 9 (dS xs) = true := by
  rw [PySem.W.kqdOk, List.all_eq_true]
  intro d hd
  obtain ⟨x, hx, rfl⟩ := List.mem_map.mp hd
  exact h x hx
theorem tab_val {ps : List Ent} (nd : (ps.map keyOf).Nodup) {p : Ent} (hp : p ∈ ps) : valV (tab ps p.nm) (kI p.ns) = some (.int p.rk) := by
  have hP : Paired (fun (kv : List NI × V) (q : Ent) => kv.1 = kI q.ns ∧ kv.2 = .int q.rk) (tab ps p.nm) (ps.filter fun q => decide (q.nm = p.nm)) := by
    unfold tab
    generalize ps.filter (fun q => decide (q.nm = p.nm)) = qs
    induction qs with
    | nil => exact .nil
    | cons q qs ih => exact .cons ⟨rfl, rfl⟩ ih
  obtain ⟨v, q, h1, h2, h3, h4⟩ := paired_valK (key := fun q : Ent => kI q.ns) (fun _ _ z => z.1) hP (k := kI p.ns) (List.mem_map.mpr ⟨p, List.mem_filter.mpr ⟨hp, decide_eq_true rfl⟩, rfl⟩)
  obtain ⟨g1, g2⟩ := List.mem_filter.mp h2
  have e : q = p := nodup_key nd g1 hp (by
    unfold keyOf Ent.ky
    rw [of_decide_eq_true g2, kI_inj h3])
  rw [h1, show v = .int q.rk from h4.2, e]
/-! ### what is due -/
def FoundAt (H : Hp) (F : Addr) (ps : List Ent) : Prop := ∃ (kvs : List (Key × V)) (nks : List Str), H F = some (.dK kvs) ∧ KeysS kvs nks ∧ nks.Nodup ∧ (∀ x ∈ nks, ∃ d, valV kvs (.inr x) = some (.ref d) ∧ H d = some (.dT (tab ps x))) ∧ ∀ x, x ∈ nks ↔ x ∈ ps.map Ent.nm
theorem FoundAt.same {H H' : Hp} {F : Addr} {ps : List Ent} (s : Same H H') (h : FoundAt H F ps) : FoundAt H' F ps := by
  obtain ⟨kvs, nks, h1, h2, h3, h4, h5⟩ := h
  exact ⟨kvs, nks, s _ _ h1, h2, h3, fun x hx => let ⟨d, a, b⟩ := h4 x hx; ⟨d, a, s _ _ b⟩, h5⟩
section
variable {P : Program} {w : World} {K : PySem.W.Frag} {mg : Str → Option Value} {base : Heap}
def spRig (C S : Addr) : Sp := fun vs H Q _ => ∃ (a F b : Addr) (ps : List Ent) (ys : List Str), vs = [.ref a, .ref F, .ref b] ∧ ShelfAt C S H a ps ∧ PsOk ps ∧ (∀ p ∈ ps, Nm p.nm) ∧ FoundAt H F ps ∧ H b = some (.lst (ys.map V.str)) ∧ (∀ y ∈ ys, Nm y) ∧ ys.length ≤ 20 ∧ ∀ H', Same H H' → Q (.bl true) H'
theorem scRig : FnScope ["_law_shelf", "_law_found", "_law_names_here", "_law_name", "_law_makes", "_law_due", "_law_make_here", "_law_one", "_law_ahead"] ["_law_shelf", "_law_found", "_law_names_here"] (defScope sRig) := ⟨rfl, rfl, rfl, by decide +kernel, rfl, by decide +kernel, by decide +kernel⟩
theorem okRig {f C S M NP c1 c2 c3 c4 fSNa fSMo fSPa fRef fAbs fRis : Addr} {fd fdSNa fdSMo fdSPa fdRef fdAbs fdRis : FuncData} (F0 : Fun K "_law_right" "_law_right" sRig f fd) (B : Blt mg) (T : Txt K mg C) (U : TxtS K mg S fSNa fSMo fSPa)
    (FSNa : Fun K "names" "Shelf.names" sSNa fSNa fdSNa) (GSNa : FnOk P w K mg base CX0 1 fSNa fdSNa ["self"] (spSNa C S))
    (FSMo : Fun K "makes_of" "Shelf.makes_of" sSMo fSMo fdSMo) (GSMo : FnOk P w K mg base CX0 1 fSMo fdSMo ["self", "name"] (spSMo C S))
    (FSPa : Fun K "parcel" "Shelf.parcel" sSPa fSPa fdSPa) (GSPa : FnOk P w K mg base (CXR P w) 1 fSPa fdSPa ["self", "name", "make"] (spSPa C S NP))
    (FRef : Fun K "_law_refused" "_law_refused" sRef fRef fdRef) (mRef : mg "_law_refused" = some (.ref fRef)) (GRef : FnOk P w K mg base CX0 2 fRef fdRef ["_law_shelf", "_law_name", "_law_make_here"] (spRef C S))
    (FAbs : Fun K "_law_absent" "_law_absent" sAbs fAbs fdAbs) (mAbs : mg "_law_absent" = some (.ref fAbs)) (GAbs : FnOk P w K mg base CX0 1 fAbs fdAbs ["_law_due", "_law_ahead"] (spAbs K))
    (FRis : Fun K "_law_rising" "_law_rising" sRis fRis fdRis) (mRis : mg "_law_rising" = some (.ref fRis)) (GRis : FnOk P w K mg base CX0 1 fRis fdRis ["_law_makes"] spRis) :
    FnOk P w K mg base CX0 3 f fd ["_law_shelf", "_law_found", "_law_names_here"] (spRig C S) := by
  have bSNa := FSNa.binds (ps := ["self"]) fun _ _ _ _ _ _ us hl => match us, hl with | [_], _ => rfl
  have bSMo := FSMo.binds (ps := ["self", "name"]) fun _ _ _ _ _ _ us hl => match us, hl with | [_, _], _ => rfl
  have bSPa := FSPa.binds (ps := ["self", "name", "make"]) fun _ _ _ _ _ _ us hl => match us, hl with | [_, _, _], _ => rfl
  have bRef := FRef.binds (ps := ["_law_shelf", "_law_name", "_law_make_here"]) fun _ _ _ _ _ _ us hl => match us, hl with | [_, _, _], _ => rfl
  have bAbs := FAbs.binds (ps := ["_law_due", "_law_ahead"]) fun _ _ _ _ _ _ us hl => match us, hl with | [_, _], _ => rfl
  have bRis := FRis.binds (ps := ["_law_makes"]) fun _ _ _ _ _ _ us hl => match us, hl with | [_], _ => rfl
  refine F0.ok scRig (fun vs H Q E h => ?_) (fun cdv A outer s H vs Q E hr h => ?_)
  · obtain ⟨a, F, b, ps, ys, rfl, _⟩ := h
    rfl
  · obtain ⟨a, F, b, ps, ys, rfl, hS, ok, hnm, hF, hb, hys, h20, q⟩ := h
    have hu := hr.units
    have hr1 : Room 1 (A.deeper (PyProof.Rows.envOfC "_law_right" (defScope sRig) s.heap.objs.size f cdv)) := hr.mono (by decide)
    refine ⟨_, (pss_cons (ps_if (pt_cmpR (op_neD hu) (pe_meth0 (pv 0) U.cl U.mN GSNa hr1 bSNa .nil pass0) (pe_callB (call_sortedK rfl) (by rfl) B.sorted PyProof.Rows.boot_sorted (pa_cons (pe_bm0 PySem.F.plainAttrs_dict PySem.F.slot_dict_keys PySem.F.type_dict_keys mt_keys (pv 1)) pa_nil)) (nomark _))
        (pss_one (ps_ret pe_bl)) pss_nil)
        (pss_cons (ps_for PassesOwn.never rfl (pi_list (pv 2)) (pg_name (i := 3) scRig.nd rfl (Or.inl rfl))
        (pss_cons (ps_set (i := 4) scRig.nd rfl (Or.inl rfl) (pe_meth (pv 0) U.cl U.mM GSMo hr1 bSMo .nil pass0 (pa_cons (pv 3) pa_nil)))
          (pss_cons (ps_if (PW.pt (pw_or (pt_not (pt_val (pe_callB call_isi (by rfl) B.isinstance PyProof.Rows.boot_isinstance (pa_cons (pv 4) (pa_cons (pe_bltn (v := .ty "list") rfl B.list PyProof.Rows.boot_list rfl) pa_nil))))) (pw_or1 (pt_not (pt_val (pe_call GRis hr1 rfl mRis FRis.kp bRis .nil pass0 (pa_cons (pv 4) pa_nil)))))))
          (pss_one (ps_ret pe_bl)) pss_nil)
          (pss_cutE (ps_set (i := 5) scRig.nd rfl (Or.inl rfl) (pe_dget2 hu (pv 1) (pv 3) pe_dnewTN ⟨rfl, rfl, rfl, rfl⟩))
          (pss_cons (ps_if (pt_cmpR (op_neD hu) (pe_callB call_sortedT (by rfl) B.sorted PyProof.Rows.boot_sorted (pa_cons (pv 4) pa_nil)) (pe_callB (call_sortedKT rfl) (by rfl) B.sorted PyProof.Rows.boot_sorted (pa_cons (pe_bm0 PySem.F.plainAttrs_dict PySem.F.slot_dict_keys PySem.F.type_dict_keys mt_keysT (pv 5)) pa_nil)) (nomark _))
          (pss_one (ps_ret pe_bl)) pss_nil)
          (pss_cutE (ps_for PassesOwn.never rfl (pi_list (pv 4)) (pg_name (i := 6) scRig.nd rfl (Or.inl rfl))
          (pss_cons (ps_set (i := 7) scRig.nd rfl (Or.inl rfl) (pe_meth (pv 0) U.cl U.mP GSPa hr1 bSPa .nil passN (pa_cons (pv 3) (pa_cons (pv 6) pa_nil))))
            (pss_one (ps_if (pt_cmpR (op_neD hu) (pe_tupN (pa_cons (pe_fld (pv 7) rfl) (pa_cons (pe_fld (pv 7) rfl) (pa_cons (pe_fld (pv 7) rfl) pa_nil)))) (pe_tupN (pa_cons (pv 3) (pa_cons (pv 6) (pa_cons (pe_dget hu (pv 5) (pv 6) (fun _ _ => rfl)) pa_nil)))) (nomark _))
            (pss_one (ps_ret pe_bl)) pss_nil))))
          (pss_cutE (ps_for PassesOwn.never rfl (pi_list (pe_lstN (pa_cons (pe_tupN pa_nil) (pa_cons (pe_tupN (pa_cons pe_int (pa_cons pe_int pa_nil))) pa_nil)))) (pg_name (i := 8) scRig.nd rfl (Or.inl rfl))
          (pss_one (ps_if (pt_not (pt_val (pe_call GRef hr rfl mRef FRef.kp bRef .nil pass0 (pa_cons (pv 0) (pa_cons (pv 3) (pa_cons (pe_call GAbs hr1 rfl mAbs FAbs.kp bAbs .nil pass0 (pa_cons (pv 5) (pa_cons (pv 8) pa_nil))) pa_nil))))))
            (pss_one (ps_ret pe_bl)) pss_nil)))
          (pss_one (ps_expr (pe_bm0 PySem.F.plainAttrs_list PySem.F.slot_list_clear PySem.F.type_list_clear mt_clear (pv 4)))))))))))
        (pss_one (ps_ret pe_bl)))), ?_⟩
    have hS0 := hS
    obtain ⟨dx, dS_, kS, ob, _⟩ := hS0
    have l64 := ok.len
    refine ⟨_, rfl, a, dx, _, rfl, ob, rfl, ?_⟩
    dsimp only [tNil, List.cons_append, List.nil_append]
    refine ⟨a, ps, rfl, hS, l64, fun l1 zs H1 n1 s1 e1 srt nd mem => ?_⟩
    obtain ⟨kvs, nks, hF1, ks, ndk, _, memk⟩ := hF.same s1
    have lk : kvs.length < 64 := by
      have h1 : kvs.length = nks.length := by have := congrArg List.length ks; simpa using this
      have h2 := nodup_len ndk fun z hz => (memk z).mp hz
      rw [List.length_map] at h2
      omega
    refine ⟨_, rfl, .inr (.inr (.inl ⟨rfl, .inl ⟨_, hF1⟩⟩)), F, _, rfl, rfl, hF1, fun p2 H2 n2 s2 e2 => ?_⟩
    refine ⟨p2, F, kvs, nks, rfl, e2, s2 _ _ hF1, ks, lk, fun zs' zp zsrt l3 H3 n3 s3 e3 => ?_⟩
    have hp : zs.Perm zs' := (List.perm_ext_iff_of_nodup nd (zp.nodup_iff.mpr ndk)).mpr fun z => by rw [mem z, zp.mem_iff, memk z]
    have ez := sorted_eq hp srt zsrt
    subst ez
    have okz : ∀ x ∈ zs, TxtOk x := fun x hx => by
      obtain ⟨p, hp, e⟩ := List.mem_map.mp ((mem x).mp hx)
      rw [← e]
      exact (hnm p hp).1
    refine ⟨_, _, dS_dv (SqL.of (s3 _ _ (s2 _ _ e1))), dS_dv (SqL.of e3), strs_ok okz, strs_ok okz, fun bb hbb => ⟨_, rfl, ?_⟩⟩
    have hb' : bb = true := hbb.mpr rfl
    subst hb'
    refine iteF ?_
    have s13 := s1.trans (s2.trans s3)
    refine ⟨_, rfl, b, rfl, ⟨_, SqL.of (s13 _ _ hb)⟩, ?_⟩
    refine for_list (xs := ys.map V.str) (fun i σ H4 => ∃ u1 u2 u3 u4 u5 u6, σ = [some (.ref a), some (.ref F), some (.ref b), u1, u2, u3, u4, u5, u6] ∧ Same H H4) ⟨none, none, none, none, none, none, rfl, s13⟩ ?_ ?_ ?_
    · rintro i σ H4 _ ⟨u1, u2, u3, u4, u5, u6, rfl, s4⟩
      exact SqL.of (s4 _ _ hb)
    · rintro i v σ H4 hv ⟨u1, u2, u3, u4, u5, u6, rfl, s4⟩
      obtain ⟨x, hx, rfl⟩ := List.mem_map.mp (List.mem_of_getElem? hv)
      have hxn := hys x hx
      refine ⟨_, rfl, a, dx, _, rfl, s4 _ _ ob, rfl, _, rfl, a, x, ps, rfl, hS.same s4, ok, fun l ts kz H5 n5 s5 e5 tv pm adj => ?_⟩
      have l4 : ts.length ≤ 4 := by
        have h1 := paired_len tv
        have h2 := pm.length_eq
        have h3 := ok.few x
        omega
      refine ⟨_, rfl, .ref l, .type "list", "list", true, rfl, .lst e5, rfl, _, rfl, iteF ?_⟩
      refine ⟨_, rfl, l, ts, kz, rfl, e5, tv, adj, l4, fun H6 s6 => ⟨_, rfl, iteF ?_⟩⟩
      have s46 := s4.trans (s5.trans s6)
      refine ⟨fun σ7 H7 => ∃ d, σ7 = [some (.ref a), some (.ref F), some (.ref b), some (.str x), some (.ref l), some (.ref d), u4, u5, u6] ∧ Same H6 H7 ∧ H7 d = some (.dT (tab ps x)), ?_, ?_⟩
      · obtain ⟨kvs6, nks6, hF6, ks6, _, tb6, mem6⟩ := hF.same s46
        refine ⟨_, rfl, F, rfl, .inl ⟨_, .inl hF6⟩, _, rfl, fun d0 H7 n7 s7 e7 => ⟨_, DGet.k (k := .inr x) (s7 _ _ hF6), ?_⟩⟩
        by_cases hin : x ∈ nks6
        · obtain ⟨d, hd1, hd2⟩ := tb6 x hin
          rw [hd1]
          exact ⟨d, rfl, s7, s7 _ _ hd2⟩
        · have hz : valV kvs6 (.inr x) = none := valV_out fun hm => by
            rw [ks6] at hm
            obtain ⟨y, hy, e⟩ := List.mem_map.mp hm
            injection e with e
            exact hin (e ▸ hy)
          rw [hz]
          exact ⟨d0, rfl, s7, by rw [tab_nil fun z => hin ((mem6 x).mpr z)]; exact e7⟩
      rintro σ7 H7 ⟨d, rfl, s7, hd⟩
      have s57 := s6.trans s7
      have e7 := s57 _ _ e5
      have tv7 := tv.same s57
      have ndm := mks_nodup ok.nd x
      refine ⟨_, rfl, l, ts, kz, rfl, SqL.of e7, tv7.at, l4, pm.nodup_iff.mpr ndm, fun ts' ks' t' p' a' l9 H9 n9 s9 e9 => ?_⟩
      refine ⟨_, rfl, .inr (.inr (.inl ⟨rfl, .inr ⟨_, s9 _ _ hd⟩⟩)), d, _, rfl, rfl, s9 _ _ hd, fun p10 H10 n10 s10 e10 => ?_⟩
      refine ⟨p10, d, tab ps x, mksOf ps x, rfl, e10, s10 _ _ (s9 _ _ hd), tab_keys ps x, ok.few x, ndm, fun k hk => ?_, fun ts'' ks'' t'' p'' a'' l11 H11 n11 s11 e11 => ?_⟩
      · obtain ⟨p, hp, e⟩ := mks_mem.mp hk
        have h1 := (ok.mks p hp).1
        unfold Ent.ky at e
        injection e with _ e
        intro z
        rw [e, z] at h1
        simp at h1
      have ek := adj_eq (p'.trans (pm.trans p''.symm)) a' a''
      subst ek
      have s911 := s9.trans (s10.trans s11)
      refine ⟨_, _, .lst (SqL.of (s11 _ _ (s10 _ _ e9))) (tups_dv (paired_mapP t' fun _ _ z => let ⟨t, e, h, n⟩ := z; ⟨t, e, same_sqT s911 h, n⟩)), .lst (SqL.of e11) (tups_dv (paired_mapP t'' fun _ _ z => let ⟨t, e, h, n⟩ := z; ⟨t, e, same_sqT s11 h, n⟩)), tups_ok _, tups_ok _, fun bb hbb => ⟨_, rfl, ?_⟩⟩
      have hb' : bb = true := hbb.mpr rfl
      subst hb'
      refine iteF ?_
      have s011 : Same H H11 := s46.trans (s7.trans s911)
      have s511 : Same H5 H11 := s57.trans s911
      have hd11 := s911 _ _ hd
      have l0 : H l = none := s4.free n5
      refine ⟨fun σ8 H8 => ∃ u v, σ8 = [some (.ref a), some (.ref F), some (.ref b), some (.str x), some (.ref l), some (.ref d), u, v, u6] ∧ Same H11 H8, ?_, ?_⟩
      · refine ⟨_, rfl, l, rfl, ⟨_, SqL.of (s511 _ _ e5)⟩, ?_⟩
        refine for_list (xs := ts) (fun j σ8 H8 => ∃ u v, σ8 = [some (.ref a), some (.ref F), some (.ref b), some (.str x), some (.ref l), some (.ref d), u, v, u6] ∧ Same H11 H8) ⟨_, _, rfl, fun _ _ e => e⟩ ?_ ?_ ?_
        · rintro j σ8 H8 _ ⟨u, v, rfl, s8⟩
          exact SqL.of (s8 _ _ (s511 _ _ e5))
        · rintro j v σ8 H8 hv8 ⟨u, v', rfl, s8⟩
          obtain ⟨k, hk, t, rfl, ht, kne⟩ := paired_get' tv hv8
          have ht8 := s8 _ _ (s511 _ _ ht)
          obtain ⟨p0, hp0, ek0⟩ := mks_mem.mp (pm.mem_iff.mp (List.mem_of_getElem? hk))
          have rp : RpOk k := by
            have h1 := ok.mks p0 hp0
            unfold Ent.ky at ek0
            injection ek0 with _ e2
            rw [e2] at h1
            exact ⟨by have := h1.2.1; omega, fun n hn => by have := h1.2.2 n hn; omega⟩
          refine ⟨_, rfl, a, dx, _, rfl, s8 _ _ (s011 _ _ ob), rfl, _, rfl, _, rfl, a, t, x, k, ps, rfl, hS.same (s011.trans s8), hxn, ht8, rp, fun v p H9' hp ek s9' hE => ?_, fun hout => absurd ek0 (hout p0 hp0)⟩
          obtain ⟨o, dy, fl, m, rfl, g1, g2, g3, g4, g5⟩ := hE.same s9'
          refine ⟨_, rfl, o, C, dy, _, _, rfl, g1, T.cl, T.nN, g2, _, rfl, o, C, dy, _, _, rfl, g1, T.cl, T.nM, g3, _, rfl, o, C, dy, _, _, rfl, g1, T.cl, T.nR, g4, (by show 3 ≤ sizeLine; decide), fun q1 H13 n13 s13' e13 => ?_⟩
          unfold Ent.ky at ek
          injection ek with ek1 ek2
          have hg : DGet H13 d (.ref t) (some (.int p.rk)) := by
            have := DGet.t (s13' _ _ (s9' _ _ (s8 _ _ hd11))) (nat_kI (s13' _ _ (s9' _ _ ht8)))
            rw [← ek1, ← ek2, tab_val ok.nd hp] at this
            exact this
          refine ⟨_, rfl, _, rfl, _, rfl, _, rfl, d, .int p.rk, rfl, hg, (by show 3 ≤ sizeLine; decide), fun q2 H14 n14 s14 e14 => ?_⟩
          have okd : PySem.W.kqdOk 9 (.tuple [.str x, dTp k, .int p.rk]) = true := by
            rw [PySem.W.kqdOk]
            simp only [List.all_cons, List.all_nil, Bool.and_true]
            rw [dTp_ok 7 k]
            show (PyData.strOk x && _) = true
            rw [show PyData.strOk x = true from hxn.1]
            rfl
          refine ⟨.tuple [.str x, dTp k, .int p.rk], .tuple [.str x, dTp k, .int p.rk], .tup (SqT.of (s14 _ _ e13)) ?_, .tup (SqT.of e14) (.cons (.str x) (.cons (.tup (SqT.of (s14 _ _ (s13' _ _ (s9' _ _ ht8)))) (dvs_ints k)) (.cons (.int p.rk) .nil))), okd, okd, fun bb hbb => ⟨_, rfl, ?_⟩⟩
          · rw [← ek1, ← ek2]
            exact .cons (.str p.nm) (.cons (.tup (SqT.of (s14 _ _ (s13' _ _ g5))) (dvs_ints p.ns)) (.cons (.int p.rk) .nil))
          have hb' : bb = true := hbb.mpr rfl
          subst hb'
          exact iteF ⟨_, _, rfl, s8.trans (s9'.trans (s13'.trans s14))⟩
        · rintro σ8 H8 z
          exact z
      rintro σ8 H8 ⟨u, v, rfl, s8⟩
      have s08 := s011.trans s8
      refine ⟨fun σ9 H9 => ∃ u v w, σ9 = [some (.ref a), some (.ref F), some (.ref b), some (.str x), some (.ref l), some (.ref d), u, v, w] ∧ Same H8 H9, ?_, ?_⟩
      · refine ⟨(by show 0 ≤ sizeLine; decide), fun p5 H9' n9' s9' e9' => ?_⟩
        refine ⟨(by show 2 ≤ sizeLine; decide), fun p6 H10' n10' s10' e10' => ?_⟩
        refine ⟨(by show 2 ≤ sizeLine; decide), fun p7 H11' n11' s11' e11' => ?_⟩
        have s811 := s9'.trans (s10'.trans s11')
        refine ⟨p7, rfl, ⟨_, SqL.of e11'⟩, ?_⟩
        refine for_list (xs := [.ref p5, .ref p6]) (fun j σ9 H9 => ∃ u v w, σ9 = [some (.ref a), some (.ref F), some (.ref b), some (.str x), some (.ref l), some (.ref d), u, v, w] ∧ Same H11' H9) ⟨_, _, _, rfl, fun _ _ e => e⟩ ?_ ?_ ?_
        · rintro j σ9 H9 _ ⟨u, v, w, rfl, s9⟩
          exact SqL.of (s9 _ _ e11')
        · rintro j v9 σ9 H9 hv9 ⟨u, v, w, rfl, s9⟩
          obtain ⟨t, as, rfl, ht, hl2, hbd⟩ : ∃ (t : Addr) (as : List Int), v9 = .ref t ∧ H9 t = some (.tup (as.map V.int)) ∧ as.length ≤ 2 ∧ ∀ n ∈ as, n = 0 := by
            rcases List.mem_cons.mp (List.mem_of_getElem? hv9) with e | e
            · exact ⟨p5, [], e, s9 _ _ (s11' _ _ (s10' _ _ e9')), by decide, fun n hn => nomatch hn⟩
            · refine ⟨p6, [0, 0], List.mem_singleton.mp e, s9 _ _ (s11' _ _ e10'), by decide, fun n hn => ?_⟩
              rcases List.mem_cons.mp hn with e | e
              · exact e
              · exact List.mem_singleton.mp e
          have s89 := s811.trans s9
          refine ⟨_, rfl, _, rfl, _, rfl, _, rfl, d, t, as, tab ps x, mksOf ps x, rfl, s89 _ _ (s8 _ _ hd11), tab_keys ps x, ok.few x, ht, by omega, fun p n H10 s10 e10 n3 n7 hout => ?_⟩
          have rp : RpOk (as ++ [n]) := ⟨by rw [List.length_append]; show as.length + 1 ≤ 10; omega, fun m hm => by
            rcases List.mem_append.mp hm with h | h
            · rw [hbd m h]; omega
            · rw [List.mem_singleton.mp h]; omega⟩
          refine ⟨a, p, x, as ++ [n], ps, rfl, hS.same (s08.trans (s89.trans s10)), hxn, e10, rp, fun p' hp' ek' => hout (mks_mem.mpr ⟨p', hp', ek'⟩), fun H12 s12 => ⟨_, rfl, iteF ?_⟩⟩
          exact ⟨_, _, _, rfl, s9.trans (s10.trans s12)⟩
        · rintro σ9 H9 ⟨u, v, w, rfl, s9⟩
          exact ⟨_, _, _, rfl, s811.trans s9⟩
      rintro σ9 H9 ⟨u, v, w, rfl, s9⟩
      have hl9 := s9 _ _ (s8 _ _ (s511 _ _ e5))
      refine ⟨_, rfl, .inl ⟨rfl, _, SqL.of hl9⟩, l, _, rfl, rfl, hl9, ?_⟩
      refine ⟨_, _, _, _, _, _, rfl, fun c o e => ?_⟩
      rw [upd_ne (ne_of_none e l0)]
      exact s9 _ _ (s08 _ _ e)
    · rintro σ H4 ⟨u1, u2, u3, u4, u5, u6, rfl, s4⟩
      exact q H4 s4
end
end K02

set_option Elab.async false
set_option linter.all false
set_option maxRecDepth 100000
set_option maxHeartbeats 4000000
namespace K02
open PySem L2 PySem.Spec PyProof.Rows
section
variable {C S L : Addr} {H : Hp} {xs : List V} {o : HO} {ps : List Ent}
theorem keep_lst (hL : H L = some (.lst xs)) {b : Addr} {u : HO} (e : H b = some u) (n : ∀ ys, u ≠ .lst ys) : upd H L o b = some u := by
  rw [upd_ne (fun z => by rw [z, hL] at e; cases e; exact n _ rfl)]
  exact e
theorem ShelfAt.off {a : Addr} (hL : H L = some (.lst xs)) (h : ShelfAt C S H a ps) : ShelfAt C S (upd H L o) a ps := by
  obtain ⟨dx, d, kvs, h1, h2, h3⟩ := h
  refine ⟨dx, d, kvs, keep_lst hL h1 (by intro ys z; cases z), keep_lst hL h2 (by intro ys z; cases z), paired_mapP h3 fun _ _ z => ⟨z.1, z.2.keep fun b u e k => keep_lst hL e ?_⟩⟩
  intro ys z
  rcases k with ⟨_, _, _, k⟩ | ⟨_, k⟩ <;> · rw [z] at k; cases k
theorem FoundAt.off {F : Addr} (hL : H L = some (.lst xs)) (h : FoundAt H F ps) : FoundAt (upd H L o) F ps := by
  obtain ⟨kvs, nks, h1, h2, h3, h4, h5⟩ := h
  refine ⟨kvs, nks, keep_lst hL h1 (by intro ys z; cases z), h2, h3, fun x hx => ?_, h5⟩
  obtain ⟨d, a, b⟩ := h4 x hx
  exact ⟨d, a, keep_lst hL b (by intro ys z; cases z)⟩
end
section
variable {P : Program} {w : World} {K : PySem.W.Frag} {mg : Str → Option Value} {base : Heap}
theorem make_shelf {C S : Addr} {H : Hp} {Q : Addr → Hp → Prop} {E : XK} {L : Addr} {xs : List V} {ps : List Ent} (hL : H L = some (.lst xs)) (hE : Paired (EntAt C H) xs ps) (h100 : ps.length ≤ 100) (nd : (ps.map keyOf).Nodup) (q : ∀ x H', H x = none → Same H H' → ShelfAt C S H' x ps → Q x H') :
    ∀ x dx, H x = none → H dx = none → dx ≠ x → spSIn C S (.ref x :: ([.ref L] ++ [])) (upd (upd H dx (.own x)) x (.ins S dx [])) (fun v H2 => v = .non ∧ Q x H2) E := by
  intro x dx hx hdx nx
  exact ⟨x, dx, L, xs, ps, H, rfl, upd_same, same_upd' (same_upd hdx) hx, hx, hL, hE, h100, nd, fun H' s' h' => ⟨rfl, q x H' hx s' h'⟩⟩
def spLaw (K : PySem.W.Frag) : Sp := fun vs H Q _ => ∃ (a : Addr) (ns : List Int), vs = [.ref a] ∧ SqL K H a (ns.map V.int) ∧ ns.length ≤ 63 ∧ ∀ H', Q (.bl true) H'
theorem scLaw : FnScope ["_law_script", "_law_names_here", "_law_found", "_law_parcels", "_law_shelf"] ["_law_script"] (defScope sLaw) := ⟨rfl, rfl, rfl, by decide +kernel, rfl, by decide +kernel, by decide +kernel⟩
theorem okLaw {f C S fSIn fSNa fSMo fSPa fCel fNam fDra fRef fRig : Addr} {fd fdSIn fdSNa fdCel fdNam fdDra fdRef fdRig : FuncData} (F0 : Fun K "law" "law" sLaw f fd) (B : Blt mg) (U : TxtS K mg S fSNa fSMo fSPa) (MS : Mk K S fSIn)
    (FSIn : Fun K "__init__" "Shelf.__init__" sSIn fSIn fdSIn) (GSIn : FnOk P w K mg base CX0 1 fSIn fdSIn ["self", "parcels"] (spSIn C S))
    (FSNa : Fun K "names" "Shelf.names" sSNa fSNa fdSNa) (GSNa : FnOk P w K mg base CX0 1 fSNa fdSNa ["self"] (spSNa C S))
    (FCel : Fun K "_law_cell_at" "_law_cell_at" sCel fCel fdCel) (mCel : mg "_law_cell_at" = some (.ref fCel)) (GCel : FnOk P w K mg base CX0 1 fCel fdCel ["_law_script", "_law_k"] (spCel K))
    (FNam : Fun K "_law_names" "_law_names" sNam fNam fdNam) (mNam : mg "_law_names" = some (.ref fNam)) (GNam : FnOk P w K mg base CX0 1 fNam fdNam ["_law_cell"] spNam)
    (FDra : Fun K "_law_drawn" "_law_drawn" sDra fDra fdDra) (mDra : mg "_law_drawn" = some (.ref fDra)) (GDra : FnOk P w K mg base CX0 3 fDra fdDra ["_law_script", "_law_names_here"] (spDra K C))
    (FRef : Fun K "_law_refused" "_law_refused" sRef fRef fdRef) (mRef : mg "_law_refused" = some (.ref fRef)) (GRef : FnOk P w K mg base CX0 2 fRef fdRef ["_law_shelf", "_law_name", "_law_make_here"] (spRef C S))
    (FRig : Fun K "_law_right" "_law_right" sRig fRig fdRig) (mRig : mg "_law_right" = some (.ref fRig)) (GRig : FnOk P w K mg base CX0 3 fRig fdRig ["_law_shelf", "_law_found", "_law_names_here"] (spRig C S)) :
    FnOk P w K mg base CX0 4 f fd ["_law_script"] (spLaw K) := by
  have bSIn := FSIn.binds (ps := ["self", "parcels"]) fun _ _ _ _ _ _ us hl => match us, hl with | [_, _], _ => rfl
  have bSNa := FSNa.binds (ps := ["self"]) fun _ _ _ _ _ _ us hl => match us, hl with | [_], _ => rfl
  have bCel := FCel.binds (ps := ["_law_script", "_law_k"]) fun _ _ _ _ _ _ us hl => match us, hl with | [_, _], _ => rfl
  have bNam := FNam.binds (ps := ["_law_cell"]) fun _ _ _ _ _ _ us hl => match us, hl with | [_], _ => rfl
  have bDra := FDra.binds (ps := ["_law_script", "_law_names_here"]) fun _ _ _ _ _ _ us hl => match us, hl with | [_, _], _ => rfl
  have bRef := FRef.binds (ps := ["_law_shelf", "_law_name", "_law_make_here"]) fun _ _ _ _ _ _ us hl => match us, hl with | [_, _, _], _ => rfl
  have bRig := FRig.binds (ps := ["_law_shelf", "_law_found", "_law_names_here"]) fun _ _ _ _ _ _ us hl => match us, hl with | [_, _, _], _ => rfl
  refine F0.ok scLaw (fun vs H Q E h => ?_) (fun cdv A outer s H vs Q E hr h => ?_)
  · obtain ⟨a, is, rfl, _⟩ := h
    rfl
  · obtain ⟨a, is, rfl, hA, h63, q⟩ := h
    have hr1 : Room 1 (A.deeper (PyProof.Rows.envOfC "law" (defScope sLaw) s.heap.objs.size f cdv)) := hr.mono (by decide)
    have hr2 : Room 2 (A.deeper (PyProof.Rows.envOfC "law" (defScope sLaw) s.heap.objs.size f cdv)) := hr.mono (by decide)
    refine ⟨_, (pss_cons (ps_set (i := 1) scLaw.nd rfl (Or.inl rfl) (pe_call GNam hr1 rfl mNam FNam.kp bNam .nil pass0 (pa_cons (pe_call GCel hr1 rfl mCel FCel.kp bCel .nil pass0 (pa_cons (pv 0) (pa_cons pe_int pa_nil))) pa_nil)))
        (pss_cons (ps_asg (pe_call GDra hr rfl mDra FDra.kp bDra .nil pass0 (pa_cons (pv 0) (pa_cons (pv 1) pa_nil))) (pg_tup rfl (pgs_cons (pg_name (i := 2) scLaw.nd rfl (Or.inl rfl)) (pgs_cons (pg_name (i := 3) scLaw.nd rfl (Or.inl rfl)) pgs_nil))))
        (pss_cons (ps_set (i := 4) scLaw.nd rfl (Or.inl rfl) (pe_make MS GSIn hr2 rfl U.mgC bSIn .nil pass0 (pa_cons (pv 3) pa_nil)))
        (pss_cons (ps_expr (pe_bm0 PySem.F.plainAttrs_list PySem.F.slot_list_clear PySem.F.type_list_clear mt_clear (pv 3)))
        (pss_cons (ps_if (PW.pt (pw_or (pt_not (pt_val (pe_call GRig hr rfl mRig FRig.kp bRig .nil pass0 (pa_cons (pv 4) (pa_cons (pv 2) (pa_cons (pv 1) pa_nil)))))) (pw_or1 (pt_not (pt_val (pe_call GRef hr2 rfl mRef FRef.kp bRef .nil pass0 (pa_cons (pv 4) (pa_cons (pe_ix ix_list (pv 1) pe_int (fun _ _ => rfl)) (pa_cons (pe_tupN (pa_cons pe_int pa_nil)) pa_nil)))))))))
        (pss_one (ps_ret pe_bl)) pss_nil)
        (pss_cons (ps_expr (pe_bm0 PySem.F.plainAttrs_list PySem.F.slot_list_clear PySem.F.type_list_clear mt_clear (pe_meth0 (pv 4) U.cl U.mN GSNa hr1 bSNa .nil pass0)))
        (pss_one (ps_ret (pe_call GRig hr rfl mRig FRig.kp bRig .nil pass0 (pa_cons (pv 4) (pa_cons (pv 2) (pa_cons (pe_revN (pv 1)) pa_nil)))))))))))), ?_⟩
    refine ⟨_, rfl, a, 0, is, rfl, by decide, hA, fun c => ?_⟩
    refine ⟨c, rfl, fun b H1 ys n1 s1 e1 h9 hys h8 => ?_⟩
    refine ⟨_, rfl, _, rfl, a, b, is, ys, rfl, s1.seq hA, h63, e1, h9, fun t F L H2 kvs nks xs ps nF nL et W mem l64 => ?_⟩
    refine ⟨t, _, rfl, SqT.of et, rfl, _, _, rfl, _, _, rfl, rfl, ?_⟩
    have hnm : ∀ p ∈ ps, Nm p.nm := fun p hp => by
      obtain ⟨j, _, hj⟩ := W.nmI p hp
      exact hys _ (List.mem_of_getElem? hj)
    have ok : PsOk ps := ⟨W.pk, W.mks, W.few, l64⟩
    have hF : FoundAt H2 F ps := ⟨kvs, nks, W.hF, W.ks, W.nd, fun x hx => let ⟨d, a, b, _⟩ := W.tb x hx; ⟨d, a, b⟩, mem⟩
    refine ⟨_, rfl, ?_⟩
    dsimp only [List.set, tNil]
    refine make_shelf (C := C) (S := S) W.hL W.en (by omega) W.pk fun x H3 n3 s3 hS => ?_
    have hL3 := s3 _ _ W.hL
    have bL : b ≠ L := ne_of_none e1 nL
    refine ⟨_, rfl, .inl ⟨rfl, _, SqL.of hL3⟩, L, _, rfl, rfl, hL3, ?_⟩
    have hS4 : ShelfAt C S (upd H3 L (.lst [])) x ps := hS.off hL3
    have hF4 : FoundAt (upd H3 L (.lst [])) F ps := (hF.same s3).off hL3
    have hb4 : upd H3 L (.lst []) b = some (.lst (ys.map V.str)) := keep_upd (s3 _ _ (W.sm _ _ e1)) bL
    generalize upd H3 L (.lst []) = H4 at hS4 hF4 hb4 ⊢
    refine ⟨_, rfl, _, rfl, _, rfl, x, F, b, ps, ys, rfl, hS4, ok, hnm, hF4, hb4, hys, by omega, fun H5 s5 => ⟨_, rfl, iteF ?_⟩⟩
    obtain ⟨y8, hy8⟩ : ∃ y, ys[8]? = some y := ⟨_, List.getElem?_eq_getElem (by omega)⟩
    have a8 : atI (ys.map V.str) 8 = some (.str y8) := by
      have := atI_nat (xs := ys.map V.str) (show (ys.map V.str)[8]? = some (.str y8) by rw [List.getElem?_map, hy8]; rfl)
      exact this
    refine ⟨_, rfl, _, rfl, b, _, _, _, rfl, rfl, SqL.of (s5 _ _ hb4), a8, (by show 1 ≤ sizeLine; decide), fun t6 H6 n6 s6 e6 => ?_⟩
    refine ⟨x, t6, y8, [0], ps, rfl, hS4.same (s5.trans s6), hys _ (List.mem_of_getElem? hy8), e6, ⟨by decide, fun n hn => by rw [List.mem_singleton.mp hn]; decide⟩, fun p hp ek => ?_, fun H7 s7 => ⟨_, rfl, iteF ?_⟩⟩
    · obtain ⟨j, hj, hjy⟩ := W.nmI p hp
      unfold Ent.ky at ek
      injection ek with ek1 _
      rw [ek1] at hjy
      exact h8 y8 j hy8 hj hjy
    have s47 := s5.trans (s6.trans s7)
    have hS7 := hS4.same s47
    have hS7' := hS7
    obtain ⟨dx, dS_, kS, ob, _⟩ := hS7'
    refine ⟨_, rfl, x, dx, _, rfl, ob, rfl, ?_⟩
    dsimp only [tNil, List.cons_append, List.nil_append]
    refine ⟨x, ps, rfl, hS7, l64, fun l zs H8 n8 s8 e8 _ _ _ => ?_⟩
    refine ⟨.inl ⟨rfl, _, SqL.of e8⟩, l, _, rfl, rfl, e8, ?_⟩
    have s79 : Same H7 (upd H8 l (.lst [])) := fun c o e => keep_upd (s8 _ _ e) (ne_of_none e n8)
    have s49 := s47.trans s79
    generalize upd H8 l (.lst []) = H9 at s79 s49 ⊢
    refine ⟨_, rfl, _, rfl, _, rfl, b, _, rfl, SqL.of (s49 _ _ hb4), fun b2 H10 n10 s10 e10 => ?_⟩
    rw [strs_rev] at e10
    exact ⟨x, F, b2, ps, ys.reverse, rfl, hS4.same (s49.trans s10), ok, hnm, hF4.same (s49.trans s10), e10, fun y hy => hys y (List.mem_reverse.mp hy), by rw [List.length_reverse]; omega, fun H11 _ => q H11⟩
end
end K02

set_option Elab.async false
set_option linter.all false
set_option maxRecDepth 100000
set_option maxHeartbeats 8000000
namespace K02
open PySem L2
def ClsC (K : PySem.W.Frag) (mg : Str → Option Value) : Prop := ∃ C fPIn fdPIn, Txt K mg C ∧ Mk K C fPIn ∧ Fun K "__init__" "Parcel.__init__" sPIn fPIn fdPIn
theorem clsC_mk {K : PySem.W.Frag} {h : Heap} {mg : Str → Option Value} {C f0 : Addr} {od0 an0 : Option Addr} {sl0 : Array (Option Value)} {oc0 kV0 dc0 pm0 cd0 ct0 : Value} (X : K.In h) (G : h.Ns mainGlobals mg)
    (aC : PySem.W.nsIn K mainGlobals "Parcel" = some (some (.ref C))) (a0 : PySem.W.findIn K (.ref C) "__init__" = some (some (.ref f0))) (i0 : PySem.W.isFn K (.ref f0) = true)
    (l0 : K.lookup f0 = some ⟨oc0, od0, .func (PySem.W.fnOf "__init__" "Parcel.__init__" (defArgs sPIn) (defBody sPIn) (defScope sPIn) .none kV0 dc0 pm0 an0 cd0 ct0), sl0⟩) (c0 : PySem.W.codeIn K cd0 "Parcel.__init__" = true) (k0 : PySem.W.keepIn K (.ref f0) = true)
    (pg : PySem.W.plainGet K C Str.empty = true) (hd : PySem.W.hasDictIn K C = true) (po : PySem.W.plainOver K C = true) (sa : PySem.W.findIn K (.ref C) "__setattr__" = some (some (.builtin "object.__setattr__"))) (mk : PySem.W.makesIn K C = true) (kc : PySem.W.keepIn K (.ref C) = true) (n0 : PySem.W.findIn K (.ref C) "name" = some none) (n1 : PySem.W.findIn K (.ref C) "make" = some none) (n2 : PySem.W.findIn K (.ref C) "rank" = some none) (n3 : PySem.W.findIn K (.ref C) "files" = some none) (n4 : PySem.W.findIn K (.ref C) "needs" = some none) (n5 : PySem.W.findIn K (.ref C) "shuts" = some none) (n6 : PySem.W.findIn K (.ref C) "offers" = some none) : ClsC K mg :=
  ⟨C, f0, _, ⟨⟨pg, hd, po, sa⟩, n0, n1, n2, n3, n4, n5, n6, PySem.W.mg_of X G aC⟩, ⟨mk, a0, i0, kc⟩, fun_mk l0 c0 k0⟩
def ClsS (K : PySem.W.Frag) (mg : Str → Option Value) : Prop := ∃ S fSIn fdSIn fSNa fdSNa fSMo fdSMo fSPa fdSPa, TxtS K mg S fSNa fSMo fSPa ∧ Mk K S fSIn ∧ Fun K "__init__" "Shelf.__init__" sSIn fSIn fdSIn ∧ Fun K "names" "Shelf.names" sSNa fSNa fdSNa ∧ Fun K "makes_of" "Shelf.makes_of" sSMo fSMo fdSMo ∧ Fun K "parcel" "Shelf.parcel" sSPa fSPa fdSPa
theorem clsS_mk {K : PySem.W.Frag} {h : Heap} {mg : Str → Option Value} {S f0 f1 f2 f3 : Addr} {od0 an0 : Option Addr} {sl0 : Array (Option Value)} {oc0 kV0 dc0 pm0 cd0 ct0 : Value} {od1 an1 : Option Addr} {sl1 : Array (Option Value)} {oc1 kV1 dc1 pm1 cd1 ct1 : Value} {od2 an2 : Option Addr} {sl2 : Array (Option Value)} {oc2 kV2 dc2 pm2 cd2 ct2 : Value} {od3 an3 : Option Addr} {sl3 : Array (Option Value)} {oc3 kV3 dc3 pm3 cd3 ct3 : Value} (X : K.In h) (G : h.Ns mainGlobals mg)
    (aC : PySem.W.nsIn K mainGlobals "Shelf" = some (some (.ref S))) (a0 : PySem.W.findIn K (.ref S) "__init__" = some (some (.ref f0))) (i0 : PySem.W.isFn K (.ref f0) = true)
    (l0 : K.lookup f0 = some ⟨oc0, od0, .func (PySem.W.fnOf "__init__" "Shelf.__init__" (defArgs sSIn) (defBody sSIn) (defScope sSIn) .none kV0 dc0 pm0 an0 cd0 ct0), sl0⟩) (c0 : PySem.W.codeIn K cd0 "Shelf.__init__" = true) (k0 : PySem.W.keepIn K (.ref f0) = true) (a1 : PySem.W.findIn K (.ref S) "names" = some (some (.ref f1))) (i1 : PySem.W.isFn K (.ref f1) = true)
    (l1 : K.lookup f1 = some ⟨oc1, od1, .func (PySem.W.fnOf "names" "Shelf.names" (defArgs sSNa) (defBody sSNa) (defScope sSNa) .none kV1 dc1 pm1 an1 cd1 ct1), sl1⟩) (c1 : PySem.W.codeIn K cd1 "Shelf.names" = true) (k1 : PySem.W.keepIn K (.ref f1) = true) (a2 : PySem.W.findIn K (.ref S) "makes_of" = some (some (.ref f2))) (i2 : PySem.W.isFn K (.ref f2) = true)
    (l2 : K.lookup f2 = some ⟨oc2, od2, .func (PySem.W.fnOf "makes_of" "Shelf.makes_of" (defArgs sSMo) (defBody sSMo) (defScope sSMo) .none kV2 dc2 pm2 an2 cd2 ct2), sl2⟩) (c2 : PySem.W.codeIn K cd2 "Shelf.makes_of" = true) (k2 : PySem.W.keepIn K (.ref f2) = true) (a3 : PySem.W.findIn K (.ref S) "parcel" = some (some (.ref f3))) (i3 : PySem.W.isFn K (.ref f3) = true)
    (l3 : K.lookup f3 = some ⟨oc3, od3, .func (PySem.W.fnOf "parcel" "Shelf.parcel" (defArgs sSPa) (defBody sSPa) (defScope sSPa) .none kV3 dc3 pm3 an3 cd3 ct3), sl3⟩) (c3 : PySem.W.codeIn K cd3 "Shelf.parcel" = true) (k3 : PySem.W.keepIn K (.ref f3) = true)
    (pg : PySem.W.plainGet K S Str.empty = true) (hd : PySem.W.hasDictIn K S = true) (po : PySem.W.plainOver K S = true) (sa : PySem.W.findIn K (.ref S) "__setattr__" = some (some (.builtin "object.__setattr__"))) (mk : PySem.W.makesIn K S = true) (kc : PySem.W.keepIn K (.ref S) = true) (n0 : PySem.W.findIn K (.ref S) "shelved" = some none) : ClsS K mg :=
  ⟨S, f0, _, f1, _, f2, _, f3, _, ⟨⟨pg, hd, po, sa⟩, n0, ⟨a1, i1, k1⟩, ⟨a2, i2, k2⟩, ⟨a3, i3, k3⟩, PySem.W.mg_of X G aC⟩, ⟨mk, a0, i0, kc⟩, fun_mk l0 c0 k0, fun_mk l1 c1 k1, fun_mk l2 c2 k2, fun_mk l3 c3 k3⟩
def ErrC (K : PySem.W.Frag) (mg : Str → Option Value) : Prop := ∃ M NP c1 c2 c3 c4, Errs K mg M NP c1 c2 c3 c4
theorem err_mk {K : PySem.W.Frag} {h : Heap} {mg : Str → Option Value} {M NP c1 c2 c3 c4 : Addr} (X : K.In h) (G : h.Ns mainGlobals mg) (nM : PySem.W.nsIn K mainGlobals "MendError" = some (some (.ref M))) (nNP : PySem.W.nsIn K mainGlobals "NoParcel" = some (some (.ref NP))) (nc1 : PySem.W.nsIn K mainGlobals "NoName" = some (some (.ref c1))) (nc2 : PySem.W.nsIn K mainGlobals "NoPath" = some (some (.ref c2))) (nc3 : PySem.W.nsIn K mainGlobals "NoRow" = some (some (.ref c3))) (nc4 : PySem.W.nsIn K mainGlobals "NoShelf" = some (some (.ref c4))) (exc : PySem.W.excIn K NP [.type "ValueError", .type "Exception", .type "BaseException", .type "object"] "ValueError.__new__" = true) (ga : PySem.W.findIn K (.ref NP) "__getattribute__" = some (some (.builtin "BaseException.__getattribute__"))) (gh : PySem.W.findIn K (.ref NP) "__getattr__" = some none) (cls : PySem.W.findIn K (.ref NP) "__class__" = some (some (.builtin "object.__class__"))) (spc : PySem.W.specialIn K (.builtin "object.__class__") "__get__" = some (some (.builtin "getset_descriptor.__get__"))) (tak : PySem.W.takesIn K (.builtin "object.__class__") = some true) (mro : PySem.W.mroIn K NP (.type "object") = some true) (mrb : PySem.W.mroIn K NP (.type "BaseException") = some true) (k1 : PySem.W.kitOne K (.ref NP) (.ref c1) = some false) (k2 : PySem.W.kitOne K (.ref NP) (.ref c2) = some false) (k3 : PySem.W.kitOne K (.ref NP) (.ref c3) = some false) (k4 : PySem.W.kitOne K (.ref NP) (.ref c4) = some false) (kP : PySem.W.kitOne K (.ref NP) (.ref NP) = some true) (kV : PySem.W.kitOne K (.ref NP) (.type "ValueError") = some true) (ex : PySem.W.exmOne K (.ref NP) (.ref M) = some true) : ErrC K mg :=
  ⟨M, NP, c1, c2, c3, c4, ⟨exc, ga, gh, cls, spc, tak, mro, mrb⟩, PySem.W.mg_of X G nM, PySem.W.mg_of X G nNP, PySem.W.mg_of X G nc1, PySem.W.mg_of X G nc2, PySem.W.mg_of X G nc3, PySem.W.mg_of X G nc4, k1, k2, k3, k4, kP, kV, ex⟩
theorem bltAt_mk {K : PySem.W.Frag} {h : Heap} {mg : Str → Option Value} (X : K.In h) (G : h.Ns mainGlobals mg) (z0 : PySem.W.nsIn K mainGlobals "range" = some none) (z1 : PySem.W.nsIn K mainGlobals "len" = some none) (z2 : PySem.W.nsIn K mainGlobals "list" = some none) (z3 : PySem.W.nsIn K mainGlobals "tuple" = some none) (z4 : PySem.W.nsIn K mainGlobals "sorted" = some none) (z5 : PySem.W.nsIn K mainGlobals "set" = some none) (z6 : PySem.W.nsIn K mainGlobals "min" = some none) (z7 : PySem.W.nsIn K mainGlobals "isinstance" = some none) (z8 : PySem.W.nsIn K mainGlobals "ValueError" = some none) : Blt mg :=
  ⟨PySem.W.mg_none_of X G z0, PySem.W.mg_none_of X G z1, PySem.W.mg_none_of X G z2, PySem.W.mg_none_of X G z3, PySem.W.mg_none_of X G z4, PySem.W.mg_none_of X G z5, PySem.W.mg_none_of X G z6, PySem.W.mg_none_of X G z7, PySem.W.mg_none_of X G z8⟩
theorem all_mk {P : Program} {w : World} {K : PySem.W.Frag} {mg : Str → Option Value} {fa : Addr} (hfa : mg "law" = some (.ref fa)) (B : Blt mg) (CC : ClsC K mg) (CS : ClsS K mg) (CR : ErrC K mg) (dCel : DefAt K mg "_law_cell_at" sCel) (dMix : DefAt K mg "_law_mixed" sMix) (dNam : DefAt K mg "_law_names" sNam) (dMak : DefAt K mg "_law_make" sMak) (dDra : DefAt K mg "_law_drawn" sDra) (dRef : DefAt K mg "_law_refused" sRef) (dAbs : DefAt K mg "_law_absent" sAbs) (dRis : DefAt K mg "_law_rising" sRis) (dRig : DefAt K mg "_law_right" sRig) (dLaw : DefAt K mg "law" sLaw) :
    ∃ fd : FuncData, (∀ (s : Shared) (v : Value), BindsTo s fd ⟨[v], []⟩ [("_law_script", v)]) ∧ ∀ base : Heap, K.In base → base.Ns mainGlobals mg → FnOk P w K mg base CX0 4 fa fd ["_law_script"] (spLaw K) := by
  obtain ⟨C, fPIn, fdPIn, TC, MC, FPIn⟩ := CC
  obtain ⟨S, fSIn, fdSIn, fSNa, fdSNa, fSMo, fdSMo, fSPa, fdSPa, TS, MS, FSIn, FSNa, FSMo, FSPa⟩ := CS
  obtain ⟨M, NP, c1, c2, c3, c4, R⟩ := CR
  obtain ⟨fCel, fdCel, mCel, FCel, _⟩ := dCel
  obtain ⟨fMix, fdMix, mMix, FMix, _⟩ := dMix
  obtain ⟨fNam, fdNam, mNam, FNam, _⟩ := dNam
  obtain ⟨fMak, fdMak, mMak, FMak, _⟩ := dMak
  obtain ⟨fDra, fdDra, mDra, FDra, _⟩ := dDra
  obtain ⟨fRef, fdRef, mRef, FRef, _⟩ := dRef
  obtain ⟨fAbs, fdAbs, mAbs, FAbs, _⟩ := dAbs
  obtain ⟨fRis, fdRis, mRis, FRis, _⟩ := dRis
  obtain ⟨fRig, fdRig, mRig, FRig, _⟩ := dRig
  obtain ⟨fLaw, fdLaw, mLaw, FLaw, _⟩ := dLaw
  have e := hfa.symm.trans mLaw
  cases e
  obtain ⟨oc, od, kV, doc, pm, an, cdv, ct, osl, rfl, lk, hcd⟩ := id FLaw.ex
  refine ⟨PySem.W.fnOf "law" "law" (defArgs sLaw) (defBody sLaw) (defScope sLaw) .none kV doc pm an cdv ct, fun s v => .of_eq rfl, fun base _ _ => ?_⟩
  have GSPa : FnOk P w K mg base (CXR P w) 1 fSPa fdSPa ["self", "name", "make"] (spSPa C S NP) := okSPa FSPa TS R.xc R.mP
  have GRef : FnOk P w K mg base CX0 2 fRef fdRef ["_law_shelf", "_law_name", "_law_make_here"] (spRef C S) := okRef FRef B R TS FSPa GSPa
  have GSNa : FnOk P w K mg base CX0 1 fSNa fdSNa ["self"] (spSNa C S) := okSNa FSNa B TS
  exact okLaw FLaw B TS MS FSIn (okSIn FSIn TC TS) FSNa GSNa FCel mCel (okCel FCel B) FNam mNam (okNam FNam B) FDra mDra (okDra FDra B TC MC FPIn (okPIn FPIn TC B.list) FMix mMix (okMix FMix) FCel mCel (okCel FCel B) FMak mMak (okMak FMak B)) FRef mRef GRef FRig mRig (okRig (M := M) (c1 := c1) (c2 := c2) (c3 := c3) (c4 := c4) FRig B TC TS FSNa GSNa FSMo (okSMo FSMo B TS) FSPa GSPa FRef mRef GRef FAbs mAbs (okAbs FAbs) FRis mRis (okRis FRis B))
theorem walk {l : PySem.W.OpenLaw} {q : Program} {loose : List Str} {XP : (Str → Option Value) → Heap → Prop} {YP : World → Heap → Prop} {d : DefRec} {K : Params → PySem.W.Frag} (hn : l.most = some 63) (hdf : d.params.defaults = [])
    (hY : ∀ (w : World) (h : Heap), YP w h → (K w.params).In h)
    (F : ∀ (w : World) (mg : Str → Option Value) (fa : Addr) (h : Heap), (K w.params).In h → h.Ns mainGlobals mg → mg d.name = some (.ref fa) →
      ∃ fd : FuncData, (∀ (s : Shared) (u : Value), BindsTo s fd ⟨[u], []⟩ [("_law_script", u)]) ∧ ∀ base : Heap, (K w.params).In base → base.Ns mainGlobals mg → FnOk l.prog w (K w.params) mg base CX0 4 fa fd ["_law_script"] (spLaw (K w.params))) :
    PySem.W.WalkO q loose XP YP l.row.toRowW d [] (fun f vs => PySem.call f vs) :=
  L2.walk_of (n := 63) (k := 4) (x := "_law_script") (CX := fun _ => CX0) (sp := fun w => spLaw (K w.params)) hn (by decide) hdf ⟨rfl, by decide, by decide, rfl⟩ hY F (fun _ _ a ns hl _ hS => ⟨a, ns, rfl, hS, hl, fun _ => rfl⟩) fun _ _ _ _ _ z => z
end K02
open PySem PySem.W PyProof.Rows
set_option maxRecDepth 100000 in
set_option maxHeartbeats 0 in
theorem PySem.Challenge.cw_parcelmend_k02_a_shelf_holds : PySem.Challenge.rw_parcelmend_k02_a_shelf.Holds := by
  w_on; o_law; k_head; (case hw => w_witness2)
  k_fill
  refine K02.walk (l := PySem.Challenge.rw_parcelmend_k02_a_shelf) rfl rfl (fun w h Y => PySem.W.kIn_of Y) ?F
  case F =>
    intro w mg fa h KX G hmg
    refine' K02.all_mk hmg (K02.bltAt_mk KX G ?kk_z0 ?kk_z1 ?kk_z2 ?kk_z3 ?kk_z4 ?kk_z5 ?kk_z6 ?kk_z7 ?kk_z8) (K02.clsC_mk KX G ?kk_CaC ?kk_Ca0 ?kk_Ci0 ?kk_Cl0 ?kk_Cc0 ?kk_Ck0 ?kk_Cpg ?kk_Chd ?kk_Cpo ?kk_Csa ?kk_Cmk ?kk_Ckc ?kk_Cn0 ?kk_Cn1 ?kk_Cn2 ?kk_Cn3 ?kk_Cn4 ?kk_Cn5 ?kk_Cn6) (K02.clsS_mk KX G ?kk_SaC ?kk_Sa0 ?kk_Si0 ?kk_Sl0 ?kk_Sc0 ?kk_Sk0 ?kk_Sa1 ?kk_Si1 ?kk_Sl1 ?kk_Sc1 ?kk_Sk1 ?kk_Sa2 ?kk_Si2 ?kk_Sl2 ?kk_Sc2 ?kk_Sk2 ?kk_Sa3 ?kk_Si3 ?kk_Sl3 ?kk_Sc3 ?kk_Sk3 ?kk_Spg ?kk_Shd ?kk_Spo ?kk_Ssa ?kk_Smk ?kk_Skc ?kk_Sn0) (K02.err_mk KX G ?kk_EnM ?kk_EnNP ?kk_Enc1 ?kk_Enc2 ?kk_Enc3 ?kk_Enc4 ?kk_Eexc ?kk_Ega ?kk_Egh ?kk_Ecls ?kk_Espc ?kk_Etak ?kk_Emro ?kk_Emrb ?kk_Ek1 ?kk_Ek2 ?kk_Ek3 ?kk_Ek4 ?kk_EkP ?kk_EkV ?kk_Eex)
      (L2.defAt_mk KX G ?kk_a0 ?kk_l0 ?kk_c0 ?kk_k0)
      (L2.defAt_mk KX G ?kk_a1 ?kk_l1 ?kk_c1 ?kk_k1)
      (L2.defAt_mk KX G ?kk_a2 ?kk_l2 ?kk_c2 ?kk_k2)
      (L2.defAt_mk KX G ?kk_a3 ?kk_l3 ?kk_c3 ?kk_k3)
      (L2.defAt_mk KX G ?kk_a4 ?kk_l4 ?kk_c4 ?kk_k4)
      (L2.defAt_mk KX G ?kk_a5 ?kk_l5 ?kk_c5 ?kk_k5)
      (L2.defAt_mk KX G ?kk_a6 ?kk_l6 ?kk_c6 ?kk_k6)
      (L2.defAt_mk KX G ?kk_a7 ?kk_l7 ?kk_c7 ?kk_k7)
      (L2.defAt_mk KX G ?kk_a8 ?kk_l8 ?kk_c8 ?kk_k8)
      (L2.defAt_mk KX G ?kk_a9 ?kk_l9 ?kk_c9 ?kk_k9)
    (case kk_z0 => k_is); (case kk_z1 => k_is); (case kk_z2 => k_is); (case kk_z3 => k_is); (case kk_z4 => k_is); (case kk_z5 => k_is); (case kk_z6 => k_is); (case kk_z7 => k_is); (case kk_z8 => k_is)
    (case kk_CaC => k_is); (case kk_Ca0 => k_is); (case kk_Ci0 => k_is); (case kk_Cl0 => k_is); (case kk_Cc0 => k_is); (case kk_Ck0 => k_is); (case kk_Cpg => k_is); (case kk_Chd => k_is); (case kk_Cpo => k_is); (case kk_Csa => k_is); (case kk_Cmk => k_is); (case kk_Ckc => k_is); (case kk_Cn0 => k_is); (case kk_Cn1 => k_is); (case kk_Cn2 => k_is); (case kk_Cn3 => k_is); (case kk_Cn4 => k_is); (case kk_Cn5 => k_is); (case kk_Cn6 => k_is)
    (case kk_SaC => k_is); (case kk_Sa0 => k_is); (case kk_Si0 => k_is); (case kk_Sl0 => k_is); (case kk_Sc0 => k_is); (case kk_Sk0 => k_is); (case kk_Sa1 => k_is); (case kk_Si1 => k_is); (case kk_Sl1 => k_is); (case kk_Sc1 => k_is); (case kk_Sk1 => k_is); (case kk_Sa2 => k_is); (case kk_Si2 => k_is); (case kk_Sl2 => k_is); (case kk_Sc2 => k_is); (case kk_Sk2 => k_is); (case kk_Sa3 => k_is); (case kk_Si3 => k_is); (case kk_Sl3 => k_is); (case kk_Sc3 => k_is); (case kk_Sk3 => k_is); (case kk_Spg => k_is); (case kk_Shd => k_is); (case kk_Spo => k_is); (case kk_Ssa => k_is); (case kk_Smk => k_is); (case kk_Skc => k_is); (case kk_Sn0 => k_is)
    (case kk_EnM => k_is); (case kk_EnNP => k_is); (case kk_Enc1 => k_is); (case kk_Enc2 => k_is); (case kk_Enc3 => k_is); (case kk_Enc4 => k_is); (case kk_Eexc => k_exc); (case kk_Ega => k_is); (case kk_Egh => k_is); (case kk_Ecls => k_is); (case kk_Espc => k_is); (case kk_Etak => k_is); (case kk_Emro => k_is); (case kk_Emrb => k_is); (case kk_Ek1 => kit_is); (case kk_Ek2 => kit_is); (case kk_Ek3 => kit_is); (case kk_Ek4 => kit_is); (case kk_EkP => kit_is); (case kk_EkV => kit_is); (case kk_Eex => kts_exm)
    (case kk_a0 => k_is); (case kk_l0 => k_is); (case kk_c0 => k_is); (case kk_k0 => k_is)
    (case kk_a1 => k_is); (case kk_l1 => k_is); (case kk_c1 => k_is); (case kk_k1 => k_is)
    (case kk_a2 => k_is); (case kk_l2 => k_is); (case kk_c2 => k_is); (case kk_k2 => k_is)
    (case kk_a3 => k_is); (case kk_l3 => k_is); (case kk_c3 => k_is); (case kk_k3 => k_is)
    (case kk_a4 => k_is); (case kk_l4 => k_is); (case kk_c4 => k_is); (case kk_k4 => k_is)
    (case kk_a5 => k_is); (case kk_l5 => k_is); (case kk_c5 => k_is); (case kk_k5 => k_is)
    (case kk_a6 => k_is); (case kk_l6 => k_is); (case kk_c6 => k_is); (case kk_k6 => k_is)
    (case kk_a7 => k_is); (case kk_l7 => k_is); (case kk_c7 => k_is); (case kk_k7 => k_is)
    (case kk_a8 => k_is); (case kk_l8 => k_is); (case kk_c8 => k_is); (case kk_k8 => k_is)
    (case kk_a9 => k_is); (case kk_l9 => k_is); (case kk_c9 => k_is); (case kk_k9 => k_is)
