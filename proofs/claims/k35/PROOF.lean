import PyProof.Rows.All
import Wide.All
import OpenK.AllK
import Wide.FinOn
import Lean
import PyProof.EqAt
import PyProof.EqKinds
import PyProof.TupleCall
import KE.KRevSl
import KE.KDictSum
import KE.KEqDict
import PyProof.P3Eq
import KE.KTryMore
import KE.KSortTup
import PyProof.NeKinds
import KE.KIntText
import PyProof.DictValues
import PyProof.DictWalks
import KE.KItemsList
import PyProof.StrLawsTight
import PyProof.StrLawsIdx
import PyProof.Rows.StrSplitJoin
import PySem.Challenge.RW_parcelmend_k35_what_is_no_stand
import KE.RegKIsAll
import KE.RegKTryMore


set_option Elab.async false
set_option linter.all false
set_option maxRecDepth 100000
namespace L2
open PySem PySem.Spec PyProof.Rows
abbrev Key := Sum Int Str
def keyIs : Key → Value → Bool
  | .inl k, v => Value.isInt k v
  | .inr x, v => Value.isStrOf x v
def keyH (w : World) : Key → Int
  | .inl k => hashInt k
  | .inr x => hashStr w x
theorem keyIs_shape : ∀ {k : Key} {v : Value}, keyIs k v = true → (∃ i t, k = Sum.inl i ∧ v = Value.int i t) ∨ (∃ x t, k = Sum.inr x ∧ v = Value.str x t)
  | .inl i, v, h => by
    obtain ⟨t, e⟩ := Value.isInt_shape (k := i) (v := v) h
    exact .inl ⟨i, t, rfl, e⟩
  | .inr x, v, h => by
    obtain ⟨t, e⟩ := Value.isStrOf_shape (x := x) (v := v) h
    exact .inr ⟨x, t, rfl, e⟩
theorem keyIs_int (i : Int) (t : Tok) : keyIs (.inl i) (.int i t) = true := by simp [keyIs, Value.isInt]
theorem keyIs_str (x : Str) (t : Tok) : keyIs (.inr x) (.str x t) = true := by simp [keyIs, Value.isStrOf]
theorem key_ll (a b : Int) : decide ((Sum.inl a : Key) = Sum.inl b) = (a == b) := by
  by_cases e : a = b
  · subst e; simp
  · have h : ¬ (Sum.inl a : Key) = Sum.inl b := fun q => e (Sum.inl.inj q)
    rw [decide_eq_false h]
    exact (beq_eq_false_iff_ne.mpr e).symm
theorem key_rr (a b : Str) : decide ((Sum.inr a : Key) = Sum.inr b) = decide (a = b) := by
  by_cases e : a = b
  · subst e; simp
  · have h : ¬ (Sum.inr a : Key) = Sum.inr b := fun q => e (Sum.inr.inj q)
    rw [decide_eq_false h, decide_eq_false e]
theorem key_lr (a : Int) (b : Str) : decide ((Sum.inl a : Key) = Sum.inr b) = false := decide_eq_false (fun q => nomatch q)
theorem key_rl (a : Str) (b : Int) : decide ((Sum.inr a : Key) = Sum.inl b) = false := decide_eq_false (fun q => nomatch q)
def mixKind (prog : Program) (w : World) : PySem.KeyKind prog w Key where
  is := keyIs
  hash := keyH w
  inj := fun v a b ha hb => by
    rcases keyIs_shape ha with ⟨i, t, rfl, rfl⟩ | ⟨x, t, rfl, rfl⟩
    · rcases keyIs_shape hb with ⟨j, u, rfl, e⟩ | ⟨y, u, rfl, e⟩
      · injection e with e1 _; rw [e1]
      · exact nomatch e
    · rcases keyIs_shape hb with ⟨j, u, rfl, e⟩ | ⟨y, u, rfl, e⟩
      · exact nomatch e
      · injection e with e1 _; rw [e1]
  byValue := fun k v h => by
    rcases keyIs_shape h with ⟨i, t, rfl, rfl⟩ | ⟨x, t, rfl, rfl⟩ <;> rfl
  pyHash := fun hv h => by
    rcases keyIs_shape hv with ⟨i, t, rfl, rfl⟩ | ⟨x, t, rfl, rfl⟩
    · exact wpAny_pyHash_int h
    · exact wpAny_pyHash_str h
  eqBool := fun hu hv h => by
    rcases keyIs_shape hu with ⟨i, t, rfl, rfl⟩ | ⟨x, t, rfl, rfl⟩
    · rcases keyIs_shape hv with ⟨j, u, rfl, rfl⟩ | ⟨y, u, rfl, rfl⟩
      · rw [key_ll] at h; exact wpAny_eqBool_int h
      · rw [key_lr] at h; exact SeqAt.EqAt.int_str i t y u _ _ _ _ h
    · rcases keyIs_shape hv with ⟨j, u, rfl, rfl⟩ | ⟨y, u, rfl, rfl⟩
      · rw [key_rl] at h; exact SeqAt.EqAt.str_int x t j u _ _ _ _ h
      · rw [key_rr] at h; exact wpAny_eqBool_str h
  «strs» := fun k x t v h => by
    rcases keyIs_shape h with ⟨i, u, rfl, e⟩ | ⟨y, u, rfl, e⟩
    · exact nomatch e
    · injection e with e1 _
      subst e1
      cases v <;> rfl
theorem mixKind_int (prog : Program) (w : World) (i : Int) (t : Tok) : (mixKind prog w).is (.inl i) (.int i t) = true := keyIs_int i t
theorem mixKind_str (prog : Program) (w : World) (x : Str) (t : Tok) : (mixKind prog w).is (.inr x) (.str x t) = true := keyIs_str x t
end L2
namespace L2
open PySem PySem.Spec PyProof.Rows
abbrev NI := Sum Key (List Key)
section
variable {P : Program} {w : World}
def NItem (P : Program) (w : World) (h : Heap) : NI → Value → Prop
  | .inl k, v => keyIs k v = true
  | .inr ls, v => ∃ b, v = .ref b ∧ IsTupleKey (mixKind P w) h ls b
inductive NItems (P : Program) (w : World) (h : Heap) : List NI → List Value → Prop
  | nil : NItems P w h [] []
  | cons {i : NI} {v : Value} {ks : List NI} {vs : List Value} : NItem P w h i v → NItems P w h ks vs → NItems P w h (i :: ks) (v :: vs)
def NKey (P : Program) (w : World) (h : Heap) (ks : List NI) (a : Addr) : Prop := ∃ o items n, h.get? a = some o ∧ o.cls = .type "tuple" ∧ o.data = .seq items n ∧ NItems P w h ks items.toList
def niHash (P : Program) (w : World) : NI → Int
  | .inl k => keyH w k
  | .inr ls => tupleKeyHash (mixKind P w) ls
def niDraws : NI → Nat
  | .inl _ => 1
  | .inr ls => ls.length + 1
def nkHash (P : Program) (w : World) (ks : List NI) : Int := reduceHash (Builtin.Tuple.tupleHashOf (ks.map (niHash P w)))
def nkDraws (ks : List NI) : Nat := (ks.map niDraws).sum + 1
theorem NItem.inj {h : Heap} {i j : NI} {v : Value} (a : NItem P w h i v) (b : NItem P w h j v) : i = j := by
  cases i with
  | inl k =>
    cases j with
    | inl l => rw [(mixKind P w).inj v k l a b]
    | inr l =>
      obtain ⟨c, rfl, _⟩ := b
      rcases keyIs_shape a with ⟨_, _, _, e⟩ | ⟨_, _, _, e⟩ <;> cases e
  | inr k =>
    obtain ⟨c, rfl, hc⟩ := a
    cases j with
    | inl l => rcases keyIs_shape b with ⟨_, _, _, e⟩ | ⟨_, _, _, e⟩ <;> cases e
    | inr l =>
      obtain ⟨d, e, hd⟩ := b
      cases e
      rw [hc.inj hd]
theorem NItems.inj {h : Heap} {x y : List NI} {vs : List Value} (a : NItems P w h x vs) (b : NItems P w h y vs) : x = y := by
  induction a generalizing y with
  | nil => cases b; rfl
  | cons p _ ih =>
    cases b with
    | cons q r => rw [p.inj q, ih r]
theorem NKey.typeIs {s : Shared} {ks : List NI} {a : Addr} (x : NKey P w s.heap ks a) : s.TypeIs (.ref a) "tuple" := let ⟨o, _, _, ho, hc, _⟩ := x; ⟨o, ho, hc⟩
theorem NKey.inj {h : Heap} {a : Addr} {x y : List NI} (p : NKey P w h x a) (q : NKey P w h y a) : x = y := by
  obtain ⟨o, its, n, e, _, d, i⟩ := p
  obtain ⟨o', its', n', e', _, d', i'⟩ := q
  rw [e] at e'; cases e'
  rw [d] at d'
  injection d' with d1 _
  subst d1
  exact i.inj i'
theorem NItems.keeps {h h' : Heap} {ks : List NI} {vs : List Value} (k : ∀ ls b, IsTupleKey (mixKind P w) h ls b → IsTupleKey (mixKind P w) h' ls b) (x : NItems P w h ks vs) : NItems P w h' ks vs := by
  induction x with
  | nil => exact .nil
  | @cons i v ks vs p _ ih =>
    refine .cons ?_ ih
    cases i with
    | inl l => exact p
    | inr l =>
      obtain ⟨b, e, hb⟩ := p
      exact ⟨b, e, k _ _ hb⟩
theorem NKey.keeps {h h' : Heap} {ks : List NI} {a d : Addr} {o : Obj} {es : Array DictEntry} {ep : Nat} (x : NKey P w h ks a) (ho : h.get? d = some o) (hd : o.data = .dict es ep) (hs : Heap.SameBut d h h') : NKey P w h' ks a := by
  obtain ⟨oa, its, n, e, c, e2, i⟩ := x
  have ne : a ≠ d := by
    intro z
    rw [z, ho] at e
    cases e
    rw [hd] at e2
    cases e2
  exact ⟨oa, its, n, (hs.2 a ne).trans e, c, e2, i.keeps fun ls b hb => hb.keeps ho hd hs⟩
variable {A : Around} {E : Value → Shared → Prop} {s : Shared}
theorem NItem.hash {i : NI} {v : Value} {Q : Int → Shared → Prop} (hu : A.units < cLine) (x : NItem P w s.heap i v) (h : Q (niHash P w i) { s with toks := s.toks + niDraws i }) : wpAny (model P w) A (pyHash v) Q E s := by
  cases i with
  | inl k => exact (mixKind P w).pyHash (k := k) x h
  | inr ls =>
    obtain ⟨b, rfl, hb⟩ := x
    exact wpAny_pyHash_tuple hu hb h
theorem NItem.eq {i j : NI} {u v : Value} {Q : Bool → Shared → Prop} (hu : A.units < cLine) (x : NItem P w s.heap i u) (y : NItem P w s.heap j v) (h : Q (decide (i = j)) s) : wpAny (model P w) A (eqBool u v) Q E s := by
  cases i with
  | inl k =>
    cases j with
    | inl l =>
      have e : decide ((Sum.inl k : NI) = Sum.inl l) = decide (k = l) := by
        by_cases q : k = l
        · rw [q]; simp
        · rw [decide_eq_false q, decide_eq_false (fun z => q (Sum.inl.inj z))]
      rw [e] at h
      exact (mixKind P w).eqBool (a := k) (b := l) x y h
    | inr l =>
      rw [decide_eq_false (fun z => nomatch z)] at h
      obtain ⟨b, rfl, o, its, n, e, c, d, _⟩ := y
      rcases keyIs_shape x with ⟨a, t, _, rfl⟩ | ⟨a, t, _, rfl⟩
      · exact SeqAt.EqAt.int_tuple a t ⟨o, e, c, n, d⟩ hu _ _ _ _ h
      · exact SeqAt.EqAt.str_tuple a t ⟨o, e, c, n, d⟩ hu _ _ _ _ h
  | inr k =>
    obtain ⟨a, rfl, ha⟩ := x
    cases j with
    | inl l =>
      rw [decide_eq_false (fun z => nomatch z)] at h
      obtain ⟨o, its, n, e, c, d, _⟩ := ha
      rcases keyIs_shape y with ⟨b, t, _, rfl⟩ | ⟨b, t, _, rfl⟩
      · exact SeqAt.EqAt.tuple_int b t ⟨o, e, c, n, d⟩ hu _ _ _ _ h
      · exact SeqAt.EqAt.tuple_str b t ⟨o, e, c, n, d⟩ hu _ _ _ _ h
    | inr l =>
      obtain ⟨b, rfl, hb⟩ := y
      have e : decide ((Sum.inr k : NI) = Sum.inr l) = decide (k = l) := by
        by_cases q : k = l
        · rw [q]; simp
        · rw [decide_eq_false q, decide_eq_false (fun z => q (Sum.inr.inj z))]
      rw [e] at h
      exact wpAny_eqBool_tuple hu ha hb h
theorem nest_hash {ks : List NI} {a : Addr} {Q : Int → Shared → Prop} (hu : A.units + 8 < cLine) (hk : NKey P w s.heap ks a) (h : Q (nkHash P w ks) { s with toks := s.toks + nkDraws ks }) : wpAny (model P w) A (pyHash (.ref a)) Q E s := by
  have hT := hk.typeIs
  obtain ⟨o, its, n, ho, _, hd, hi⟩ := hk
  have hu0 : A.units < cLine := by omega
  unfold pyHash
  first | unfold pyHashByItsType | skip
  first | refine wpAny_bind (wpAny_cRoomFor_or (.inr hu0) ?_) | skip
  refine wpAny_bind (wpAny_specialOf hT F.slot_tuple_hash.lookup ?_)
  show wpAny _ _ (if (some (Value.builtin "tuple.__hash__") == some Value.none) = true then _ else _) Q E s
  rw [if_neg (by rw [beq_builtin_none]; exact Bool.false_ne_true)]
  refine wpAny_bind (wpAny_specialOf hT F.slot_tuple_hash.lookup ?_)
  show wpAny _ _ (callSpecialIfBoundUnlessNone? (.ref a) "__hash__" _ >>= _) Q E s
  refine wpAny_bind (wpAny_callSpecialIfBoundUnlessNone?_slot hT F.slot_tuple_hash (wpAny_call_entry F.slot_tuple_hash hT F.entry_tuple_hash ?_ (F.args_tuple_hash_1 _)))
  show wpAny _ _ (Builtin.Tuple.tupleItemsOf (.ref a) >>= _) _ _ s
  refine wpAny_bind (wpAny_tupleItemsOf ho hd ?_)
  refine wpAny_bind ?_
  rw [← Array.forIn_toList]
  refine wpAny_forIn_list _
    (fun rest (b : Array Int) s' => ∃ done left, ks = done ++ left ∧ NItems P w s.heap left rest ∧ b.toList = done.map (niHash P w) ∧ s' = { s with toks := s.toks + (done.map niDraws).sum })
    _ ?_ ?_ _ _ ⟨[], ks, rfl, hi, rfl, rfl⟩
  · rintro x rest b s' ⟨done, left, rfl, hl, hb, rfl⟩
    cases hl with
    | @cons k _ ks' _ h1 hl' =>
      refine wpAny_bind (NItem.hash (i := k) (show A.units + 1 < cLine by omega) h1 ?_)
      first
        | exact wpAny_pure ⟨done ++ [k], ks', by simp, hl', by simp [hb], by simp [Nat.add_assoc]⟩
        | exact wpAny_bind (wpAny_pure (wpAny_pure ⟨done ++ [k], ks', by simp, hl', by simp [hb], by simp [Nat.add_assoc]⟩))
  · rintro b s' ⟨done, left, rfl, hl, hb, rfl⟩
    cases hl
    rw [List.append_nil] at h
    show wpAny _ _ (retInt (Builtin.Tuple.tupleHashOf b.toList)) _ _ _
    rw [hb]
    refine wpAny_ret_mkInt ?_
    generalize hz : Builtin.Tuple.tupleHashOf (done.map (niHash P w)) = z at h ⊢
    show wpAny _ _ (if (decide (-(2 : Int) ^ 63 ≤ z) && decide (z < 2 ^ 63)) = true then _ else _) Q E _
    unfold nkHash reduceHash at h
    rw [hz] at h
    by_cases hr : (decide (-(2 : Int) ^ 63 ≤ z) && decide (z < 2 ^ 63)) = true
    · rw [if_pos hr]
      rw [if_pos hr] at h
      exact wpAny_pure (by simpa [Nat.add_assoc, nkDraws] using h)
    · rw [if_neg hr]
      rw [if_neg hr] at h
      exact wpAny_bind (wpAny_rule (wpAny_pure (by simpa [Nat.add_assoc, nkDraws] using h)))
theorem nest_eqTree {x y : List NI} {a b : Addr} {R : PySem.Fin → Shared → Prop} (hu : A.units < cLine) (hx : NKey P w s.heap x a) (hy : NKey P w s.heap y b) (h : R (.done (.ret (.bool (decide (x = y))))) s) :
    wpAny (model P w) A (Builtin.«tuple.__eq__» ⟨[.ref a, .ref b], []⟩) R E s := by
  have hTb := hy.typeIs
  obtain ⟨oa, xs, na, hoa, _, hda, hia⟩ := hx
  obtain ⟨ob, ys, nb, hob, _, hdb, hib⟩ := hy
  show wpAny _ _ (isInstance (.ref b) (.type "tuple") >>= _) _ _ s
  refine wpAny_bind (wpAny_isInstance hTb isSubtype_tuple_tuple ?_)
  simp only [Bool.not_true, Bool.false_eq_true, if_false]
  refine wpAny_bind (wpAny_tupleItemsOf hoa hda ?_)
  refine wpAny_bind (wpAny_tupleItemsOf hob hdb ?_)
  refine wpAny_bind ?_
  refine wpAny_forIn_list _
    (fun rest r s' => r.1 = none ∧ s' = s ∧ ∃ x' y' xs' ys', rest = List.zip xs' ys' ∧ NItems P w s.heap x' xs' ∧ NItems P w s.heap y' ys' ∧ decide (x' = y') = decide (x = y) ∧ (xs'.length == ys'.length) = (xs.size == ys.size))
    _ ?_ ?_ _ _ ⟨rfl, rfl, x, y, xs.toList, ys.toList, rfl, hia, hib, rfl, by simp⟩
  · rintro ⟨u, v⟩ rest r s' ⟨hr, rfl, x', y', xs', ys', hz, hx', hy', hdec, hlen⟩
    cases hx' with
    | nil => simp at hz
    | @cons k1 u' x'' xs'' h1 hx'' =>
      cases hy' with
      | nil => simp at hz
      | @cons k2 v' y'' ys'' h2 hy'' =>
        simp only [List.zip_cons_cons, List.cons.injEq, Prod.mk.injEq] at hz
        obtain ⟨⟨rfl, rfl⟩, rfl⟩ := hz
        refine wpAny_bind (NItem.eq (i := k1) (j := k2) hu h1 h2 ?_)
        by_cases hk : k1 = k2
        · subst hk
          rw [decide_eq_true rfl]
          simp only [Bool.not_true, Bool.false_eq_true, if_false]
          refine wpAny_pure ⟨rfl, rfl, x'', y'', xs'', ys'', rfl, hx'', hy'', ?_, by simpa using hlen⟩
          rw [← hdec]
          by_cases hxy : x'' = y''
          · simp [hxy]
          · simp [hxy]
        · rw [decide_eq_false hk]
          simp only [Bool.not_false, if_true]
          have hf : decide (x = y) = false := by rw [← hdec]; simp [hk]
          rw [hf] at h
          exact wpAny_bind (wpAny_pure (wpAny_pure (wpAny_pure h)))
  · rintro ⟨r1, r2⟩ s' ⟨hr, rfl, x', y', xs', ys', hz, hx', hy', hdec, hlen⟩
    simp only at hr
    subst hr
    refine wpAny_pure ?_
    have hfin : (xs.size == ys.size) = decide (x = y) := by
      rw [← hdec, ← hlen]
      cases hx' with
      | nil =>
        cases hy' with
        | nil => simp
        | cons _ _ => simp
      | cons _ _ =>
        cases hy' with
        | nil => simp
        | cons _ _ => simp at hz
    show R (.done (.ret (.bool (xs.size == ys.size)))) s'
    rw [hfin]; exact h
theorem nest_eqBool {x y : List NI} {a b : Addr} {Q : Bool → Shared → Prop} (hu : A.units + 8 < cLine) (hx : NKey P w s.heap x a) (hy : NKey P w s.heap y b) (h : Q (decide (x = y)) s) :
    wpAny (model P w) A (eqBool (.ref a) (.ref b)) Q E s := by
  unfold eqBool
  try with_reducible refine wpAny_holding ?_
  show wpAny _ _ (if (Value.ref a == Value.ref b) = true then _ else _) Q E s
  by_cases hab : (Value.ref a == Value.ref b) = true
  · rw [if_pos hab]
    have e : a = b := by have := eq_of_beq hab; injection this
    subst e
    obtain rfl := hx.inj hy
    exact wpAny_bind (wpAny_rule (wpAny_pure (by simpa using h)))
  · rw [if_neg hab]
    exact wpAny_bind (wpAny_richCompare_same_room (op := .Eq) hx.typeIs hy.typeIs F.slot_tuple_eq
      (wpAny_call_entry F.slot_tuple_eq hx.typeIs F.entry_tuple_eq (nest_eqTree (show A.units + 1 < cLine by omega) hx hy ⟨_, rfl, (fun e => nomatch e), wpAny_truthy_bool h⟩) (F.args_tuple_eq_2 _ _)) (by omega))
theorem nest_quiet0 {M : Model} {ls : List Key} {a : Addr} {n : Nat} {Q : Bool → Shared → Prop} (hk : IsTupleKey (mixKind P w) s.heap ls a) (h : Q true s) : wpAny M A (eqIsQuiet (n + 1) (.ref a)) Q E s := by
  have hT := hk.typeIs
  obtain ⟨o, its, m, ho, _, hd, hi⟩ := hk
  unfold eqIsQuiet
  refine wpAny_bind (wpAny_specialOf hT F.slot_tuple_eq.lookup ?_)
  show wpAny _ _ (isInstance (.ref a) (.type "tuple") >>= _) _ _ s
  refine wpAny_bind (wpAny_isInstance hT isSubtype_tuple_tuple ?_)
  simp only [Bool.not_true, Bool.false_eq_true, if_false]
  refine wpAny_bind (wpAny_seqItems ho hd ?_)
  refine wpAny_bind ?_
  show wpAny _ _ (forIn its _ _) _ _ s
  rw [← Array.forIn_toList]
  refine wpAny_forIn_list _ (fun rest r s' => r.1 = none ∧ s' = s ∧ ∀ v ∈ rest, carriedByValue v = true) _ ?_ ?_ _ _ ⟨rfl, rfl, hi.byValue⟩
  · rintro v rest r s' ⟨hr, rfl, hall⟩
    rw [eqIsQuiet_byValue _ (hall v List.mem_cons_self)]
    refine wpAny_bind (wpAny_pure ?_)
    simp only [Bool.not_true, Bool.false_eq_true, if_false]
    exact wpAny_pure ⟨rfl, rfl, fun u hu' => hall u (List.mem_cons_of_mem _ hu')⟩
  · rintro ⟨r1, r2⟩ s' ⟨hr, rfl, _⟩
    simp only at hr
    subst hr
    exact wpAny_pure h
theorem nest_quiet {M : Model} {ks : List NI} {a : Addr} {Q : Bool → Shared → Prop} (hk : NKey P w s.heap ks a) (h : Q true s) : wpAny M A (eqIsQuiet 8 (.ref a)) Q E s := by
  have hT := hk.typeIs
  obtain ⟨o, its, m, ho, _, hd, hi⟩ := hk
  unfold eqIsQuiet
  refine wpAny_bind (wpAny_specialOf hT F.slot_tuple_eq.lookup ?_)
  show wpAny _ _ (isInstance (.ref a) (.type "tuple") >>= _) _ _ s
  refine wpAny_bind (wpAny_isInstance hT isSubtype_tuple_tuple ?_)
  simp only [Bool.not_true, Bool.false_eq_true, if_false]
  refine wpAny_bind (wpAny_seqItems ho hd ?_)
  refine wpAny_bind ?_
  show wpAny _ _ (forIn its _ _) _ _ s
  rw [← Array.forIn_toList]
  refine wpAny_forIn_list _ (fun rest r s' => r.1 = none ∧ s' = s ∧ ∃ ls, NItems P w s.heap ls rest) _ ?_ ?_ _ _ ⟨rfl, rfl, ks, hi⟩
  · rintro v rest r s' ⟨hr, rfl, ls, hls⟩
    cases hls with
    | @cons i _ ls' _ h1 h2 =>
      have fin : ∀ {R : Bool → Shared → Prop}, R true s' → wpAny M A (eqIsQuiet 7 v) R E s' := fun {R} q => by
        cases i with
        | inl k =>
          rw [eqIsQuiet_byValue _ ((mixKind P w).byValue k v h1)]
          exact wpAny_pure q
        | inr l =>
          obtain ⟨b, rfl, hb⟩ := h1
          exact nest_quiet0 hb q
      refine wpAny_bind (fin ?_)
      simp only [Bool.not_true, Bool.false_eq_true, if_false]
      exact wpAny_pure ⟨rfl, rfl, ls', h2⟩
  · rintro ⟨r1, r2⟩ s' ⟨hr, rfl, _⟩
    simp only at hr
    subst hr
    exact wpAny_pure h
end
def nestKind (P : Program) (w : World) : HeapKind P w (List NI) where
  is := NKey P w
  hash := nkHash P w
  draws := nkDraws
  room := fun A => A.units + 8 < cLine
  inj := fun a b => a.inj b
  keeps := fun x ho hd hs => x.keeps ho hd hs
  pyHash := fun hu hk h => nest_hash hu hk h
  eqBool := fun hu hx hy h => nest_eqBool hu hx hy h
  quiet := fun hk h => nest_quiet hk h
theorem nestKind_room {P : Program} {w : World} {A : Around} (hu : A.units + 64 < cLine) : (nestKind P w).room A.in1 := show A.units + 1 + 8 < cLine by omega
end L2
namespace L2
open PySem PySem.Spec PyProof.Rows
inductive V where
  | non | bl (b : Bool) | int (i : Int) | str (x : Str) | byt (b : Array UInt8) | flt (b : UInt64) | ref (a : Addr) | ty (n : String)
  deriving DecidableEq
def RelV : V → Value → Prop
  | .non, u => u = Value.none
  | .bl b, u => u = Value.bool b
  | .int i, u => ∃ t, u = Value.int i t
  | .str x, u => ∃ t, u = Value.str x t
  | .byt b, u => ∃ t, u = Value.bytes b t
  | .flt b, u => ∃ t, u = Value.float b t
  | .ref a, u => u = Value.ref a
  | .ty n, u => u = Value.type n
abbrev Vals : List V → List Value → Prop := Paired RelV
theorem Vals.length {xs : List V} {us : List Value} (r : Vals xs us) : xs.length = us.length := Paired.length r
theorem Vals.get : ∀ {xs : List V} {us : List Value} {i : Nat} {x : V}, Vals xs us → xs[i]? = some x → ∃ u, us[i]? = some u ∧ RelV x u
  | _, _, _, _, .nil, e => by simp at e
  | _, _, 0, _, .cons r _, e => by simp at e; subst e; exact ⟨_, rfl, r⟩
  | _, _, i + 1, x, .cons _ t, e => by
    obtain ⟨u, h1, h2⟩ := Vals.get (i := i) (x := x) t (by simpa using e)
    exact ⟨u, by simpa using h1, h2⟩
theorem Vals.set {x : V} {u : Value} (r : RelV x u) : ∀ {xs : List V} {us : List Value} (i : Nat), Vals xs us → Vals (xs.set i x) (us.set i u)
  | _, _, _, .nil => .nil
  | _, _, 0, .cons _ t => .cons r t
  | _, _, i + 1, .cons q t => .cons q (Vals.set r i t)
theorem Vals.append : ∀ {xs ys : List V} {us ws : List Value}, Vals xs us → Vals ys ws → Vals (xs ++ ys) (us ++ ws)
  | _, _, _, _, .nil, s => s
  | _, _, _, _, .cons r t, s => .cons r (Vals.append t s)
theorem Vals.take : ∀ {xs : List V} {us : List Value} (n : Nat), Vals xs us → Vals (xs.take n) (us.take n)
  | _, _, 0, _ => .nil
  | _, _, _ + 1, .nil => .nil
  | _, _, n + 1, .cons r t => .cons r (Vals.take n t)
theorem Vals.drop : ∀ {xs : List V} {us : List Value} (n : Nat), Vals xs us → Vals (xs.drop n) (us.drop n)
  | _, _, 0, r => r
  | _, _, _ + 1, .nil => .nil
  | _, _, n + 1, .cons _ t => Vals.drop n t
def RelO : Option V → Option Value → Prop
  | some v, some u => RelV v u
  | none, none => True
  | _, _ => False
def KV {κ : Type} : List (κ × V) → List (κ × Value) → Prop := Paired fun (p : κ × V) (q : κ × Value) => p.1 = q.1 ∧ RelV p.2 q.2
def kV : Key → V
  | .inl i => .int i
  | .inr x => .str x
inductive HO where
  | lst (xs : List V)
  | tup (xs : List V)
  | dK (kvs : List (Key × V)) | dT (kvs : List (List NI × V))
  | set (S : Int → Bool) (n : Nat)
  | ins (C dx : Addr) (fs : List (Str × V))
  | own (x : Addr)
  | xd (fs : List (Str × V))
  | met (f x : Addr)
  | rng (lo hi : Int)
  | frz (o : Obj) (u : HO)
  | tbl (ps : Array Value)
  | ext (φ : Heap → Prop)
abbrev Hp := Addr → Option HO
def upd (H : Hp) (a : Addr) (o : HO) : Hp := fun b => if b = a then some o else H b
theorem upd_same {H : Hp} {a : Addr} {o : HO} : upd H a o a = some o := by unfold upd; rw [if_pos rfl]
theorem upd_ne {H : Hp} {a b : Addr} {o : HO} (h : b ≠ a) : upd H a o b = H b := by unfold upd; rw [if_neg h]
theorem upd_upd {H : Hp} {a : Addr} {o u : HO} : upd (upd H a o) a u = upd H a u := by
  funext b; unfold upd; split <;> rfl
theorem ne_of {H : Hp} {a b : Addr} {o u : HO} (h : H a = some o) (h' : H b = some u) (d : o ≠ u) : a ≠ b := by
  intro e; subst e; rw [h] at h'; exact d (Option.some.inj h')
theorem ne_of_none {H : Hp} {a b : Addr} {o : HO} (h : H a = some o) (h' : H b = none) : a ≠ b := by
  intro e; subst e; rw [h] at h'; cases h'
def NV (H : Hp) : NI → V → Prop
  | .inl k, v => v = kV k
  | .inr ls, v => ∃ b, v = .ref b ∧ H b = some (.tup (ls.map kV))
abbrev NVs (H : Hp) : List NI → List V → Prop := Paired (NV H)
def NAt (H : Hp) (ks : List NI) (a : Addr) : Prop := ∃ vs, H a = some (.tup vs) ∧ NVs H ks vs
theorem paired_mapP {α β : Type} {F G : α → β → Prop} : ∀ {l₁ : List α} {l₂ : List β}, Paired F l₁ l₂ → (∀ a b, F a b → G a b) → Paired G l₁ l₂
  | _, _, .nil, _ => .nil
  | _, _, .cons r t, f => .cons (f _ _ r) (paired_mapP t f)
theorem NAt.keeps {H H' : Hp} {ks : List NI} {a : Addr} (x : NAt H ks a) (ht : ∀ b xs, H b = some (.tup xs) → H' b = some (.tup xs)) : NAt H' ks a := by
  obtain ⟨vs, e, r⟩ := x
  refine ⟨vs, ht _ _ e, paired_mapP r fun i v z => ?_⟩
  cases i with
  | inl k => exact z
  | inr l =>
    obtain ⟨b, e1, e2⟩ := z
    exact ⟨b, e1, ht _ _ e2⟩
section
variable (P : Program) (w : World)
def ObjOk (H : Hp) (h : Heap) (a : Addr) : HO → Prop
  | .lst xs => xs.length ≤ sizeLine ∧ ∃ (its : List Value) (n : Nat), Vals xs its ∧ h.get? a = some { cls := .type "list", data := .seq its.toArray n }
  | .tup xs => xs.length ≤ sizeLine ∧ ∃ its : List Value, Vals xs its ∧ IsTup h a its.toArray
  | .dK kvs => kvs.length ≤ sizeLine ∧ (a == sysModules) = false ∧ ∃ vs, KV kvs vs ∧ h.DictOf (mixKind P w) a vs
  | .dT kvs => kvs.length ≤ sizeLine ∧ (a == sysModules) = false ∧ ∃ xs : List (List NI × Addr × Value),
      Paired (fun (p : List NI × V) (q : List NI × Addr × Value) => p.1 = q.1 ∧ NAt H p.1 q.2.1 ∧ RelV p.2 q.2.2) kvs xs ∧
      ∃ o es ep, h.get? a = some o ∧ o.ExactDict ∧ o.data = .dict es ep ∧ es.toList = xs.map (entryOfKey (nestKind P w)) ∧ (xs.map (·.1)).Nodup
  | .set S n => h.SetOf (intKind P w) a S n
  | .ins C dx fs => H dx = some (.own a) ∧ fs.length ≤ 1000 ∧ dx ≠ a ∧ h.get? a = some (PySem.W.instObj C dx) ∧
      ∃ mA, h.Ns1 dx mA ∧ (∀ f, RelO (fs.lookup f) (mA f)) ∧ PySem.Within mA (fs.map (·.1))
  | .own _ => ∃ o, h.get? a = some o
  | .xd fs => ∃ mA, h.Ns1 a mA ∧ ∀ f, RelO (fs.lookup f) (mA f)
  | .rng lo hi => ∃ t u v, h.get? a = some { cls := .type "range", data := .fields #[.int lo t, .int hi u, .int 1 v] }
  | .frz o u => h.get? a = some o ∧ ObjOk H h a u
  | .tbl ps => h.get? a = some { cls := .none, data := .fields ps }
  | .met f x => h.get? a = some (PySem.W.methodObj (.ref f) (.ref x))
  | .ext φ => φ h ∧ (∃ o, h.get? a = some o) ∧ ∀ h1 h2 : Heap, φ h1 → (∀ o, h1.get? a = some o → h2.get? a = some o) → φ h2
def HOk (H : Hp) (h : Heap) : Prop := ∀ a o, H a = some o → ObjOk P w H h a o
end
section
variable {P : Program} {w : World} {H H' : Hp} {h h' : Heap} {a : Addr} {o : HO}
theorem ObjOk.lt (x : ObjOk P w H h a o) : a < h.objs.size := by
  cases o with
  | lst xs => obtain ⟨_, _, _, _, e⟩ := x; exact Heap.lt_size e
  | tup xs => obtain ⟨_, _, _, p⟩ := x; exact p.lt
  | dK kvs => obtain ⟨_, _, _, _, o, _, _, e, _⟩ := x; exact Heap.lt_size e
  | dT kvs => obtain ⟨_, _, _, _, o, _, _, e, _⟩ := x; exact Heap.lt_size e
  | set S n => obtain ⟨o, _, _, _, e, _⟩ := x; exact Heap.lt_size e
  | ins C dx fs => obtain ⟨_, _, _, e, _⟩ := x; exact Heap.lt_size e
  | own y => obtain ⟨_, e⟩ := x; exact Heap.lt_size e
  | xd fs => obtain ⟨_, ⟨_, _, _, e, _⟩, _⟩ := x; exact Heap.lt_size e
  | rng lo hi => obtain ⟨_, _, _, e⟩ := x; exact Heap.lt_size e
  | frz ob u => obtain ⟨e, _⟩ := x; exact Heap.lt_size e
  | tbl ps => exact Heap.lt_size (show h.get? a = some _ from x)
  | met f y => exact Heap.lt_size (show h.get? a = some _ from x)
  | ext φ => obtain ⟨_, ⟨_, e⟩, _⟩ := x; exact Heap.lt_size e
theorem Paired.mapP {α β : Type} {F G : α → β → Prop} : ∀ {l₁ : List α} {l₂ : List β}, Paired F l₁ l₂ → (∀ a b, F a b → G a b) → Paired G l₁ l₂
  | _, _, .nil, _ => .nil
  | _, _, .cons r t, f => .cons (f _ _ r) (Paired.mapP t f)
theorem ObjOk.stay (x : ObjOk P w H h a o) (k : ∀ b u, (b = a ∨ H b = some (.own a)) → h.get? b = some u → h'.get? b = some u)
    (ho : ∀ b, H b = some (.own a) → H' b = some (.own a)) (ht : ∀ b xs, H b = some (.tup xs) → H' b = some (.tup xs)) : ObjOk P w H' h' a o := by
  induction o with
  | lst xs => obtain ⟨z, its, n, r, e⟩ := x; exact ⟨z, its, n, r, k _ _ (.inl rfl) e⟩
  | tup xs => obtain ⟨z, its, r, ob, e, c⟩ := x; exact ⟨z, its, r, ob, k _ _ (.inl rfl) e, c⟩
  | dK kvs => obtain ⟨z, y, vs, r, ob, es, ep, e, c⟩ := x; exact ⟨z, y, vs, r, ob, es, ep, k _ _ (.inl rfl) e, c⟩
  | dT kvs =>
    obtain ⟨z, y, xs, r, ob, es, ep, e, c⟩ := x
    exact ⟨z, y, xs, Paired.mapP r fun p q z => ⟨z.1, z.2.1.keeps ht, z.2.2⟩, ob, es, ep, k _ _ (.inl rfl) e, c⟩
  | set S n => obtain ⟨ob, es, ep, t, e, c⟩ := x; exact ⟨ob, es, ep, t, k _ _ (.inl rfl) e, c⟩
  | ins C dx fs =>
    obtain ⟨d, z, ne, e, mA, ⟨od, es, ep, e2, c⟩, r⟩ := x
    exact ⟨ho _ d, z, ne, k _ _ (.inl rfl) e, mA, ⟨od, es, ep, k _ _ (.inr d) e2, c⟩, r⟩
  | own y => obtain ⟨ob, e⟩ := x; exact ⟨ob, k _ _ (.inl rfl) e⟩
  | xd fs => obtain ⟨mA, ⟨od, es, ep, e, c⟩, r⟩ := x; exact ⟨mA, ⟨od, es, ep, k _ _ (.inl rfl) e, c⟩, r⟩
  | rng lo hi => obtain ⟨t, u, v, e⟩ := x; exact ⟨t, u, v, k _ _ (.inl rfl) e⟩
  | frz ob u ih => obtain ⟨e, q⟩ := x; exact ⟨k _ _ (.inl rfl) e, ih q⟩
  | tbl ps =>
    have e : h.get? a = some { cls := .none, data := .fields ps } := x
    show h'.get? a = some { cls := .none, data := .fields ps }
    exact k a _ (.inl rfl) e
  | met f y =>
    have e : h.get? a = some (PySem.W.methodObj (.ref f) (.ref y)) := x
    show h'.get? a = some (PySem.W.methodObj (.ref f) (.ref y))
    exact k a _ (.inl rfl) e
  | ext φ => obtain ⟨p, ⟨o, e⟩, st⟩ := x; exact ⟨st _ _ p fun o q => k _ _ (.inl rfl) q, ⟨o, k _ _ (.inl rfl) e⟩, st⟩
theorem HOk.lt (x : HOk P w H h) (e : H a = some o) : a < h.objs.size := (x a o e).lt
theorem HOk.fresh (x : HOk P w H h) (e : h.objs.size ≤ a) : H a = none := by
  cases q : H a with
  | none => rfl
  | some u => exact absurd (Nat.lt_of_lt_of_le (x.lt q) e) (Nat.lt_irrefl _)
theorem HOk.kept (x : HOk P w H h) (k : ∀ b u, h.get? b = some u → h'.get? b = some u) : HOk P w H h' := fun a o e =>
  (x a o e).stay (fun b u _ q => k b u q) (fun _ q => q) fun _ _ q => q
theorem HOk.laid (x : HOk P w H h) (k : ∀ b u, h.get? b = some u → h'.get? b = some u) (hp : h.objs.size ≤ a) (new : ObjOk P w (upd H a o) h' a o) : HOk P w (upd H a o) h' := fun b u e => by
  have hn := x.fresh hp
  by_cases hb : b = a
  · subst hb; rw [upd_same] at e; cases e; exact new
  · rw [upd_ne hb] at e
    exact (x b u e).stay (fun c v _ q => k c v q) (fun c q => by rw [upd_ne (ne_of_none q hn)]; exact q) fun c xs q => by rw [upd_ne (ne_of_none q hn)]; exact q
end
def Rd (H : Hp) (a : Addr) (u : HO) : Prop := H a = some u ∨ ∃ o, H a = some (.frz o u)
theorem Rd.of {H : Hp} {a : Addr} {u : HO} (h : H a = some u) : Rd H a u := .inl h
theorem Rd.ok {P : Program} {w : World} {H : Hp} {h : Heap} {a : Addr} {u : HO} (r : Rd H a u) (x : HOk P w H h) : ObjOk P w H h a u := by
  rcases r with r | ⟨o, r⟩
  · exact x a u r
  · obtain ⟨_, q⟩ := x a _ r
    exact q
def Mut : Option HO → Prop
  | some (.lst _) => True
  | some (.dK _) => True
  | some (.dT _) => True
  | some (.set _ _) => True
  | some (.ins _ _ _) => True
  | some (.ext _) => True
  | _ => False
section
variable {P : Program} {w : World} {H : Hp} {h h' : Heap} {x e : Addr} {o' : HO}
theorem HOk.write (ok : HOk P w H h) (mu : Mut (H x)) (he : e = x ∨ H e = some (.own x)) (k : ∀ b u, b ≠ e → h.get? b = some u → h'.get? b = some u) (heo : ∃ u, h'.get? e = some u)
    (new : ObjOk P w (upd H x o') h' x o') : HOk P w (upd H x o') h' := fun b u q => by
  have nown : ∀ c y, H c = some (.own y) → c ≠ x := fun c y r z => by subst z; rw [r] at mu; exact mu
  have ntup : ∀ c xs, H c = some (.tup xs) → c ≠ x := fun c xs r z => by subst z; rw [r] at mu; exact mu
  by_cases hb : b = x
  · subst hb; rw [upd_same] at q; cases q; exact new
  · rw [upd_ne hb] at q
    by_cases hbe : b = e
    · have q' : H b = some (.own x) := by
        rcases he with z | z
        · exact absurd (hbe.trans z) hb
        · rw [hbe]; exact z
      rw [q] at q'; cases q'
      obtain ⟨v, hv⟩ := heo
      exact ⟨v, by rw [hbe]; exact hv⟩
    · refine (ok b u q).stay (fun c v hc r => k c v ?_ r) (fun c r => by rw [upd_ne (nown c b r)]; exact r) fun c xs r => by rw [upd_ne (ntup c xs r)]; exact r
      rcases hc with rfl | hc
      · exact hbe
      · rintro rfl
        rcases he with z | z
        · exact nown c b hc z
        · rw [hc] at z; cases z; exact hb rfl
end
structure Un (fs ex : List Addr) (H H' : Hp) (h h' : Heap) : Prop where
  keep : ∀ b o, h.get? b = some o → H b = none → b ∉ fs → b ∉ ex → h'.get? b = some o
  slot : ∀ b o, h.get? b = some o → H b = none → b ∈ fs → b ∉ ex → ∃ sl, h'.get? b = some { o with slots := sl }
  free : ∀ b o, h.get? b = some o → H b = none → b ∉ ex → H' b = none
  there : ∀ b o, h.get? b = some o → b ∉ ex → ∃ o', h'.get? b = some o'
  tups : ∀ b xs, H b = some (.tup xs) → H' b = some (.tup xs)
  frzs : ∀ b o u, H b = some (.frz o u) → H' b = some (.frz o u)
  tbls : ∀ b ps, H b = some (.tbl ps) → ∃ more, H' b = some (.tbl (ps ++ more))
section
variable {fs fs' ex ex' : List Addr} {H H1 H2 : Hp} {h h1 h2 h' : Heap} {a x e : Addr} {o : HO}
theorem Un.any (u : Un fs ex H H1 h h1) {b : Addr} {ob : Obj} (q : h.get? b = some ob) (n : H b = none) (hx : b ∉ ex) : ∃ sl, h1.get? b = some { ob with slots := sl } := by
  by_cases hb : b ∈ fs
  · exact u.slot b ob q n hb hx
  · exact ⟨ob.slots, u.keep b ob q n hb hx⟩
theorem Un.trans (a : Un fs ex H H1 h h1) (b : Un fs ex H1 H2 h1 h2) : Un fs ex H H2 h h2 where
  keep := fun c ob q n hc hx => b.keep c ob (a.keep c ob q n hc hx) (a.free c ob q n hx) hc hx
  slot := fun c ob q n hc hx => by
    obtain ⟨sl, e1⟩ := a.slot c ob q n hc hx
    obtain ⟨sl', e2⟩ := b.slot c _ e1 (a.free c ob q n hx) hc hx
    exact ⟨sl', e2⟩
  free := fun c ob q n hx => by
    obtain ⟨o', e1⟩ := a.there c ob q hx
    exact b.free c o' e1 (a.free c ob q n hx) hx
  there := fun c ob q hx => by
    obtain ⟨o', e1⟩ := a.there c ob q hx
    exact b.there c o' e1 hx
  tups := fun c xs q => b.tups c xs (a.tups c xs q)
  frzs := fun c ob xs q => b.frzs c ob xs (a.frzs c ob xs q)
  tbls := fun c ps q => by
    obtain ⟨m1, e1⟩ := a.tbls c ps q
    obtain ⟨m2, e2⟩ := b.tbls c _ e1
    exact ⟨m1 ++ m2, by rw [e2, Array.append_assoc]⟩
theorem Un.kept (k : ∀ b u, h.get? b = some u → h'.get? b = some u) : Un fs ex H H h h' :=
  ⟨fun b ob q _ _ _ => k b ob q, fun b ob q _ _ _ => ⟨ob.slots, k b ob q⟩, fun _ _ _ n _ => n, fun b ob q _ => ⟨ob, k b ob q⟩, fun _ _ q => q, fun _ _ _ q => q, fun _ ps q => ⟨#[], by rw [q]; simp⟩⟩
theorem Un.refl : Un fs ex H H h h := Un.kept fun _ _ q => q
theorem Un.laid (k : ∀ b u, h.get? b = some u → h'.get? b = some u) (hp : h.objs.size ≤ a) (hn : H a = none) : Un fs ex H (upd H a o) h h' where
  keep := fun b u q _ _ _ => k b u q
  slot := fun b u q _ _ _ => ⟨u.slots, k b u q⟩
  free := fun b u q n _ => by rw [upd_ne (Nat.ne_of_lt (Nat.lt_of_lt_of_le (Heap.lt_size q) hp))]; exact n
  there := fun b u q _ => ⟨u, k b u q⟩
  tups := fun b xs q => by rw [upd_ne (ne_of_none q hn)]; exact q
  frzs := fun b u xs q => by rw [upd_ne (ne_of_none q hn)]; exact q
  tbls := fun b ps q => ⟨#[], by rw [upd_ne (ne_of_none q hn), q]; simp⟩
theorem Un.write (mu : Mut (H x)) (he : e = x ∨ H e = some (.own x)) (k : ∀ b u, b ≠ e → h.get? b = some u → h'.get? b = some u) (heo : ∃ u, h'.get? e = some u) : Un fs ex H (upd H x o) h h' := by
  have hx : ∀ b, H b = none → b ≠ x := fun b n z => by subst z; rw [n] at mu; exact mu
  have hb : ∀ b, H b = none → b ≠ e := fun b n z => by
    subst z
    rcases he with r | r
    · exact hx b n r
    · rw [n] at r; cases r
  have hm : ∀ b u, H b = some u → ¬ Mut (some u) → b ≠ x := fun b u q nm z => by subst z; rw [q] at mu; exact nm mu
  refine ⟨fun b u q n _ _ => k b u (hb b n) q, fun b u q n _ _ => ⟨u.slots, k b u (hb b n) q⟩, fun b u q n _ => by rw [upd_ne (hx b n)]; exact n, fun b u q _ => ?_,
    fun b xs q => by rw [upd_ne (hm b _ q fun z => z)]; exact q, fun b u xs q => by rw [upd_ne (hm b _ q fun z => z)]; exact q, fun b ps q => ⟨#[], by rw [upd_ne (hm b _ q fun z => z), q]; simp⟩⟩
  by_cases hbe : b = e
  · subst hbe; exact heo
  · exact ⟨u, k b u hbe q⟩
theorem Un.mono (u : Un fs ex H H1 h h1) (hs : ∀ b ∈ fs, b ∈ fs') (hx : ∀ b ∈ ex, b ∈ ex') : Un fs' ex' H H1 h h1 :=
  ⟨fun b ob q n hb he => u.keep b ob q n (fun z => hb (hs b z)) fun z => he (hx b z), fun _ _ q n _ he => u.any q n fun z => he (hx _ z), fun b ob q n he => u.free b ob q n fun z => he (hx b z), fun b ob q he => u.there b ob q fun z => he (hx b z), u.tups, u.frzs, u.tbls⟩
end
def trk (h : Heap) (H : Hp) : List Addr := (List.range h.objs.size).filter fun a => (H a).isSome
def hidT (h : Heap) (H : Hp) : Heap := PySem.W.hideAll h (trk h H)
theorem hidT_size (h : Heap) (H : Hp) : (hidT h H).objs.size = h.objs.size := PySem.W.hideAll_size _ _
theorem hidT_get {h : Heap} {H : Hp} {b : Addr} {o : Obj} (e : h.get? b = some o) (n : H b = none) : (hidT h H).get? b = some o :=
  PySem.W.hideAll_get _ e fun hm => by
    have q : (H b).isSome = true := (List.mem_filter.mp hm).2
    rw [n] at q; simp at q
theorem of_hidT {h : Heap} {H : Hp} {b : Addr} {o : Obj} (e : (hidT h H).get? b = some o) : h.get? b = some o ∧ H b = none := by
  have e' : h.get? b = some o := PySem.W.of_hideAll (trk h H) e
  refine ⟨e', ?_⟩
  cases q : H b with
  | none => rfl
  | some x =>
    have hm : b ∈ trk h H := List.mem_filter.mpr ⟨List.mem_range.mpr (Heap.lt_size e'), by simp [q]⟩
    have z : (hidT h H).get? b = none := PySem.W.hideAll_none (trk h H) hm
    rw [z] at e; cases e
def allNews (g h : Heap) (L : Addr) : List (Addr × Obj) := (List.range h.objs.size).filterMap fun a => if a = L ∨ (g.get? a).isSome = true then none else (h.get? a).map fun o => (a, o)
def rest (g h : Heap) (L d : Addr) : List (Addr × Obj) := (allNews g h L).filter fun p => decide (p.1 ≠ d)
end L2
namespace L2
open PySem PySem.Spec PyProof.Rows
structure Mod (K : PySem.W.Frag) (mg : Str → Option Value) (base : Heap) : Prop where
  kin : K.In base
  glob : base.Ns mainGlobals mg
  blt : ∃ mb, base.Ns builtinsNs mb ∧ ∀ x : Str, x ≠ "__name__" → mb x = bootBuiltins x
  nolimit : base.NoLimit
structure Cx where
  prog : Program
  w : World
  K : PySem.W.Frag
  mg : Str → Option Value
  base : Heap
  A : Around
  N : List Str
  s₀ : Shared
  H₀ : Hp
  env : Env
  outer : List Env
  stack : List Env
  ex : List Addr
  fn : Str → Bool
  calm : Bool
  pn : List (Addr × Obj)
  xe : Value → Shared → Prop
def frs (l : List Env) : List Addr := l.filterMap (·.frame)
abbrev Cx.fs (X : Cx) : List Addr := frs X.outer
def Vis (sc : Scope) (x : Str) : Prop := sc.names.lookup x = some .local ∨ sc.names.lookup x = some .cell ∨ sc.names.lookup x = some .free
def Loc (sc : Scope) (x : Str) : Prop := sc.names.lookup x = some .local ∨ sc.names.lookup x = some .cell
def Look (env : Env) (h : Heap) (m : Str → Option Value) (x : Str) (u : Value) : Prop :=
  (env.kindOf x = some .local ∧ m x = some u) ∨ ((env.kindOf x = some .cell ∨ env.kindOf x = some .free) ∧ ∃ c, env.cells.lookup x = some c ∧ h.IsCell c (some u))
structure Cx.Ok (X : Cx) : Prop where
  mod : Mod X.K X.mg X.base
  kind : X.env.scope.kind = .function
  glob : X.env.globals = mainGlobals
  blt : X.env.builtins = builtinsNs
  above : X.s₀.heap.objs.size ≤ X.env.locals
  inj : ∀ x y c, X.env.cells.lookup x = some c → X.env.cells.lookup y = some c → x = y
  has : ∀ x, (X.env.kindOf x = some .cell ∨ X.env.kindOf x = some .free) → ∃ c, X.env.cells.lookup x = some c
  cab : ∀ x c, X.fn x = true → X.env.cells.lookup x = some c → X.s₀.heap.objs.size ≤ c
  hd : X.calm = true → X.A.handled = none
  frames : X.A.frames = some X.stack
  stk : X.stack = X.outer ∨ (X.stack = X.env :: X.outer ∧ X.env.frame = some X.env.locals)
  exf : ∀ b ∈ X.ex, b ≠ X.env.locals ∧ ∀ x c, X.env.cells.lookup x = some c → c ≠ b
  bs : ∀ b o, X.base.get? b = some o → X.s₀.heap.get? b = some o ∧ X.H₀ b = none
  bsz : X.base.objs.size ≤ X.s₀.heap.objs.size
  noex : ∀ b o, X.base.get? b = some o → b ∉ X.ex
  exfs : ∀ b ∈ X.ex, b ∉ X.fs
  funs : X.s₀.heap.FunFrames X.base X.outer
  frf : ∀ b ∈ X.fs, X.H₀ b = none
structure Inv (X : Cx) (pins : List (Addr × Obj)) (σ : List (Option V)) (H : Hp) (s : Shared) : Prop where
  ok : X.Ok
  os : s.os = X.s₀.os
  bare : AllBare s.gens
  base : Un X.fs X.ex X.H₀ H X.s₀.heap s.heap
  loc : ∃ m, s.heap.Ns X.env.locals m ∧ ∀ (i : Nat) (x : Str) (v : V), X.N[i]? = some x → σ[i]? = some (some v) → Vis X.env.scope x → ∃ u, RelV v u ∧ Look X.env s.heap m x u
  cell : ∀ x c, X.env.cells.lookup x = some c → ∃ v, s.heap.IsCell c v
  free : H X.env.locals = none
  freeC : ∀ x c, X.env.cells.lookup x = some c → H c = none
  pin : ∀ p ∈ X.pn ++ pins, s.heap.get? p.1 = some p.2 ∧ H p.1 = none ∧ p.1 ≠ X.env.locals ∧ p.1 ∉ X.fs ∧ ∀ v, p.2.data ≠ .cell v
  hok : HOk X.prog X.w H s.heap
  len : σ.length = X.N.length
section
variable {X : Cx} {pins : List (Addr × Obj)} {σ : List (Option V)} {H H' : Hp} {s : Shared} {h' : Heap}
theorem Cx.Ok.nofr (ok : X.Ok) {b : Addr} {o : Obj} (e : X.base.get? b = some o) : b ∉ X.fs := fun hb => by
  have := (ok.funs.mem hb).1
  rw [e] at this; cases this
theorem Inv.bs (I : Inv X pins σ H s) : ∀ b o, X.base.get? b = some o → s.heap.get? b = some o ∧ H b = none := fun b o e =>
  ⟨I.base.keep b o (I.ok.bs b o e).1 (I.ok.bs b o e).2 (I.ok.nofr e) (I.ok.noex b o e), I.base.free b o (I.ok.bs b o e).1 (I.ok.bs b o e).2 (I.ok.noex b o e)⟩
theorem Inv.bk (I : Inv X pins σ H s) : ∀ b o, X.base.get? b = some o → s.heap.get? b = some o := fun b o e => (I.bs b o e).1
theorem Inv.mod (I : Inv X pins σ H s) : Mod X.K X.mg X.base := I.ok.mod
theorem Inv.kIn (I : Inv X pins σ H s) : X.K.In s.heap := I.ok.mod.kin.keeps I.bk
theorem Inv.nolimit (I : Inv X pins σ H s) : s.heap.NoLimit := I.ok.mod.nolimit.keeps I.bk
theorem Inv.fr (I : Inv X pins σ H s) : ∃ m, Fr X.base X.env.locals s.heap m :=
  let ⟨m, hn, _⟩ := I.loc
  ⟨m, hn, I.bk, Nat.le_trans I.ok.bsz I.ok.above⟩
theorem Inv.lt (I : Inv X pins σ H s) : X.env.locals < s.heap.objs.size := let ⟨_, hn, _⟩ := I.loc; hn.lt
theorem Inv.sz (I : Inv X pins σ H s) : X.s₀.heap.objs.size ≤ s.heap.objs.size := Nat.le_trans I.ok.above (Nat.le_of_lt I.lt)
theorem Inv.nofs (I : Inv X pins σ H s) {a : Addr} (h : s.heap.objs.size ≤ a) : a ∉ X.fs := fun hb => by
  obtain ⟨_, o, ho, _⟩ := I.ok.funs.mem hb
  exact absurd (Nat.lt_of_lt_of_le (Heap.lt_size ho) (Nat.le_trans I.sz h)) (Nat.lt_irrefl _)
theorem Inv.cne (I : Inv X pins σ H s) : ∀ x c, X.env.cells.lookup x = some c → c ≠ X.env.locals := fun x c e z => by
  obtain ⟨v, o, ho, hd⟩ := I.cell x c e
  obtain ⟨m, ⟨o', es, ep, ho', hd', _⟩, _⟩ := I.loc
  rw [z, ho'] at ho; cases ho; rw [hd'] at hd; cases hd
theorem Inv.funs (I : Inv X pins σ H s) : s.heap.FunFrames X.base X.outer := by
  have all : ∀ (l : List Env), (∀ b ∈ frs l, b ∈ X.fs) → X.s₀.heap.FunFrames X.base l → s.heap.FunFrames X.base l := by
    intro l
    induction l with
    | nil => intro _ _; trivial
    | cons env r ih =>
      intro hs hl
      obtain ⟨hk, ⟨L, o, hf, hn, ho, hd⟩, hr⟩ := hl
      have hL : L ∈ X.fs := hs L (by unfold frs; rw [List.filterMap_cons, hf]; exact List.mem_cons_self)
      obtain ⟨sl, e⟩ := I.base.slot L o ho (I.ok.frf L hL) hL fun z => I.ok.exfs L z hL
      exact ⟨hk, ⟨L, _, hf, hn, e, hd⟩, ih (fun b hb => hs b (by unfold frs; rw [List.filterMap_cons, hf]; exact List.mem_cons_of_mem _ hb)) hr⟩
  exact all X.outer (fun _ hb => hb) I.ok.funs
theorem Inv.stack (I : Inv X pins σ H s) : s.heap.FunFrames X.base X.stack := by
  rcases I.ok.stk with e | ⟨e, hf⟩
  · rw [e]; exact I.funs
  · rw [e]
    obtain ⟨m, hn, _⟩ := I.loc
    refine .cons (by rw [I.ok.kind]; decide) hf hn ?_ I.funs
    exact Heap.get?_none_of_le (Nat.le_trans I.ok.bsz I.ok.above)
theorem Inv.stkSub (I : Inv X pins σ H s) : ∀ b ∈ frs X.stack, b ∈ X.env.locals :: X.fs := fun b hb => by
  rcases I.ok.stk with e | ⟨e, hf⟩
  · rw [e] at hb; exact List.mem_cons_of_mem _ hb
  · rw [e] at hb
    unfold frs at hb
    rw [List.filterMap_cons, hf] at hb
    exact hb
theorem Inv.stkFree (I : Inv X pins σ H s) : ∀ b ∈ frs X.stack, H b = none := fun b hb => by
  rcases List.mem_cons.mp (I.stkSub b hb) with e | hb
  · rw [e]; exact I.free
  · obtain ⟨_, o, ho, _⟩ := I.ok.funs.mem hb
    exact I.base.free b o ho (I.ok.frf b hb) fun z => I.ok.exfs b z hb
theorem Inv.step {g' : Array GenState} {t' : Nat} {d' : Drawn} {ch : List Addr} (I : Inv X pins σ H s)
    (hch : ∀ b ∈ ch, (b ∈ X.ex ∨ X.s₀.heap.objs.size ≤ b) ∧ b ≠ X.env.locals ∧ (∀ x c, X.env.cells.lookup x = some c → c ≠ b) ∧ ∀ p ∈ X.pn ++ pins, p.1 ≠ b)
    (keep : ∀ b o, b ≠ X.env.locals → b ∉ X.fs → b ∉ ch → s.heap.get? b = some o → H b = none → h'.get? b = some o)
    (slot : ∀ b o, b ≠ X.env.locals → b ∈ X.fs → b ∉ ch → s.heap.get? b = some o → H b = none → ∃ sl, h'.get? b = some { o with slots := sl }) (free : ∀ b o, b ∉ ch → s.heap.get? b = some o → H b = none → H' b = none)
    (there : ∀ b o, b ∉ ch → s.heap.get? b = some o → ∃ o', h'.get? b = some o')
    (tups : ∀ b xs, H b = some (.tup xs) → H' b = some (.tup xs)) (frzs : ∀ b o u, H b = some (.frz o u) → H' b = some (.frz o u)) (tbls : ∀ b ps, H b = some (.tbl ps) → ∃ more, H' b = some (.tbl (ps ++ more)))
    (ns : ∀ m, s.heap.Ns X.env.locals m → h'.Ns X.env.locals m) (hok : HOk X.prog X.w H' h') (hg : AllBare g') :
    Inv X pins σ H' { s with heap := h', gens := g', drawn := d', toks := t' } := by
  have neL : ∀ b o, X.s₀.heap.get? b = some o → b ≠ X.env.locals := fun b o e => Nat.ne_of_lt (Nat.lt_of_lt_of_le (Heap.lt_size e) I.ok.above)
  have neC : ∀ b o, X.s₀.heap.get? b = some o → b ∉ X.ex → b ∉ ch := fun b o e hx hb => by
    rcases (hch b hb).1 with z | z
    · exact hx z
    · exact absurd (Nat.lt_of_lt_of_le (Heap.lt_size e) z) (Nat.lt_irrefl _)
  have cellK : ∀ x c, X.env.cells.lookup x = some c → ∀ v, s.heap.IsCell c v → h'.IsCell c v := fun x c e v ⟨o, ho, hd⟩ => by
    have nch : c ∉ ch := fun z => (hch c z).2.2.1 x c e rfl
    by_cases hc : c ∈ X.fs
    · obtain ⟨sl, q⟩ := slot c o (I.cne x c e) hc nch ho (I.freeC x c e)
      exact ⟨_, q, hd⟩
    · exact ⟨o, keep c o (I.cne x c e) hc nch ho (I.freeC x c e), hd⟩
  refine ⟨I.ok, I.os, hg, ⟨fun b o e n hb hx => ?_, fun b o e n hb hx => ?_, fun b o e n hx => ?_, fun b o e hx => ?_, fun b xs e => tups b xs (I.base.tups b xs e), fun b o xs e => frzs b o xs (I.base.frzs b o xs e), fun b ps e => ?_⟩, ?_, fun x c e => ?_, ?_, fun x c e => ?_, fun p hp => ?_, hok, I.len⟩
  · exact keep b o (neL b o e) hb (neC b o e hx) (I.base.keep b o e n hb hx) (I.base.free b o e n hx)
  · obtain ⟨sl, e1⟩ := I.base.slot b o e n hb hx
    obtain ⟨sl', e2⟩ := slot b _ (neL b o e) hb (neC b o e hx) e1 (I.base.free b o e n hx)
    exact ⟨sl', e2⟩
  · obtain ⟨o', e1⟩ := I.base.there b o e hx
    exact free b o' (neC b o e hx) e1 (I.base.free b o e n hx)
  · obtain ⟨o', e1⟩ := I.base.there b o e hx
    exact there b o' (neC b o e hx) e1
  · obtain ⟨m1, e1⟩ := I.base.tbls b ps e
    obtain ⟨m2, e2⟩ := tbls b _ e1
    exact ⟨m1 ++ m2, by rw [e2, Array.append_assoc]⟩
  · obtain ⟨m, hn, hl⟩ := I.loc
    refine ⟨m, ns m hn, fun i x v e1 e2 e3 => ?_⟩
    obtain ⟨u, r, l⟩ := hl i x v e1 e2 e3
    refine ⟨u, r, ?_⟩
    rcases l with l | ⟨k, c, e, z⟩
    · exact .inl l
    · exact .inr ⟨k, c, e, cellK x c e _ z⟩
  · obtain ⟨v, z⟩ := I.cell x c e
    exact ⟨v, cellK x c e v z⟩
  · obtain ⟨m, ⟨o, _, _, ho, _⟩, _⟩ := I.loc
    exact free _ o (fun z => (hch _ z).2.1 rfl) ho I.free
  · obtain ⟨v, o, ho, hd⟩ := I.cell x c e
    exact free c o (fun z => (hch c z).2.2.1 x c e rfl) ho (I.freeC x c e)
  · obtain ⟨e, n, ne, nf, d⟩ := I.pin p hp
    have nch : p.1 ∉ ch := fun z => (hch p.1 z).2.2.2 p hp rfl
    exact ⟨keep p.1 p.2 ne nf nch e n, free p.1 p.2 nch e n, ne, nf, d⟩
theorem Inv.un {t' : Nat} (I : Inv X pins σ H s) (u : Un X.fs [] H H' s.heap h') (hok : HOk X.prog X.w H' h') : Inv X pins σ H' { s with heap := h', toks := t' } := by
  obtain ⟨m, ⟨o, es, ep, ho, r⟩, _⟩ := id I.loc
  obtain ⟨sl, hL⟩ := u.any ho I.free (by simp)
  exact I.step (g' := s.gens) (d' := s.drawn) (ch := []) (fun _ z => nomatch z) (fun b o _ hb _ e n => u.keep b o e n hb (by simp)) (fun b o _ hb _ e n => u.slot b o e n hb (by simp)) (fun b o _ e n => u.free b o e n (by simp)) (fun b o _ e => u.there b o e (by simp)) u.tups u.frzs u.tbls (fun m' hm => by
    obtain ⟨o', es', ep', ho', r'⟩ := hm
    rw [ho] at ho'; cases ho'
    exact ⟨_, es', ep', hL, r'⟩) hok I.bare
theorem Inv.call {g' : Array GenState} {t' : Nat} {d' : Drawn} {ch : List Addr} (I : Inv X pins σ H s) (u : Un (frs X.stack) ch H H' s.heap h') (hok : HOk X.prog X.w H' h') (hg : AllBare g')
    (hch : ∀ b ∈ ch, (b ∈ X.ex ∨ X.s₀.heap.objs.size ≤ b) ∧ b ≠ X.env.locals ∧ (∀ x c, X.env.cells.lookup x = some c → c ≠ b) ∧ ∀ p ∈ X.pn ++ pins, p.1 ≠ b) :
    Inv X pins σ H' { s with heap := h', gens := g', drawn := d', toks := t' } := by
  obtain ⟨m, ⟨o, es, ep, ho, r⟩, _⟩ := id I.loc
  obtain ⟨sl, hL⟩ := u.any ho I.free fun z => (hch _ z).2.1 rfl
  exact I.step (ch := ch) hch (fun b o hL hb hc e n => u.keep b o e n (fun z => (List.mem_cons.mp (I.stkSub b z)).elim hL hb) hc) (fun b o _ _ hc e n => u.any e n hc) (fun b o hc e n => u.free b o e n hc) (fun b o hc e => u.there b o e hc) u.tups u.frzs u.tbls (fun m' hm => by
    obtain ⟨o', es', ep', ho', r'⟩ := hm
    rw [ho] at ho'; cases ho'
    exact ⟨_, es', ep', hL, r'⟩) hok hg
theorem Inv.turned {t' : Nat} {it : Addr} (I : Inv X pins σ H s) (k : ∀ b o, b ≠ it → s.heap.get? b = some o → h'.get? b = some o) (hn : H it = none) (hL : it ≠ X.env.locals)
    (h1 : it ∈ X.ex ∨ X.s₀.heap.objs.size ≤ it) (h2 : ∀ x c, X.env.cells.lookup x = some c → c ≠ it) (h3 : ∀ p ∈ X.pn ++ pins, p.1 ≠ it) : Inv X pins σ H { s with heap := h', toks := t' } := by
  have nit : ∀ b u, H b = some u → b ≠ it := fun b u e z => by rw [z, hn] at e; cases e
  refine I.step (g' := s.gens) (d' := s.drawn) (ch := [it]) (fun b hb => ?_) (fun b o _ _ hc e _ => k b o (fun z => hc (by simp [z])) e) (fun b o _ _ hc e _ => ⟨o.slots, k b o (fun z => hc (by simp [z])) e⟩) (fun _ _ _ _ n => n)
    (fun b o hc e => ⟨o, k b o (fun z => hc (by simp [z])) e⟩) (fun _ _ e => e) (fun _ _ _ e => e) (fun b ps e => ⟨#[], by rw [e]; simp⟩) (fun m hm => ?_) (fun b u e => ?_) I.bare
  · have e : b = it := by simpa using hb
    subst e
    exact ⟨h1, hL, h2, h3⟩
  · obtain ⟨o, es, ep, ho, r⟩ := hm
    exact ⟨o, es, ep, k _ o (Ne.symm hL) ho, r⟩
  · refine (I.hok b u e).stay (fun c v hc q => k c v ?_ q) (fun _ q => q) fun _ _ q => q
    rcases hc with z | z
    · rw [z]; exact nit b u e
    · exact nit c _ z
theorem Inv.tok (I : Inv X pins σ H s) (t : Nat) : Inv X pins σ H { s with toks := t } := I.un (h' := s.heap) (t' := t) Un.refl I.hok
theorem Inv.kept {t' : Nat} (I : Inv X pins σ H s) (k : ∀ b u, s.heap.get? b = some u → h'.get? b = some u) : Inv X pins σ H { s with heap := h', toks := t' } := I.un (Un.kept k) (I.hok.kept k)
theorem Inv.laid {a : Addr} {o : HO} {t' : Nat} (I : Inv X pins σ H s) (k : ∀ b u, s.heap.get? b = some u → h'.get? b = some u) (hp : s.heap.objs.size ≤ a) (new : ObjOk X.prog X.w (upd H a o) h' a o) :
    Inv X pins σ (upd H a o) { s with heap := h', toks := t' } := I.un (Un.laid k hp (I.hok.fresh hp)) (I.hok.laid k hp new)
theorem Inv.write {x e : Addr} {o : HO} {t' : Nat} (I : Inv X pins σ H s) (mu : Mut (H x)) (he : e = x ∨ H e = some (.own x)) (k : ∀ b u, b ≠ e → s.heap.get? b = some u → h'.get? b = some u) (heo : ∃ u, h'.get? e = some u)
    (new : ObjOk X.prog X.w (upd H x o) h' x o) : Inv X pins σ (upd H x o) { s with heap := h', toks := t' } := I.un (Un.write mu he k heo) (I.hok.write mu he k heo new)
theorem Inv.weak {σ' : List (Option V)} (I : Inv X pins σ H s) (hl : σ'.length = σ.length) (w : ∀ (i : Nat) v, σ'[i]? = some (some v) → σ[i]? = some (some v)) : Inv X pins σ' H s :=
  ⟨I.ok, I.os, I.bare, I.base, let ⟨m, hn, hl'⟩ := I.loc; ⟨m, hn, fun i x v e1 e2 e3 => hl' i x v e1 (w i v e2) e3⟩, I.cell, I.free, I.freeC, I.pin, I.hok, hl.trans I.len⟩
theorem Inv.pins_of {pins' : List (Addr × Obj)} (I : Inv X pins σ H s) (h : ∀ p ∈ pins', s.heap.get? p.1 = some p.2 ∧ H p.1 = none ∧ p.1 ≠ X.env.locals ∧ p.1 ∉ X.fs ∧ ∀ v, p.2.data ≠ .cell v) : Inv X pins' σ H s :=
  ⟨I.ok, I.os, I.bare, I.base, I.loc, I.cell, I.free, I.freeC, fun p hp => (List.mem_append.mp hp).elim (fun z => I.pin p (List.mem_append_left _ z)) (h p), I.hok, I.len⟩
theorem nodup_ix {N : List Str} (hN : N.Nodup) {i j : Nat} {x : Str} (a : N[i]? = some x) (b : N[j]? = some x) : i = j := by
  obtain ⟨h1, e1⟩ := List.getElem?_eq_some_iff.mp a
  obtain ⟨h2, e2⟩ := List.getElem?_eq_some_iff.mp b
  exact (List.getElem_inj hN).mp (e1.trans e2.symm)
theorem store_ok2 {M : Model} {A : Around} {E : Value → Shared → Prop} {i : Nat} {x : Str} {v : V} {u : Value} {Q : Unit → Shared → Prop} (I : Inv X pins σ H s) (hN : X.N.Nodup) (hi : X.N[i]? = some x) (hx : Loc X.env.scope x) (r : RelV v u)
    (h : ∀ s', Inv X pins (σ.set i (some v)) H s' → (∃ a, Heap.SameBut a s.heap s'.heap ∧ (a = X.env.locals ∨ X.env.cells.lookup x = some a)) → Q () s') (hf : X.fn x = true ∨ X.env.scope.names.lookup x = some .local := by first | exact .inl rfl | exact .inr rfl | assumption) : wpAny M A (storeName X.env x u) Q E s := by
  obtain ⟨m, hn, hl⟩ := id I.loc
  have hcls : (X.env.scope.kind == .class || (X.env.scope.kind == .module && X.env.locals != X.env.globals)) = false := by rw [I.ok.kind]; rfl
  have hiσ : i < σ.length := by rw [I.len]; exact (List.getElem?_eq_some_iff.mp hi).1
  have cne := I.cne
  have tracked : ∀ {a : Addr} {h' : Heap}, (∃ o, s.heap.get? a = some o ∧ H a = none) → Heap.SameBut a s.heap h' → HOk X.prog X.w H h' := fun {a h'} ha hs b ob e => by
    obtain ⟨_, _, hfree⟩ := ha
    refine (I.hok b ob e).stay (fun c w' hc q => (hs.2 c ?_).trans q) (fun _ q => q) fun _ _ q => q
    rintro rfl
    rcases hc with rfl | hc
    · rw [hfree] at e; cases e
    · rw [hfree] at hc; cases hc
  rcases hx with hk | hk
  · refine wpAny_storeName_local hk hn (fun h' hn' hs => ?_) hcls
    obtain ⟨oL, _, _, hoL, _⟩ := id hn
    refine h _ ⟨I.ok, I.os, I.bare, ⟨fun b o e n hb hx => ?_, fun b o e n hb hx => ?_, I.base.free, fun b o e hx => ?_, I.base.tups, I.base.frzs, I.base.tbls⟩, ⟨_, hn', fun j y v' e1 e2 e3 => ?_⟩, fun y c e => ?_, I.free, I.freeC, fun p hp => ?_, tracked ⟨oL, hoL, I.free⟩ hs, by simpa using I.len⟩ ⟨_, hs, .inl rfl⟩
    · exact (hs.2 b (Nat.ne_of_lt (Nat.lt_of_lt_of_le (Heap.lt_size e) I.ok.above))).trans (I.base.keep b o e n hb hx)
    · obtain ⟨sl, e1⟩ := I.base.slot b o e n hb hx
      exact ⟨sl, (hs.2 b (Nat.ne_of_lt (Nat.lt_of_lt_of_le (Heap.lt_size e) I.ok.above))).trans e1⟩
    · obtain ⟨o', e1⟩ := I.base.there b o e hx
      exact ⟨o', (hs.2 b (Nat.ne_of_lt (Nat.lt_of_lt_of_le (Heap.lt_size e) I.ok.above))).trans e1⟩
    · by_cases hj : j = i
      · subst hj
        rw [hi] at e1; cases e1
        rw [List.getElem?_set_self hiσ] at e2
        cases e2
        exact ⟨u, r, .inl ⟨hk, by simp⟩⟩
      · rw [List.getElem?_set_ne (Ne.symm hj)] at e2
        obtain ⟨u', r', q⟩ := hl j y v' e1 e2 e3
        refine ⟨u', r', ?_⟩
        rcases q with ⟨k, e⟩ | ⟨k, c, e, z⟩
        · refine .inl ⟨k, ?_⟩
          have : y ≠ x := fun e => hj (nodup_ix hN e1 (e ▸ hi))
          simp [this, e]
        · exact .inr ⟨k, c, e, z.sameBut hs (cne y c e)⟩
    · obtain ⟨w', z⟩ := I.cell y c e
      exact ⟨w', z.sameBut hs (cne y c e)⟩
    · obtain ⟨e, n, ne, nf, d⟩ := I.pin p hp
      exact ⟨(hs.2 p.1 ne).trans e, n, ne, nf, d⟩
  · have hfn : X.fn x = true := by
      rcases hf with z | z
      · exact z
      · rw [z] at hk; cases hk
    obtain ⟨c, hc⟩ := I.ok.has x (.inl hk)
    obtain ⟨w', z⟩ := I.cell x c hc
    refine wpAny_storeName_cell I.ok.kind hk hc z (fun h' hc' hs => ?_)
    obtain ⟨oc, hoc, hocd⟩ := id z
    refine h { s with heap := h' } ⟨I.ok, I.os, I.bare, ⟨fun b o e n hb hx => ?_, fun b o e n hb hx => ?_, I.base.free, fun b o e hx => ?_, I.base.tups, I.base.frzs, I.base.tbls⟩, ⟨m, hn.sameBut hs (Ne.symm (cne x c hc)), fun j y v' e1 e2 e3 => ?_⟩, fun y c' e => ?_, I.free, I.freeC, fun p hp => ?_, tracked ⟨oc, hoc, I.freeC x c hc⟩ hs, by simpa using I.len⟩ ⟨c, hs, .inr hc⟩
    · exact (hs.2 b (Nat.ne_of_lt (Nat.lt_of_lt_of_le (Heap.lt_size e) (I.ok.cab x c hfn hc)))).trans (I.base.keep b o e n hb hx)
    · obtain ⟨sl, e1⟩ := I.base.slot b o e n hb hx
      exact ⟨sl, (hs.2 b (Nat.ne_of_lt (Nat.lt_of_lt_of_le (Heap.lt_size e) (I.ok.cab x c hfn hc)))).trans e1⟩
    · obtain ⟨o', e1⟩ := I.base.there b o e hx
      exact ⟨o', (hs.2 b (Nat.ne_of_lt (Nat.lt_of_lt_of_le (Heap.lt_size e) (I.ok.cab x c hfn hc)))).trans e1⟩
    · by_cases hj : j = i
      · subst hj
        rw [hi] at e1; cases e1
        rw [List.getElem?_set_self hiσ] at e2
        cases e2
        exact ⟨u, r, .inr ⟨.inl hk, c, hc, hc'⟩⟩
      · rw [List.getElem?_set_ne (Ne.symm hj)] at e2
        obtain ⟨u', r', q⟩ := hl j y v' e1 e2 e3
        refine ⟨u', r', ?_⟩
        rcases q with q | ⟨k, c', e, z'⟩
        · exact .inl q
        · refine .inr ⟨k, c', e, z'.sameBut hs ?_⟩
          rintro rfl
          exact hj (nodup_ix hN e1 (I.ok.inj _ _ _ e hc ▸ hi))
    · by_cases hcc : c' = c
      · subst hcc; exact ⟨_, hc'⟩
      · obtain ⟨w2, z2⟩ := I.cell y c' e
        exact ⟨w2, z2.sameBut hs hcc⟩
    · obtain ⟨e, n, ne, nf, d⟩ := I.pin p hp
      refine ⟨(hs.2 p.1 ?_).trans e, n, ne, nf, d⟩
      intro q
      rw [q, hoc] at e
      have q' : oc = p.2 := Option.some.inj e
      exact d w' (by rw [← q']; exact hocd)
theorem store_ok {M : Model} {A : Around} {E : Value → Shared → Prop} {i : Nat} {x : Str} {v : V} {u : Value} {Q : Unit → Shared → Prop} (I : Inv X pins σ H s) (hN : X.N.Nodup) (hi : X.N[i]? = some x) (hx : Loc X.env.scope x) (r : RelV v u)
    (h : ∀ s', Inv X pins (σ.set i (some v)) H s' → Q () s') (hf : X.fn x = true ∨ X.env.scope.names.lookup x = some .local := by first | exact .inl rfl | exact .inr rfl | assumption) : wpAny M A (storeName X.env x u) Q E s :=
  store_ok2 I hN hi hx r (fun s' I' _ => h s' I') hf
theorem Inv.call' {s' : Shared} {ch : List Addr} (I : Inv X pins σ H s) (ho : s'.os = s.os) (u : Un (frs X.stack) ch H H' s.heap s'.heap) (hok : HOk X.prog X.w H' s'.heap) (hg : AllBare s'.gens)
    (hch : ∀ b ∈ ch, (b ∈ X.ex ∨ X.s₀.heap.objs.size ≤ b) ∧ b ≠ X.env.locals ∧ (∀ x c, X.env.cells.lookup x = some c → c ≠ b) ∧ ∀ p ∈ X.pn ++ pins, p.1 ≠ b) : Inv X pins σ H' s' := by
  obtain ⟨h', g', d', t', o'⟩ := s'
  have e : o' = s.os := ho
  subst e
  exact I.call (g' := g') (t' := t') (d' := d') u hok hg hch
end
abbrev XK := Value → Option Addr → Hp → Prop
abbrev St := List (Option V)
abbrev VK := V → Hp → Prop
abbrev TE := St → Hp → VK → Prop
abbrev TT := St → Hp → (Bool → Hp → Prop) → Prop
abbrev TA := St → Hp → (List V → Hp → Prop) → Prop
structure Ends where
  nx : St → Hp → Prop
  rt : VK
  bk : St → Hp → Prop := fun _ _ => False
  ct : St → Hp → Prop := fun _ _ => False
abbrev TS := Ends → St → Hp → Prop
def EP (X : Cx) (pins : List (Addr × Obj)) (σ : St) (Q : VK) (u : Value) (s' : Shared) : Prop := ∃ v H', Inv X pins σ H' s' ∧ RelV v u ∧ Q v H'
def TP (X : Cx) (pins : List (Addr × Obj)) (σ : St) (Q : Bool → Hp → Prop) (b : Bool) (s' : Shared) : Prop := ∃ H', Inv X pins σ H' s' ∧ Q b H'
def AP (X : Cx) (pins : List (Addr × Obj)) (σ : St) (Q : List V → Hp → Prop) (us : List Value) (s' : Shared) : Prop := ∃ vs H', Inv X pins σ H' s' ∧ Vals vs us ∧ Q vs H'
def SP (X : Cx) (pins : List (Addr × Obj)) (D : Ends) (f : Flow) (s' : Shared) : Prop :=
  match f with
  | .next => ∃ σ' H', Inv X pins σ' H' s' ∧ D.nx σ' H'
  | .brk => ∃ σ' H', Inv X pins σ' H' s' ∧ D.bk σ' H'
  | .cont => ∃ σ' H', Inv X pins σ' H' s' ∧ D.ct σ' H'
  | .ret u => ∃ v σ' H', Inv X pins σ' H' s' ∧ RelV v u ∧ D.rt v H'
def PE (X : Cx) (e : Expr) (t : TE) : Prop :=
  ∀ (pins : List (Addr × Obj)) (s : Shared) (σ : St) (H : Hp) (Q : VK), Inv X pins σ H s → t σ H Q → wpAny (model X.prog X.w) X.A (eval e X.env) (EP X pins σ Q) X.xe s
def PT (X : Cx) (e : Expr) (t : TT) : Prop :=
  ∀ (pins : List (Addr × Obj)) (s : Shared) (σ : St) (H : Hp) (Q : Bool → Hp → Prop), Inv X pins σ H s → t σ H Q → wpAny (model X.prog X.w) X.A (isTrue e X.env (eval e X.env)) (TP X pins σ Q) X.xe s
def PW (X : Cx) (e : Expr) (t : TT) : Prop :=
  ∀ (whole : Sem Value) (pins : List (Addr × Obj)) (s : Shared) (σ : St) (H : Hp) (Q : Bool → Hp → Prop), Inv X pins σ H s → t σ H Q → wpAny (model X.prog X.w) X.A (isTrue e X.env whole) (TP X pins σ Q) X.xe s
theorem PW.pt {X : Cx} {e : Expr} {t : TT} (h : PW X e t) : PT X e t := h _
def PA (X : Cx) (es : List Expr) (t : TA) : Prop :=
  ∀ (pos : Pos) (pins : List (Addr × Obj)) (s : Shared) (σ : St) (H : Hp) (Q : List V → Hp → Prop), Inv X pins σ H s → t σ H Q → wpAny (model X.prog X.w) X.A (spliced (backTo pos (starEach es X.env))) (AP X pins σ Q) X.xe s
def PS (X : Cx) (st : Stmt) (t : TS) : Prop :=
  ∀ (pins : List (Addr × Obj)) (s : Shared) (σ : St) (H : Hp) (D : Ends), Inv X pins σ H s → t D σ H → wpAny (model X.prog X.w) X.A (exec st X.env) (SP X pins D) X.xe s
def PSs (X : Cx) (st : List Stmt) (t : TS) : Prop :=
  ∀ (pins : List (Addr × Obj)) (s : Shared) (σ : St) (H : Hp) (D : Ends), Inv X pins σ H s → t D σ H → wpAny (model X.prog X.w) X.A (execs st X.env) (SP X pins D) X.xe s
theorem thn {α : Type} {t : Sem α} {Q Q' : α → Shared → Prop} {M : Model} {A : Around} {E : Value → Shared → Prop} {s : Shared} (h : wpAny M A t Q E s) (hQ : ∀ a s, Q a s → Q' a s) : wpAny M A t Q' E s := wpAny_mono h hQ fun _ _ x => x
end L2
namespace L2
open PySem PySem.Spec PyProof.Rows
section
variable {X : Cx}
def tVar (i : Nat) : TE := fun σ H Q => ∃ v, σ[i]? = some (some v) ∧ Q v H
def tC (v : V) : TE := fun _ H Q => Q v H
theorem pe_var {i : Nat} {x : Str} {pos : Pos} (hN : X.N[i]? = some x) (hv : Vis X.env.scope x) (hd : (x == ("__debug__" : Str)) = false := by decide) (hcd : (x == ("__classdict__" : Str)) = false := by decide) : PE X (.Name x pos) (tVar i) := by
  intro pins s σ H Q I h
  obtain ⟨v, e, h⟩ := h
  obtain ⟨m, hn, hl⟩ := I.loc
  obtain ⟨u, r, l⟩ := hl i x v hN e hv
  have fin : EP X pins σ Q u s := ⟨v, H, I, r, h⟩
  rcases l with ⟨hk, hm⟩ | ⟨hk, c, hc, hcell⟩
  · exact wpAny_Name (wpAny_loadName_local I.ok.kind hk hn hm fin) hd
  · rcases hk with hk | hk
    · exact wpAny_Name (wpAny_loadName_cell I.ok.kind hk hc hcell fin) hd
    · exact wpAny_Name (wpAny_loadName_free I.ok.kind hk hc hcell fin hcd) hd
theorem pe_int {i j pos} : PE X (.Constant (.int i) j pos) (tC (.int i)) := fun _ _ _ H _ I h => wpAny_Constant_int ⟨.int i, H, I.tok _, ⟨_, rfl⟩, h⟩
theorem pe_bl {b j pos} : PE X (.Constant (.bool b) j pos) (tC (.bl b)) := fun _ _ _ H _ I h => Constant_bool ⟨.bl b, H, I, rfl, h⟩
theorem pe_non {j pos} : PE X (.Constant .none j pos) (tC .non) := fun _ _ _ H _ I h => Constant_none ⟨.non, H, I, rfl, h⟩
theorem pe_str {x j pos} : PE X (.Constant (.str x) j pos) (tC (.str x)) := fun _ _ _ H _ I h => Calls.Constant_str ⟨.str x, H, I.tok _, ⟨_, rfl⟩, h⟩
def Gl (X : Cx) (x : Str) : Prop := X.env.kindOf x = some .globalImplicit
theorem ld_glob {E : Value → Shared → Prop} {pins : List (Addr × Obj)} {s : Shared} {σ : St} {H : Hp} {x : Str} {u : Value} {pos : Pos} {Q : Value → Shared → Prop} (I : Inv X pins σ H s) (hg : Gl X x) (hm : X.mg x = some u) (h : Q u s)
    (hd : (x == ("__debug__" : Str)) = false := by decide) : wpAny (model X.prog X.w) X.A (eval (.Name x pos) X.env) Q E s :=
  Calls.Name_function_global I.ok.kind hg (Calls.loadGlobal_global (by rw [I.ok.glob]; exact I.mod.glob.keeps I.bk) hm h) hd
theorem ld_blt {E : Value → Shared → Prop} {pins : List (Addr × Obj)} {s : Shared} {σ : St} {H : Hp} {x : Str} {u : Value} {pos : Pos} {Q : Value → Shared → Prop} (I : Inv X pins σ H s) (hg : Gl X x) (hm : X.mg x = none) (hv : bootBuiltins x = some u) (h : Q u s)
    (hn : x ≠ "__name__" := by decide) (hd : (x == ("__debug__" : Str)) = false := by decide) : wpAny (model X.prog X.w) X.A (eval (.Name x pos) X.env) Q E s := by
  obtain ⟨mb, h1, h2⟩ := I.mod.blt
  exact Calls.Name_function_global I.ok.kind hg (Calls.loadGlobal_builtin (by rw [I.ok.glob]; exact I.mod.glob.keeps I.bk) hm (by rw [I.ok.blt]; exact h1.keeps I.bk) ((h2 x hn).trans hv) h) hd
theorem pe_glob {x : Str} {v : V} {u : Value} {pos : Pos} (hg : Gl X x) (hm : X.mg x = some u) (r : RelV v u) (hd : (x == ("__debug__" : Str)) = false := by decide) : PE X (.Name x pos) (tC v) :=
  fun _ _ _ H _ I h => ld_glob I hg hm ⟨v, H, I, r, h⟩ hd
theorem pe_bltn {x : Str} {v : V} {u : Value} {pos : Pos} (hg : Gl X x) (hm : X.mg x = none) (hv : bootBuiltins x = some u) (r : RelV v u) (hn : x ≠ "__name__" := by decide) (hd : (x == ("__debug__" : Str)) = false := by decide) : PE X (.Name x pos) (tC v) :=
  fun _ _ _ H _ I h => ld_blt I hg hm hv ⟨v, H, I, r, h⟩ hn hd
variable {a b : Expr} {ta tb : TE} {pos : Pos}
def tB (t : TE) : TT := fun σ H Q => t σ H fun x H1 => ∃ c, x = .bl c ∧ Q c H1
theorem pt_val {e : Expr} {t : TE} (h : PE X e t) (he : ∀ whole, isTrue e X.env whole = (do let v ← whole; standAt e.pos; holding [v] (truthy v)) := by intro _; rfl) : PT X e (tB t) := by
  intro pins s σ H Q I hw
  refine isTrue_plain (thn (h pins s σ H _ I hw) fun v s1 ⟨x, H1, I1, r1, q1⟩ => ?_) (he _)
  obtain ⟨d, rfl, q⟩ := q1
  cases r1
  exact wpAny_truthy_bool ⟨H1, I1, q⟩
variable {tA tB' : TT} {rest : List Expr}
def tAnd (t u : TT) : TT := fun σ H Q => t σ H fun c H1 => if c = true then u σ H1 Q else Q false H1
def tOr (t u : TT) : TT := fun σ H Q => t σ H fun c H1 => if c = true then Q true H1 else u σ H1 Q
def tNot (t : TT) : TT := fun σ H Q => t σ H fun c H1 => Q (!c) H1
theorem pw_and1 (ha : PT X a tA) : PW X (.BoolOp .And [a] pos) tA := by
  intro wh pins s σ H Q I h
  refine isTrue_and (thn (ha pins s σ H Q I h) fun c s1 e => ?_)
  cases c with
  | true => exact isTrue_and_nil e
  | false => exact e
theorem pw_or1 (ha : PT X a tA) : PW X (.BoolOp .Or [a] pos) tA := by
  intro wh pins s σ H Q I h
  refine isTrue_or (thn (ha pins s σ H Q I h) fun c s1 e => ?_)
  cases c with
  | false => exact isTrue_or_nil e
  | true => exact e
theorem pw_and (ha : PT X a tA) (hb : PW X (.BoolOp .And (b :: rest) pos) tB') : PW X (.BoolOp .And (a :: b :: rest) pos) (tAnd tA tB') := by
  intro wh pins s σ H Q I h
  refine isTrue_and (thn (ha pins s σ H _ I h) fun c s1 ⟨H1, I1, q1⟩ => ?_)
  cases c with
  | true => exact hb wh pins s1 σ H1 Q I1 q1
  | false => exact ⟨H1, I1, q1⟩
theorem pw_or (ha : PT X a tA) (hb : PW X (.BoolOp .Or (b :: rest) pos) tB') : PW X (.BoolOp .Or (a :: b :: rest) pos) (tOr tA tB') := by
  intro wh pins s σ H Q I h
  refine isTrue_or (thn (ha pins s σ H _ I h) fun c s1 ⟨H1, I1, q1⟩ => ?_)
  cases c with
  | true => exact ⟨H1, I1, q1⟩
  | false => exact hb wh pins s1 σ H1 Q I1 q1
theorem pt_not (ha : PT X a tA) : PT X (.UnaryOp .Not a pos) (tNot tA) := by
  intro pins s σ H Q I h
  exact isTrue_not (ha pins s σ H (fun c H1 => Q (!c) H1) I h)
def tAndV (ta tb : TE) : TE := fun σ H Q => ta σ H fun x H1 => ∃ c, x = .bl c ∧ if c = true then tb σ H1 Q else Q (.bl false) H1
theorem pe_one {op} {t : TE} (h : PE X a t) : PE X (.BoolOp op [a] pos) t := fun pins s σ H Q I hw => BoolOp_one (h pins s σ H Q I hw)
theorem pe_and (ha : PE X a ta) (hb : PE X (.BoolOp .And (b :: rest) pos) tb) : PE X (.BoolOp .And (a :: b :: rest) pos) (tAndV ta tb) := by
  intro pins s σ H Q I h
  refine BoolOp_and (thn (ha pins s σ H _ I h) fun v s1 ⟨x, H1, I1, r1, q1⟩ => ?_)
  obtain ⟨c, rfl, q1⟩ := q1
  cases r1
  refine wpAny_truthy_bool ?_
  cases c with
  | true => exact hb pins s1 σ H1 Q I1 q1
  | false => exact ⟨.bl false, H1, I1, rfl, q1⟩
def tIf (t : TT) (ta tb : TE) : TE := fun σ H Q => t σ H fun c H1 => if c = true then ta σ H1 Q else tb σ H1 Q
theorem pe_ifExp {c : Expr} (hc : PT X c tA) (ha : PE X a ta) (hb : PE X b tb) : PE X (.IfExp c a b pos) (tIf tA ta tb) := by
  intro pins s σ H Q I h
  refine wpAny_IfExp (thn (hc pins s σ H _ I h) fun d s1 ⟨H1, I1, q1⟩ => ?_)
  cases d with
  | true => exact ha pins s1 σ H1 Q I1 q1
  | false => exact hb pins s1 σ H1 Q I1 q1
end
end L2
namespace L2
open PySem PySem.Spec PyProof.Rows
def SqL (K : PySem.W.Frag) (H : Hp) (a : Addr) (xs : List V) : Prop :=
  Rd H a (.lst xs) ∨
    ∃ (o : Obj) (its : Array Value) (n : Nat), K.lookup a = some o ∧ o.cls = .type "list" ∧ o.dict = none ∧ o.data = .seq its n ∧ its.size ≤ sizeLine ∧ Vals xs its.toList
def SqT (K : PySem.W.Frag) (H : Hp) (a : Addr) (xs : List V) : Prop :=
  Rd H a (.tup xs) ∨
    ∃ (o : Obj) (its : Array Value) (n : Nat), K.lookup a = some o ∧ o.cls = .type "tuple" ∧ o.data = .seq its n ∧ its.size ≤ sizeLine ∧ Vals xs its.toList
def absV : Value → Option V
  | .none => some .non
  | .bool b => some (.bl b)
  | .int i _ => some (.int i)
  | .str x _ => some (.str x)
  | .bytes b _ => some (.byt b)
  | .float b _ => some (.flt b)
  | .ref a => some (.ref a)
  | .type n => some (.ty n)
  | _ => none
theorem RelV.abs {x : V} {u : Value} (r : RelV x u) : absV u = some x := by
  cases x with
  | non => cases r; rfl
  | bl _ => cases r; rfl
  | int _ => obtain ⟨t, rfl⟩ := r; rfl
  | str _ => obtain ⟨t, rfl⟩ := r; rfl
  | byt _ => obtain ⟨t, rfl⟩ := r; rfl
  | flt _ => obtain ⟨t, rfl⟩ := r; rfl
  | ref _ => cases r; rfl
  | ty _ => cases r; rfl
theorem RelV.inj {x y : V} {u : Value} (r : RelV x u) (q : RelV y u) : x = y := Option.some.inj (r.abs.symm.trans q.abs)
theorem Vals.inj : ∀ {xs ys : List V} {us : List Value}, Vals xs us → Vals ys us → xs = ys
  | _, _, _, .nil, .nil => rfl
  | _, _, _, .cons r t, .cons r' t' => by rw [r.inj r', Vals.inj t t']
section
variable {X : Cx} {pins : List (Addr × Obj)} {σ : St} {H : Hp} {s : Shared} {a : Addr} {xs ys : List V}
theorem SqL.of {K : PySem.W.Frag} (h : H a = some (.lst xs)) : SqL K H a xs := .inl (.inl h)
theorem SqT.of {K : PySem.W.Frag} (h : H a = some (.tup xs)) : SqT K H a xs := .inl (.inl h)
theorem Inv.list (I : Inv X pins σ H s) (h : SqL X.K H a xs) : ∃ its : List Value, Vals xs its ∧ PlainL s.heap a its.toArray ∧ xs.length ≤ sizeLine := by
  rcases h with h | ⟨o, its, n, hk, hc, hd, hs, hz, r⟩
  · obtain ⟨z, its, n, r, e⟩ := h.ok I.hok
    exact ⟨its, r, ⟨_, n, e, rfl, rfl, rfl⟩, z⟩
  · refine ⟨its.toList, r, ⟨o, n, I.kIn a o hk, hc, hd, by simpa using hs⟩, ?_⟩
    have e := r.length
    simp only [Array.length_toList] at e
    omega
theorem Inv.tuple (I : Inv X pins σ H s) (h : SqT X.K H a xs) : ∃ its : List Value, Vals xs its ∧ IsTup s.heap a its.toArray ∧ xs.length ≤ sizeLine := by
  rcases h with h | ⟨o, its, n, hk, hc, hs, hz, r⟩
  · obtain ⟨z, its, r, p⟩ := h.ok I.hok
    exact ⟨its, r, p, z⟩
  · refine ⟨its.toList, r, ⟨o, I.kIn a o hk, hc, n, by simpa using hs⟩, ?_⟩
    have e := r.length
    simp only [Array.length_toList] at e
    omega
theorem Inv.list_inj (I : Inv X pins σ H s) (h : SqL X.K H a xs) (h' : SqL X.K H a ys) : xs = ys := by
  obtain ⟨its, r, ⟨o, n, e, _, _, d⟩, _⟩ := I.list h
  obtain ⟨its', r', ⟨o', n', e', _, _, d'⟩, _⟩ := I.list h'
  rw [e] at e'; cases e'
  rw [d] at d'
  injection d' with d1 _
  have : its = its' := by simpa using congrArg Array.toList d1
  subst this
  exact r.inj r'
theorem Inv.tuple_inj (I : Inv X pins σ H s) (h : SqT X.K H a xs) (h' : SqT X.K H a ys) : xs = ys := by
  obtain ⟨its, r, ⟨o, e, _, n, d⟩, _⟩ := I.tuple h
  obtain ⟨its', r', ⟨o', e', _, n', d'⟩, _⟩ := I.tuple h'
  rw [e] at e'; cases e'
  rw [d] at d'
  injection d' with d1 _
  have : its = its' := by simpa using congrArg Array.toList d1
  subst this
  exact r.inj r'
end
abbrev Cx.wish (X : Cx) (E : Value → Shared → Prop) : Cx := { X with xe := E }
abbrev Cx.nox (X : Cx) : Cx := X.wish fun _ _ => False
theorem Cx.Ok.wish {X : Cx} (ok : X.Ok) (E : Value → Shared → Prop) : (X.wish E).Ok :=
  ⟨ok.mod, ok.kind, ok.glob, ok.blt, ok.above, ok.inj, ok.has, ok.cab, ok.hd, ok.frames, ok.stk, ok.exf, ok.bs, ok.bsz, ok.noex, ok.exfs, ok.funs, ok.frf⟩
theorem Cx.Ok.unwish {X : Cx} {E : Value → Shared → Prop} (ok : (X.wish E).Ok) : X.Ok :=
  ⟨ok.mod, ok.kind, ok.glob, ok.blt, ok.above, ok.inj, ok.has, ok.cab, ok.hd, ok.frames, ok.stk, ok.exf, ok.bs, ok.bsz, ok.noex, ok.exfs, ok.funs, ok.frf⟩
section
variable {X : Cx} {pins : List (Addr × Obj)} {σ : St} {H : Hp} {s : Shared} {E : Value → Shared → Prop}
theorem Inv.wish (I : Inv X pins σ H s) (E : Value → Shared → Prop) : Inv (X.wish E) pins σ H s := ⟨I.ok.wish E, I.os, I.bare, I.base, I.loc, I.cell, I.free, I.freeC, I.pin, I.hok, I.len⟩
theorem Inv.unwish (I : Inv (X.wish E) pins σ H s) : Inv X pins σ H s := ⟨I.ok.unwish, I.os, I.bare, I.base, I.loc, I.cell, I.free, I.freeC, I.pin, I.hok, I.len⟩
theorem SP.unwish {D : Ends} {f : Flow} {s' : Shared} (h : SP (X.wish E) pins D f s') : SP X pins D f s' := by
  cases f with
  | next => obtain ⟨σ', H', I, q⟩ := h; exact ⟨σ', H', I.unwish, q⟩
  | brk => obtain ⟨σ', H', I, q⟩ := h; exact ⟨σ', H', I.unwish, q⟩
  | cont => obtain ⟨σ', H', I, q⟩ := h; exact ⟨σ', H', I.unwish, q⟩
  | ret u => obtain ⟨v, σ', H', I, r, q⟩ := h; exact ⟨v, σ', H', I.unwish, r, q⟩
theorem PE.nox {e : Expr} {t : TE} (h : PE X.nox e t) : PE X e t := fun pins s σ H Q I hw =>
  wpAny_mono (h pins s σ H Q (I.wish _) hw) (fun _ _ ⟨v, H', I', r, q⟩ => ⟨v, H', I'.unwish, r, q⟩) fun _ _ z => False.elim z
theorem PT.nox {e : Expr} {t : TT} (h : PT X.nox e t) : PT X e t := fun pins s σ H Q I hw =>
  wpAny_mono (h pins s σ H Q (I.wish _) hw) (fun _ _ ⟨H', I', q⟩ => ⟨H', I'.unwish, q⟩) fun _ _ z => False.elim z
theorem PSs.nox {st : List Stmt} {t : TS} (h : PSs X.nox st t) : PSs X st t := fun pins s σ H D I hw =>
  wpAny_mono (h pins s σ H D (I.wish _) hw) (fun _ _ q => q.unwish) fun _ _ z => False.elim z
end
section
variable {X : Cx} {st : Stmt} {rest : List Stmt} {t u : TS} {e : Expr} {te : TE} {pos : Pos}
def tNext : TS := fun D σ H => D.nx σ H
def tSeq (t u : TS) : TS := fun D σ H => t { D with nx := u D } σ H
theorem pss_nil : PSs X [] tNext := fun _ _ σ H _ I h => wpAny_execs_nil ⟨σ, H, I, h⟩
theorem pss_cons (h1 : PS X st t) (h2 : PSs X rest u) : PSs X (st :: rest) (tSeq t u) := by
  intro pins s σ H D I h
  refine wpAny_execs_cons (thn (h1 pins s σ H { D with nx := u D } I h) fun f s1 q => ?_)
  cases f with
  | next =>
    obtain ⟨σ', H', I', q⟩ := q
    exact h2 pins s1 σ' H' D I' q
  | ret v => exact q
  | brk => exact q
  | cont => exact q
theorem pss_one (h1 : PS X st t) : PSs X [st] t := by
  intro pins s σ H D I h
  refine wpAny_execs_cons (thn (h1 pins s σ H D I h) fun f s1 q => ?_)
  cases f with
  | next => exact wpAny_execs_nil q
  | ret v => exact q
  | brk => exact q
  | cont => exact q
theorem Inv.quiet {pins : List (Addr × Obj)} {σ : St} {H : Hp} {s : Shared} (I : Inv X pins σ H s) : interactive X.env = false := by simp [interactive, I.ok.kind]
def tDrop (te : TE) : TS := fun D σ H => te σ H fun _ H1 => D.nx σ H1
theorem ps_expr (he : PE X e te) (hs : swapsWith e none pos.line X.env = pure false := by rfl) : PS X (.Expr e pos) (tDrop te) := by
  intro pins s σ H D I h
  exact wpAny_Expr_any (thn (he pins s σ H _ I h) fun v s1 ⟨x, H1, I1, r1, q1⟩ => ⟨σ, H1, I1, q1⟩) I.quiet hs
def tRet (te : TE) : TS := fun D σ H => te σ H D.rt
theorem ps_ret (he : PE X e te) : PS X (.Return (some e) pos) (tRet te) := by
  intro pins s σ H D I h
  exact wpAny_Return_some (thn (he pins s σ H _ I h) fun v s1 ⟨x, H1, I1, r1, q1⟩ => ⟨x, σ, H1, I1, r1, q1⟩)
def tIfS (c : TT) (t u : TS) : TS := fun D σ H => c σ H fun b H1 => if b = true then t D σ H1 else u D σ H1
theorem ps_if {c : Expr} {a b : List Stmt} {tc : TT} (hc : PT X c tc) (ha : PSs X a t) (hb : PSs X b u) : PS X (.If c a b pos) (tIfS tc t u) := by
  intro pins s σ H D I h
  refine wpAny_If (thn (hc pins s σ H _ I h) fun d s1 ⟨H1, I1, q1⟩ => ?_)
  cases d with
  | true => exact ha pins s1 σ H1 D I1 q1
  | false => exact hb pins s1 σ H1 D I1 q1
end
abbrev TG := V → St → Hp → (St → Hp → Prop) → Prop
abbrev TGs := List V → St → Hp → (St → Hp → Prop) → Prop
def PG (X : Cx) (target : Expr) (t : TG) : Prop :=
  ∀ (pins : List (Addr × Obj)) (s : Shared) (σ : St) (H : Hp) (v : V) (u : Value) (Q : St → Hp → Prop), Inv X pins σ H s → RelV v u → t v σ H Q →
    wpAny (model X.prog X.w) X.A (assign target X.env u) (fun _ s' => ∃ σ' H', Inv X pins σ' H' s' ∧ Q σ' H') X.xe s
def PGs (X : Cx) (ts : List Expr) (t : TGs) : Prop :=
  ∀ (pins : List (Addr × Obj)) (s : Shared) (σ : St) (H : Hp) (vs : List V) (us : List Value) (Q : St → Hp → Prop), Inv X pins σ H s → Vals vs us → t vs σ H Q →
    wpAny (model X.prog X.w) X.A (assignInOrder ((assignEach ts X.env).map (·.2)) us) (fun _ s' => ∃ σ' H', Inv X pins σ' H' s' ∧ Q σ' H') X.xe s
section
variable {X : Cx} {pos : Pos}
def gName (i : Nat) : TG := fun v σ H Q => Q (σ.set i (some v)) H
theorem pg_name {i : Nat} {x : Str} (hN : X.N.Nodup) (hi : X.N[i]? = some x) (hx : Loc X.env.scope x) (hf : X.fn x = true ∨ X.env.scope.names.lookup x = some .local := by first | exact .inl rfl | exact .inr rfl | assumption) : PG X (.Name x pos) (gName i) := by
  intro pins s σ H v u Q I r h
  exact wpAny_assign_Name (store_ok I hN hi hx r (fun s' I' => ⟨_, H, I', h⟩) hf)
def gNil : TGs := fun vs σ H Q => vs = [] ∧ Q σ H
def gCons (t : TG) (u : TGs) : TGs := fun vs σ H Q => ∃ v r, vs = v :: r ∧ t v σ H fun σ' H' => u r σ' H' Q
theorem pgs_nil : PGs X [] gNil := by
  intro pins s σ H vs us Q I r h
  obtain ⟨e, h⟩ := h
  subst e
  cases r
  exact assignInOrder_nil ⟨σ, H, I, h⟩
theorem pgs_cons {e : Expr} {es : List Expr} {t : TG} {u : TGs} (h1 : PG X e t) (h2 : PGs X es u)
    (hs : (assignEach (e :: es) X.env).map (·.2) = assign e X.env :: (assignEach es X.env).map (·.2) := by rfl) : PGs X (e :: es) (gCons t u) := by
  intro pins s σ H vs us Q I r h
  obtain ⟨v, vr, e1, h⟩ := h
  subst e1
  cases r with
  | cons r rr =>
    rw [hs]
    refine assignInOrder_cons (thn (h1 pins s σ H _ _ _ I r h) fun _ s1 ⟨σ1, H1, I1, q1⟩ => ?_)
    exact h2 pins s1 σ1 H1 _ _ Q I1 rr q1
def gTup (K : PySem.W.Frag) (n : Nat) (t : TGs) : TG := fun v σ H Q => ∃ a xs, v = .ref a ∧ SqT K H a xs ∧ xs.length = n ∧ t xs σ H Q
theorem pg_tup {es : List Expr} {k : Nat} {t : TGs} {n : Nat} (hc : X.calm = true) (h : PGs X es t)
    (hn : (assignEach es X.env).length = n := by rfl) (hst : (assignEach es X.env).findIdx? (·.1) = none := by rfl) : PG X (.Tuple es k pos) (gTup X.K n t) := by
  intro pins s σ H v u Q I r hw
  obtain ⟨a, xs, e1, hq, hl, hw⟩ := hw
  subst e1
  cases r
  obtain ⟨its, rv, ht, hz⟩ := I.tuple hq
  refine assign_Tuple_tuple (I.ok.hd hc) ht (by simp [hn, ← hl, rv.length]) hst fun h' hx => ?_
  have I1 : Inv X pins σ H { s with heap := h' } := I.kept (t' := s.toks) fun b o e => hx b o (Nat.ne_of_lt (Heap.lt_size e)) e
  exact h pins _ σ H xs _ Q I1 (by simpa using rv) hw
def tAsg (te : TE) (g : TG) : TS := fun D σ H => te σ H fun x H1 => g x σ H1 D.nx
theorem ps_set {i : Nat} {x : Str} {e : Expr} {te : TE} {pos' : Pos} (hN : X.N.Nodup) (hi : X.N[i]? = some x) (hx : Loc X.env.scope x) (he : PE X e te) (hs : swapsWith e (some (.Name x pos')) pos.line X.env = pure false := by rfl) (hf : X.fn x = true ∨ X.env.scope.names.lookup x = some .local := by first | exact .inl rfl | exact .inr rfl | assumption) :
    PS X (.Assign [.Name x pos'] e pos) (tAsg te (gName i)) := by
  intro pins s σ H D I h
  refine wpAny_Assign_Name (thn (he pins s σ H _ I h) fun v s1 ⟨y, H1, I1, r1, q1⟩ => ?_) hs
  exact store_ok I1 hN hi hx r1 (fun s2 I2 => ⟨_, H1, I2, q1⟩) hf
end
section
variable {X : Cx} {pos : Pos}
end
structure It where
  go : Nat → Hp → Prop
  yld : Nat → Hp → V → Hp → Prop
  stop : Nat → Hp → Prop
def FpOk (X : Cx) (pins : List (Addr × Obj)) (H : Hp) (b : Addr) : Prop :=
  H b = none ∧ b ≠ X.env.locals ∧ b ∉ X.fs ∧ (b ∈ X.ex ∨ X.s₀.heap.objs.size ≤ b) ∧ (∀ x c, X.env.cells.lookup x = some c → c ≠ b) ∧ ∀ p ∈ X.pn ++ pins, p.1 ≠ b
theorem Inv.fpOk {X : Cx} {pins : List (Addr × Obj)} {σ : St} {H H' : Hp} {s : Shared} {b : Addr} (I : Inv X pins σ H s) (hb : s.heap.objs.size ≤ b) (hn : H' b = none) : FpOk X pins H' b := by
  refine ⟨hn, Nat.ne_of_gt (Nat.lt_of_lt_of_le I.lt hb), I.nofs hb, .inr (Nat.le_trans I.sz hb), fun x c e z => ?_, fun p hp z => ?_⟩
  · obtain ⟨v, q⟩ := I.cell x c e
    exact absurd (Nat.lt_of_lt_of_le q.lt (by rw [z]; exact hb)) (Nat.lt_irrefl _)
  · exact absurd (Nat.lt_of_lt_of_le (Heap.lt_size (I.pin p hp).1) (by rw [z]; exact hb)) (Nat.lt_irrefl _)
structure Turn (P : Program) (w : World) (K : PySem.W.Frag) (tg : Expr) (J : It) (fp : List Addr) (it : Addr) (tn : Nat → Heap → Prop) : Prop where
  mem : it ∈ fp
  obj : ∀ i h, tn i h → ∀ b ∈ fp, ∃ o, h.get? b = some o ∧ ∀ v, o.data ≠ .cell v
  keep : ∀ i h h', tn i h → (∀ b ∈ fp, ∀ o, h.get? b = some o → h'.get? b = some o) → tn i h'
  item : ∀ (X : Cx), X.prog = P → X.w = w → X.K = K → X.calm = true → ∀ (i : Nat) (pins : List (Addr × Obj)) (s : Shared) (σ : St) (H : Hp) (E : Value → Shared → Prop), Inv X pins σ H s → (∀ b ∈ fp, FpOk X pins H b) → tn i s.heap → J.go i H →
    wpAny (model P w) X.A (pyNext (.ref it)) (fun r s1 => ∃ u, r = some u ∧
      wpAny (model P w) X.A (letOwnedTupleGo tg (.ref it) u) (fun _ s2 => ∃ x H', Inv X pins σ H' s2 ∧ RelV x u ∧ J.yld i H x H' ∧ tn (i + 1) s2.heap ∧ ∀ b ∈ fp, H' b = none) E s1) E s
  done : ∀ (X : Cx), X.prog = P → X.w = w → X.K = K → X.calm = true → ∀ (i : Nat) (pins : List (Addr × Obj)) (s : Shared) (σ : St) (H : Hp) (E : Value → Shared → Prop), Inv X pins σ H s → (∀ b ∈ fp, FpOk X pins H b) → tn i s.heap → J.stop i H →
    wpAny (model P w) X.A (pyNext (.ref it)) (fun r s1 => r = none ∧ Inv X pins σ H s1) E s
  self : ∀ (A : Around) (i : Nat) (s : Shared) (Q : Value → Shared → Prop) (E : Value → Shared → Prop), tn i s.heap → Q (.ref it) s → wpAny (model P w) A (pyIter (.ref it)) Q E s
abbrev TI := St → Hp → (It → Hp → Prop) → Prop
def PIE (X : Cx) (pins : List (Addr × Obj)) (σ : St) (tg : Expr) (R : It → Hp → Prop) (itv : Value) (s2 : Shared) : Prop :=
  ∃ (it : Addr) (fp : List Addr) (tn : Nat → Heap → Prop) (J : It) (H' : Hp), itv = .ref it ∧ Inv X pins σ H' s2 ∧ Turn X.prog X.w X.K tg J fp it tn ∧ tn 0 s2.heap ∧ (∀ b ∈ fp, FpOk X pins H' b) ∧ R J H'
def PI (X : Cx) (tg iter : Expr) (wi : TI) : Prop :=
  ∀ (pins : List (Addr × Obj)) (s : Shared) (σ : St) (H : Hp) (R : It → Hp → Prop), Inv X pins σ H s → wi σ H R →
    wpAny (model X.prog X.w) X.A (eval iter X.env) (fun v s1 => wpAny (model X.prog X.w) X.A (pyIter v) (PIE X pins σ tg R) X.xe s1) X.xe s
theorem go_of {M : Model} {A : Around} {E : Value → Shared → Prop} {s : Shared} {tg : Expr} {it : Addr} {u : Value} {o : Obj} {n : String} {vs : Array Value} {Q : Unit → Shared → Prop} (ho : s.heap.get? it = some o) (hc : o.cls = .type n) (hd : o.data = .fields vs)
    (hn : ["enumerate", "zip", "dict_itemiterator", "dict_reverseitemiterator", "odict_iterator", "itertools.zip_longest", "itertools.pairwise"].contains n = false) (hQ : Q () s) : wpAny M A (letOwnedTupleGo tg (.ref it) u) Q E s := by
  unfold letOwnedTupleGo
  cases tg <;> first
    | exact wpAny_pure hQ
    | (cases u <;> first
        | exact wpAny_pure hQ
        | (refine wpAny_bind (wpAny_load ho ?_)
           rw [hc, hd]
           show wpAny M A (if (["enumerate", "zip", "dict_itemiterator", "dict_reverseitemiterator", "odict_iterator", "itertools.zip_longest", "itertools.pairwise"].contains n && vs[0]? == some (rawInt _)) = true then _ else _) Q E s
           rw [if_neg (by intro h; rw [hn, Bool.false_and] at h; cases h)]
           exact wpAny_pure hQ))
def Itl (K : PySem.W.Frag) (a : Addr) : It :=
  ⟨fun i H => ∃ xs x, SqL K H a xs ∧ xs[i]? = some x, fun i H x H' => H' = H ∧ ∀ xs, SqL K H a xs → xs[i]? = some x, fun i H => ∃ xs, SqL K H a xs ∧ xs.length ≤ i⟩
def Itt (K : PySem.W.Frag) (a : Addr) : It :=
  ⟨fun i H => ∃ xs x, SqT K H a xs ∧ xs[i]? = some x, fun i H x H' => H' = H ∧ ∀ xs, SqT K H a xs → xs[i]? = some x, fun i H => ∃ xs, SqT K H a xs ∧ xs.length ≤ i⟩
def Itr (lo : Int) (n : Nat) : It := ⟨fun i _ => i < n, fun i H x H' => H' = H ∧ x = .int (lo + i), fun i _ => n ≤ i⟩
theorem turn_list {P : Program} {w : World} {K : PySem.W.Frag} {tg : Expr} (a it : Addr) : Turn P w K tg (Itl K a) [it] it (fun i h => h.IsListIter it a i) where
  mem := by simp
  obj := fun i h st b hb => by
    have e : b = it := by simpa using hb
    subst e
    obtain ⟨o, e, c, d⟩ := st
    exact ⟨o, e, fun v z => by rw [d] at z; cases z⟩
  keep := fun i h h' st k => st.at fun o e => k it (by simp) o e
  item := by
    intro X hP hw hK hc i pins s σ H E I hf st hg
    subst hP hw hK
    obtain ⟨xs, x, hq, hx⟩ := hg
    obtain ⟨its, rv, p, hz⟩ := I.list hq
    obtain ⟨u, hu, ru⟩ := rv.get hx
    obtain ⟨f0, f1, f2, f3, f4, f5⟩ := hf it (by simp)
    refine wpAny_pyNext_list_item st p.isList (x := u) (by simpa using hu) fun h' st' sb => ?_
    have I1 : Inv X pins σ H { s with heap := h' } := I.turned (t' := s.toks) (fun b o hb e => (sb.2 b hb).trans e) f0 f1 f3 f4 f5
    obtain ⟨o, e, c, d⟩ := id st'
    exact ⟨u, rfl, go_of (s := { s with heap := h' }) e c d (by decide) ⟨x, H, I1, ru, ⟨rfl, fun ys hy => by rw [I.list_inj hy hq]; exact hx⟩, st', fun b hb => (hf b hb).1⟩⟩
  done := by
    intro X hP hw hK hc i pins s σ H E I hf st hg
    subst hP hw hK
    obtain ⟨xs, hq, hx⟩ := hg
    obtain ⟨its, rv, p, hz⟩ := I.list hq
    obtain ⟨f0, f1, f2, f3, f4, f5⟩ := hf it (by simp)
    have hl := rv.length
    exact wpAny_pyNext_list_end (I.ok.hd hc) st p.isList (by simp; omega) fun h' eb => ⟨rfl, I.turned (t' := s.toks) (fun b o hb e => eb b o hb e) f0 f1 f3 f4 f5⟩
  self := fun _ _ _ _ _ st h => wpAny_pyIter_listiter st h
theorem turn_tuple {P : Program} {w : World} {K : PySem.W.Frag} {tg : Expr} (a it : Addr) : Turn P w K tg (Itt K a) [it] it (fun i h => h.IsTupleIter it a i) where
  mem := by simp
  obj := fun i h st b hb => by
    have e : b = it := by simpa using hb
    subst e
    obtain ⟨o, e, c, d⟩ := st
    exact ⟨o, e, fun v z => by rw [d] at z; cases z⟩
  keep := fun i h h' st k => st.at fun o e => k it (by simp) o e
  item := by
    intro X hP hw hK hc i pins s σ H E I hf st hg
    subst hP hw hK
    obtain ⟨xs, x, hq, hx⟩ := hg
    obtain ⟨its, rv, p, hz⟩ := I.tuple hq
    obtain ⟨u, hu, ru⟩ := rv.get hx
    obtain ⟨f0, f1, f2, f3, f4, f5⟩ := hf it (by simp)
    refine wpAny_pyNext_tuple_item st (show s.heap.IsTuple a its.toArray from p) (x := u) (by simpa using hu) fun h' st' sb => ?_
    have I1 : Inv X pins σ H { s with heap := h' } := I.turned (t' := s.toks) (fun b o hb e => (sb.2 b hb).trans e) f0 f1 f3 f4 f5
    obtain ⟨o, e, c, d⟩ := id st'
    exact ⟨u, rfl, go_of (s := { s with heap := h' }) e c d (by decide) ⟨x, H, I1, ru, ⟨rfl, fun ys hy => by rw [I.tuple_inj hy hq]; exact hx⟩, st', fun b hb => (hf b hb).1⟩⟩
  done := by
    intro X hP hw hK hc i pins s σ H E I hf st hg
    subst hP hw hK
    obtain ⟨xs, hq, hx⟩ := hg
    obtain ⟨its, rv, p, hz⟩ := I.tuple hq
    obtain ⟨f0, f1, f2, f3, f4, f5⟩ := hf it (by simp)
    have hl := rv.length
    exact wpAny_pyNext_tuple_end (I.ok.hd hc) st (show s.heap.IsTuple a its.toArray from p) (by simp; omega) fun h' eb => ⟨rfl, I.turned (t' := s.toks) (fun b o hb e => eb b o hb e) f0 f1 f3 f4 f5⟩
  self := fun _ _ _ _ _ st h => wpAny_pyIter_tupleiter st h
theorem turn_range {P : Program} {w : World} {K : PySem.W.Frag} {tg : Expr} (it : Addr) (lo : Int) (n : Nat) : Turn P w K tg (Itr lo n) [it] it (fun i h => IsRangeIter h it (lo + (i : Nat) * 1) ((n : Int) - (i : Nat)) 1) where
  mem := by simp
  obj := fun i h st b hb => by
    have e : b = it := by simpa using hb
    subst e
    exact ⟨_, st, fun v z => by
      have z' : Data.fields _ = Data.cell v := z
      cases z'⟩
  keep := fun i h h' st k => k it (by simp) _ st
  item := by
    intro X hP hw hK hc i pins s σ H E I hf st hg
    subst hP hw hK
    obtain ⟨f0, f1, f2, f3, f4, f5⟩ := hf it (by simp)
    have W := Walks.range (prog := X.prog) (w := X.w) (I.ok.hd hc) it lo 1 n
    refine W.item i s _ _ hg st fun v h' tk hv st' kk => ?_
    obtain ⟨t, rfl⟩ := hv
    have I1 : Inv X pins σ H { s with heap := h', toks := tk } := I.turned (fun b o hb e => kk b o (by simpa using hb) e) f0 f1 f3 f4 f5
    refine ⟨_, rfl, go_of (s := { s with heap := h', toks := tk }) (n := "range_iterator") st' rfl rfl (by decide) ⟨.int (lo + i), H, I1, ⟨t, ?_⟩, ⟨rfl, rfl⟩, st', fun b hb => (hf b hb).1⟩⟩
    rw [Int.mul_one]
  done := by
    intro X hP hw hK hc i pins s σ H E I hf st hg
    subst hP hw hK
    obtain ⟨f0, f1, f2, f3, f4, f5⟩ := hf it (by simp)
    exact wpAny_pyNext_range_end (I.ok.hd hc) st (by have : n ≤ i := hg; omega) fun h' eb => ⟨rfl, I.turned (t' := s.toks) (fun b o hb e => eb b o hb e) f0 f1 f3 f4 f5⟩
  self := fun _ _ _ _ _ st h => wpAny_pyIter_rangeiter st h
end L2
namespace L2
open PySem PySem.Spec PyProof.Rows
section
variable {X : Cx} {tg : Expr}
def iList (K : PySem.W.Frag) (tl : TE) : TI := fun σ H R => tl σ H fun x H1 => ∃ a, x = .ref a ∧ (∃ xs, SqL K H1 a xs) ∧ R (Itl K a) H1
def iTup (K : PySem.W.Frag) (tl : TE) : TI := fun σ H R => tl σ H fun x H1 => ∃ a, x = .ref a ∧ (∃ xs, SqT K H1 a xs) ∧ R (Itt K a) H1
theorem pi_list {l : Expr} {tl : TE} (hl : PE X l tl) : PI X tg l (iList X.K tl) := by
  intro pins s σ H R I h
  refine thn (hl pins s σ H _ I h) fun v s1 ⟨x, H1, I1, r1, q1⟩ => ?_
  obtain ⟨a, e, ⟨xs, hq⟩, q⟩ := q1
  subst e
  cases r1
  obtain ⟨its, rv, p, hz⟩ := I1.list hq
  refine wpAny_pyIter_list p.isList ?_
  refine ⟨s1.heap.objs.size, [s1.heap.objs.size], _, _, H1, rfl, I1.kept (t' := s1.toks) fun b o e => Heap.get?_push_of_some _ e, turn_list a _, ⟨_, Heap.get?_push_size _ rfl, rfl, rfl⟩, fun b hb => ?_, q⟩
  have e : b = s1.heap.objs.size := by simpa using hb
  subst e
  exact I1.fpOk (Nat.le_refl _) (I1.hok.fresh (Nat.le_refl _))
theorem pi_tup {l : Expr} {tl : TE} (hl : PE X l tl) : PI X tg l (iTup X.K tl) := by
  intro pins s σ H R I h
  refine thn (hl pins s σ H _ I h) fun v s1 ⟨x, H1, I1, r1, q1⟩ => ?_
  obtain ⟨a, e, ⟨xs, hq⟩, q⟩ := q1
  subst e
  cases r1
  obtain ⟨its, rv, p, hz⟩ := I1.tuple hq
  refine wpAny_pyIter_tuple (show s1.heap.IsTuple a its.toArray from p) ?_
  refine ⟨s1.heap.objs.size, [s1.heap.objs.size], _, _, H1, rfl, I1.kept (t' := s1.toks) fun b o e => Heap.get?_push_of_some _ e, turn_tuple a _, ⟨_, Heap.get?_push_size _ rfl, rfl, rfl⟩, fun b hb => ?_, q⟩
  have e : b = s1.heap.objs.size := by simpa using hb
  subst e
  exact I1.fpOk (Nat.le_refl _) (I1.hok.fresh (Nat.le_refl _))
theorem range_it {pins : List (Addr × Obj)} {σ : St} {H : Hp} {s : Shared} {R : It → Hp → Prop} {E : Value → Shared → Prop} {lo hi : Int} {t u v : Tok} {tk : Nat} (I : Inv X pins σ H s) (h1 : -(2 ^ 62) ≤ lo) (h2 : lo < 2 ^ 62) (h3 : -(2 ^ 62) ≤ hi) (h4 : hi < 2 ^ 62)
    (q : R (Itr lo (hi - lo).toNat) H) : wpAny (model X.prog X.w) X.A (pyIter (.ref s.heap.objs.size)) (PIE X pins σ tg R) E { s with heap := s.heap.push { cls := .type "range", data := .fields #[.int lo t, .int hi u, .int 1 v] }, toks := tk } := by
  refine wpAny_pyIter_range (IsRange.new ..) (small_one h1 h2 h3 h4) ?_
  have I1 : Inv X pins σ H { s with heap := s.heap.push { cls := .type "range", data := .fields #[.int lo t, .int hi u, .int 1 v] }, toks := tk } := I.kept fun b o e => Heap.get?_push_of_some _ e
  refine ⟨(s.heap.push { cls := .type "range", data := .fields #[.int lo t, .int hi u, .int 1 v] }).objs.size, [(s.heap.push { cls := .type "range", data := .fields #[.int lo t, .int hi u, .int 1 v] }).objs.size], _, _, H, rfl,
    I1.kept (t' := tk) fun b o e => Heap.get?_push_of_some _ e, turn_range _ lo (hi - lo).toNat, ?_, fun b hb => ?_, q⟩
  · have e1 : lo + ((0 : Nat) : Int) * 1 = lo := by simp
    have e2 : (((hi - lo).toNat : Nat) : Int) - ((0 : Nat) : Int) = Builtin.Range.rangeSize lo hi 1 := by rw [rangeSize_one]; split <;> omega
    show IsRangeIter _ _ (lo + ((0 : Nat) : Int) * 1) ((((hi - lo).toNat : Nat) : Int) - ((0 : Nat) : Int)) 1
    rw [e1, e2]
    exact Heap.get?_push_size _ rfl
  · have e : b = (s.heap.push { cls := .type "range", data := .fields #[.int lo t, .int hi u, .int 1 v] }).objs.size := by simpa using hb
    subst e
    exact I1.fpOk (Nat.le_refl _) (I1.hok.fresh (Nat.le_refl _))
def iRng1 (ta : TA) : TI := fun σ H R => ta σ H fun vs H1 => ∃ j : Int, vs = [.int j] ∧ -(2 ^ 62) ≤ j ∧ j < 2 ^ 62 ∧ R (Itr 0 j.toNat) H1
theorem pi_range1 {a : Expr} {ta : TA} {p pos : Pos} (hg : Gl X "range") (hm : X.mg "range" = none) (ha : PA X [a] ta) (hs : starEach [a] X.env = [(false, eval a X.env)] := by rfl) : PI X tg (.Call (.Name "range" p) [a] [] pos) (iRng1 ta) := by
  intro pins s σ H R I h
  refine Call_ (ld_blt I hg hm boot_range (PyProof.Rows.callWith_type1 (thn (ha pos pins s σ H _ I h) fun us s1 ⟨vs, H1, I1, r1, q1⟩ => ?_) hs rfl))
  obtain ⟨j, e, q1, q2, q⟩ := q1
  subst e
  cases r1 with
  | cons r rr =>
    cases rr
    obtain ⟨t, rfl⟩ := r
    exact call_range_1 (range_it I1 (by omega) (by omega) q1 q2 (by simpa using q))
def tFor (wi : TI) (g : TG) (tb : TS) : TS := fun D σ H => wi σ H fun J H1 => ∃ W : Nat → Nat → St → Hp → Prop, (∃ m, W 0 m σ H1) ∧ ∀ i m σ H, W i m σ H →
  (J.stop i H ∧ D.nx σ H) ∨ (J.go i H ∧ ∃ N : St → Hp → Prop, (∀ σ' H', N σ' H' → ∃ m', m' < m ∧ W (i + 1) m' σ' H') ∧ ∀ x H', J.yld i H x H' → g x σ H' fun σ2 H2 => tb { D with nx := N, ct := N, bk := D.nx } σ2 H2)
def pinsAt (fp : List Addr) (h : Heap) : List (Addr × Obj) := fp.filterMap fun b => (h.get? b).map fun o => (b, o)
theorem mem_pinsAt {fp : List Addr} {h : Heap} {b : Addr} {o : Obj} (hb : b ∈ fp) (e : h.get? b = some o) : (b, o) ∈ pinsAt fp h := List.mem_filterMap.mpr ⟨b, hb, by rw [e]; rfl⟩
theorem of_pinsAt {fp : List Addr} {h : Heap} {p : Addr × Obj} (hp : p ∈ pinsAt fp h) : p.1 ∈ fp ∧ h.get? p.1 = some p.2 := by
  obtain ⟨b, hb, e⟩ := List.mem_filterMap.mp hp
  cases q : h.get? b with
  | none => rw [q] at e; cases e
  | some o =>
    rw [q] at e
    have e' : (b, o) = p := Option.some.inj e
    subst e'
    exact ⟨hb, q⟩
theorem Inv.pinned {pins : List (Addr × Obj)} {σ : St} {H : Hp} {s : Shared} {fp : List Addr} (I : Inv X pins σ H s) (hf : ∀ b ∈ fp, FpOk X pins H b) (ho : ∀ b ∈ fp, ∃ o, s.heap.get? b = some o ∧ ∀ v, o.data ≠ .cell v) : Inv X (pins ++ pinsAt fp s.heap) σ H s :=
  I.pins_of fun p hp => (List.mem_append.mp hp).elim (fun z => I.pin p (List.mem_append_right _ z)) fun z => by
    obtain ⟨hb, e⟩ := of_pinsAt z
    obtain ⟨f0, f1, f2, _⟩ := hf p.1 hb
    obtain ⟨o, e', d⟩ := ho p.1 hb
    rw [e] at e'; cases e'
    exact ⟨e, f0, f1, f2, d⟩
theorem Inv.unpinned {pins pl : List (Addr × Obj)} {σ : St} {H : Hp} {s : Shared} (I : Inv X (pins ++ pl) σ H s) : Inv X pins σ H s := I.pins_of fun p hp => I.pin p (List.mem_append_right _ (List.mem_append_left _ hp))
theorem ps_for {iter : Expr} {body : List Stmt} {wi : TI} {g : TG} {tb : TS} {pos : Pos} (hp : PassesOwn (model X.prog X.w) X.A X.env X.xe) (hc : X.calm = true) (hi : PI X tg iter wi) (hg : PG X tg g) (hb : PSs X body tb)
    (hs : ∀ x, foldedSetIterable iter X.env x = pure x := by intro _; rfl) : PS X (.For tg iter body [] pos) (tFor wi g tb) := by
  intro pins s σ H D I h
  refine wpAny_For (thn (hi pins s σ H _ I h) fun v s1 h1 => thn h1 fun itv s2 h2 => ?_) hs
  obtain ⟨it, fp, tn, J, H2, e, I2, T, st2, f2, W, ⟨m0, w0⟩, turn⟩ := h2
  subst e
  have stat : ∀ {H' : Hp}, (∀ b ∈ fp, H' b = none) → ∀ b ∈ fp, FpOk X pins H' b := fun hn b hb => ⟨hn b hb, (f2 b hb).2⟩
  refine codeAny_forLoop_any (fun n s' => ∃ i σ' H', Inv X pins σ' H' s' ∧ tn i s'.heap ∧ (∀ b ∈ fp, H' b = none) ∧ W i n σ' H') ?_ m0 ⟨0, σ, H2, I2, st2, fun b hb => (f2 b hb).1, w0⟩
  rintro n s3 ⟨i, σ3, H3, I3, st3, fr3, w3⟩
  rcases turn i n σ3 H3 w3 with ⟨stop, qn⟩ | ⟨go, N, hN, step⟩
  · refine wpAny_passesOwn hp (thn (T.done X rfl rfl rfl hc i pins s3 σ3 H3 X.xe I3 (stat fr3) st3 stop) fun r s4 ⟨hr, I4⟩ => ?_)
    subst hr
    exact wpAny_execs_nil ⟨σ3, H3, I4, qn⟩
  · refine wpAny_passesOwn hp (thn (T.item X rfl rfl rfl hc i pins s3 σ3 H3 X.xe I3 (stat fr3) st3 go) fun r s4 ⟨u, hr, h4⟩ => ?_)
    subst hr
    refine wpAny_passesOwn hp (thn h4 fun _ s5 ⟨x, H5, I5, r5, y5, st5, fr5⟩ => ?_)
    have I5' := I5.pinned (stat fr5) (T.obj _ _ st5)
    refine wpAny_passesOwn hp (thn (hg _ s5 σ3 H5 x u _ I5' r5 (step x H5 y5)) fun _ s6 ⟨σ6, H6, I6, q6⟩ => ?_)
    refine wpAny_passesOwn hp (thn (hb _ s6 σ6 H6 _ I6 q6) fun f s7 q7 => ?_)
    have again : ∀ {σ7 : St} {H7 : Hp}, Inv X (pins ++ pinsAt fp s5.heap) σ7 H7 s7 → N σ7 H7 → ∃ m, m < n ∧ ∃ i σ' H', Inv X pins σ' H' s7 ∧ tn i s7.heap ∧ (∀ b ∈ fp, H' b = none) ∧ W i m σ' H' := fun {σ7 H7} I7 n7 => by
      obtain ⟨m', hm, w7⟩ := hN σ7 H7 n7
      refine ⟨m', hm, i + 1, σ7, H7, I7.unpinned, T.keep _ _ _ st5 fun b hb o e => (I7.pin (b, o) (List.mem_append_right _ (List.mem_append_right _ (mem_pinsAt hb e)))).1, fun b hb => ?_, w7⟩
      obtain ⟨o, e, d⟩ := T.obj _ _ st5 b hb
      exact (I7.pin (b, o) (List.mem_append_right _ (List.mem_append_right _ (mem_pinsAt hb e)))).2.1
    cases f with
    | next => obtain ⟨σ7, H7, I7, n7⟩ := q7; exact again I7 n7
    | cont => obtain ⟨σ7, H7, I7, n7⟩ := q7; exact again I7 n7
    | brk => obtain ⟨σ7, H7, I7, q7⟩ := q7; exact ⟨σ7, H7, I7.unpinned, q7⟩
    | ret v => obtain ⟨x7, σ7, H7, I7, r7, q7⟩ := q7; exact ⟨x7, σ7, H7, I7.unpinned, r7, q7⟩
end
theorem for_list {K : PySem.W.Frag} {a : Addr} {xs : List V} {g : TG} {tb : TS} {D : Ends} {σ : St} {H : Hp} (Pv : Nat → St → Hp → Prop) (h0 : Pv 0 σ H) (hl : ∀ i σ H, i ≤ xs.length → Pv i σ H → SqL K H a xs)
    (hs : ∀ i x σ H, xs[i]? = some x → Pv i σ H → g x σ H fun σ2 H2 => tb { D with nx := Pv (i + 1), ct := Pv (i + 1), bk := D.nx } σ2 H2) (hd : ∀ σ H, Pv xs.length σ H → D.nx σ H) :
    ∃ W : Nat → Nat → St → Hp → Prop, (∃ m, W 0 m σ H) ∧ ∀ i m σ H, W i m σ H →
      ((Itl K a).stop i H ∧ D.nx σ H) ∨ ((Itl K a).go i H ∧ ∃ N : St → Hp → Prop, (∀ σ' H', N σ' H' → ∃ m', m' < m ∧ W (i + 1) m' σ' H') ∧ ∀ x H', (Itl K a).yld i H x H' → g x σ H' fun σ2 H2 => tb { D with nx := N, ct := N, bk := D.nx } σ2 H2) := by
  refine ⟨fun i m σ H => m = xs.length - i ∧ i ≤ xs.length ∧ Pv i σ H, ⟨xs.length, by simp, Nat.zero_le _, h0⟩, ?_⟩
  rintro i m σ H ⟨rfl, hi, p⟩
  have q := hl i σ H hi p
  by_cases hlt : i < xs.length
  · refine .inr ⟨⟨xs, xs[i], q, by simp [hlt]⟩, Pv (i + 1), fun σ' H' p' => ⟨xs.length - (i + 1), by omega, rfl, hlt, p'⟩, fun x H' y => ?_⟩
    obtain ⟨e, y⟩ := y
    subst e
    exact hs i x σ _ (y xs q) p
  · have e : i = xs.length := by omega
    subst e
    exact .inl ⟨⟨xs, q, Nat.le_refl _⟩, hd σ H p⟩
end L2
namespace L2
open PySem PySem.Spec PyProof.Rows
abbrev R2 := V → V → Hp → VK → Prop
def OpR (X : Cx) (f : Value → Value → Sem Value) (r : R2) : Prop :=
  ∀ (pins : List (Addr × Obj)) (s : Shared) (σ : St) (H : Hp) (x y : V) (v u : Value) (Q : VK), Inv X pins σ H s → RelV x v → RelV y u → r x y H Q →
    wpAny (model X.prog X.w) X.A (f v u) (EP X pins σ Q) X.xe s
def CallR (X : Cx) (f : Value) (r : List V → Hp → VK → Prop) : Prop :=
  ∀ (pins : List (Addr × Obj)) (s : Shared) (σ : St) (H : Hp) (xs : List V) (us : List Value) (Q : VK), Inv X pins σ H s → Vals xs us → r xs H Q →
    wpAny (model X.prog X.w) X.A (call f us) (EP X pins σ Q) X.xe s
def tOp (r : R2) (ta tb : TE) : TE := fun σ H Q => ta σ H fun x H1 => tb σ H1 fun y H2 => r x y H2 Q
def rI (C : Int → Int → Prop) (g : Int → Int → V) : R2 := fun x y H Q => ∃ i j, x = .int i ∧ y = .int j ∧ C i j ∧ Q (g i j) H
def rI0 (g : Int → Int → V) : R2 := fun x y H Q => ∃ i j, x = .int i ∧ y = .int j ∧ Q (g i j) H
section
variable {X : Cx} {a b c : Expr} {ta tb tc : TE} {pos : Pos}
theorem binT (ha : PE X a ta) (hb : PE X b tb) {pins : List (Addr × Obj)} {s : Shared} {σ : St} {H : Hp} {R : V → V → Hp → Prop} (I : Inv X pins σ H s)
    (h : ta σ H fun x H1 => tb σ H1 fun y H2 => R x y H2) {Q : Value → Shared → Prop} {f : Value → Value → Sem Value}
    (hf : ∀ v u s2 x y H2, Inv X pins σ H2 s2 → RelV x v → RelV y u → R x y H2 → wpAny (model X.prog X.w) X.A (f v u) Q X.xe s2) :
    wpAny (model X.prog X.w) X.A (eval a X.env) (fun v s₁ => wpAny (model X.prog X.w) X.A (eval b X.env) (fun u s₂ => wpAny (model X.prog X.w) X.A (f v u) Q X.xe s₂) X.xe s₁) X.xe s := by
  refine thn (ha pins s σ H _ I h) fun v s1 ⟨x, H1, I1, r1, q1⟩ => ?_
  refine thn (hb pins s1 σ H1 _ I1 q1) fun u s2 ⟨y, H2, I2, r2, q2⟩ => ?_
  exact hf v u s2 x y H2 I2 r1 r2 q2
theorem pe_op {op : Operator} {r : R2} (ho : OpR X (binaryOp op) r) (ha : PE X a ta) (hb : PE X b tb) : PE X (.BinOp a op b pos) (tOp r ta tb) := by
  intro pins s σ H Q I h
  exact wpAny_BinOp (binT ha hb I h fun v u s2 x y H2 I2 rx ry q => ho pins s2 σ H2 x y v u Q I2 rx ry q)
theorem opI {f : Value → Value → Sem Value} {C : Int → Int → Prop} {g : Int → Int → Int}
    (rule : ∀ (i j : Int) (t u : Tok) (s : Shared) (Q : Value → Shared → Prop) (E : Value → Shared → Prop), C i j → Q (.int (g i j) s.toks) { s with toks := s.toks + 1 } → wpAny (model X.prog X.w) X.A (f (.int i t) (.int j u)) Q E s) :
    OpR X f (rI C fun i j => .int (g i j)) := by
  intro pins s σ H x y v u Q I rx ry h
  obtain ⟨i, j, rfl, rfl, hc, q⟩ := h
  obtain ⟨t, rfl⟩ := rx
  obtain ⟨t', rfl⟩ := ry
  exact rule i j t t' s _ _ hc ⟨.int (g i j), H, I.tok _, ⟨_, rfl⟩, q⟩
theorem opI0 {f : Value → Value → Sem Value} {g : Int → Int → Int}
    (rule : ∀ (i j : Int) (t u : Tok) (s : Shared) (Q : Value → Shared → Prop) (E : Value → Shared → Prop), Q (.int (g i j) s.toks) { s with toks := s.toks + 1 } → wpAny (model X.prog X.w) X.A (f (.int i t) (.int j u)) Q E s) :
    OpR X f (rI0 fun i j => .int (g i j)) := by
  intro pins s σ H x y v u Q I rx ry h
  obtain ⟨i, j, rfl, rfl, q⟩ := h
  obtain ⟨t, rfl⟩ := rx
  obtain ⟨t', rfl⟩ := ry
  exact rule i j t t' s _ _ ⟨.int (g i j), H, I.tok _, ⟨_, rfl⟩, q⟩
theorem opB0 {f : Value → Value → Sem Value} {g : Int → Int → Bool}
    (rule : ∀ (i j : Int) (t u : Tok) (s : Shared) (Q : Value → Shared → Prop) (E : Value → Shared → Prop), Q (.bool (g i j)) s → wpAny (model X.prog X.w) X.A (f (.int i t) (.int j u)) Q E s) :
    OpR X f (rI0 fun i j => .bl (g i j)) := by
  intro pins s σ H x y v u Q I rx ry h
  obtain ⟨i, j, rfl, rfl, q⟩ := h
  obtain ⟨t, rfl⟩ := rx
  obtain ⟨t', rfl⟩ := ry
  exact rule i j t t' s _ _ ⟨.bl (g i j), H, I, rfl, q⟩
def CDiv (i j : Int) : Prop := 0 < j ∧ j < 1073741824
def CMul (i j : Int) : Prop := (-(2 ^ 64) < i ∧ i < 2 ^ 64) ∨ (-(2 ^ 64) < j ∧ j < 2 ^ 64)
theorem CMul.ok {i j : Int} (h : CMul i j) : IntMulOk i j := by
  rcases h with ⟨h1, h2⟩ | ⟨h1, h2⟩
  · exact .of_left (intBits_le_64 h1 h2)
  · exact .of_right (intBits_le_64 h1 h2)
theorem op_add : OpR X (binaryOp .Add) (rI0 fun i j => .int (i + j)) := opI0 fun _ _ _ _ _ _ _ q => add_int q
theorem op_mul : OpR X (binaryOp .Mult) (rI CMul fun i j => .int (i * j)) := opI fun _ _ _ _ _ _ _ hc q => mul_int q hc.ok
theorem op_fdiv : OpR X (binaryOp .FloorDiv) (rI CDiv fun i j => .int (i / j)) := opI fun i j _ _ _ _ _ hc q => by
  have h1 : (0 : Int) < j := hc.1
  have h2 : j < 1073741824 := hc.2
  exact floordiv_int (by omega) (by rw [Int.fdiv_eq_ediv_of_nonneg i (by omega)]; exact q) (.inl (PyProof.noPylong_small (by omega)))
theorem op_mod : OpR X (binaryOp .Mod) (rI (fun _ j => 0 < j) fun i j => .int (i % j)) := opI fun i j _ _ _ _ _ hc q => by
  have h1 : (0 : Int) < j := hc
  exact mod_int' (by omega) (by rw [Int.fmod_eq_emod_of_nonneg i (by omega)]; exact q)
end
def scal : V → V → Bool
  | .non, .non => true | .non, .int _ => true | .int _, .non => true | .non, .bl _ => true | .bl _, .non => true | .non, .str _ => true | .str _, .non => true
  | .int _, .int _ => true | .bl _, .bl _ => true | .str _, .str _ => true | .byt _, .byt _ => true
  | .int _, .str _ => true | .str _, .int _ => true | .bl _, .str _ => true | .str _, .bl _ => true
  | _, _ => false
def rEq : R2 := fun x y H Q => scal x y = true ∧ Q (.bl (decide (x = y))) H
def rNe : R2 := fun x y H Q => scal x y = true ∧ Q (.bl (!decide (x = y))) H
theorem dec_int {i j : Int} : decide (V.int i = V.int j) = (i == j) := by
  rw [Bool.eq_iff_iff]
  simp
theorem dec_bl {i j : Bool} : decide (V.bl i = V.bl j) = (i == j) := by
  rw [Bool.eq_iff_iff]
  simp
theorem dec_str {i j : Str} : decide (V.str i = V.str j) = (i == j) := by
  rw [Bool.eq_iff_iff]
  simp
theorem dec_byt {i j : Array UInt8} : decide (V.byt i = V.byt j) = (i.toList == j.toList) := by
  rw [Bool.eq_iff_iff]
  cases i
  cases j
  simp
section
variable {X : Cx} {a b c : Expr} {ta tb tc : TE} {pos : Pos}
theorem fin_bl {pins : List (Addr × Obj)} {σ : St} {H : Hp} {s : Shared} {Q : VK} {k k' : Bool} (I : Inv X pins σ H s) (q : Q (.bl k) H) (e : k = k') : EP X pins σ Q (.bool k') s := by
  subst e
  exact ⟨.bl k, H, I, rfl, q⟩
theorem op_eq : OpR X (compareOp .Eq) rEq := by
  intro pins s σ H x y v u Q I rx ry h
  obtain ⟨hs, q⟩ := h
  cases x with
  | non =>
    cases rx
    cases y with
    | non => cases ry; exact PySem.EqNone.eq_none_none (fin_bl I q (by simp))
    | bl j => cases ry; exact PySem.EqNone.eq_none_bool (fin_bl I q (by simp))
    | int j => obtain ⟨t', rfl⟩ := ry; exact PySem.EqNone.eq_none_int (fin_bl I q (by simp))
    | str j => obtain ⟨t', rfl⟩ := ry; exact PySem.EqNone.eq_none_str (fin_bl I q (by simp))
    | _ => exact absurd (show false = true from hs) Bool.false_ne_true
  | bl i =>
    cases rx
    cases y with
    | non => cases ry; exact PySem.EqNone.eq_bool_none (fin_bl I q (by simp))
    | bl j => cases ry; exact eq_bool (fin_bl I q dec_bl)
    | str j => obtain ⟨t', rfl⟩ := ry; exact PySem.EqMixed.eq_bool_str (fin_bl I q (by simp))
    | _ => exact absurd (show false = true from hs) Bool.false_ne_true
  | int i =>
    obtain ⟨t, rfl⟩ := rx
    cases y with
    | non => cases ry; exact PySem.EqNone.eq_int_none (fin_bl I q (by simp))
    | int j => obtain ⟨t', rfl⟩ := ry; exact eq_int (fin_bl I q dec_int)
    | str j => obtain ⟨t', rfl⟩ := ry; exact PySem.EqMixed.eq_int_str (fin_bl I q (by simp))
    | _ => exact absurd (show false = true from hs) Bool.false_ne_true
  | str i =>
    obtain ⟨t, rfl⟩ := rx
    cases y with
    | non => cases ry; exact PySem.EqNone.eq_str_none (fin_bl I q (by simp))
    | bl j => cases ry; exact PySem.EqMixed.eq_str_bool (fin_bl I q (by simp))
    | int j => obtain ⟨t', rfl⟩ := ry; exact PySem.EqMixed.eq_str_int (fin_bl I q (by simp))
    | str j => obtain ⟨t', rfl⟩ := ry; exact eq_str (fin_bl I q dec_str)
    | _ => exact absurd (show false = true from hs) Bool.false_ne_true
  | byt i =>
    obtain ⟨t, rfl⟩ := rx
    cases y with
    | byt j => obtain ⟨t', rfl⟩ := ry; exact PySem.W.eq_bytes (fin_bl I q dec_byt)
    | _ => exact absurd (show false = true from hs) Bool.false_ne_true
  | _ => cases y <;> exact absurd (show false = true from hs) Bool.false_ne_true
theorem op_ne : OpR X (compareOp .NotEq) rNe := by
  intro pins s σ H x y v u Q I rx ry h
  obtain ⟨hs, q⟩ := h
  cases x with
  | non =>
    cases rx
    cases y with
    | non => cases ry; exact PySem.EqNone.ne_none_none (fin_bl I q (by simp))
    | bl j => cases ry; exact PySem.EqNone.ne_none_bool (fin_bl I q (by simp))
    | int j => obtain ⟨t', rfl⟩ := ry; exact PySem.EqNone.ne_none_int (fin_bl I q (by simp))
    | str j => obtain ⟨t', rfl⟩ := ry; exact PySem.EqNone.ne_none_str (fin_bl I q (by simp))
    | _ => exact absurd (show false = true from hs) Bool.false_ne_true
  | bl i =>
    cases rx
    cases y with
    | non => cases ry; exact PySem.EqNone.ne_bool_none (fin_bl I q (by simp))
    | bl j => cases ry; exact ne_bool (fin_bl I q (congrArg not dec_bl))
    | str j => obtain ⟨t', rfl⟩ := ry; exact PySem.EqMixed.ne_bool_str (fin_bl I q (by simp))
    | _ => exact absurd (show false = true from hs) Bool.false_ne_true
  | int i =>
    obtain ⟨t, rfl⟩ := rx
    cases y with
    | non => cases ry; exact PySem.EqNone.ne_int_none (fin_bl I q (by simp))
    | int j => obtain ⟨t', rfl⟩ := ry; exact ne_int (fin_bl I q (congrArg not dec_int))
    | str j => obtain ⟨t', rfl⟩ := ry; exact PySem.EqMixed.ne_int_str (fin_bl I q (by simp))
    | _ => exact absurd (show false = true from hs) Bool.false_ne_true
  | str i =>
    obtain ⟨t, rfl⟩ := rx
    cases y with
    | non => cases ry; exact PySem.EqNone.ne_str_none (fin_bl I q (by simp))
    | bl j => cases ry; exact PySem.EqMixed.ne_str_bool (fin_bl I q (by simp))
    | int j => obtain ⟨t', rfl⟩ := ry; exact PySem.EqMixed.ne_str_int (fin_bl I q (by simp))
    | str j => obtain ⟨t', rfl⟩ := ry; exact ne_str (fin_bl I q (congrArg not dec_str))
    | _ => exact absurd (show false = true from hs) Bool.false_ne_true
  | byt i =>
    obtain ⟨t, rfl⟩ := rx
    cases y with
    | byt j => obtain ⟨t', rfl⟩ := ry; exact PySem.W.ne_bytes (fin_bl I q (congrArg not dec_byt))
    | _ => exact absurd (show false = true from hs) Bool.false_ne_true
  | _ => cases y <;> exact absurd (show false = true from hs) Bool.false_ne_true
theorem op_lt : OpR X (compareOp .Lt) (rI0 fun i j => .bl (decide (i < j))) := opB0 fun _ _ _ _ _ _ _ q => lt_int q
theorem op_le : OpR X (compareOp .LtE) (rI0 fun i j => .bl (decide (i ≤ j))) := opB0 fun _ _ _ _ _ _ _ q => le_int q
theorem op_gt : OpR X (compareOp .Gt) (rI0 fun i j => .bl (decide (j < i))) := opB0 fun _ _ _ _ _ _ _ q => gt_int q
theorem op_notN : OpR X (compareOp .IsNot) (fun x y H Q => y = .non ∧ Q (.bl (!decide (x = .non))) H) := by
  intro pins s σ H x y v u Q I rx ry h
  obtain ⟨rfl, q⟩ := h
  cases ry
  refine isnot_none_gen (fin_bl I q ?_)
  cases x <;> first
    | (cases rx; rfl)
    | (obtain ⟨t, rfl⟩ := rx; rfl)
theorem OpR.or {f : Value → Value → Sem Value} {r r' : R2} (h : OpR X f r) (h' : OpR X f r') : OpR X f (fun x y H Q => r x y H Q ∨ r' x y H Q) := by
  intro pins s σ H x y v u Q I rx ry q
  rcases q with q | q
  · exact h pins s σ H x y v u Q I rx ry q
  · exact h' pins s σ H x y v u Q I rx ry q
theorem nomark (b : Expr) {op : CmpOp} (h : op ≠ .In := by decide) (h2 : op ≠ .NotIn := by decide) : behindInMarks op b = false := by
  have e1 : (op == CmpOp.In) = false := by cases op <;> first | rfl | exact absurd rfl h
  have e2 : (op == CmpOp.NotIn) = false := by cases op <;> first | rfl | exact absurd rfl h2
  cases b <;> simp [behindInMarks, e1, e2]
theorem pe_cmpR {op : CmpOp} {r : R2} (ho : OpR X (compareOp op) r) (ha : PE X a ta) (hb : PE X b tb) (hm : behindInMarks op b = false) : PE X (.Compare a [op] [b] pos) (tOp r ta tb) := by
  intro pins s σ H Q I h
  exact wpAny_Compare1 (binT ha hb I h fun v u s2 x y H2 I2 rx ry q => ho pins s2 σ H2 x y v u Q I2 rx ry q) hm
def tTest (t : TE) : TT := fun σ H Q => t σ H fun x H' => ∃ k, x = .bl k ∧ Q k H'
theorem pt_cmpR {op : CmpOp} {r : R2} (ho : OpR X (compareOp op) r) (ha : PE X a ta) (hb : PE X b tb) (hm : behindInMarks op b = false) : PT X (.Compare a [op] [b] pos) (tTest (tOp r ta tb)) := by
  intro pins s σ H Q I h
  refine wpAny_isTrue_Compare1 (thn (ha pins s σ H _ I h) fun v s1 ⟨x, H1, I1, r1, q1⟩ => thn (hb pins s1 σ H1 _ I1 q1) fun u s2 ⟨y, H2, I2, r2, q2⟩ =>
    thn (ho pins s2 σ H2 x y v u _ I2 r1 r2 q2) fun c s3 ⟨z, H3, I3, r3, k, e, q3⟩ => ?_) hm
  subst e
  cases r3
  exact wpAny_truthy_bool ⟨H3, I3, q3⟩
def tChain (r r' : R2) (ta tb tc : TE) : TE := fun σ H Q => ta σ H fun x H1 => tb σ H1 fun y H2 => r x y H2 fun z H3 => ∃ k, z = .bl k ∧
  (if k = true then tc σ H3 fun w' H4 => r' y w' H4 Q else Q (.bl false) H3)
theorem pe_chain {op op' : CmpOp} {r r' : R2} (ho : OpR X (compareOp op) r) (ho' : OpR X (compareOp op') r') (ha : PE X a ta) (hb : PE X b tb) (hc : PE X c tc)
    (hm : lastMarks [op, op'] [b, c] = false := by with_unfolding_all rfl) : PE X (.Compare a [op, op'] [b, c] pos) (tChain r r' ta tb tc) := by
  intro pins s σ H Q I h
  refine Compare_chain (thn (ha pins s σ H _ I h) fun v s1 ⟨x, H1, I1, r1, q1⟩ => chain_link (thn (hb pins s1 σ H1 _ I1 q1) fun u s2 ⟨y, H2, I2, r2, q2⟩ =>
    thn (ho pins s2 σ H2 x y v u _ I2 r1 r2 q2) fun d s3 ⟨z, H3, I3, r3, k, e, q3⟩ => ?_)) hm
  subst e
  cases r3
  refine wpAny_truthy_bool ?_
  cases k with
  | false => exact ite_ff ⟨.bl false, H3, I3, rfl, q3⟩
  | true => exact ite_tt (chain_last (thn (hc pins s3 σ H3 _ I3 q3) fun w' s4 ⟨z', H4, I4, r4, q4⟩ => ho' pins s4 σ H4 y z' u w' Q I4 r2 r4 q4))
theorem pt_chain {op op' : CmpOp} {r r' : R2} (ho : OpR X (compareOp op) r) (ho' : OpR X (compareOp op') r') (ha : PE X a ta) (hb : PE X b tb) (hc : PE X c tc)
    (hm : lastMarks [op, op'] [b, c] = false := by with_unfolding_all rfl) : PT X (.Compare a [op, op'] [b, c] pos) (tTest (tChain r r' ta tb tc)) := by
  intro pins s σ H Q I h
  refine isTrue_chain (thn (ha pins s σ H _ I h) fun v s1 ⟨x, H1, I1, r1, q1⟩ => test_link (thn (hb pins s1 σ H1 _ I1 q1) fun u s2 ⟨y, H2, I2, r2, q2⟩ =>
    thn (ho pins s2 σ H2 x y v u _ I2 r1 r2 q2) fun d s3 ⟨z, H3, I3, r3, k, e, q3⟩ => ?_)) hm
  subst e
  cases r3
  refine wpAny_truthy_bool ?_
  cases k with
  | false =>
    obtain ⟨k', e', q'⟩ := q3
    cases e'
    exact ite_ff ⟨H3, I3, q'⟩
  | true =>
    refine ite_tt (test_last (thn (hc pins s3 σ H3 _ I3 q3) fun w' s4 ⟨z', H4, I4, r4, q4⟩ => thn (ho' pins s4 σ H4 y z' u w' _ I4 r2 r4 q4) fun d' s5 ⟨z2, H5, I5, r5, k2, e2, q5⟩ => ?_))
    subst e2
    cases r5
    exact wpAny_truthy_bool ⟨H5, I5, q5⟩
theorem line63 : (sizeLine : Nat) < 2 ^ 63 := by rw [sizeLine_eq]; decide
theorem op_add_str : OpR X (binaryOp .Add) (fun x y H Q => ∃ i j, x = .str i ∧ y = .str j ∧ i.length + j.length ≤ sizeLine ∧ Q (.str (i ++ j)) H) := by
  intro pins s σ H x y v u Q I rx ry h
  obtain ⟨i, j, rfl, rfl, hz, q⟩ := h
  obtain ⟨t, rfl⟩ := rx
  obtain ⟨t', rfl⟩ := ry
  exact add_str (fun t' tk => ⟨.str (i ++ j), H, I.tok _, ⟨_, rfl⟩, q⟩) hz
theorem vals1 {x : V} {us : List Value} (r : Vals [x] us) : ∃ u, us = [u] ∧ RelV x u := by
  cases r with
  | cons r1 r2 => cases r2; exact ⟨_, rfl, r1⟩
theorem vals2 {x y : V} {us : List Value} (r : Vals [x, y] us) : ∃ u w', us = [u, w'] ∧ RelV x u ∧ RelV y w' := by
  cases r with
  | cons r1 r2 =>
    cases r2 with
    | cons r3 r4 => cases r4; exact ⟨_, _, rfl, r1, r3⟩
theorem call_str_int : CallR X (.type "str") (fun xs H Q => ∃ i, xs = [.int i] ∧ i.natAbs.log2 < 1920 ∧ Q (.str (toString i)) H) := by
  intro pins s σ H xs us Q I r h
  obtain ⟨i, rfl, hz, q⟩ := h
  obtain ⟨u, rfl, t, rfl⟩ := vals1 r
  exact PySem.P.str_of_int hz ⟨.str _, H, I.tok _, ⟨_, rfl⟩, q⟩
theorem call_ord : CallR X (.builtin "ord") (fun xs H Q => ∃ x, xs = [.str x] ∧ x.length = 1 ∧ Q (.int (x.cps.getD 0 0 : Nat)) H) := by
  intro pins s σ H xs us Q I r h
  obtain ⟨x, rfl, hz, q⟩ := h
  obtain ⟨u, rfl, t, rfl⟩ := vals1 r
  exact ord_of_one hz ⟨.int _, H, I.tok _, ⟨_, rfl⟩, q⟩
end
end L2
namespace L2
open PySem PySem.Spec PyProof.Rows
structure ObjM (h : Heap) (x dx C : Addr) (mA : Str → Option Value) : Prop where
  obj : h.get? x = some (PySem.W.instObj C dx)
  ns : h.Ns1 dx mA
  ne : dx ≠ x
theorem lookIn_ns {h : Heap} {dx : Addr} {mA : Str → Option Value} (n : h.Ns1 dx mA) : ∃ od, h.get? dx = some od ∧ ∀ name, PySem.W.lookIn name od = some (mA name) := by
  obtain ⟨o, es, ep, ho, hd, hk, _, hm⟩ := n
  refine ⟨o, ho, fun name => ?_⟩
  have e := hm name
  unfold nsFind findBy at e
  rw [← Array.find?_toList] at e
  unfold PySem.W.lookIn
  rw [hd]
  dsimp only
  split
  · rename_i y q
    rw [q] at e
    exact congrArg some e
  · rename_i q
    rw [q] at e
    have a : es.toList.any (·.refKey) = false := by
      rw [List.any_eq_false]
      intro y hy
      obtain ⟨z, t, hkey⟩ := hk y (Array.mem_toList_iff.mp hy)
      simp [DictEntry.refKey, hkey]
    have a' : ¬ es.toList.any (·.refKey) = true := by rw [a]; exact Bool.false_ne_true
    rw [if_neg a']
    exact congrArg some e
theorem ObjM.look {h : Heap} {x dx C : Addr} {mA : Str → Option Value} (I : ObjM h x dx C mA) : ∃ od, PySem.W.InstAt h x (PySem.W.instObj C dx) C (some od) ∧ ∀ name, PySem.W.lookIn name od = some (mA name) :=
  let ⟨od, ho, hl⟩ := lookIn_ns I.ns
  ⟨od, ⟨I.obj, rfl, rfl, ho⟩, hl⟩
section
variable {prog : Program} {w : World} {A : Around} {E : Value → Shared → Prop} {s : Shared} {K : PySem.W.Frag} {x dx C f : Addr} {mA : Str → Option Value} {name : Str} {v : Value}
theorem get_map {expr : Bool} {Q : Value → Shared → Prop} (X : K.In s.heap) (I : ObjM s.heap x dx C mA) (hg : PySem.W.plainGet K C name = true) (hh : PySem.W.hasDictIn K C = true)
    (ha : PySem.W.findIn K (.ref C) name = some none) (hv : mA name = some v) (hv' : PySem.W.handedIn v = true) (h : Q v { s with toks := s.toks + 1 }) :
    wpAny (model prog w) A (getAttr (.ref x) name expr) Q E s := by
  obtain ⟨od, J, hl⟩ := I.look
  exact PySem.W.get_value X J (PySem.W.plainGet_of hg).1 (PySem.W.findObj_own hh ha rfl (by rw [hl, hv])) hv' h
theorem set_map {ns : List Str} {Q : Unit → Shared → Prop} (X : K.In s.heap) (I : ObjM s.heap x dx C mA)
    (hs : PySem.W.findIn K (.ref C) "__setattr__" = some (some (.builtin "object.__setattr__"))) (hp : PySem.W.plainOver K C = true) (ht : PySem.W.takerIn K C name = some none) (hh : PySem.W.hasDictIn K C = true)
    (hw : PySem.Within mA ns) (hsz : ns.length ≤ sizeLine)
    (h : ∀ h', ObjM h' x dx C (fun y => if y = name then some v else mA y) → Heap.SameBut dx s.heap h' → Q () { s with heap := h', toks := s.toks + 2 }) :
    wpAny (model prog w) A (setAttr (.ref x) name v) Q E s := by
  obtain ⟨od, J, hl⟩ := I.look
  refine PySem.W.set_plain X J hs (PySem.W.osa_open (s := { s with toks := s.toks + 1 }) (r := none) X J hp ht fun b => ?_)
  obtain ⟨cd, hc, hd'⟩ := PySem.W.any_some hh
  have hx : s.heap.get? x = some ⟨.ref C, some dx, .plain, #[]⟩ := I.obj
  refine wpAny_bind (wpAny_pure (wpAny_bind (wpAny_bind (wpAny_loadPart hx (wpAny_bind (PySem.W.Looks.here (s := { s with toks := s.toks + 1 }) (PySem.W.looks_clsIn X hc) ?_))))))
  rw [hd']
  refine wpAny_pure (a := some dx) (wpAny_bind (wpAny_pure (wpAny_bind ?_)))
  refine wpAny_nsSet1 (s := { s with toks := s.toks + 1 }) I.ns fun h' hn2 hs2 => ?_
  obtain ⟨oD, esD, epD, hoD, hdD, hcD⟩ := hn2.count (PySem.Within.cons name v hw)
  refine wpAny_bind (wpAny_lookBehind hoD (by rw [hdD]; exact pastItsLine_dict (Nat.le_trans hcD (by rw [List.length_cons]; omega))) ?_)
  exact wpAny_pure (h _ ⟨(hs2.2 _ (Ne.symm I.ne)).trans I.obj, hn2, I.ne⟩ hs2)
theorem make_map {R : Result → Shared → Prop} {vs : List Value} {kw : List (Str × Value)} (X : K.In s.heap) (hm : PySem.W.makesIn K C = true)
    (hi : PySem.W.findIn K (.ref C) "__init__" = some (some (.ref f))) (hf : PySem.W.typeIn K (.ref f) = some (.type "function"))
    (h : codeAny (model prog w) (A.under (.builtin "type.__call__" ⟨.ref C :: vs, kw⟩)) (.call (.ref f) ⟨.ref (s.heap.objs.size + 1) :: vs, kw⟩) (PySem.W.InitBack (s.heap.objs.size + 1) R)
      { s with heap := (s.heap.push PySem.W.emptyDict).push (PySem.W.instObj C s.heap.objs.size) }) :
    codeAny (model prog w) A (.call (.ref C) ⟨vs, kw⟩) R s := by
  obtain ⟨hh, g, d, t, os⟩ := s
  exact PySem.W.make_core (PySem.W.makes_of X hm) (PySem.W.looks_findIn X hi) (fun self => PySem.W.bind_fn X self hf) (.inl rfl) h
end
def putF (f : Str) (v : V) : List (Str × V) → List (Str × V)
  | [] => [(f, v)]
  | (g, x) :: r => if g = f then (g, v) :: r else (g, x) :: putF f v r
theorem lookup_putF (f g : Str) (v : V) : ∀ fs : List (Str × V), (putF f v fs).lookup g = if g = f then some v else fs.lookup g
  | [] => by
    show List.lookup g [(f, v)] = _
    by_cases h : g = f
    · have hb : (g == f) = true := beq_iff_eq.mpr h
      simp only [List.lookup, hb, if_pos h]
    · have hb : (g == f) = false := beq_eq_false_iff_ne.mpr h
      simp only [List.lookup, hb, if_neg h]
  | (k, x) :: r => by
    have ih := lookup_putF f g v r
    rw [show putF f v ((k, x) :: r) = (if k = f then (k, v) :: r else (k, x) :: putF f v r) from rfl]
    by_cases hk : k = f
    · rw [if_pos hk]
      by_cases h : g = k
      · have hb : (g == k) = true := beq_iff_eq.mpr h
        simp only [List.lookup, hb, if_pos (h.trans hk)]
      · have hb : (g == k) = false := beq_eq_false_iff_ne.mpr h
        simp only [List.lookup, hb, if_neg (fun e : g = f => h (e.trans hk.symm))]
    · rw [if_neg hk]
      by_cases h : g = k
      · have hb : (g == k) = true := beq_iff_eq.mpr h
        simp only [List.lookup, hb, if_neg (fun e : g = f => hk (h.symm.trans e))]
      · have hb : (g == k) = false := beq_eq_false_iff_ne.mpr h
        simp only [List.lookup, hb]
        exact ih
theorem keys_putF (f : Str) (v : V) : ∀ fs : List (Str × V), f ∈ (putF f v fs).map (·.1) ∧ ∀ g, g ∈ fs.map (·.1) → g ∈ (putF f v fs).map (·.1)
  | [] => ⟨by simp [putF], fun g h => by simp at h⟩
  | (k, x) :: r => by
    obtain ⟨i1, i2⟩ := keys_putF f v r
    rw [show putF f v ((k, x) :: r) = (if k = f then (k, v) :: r else (k, x) :: putF f v r) from rfl]
    by_cases hk : k = f
    · rw [if_pos hk]
      subst hk
      exact ⟨by simp, fun g h => by simpa using h⟩
    · rw [if_neg hk]
      refine ⟨?_, fun g h => ?_⟩
      · rw [List.map_cons]
        exact List.mem_cons_of_mem _ i1
      · rw [List.map_cons] at h ⊢
        rcases List.mem_cons.mp h with e | e
        · exact List.mem_cons.mpr (.inl e)
        · exact List.mem_cons_of_mem _ (i2 g e)
theorem length_putF (f : Str) (v : V) : ∀ fs : List (Str × V), (putF f v fs).length ≤ fs.length + 1
  | [] => by simp [putF]
  | (k, x) :: r => by
    have ih := length_putF f v r
    rw [show putF f v ((k, x) :: r) = (if k = f then (k, v) :: r else (k, x) :: putF f v r) from rfl]
    by_cases hk : k = f
    · rw [if_pos hk, List.length_cons, List.length_cons]; omega
    · rw [if_neg hk, List.length_cons, List.length_cons]; omega
theorem RelO.some_of {v : V} {o : Option Value} (r : RelO (some v) o) : ∃ u, o = some u ∧ RelV v u := by
  cases o with
  | none => exact (show False from r).elim
  | some u => exact ⟨u, rfl, r⟩
theorem handed_of {v : V} {u : Value} (r : RelV v u) : PySem.W.handedIn u = true := by
  cases v with
  | non => cases (show u = Value.none from r); rfl
  | bl b => cases (show u = Value.bool b from r); rfl
  | int i => obtain ⟨t, e⟩ := (show ∃ t, u = Value.int i t from r); cases e; rfl
  | str x => obtain ⟨t, e⟩ := (show ∃ t, u = Value.str x t from r); cases e; rfl
  | byt b => obtain ⟨t, e⟩ := (show ∃ t, u = Value.bytes b t from r); cases e; rfl
  | flt b => obtain ⟨t, e⟩ := (show ∃ t, u = Value.float b t from r); cases e; rfl
  | ref a => cases (show u = Value.ref a from r); rfl
  | ty n => cases (show u = Value.type n from r); rfl
section
variable {P : Program} {w : World} {H H' : Hp} {h h' : Heap} {a C dx : Addr} {fs fs' : List (Str × V)}
theorem ins_get (hok : HOk P w H h) (e : H a = some (.ins C dx fs)) : ∃ mA, ObjM h a dx C mA ∧ (∀ f, RelO (fs.lookup f) (mA f)) ∧ PySem.Within mA (fs.map (·.1)) ∧ fs.length ≤ 1000 ∧ H dx = some (.own a) := by
  obtain ⟨d, z, ne, ob, mA, n, r, q⟩ := (show ObjOk P w H h a (.ins C dx fs) from hok a _ e)
  exact ⟨mA, ⟨ob, n, ne⟩, r, q, z, d⟩
end
structure Cls (K : PySem.W.Frag) (C : Addr) : Prop where
  pg : PySem.W.plainGet K C Str.empty = true
  hd : PySem.W.hasDictIn K C = true
  po : PySem.W.plainOver K C = true
  sa : PySem.W.findIn K (.ref C) "__setattr__" = some (some (.builtin "object.__setattr__"))
theorem Cls.get {K : PySem.W.Frag} {C : Addr} (c : Cls K C) (f : Str) : PySem.W.plainGet K C f = true := c.pg
def NoAttr (K : PySem.W.Frag) (C : Addr) (f : Str) : Prop := PySem.W.findIn K (.ref C) f = some none
theorem NoAttr.taker {K : PySem.W.Frag} {C : Addr} {f : Str} (n : NoAttr K C f) : PySem.W.takerIn K C f = some none := by
  unfold PySem.W.takerIn
  rw [show PySem.W.findIn K (.ref C) f = some none from n]
  rfl
structure Con (K : PySem.W.Frag) (C : Addr) (f : Str) (v : V) (u : Value) : Prop where
  at_ : PySem.W.findIn K (.ref C) f = some (some u)
  rel : RelV v u
  get : PySem.W.specialIn K u "__get__" = some none
  cp : PySem.W.copiedNames.contains f = false
structure Meth (K : PySem.W.Frag) (C : Addr) (m : Str) (f : Addr) : Prop where
  at_ : PySem.W.findIn K (.ref C) m = some (some (.ref f))
  fn : PySem.W.isFn K (.ref f) = true
  kp : PySem.W.keepIn K (.ref f) = true
section
variable {X : Cx} {pins : List (Addr × Obj)} {σ : St} {H : Hp} {s : Shared} {a C dx : Addr} {fs : List (Str × V)} {f : Str} {v : V} {A : Around} {E : Value → Shared → Prop}
theorem getattr_ok {b : Bool} {Q : Value → Shared → Prop} (I : Inv X pins σ H s) (e : H a = some (.ins C dx fs)) (c : Cls X.K C) (n : NoAttr X.K C f) (l : fs.lookup f = some v)
    (h : ∀ u s', Inv X pins σ H s' → RelV v u → Q u s') : wpAny (model X.prog X.w) A (getAttr (.ref a) f b) Q E s := by
  obtain ⟨mA, O, r, _, _, _⟩ := ins_get I.hok e
  obtain ⟨u, hu, ru⟩ := RelO.some_of (v := v) (o := mA f) (by rw [← l]; exact r f)
  exact get_map I.kIn O (c.get f) c.hd n hu (handed_of ru) (h u _ (I.tok _) ru)
theorem setattr_ok {y : V} {u : Value} {Q : Unit → Shared → Prop} (I : Inv X pins σ H s) (e : H a = some (.ins C dx fs)) (c : Cls X.K C) (n : NoAttr X.K C f) (hl : fs.length < 1000) (ry : RelV y u)
    (h : ∀ s', Inv X pins σ (upd H a (.ins C dx (putF f y fs))) s' → Q () s') : wpAny (model X.prog X.w) A (setAttr (.ref a) f u) Q E s := by
  obtain ⟨mA, O, r, wi, _, ho⟩ := ins_get I.hok e
  have hz : (fs.map (·.1)).length ≤ sizeLine := by rw [List.length_map, sizeLine_eq]; omega
  refine set_map I.kIn O c.sa c.po n.taker c.hd wi hz fun h' O' sb => h _ ?_
  have hd : ∃ o, h'.get? dx = some o := let ⟨o, _, _, e', _⟩ := O'.ns; ⟨o, e'⟩
  refine I.write (x := a) (e := dx) (by rw [e]; exact True.intro) (.inr ho) (fun b q hb z => (sb.2 b hb).trans z) hd ?_
  refine ⟨by rw [upd_ne O.ne]; exact ho, ?_, O.ne, O'.obj, _, O'.ns, fun g => ?_, fun g hg => ?_⟩
  · have := length_putF f y fs; omega
  · show RelO ((putF f y fs).lookup g) (if g = f then some u else mA g)
    rw [lookup_putF]
    by_cases q : g = f
    · rw [if_pos q, if_pos q]; exact ry
    · rw [if_neg q, if_neg q]; exact r g
  · by_cases q : g = f
    · rw [q]; exact (keys_putF f y fs).1
    · refine (keys_putF f y fs).2 g (wi g fun z => hg ?_)
      show (if g = f then some u else mA g) = none
      rw [if_neg q]; exact z
theorem Inv.made (I : Inv X pins σ H s) : Inv X pins σ (upd (upd H s.heap.objs.size (.own (s.heap.objs.size + 1))) (s.heap.objs.size + 1) (.ins C s.heap.objs.size []))
    { s with heap := (s.heap.push PySem.W.emptyDict).push (PySem.W.instObj C s.heap.objs.size) } := by
  have e1 : (s.heap.push PySem.W.emptyDict).get? s.heap.objs.size = some PySem.W.emptyDict := Heap.get?_push_size s.heap rfl
  have e2 : ((s.heap.push PySem.W.emptyDict).push (PySem.W.instObj C s.heap.objs.size)).get? (s.heap.objs.size + 1) = some (PySem.W.instObj C s.heap.objs.size) := by
    have := Heap.get?_push_size (s.heap.push PySem.W.emptyDict) (o := PySem.W.instObj C s.heap.objs.size) rfl
    rwa [Heap.size_push] at this
  have e3 : (s.heap.push PySem.W.emptyDict).Ns s.heap.objs.size (fun _ => none) := ⟨PySem.W.emptyDict, #[], _, e1, rfl, (fun e he => absurd he (by simp)), fun _ => rfl⟩
  have I1 := I.laid (a := s.heap.objs.size) (o := .own (s.heap.objs.size + 1)) (h' := s.heap.push PySem.W.emptyDict) (t' := s.toks) (fun b u q => Heap.get?_push_of_some _ q) (Nat.le_refl _) ⟨_, e1⟩
  refine I1.laid (a := s.heap.objs.size + 1) (o := .ins C s.heap.objs.size []) (t' := s.toks) (fun b u q => Heap.get?_push_of_some _ q) (Nat.le_of_eq (Heap.size_push _ _)) ?_
  have ne : s.heap.objs.size ≠ s.heap.objs.size + 1 := Nat.ne_of_lt (Nat.lt_succ_self _)
  refine ⟨by rw [upd_ne ne, upd_same], Nat.zero_le _, ne, e2, fun _ => none, (Heap.Ns1.of_empty e3).at fun o q => Heap.get?_push_of_some _ q, fun _ => True.intro, fun y hy => absurd rfl hy⟩
theorem attr_of {prog : Program} {w : World} {env : Env} {e : Expr} {f : Str} {pos : Pos} {s : Shared} {Q : Value → Shared → Prop} (hb : attributeBase e f env (eval e env) = eval e env)
    (h : wpAny (model prog w) A (eval e env) (fun o s₁ => wpAny (model prog w) A (getAttr o f true) Q E s₁) E s) : wpAny (model prog w) A (eval (.Attribute e f pos) env) Q E s :=
  Attribute_any_ h (by rw [arm_eval_Attribute, hb])
end
def tFld (K : PySem.W.Frag) (ta : TE) (f : Str) : TE := fun σ H Q => ta σ H fun x H1 => ∃ a C dx fs v, x = .ref a ∧ H1 a = some (.ins C dx fs) ∧ Cls K C ∧ NoAttr K C f ∧ fs.lookup f = some v ∧ Q v H1
def sFld (K : PySem.W.Frag) (ta tv : TE) (f : Str) : TS := fun D σ H => tv σ H fun y H1 => ta σ H1 fun x H2 => ∃ a C dx fs, x = .ref a ∧ H2 a = some (.ins C dx fs) ∧ Cls K C ∧ NoAttr K C f ∧ fs.length < 1000 ∧
  D.nx σ (upd H2 a (.ins C dx (putF f y fs)))
section
variable {X : Cx} {o e value : Expr} {f : Str} {pos pos' tpos : Pos} {ta tv : TE}
theorem pe_fld (he : PE X e ta) (hb : attributeBase e f X.env (eval e X.env) = eval e X.env) : PE X (.Attribute e f pos) (tFld X.K ta f) := by
  intro pins s σ H Q I h
  refine attr_of hb (thn (he pins s σ H _ I h) fun u s1 ⟨x, H1, I1, rx, a, C, dx, fs, v, ex, ea, c, n, l, q⟩ => ?_)
  subst ex
  obtain rfl : u = Value.ref a := rx
  exact getattr_ok I1 ea c n l fun u' s2 I2 ru => ⟨v, H1, I2, ru, q⟩
theorem ps_fld (ha : PE X o ta) (hv : PE X value tv) (hs : swapsWith value (some (.Attribute o f pos')) pos.line X.env = pure false) : PS X (.Assign [.Attribute o f pos'] value pos) (sFld X.K ta tv f) := by
  intro pins s σ H D I h
  refine plainObj_wpAny_Assign_Attribute (thn (hv pins s σ H _ I h) fun u s1 ⟨y, H1, I1, ry, q⟩ => thn (ha pins s1 σ H1 _ I1 q) fun ov s2 ⟨x, H2, I2, rx, a, C, dx, fs, ex, ea, c, n, l, q2⟩ => ?_) hs
  subst ex
  obtain rfl : ov = Value.ref a := rx
  exact setattr_ok I2 ea c n l ry fun s3 I3 => ⟨σ, _, I3, q2⟩
end
section
variable {X : Cx} {pins : List (Addr × Obj)} {σ : St} {H : Hp} {s : Shared} {A : Around} {E : Value → Shared → Prop} {Q : Value → Shared → Prop} {c : Value} {b : Bool}
inductive TyOf (K : PySem.W.Frag) (H : Hp) : V → Value → Prop where
  | non : TyOf K H .non (.type "NoneType")
  | bl (x : Bool) : TyOf K H (.bl x) (.type "bool")
  | int (i : Int) : TyOf K H (.int i) (.type "int")
  | str (x : Str) : TyOf K H (.str x) (.type "str")
  | flt (x : UInt64) : TyOf K H (.flt x) (.type "float")
  | lst {a : Addr} {xs : List V} (e : H a = some (.lst xs)) : TyOf K H (.ref a) (.type "list")
  | frz {a : Addr} {o : Obj} {xs : List V} (e : H a = some (.frz o (.lst xs))) : TyOf K H (.ref a) (.type "list")
  | tup {a : Addr} {xs : List V} (e : H a = some (.tup xs)) : TyOf K H (.ref a) (.type "tuple")
  | dK {a : Addr} {kvs : List (Key × V)} (e : H a = some (.dK kvs)) : TyOf K H (.ref a) (.type "dict")
  | dT {a : Addr} {kvs : List (List NI × V)} (e : H a = some (.dT kvs)) : TyOf K H (.ref a) (.type "dict")
  | ins {a C dx : Addr} {fs : List (Str × V)} (e : H a = some (.ins C dx fs)) (cl : Cls K C) (ha : PySem.W.findIn K (.ref C) "__class__" = some (some (.builtin "object.__class__")))
      (hn : PySem.W.specialIn K (.builtin "object.__class__") "__get__" = some (some (.builtin "getset_descriptor.__get__"))) (htk : PySem.W.takesIn K (.builtin "object.__class__") = some true)
      (hm : PySem.W.mroIn K C (.type "object") = some true) : TyOf K H (.ref a) (.ref C)
end
end L2
namespace L2
open PySem PySem.Spec PyProof.Rows
structure Room (k : Nat) (A : Around) : Prop where
  hd : A.handled = none
  dp : A.depth + 3 * k + 5 < recursionLimit
  un : A.units + 16 * k + 200 < cLine
  gd : A.guards = some []
theorem Room.mono {j k : Nat} {A : Around} (r : Room k A) (h : j ≤ k) : Room j A := ⟨r.hd, by have := r.dp; omega, by have := r.un; omega, r.gd⟩
theorem Room.deeper {k : Nat} {A : Around} (r : Room (k + 1) A) (env : Env) : Room k (A.deeper env) :=
  ⟨r.hd, by have := r.dp; show A.depth + 1 + 3 * k + 5 < _; omega, by have := r.un; show A.units + 3 + 16 * k + 200 < _; omega, r.gd⟩
theorem Room.in1 {k : Nat} {A : Around} (r : Room (k + 1) A) : Room k A.in1 :=
  ⟨r.hd, by have := r.dp; show A.depth + 3 * k + 5 < _; omega, by have := r.un; show A.units + 1 + 16 * k + 200 < _; omega, r.gd⟩
theorem make_depth {A : Around} {C : Addr} {us : List Value} {kw : List (Str × Value)} : (A.under (.builtin "type.__call__" ⟨.ref C :: us, kw⟩)).depth = A.depth + 1 := by
  first | rfl | simp [Around.under, Code.weight, Code.isCreation, Code.isGuard, Code.isCaller, Code.frames, Code.isFrame, guardIds]
theorem make_units {A : Around} {C : Addr} {us : List Value} {kw : List (Str × Value)} : (A.under (.builtin "type.__call__" ⟨.ref C :: us, kw⟩)).units = A.units + 1 := by
  first | rfl | simp [Around.under, Code.cUnits, Code.frames, Code.isFrame]
theorem make_guards {A : Around} {C : Addr} {us : List Value} {kw : List (Str × Value)} : (A.under (.builtin "type.__call__" ⟨.ref C :: us, kw⟩)).guards = A.guards := by
  first | rfl | simp [Around.under, pushGuards, Code.guards, Code.isGuard, guardIds]
theorem Room.make {k : Nat} {A : Around} (r : Room (k + 1) A) (C : Addr) (us : List Value) (kw : List (Str × Value)) : Room k (A.under (.builtin "type.__call__" ⟨.ref C :: us, kw⟩)) :=
  ⟨r.hd, by have := r.dp; rw [make_depth]; omega, by have := r.un; rw [make_units]; omega, make_guards.trans r.gd⟩
theorem Room.depth {k : Nat} {A : Around} (r : Room k A) : A.depth < recursionLimit := by have := r.dp; omega
theorem Room.units {k : Nat} {A : Around} (r : Room k A) : A.units + 64 < cLine := by have := r.un; omega
def tNil : TA := fun _ H Q => Q [] H
def tCons (ta : TE) (tr : TA) : TA := fun σ H Q => ta σ H fun x H1 => tr σ H1 fun xs H2 => Q (x :: xs) H2
section
variable {X : Cx} {e : Expr} {es : List Expr} {te : TE} {t : TA} {pos : Pos}
theorem pa_nil : PA X [] tNil := fun _ _ _ _ H Q I h => Calls.spliced_nil ⟨[], H, I, .nil, h⟩
theorem pa_cons (ha : PE X e te) (hr : PA X es t) (hs : starEach (e :: es) X.env = (false, eval e X.env) :: starEach es X.env := by rfl) : PA X (e :: es) (tCons te t) := by
  intro pos pins s σ H Q I h
  rw [hs]
  show wpAny _ _ (spliced ((false, eval e X.env) :: backTo pos (starEach es X.env))) _ _ s
  refine Calls.spliced_cons (thn (ha pins s σ H _ I h) fun u s1 ⟨x, H1, I1, r1, q1⟩ => ?_)
  exact thn (hr pos pins s1 σ H1 _ I1 q1) fun us s2 ⟨xs, H2, I2, r2, q2⟩ => ⟨x :: xs, H2, I2, .cons r1 r2, q2⟩
def tTup (t : TA) : TE := fun σ H Q => t σ H fun xs H1 => xs.length ≤ sizeLine ∧ ∀ p, H1 p = none → Q (.ref p) (upd H1 p (.tup xs))
def tLst (t : TA) : TE := fun σ H Q => t σ H fun xs H1 => xs.length ≤ sizeLine ∧ ∀ p, H1 p = none → Q (.ref p) (upd H1 p (.lst xs))
theorem pe_tup {x1} (h : PA X es t) : PE X (.Tuple es x1 pos) (tTup t) := by
  intro pins s σ H Q I hq
  refine wpAny_Tuple_spliced (thn (h pos pins s σ H _ I hq) fun us s1 ⟨xs, H1, I1, r, z, q⟩ => ⟨by rw [← r.length]; exact z, ?_⟩)
  have hf : H1 s1.heap.objs.size = none := I1.hok.fresh (Nat.le_refl _)
  refine ⟨.ref s1.heap.objs.size, upd H1 s1.heap.objs.size (.tup xs), I1.laid (t' := s1.toks) (fun b u e => Heap.get?_push_of_some _ e) (Nat.le_refl _) ?_, rfl, q _ hf⟩
  exact ⟨z, us, r, ⟨_, Heap.get?_push_size _ rfl, rfl, _, rfl⟩⟩
theorem pe_lst (h : PA X es t) : PE X (.List es pos) (tLst t) := by
  intro pins s σ H Q I hq
  refine wpAny_List_spliced (thn (h pos pins s σ H _ I hq) fun us s1 ⟨xs, H1, I1, r, z, q⟩ => ⟨by rw [← r.length]; exact z, ?_⟩)
  have hf : H1 s1.heap.objs.size = none := I1.hok.fresh (Nat.le_refl _)
  refine ⟨.ref s1.heap.objs.size, upd H1 s1.heap.objs.size (.lst xs), I1.laid (t' := s1.toks) (fun b u e => Heap.get?_push_of_some _ e) (Nat.le_refl _) ?_, rfl, q _ hf⟩
  exact ⟨z, us, 0, r, Heap.get?_push_size _ rfl⟩
end
abbrev Sp := List V → Hp → VK → XK → Prop
abbrev CXT := List Env → Hp → Shared → XK → Value → Shared → Prop
structure Env0 (P : Program) (w : World) (K : PySem.W.Frag) (mg : Str → Option Value) (base : Heap) (A : Around) (outer : List Env) (s : Shared) (H : Hp) : Prop where
  frames : A.frames = some outer
  mod : Mod K mg base
  bs : ∀ b o, base.get? b = some o → s.heap.get? b = some o ∧ H b = none
  bsz : base.objs.size ≤ s.heap.objs.size
  funs : s.heap.FunFrames base outer
  frf : ∀ b ∈ frs outer, H b = none
  hok : HOk P w H s.heap
  bare : AllBare s.gens
def CE (outer : List Env) (P : Program) (w : World) (H : Hp) (s : Shared) (Q : VK) (u : Value) (s' : Shared) : Prop :=
  ∃ v H', s'.os = s.os ∧ AllBare s'.gens ∧ Un (frs outer) [] H H' s.heap s'.heap ∧ HOk P w H' s'.heap ∧ RelV v u ∧ Q v H'
def CR (CX : CXT) (outer : List Env) (P : Program) (w : World) (H : Hp) (s : Shared) (Q : VK) (E : XK) (r : Result) (s' : Shared) : Prop :=
  match r with
  | .ok (.ret u) => CE outer P w H s Q u s'
  | .ok _ => False
  | .error e => CX outer H s E e s'
structure FnOk (P : Program) (w : World) (K : PySem.W.Frag) (mg : Str → Option Value) (base : Heap) (CX : CXT) (k : Nat) (f : Addr) (fd : FuncData) (ps : List Str) (sp : Sp) : Prop where
  len : ∀ vs H Q E, sp vs H Q E → vs.length = ps.length
  run : ∀ (A : Around) (outer : List Env) (s : Shared) (H : Hp) (args : Args) (us : List Value) (vs : List V) (Q : VK) (E : XK), Room k A → Env0 P w K mg base A outer s H → BindsTo s fd args (ps.zip us) → Vals vs us → sp vs H Q E →
    codeAny (model P w) A (.call (.ref f) args) (CR CX outer P w H s Q E) s
theorem FnOk.mono {P : Program} {w : World} {K : PySem.W.Frag} {mg : Str → Option Value} {base : Heap} {CX : CXT} {j k : Nat} {f : Addr} {fd : FuncData} {ps : List Str} {sp : Sp} (F : FnOk P w K mg base CX j f fd ps sp) (h : j ≤ k) :
    FnOk P w K mg base CX k f fd ps sp := ⟨F.len, fun A outer s H args us vs Q E hr => F.run A outer s H args us vs Q E (hr.mono h)⟩
theorem FnOk.imp {P : Program} {w : World} {K : PySem.W.Frag} {mg : Str → Option Value} {base : Heap} {CX : CXT} {k : Nat} {f : Addr} {fd : FuncData} {ps : List Str} {sp sp' : Sp} (F : FnOk P w K mg base CX k f fd ps sp)
    (h : ∀ vs H Q E, sp' vs H Q E → sp vs H Q E) : FnOk P w K mg base CX k f fd ps sp' :=
  ⟨fun vs H Q E q => F.len vs H Q E (h _ _ _ _ q), fun A outer s H args us vs Q E hr he hb hv hs => F.run A outer s H args us vs Q E hr he hb hv (h _ _ _ _ hs)⟩
theorem Env0.make {P : Program} {w : World} {K : PySem.W.Frag} {mg : Str → Option Value} {base : Heap} {A : Around} {outer : List Env} {s : Shared} {H : Hp} (e : Env0 P w K mg base A outer s H) (C : Addr) (us : List Value) (kw : List (Str × Value)) :
    Env0 P w K mg base (A.under (.builtin "type.__call__" ⟨.ref C :: us, kw⟩)) outer s H := ⟨by first | exact e.frames | (simpa [Around.under, Code.envs, Code.isFrame, pushEnvs] using e.frames), e.mod, e.bs, e.bsz, e.funs, e.frf, e.hok, e.bare⟩
theorem Env0.in1 {P : Program} {w : World} {K : PySem.W.Frag} {mg : Str → Option Value} {base : Heap} {A : Around} {outer : List Env} {s : Shared} {H : Hp} (e : Env0 P w K mg base A outer s H) :
    Env0 P w K mg base A.in1 outer s H := ⟨e.frames, e.mod, e.bs, e.bsz, e.funs, e.frf, e.hok, e.bare⟩
section
variable {X : Cx} {pins : List (Addr × Obj)} {σ : St} {H : Hp} {s s' : Shared}
theorem Inv.env0 (I : Inv X pins σ H s) : Env0 X.prog X.w X.K X.mg X.base X.A X.stack s H :=
  ⟨I.ok.frames, I.ok.mod, I.bs, Nat.le_trans I.ok.bsz I.sz, I.stack, I.stkFree, I.hok, I.bare⟩
theorem Inv.after {Q : VK} {u : Value} (I : Inv X pins σ H s) (h : CE X.stack X.prog X.w H s Q u s') : EP X pins σ Q u s' := by
  obtain ⟨v, H', os, bare, un, hok, r, q⟩ := h
  obtain ⟨hh, g, d, t, os'⟩ := s'
  obtain rfl : os' = s.os := os
  exact ⟨v, H', I.call (h' := hh) (g' := g) (d' := d) (t' := t) (ch := []) un hok bare (fun b z => absurd z (by simp)), r, q⟩
end
def tCall (sp : Sp) (dvs : List V) (E : XK) (t : TA) : TE := fun σ H Q => t σ H fun vs H1 => sp (vs ++ dvs) H1 Q E
def tMake (C : Addr) (sp : Sp) (dvs : List V) (E : XK) (t : TA) : TE := fun σ H Q => t σ H fun vs H1 => ∀ x dx, H1 x = none → H1 dx = none → dx ≠ x →
  sp (.ref x :: (vs ++ dvs)) (upd (upd H1 dx (.own x)) x (.ins C dx [])) (fun v H2 => v = .non ∧ Q (.ref x) H2) E
def Binds (K : PySem.W.Frag) (fd : FuncData) (ps : List Str) (ds : List Value) : Prop :=
  ∀ (s : Shared) (us : List Value), K.In s.heap → (us ++ ds).length = ps.length → BindsTo s fd ⟨us, []⟩ (ps.zip (us ++ ds))
theorem Binds.all {K : PySem.W.Frag} {fd : FuncData} {ps : List Str} (h : ∀ us : List Value, us.length = ps.length → bindArgs fd ⟨us, []⟩ = pure (ps.zip us)) : Binds K fd ps [] := fun s us _ hl => by
  rw [List.append_nil] at hl ⊢
  exact .of_eq (h us hl)
def Passes (CX : CXT) (X : Cx) (E : XK) : Prop := ∀ (pins : List (Addr × Obj)) (σ : St) (H : Hp) (s : Shared) (e : Value) (s' : Shared), Inv X pins σ H s → CX X.stack H s E e s' → X.xe e s'
section
variable {X : Cx} {CX : CXT} {k : Nat} {f C : Addr} {fd : FuncData} {ps : List Str} {sp : Sp} {dvs : List V} {ds : List Value} {E : XK} {x m : Str} {p pos apos : Pos} {e o : Expr} {es : List Expr} {ta : TE} {t : TA}
theorem run_fn {pins : List (Addr × Obj)} {σ : St} {H : Hp} {s : Shared} {Q : VK} {us : List Value} {vs : List V} (F : FnOk X.prog X.w X.K X.mg X.base CX k f fd ps sp) (hr : Room k X.A) (hb : Binds X.K fd ps ds) (hd : Vals dvs ds) (hx : Passes CX X E)
    (I : Inv X pins σ H s) (r : Vals vs us) (h : sp (vs ++ dvs) H Q E) : wpAny (model X.prog X.w) X.A (call (.ref f) us) (EP X pins σ Q) X.xe s := by
  have r2 : Vals (vs ++ dvs) (us ++ ds) := r.append hd
  have hl : (us ++ ds).length = ps.length := by rw [← r2.length]; exact F.len _ _ _ _ h
  refine wpAny_call (codeAny_mono (F.run X.A X.stack s H ⟨us, []⟩ (us ++ ds) (vs ++ dvs) Q E hr I.env0 (hb s us I.kIn hl) r2 h) fun r s' hq => ?_)
  cases r with
  | error e => exact hx pins σ H s e s' I hq
  | ok fl =>
    cases fl with
    | ret u => exact I.after hq
    | next => exact False.elim hq
    | brk => exact False.elim hq
    | cont => exact False.elim hq
theorem pe_call (F : FnOk X.prog X.w X.K X.mg X.base CX k f fd ps sp) (hr : Room k X.A) (hg : Gl X x) (hm : X.mg x = some (.ref f)) (hk : PySem.W.keepIn X.K (.ref f) = true) (hb : Binds X.K fd ps ds) (hd : Vals dvs ds) (hx : Passes CX X E)
    (ha : PA X (e :: es) t) (hdb : (x == ("__debug__" : Str)) = false := by decide) (he : starEach (e :: es) X.env = (false, eval e X.env) :: starEach es X.env := by rfl) (hpl : (backTo pos (starEach es X.env)).any (·.1) = false := by rfl) :
    PE X (.Call (.Name x p) (e :: es) [] pos) (tCall sp dvs E t) := by
  intro pins s σ H Q I h
  refine wpAny_Call_Name_kw (ld_glob I hg hm ?_ hdb)
  refine PySem.W.callWith_K (h₀ := X.base) I.ok.mod.kin hk (thn (ha pos pins s σ H _ I h) fun us s1 ⟨vs, H1, I1, r, q⟩ => ⟨I1.kIn, ?_⟩) he hpl
  exact run_fn F hr hb hd hx I1 r q
structure Mk (K : PySem.W.Frag) (C f : Addr) : Prop where
  makes : PySem.W.makesIn K C = true
  init : PySem.W.findIn K (.ref C) "__init__" = some (some (.ref f))
  fn : PySem.W.isFn K (.ref f) = true
  kp : PySem.W.keepIn K (.ref C) = true
theorem run_make {pins : List (Addr × Obj)} {σ : St} {H : Hp} {s : Shared} {Q : VK} {us : List Value} {vs : List V} (M : Mk X.K C f) (F : FnOk X.prog X.w X.K X.mg X.base CX k f fd ps sp) (hr : Room (k + 1) X.A) (hb : Binds X.K fd ps ds) (hd : Vals dvs ds)
    (hx : Passes CX X E) (I : Inv X pins σ H s) (r : Vals vs us)
    (h : ∀ x dx, H x = none → H dx = none → dx ≠ x → sp (.ref x :: (vs ++ dvs)) (upd (upd H dx (.own x)) x (.ins C dx [])) (fun v H2 => v = .non ∧ Q (.ref x) H2) E) :
    wpAny (model X.prog X.w) X.A (call (.ref C) us) (EP X pins σ Q) X.xe s := by
  have hq := h (s.heap.objs.size + 1) s.heap.objs.size (I.hok.fresh (Nat.le_succ _)) (I.hok.fresh (Nat.le_refl _)) (Nat.ne_of_lt (Nat.lt_succ_self _))
  have I2 := Inv.made (C := C) I
  have r2 : Vals (V.ref (s.heap.objs.size + 1) :: (vs ++ dvs)) (Value.ref (s.heap.objs.size + 1) :: (us ++ ds)) := .cons rfl (r.append hd)
  have hl : (Value.ref (s.heap.objs.size + 1) :: us ++ ds).length = ps.length := by
    have e := r2.length
    rw [F.len _ _ _ _ hq] at e
    exact e.symm
  refine wpAny_call (make_map (f := f) I.kIn M.makes M.init (beq_iff_eq.mp M.fn) (codeAny_mono (F.run _ X.stack _ _ ⟨Value.ref (s.heap.objs.size + 1) :: us, []⟩ (Value.ref (s.heap.objs.size + 1) :: (us ++ ds)) _ _ E (hr.make C us [])
    (I2.env0.make C us []) (hb _ (Value.ref (s.heap.objs.size + 1) :: us) I2.kIn hl) r2 hq) fun r s' hq' => ?_))
  cases r with
  | error e => exact hx pins σ _ _ e s' I2 hq'
  | ok fl =>
    cases fl with
    | ret u =>
      obtain ⟨v, H', I3, rv, ev, q3⟩ := I2.after hq'
      subst ev
      exact ⟨rv, ⟨V.ref (s.heap.objs.size + 1), H', I3, rfl, q3⟩⟩
    | next => exact False.elim hq'
    | brk => exact False.elim hq'
    | cont => exact False.elim hq'
theorem pe_make (M : Mk X.K C f) (F : FnOk X.prog X.w X.K X.mg X.base CX k f fd ps sp) (hr : Room (k + 1) X.A) (hg : Gl X x) (hm : X.mg x = some (.ref C)) (hb : Binds X.K fd ps ds) (hd : Vals dvs ds) (hx : Passes CX X E)
    (ha : PA X (e :: es) t) (hdb : (x == ("__debug__" : Str)) = false := by decide) (he : starEach (e :: es) X.env = (false, eval e X.env) :: starEach es X.env := by rfl) (hpl : (backTo pos (starEach es X.env)).any (·.1) = false := by rfl) :
    PE X (.Call (.Name x p) (e :: es) [] pos) (tMake C sp dvs E t) := by
  intro pins s σ H Q I h
  refine wpAny_Call_Name_kw (ld_glob I hg hm ?_ hdb)
  refine PySem.W.callWith_K (h₀ := X.base) I.ok.mod.kin M.kp (thn (ha pos pins s σ H _ I h) fun us s1 ⟨vs, H1, I1, r, q⟩ => ⟨I1.kIn, ?_⟩) he hpl
  exact run_make M F hr hb hd hx I1 r q
end
section
variable {X : Cx} {CX : CXT} {k : Nat} {f C : Addr} {fd : FuncData} {ps ks : List Str} {sp : Sp} {E : XK} {x m : Str} {p pos apos kpos : Pos} {e o : Expr} {es : List Expr} {kws : List Keyword} {te ta : TE} {t tk : TA} {nm : Option Str}
structure KBinds (K : PySem.W.Frag) (fd : FuncData) (ps ks : List Str) (g : List Value → List Value → List Value) (gV : List V → List V → List V) : Prop where
  to : ∀ (s : Shared) (us ws : List Value), K.In s.heap → (g us ws).length = ps.length → BindsTo s fd ⟨us, ks.zip ws⟩ (ps.zip (g us ws))
  rel : ∀ {vs : List V} {us : List Value} {zs : List V} {ws : List Value}, Vals vs us → Vals zs ws → Vals (gV vs zs) (g us ws)
variable {g : List Value → List Value → List Value} {gV : List V → List V → List V}
end
structure FnScope (N P : List Str) (sc : Scope) : Prop where
  kind : sc.kind = .function
  co : sc.isCoroutine = false
  gen : sc.isGenerator = false
  nd : N.Nodup
  pre : N.take P.length = P
  par : ∀ x ∈ P, sc.names.lookup x = some .local ∨ sc.names.lookup x = some .cell
  nofree : ∀ y ∈ sc.names, y.2 ≠ .free
theorem bindL_out {kindOf : Str → Option NameKind} {x : Str} : ∀ {binds : List (Str × Value)} {m : Str → Option Value}, (∀ v, (x, v) ∉ binds) → bindL kindOf binds m x = m x
  | [], _, _ => rfl
  | (n, v) :: r, m, h => by
    unfold bindL
    rw [bindL_out fun w hw => h w (List.mem_cons_of_mem _ hw)]
    split
    · have : x ≠ n := by rintro rfl; exact h v List.mem_cons_self
      simp [this]
    · rfl
theorem bindC_out {kindOf : Str → Option NameKind} {x : Str} : ∀ {binds : List (Str × Value)} {m : Str → Option Value}, (∀ v, (x, v) ∉ binds) → bindC kindOf binds m x = m x
  | [], _, _ => rfl
  | (n, v) :: r, m, h => by
    unfold bindC
    rw [bindC_out fun w hw => h w (List.mem_cons_of_mem _ hw)]
    split
    · rfl
    · have : x ≠ n := by rintro rfl; exact h v List.mem_cons_self
      simp [this]
theorem bindL_get {kindOf : Str → Option NameKind} {x : Str} {v : Value} : ∀ {P : List Str} {vs : List Value} {i : Nat} {m : Str → Option Value}, P.Nodup → P[i]? = some x → vs[i]? = some v → kindOf x = some .local →
    bindL kindOf (P.zip vs) m x = some v
  | [], _, _, _, _, h, _, _ => by simp at h
  | _ :: _, [], _, _, _, _, h, _ => by simp at h
  | p :: P, w :: vs, 0, m, nd, h1, h2, hk => by
    simp at h1 h2; subst h1; subst h2
    show bindL kindOf ((p, w) :: P.zip vs) m p = _
    unfold bindL
    rw [bindL_out fun v hv => (List.nodup_cons.mp nd).1 (List.of_mem_zip hv).1, if_pos hk]
    simp
  | p :: P, w :: vs, i + 1, m, nd, h1, h2, hk => by
    show bindL kindOf ((p, w) :: P.zip vs) m x = _
    unfold bindL
    exact bindL_get (i := i) (List.nodup_cons.mp nd).2 (by simpa using h1) (by simpa using h2) hk
theorem bindC_get {kindOf : Str → Option NameKind} {x : Str} {v : Value} : ∀ {P : List Str} {vs : List Value} {i : Nat} {m : Str → Option Value}, P.Nodup → P[i]? = some x → vs[i]? = some v → kindOf x ≠ some .local →
    bindC kindOf (P.zip vs) m x = some v
  | [], _, _, _, _, h, _, _ => by simp at h
  | _ :: _, [], _, _, _, _, h, _ => by simp at h
  | p :: P, w :: vs, 0, m, nd, h1, h2, hk => by
    simp at h1 h2; subst h1; subst h2
    show bindC kindOf ((p, w) :: P.zip vs) m p = _
    unfold bindC
    rw [bindC_out fun v hv => (List.nodup_cons.mp nd).1 (List.of_mem_zip hv).1, if_neg hk]
    simp
  | p :: P, w :: vs, i + 1, m, nd, h1, h2, hk => by
    show bindC kindOf ((p, w) :: P.zip vs) m x = _
    unfold bindC
    exact bindC_get (i := i) (List.nodup_cons.mp nd).2 (by simpa using h1) (by simpa using h2) hk
def start (N : List Str) (vs : List V) : St := vs.map some ++ List.replicate (N.length - vs.length) none
def cxOf (CX : CXT) (P : Program) (w : World) (K : PySem.W.Frag) (mg : Str → Option Value) (base : Heap) (N : List Str) (qual : Str) (scope : Scope) (f : Addr) (cd : Value) (A : Around) (outer : List Env) (s : Shared) (H : Hp) (E : XK) : Cx where
  prog := P
  w := w
  K := K
  mg := mg
  base := base
  A := A.deeper (envOfC qual scope s.heap.objs.size f cd)
  N := N
  s₀ := s
  H₀ := H
  env := envOfC qual scope s.heap.objs.size f cd
  outer := outer
  stack := envOfC qual scope s.heap.objs.size f cd :: outer
  ex := []
  calm := true
  fn := fun _ => true
  pn := []
  xe := fun e s' => wpAny (model P w) (A.deeper (envOfC qual scope s.heap.objs.size f cd)) (leaving (envOfC qual scope s.heap.objs.size f cd) e) (fun _ s'' => CX outer H s E e s'') (fun e' s'' => CX outer H s E e' s'') s'
theorem cell_has {sc : Scope} {n : Nat} {x : Str} (h : sc.names.lookup x = some .cell) : ∃ c, (cellsFrom n sc.names []).lookup x = some c := by
  have q := PySem.W.cellsFrom_some sc.names n [] (.inl h)
  exact Option.isSome_iff_exists.mp q
theorem inv_start {CX : CXT} {P : Program} {w : World} {K : PySem.W.Frag} {mg : Str → Option Value} {base : Heap} {N ps : List Str} {qual : Str} {scope : Scope} {f : Addr} {cd : Value} {A : Around} {outer : List Env} {s s1 : Shared} {H : Hp} {E : XK} {us : List Value} {vs : List V}
    (S : FnScope N ps scope) (hd : A.handled = none) (e0 : Env0 P w K mg base A outer s H) (hl : vs.length = ps.length) (r : Vals vs us)
    (x : InCallC s s.heap.objs.size (bindL (envOfC qual scope s.heap.objs.size f cd).kindOf (ps.zip us) fun _ => none) (cellsFrom (s.heap.objs.size + 1) scope.names []) (bindC (envOfC qual scope s.heap.objs.size f cd).kindOf (ps.zip us) fun _ => none) s1) :
    Inv (cxOf CX P w K mg base N qual scope f cd A outer s H E) [] (start N vs) H s1 := by
  have hpl : ps.length ≤ N.length := by have := congrArg List.length S.pre; rw [List.length_take] at this; omega
  obtain ⟨h1, tk, rfl, hk⟩ := x.done
  have noA : ∀ b : Addr, b ∉ (cxOf CX P w K mg base N qual scope f cd A outer s H E).ex := fun b z => absurd (show b ∈ ([] : List Addr) from z) (by simp)
  refine ⟨⟨e0.mod, S.kind, rfl, rfl, Nat.le_refl _, fun y z c h1 h2 => ?_, fun y hy => ?_, fun y c _ h => ?_, fun _ => hd, Around.frames_deeper e0.frames, .inr ⟨rfl, rfl⟩, fun b z => absurd z (noA b), e0.bs, e0.bsz, fun b _ _ => noA b, fun b z => absurd z (noA b), e0.funs, e0.frf⟩,
    rfl, e0.bare, Un.kept hk, ⟨_, x.toInCall.ns, fun i y v h1 h2 h3 => ?_⟩, fun y c h => ⟨_, x.cell y c h⟩, e0.hok.fresh (Nat.le_refl _), fun y c h => ?_, fun p hp => absurd (show p ∈ ([] : List (Addr × Obj)) from hp) (by simp), e0.hok.kept hk, ?_⟩
  · exact name_of_addr x.apart (PySem.mem_of_lookup h1) (PySem.mem_of_lookup h2)
  · have hy : scope.names.lookup y = some .cell ∨ scope.names.lookup y = some .free := hy
    rcases hy with hy | hy
    · exact cell_has hy
    · exact absurd rfl (S.nofree _ (PySem.mem_of_lookup hy))
  · exact Nat.le_of_lt (x.above y c (PySem.mem_of_lookup h))
  · have hi : i < vs.length := by
      unfold start at h2
      by_cases hi : i < vs.length
      · exact hi
      · rw [List.getElem?_append_right (by simpa using hi)] at h2
        rw [List.getElem?_replicate] at h2
        split at h2 <;> cases h2
    have ha : vs[i]? = some v := by
      unfold start at h2
      rw [List.getElem?_append_left (by simpa using hi), List.getElem?_map] at h2
      cases e : vs[i]? with
      | none => rw [e] at h2; cases h2
      | some a => rw [e] at h2; cases h2; rfl
    obtain ⟨u, hu, rv⟩ := r.get ha
    have hp : ps[i]? = some y := by
      rw [← S.pre, List.getElem?_take_of_lt (by omega)]; exact h1
    have ndP : ps.Nodup := by rw [← S.pre]; exact S.nd.sublist (List.take_sublist _ _)
    refine ⟨u, rv, ?_⟩
    rcases S.par y (List.mem_of_getElem? hp) with k | k
    · exact .inl ⟨k, bindL_get ndP hp hu k⟩
    · obtain ⟨c, e⟩ := cell_has (n := s.heap.objs.size + 1) k
      refine .inr ⟨.inl k, c, e, ?_⟩
      have q := x.cell y c e
      rw [bindC_get ndP hp hu (by show scope.names.lookup y ≠ _; rw [k]; decide)] at q
      exact q
  · exact e0.hok.fresh (Nat.le_of_lt (x.above y c (PySem.mem_of_lookup h)))
  · unfold start
    show _ = N.length
    rw [List.length_append, List.length_map, List.length_replicate]
    omega
theorem fn_of {CX : CXT} {P : Program} {w : World} {K : PySem.W.Frag} {mg : Str → Option Value} {base : Heap} {k : Nat} {f : Addr} {name qual : Str} {params : Arguments} {body : List Stmt} {scope : Scope} {dV kV doc pm cdv ct oc : Value} {an od : Option Addr}
    {osl : Array (Option Value)} {N ps : List Str} {sp : Sp} (lk : K.lookup f = some ⟨oc, od, .func (PySem.W.fnOf name qual params body scope dV kV doc pm an cdv ct), osl⟩) (hcd : PySem.W.codeIn K cdv qual = true) (S : FnScope N ps scope)
    (len : ∀ vs H Q E, sp vs H Q E → vs.length = ps.length)
    (hbody : ∀ (A : Around) (outer : List Env) (s : Shared) (H : Hp) (vs : List V) (Q : VK) (E : XK), Room k (A.deeper (envOfC qual scope s.heap.objs.size f cdv)) → sp vs H Q E →
      ∃ t, PSs (cxOf CX P w K mg base N qual scope f cdv A outer s H E) body t ∧ t { nx := fun _ H' => Q .non H', rt := Q } (start N vs) H) :
    FnOk P w K mg base CX (k + 1) f (PySem.W.fnOf name qual params body scope dV kV doc pm an cdv ct) ps sp := by
  refine ⟨len, fun A outer s H args us vs Q E hr e0 hb r hsp => ?_⟩
  have hl := len _ _ _ _ hsp
  have KX : K.In s.heap := e0.mod.kin.keeps fun b o e => (e0.bs b o e).1
  have lim : s.heap.NoLimit := e0.mod.nolimit.keeps fun b o e => (e0.bs b o e).1
  have hkind : ∀ y ∈ ps.zip us, scope.names.lookup y.1 = some .local ∨ (scope.names.lookup y.1 = some .cell ∧ ((cellsFrom (s.heap.objs.size + 1) scope.names []).lookup y.1).isSome = true) := fun ⟨n, v⟩ hy => by
    rcases S.par n (List.of_mem_zip hy).1 with q | q
    · exact .inl q
    · exact .inr ⟨q, PySem.W.cellsFrom_some _ _ _ (.inl q)⟩
  refine codeAny_call_function hr.depth (KX _ _ lk) rfl S.co S.gen rfl (PySem.W.codeRec_of KX hcd) (hb _ _ _ _ ?_)
  refine wpAny_newFunctionEnv_cells S.kind hkind fun env he s1 x => ?_
  subst he
  refine ⟨lim.keeps x.toInCall.keep, codeAny_func ?_⟩
  obtain ⟨t, ht, hq⟩ := hbody A outer s H vs Q E (hr.deeper _) hsp
  have I : Inv (cxOf CX P w K mg base N qual scope f cdv A outer s H E) [] (start N vs) H s1 := inv_start S hr.hd e0 hl r x
  refine wpAny_mono (ht [] s1 (start N vs) H _ I hq) (fun fl s' hs => ?_) fun e s' hs => hs
  have fin : ∀ {σ' : St} {H' : Hp} {v : V} {u : Value}, Inv (cxOf CX P w K mg base N qual scope f cdv A outer s H E) [] σ' H' s' → RelV v u → Q v H' → CE outer P w H s Q u s' :=
    fun {σ' H' v u} J rv q => ⟨v, H', J.os, J.bare, J.base, J.hok, rv, q⟩
  cases fl with
  | ret u =>
    obtain ⟨v, σ', H', J, rv, q⟩ := hs
    exact fin J rv q
  | next =>
    obtain ⟨σ', H', J, q⟩ := hs
    exact fin (v := V.non) (u := Value.none) J rfl q
  | brk =>
    obtain ⟨_, _, _, q⟩ := hs
    exact False.elim q
  | cont =>
    obtain ⟨_, _, _, q⟩ := hs
    exact False.elim q
end L2
namespace L2
open PySem PySem.Spec PyProof.Rows
section
variable {X : Cx} {x : Str} {p pos : Pos} {e : Expr} {es : List Expr} {t : TA} {id T : String} {r : List V → Hp → VK → Prop}
def tCB (r : List V → Hp → VK → Prop) (t : TA) : TE := fun σ H Q => t σ H fun vs H1 => r vs H1 Q
theorem pe_callB (hc : CallR X (.builtin id) r) (hg : Gl X x) (hm : X.mg x = none) (hv : bootBuiltins x = some (.builtin id)) (ha : PA X (e :: es) t) (hn : x ≠ "__name__" := by decide) (hdb : (x == ("__debug__" : Str)) = false := by decide)
    (he : starEach (e :: es) X.env = (false, eval e X.env) :: starEach es X.env := by rfl) (hpl : (backTo pos (starEach es X.env)).any (·.1) = false := by rfl) : PE X (.Call (.Name x p) (e :: es) [] pos) (tCB r t) := by
  intro pins s σ H Q I h
  refine wpAny_Call_Name_kw (ld_blt I hg hm hv ?_ hn hdb)
  exact PyProof.Rows.callWith_builtin1 (thn (ha pos pins s σ H _ I h) fun us s1 ⟨vs, H1, I1, r1, q1⟩ => hc pins s1 σ H1 vs us Q I1 r1 q1) he hpl
theorem pe_callTy (hc : CallR X (.type T) r) (hg : Gl X x) (hm : X.mg x = none) (hv : bootBuiltins x = some (.type T)) (ha : PA X (e :: es) t) (hn : x ≠ "__name__" := by decide) (hdb : (x == ("__debug__" : Str)) = false := by decide)
    (he : starEach (e :: es) X.env = (false, eval e X.env) :: starEach es X.env := by rfl) (hpl : (backTo pos (starEach es X.env)).any (·.1) = false := by rfl) : PE X (.Call (.Name x p) (e :: es) [] pos) (tCB r t) := by
  intro pins s σ H Q I h
  refine wpAny_Call_Name_kw (ld_blt I hg hm hv ?_ hn hdb)
  exact PyProof.Rows.callWith_type1 (thn (ha pos pins s σ H _ I h) fun us s1 ⟨vs, H1, I1, r1, q1⟩ => hc pins s1 σ H1 vs us Q I1 r1 q1) he hpl
end
end L2
namespace HT
open PySem PyProof.Rows
section
open PySem.SeqAt
open PySem.AutoSeq1 (wpAny_loadPart')
open PySem.MeetsSeq PySem.MeetsSeq2 PySem.MeetsSeq3
end
section
variable {prog : Program} {w : World} {A : Around} {E : Value → Shared → Prop} {s : Shared}
def sIx (n d : Nat) : Option Int → Nat
  | none => d
  | some v => if v < 0 then (v + (n : Int)).toNat else min v.toNat n
theorem sIx_none (n d : Nat) : sIx n d none = d := rfl
theorem sIx_nat (n d k : Nat) : sIx n d (some (k : Int)) = min k n := by
  show (if (k : Int) < 0 then ((k : Int) + (n : Int)).toNat else min (k : Int).toNat n) = min k n
  rw [if_neg (by omega), Int.toNat_natCast]
end
end HT
namespace L2
open PySem PySem.Spec PyProof.Rows
abbrev TO := St → Hp → (Option Int → Hp → Prop) → Prop
def PO (X : Cx) (e : Option Expr) (t : TO) : Prop :=
  ∀ (pins : List (Addr × Obj)) (s : Shared) (σ : St) (H : Hp) (Q : Option Int → Hp → Prop), Inv X pins σ H s → t σ H Q →
    wpAny (model X.prog X.w) X.A (evalPart e X.env) (fun u s' => ∃ o H', Inv X pins σ H' s' ∧ IsPart u o ∧ Q o H') X.xe s
def tNoPart : TO := fun _ H Q => Q none H
def tPart (t : TE) : TO := fun σ H Q => t σ H fun x H1 => ∃ i, x = .int i ∧ Q (some i) H1
theorem intsAre_of {ns : List Int} : ∀ {us : List Value}, Vals (ns.map V.int) us → IntsAre us ns := by
  induction ns with
  | nil => intro us r; rw [List.map_nil] at r; cases r; exact .nil
  | cons n ns ih =>
    intro us r
    rw [List.map_cons] at r
    cases r with
    | cons r1 r2 =>
      obtain ⟨t, e⟩ := r1
      subst e
      exact .cons n t (ih r2)
section
variable {X : Cx} {e : Expr} {te : TE} {lo hi : Option Expr} {tl th : TO} {pos p2 : Pos}
theorem po_none : PO X none tNoPart := by
  intro pins s σ H Q I h
  rw [evalPart_none]
  exact wpAny_pure ⟨none, H, I, .none, h⟩
theorem po_some (h : PE X e te) : PO X (some e) (tPart te) := by
  intro pins s σ H Q I hw
  rw [evalPart_some]
  refine thn (h pins s σ H _ I hw) fun u s1 ⟨x, H1, I1, r1, q1⟩ => ?_
  obtain ⟨i, rfl, q⟩ := q1
  obtain ⟨t, rfl⟩ := r1
  exact ⟨some i, H1, I1, .int i t, q⟩
def SlR (X : Cx) (r : V → Option Int → Option Int → Hp → VK → Prop) : Prop :=
  ∀ (pins : List (Addr × Obj)) (s : Shared) (σ : St) (H : Hp) (x : V) (v vl vu : Value) (lo hi : Option Int) (sl : Addr) (Q : VK), Inv X pins σ H s → RelV x v → s.heap.IsSliceOf sl vl vu .none → IsPart vl lo → IsPart vu hi → r x lo hi H Q →
    ∃ T id, typeLookup (.type T) "__getitem__" = pure (some (.builtin id)) ∧ s.TypeIs v T ∧ wpAny (model X.prog X.w) X.A (getItem v (.ref sl)) (EP X pins σ Q) X.xe s
theorem SlR.or {r r' : V → Option Int → Option Int → Hp → VK → Prop} (h : SlR X r) (h' : SlR X r') : SlR X (fun x lo hi H Q => r x lo hi H Q ∨ r' x lo hi H Q) := by
  intro pins s σ H x v vl vu lo hi sl Q I rx hs pl pu q
  rcases q with q | q
  · exact h pins s σ H x v vl vu lo hi sl Q I rx hs pl pu q
  · exact h' pins s σ H x v vl vu lo hi sl Q I rx hs pl pu q
def tSl (r : V → Option Int → Option Int → Hp → VK → Prop) (te : TE) (tl th : TO) : TE := fun σ H Q => te σ H fun x H1 => tl σ H1 fun l H2 => th σ H2 fun u H3 => r x l u H3 Q
theorem pe_slice {r : V → Option Int → Option Int → Hp → VK → Prop} (hr : SlR X r) (he : PE X e te) (hl : PO X lo tl) (hu : PO X hi th) : PE X (.Subscript e (.Slice lo hi none p2) pos) (tSl r te tl th) := by
  intro pins s σ H Q I h
  refine Subscript_ (thn (he pins s σ H _ I h) fun v s1 ⟨x, H1, I1, r1, q1⟩ => ?_)
  refine wpAny_Slice (thn (hl pins s1 σ H1 _ I1 q1) fun vl s2 ⟨l, H2, I2, pl, q2⟩ => thn (hu pins s2 σ H2 _ I2 q2) fun vu s3 ⟨u, H3, I3, pu, q3⟩ => ?_)
  rw [evalPart_none]
  refine wpAny_pure ?_
  have I4 : Inv X pins σ H3 { s3 with heap := s3.heap.push { cls := .type "slice", data := .fields #[vl, vu, .none] } } := I3.kept (t' := s3.toks) fun b ob q => Heap.get?_push_of_some _ q
  obtain ⟨T, id, hT, ht, hg⟩ := hr pins { s3 with heap := s3.heap.push { cls := .type "slice", data := .fields #[vl, vu, .none] } } σ H3 x v vl vu l u s3.heap.objs.size Q I4 r1 (Heap.IsSliceOf.new ..) pl pu q3
  show wpAny (model X.prog X.w) X.A (subscriptTail e (.Slice lo hi none p2) v (.ref s3.heap.objs.size)) (EP X pins σ Q) X.xe { s3 with heap := s3.heap.push { cls := .type "slice", data := .fields #[vl, vu, .none] } }
  exact tail_any (ops := [.ref s3.heap.objs.size, v]) ht hT hg (by with_unfolding_all rfl)
def cutV (xs : List V) (lo hi : Option Int) : List V := (xs.drop (HT.sIx xs.length 0 lo)).take (HT.sIx xs.length xs.length hi - HT.sIx xs.length 0 lo)
theorem cutV_length (xs : List V) (lo hi : Option Int) : (cutV xs lo hi).length ≤ xs.length := by
  unfold cutV
  rw [List.length_take, List.length_drop]
  omega
end
end L2
namespace L2
open PySem PySem.Spec PyProof.Rows
def ixN (n : Nat) (i : Int) : Option Nat := if 0 ≤ i then (if i < n then some i.toNat else none) else if -(n : Int) ≤ i then some (i + n).toNat else none
def atI {α : Type} (xs : List α) (i : Int) : Option α := (ixN xs.length i).bind fun j => xs[j]?
theorem ixN_seq {n : Nat} {i : Int} {j : Nat} (h : ixN n i = some j) : seqIndex? i n = some j ∧ j < n ∧ -(n : Int) ≤ i ∧ i < n := by
  unfold ixN at h
  by_cases h0 : 0 ≤ i
  · rw [if_pos h0] at h
    by_cases h1 : i < n
    · rw [if_pos h1] at h
      have e : i.toNat = j := Option.some.inj h
      exact ⟨by rw [seqIndex_of h0 h1, e], by omega, by omega, h1⟩
    · rw [if_neg h1] at h; cases h
  · rw [if_neg h0] at h
    by_cases h1 : -(n : Int) ≤ i
    · rw [if_pos h1] at h
      have e : (i + n).toNat = j := Option.some.inj h
      exact ⟨by rw [seqIndex_neg (by omega) h1, e], by omega, h1, by omega⟩
    · rw [if_neg h1] at h; cases h
theorem atI_get {α : Type} {xs : List α} {i : Int} {v : α} (h : atI xs i = some v) : ∃ j, seqIndex? i xs.length = some j ∧ xs[j]? = some v ∧ j < xs.length ∧ -(xs.length : Int) ≤ i ∧ i < xs.length := by
  unfold atI at h
  cases e : ixN xs.length i with
  | none => rw [e] at h; cases h
  | some j =>
    rw [e] at h
    obtain ⟨h1, h2, h3, h4⟩ := ixN_seq e
    exact ⟨j, h1, h, h2, h3, h4⟩
theorem atI_nat {α : Type} {xs : List α} {j : Nat} {v : α} (h : xs[j]? = some v) : atI xs (j : Int) = some v := by
  have hj : j < xs.length := (List.getElem?_eq_some_iff.mp h).1
  have e : ixN xs.length (j : Int) = some j := by
    unfold ixN
    rw [if_pos (by omega), if_pos (by omega)]; simp
  unfold atI; rw [e]; exact h
def PlainIx (b : Expr) : Prop := ∀ o i, subscripted b false o i = operate [o, i] (getItem o i)
def IxR (X : Cx) (r : R2) : Prop :=
  ∀ (value slice : Expr) (pins : List (Addr × Obj)) (s : Shared) (σ : St) (H : Hp) (x y : V) (v u : Value) (Q : VK), Inv X pins σ H s → RelV x v → RelV y u → r x y H Q →
    subscripted slice false v u = operate [v, u] (getItem v u) → wpAny (model X.prog X.w) X.A (subscriptTail value slice v u) (EP X pins σ Q) X.xe s
def MtR (X : Cx) (id : String) (r : V → List V → Hp → VK → Prop) : Prop :=
  ∀ (pins : List (Addr × Obj)) (s : Shared) (σ : St) (H : Hp) (x : V) (xs : List V) (v : Value) (us : List Value) (Q : VK), Inv X pins σ H s → RelV x v → Vals xs us → r x xs H Q →
    wpAny (model X.prog X.w) X.A (call (.builtin id) (v :: us)) (EP X pins σ Q) X.xe s
section
variable {X : Cx} {a b : Expr} {ta tb : TE} {pos : Pos}
theorem IxR.or {r r' : R2} (h : IxR X r) (h' : IxR X r') : IxR X (fun x y H Q => r x y H Q ∨ r' x y H Q) := by
  intro value slice pins s σ H x y v u Q I rx ry q hs
  rcases q with q | q
  · exact h value slice pins s σ H x y v u Q I rx ry q hs
  · exact h' value slice pins s σ H x y v u Q I rx ry q hs
theorem MtR.or {id : String} {r r' : V → List V → Hp → VK → Prop} (h : MtR X id r) (h' : MtR X id r') : MtR X id (fun x xs H Q => r x xs H Q ∨ r' x xs H Q) := by
  intro pins s σ H x xs v us Q I rx rs q
  rcases q with q | q
  · exact h pins s σ H x xs v us Q I rx rs q
  · exact h' pins s σ H x xs v us Q I rx rs q
theorem pe_ix {r : R2} (hr : IxR X r) (ha : PE X a ta) (hb : PE X b tb) (hs : PlainIx b) : PE X (.Subscript a b pos) (tOp r ta tb) := by
  intro pins s σ H Q I h
  exact Subscript_ (binT ha hb I h fun v u s2 x y H2 I2 rx ry q => hr a b pins s2 σ H2 x y v u Q I2 rx ry q (hs _ _))
def rIxL (K : PySem.W.Frag) : R2 := fun x y H Q => ∃ p xs i v, x = .ref p ∧ y = .int i ∧ SqL K H p xs ∧ atI xs i = some v ∧ Q v H
def rIxT (K : PySem.W.Frag) : R2 := fun x y H Q => ∃ p xs i v, x = .ref p ∧ y = .int i ∧ SqT K H p xs ∧ atI xs i = some v ∧ Q v H
def rIxS : R2 := fun x y H Q => ∃ z i c, x = .str z ∧ y = .int i ∧ z.length ≤ sizeLine ∧ atI z.cps.toList i = some c ∧ Q (.str ⟨#[c]⟩) H
theorem ix_list : IxR X (rIxL X.K) := by
  intro value slice pins s σ H x y v u Q I rx ry h hs
  obtain ⟨p, xs, i, z, rfl, rfl, hq, he, q⟩ := h
  cases rx
  obtain ⟨t, rfl⟩ := ry
  obtain ⟨its, r, pl, hz⟩ := I.list hq
  obtain ⟨j, h1, h2, h3, h4, h5⟩ := atI_get he
  obtain ⟨w, ew, rw'⟩ := r.get h2
  have hl := r.length
  have hn := line63
  have fin : EP X pins σ Q w s := ⟨z, H, I, rw', q⟩
  by_cases h0 : 0 ≤ i
  · have hj : i.toNat = j := by
      rw [seqIndex_of h0 h5] at h1
      exact Option.some.inj h1
    exact item_listR pl.isList h0 (by omega) (by rw [hj]; simpa using ew) fin hs
  · have hj : (i + (its.toArray.size : Int)).toNat = j := by
      rw [seqIndex_neg (by omega) h4] at h1
      rw [List.size_toArray, ← hl]
      exact Option.some.inj h1
    exact subscriptTail_builtinR (x := w) pl.isList.typeIs slot_list_getitem.lookup
      (wpAny_getItem_list_neg (Q := fun r s' => r = w ∧ EP X pins σ Q r s') pl.isList (by omega) (by rw [List.size_toArray] <;> omega) (by omega) (by rw [hj]; simpa using ew) ⟨rfl, fin⟩) hs
theorem ix_tup : IxR X (rIxT X.K) := by
  intro value slice pins s σ H x y v u Q I rx ry h hs
  obtain ⟨p, xs, i, z, rfl, rfl, hq, he, q⟩ := h
  cases rx
  obtain ⟨t, rfl⟩ := ry
  obtain ⟨its, r, pl, hz⟩ := I.tuple hq
  obtain ⟨j, h1, h2, h3, h4, h5⟩ := atI_get he
  obtain ⟨w, ew, rw'⟩ := r.get h2
  have hl := r.length
  have hn := line63
  have fin : EP X pins σ Q w s := ⟨z, H, I, rw', q⟩
  exact subscriptTail_builtinR (x := w) pl.typeIs slot_tuple_getitem.lookup
    (getItem_tuple (j := j) (Q := fun r s' => r = w ∧ EP X pins σ Q r s') pl (by omega) (by omega) (by rw [List.size_toArray, ← hl]; exact h1) (by simpa using ew) ⟨rfl, fin⟩) hs
theorem ix_str : IxR X rIxS := by
  intro value slice pins s σ H x y v u Q I rx ry h hs
  obtain ⟨z, i, c, rfl, rfl, hz, he, q⟩ := h
  obtain ⟨t, rfl⟩ := rx
  obtain ⟨t', rfl⟩ := ry
  obtain ⟨j, h1, h2, h3, h4, h5⟩ := atI_get he
  have hl : z.cps.toList.length = z.length := by simp [Str.length]
  rw [hl] at h1 h4 h5
  have hn := line63
  exact tail_any (typeIs_str s z t) slot_str_getitem.lookup (getItem_str (c := c) (by
    have e1 : decide (i < -(2 ^ 63 : Int)) = false := decide_eq_false (by omega)
    have e2 : decide (i ≥ 2 ^ 63) = false := decide_eq_false (by omega)
    rw [e1, e2, Bool.or_false]) (by rw [h1]; simpa using h2) ⟨.str ⟨#[c]⟩, H, I.tok _, ⟨_, rfl⟩, q⟩) hs
theorem Inv.lst {pins : List (Addr × Obj)} {σ : St} {H : Hp} {s : Shared} {p : Addr} {xs : List V} (I : Inv X pins σ H s) (h : H p = some (.lst xs)) :
    ∃ (its : List Value) (n : Nat), Vals xs its ∧ s.heap.get? p = some { cls := .type "list", data := .seq its.toArray n } ∧ xs.length ≤ sizeLine := by
  obtain ⟨z, its, n, r, e⟩ := I.hok p _ h
  exact ⟨its, n, r, e, z⟩
theorem slice_bounds (lo hi : Option Int) (n : Nat) : (sliceBounds lo hi none n).1 = ((HT.sIx n 0 lo : Nat) : Int) ∧ (sliceBounds lo hi none n).2.1 = ((HT.sIx n n hi : Nat) : Int) ∧ (sliceBounds lo hi none n).2.2 = 1 := by
  refine ⟨?_, ?_, rfl⟩
  · cases lo with
    | none => simp [sliceBounds, HT.sIx]
    | some i =>
      simp only [sliceBounds, HT.sIx, Option.getD_none, show (1 : Int) > 0 by decide, if_true]
      by_cases h : i < 0
      · simp only [h, if_true] <;> omega
      · simp only [h, if_false] <;> omega
  · cases hi with
    | none => simp [sliceBounds, HT.sIx]
    | some i =>
      simp only [sliceBounds, HT.sIx, Option.getD_none, show (1 : Int) > 0 by decide, if_true]
      by_cases h : i < 0
      · simp only [h, if_true] <;> omega
      · simp only [h, if_false] <;> omega
theorem slicePick_cut (its : List Value) (lo hi : Option Int) : slicePick its.toArray lo hi none = ((its.drop (HT.sIx its.length 0 lo)).take (HT.sIx its.length its.length hi - HT.sIx its.length 0 lo)).toArray := by
  obtain ⟨h1, h2, h3⟩ := slice_bounds lo hi its.toArray.size
  unfold slicePick
  rw [h1, h2, h3]
  simp only [sliceRange_one, pick_run, List.size_toArray] <;> rfl
def rSlL (K : PySem.W.Frag) : V → Option Int → Option Int → Hp → VK → Prop := fun x lo hi H Q => ∃ a xs, x = .ref a ∧ SqL K H a xs ∧ ∀ p, H p = none → Q (.ref p) (upd H p (.lst (cutV xs lo hi)))
theorem sl_list : SlR X (rSlL X.K) := by
  intro pins s σ H x v vl vu lo hi sl Q I rx hs pl pu h
  obtain ⟨a, xs, rfl, hx, q⟩ := h
  cases rx
  obtain ⟨its, r, ht, hz⟩ := I.list hx
  have hlen := r.length
  refine ⟨"list", _, slot_list_getitem.lookup, ht.isList.typeIs, ?_⟩
  refine wpAny_getItem_list_slice ht.isList hs pl pu .none (by simp) ?_ (by rw [List.size_toArray] <;> omega)
  rw [slicePick_cut, ← hlen]
  refine ⟨.ref s.heap.objs.size, _, I.laid (t' := s.toks) (o := .lst (cutV xs lo hi)) (fun b ob q => Heap.get?_push_of_some _ q) (Nat.le_refl _) ?_, rfl, q _ (I.hok.fresh (Nat.le_refl _))⟩
  exact ⟨Nat.le_trans (cutV_length xs lo hi) hz, _, 0, (r.drop (HT.sIx xs.length 0 lo)).take (HT.sIx xs.length xs.length hi - HT.sIx xs.length 0 lo), Heap.get?_push_size _ rfl⟩
def flatV : V → Bool
  | .non => true
  | .bl _ => true
  | .int _ => true
  | .str _ => true
  | _ => false
def eqV : V → V → Bool
  | .non, .non => true
  | .bl a, .bl b => a == b
  | .bl a, .int b => (if a then 1 else 0) == b
  | .int a, .bl b => a == (if b then 1 else 0)
  | .int a, .int b => a == b
  | .str a, .str b => a == b
  | _, _ => false
theorem eqAt_V {A : Around} {s : Shared} {y x : V} {u v : Value} (ry : RelV y u) (rx : RelV x v) (fy : flatV y = true) (fx : flatV x = true) : SeqAt.EqAt A s u v (eqV y x) := by
  cases y with
  | non =>
    cases ry
    cases x with
    | non => cases rx; exact SeqAt.EqAt.same _
    | bl b => cases rx; exact SeqAt.EqAt.none_bool b
    | int b => obtain ⟨t, rfl⟩ := rx; exact SeqAt.EqAt.none_int b t
    | str b => obtain ⟨t, rfl⟩ := rx; exact SeqAt.EqAt.none_str b t
    | _ => exact absurd (show false = true from fx) Bool.false_ne_true
  | bl a =>
    cases ry
    cases x with
    | non => cases rx; exact SeqAt.EqAt.bool_none a
    | bl b => cases rx; exact SeqAt.EqAt.bool_bool a b
    | int b => obtain ⟨t, rfl⟩ := rx; exact SeqAt.EqAt.bool_int a b t
    | str b => obtain ⟨t, rfl⟩ := rx; exact SeqAt.EqAt.bool_str a b t
    | _ => exact absurd (show false = true from fx) Bool.false_ne_true
  | int a =>
    obtain ⟨t', rfl⟩ := ry
    cases x with
    | non => cases rx; exact SeqAt.EqAt.int_none a t'
    | bl b => cases rx; exact SeqAt.EqAt.int_bool a t' b
    | int b => obtain ⟨t, rfl⟩ := rx; exact SeqAt.EqAt.int_int a t' b t
    | str b => obtain ⟨t, rfl⟩ := rx; exact SeqAt.EqAt.int_str a t' b t
    | _ => exact absurd (show false = true from fx) Bool.false_ne_true
  | str a =>
    obtain ⟨t', rfl⟩ := ry
    cases x with
    | non => cases rx; exact SeqAt.EqAt.str_none a t'
    | bl b => cases rx; exact SeqAt.EqAt.str_bool a t' b
    | int b => obtain ⟨t, rfl⟩ := rx; exact SeqAt.EqAt.str_int a t' b t
    | str b => obtain ⟨t, rfl⟩ := rx; exact SeqAt.EqAt.str_str a t' b t
    | _ => exact absurd (show false = true from fx) Bool.false_ne_true
  | _ => exact absurd (show false = true from fy) Bool.false_ne_true
def eqU (x : V) (u : Value) : Bool := match u with
  | .none => eqV .non x
  | .bool b => eqV (.bl b) x
  | .int i _ => eqV (.int i) x
  | .str z _ => eqV (.str z) x
  | _ => false
theorem eqU_of {x y : V} {u : Value} (r : RelV y u) (f : flatV y = true) : eqU x u = eqV y x := by
  cases y with
  | non => cases r; rfl
  | bl b => cases r; rfl
  | int i => obtain ⟨t, rfl⟩ := r; rfl
  | str z => obtain ⟨t, rfl⟩ := r; rfl
  | _ => exact absurd (show false = true from f) Bool.false_ne_true
theorem any_eqU {x : V} : ∀ {xs : List V} {us : List Value}, Vals xs us → xs.all flatV = true → us.any (eqU x) = xs.any fun y => eqV y x
  | _, _, .nil, _ => rfl
  | y :: xs, u :: us, .cons r t, f => by
    rw [List.all_cons, Bool.and_eq_true] at f
    rw [List.any_cons, List.any_cons, eqU_of r f.1, any_eqU t f.2]
theorem mem_eqAt {A : Around} {s : Shared} {x : V} {v : Value} (rx : RelV x v) (fx : flatV x = true) : ∀ {xs : List V} {us : List Value}, Vals xs us → xs.all flatV = true → ∀ u ∈ us, SeqAt.EqAt A s u v (eqU x u)
  | _, _, .nil, _ => fun u hu => by cases hu
  | y :: xs, u :: us, .cons r t, f => fun u' hu => by
    rw [List.all_cons, Bool.and_eq_true] at f
    rcases List.mem_cons.mp hu with rfl | hu
    · rw [eqU_of r f.1]; exact eqAt_V r rx f.1 fx
    · exact mem_eqAt rx fx t f.2 u' hu
def inV (x : V) (xs : List V) : Bool := xs.any fun y => eqV y x
def rIn (K : PySem.W.Frag) (neg : Bool) : R2 := fun x y H Q => ∃ p xs, y = .ref p ∧ (SqL K H p xs ∨ SqT K H p xs) ∧ flatV x = true ∧ xs.all flatV = true ∧ Q (.bl (if neg then !inV x xs else inV x xs)) H
theorem op_in_seq : OpR X (compareOp .In) (rIn X.K false) := by
  intro pins s σ H x y v u Q I rx ry h
  obtain ⟨p, xs, rfl, hq, fx, fs, q⟩ := h
  cases ry
  rcases hq with hq | hq
  · obtain ⟨its, r, pl, hz⟩ := I.list hq
    refine SeqAt.in_listAt (eqU x) pl.isList (fun w hw => mem_eqAt rx fx r fs w (by simpa using hw)) ⟨.bl _, H, I, rfl, ?_⟩
    rw [show its.toArray.any (eqU x) = its.any (eqU x) by simp, any_eqU r fs]
    exact q
  · obtain ⟨its, r, pl, hz⟩ := I.tuple hq
    refine SeqAt.in_tupleAt (eqU x) pl (fun w hw => mem_eqAt rx fx r fs w (by simpa using hw)) ⟨.bl _, H, I, rfl, ?_⟩
    rw [show its.toArray.any (eqU x) = its.any (eqU x) by simp, any_eqU r fs]
    exact q
theorem op_notIn_seq : OpR X (compareOp .NotIn) (rIn X.K true) := by
  intro pins s σ H x y v u Q I rx ry h
  obtain ⟨p, xs, rfl, hq, fx, fs, q⟩ := h
  cases ry
  rcases hq with hq | hq
  · obtain ⟨its, r, pl, hz⟩ := I.list hq
    refine SeqAt.notIn_listAt (eqU x) pl.isList (fun w hw => mem_eqAt rx fx r fs w (by simpa using hw)) ⟨.bl _, H, I, rfl, ?_⟩
    rw [show its.toArray.any (eqU x) = its.any (eqU x) by simp, any_eqU r fs]
    exact q
  · obtain ⟨its, r, pl, hz⟩ := I.tuple hq
    refine SeqAt.notIn_tupleAt (eqU x) pl (fun w hw => mem_eqAt rx fx r fs w (by simpa using hw)) ⟨.bl _, H, I, rfl, ?_⟩
    rw [show its.toArray.any (eqU x) = its.any (eqU x) by simp, any_eqU r fs]
    exact q
theorem call_len_seq : CallR X (.builtin "len") (fun xs H Q => ∃ p ys, xs = [.ref p] ∧ (SqL X.K H p ys ∨ SqT X.K H p ys) ∧ Q (.int ys.length) H) := by
  intro pins s σ H xs us Q I r h
  obtain ⟨p, ys, rfl, hq, q⟩ := h
  obtain ⟨u, rfl, rx⟩ := vals1 r
  cases rx
  have hn := line63
  rcases hq with hq | hq
  · obtain ⟨its, r', pl, hz⟩ := I.list hq
    have hlen := r'.length
    exact Calls.call_len_list pl.isList (by simp only [List.size_toArray] <;> omega) ⟨.int ys.length, H, I.tok _, ⟨s.toks + 1, by rw [List.size_toArray, hlen]⟩, q⟩
  · obtain ⟨its, r', pl, hz⟩ := I.tuple hq
    have hlen := r'.length
    exact len_tuple pl (by simp only [List.size_toArray] <;> omega) ⟨.int ys.length, H, I.tok _, ⟨s.toks + 1, by rw [List.size_toArray, hlen]⟩, q⟩
theorem call_len_str : CallR X (.builtin "len") (fun xs H Q => ∃ z, xs = [.str z] ∧ z.length ≤ sizeLine ∧ Q (.int z.length) H) := by
  intro pins s σ H xs us Q I r h
  obtain ⟨z, rfl, hz, q⟩ := h
  obtain ⟨u, rfl, t, rfl⟩ := vals1 r
  have hn := line63
  exact len_str (by omega) ⟨.int z.length, H, I.tok _, ⟨_, rfl⟩, q⟩
theorem CallR.or {f : Value} {r r' : List V → Hp → VK → Prop} (h : CallR X f r) (h' : CallR X f r') : CallR X f (fun xs H Q => r xs H Q ∨ r' xs H Q) := by
  intro pins s σ H xs us Q I rs q
  rcases q with q | q
  · exact h pins s σ H xs us Q I rs q
  · exact h' pins s σ H xs us Q I rs q
theorem call_list_of : CallR X (.type "list") (fun xs H Q => ∃ p ys, xs = [.ref p] ∧ (SqL X.K H p ys ∨ SqT X.K H p ys) ∧ ∀ l, H l = none → Q (.ref l) (upd H l (.lst ys))) := by
  intro pins s σ H xs us Q I r h
  obtain ⟨p, ys, rfl, hq, q⟩ := h
  obtain ⟨u, rfl, rx⟩ := vals1 r
  cases rx
  have fin : ∀ (its : List Value), Vals ys its → ys.length ≤ sizeLine → ∀ (h' : Heap) (c' : Nat), (∀ b o', s.heap.get? b = some o' → h'.get? b = some o') →
      h'.get? s.heap.objs.size = some { cls := .type "list", dict := none, data := .seq its.toArray c', slots := #[] } → EP X pins σ Q (.ref s.heap.objs.size) { s with heap := h' } := fun its r' hz h' c' kp e =>
    ⟨.ref s.heap.objs.size, _, I.laid (t' := s.toks) kp (Nat.le_refl _) (show ObjOk X.prog X.w _ h' _ (.lst ys) from ⟨hz, its, c', r', e⟩), rfl, q _ (I.hok.fresh (Nat.le_refl _))⟩
  rcases hq with hq | hq
  · obtain ⟨its, r', pl, hz⟩ := I.list hq
    have hlen := r'.length
    obtain ⟨o, ho, hc, n, hd⟩ := pl.isList
    exact call_list_seq p (.inl rfl) ho hc hd (fun h' c' kp e => fin its r' hz h' c' kp e) (by simp only [List.size_toArray] <;> omega)
  · obtain ⟨its, r', pl, hz⟩ := I.tuple hq
    have hlen := r'.length
    obtain ⟨o, ho, hc, n, hd⟩ := pl
    exact call_list_seq p (.inr rfl) ho hc hd (fun h' c' kp e => fin its r' hz h' c' kp e) (by simp only [List.size_toArray] <;> omega)
theorem call_tuple_of : CallR X (.type "tuple") (fun xs H Q => ∃ p ys, xs = [.ref p] ∧ ((SqL X.K H p ys ∧ ∀ l, H l = none → Q (.ref l) (upd H l (.tup ys))) ∨ (SqT X.K H p ys ∧ Q (.ref p) H))) := by
  intro pins s σ H xs us Q I r h
  obtain ⟨p, ys, rfl, h⟩ := h
  obtain ⟨u, rfl, rx⟩ := vals1 r
  cases rx
  rcases h with ⟨hq, q⟩ | ⟨hq, q⟩
  · obtain ⟨its, r', pl, hz⟩ := I.list hq
    have hlen := r'.length
    refine call_tuple_list pl.isList (fun h' kp => ?_) (by simp only [List.size_toArray] <;> omega)
    have I1 : Inv X pins σ H { s with heap := h' } := I.kept (t' := s.toks) kp
    have I2 : Inv X pins σ (upd H h'.objs.size (.tup ys)) { s with heap := h'.push { cls := .type "tuple", data := .seq its.toArray } } :=
      I1.laid (t' := s.toks) (fun b o e => Heap.get?_push_of_some _ e) (Nat.le_refl _) (show ObjOk X.prog X.w _ _ _ (.tup ys) from ⟨hz, its, r', IsTup.new _ _⟩)
    exact ⟨.ref h'.objs.size, _, I2, rfl, q _ (I1.hok.fresh (Nat.le_refl _))⟩
  · obtain ⟨its, r', pl, hz⟩ := I.tuple hq
    exact call_tuple_same pl ⟨.ref p, H, I, rfl, q⟩
def tyV (K : PySem.W.Frag) (T : String) (x : V) (H : Hp) : Prop := match x with
  | .str _ => T = "str"
  | .int _ => T = "int"
  | .ref p => (T = "list" ∧ ∃ xs, SqL K H p xs) ∨ (T = "tuple" ∧ ∃ o, K.lookup p = some o ∧ o.cls = .type "tuple" ∧ o.dict = none) ∨
      (T = "dict" ∧ ((∃ kvs, H p = some (.dK kvs)) ∨ ∃ kvs, H p = some (.dT kvs))) ∨ (T = "set" ∧ ∃ S n, H p = some (.set S n))
  | _ => False
theorem tyV_is {pins : List (Addr × Obj)} {σ : St} {H : Hp} {s : Shared} {T : String} {x : V} {v : Value} (I : Inv X pins σ H s) (r : RelV x v) (ty : tyV X.K T x H) :
    s.TypeIs v T ∧ ∀ a, v = .ref a → ∃ ob, s.heap.get? a = some ob ∧ ob.dict = none := by
  cases x with
  | str z =>
    obtain ⟨t, rfl⟩ := r
    cases (show T = "str" from ty)
    exact ⟨typeIs_str s z t, fun _ e => nomatch e⟩
  | int i =>
    obtain ⟨t, rfl⟩ := r
    cases (show T = "int" from ty)
    exact ⟨typeIs_int s i t, fun _ e => nomatch e⟩
  | ref p =>
    cases r
    rcases ty with ⟨rfl, xs, hq⟩ | ⟨rfl, o, hk, hc, hd⟩ | ⟨rfl, hk⟩ | ⟨rfl, S, n, hk⟩
    · obtain ⟨its, _, pl, _⟩ := I.list hq
      refine ⟨pl.isList.typeIs, fun a e => ?_⟩
      cases e
      obtain ⟨o, n, e, c, hd, _⟩ := pl
      exact ⟨o, e, hd⟩
    · refine ⟨⟨o, I.kIn p o hk, hc⟩, fun a e => ?_⟩
      cases e
      exact ⟨o, I.kIn _ o hk, hd⟩
    · have z : ∃ o, s.heap.get? p = some o ∧ o.ExactDict := by
        rcases hk with ⟨kvs, hk⟩ | ⟨kvs, hk⟩
        · obtain ⟨_, _, _, _, o, _, _, e, ex, _⟩ := I.hok p _ hk
          exact ⟨o, e, ex⟩
        · obtain ⟨_, _, _, _, o, _, _, e, ex, _⟩ := I.hok p _ hk
          exact ⟨o, e, ex⟩
      obtain ⟨o, e, ex⟩ := z
      refine ⟨⟨o, e, ex.1⟩, fun a e2 => ?_⟩
      cases e2
      exact ⟨o, e, ex.2.1⟩
    · obtain ⟨o, _, _, _, e, ex, _⟩ := I.hok p _ hk
      refine ⟨⟨o, e, ex.1⟩, fun a e2 => ?_⟩
      cases e2
      exact ⟨o, e, ex.2.1⟩
  | _ => exact False.elim ty
def tBM (K : PySem.W.Frag) (T : String) (r : V → List V → Hp → VK → Prop) (to : TE) (t : TA) : TE := fun σ H Q => to σ H fun x H1 => tyV K T x H1 ∧ t σ H1 fun xs H2 => r x xs H2 Q
variable {o e : Expr} {es : List Expr} {to : TE} {t : TA} {name : Str} {apos cpos : Pos} {T id : String} {r : V → List V → Hp → VK → Prop}
theorem pe_bm (pa : PlainAttrs T) (slot : Slot T name id) (hty : typeOf (.builtin id) = pure (.type "method_descriptor")) (hm : MtR X id r) (ho : PE X o to) (ha : PA X (e :: es) t)
    (hbase : attributeBase o name X.env (eval o X.env) = eval o X.env := by rfl)
    (hfew : ((backTo cpos (starEach (e :: es) X.env)).all (fun x => !x.1) && (backToKw cpos (keywordEach [] X.env)).all (fun x => x.1.isSome)
      && decide ((e :: es).length + ([] : List Keyword).length + (if ([] : List Keyword).isEmpty then 0 else 1) < 30)) = true := by rfl)
    (hline : (apos.endLine == cpos.line) = true := by rfl) (hs : starEach (e :: es) X.env = (false, eval e X.env) :: starEach es X.env := by rfl) (hplain : (backTo cpos (starEach es X.env)).any (·.1) = false := by rfl) :
    PE X (.Call (.Attribute o name apos) (e :: es) [] cpos) (tBM X.K T r to t) := by
  intro pins s σ H Q I h
  refine wpAny_Call_method_late hbase hfew hline rfl (thn (ho pins s σ H _ I h) fun v s1 ⟨x, H1, I1, r1, ty, q1⟩ => ?_)
  obtain ⟨h1, h2⟩ := tyV_is I1 r1 ty
  refine ⟨T, id, pa, slot, hty, h1, h2, ?_⟩
  have hA := ha cpos pins s1 σ H1 _ I1 q1
  rw [hs] at hA ⊢
  refine Calls.callWith_builtin (by show (false || (backTo cpos (starEach es X.env)).any (·.1)) = false; rw [hplain] <;> rfl) (Calls.evalArgs_plain ?_)
  exact thn hA fun us s2 ⟨vs, H2, I2, r2, q2⟩ => hm pins s2 σ H2 x vs v us Q I2 r1 r2 q2
end
end L2
namespace L2
open PySem PySem.Spec PyProof.Rows
def MtM (X : Cx) (id : String) (r : V → List V → Hp → VK → Prop) : Prop :=
  ∀ (pins : List (Addr × Obj)) (s : Shared) (σ : St) (H : Hp) (x : V) (xs : List V) (v : Value) (us : List Value) (Q : VK), Inv X pins σ H s → RelV x v → Vals xs us → r x xs H Q →
    wpAny (model X.prog X.w) X.A (call (.builtin id) (v :: us)) (EP X pins σ Q) X.xe s
theorem Vals.one : ∀ {x : V} {us : List Value}, Vals [x] us → ∃ u, us = [u] ∧ RelV x u
  | _, _, .cons r .nil => ⟨_, rfl, r⟩
theorem Vals.two : ∀ {x y : V} {us : List Value}, Vals [x, y] us → ∃ u v, us = [u, v] ∧ RelV x u ∧ RelV y v
  | _, _, _, .cons r (.cons q .nil) => ⟨_, _, rfl, r, q⟩
theorem Vals.zero : ∀ {us : List Value}, Vals [] us → us = []
  | _, .nil => rfl
theorem Vals.reverse {xs : List V} {us : List Value} (h : Vals xs us) : Vals xs.reverse us.reverse := by
  induction h with
  | nil => exact .nil
  | cons r t ih => rw [List.reverse_cons, List.reverse_cons]; exact Vals.append ih (.cons r .nil)
theorem Vals.rep {xs : List V} {us : List Value} (h : Vals xs us) : ∀ k : Nat, Vals (List.replicate k xs).flatten (List.replicate k us).flatten
  | 0 => .nil
  | k + 1 => by
    rw [List.replicate_succ, List.replicate_succ, List.flatten_cons, List.flatten_cons]
    exact Vals.append h (Vals.rep h k)
theorem foldl_rep (its : List Value) : ∀ (k : Nat) (acc : List Value),
    List.foldl (fun x1 x2 => x1 ++ x2) acc.toArray (List.replicate k its.toArray) = (acc ++ (List.replicate k its).flatten).toArray
  | 0, acc => by simp
  | k + 1, acc => by
    have e : acc.toArray ++ its.toArray = (acc ++ its).toArray := by simp
    have e2 : (acc ++ its) ++ (List.replicate k its).flatten = acc ++ (List.replicate (k + 1) its).flatten := by
      rw [List.replicate_succ, List.flatten_cons, List.append_assoc]
    rw [← e2, ← foldl_rep its k (acc ++ its), ← e, List.replicate_succ, List.foldl_cons]
section
variable {X : Cx} {pins : List (Addr × Obj)} {σ : St} {H : Hp} {s : Shared} {l b : Addr} {xs ys zs : List V}
theorem Inv.lset {its its' : List Value} {n : Nat} {f : Array Value → Array Value} {t' : Nat} (I : Inv X pins σ H s) (hH : H l = some (.lst xs))
    (e : s.heap.get? l = some { cls := .type "list", data := .seq its.toArray n }) (hf : f its.toArray = its'.toArray) (hv : Vals ys its') (hz : ys.length ≤ sizeLine) :
    Inv X pins σ (upd H l (.lst ys)) { s with heap := s.heap.update l (Obj.mapSeq f), toks := t' } := by
  have q := PySem.IsL.update e f
  rw [hf] at q
  refine I.write (x := l) (e := l) (by rw [hH]; exact trivial) (.inl rfl) (fun b' u hb hu => (Heap.get?_update_other s.heap (Obj.mapSeq f) (Ne.symm hb)).trans hu) ⟨_, q⟩ ?_
  exact ⟨hz, its', _, hv, q⟩
theorem Inv.lnew {its : List Value} {t' : Nat} (I : Inv X pins σ H s) (hv : Vals ys its) (hz : ys.length ≤ sizeLine) :
    Inv X pins σ (upd H s.heap.objs.size (.lst ys)) { s with heap := s.heap.push { cls := .type "list", data := .seq its.toArray }, toks := t' } :=
  I.laid (fun _ _ q => Heap.get?_push_of_some _ q) (Nat.le_refl _) ⟨hz, its, 0, hv, Heap.get?_push_size _ rfl⟩
theorem Inv.fresh (I : Inv X pins σ H s) : H s.heap.objs.size = none := I.hok.fresh (Nat.le_refl _)
theorem Inv.lstM (I : Inv X pins σ H s) (hH : H l = some (.lst xs)) : xs.length ≤ sizeLine ∧ ∃ (its : List Value) (n : Nat), Vals xs its ∧ xs.length = its.length ∧ s.heap.get? l = some { cls := .type "list", data := .seq its.toArray n } := by
  obtain ⟨z, its, n, r, e⟩ := I.hok l _ hH
  exact ⟨z, its, n, r, r.length, e⟩
theorem notLongL {n : Nat} (h : n ≤ sizeLine) : Builtin.List.listTooLong n = false := by
  unfold Builtin.List.listTooLong
  exact decide_eq_false (by omega)
end
section
variable {X : Cx}
def rAppend : V → List V → Hp → VK → Prop := fun x vs H Q => ∃ l xs y, x = .ref l ∧ vs = [y] ∧ H l = some (.lst xs) ∧ xs.length < sizeLine ∧ Q .non (upd H l (.lst (xs ++ [y])))
theorem mt_append : MtM X "list.append" rAppend := by
  intro pins s σ H x vs v us Q I rx rv h
  obtain ⟨l, xs, y, rfl, rfl, hH, hz, q⟩ := h
  cases rx
  obtain ⟨u, rfl, ru⟩ := rv.one
  obtain ⟨z, its, n, r, hl, e⟩ := I.lstM hH
  refine call_meets F.slot_list_append ⟨_, e, rfl⟩ F.entry_list_append (F.args_list_append_2 _ _) (PySem.list_append l its.toArray n u (by rw [List.size_toArray]; omega)) ⟨e, ?_⟩
  refine ⟨.non, _, I.lset (its' := its ++ [u]) hH e (by simp) (r.append (.cons ru .nil)) ?_, rfl, q⟩
  rw [List.length_append, List.length_singleton]
  omega
def rExtend : V → List V → Hp → VK → Prop := fun x vs H Q => ∃ l b xs zs, x = .ref l ∧ vs = [.ref b] ∧ H l = some (.lst xs) ∧ H b = some (.lst zs) ∧ xs.length + zs.length ≤ sizeLine ∧ Q .non (upd H l (.lst (xs ++ zs)))
theorem mt_extend : MtM X "list.extend" rExtend := by
  intro pins s σ H x vs v us Q I rx rv h
  obtain ⟨l, b, xs, zs, rfl, rfl, hH, hB, hz, q⟩ := h
  cases rx
  obtain ⟨u, rfl, ru⟩ := rv.one
  cases ru
  obtain ⟨z, its, n, r, hl, e⟩ := I.lstM hH
  obtain ⟨z2, its2, n2, r2, hl2, e2⟩ := I.lstM hB
  have hsz : its.toArray.size + its2.toArray.size ≤ sizeLine := by rw [List.size_toArray, List.size_toArray]; omega
  have hlong : ¬ (!its.toArray.isEmpty && Builtin.List.listTooLong (its.toArray.size + its2.toArray.size)) = true := by
    rw [notLongL hsz, Bool.and_false]
    exact Bool.false_ne_true
  refine call_meets F.slot_list_extend ⟨_, e, rfl⟩ F.entry_list_extend (F.args_list_extend_2 _ _)
    (AutoSeq1.list_extend_list_list_0 l its.toArray n b its2.toArray n2 hlong (by rw [List.size_toArray]; omega) (by omega)) ⟨e, e2, ?_⟩
  refine ⟨.non, _, I.lset (its' := its ++ its2) hH e (by simp) (r.append r2) ?_, rfl, q⟩
  rw [List.length_append]
  omega
def rCat : R2 := fun x y H Q => ∃ l b xs zs, x = .ref l ∧ y = .ref b ∧ H l = some (.lst xs) ∧ H b = some (.lst zs) ∧ xs.length + zs.length ≤ sizeLine ∧ ∀ p, H p = none → Q (.ref p) (upd H p (.lst (xs ++ zs)))
theorem op_cat : OpR X (binaryOp .Add) rCat := by
  intro pins s σ H x y v u Q I rx ry h
  obtain ⟨l, b, xs, zs, rfl, rfl, hH, hB, hz, q⟩ := h
  cases rx
  cases ry
  obtain ⟨z, its, n, r, hl, e⟩ := I.lstM hH
  obtain ⟨z2, its2, n2, r2, hl2, e2⟩ := I.lstM hB
  refine PySem.P.add_list e e2 ?_ (by rw [List.size_toArray, List.size_toArray]; omega)
  have ea : its.toArray ++ its2.toArray = (its ++ its2).toArray := by simp
  rw [ea]
  exact ⟨.ref _, _, I.lnew (t' := s.toks) (r.append r2) (by rw [List.length_append]; omega), rfl, q _ I.fresh⟩
def rRep : R2 := fun x y H Q => ∃ l k xs, x = .ref l ∧ y = .int k ∧ H l = some (.lst xs) ∧ -(2 ^ 63) ≤ k ∧ k < 2 ^ 63 ∧ xs.length * k.toNat ≤ sizeLine ∧
  ∀ p, H p = none → Q (.ref p) (upd H p (.lst (List.replicate k.toNat xs).flatten))
theorem len_rep {α : Type} (xs : List α) (k : Nat) : (List.replicate k xs).flatten.length = k * xs.length := by
  induction k with
  | zero => simp
  | succ k ih => rw [List.replicate_succ, List.flatten_cons, List.length_append, ih, Nat.succ_mul, Nat.add_comm]
theorem op_rep : OpR X (binaryOp .Mult) rRep := by
  intro pins s σ H x y v u Q I rx ry h
  obtain ⟨l, k, xs, rfl, rfl, hH, h1, h2, hz, q⟩ := h
  cases rx
  obtain ⟨t, rfl⟩ := ry
  obtain ⟨z, its, n, r, hl, e⟩ := I.lstM hH
  have hlen : its.toArray.size * k.toNat ≤ sizeLine := by rw [List.size_toArray, ← hl]; exact hz
  have hcap : ¬ its.toArray.size * k.toNat > (2 ^ 63 - 1) / 8 := by
    have : (sizeLine : Nat) ≤ (2 ^ 63 - 1) / 8 := by decide
    omega
  have hfit : ¬ (!Builtin.List.listFitsIndex k) = true := by
    rw [fitsIndex_both h1 h2]
    exact Bool.false_ne_true
  have hlong : ¬ Builtin.List.listTooLong (its.toArray.size * k.toNat) = true := by
    rw [notLongL hlen]
    exact Bool.false_ne_true
  have hnew : List.foldl (fun x1 x2 => x1 ++ x2) #[] (List.replicate (if its.toArray.isEmpty = true then 0 else k.toNat) its.toArray) = (List.replicate k.toNat its).flatten.toArray := by
    have f0 : ∀ m : Nat, List.foldl (fun x1 x2 => x1 ++ x2) #[] (List.replicate m its.toArray) = (List.replicate m its).flatten.toArray := fun m => by
      have := foldl_rep its m []
      rw [List.nil_append] at this
      exact this
    rw [f0]
    cases its with
    | nil => simp
    | cons a r' => rw [if_neg (by simp)]
  refine wpAny_binaryOp_repeat_ref (T := "list") (U := "int") (by decide) ⟨_, e, rfl⟩ (fun s' => typeIs_int s' k t) noFill_list_mul F.fills_int_mul F.slot_int_rmul repeat_list F.slot_int_index.lookup
    (call_meets F.slot_int_rmul (typeIs_int s k t) F.entry_int_rmul (F.args_int_rmul_2 _ _) (int___rmul___int_list k t l its.toArray n)
      ⟨e, rfl, ⟨_, e, rfl⟩, call_meets F.slot_list_mul ⟨_, e, rfl⟩ F.entry_list_mul (F.args_list_mul_2 _ _) (AutoListH.list___mul___list_int_3 l its.toArray n k t hfit hcap hlong) ⟨e, ?_⟩⟩)
  rw [hnew]
  exact ⟨.ref _, _, I.lnew (t' := s.toks) (r.rep k.toNat) (by rw [len_rep, Nat.mul_comm]; exact hz), rfl, q _ I.fresh⟩
end
section
variable {prog : Program} {w : World} {A : Around} {E : Value → Shared → Prop} {s : Shared}
set_option maxRecDepth 100000 in
end
section
variable {X : Cx}
end
end L2
namespace L2
open PySem PySem.Spec PyProof.Rows
section
variable {κ : Type} [DecidableEq κ]
def valV (kvs : List (κ × V)) (k : κ) : Option V := (kvs.find? fun kv => decide (kv.1 = k)).map (·.2)
def putK (kvs : List (κ × V)) (k : κ) (v : V) : List (κ × V) :=
  if (kvs.any fun kv => decide (kv.1 = k)) = true then kvs.map (fun kv => if kv.1 = k then (kv.1, v) else kv) else kvs ++ [(k, v)]
def dropK (kvs : List (κ × V)) (k : κ) : List (κ × V) := kvs.filter fun kv => decide (kv.1 ≠ k)
theorem valV_pos {p : κ × V} {r : List (κ × V)} {k : κ} (e : p.1 = k) : valV (p :: r) k = some p.2 := by simp [valV, List.find?_cons, e]
theorem valV_neg {p : κ × V} {r : List (κ × V)} {k : κ} (e : ¬ p.1 = k) : valV (p :: r) k = valV r k := by simp [valV, List.find?_cons, e]
theorem valV_any (k : κ) : ∀ kvs : List (κ × V), (kvs.any fun kv => decide (kv.1 = k)) = (valV kvs k).isSome
  | [] => rfl
  | p :: r => by
    rw [List.any_cons]
    by_cases e : p.1 = k
    · simp only [valV_pos e, decide_eq_true e, Bool.true_or, Option.isSome_some]
    · rw [valV_neg e, decide_eq_false e, Bool.false_or]; exact valV_any k r
theorem length_putK (kvs : List (κ × V)) (k : κ) (v : V) : (putK kvs k v).length ≤ kvs.length + 1 := by
  unfold putK
  split
  · rw [List.length_map]; omega
  · rw [List.length_append, List.length_cons, List.length_nil]; omega
theorem RelO.isSome_eq {o : Option V} {u : Option Value} (r : RelO o u) : o.isSome = u.isSome := by
  cases o with
  | none => cases u with
    | none => rfl
    | some _ => exact (show False from r).elim
  | some _ => cases u with
    | none => exact (show False from r).elim
    | some _ => rfl
theorem RelO.getD {o : Option V} {u : Option Value} {d : V} {d' : Value} (r : RelO o u) (rd : RelV d d') : RelV (o.getD d) (u.getD d') := by
  cases o with
  | none => cases u with
    | none => exact rd
    | some _ => exact (show False from r).elim
  | some _ => cases u with
    | none => exact (show False from r).elim
    | some _ => exact r
theorem KV.val {kvs : List (κ × V)} {vs : List (κ × Value)} (r : KV kvs vs) (k : κ) : RelO (valV kvs k) (valueAt vs k) := by
  unfold KV at r
  induction r with
  | nil => exact True.intro
  | @cons p q ps qs h t ih =>
    obtain ⟨h1, h2⟩ := h
    by_cases e : p.1 = k
    · have e' : q.1 = k := h1.symm.trans e
      have b : valueAt (q :: qs) k = some q.2 := by simp [valueAt, List.find?_cons, e']
      rw [valV_pos e, b]; exact h2
    · have e' : ¬ q.1 = k := fun z => e (h1.trans z)
      have b : valueAt (q :: qs) k = valueAt qs k := by simp [valueAt, List.find?_cons, e']
      rw [valV_neg e, b]; exact ih
theorem KV.any {kvs : List (κ × V)} {vs : List (κ × Value)} (r : KV kvs vs) (k : κ) : (kvs.any fun kv => decide (kv.1 = k)) = vs.any fun kv => decide (kv.1 = k) := by
  unfold KV at r
  induction r with
  | nil => rfl
  | cons h t ih => rw [List.any_cons, List.any_cons, ih, h.1]
theorem KV.repl {kvs : List (κ × V)} {vs : List (κ × Value)} (r : KV kvs vs) (k : κ) {y : V} {u : Value} (ry : RelV y u) :
    KV (kvs.map fun kv => if kv.1 = k then (kv.1, y) else kv) (vs.map fun kv => if kv.1 = k then (kv.1, u) else kv) := by
  unfold KV at r ⊢
  induction r with
  | nil => exact .nil
  | @cons p q ps qs h t ih =>
    rw [List.map_cons, List.map_cons]
    refine .cons ?_ ih
    obtain ⟨h1, h2⟩ := h
    by_cases e : p.1 = k
    · rw [if_pos e, if_pos (h1.symm.trans e)]; exact ⟨h1, ry⟩
    · rw [if_neg e, if_neg (fun z => e (h1.trans z))]; exact ⟨h1, h2⟩
theorem KV.put {kvs : List (κ × V)} {vs : List (κ × Value)} (r : KV kvs vs) (k : κ) {y : V} {u : Value} (ry : RelV y u) : KV (putK kvs k y) (stored vs k u) := by
  unfold putK stored
  rw [r.any k]
  by_cases e : (vs.any fun kv => decide (kv.1 = k)) = true
  · rw [if_pos e, if_pos e]; exact r.repl k ry
  · rw [if_neg e, if_neg e]; exact Paired.snoc r ⟨rfl, ry⟩
theorem KV.drop {kvs : List (κ × V)} {vs : List (κ × Value)} (r : KV kvs vs) (k : κ) : KV (dropK kvs k) (without vs k) := by
  unfold KV at r ⊢
  unfold dropK without
  induction r with
  | nil => exact .nil
  | @cons p q ps qs h t ih =>
    obtain ⟨h1, h2⟩ := h
    rw [List.filter_cons, List.filter_cons]
    by_cases e : p.1 = k
    · have a : ¬ decide (p.1 ≠ k) = true := by simp [e]
      have b : ¬ decide (q.1 ≠ k) = true := by simp [h1.symm.trans e]
      rw [if_neg a, if_neg b]; exact ih
    · have e' : ¬ q.1 = k := fun z => e (h1.trans z)
      have a : decide (p.1 ≠ k) = true := by simp [e]
      have b : decide (q.1 ≠ k) = true := by simp [e']
      rw [if_pos a, if_pos b]; exact .cons ⟨h1, h2⟩ ih
theorem KV.keys {kvs : List (κ × V)} {vs : List (κ × Value)} (r : KV kvs vs) : kvs.map (·.1) = vs.map (·.1) := by
  unfold KV at r
  induction r with
  | nil => rfl
  | cons h t ih => rw [List.map_cons, List.map_cons, ih, h.1]
theorem KV.length {kvs : List (κ × V)} {vs : List (κ × Value)} (r : KV kvs vs) : kvs.length = vs.length := Paired.length r
end
theorem kV_is {P : Program} {w : World} {k : Key} {u : Value} (r : RelV (kV k) u) : (mixKind P w).is k u = true := by
  cases k with
  | inl i => obtain ⟨t, e⟩ := (show ∃ t, u = Value.int i t from r); subst e; exact mixKind_int P w i t
  | inr x => obtain ⟨t, e⟩ := (show ∃ t, u = Value.str x t from r); subst e; exact mixKind_str P w x t
theorem items_are {P : Program} {w : World} : ∀ {ks : List Key} {us : List Value}, Vals (ks.map kV) us → ItemsAre (mixKind P w) ks us
  | [], _, r => by rw [List.map_nil] at r; cases r; exact .nil
  | k :: ks, _, r => by
    rw [List.map_cons] at r
    cases r with
    | cons h t => exact .cons (kV_is h) (items_are t)
abbrev KT (H : Hp) : List (List NI × V) → List (List NI × Addr × Value) → Prop := Paired fun p q => p.1 = q.1 ∧ NAt H p.1 q.2.1 ∧ RelV p.2 q.2.2
theorem KT.val {H : Hp} {kvs : List (List NI × V)} {xs : List (List NI × Addr × Value)} (r : KT H kvs xs) (k : List NI) : RelO (valV kvs k) ((atKey xs k).map (·.2)) := by
  induction r with
  | nil => exact True.intro
  | @cons p q ps qs h t ih =>
    obtain ⟨h1, _, h2⟩ := h
    by_cases e : p.1 = k
    · have e' : q.1 = k := h1.symm.trans e
      have b : atKey (q :: qs) k = some q.2 := by simp [atKey, List.find?_cons, e']
      rw [valV_pos e, b]; exact h2
    · have e' : ¬ q.1 = k := fun z => e (h1.trans z)
      have b : atKey (q :: qs) k = atKey qs k := by simp [atKey, List.find?_cons, e']
      rw [valV_neg e, b]; exact ih
theorem KT.repl {H : Hp} {kvs : List (List NI × V)} {xs : List (List NI × Addr × Value)} (r : KT H kvs xs) (k : List NI) {y : V} {u : Value} (ry : RelV y u) :
    KT H (kvs.map fun kv => if kv.1 = k then (kv.1, y) else kv) (xs.map (putAt k u)) := by
  induction r with
  | nil => exact .nil
  | @cons p q ps qs h t ih =>
    rw [List.map_cons, List.map_cons]
    refine .cons ?_ ih
    obtain ⟨h1, h2, h3⟩ := h
    unfold putAt
    by_cases e : p.1 = k
    · rw [if_pos e, if_pos (h1.symm.trans e)]; exact ⟨h1, h2, ry⟩
    · rw [if_neg e, if_neg (fun z => e (h1.trans z))]; exact ⟨h1, h2, h3⟩
theorem KT.put {H : Hp} {kvs : List (List NI × V)} {xs : List (List NI × Addr × Value)} (r : KT H kvs xs) (k : List NI) {b : Addr} {y : V} {u : Value} (hb : NAt H k b) (ry : RelV y u) :
    KT H (putK kvs k y) (storedH xs k b u) := by
  have e : (kvs.any fun kv => decide (kv.1 = k)) = (atKey xs k).isSome := by
    rw [valV_any, (r.val k).isSome_eq, Option.isSome_map]
  unfold putK storedH
  rw [e]
  by_cases q : (atKey xs k).isSome = true
  · rw [if_pos q, if_pos q]; exact r.repl k ry
  · rw [if_neg q, if_neg q]; exact Paired.snoc r ⟨rfl, hb, ry⟩
theorem KT.keeps {H H' : Hp} {kvs : List (List NI × V)} {xs : List (List NI × Addr × Value)} (r : KT H kvs xs) (ht : ∀ b ys, H b = some (.tup ys) → H' b = some (.tup ys)) : KT H' kvs xs :=
  Paired.mapP r fun _ _ z => ⟨z.1, z.2.1.keeps ht, z.2.2⟩
section
variable {P : Program} {w : World} {H : Hp} {h : Heap} {a : Addr}
theorem rd_of {u : HO} (ok : HOk P w H h) (e : Rd H a u) : ObjOk P w H h a u := e.ok ok
theorem dk_rd {kvs : List (Key × V)} (ok : HOk P w H h) (e : Rd H a (.dK kvs)) : kvs.length ≤ sizeLine ∧ (a == sysModules) = false ∧ ∃ vs, KV kvs vs ∧ h.DictOf (mixKind P w) a vs :=
  show ObjOk P w H h a (.dK kvs) from rd_of ok e
theorem dk_of {kvs : List (Key × V)} (ok : HOk P w H h) (e : H a = some (.dK kvs)) : kvs.length ≤ sizeLine ∧ (a == sysModules) = false ∧ ∃ vs, KV kvs vs ∧ h.DictOf (mixKind P w) a vs := dk_rd ok (.inl e)
theorem nitems_of {ks : List NI} {vs : List V} {us : List Value} (ok : HOk P w H h) (x : NVs H ks vs) (r : Vals vs us) : NItems P w h ks us := by
  induction x generalizing us with
  | nil => cases r; exact .nil
  | @cons i v ks vs p _ ih =>
    cases r with
    | cons rv rr =>
      refine .cons ?_ (ih rr)
      cases i with
      | inl k =>
        have p : v = kV k := p
        subst p
        exact kV_is (P := P) (w := w) rv
      | inr l =>
        obtain ⟨b, rfl, e⟩ := p
        cases rv
        obtain ⟨_, its, r2, o, h1, h2, n, h3⟩ := (show ObjOk P w H h b (.tup (l.map kV)) from ok b _ e)
        exact ⟨b, rfl, o, its.toArray, n, h1, h2, h3, by simpa using items_are r2⟩
theorem key_of {ks : List NI} (ok : HOk P w H h) (e : NAt H ks a) : (nestKind P w).is h ks a := by
  obtain ⟨vs, e, x⟩ := e
  obtain ⟨_, its, r, o, h1, h2, n, h3⟩ := (show ObjOk P w H h a (.tup vs) from ok a _ e)
  exact ⟨o, its.toArray, n, h1, h2, h3, by simpa using nitems_of ok x r⟩
theorem dt_rd {kvs : List (List NI × V)} (ok : HOk P w H h) (e : Rd H a (.dT kvs)) : kvs.length ≤ sizeLine ∧ (a == sysModules) = false ∧
    ∃ xs, KT H kvs xs ∧ h.DictOfH (nestKind P w) a xs := by
  obtain ⟨z, y, xs, r, o, es, ep, h1, h2, h3, h4, h5⟩ := (show ObjOk P w H h a (.dT kvs) from rd_of ok e)
  refine ⟨z, y, xs, r, o, es, ep, h1, h2, h3, h4, fun x hx => ?_, h5⟩
  have all : ∀ {l : List (List NI × V)} {m : List (List NI × Addr × Value)}, KT H l m → ∀ x ∈ m, (nestKind P w).is h x.1 x.2.1 := by
    intro l m q
    induction q with
    | nil => intro x hx; exact nomatch hx
    | @cons p q ps qs hq t ih =>
      intro x hx
      rcases List.mem_cons.mp hx with e | hx
      · subst e
        exact key_of ok (by rw [← hq.1]; exact hq.2.1)
      · exact ih x hx
  exact all r x hx
theorem dt_of {kvs : List (List NI × V)} (ok : HOk P w H h) (e : H a = some (.dT kvs)) : kvs.length ≤ sizeLine ∧ (a == sysModules) = false ∧
    ∃ xs, KT H kvs xs ∧ h.DictOfH (nestKind P w) a xs := dt_rd ok (.inl e)
end
def DGet (H : Hp) (a : Addr) (y : V) (r : Option V) : Prop :=
  (∃ kvs k, Rd H a (.dK kvs) ∧ y = kV k ∧ r = valV kvs k) ∨ ∃ kvs k b, Rd H a (.dT kvs) ∧ y = .ref b ∧ NAt H k b ∧ r = valV kvs k
def DPut (H : Hp) (a : Addr) (y v : V) (H' : Hp) : Prop :=
  (∃ kvs k, H a = some (.dK kvs) ∧ y = kV k ∧ kvs.length < sizeLine ∧ H' = upd H a (.dK (putK kvs k v))) ∨
  ∃ kvs k b, H a = some (.dT kvs) ∧ y = .ref b ∧ NAt H k b ∧ kvs.length < sizeLine ∧ H' = upd H a (.dT (putK kvs k v))
theorem DGet.k {H : Hp} {a : Addr} {kvs : List (Key × V)} {k : Key} (e : H a = some (.dK kvs)) : DGet H a (kV k) (valV kvs k) := .inl ⟨kvs, k, .inl e, rfl, rfl⟩
theorem DGet.t {H : Hp} {a b : Addr} {kvs : List (List NI × V)} {k : List NI} (e : H a = some (.dT kvs)) (eb : NAt H k b) : DGet H a (.ref b) (valV kvs k) := .inr ⟨kvs, k, b, .inl e, rfl, eb, rfl⟩
theorem DPut.k {H : Hp} {a : Addr} {kvs : List (Key × V)} {k : Key} {v : V} (e : H a = some (.dK kvs)) (hl : kvs.length < sizeLine) : DPut H a (kV k) v (upd H a (.dK (putK kvs k v))) := .inl ⟨kvs, k, e, rfl, hl, rfl⟩
theorem DPut.t {H : Hp} {a b : Addr} {kvs : List (List NI × V)} {k : List NI} {v : V} (e : H a = some (.dT kvs)) (eb : NAt H k b) (hl : kvs.length < sizeLine) :
    DPut H a (.ref b) v (upd H a (.dT (putK kvs k v))) := .inr ⟨kvs, k, b, e, rfl, eb, hl, rfl⟩
section
variable {X : Cx} {pins : List (Addr × Obj)} {σ : St} {H : Hp} {s : Shared} {a : Addr} {y v : V} {u r : Value} {o : Option V} {A : Around} {E : Value → Shared → Prop}
theorem Inv.big (I : Inv X pins σ H s) : sysModules < s.heap.objs.size := by
  have h : mainGlobals < s.heap.objs.size := (I.mod.glob.keeps I.bk).lt
  exact Nat.lt_trans (by decide) h
theorem d_getItem {Q : Value → Shared → Prop} (hu : A.units + 64 < cLine) (I : Inv X pins σ H s) (g : DGet H a y (some v)) (ry : RelV y u) (h : ∀ w' s', Inv X pins σ H s' → RelV v w' → Q w' s') :
    wpAny (model X.prog X.w) A (getItem (.ref a) u) Q E s := by
  rcases g with ⟨kvs, k, e, ey, l⟩ | ⟨kvs, k, b, e, ey, eb, l⟩
  · subst ey
    obtain ⟨z, hd, vs, rel, dd⟩ := dk_rd I.hok e
    obtain ⟨w', hw, rw'⟩ := RelO.some_of (v := v) (o := valueAt vs k) (by rw [l]; exact rel.val k)
    exact wpAny_getItem_of (kV_is ry) dd.mapOf hw (h w' _ (I.tok _) rw')
  · subst ey
    cases (show u = Value.ref b from ry)
    obtain ⟨z, hd, xs, rel, dd⟩ := dt_rd I.hok e
    obtain ⟨w', hw, rw'⟩ := RelO.some_of (v := v) (o := (atKey xs k).map (·.2)) (by rw [l]; exact rel.val k)
    obtain ⟨p, hp, hp2⟩ := Option.map_eq_some_iff.mp hw
    refine wpAny_getItem_heap (nestKind_room hu) (key_of I.hok eb) dd hp ?_
    rw [hp2]
    exact h w' _ (I.tok _) rw'
theorem d_write {h' : Heap} {t' : Nat} {ob : HO} (I : Inv X pins σ H s) (mu : Mut (H a)) (hs : Heap.SameBut a s.heap h') (he : ∃ q, h'.get? a = some q) (new : ObjOk X.prog X.w (upd H a ob) h' a ob) :
    Inv X pins σ (upd H a ob) { s with heap := h', toks := t' } :=
  I.write (x := a) (e := a) mu (.inl rfl) (fun b q hb z => (hs.2 b hb).trans z) he new
theorem dk_new {P : Program} {w : World} {H' : Hp} {h' : Heap} {kvs : List (Key × V)} {vs : List (Key × Value)} (z : kvs.length ≤ sizeLine) (hd : (a == sysModules) = false) (rel : KV kvs vs) (dd : h'.DictOf (mixKind P w) a vs) :
    ObjOk P w H' h' a (.dK kvs) := ⟨z, hd, vs, rel, dd⟩
theorem d_setItem {H' : Hp} {Q : Unit → Shared → Prop} (hu : A.units + 64 < cLine) (I : Inv X pins σ H s) (g : DPut H a y v H') (ry : RelV y u) (rv : RelV v r) (h : ∀ s', Inv X pins σ H' s' → Q () s') :
    wpAny (model X.prog X.w) A (setItem (.ref a) u r) Q E s := by
  rcases g with ⟨kvs, k, e, ey, l, eH⟩ | ⟨kvs, k, b, e, ey, eb, l, eH⟩
  · subst ey eH
    obtain ⟨z, hd, vs, rel, dd⟩ := dk_of I.hok e
    have hz : vs.length ≤ sizeLine := by rw [← rel.length]; exact z
    have hl : (putK kvs k v).length ≤ sizeLine := by have := length_putK kvs k v; omega
    refine wpAny_setItem_pairs (hsz := hz) (kV_is ry) dd fun h' dd' hs => h _ ?_
    have he : ∃ q, h'.get? a = some q := let ⟨q, _, _, hq, _⟩ := dd'; ⟨q, hq⟩
    exact d_write I (by rw [e]; exact True.intro) hs he (dk_new hl hd (rel.put k rv) dd')
  · subst ey eH
    cases (show u = Value.ref b from ry)
    obtain ⟨z, hd, xs, rel, dd⟩ := dt_of I.hok e
    have hz : xs.length ≤ sizeLine := by rw [← Paired.length rel]; exact z
    have hl : (putK kvs k v).length ≤ sizeLine := by have := length_putK kvs k v; omega
    refine wpAny_setItem_heap (hsz := hz) (nestKind_room hu) (key_of I.hok eb) dd fun h' dd' hs => h _ ?_
    obtain ⟨q, es, ep, hq, h2, h3, h4, _, h5⟩ := dd'
    refine d_write I (by rw [e]; exact True.intro) hs ⟨q, hq⟩ ⟨hl, hd, _, (rel.put k eb rv).keeps fun c ys ec => ?_, q, es, ep, hq, h2, h3, h4, h5⟩
    rw [upd_ne (ne_of ec e (fun z => nomatch z))]
    exact ec
end
section
variable {X : Cx} {pins : List (Addr × Obj)} {σ : St} {H : Hp} {s : Shared} {a : Addr} {kvs : List (Key × V)} {k : Key} {u : Value} {A : Around} {E : Value → Shared → Prop}
end
def NoSl (i : Expr) : Prop := ∀ ov iv, subscripted i false ov iv = operate [ov, iv] (getItem ov iv)
theorem subD_of {prog : Program} {w : World} {A : Around} {E : Value → Shared → Prop} {s : Shared} {env : Env} {value slice : Expr} {pos : Pos} {T id : String} {Q : Value → Shared → Prop}
    (hl : typeLookup (.type T) "__getitem__" = pure (some (.builtin id))) (hs : NoSl slice)
    (h : wpAny (model prog w) A (eval value env) (fun o s₁ => wpAny (model prog w) A (eval slice env) (fun i s₂ => s₂.TypeIs o T ∧ wpAny (model prog w) A (getItem o i) Q E s₂) E s₁) E s) :
    wpAny (model prog w) A (eval (.Subscript value slice pos) env) Q E s := by
  refine Subscript_ (wpAny_mono h (fun o s₁ h₁ => wpAny_mono h₁ (fun i s₂ h₂ => ?_) fun _ _ x => x) fun _ _ x => x)
  obtain ⟨hT, h₂⟩ := h₂
  unfold subscriptTail
  refine wpAny_bind ?_
  rw [getitemInPython_of_ne hT.not_modules]
  refine wpAny_bind (wpAny_specialOf hT hl ?_)
  have fin : wpAny (model prog w) A (subscripted slice false o i) (fun r s₃ => wpAny (model prog w) A (letTemporaryGo value o r >>= fun _ => pure r) Q E s₃) E s₂ := by
    rw [hs o i]
    exact wpAny_operating (wpAny_mono h₂ (fun r s₃ h₃ => wpAny_bind (wpAny_letTemporaryGo (wpAny_pure h₃))) fun _ _ x => x)
  first
    | exact wpAny_pure (wpAny_bind fin)
    | exact wpAny_bind (wpAny_pure (wpAny_bind fin))
    | exact wpAny_bind fin
theorem dict_typeIs {X : Cx} {pins : List (Addr × Obj)} {σ : St} {H : Hp} {s : Shared} {a : Addr} {y : V} {o : Option V} (I : Inv X pins σ H s) (g : DGet H a y o) : s.TypeIs (.ref a) "dict" := by
  rcases g with ⟨kvs, k, e, _, _⟩ | ⟨kvs, k, b, e, _, _, _⟩
  · obtain ⟨_, _, vs, _, dd⟩ := dk_rd I.hok e
    exact dd.typeIs
  · obtain ⟨_, _, xs, _, dd⟩ := dt_rd I.hok e
    exact dd.typeIs
def tDGet (td ty : TE) : TE := fun σ H Q => td σ H fun x H1 => ty σ H1 fun y H2 => ∃ a v, x = .ref a ∧ DGet H2 a y (some v) ∧ Q v H2
def sDPut (td ty tv : TE) : TS := fun D σ H => tv σ H fun v H1 => td σ H1 fun x H2 => ty σ H2 fun y H3 => ∃ a H4, x = .ref a ∧ DPut H3 a y v H4 ∧ D.nx σ H4
section
variable {X : Cx} {o i e value : Expr} {pos pos' tpos : Pos} {td ty tv : TE}
theorem pe_dget (hu : X.A.units + 64 < cLine) (ho : PE X o td) (hi : PE X i ty) (hs : NoSl i) : PE X (.Subscript o i pos) (tDGet td ty) := by
  intro pins s σ H Q I h
  refine subD_of PySem.F.slot_dict_getitem.lookup hs (thn (ho pins s σ H _ I h) fun u s1 ⟨x, H1, I1, rx, q1⟩ => thn (hi pins s1 σ H1 _ I1 q1) fun iv s2 ⟨y, H2, I2, ry, a, v, ex, g, q2⟩ => ?_)
  subst ex
  obtain rfl : u = Value.ref a := rx
  exact ⟨dict_typeIs I2 g, d_getItem hu I2 g ry fun w' s3 I3 rw' => ⟨v, H2, I3, rw', q2⟩⟩
theorem ps_dput (hu : X.A.units + 64 < cLine) (ho : PE X o td) (hi : PE X i ty) (hv : PE X value tv) (hs : swapsWith value (some (.Subscript o i pos')) pos.line X.env = pure false) :
    PS X (.Assign [.Subscript o i pos'] value pos) (sDPut td ty tv) := by
  intro pins s σ H D I h
  refine wpAny_Assign_Subscript (thn (hv pins s σ H _ I h) fun r s1 ⟨v, H1, I1, rv, q1⟩ => thn (ho pins s1 σ H1 _ I1 q1) fun u s2 ⟨x, H2, I2, rx, q2⟩ => thn (hi pins s2 σ H2 _ I2 q2) fun iv s3 ⟨y, H3, I3, ry, a, H4, ex, g, q3⟩ => ?_) hs
  subst ex
  obtain rfl : u = Value.ref a := rx
  exact d_setItem hu I3 g ry rv fun s4 I4 => ⟨σ, H4, I4, q3⟩
end
theorem dk_empty {P : Program} {w : World} {H : Hp} (h : Heap) (hb : sysModules < h.objs.size) : ObjOk P w H (h.push { cls := .type "dict", data := .dict #[] }) h.objs.size (.dK []) :=
  ⟨Nat.zero_le _, beq_eq_false_iff_ne.mpr (Ne.symm (Nat.ne_of_lt hb)), [], .nil, Heap.DictOf.new h⟩
def tDNewK : TE := fun _ H Q => ∀ p, H p = none → Q (.ref p) (upd H p (.dK []))
section
variable {X : Cx} {pos : Pos}
theorem pe_dnewK : PE X (.Dict [] [] pos) tDNewK := fun pins s σ H Q I h =>
  wpAny_Dict_empty ⟨.ref s.heap.objs.size, _, I.laid (a := s.heap.objs.size) (o := .dK []) (t' := s.toks) (fun _ _ q => Heap.get?_push_of_some _ q) (Nat.le_refl _) (dk_empty s.heap I.big), rfl, h _ (I.hok.fresh (Nat.le_refl _))⟩
end
structure M1 (X : Cx) (o : Expr) (m : Str) (apos : Pos) (e : Expr) (cpos : Pos) : Prop where
  base : attributeBase o m X.env (eval o X.env) = eval o X.env
  few : ((backTo cpos (starEach [e] X.env)).all (fun x => !x.1) && (backToKw cpos (keywordEach [] X.env)).all (fun x => x.1.isSome)
    && decide (([e] : List Expr).length + ([] : List Keyword).length + (if ([] : List Keyword).isEmpty then 0 else 1) < 30)) = true
  line : (apos.endLine == cpos.line) = true
  trees : backTo cpos (starEach [e] X.env) = [(false, eval e X.env)]
structure M2 (X : Cx) (o : Expr) (m : Str) (apos : Pos) (e f : Expr) (cpos : Pos) : Prop where
  base : attributeBase o m X.env (eval o X.env) = eval o X.env
  few : ((backTo cpos (starEach [e, f] X.env)).all (fun x => !x.1) && (backToKw cpos (keywordEach [] X.env)).all (fun x => x.1.isSome)
    && decide (([e, f] : List Expr).length + ([] : List Keyword).length + (if ([] : List Keyword).isEmpty then 0 else 1) < 30)) = true
  line : (apos.endLine == cpos.line) = true
  trees : backTo cpos (starEach [e, f] X.env) = [(false, eval e X.env), (false, eval f X.env)]
section
variable {X : Cx} {pins : List (Addr × Obj)} {σ : St} {H : Hp} {s : Shared} {a : Addr} {y d : V} {u r : Value} {o : Option V} {A : Around} {E : Value → Shared → Prop}
end
section
variable {X : Cx} {o e f : Expr} {apos cpos : Pos} {td ty tx : TE}
end
section
variable {X : Cx} {pins : List (Addr × Obj)} {σ : St} {H : Hp} {s : Shared} {a : Addr} {kvs : List (Key × V)} {A : Around} {E : Value → Shared → Prop}
theorem d_copyOf {Q : Value → Shared → Prop} (I : Inv X pins σ H s) (e : Rd H a (.dK kvs)) (h : ∀ p s', H p = none → Inv X pins σ (upd H p (.dK kvs)) s' → Q (.ref p) s') : wpAny (model X.prog X.w) A (call (.type "dict") [.ref a]) Q E s := by
  obtain ⟨z, hd, vs, rel, dd⟩ := dk_rd I.hok e
  refine kt_call_dict hd dd (by rw [← rel.length]; exact z) fun h' dd' hs => ?_
  refine h _ _ (I.hok.fresh (Nat.le_refl _)) (I.laid (a := s.heap.objs.size) (o := .dK kvs) (t' := s.toks) (fun b q hq => ?_) (Nat.le_refl _) (dk_new z (beq_eq_false_iff_ne.mpr (Ne.symm (Nat.ne_of_lt I.big))) rel dd'))
  exact (hs.2 b (Nat.ne_of_lt (Heap.lt_size hq))).trans (Heap.get?_push_of_some _ hq)
end
section
variable {X : Cx} {pins : List (Addr × Obj)} {σ : St} {H : Hp} {s : Shared} {a : Addr} {y : V} {u : Value} {A : Around} {E : Value → Shared → Prop}
end
end L2
namespace Att
open PySem PySem.W PySem.Calls PyProof.Rows
theorem ints_of_wellAll {P : Params} {h : Heap} : ∀ (ns : List Int) (vs : List Value), WellAll P h vs (ns.map WData.int) → IntsAre vs ns := by
  intro ns
  induction ns with
  | nil =>
    intro vs w
    rw [List.map_nil] at w
    cases w
    exact .nil
  | cons n ns ih =>
    intro vs w
    rw [List.map_cons] at w
    cases w with
    | cons a b =>
      cases a
      exact .cons _ _ (ih _ b)
theorem script_of {l : OpenLaw} {n : Nat} (hn : l.most = some n) {P : Params} {h : Heap} {args : List WData} {vals : List Value}
    (hpre : l.row.toRowW.claim.pre args = true) (hwl : WellAll P h vals args) :
    ∃ a vs ns, vals = [Value.ref a] ∧ args = [WData.list (ns.map WData.int)] ∧ h.get? a = some { cls := .type "list", data := .seq vs.toArray } ∧ IntsAre vs ns ∧ ns.length ≤ n := by
  have hsh : WShape.hasAll [] args [.list .int] = true := (pre_splitW hpre).1
  have hc : l.pre.holds [] { args := args } = true := (pre_splitW hpre).2
  obtain ⟨d, r, rfl, h1, h2⟩ := hasAllW_cons hsh
  obtain rfl := hasAllW_nil h2
  obtain ⟨xs, rfl, h3⟩ := hasW_list h1
  obtain ⟨ns, rfl⟩ := items_int h3
  have hlen : ns.length ≤ n := by
    unfold OpenLaw.pre at hc
    have h4 : (WTm.not (.lt (.lit (.int (n : Int))) (.len (.arg 0)))).holds [] { args := [.list (ns.map .int)] } = true := by
      have h4 := (holds_andW hc).1
      rw [hn] at h4
      exact h4
    have h5 := condW_of h4 (w_not (w_lt w_lit (w_len_list (w_arg rfl))))
    rw [List.length_map] at h5
    refine Nat.le_of_not_lt fun q => ?_
    have q' : (n : Int) < ((ns.length : Nat) : Int) := by omega
    first
      | (rw [decide_eq_true q'] at h5; exact absurd h5 (by decide))
      | (simp at h5; omega)
  cases hwl with
  | cons w1 w2 =>
    cases w2
    cases w1 with
    | list ho hall => exact ⟨_, _, ns, rfl, rfl, ho, ints_of_wellAll ns _ hall, hlen⟩
theorem post_true (l : OpenLaw) (args : List WData) : l.row.toRowW.claim.post args (.bool true) args = true :=
  postW_of (r := l.row.toRowW) (X := (true == true))
    (show WShape.has [] (.bool true) .bool = true by first | rfl | decide | simp [WShape.has, WShape.arms, WShape.armsAll])
    (show (WTm.eq .res (.lit (.bool true))).value [] { args := args, res := some (.bool true), after := args } = some (.bool (true == true)) from w_eq_bool (w_res rfl) w_lit) rfl
theorem attach_call {l : OpenLaw} {n : Nat} {q : Program} {loose : List Str} {XP : (Str → Option Value) → Heap → Prop} {YP : World → Heap → Prop} {d : DefRec}
    (hn : l.most = some n) (hdf : d.params.defaults = [])
    (call : ∀ (w : World) (s₀ s₁ : Shared) (mg mb : Str → Option Value) (fa : Addr) (o : Obj) (pm cd doc : Value) (a : Addr) (vs : List Value) (ns : List Int),
      Ground q loose [] XP w s₀ mg mb s₁.heap → YP w s₁.heap →
      s₁.heap.get? fa = some o → o.data = .func (docDef d.name d.params d.body d.scope pm cd doc) → s₁.heap.CodeRec cd d.name → mg d.name = some (.ref fa) →
      s₁.heap.get? a = some { cls := .type "list", data := .seq vs.toArray } → IntsAre vs ns → ns.length ≤ n → s₁.gens = #[] →
      codeAny (model l.prog w) callerA (.call (.ref fa) ⟨[.ref a], []⟩) (fun r s' => r = .ok (.ret (.bool true)) ∧ OldK s₁.heap s'.heap ∧ s'.os = s₁.os ∧ AllBare s'.gens) s₁) :
    WalkO q loose XP YP l.row.toRowW d [] (fun f vs => PySem.call f vs) := by
  intro w s₀ s₁ mg mb G Y fa o pm cd doc dV kV ho hd hcd hD hmg hg args vals as hpre hlay hrd hwl hlo
  obtain rfl : dV = .none := Dflts.none hD hdf
  obtain rfl : kV = .none := Dflts.noKw hD
  obtain ⟨a, vs, ns, rfl, rfl, hobj, hints, hlen⟩ := script_of hn hpre hwl
  refine enter_call (codeAny_mono (call w s₀ s₁ mg mb fa o pm cd doc a vs ns G Y ho (fd_plain hd) hcd hmg hobj hints hlen hg) fun r s' hq => ?_)
  obtain ⟨rfl, h2, h3, h4⟩ := hq
  exact ⟨.inl ⟨.bool true, .bool true, [], rfl, fun _ => rfl, .bool true, post_true l _, fun _ => ⟨List.Pairwise.nil, fun _ hm => (nomatch hm)⟩⟩, h2, h3, h4⟩
section
variable {prog : Program} {w : World} {A : Around} {E : Value → Shared → Prop} {s : Shared} {K : Frag}
end
end Att
namespace L2
open PySem PySem.Spec PyProof.Rows
theorem vals_ints : ∀ {vs : List Value} {ns : List Int}, IntsAre vs ns → Vals (ns.map V.int) vs
  | _, _, .nil => .nil
  | _, _, .cons n t h => .cons ⟨t, rfl⟩ (vals_ints h)
def Only (H : Hp) : Prop := ∀ b, H b = none ∨ ∃ o xs, H b = some (.frz o (.lst xs))
theorem law_call {P : Program} {w : World} {K : PySem.W.Frag} {mg mb : Str → Option Value} {CX : CXT} {k : Nat} {fa a : Addr} {fd : FuncData} {x : Str} {sp : Sp} {s₁ : Shared} {vs : List Value} {ns : List Int}
    (KX : K.In s₁.heap) (hns : s₁.heap.Ns mainGlobals mg) (hb : s₁.heap.Ns builtinsNs mb) (hbb : ∀ x : Str, x ≠ "__name__" → mb x = bootBuiltins x) (hlim : s₁.heap.NoLimit) (hg : s₁.gens = #[])
    (ha : s₁.heap.get? a = some { cls := .type "list", data := .seq vs.toArray }) (hi : IntsAre vs ns) (hl : ns.length ≤ sizeLine) (hr : Room k callerA)
    (F : ∀ base : Heap, K.In base → base.Ns mainGlobals mg → FnOk P w K mg base CX k fa fd [x] sp) (hbind : ∀ (s : Shared) (u : Value), BindsTo s fd ⟨[u], []⟩ [(x, u)])
    (hsp : ∀ H : Hp, Only H → SqL K H a (ns.map V.int) → sp [.ref a] H (fun v _ => v = .bl true) fun _ _ _ => False)
    (hCX : ∀ H e s', CX [] H s₁ (fun _ _ _ => False) e s' → False) :
    codeAny (model P w) callerA (.call (.ref fa) ⟨[.ref a], []⟩) (fun r s' => r = .ok (.ret (.bool true)) ∧ OldK s₁.heap s'.heap ∧ s'.os = s₁.os ∧ AllBare s'.gens) s₁ := by
  have rv := vals_ints hi
  have lenV := hi.length
  have core : ∀ H : Hp, Only H → SqL K H a (ns.map V.int) → HOk P w H s₁.heap → (∀ b, H b ≠ none → b = a) → (H a ≠ none → K.lookup a = none) →
      codeAny (model P w) callerA (.call (.ref fa) ⟨[.ref a], []⟩) (fun r s' => r = .ok (.ret (.bool true)) ∧ OldK s₁.heap s'.heap ∧ s'.os = s₁.os ∧ AllBare s'.gens) s₁ := by
    intro H hO hS hok hA hK
    have base_of : ∀ {b : Addr} {o : Obj}, s₁.heap.get? b = some o → H b = none → (hidT s₁.heap H).get? b = some o := fun e n => hidT_get e n
    have noA : ∀ {b : Addr} {o : Obj} {es : Array DictEntry} {ep : Nat}, s₁.heap.get? b = some o → o.data = .dict es ep → H b = none := fun {b o es ep} e d => by
      cases q : H b with
      | none => rfl
      | some u =>
        have e' : b = a := hA b (by rw [q]; simp)
        subst e'
        rw [ha] at e; cases e
        have d' : Data.seq vs.toArray _ = Data.dict es ep := d
        cases d'
    have nsK : ∀ {b : Addr} {m : Str → Option Value}, s₁.heap.Ns b m → (hidT s₁.heap H).Ns b m := fun {b m} ⟨o, es, ep, e, d, r⟩ => ⟨o, es, ep, base_of e (noA e d), d, r⟩
    have hKb : K.In (hidT s₁.heap H) := fun b o e => base_of (KX b o e) (by
      cases q : H b with
      | none => rfl
      | some u =>
        have e' : b = a := hA b (by rw [q]; simp)
        subst e'
        rw [hK (by rw [q]; simp)] at e; cases e)
    have hM : Mod K mg (hidT s₁.heap H) := ⟨hKb, nsK hns, ⟨mb, nsK hb, hbb⟩, let ⟨mc, h1, h2⟩ := hlim; ⟨mc, nsK h1, h2⟩⟩
    have e0 : Env0 P w K mg (hidT s₁.heap H) callerA [] s₁ H := ⟨rfl, hM, fun b o e => of_hidT e, Nat.le_of_eq (hidT_size _ _), trivial, fun b hb => absurd (show b ∈ ([] : List Addr) from hb) (by simp), hok, .of_eq hg⟩
    refine codeAny_mono ((F _ hKb (nsK hns)).run callerA [] s₁ H ⟨[.ref a], []⟩ [.ref a] [.ref a] _ _ hr e0 (hbind s₁ (.ref a)) (.cons rfl .nil) (hsp H hO hS)) fun r s' h => ?_
    cases r with
    | error e => exact (hCX H e s' h).elim
    | ok fl =>
      cases fl with
      | next => exact False.elim h
      | brk => exact False.elim h
      | cont => exact False.elim h
      | ret u =>
        obtain ⟨v, H', os, bare, un, hok', r', q⟩ := h
        have q' : v = .bl true := q
        subst q'
        obtain rfl : u = Value.bool true := r'
        refine ⟨rfl, OldK.of_keep fun b o e => ?_, os, bare⟩
        cases q : H b with
        | none => exact un.keep b o e q (by intro z; exact absurd (show b ∈ ([] : List Addr) from z) (by simp)) (by simp)
        | some u =>
          rcases hO b with z | ⟨ob, xs, z⟩
          · rw [q] at z; cases z
          · have z2 := un.frzs b ob _ z
            obtain ⟨e1, _⟩ := hok b _ z
            obtain ⟨e2, _⟩ := hok' b _ z2
            rw [e] at e1; cases e1
            exact e2
  cases hk : K.lookup a with
  | some o =>
    have e := KX a o hk
    rw [ha] at e
    cases e
    refine core (fun _ => none) (fun _ => .inl rfl) (.inr ⟨_, vs.toArray, _, hk, rfl, rfl, rfl, by rw [List.size_toArray, lenV]; exact hl, by simpa using rv⟩) (fun b u z => by have z' : (none : Option HO) = some u := z; cases z') (fun b z => absurd rfl z) fun z => absurd rfl z
  | none =>
    refine core (fun b => if b = a then some (.frz { cls := .type "list", data := .seq vs.toArray } (.lst (ns.map V.int))) else none) (fun b => ?_) (.inl (.inr ⟨{ cls := .type "list", data := .seq vs.toArray }, if_pos rfl⟩)) (fun b u z => ?_) (fun b z => ?_) fun _ => hk
    · by_cases hb : b = a
      · exact .inr ⟨_, _, if_pos hb⟩
      · exact .inl (if_neg hb)
    · by_cases hb : b = a
      · have z' := (if_pos hb).symm.trans z
        cases z'
        subst hb
        exact ⟨ha, by rw [List.length_map]; exact hl, vs, _, rv, ha⟩
      · have z' := (if_neg hb).symm.trans z
        cases z'
    · by_cases hb : b = a
      · exact hb
      · exact absurd (if_neg hb) z
end L2
namespace L2
open PySem PySem.Spec PyProof.Rows
theorem walk_of {l : PySem.W.OpenLaw} {n k : Nat} {q : Program} {loose : List Str} {XP : (Str → Option Value) → Heap → Prop} {YP : World → Heap → Prop} {d : DefRec} {K : Params → PySem.W.Frag} {CX : World → CXT} {sp : World → Sp} {x : Str}
    (hn : l.most = some n) (hn2 : n ≤ sizeLine) (hdf : d.params.defaults = []) (hr : Room k callerA)
    (hY : ∀ (w : World) (h : Heap), YP w h → (K w.params).In h)
    (F : ∀ (w : World) (mg : Str → Option Value) (fa : Addr) (h : Heap), (K w.params).In h → h.Ns mainGlobals mg → mg d.name = some (.ref fa) →
      ∃ fd : FuncData, (∀ (s : Shared) (u : Value), BindsTo s fd ⟨[u], []⟩ [(x, u)]) ∧
        ∀ base : Heap, (K w.params).In base → base.Ns mainGlobals mg → FnOk l.prog w (K w.params) mg base (CX w) k fa fd [x] (sp w))
    (hsp : ∀ (w : World) (H : Hp) (a : Addr) (ns : List Int), ns.length ≤ n → Only H → SqL (K w.params) H a (ns.map V.int) → sp w [.ref a] H (fun v _ => v = .bl true) fun _ _ _ => False)
    (hCX : ∀ (w : World) (H : Hp) (s : Shared) (e : Value) (s' : Shared), CX w [] H s (fun _ _ _ => False) e s' → False) :
    PySem.W.WalkO q loose XP YP l.row.toRowW d [] (fun f vs => PySem.call f vs) := by
  refine Att.attach_call hn hdf fun w s₀ s₁ mg mb fa o pm cd doc a vs ns G Y ho hd hcd hmg hobj hints hlen hg => ?_
  have KX := hY w _ Y
  obtain ⟨fd, hb, hF⟩ := F w mg fa _ KX G.T.g hmg
  exact law_call KX G.T.g G.T.b G.T.builtins G.T.nolimit hg hobj hints (Nat.le_trans hlen hn2) hr hF hb (fun H hO hS => hsp w H a ns hlen hO hS) fun H e s' => hCX w H s₁ e s'
end L2
namespace L2
open PySem PySem.Spec PyProof.Rows
def inClass (s : Stmt) (j : Nat) : Stmt := match s with
  | .ClassDef _ _ _ body _ _ _ _ _ _ _ => body.getD j (.Pass ⟨0, 0, 0, 0⟩)
  | _ => .Pass ⟨0, 0, 0, 0⟩
def defArgs (s : Stmt) : Arguments := match s with
  | .FunctionDef _ a _ _ _ _ _ _ _ _ => a
  | _ => { posonlyargs := [], args := [], vararg := none, kwonlyargs := [], kw_defaults := [], kwarg := none, defaults := [] }
def defBody (s : Stmt) : List Stmt := match s with
  | .FunctionDef _ _ b _ _ _ _ _ _ _ => b
  | _ => []
def defScope (s : Stmt) : Scope := match s with
  | .FunctionDef _ _ _ _ _ _ sc _ _ _ => sc
  | _ => { kind := .function, names := [], isGenerator := false, isCoroutine := false }
abbrev CX0 : CXT := fun _ _ _ _ _ _ => False
abbrev E0 : XK := fun _ _ _ => False
theorem pass0 {X : Cx} : Passes CX0 X E0 := fun _ _ _ _ _ _ _ h => h.elim
structure Fun (K : PySem.W.Frag) (x qual : Str) (st : Stmt) (f : Addr) (fd : FuncData) : Prop where
  ex : ∃ (oc : Value) (od : Option Addr) (kV doc pm : Value) (an : Option Addr) (cdv ct : Value) (osl : Array (Option Value)),
    fd = PySem.W.fnOf x qual (defArgs st) (defBody st) (defScope st) .none kV doc pm an cdv ct ∧ K.lookup f = some ⟨oc, od, .func fd, osl⟩ ∧ PySem.W.codeIn K cdv qual = true
  kp : PySem.W.keepIn K (.ref f) = true
section
variable {P : Program} {w : World} {K : PySem.W.Frag} {mg : Str → Option Value} {base : Heap}
theorem Fun.ok {x qual : Str} {st : Stmt} {f : Addr} {fd : FuncData} {N ps : List Str} {k : Nat} {sp : Sp} (F : Fun K x qual st f fd) (S : FnScope N ps (defScope st)) (len : ∀ vs H Q E, sp vs H Q E → vs.length = ps.length)
    (hbody : ∀ (cdv : Value) (A : Around) (outer : List Env) (s : Shared) (H : Hp) (vs : List V) (Q : VK) (E : XK), Room k (A.deeper (envOfC qual (defScope st) s.heap.objs.size f cdv)) → sp vs H Q E →
      ∃ t, PSs (cxOf CX0 P w K mg base N qual (defScope st) f cdv A outer s H E).nox (defBody st) t ∧ t { nx := fun _ H' => Q .non H', rt := Q } (start N vs) H) : FnOk P w K mg base CX0 (k + 1) f fd ps sp := by
  obtain ⟨oc, od, kV, doc, pm, an, cdv, ct, osl, rfl, lk, hcd⟩ := F.ex
  refine fn_of lk hcd S len fun A outer s H vs Q E hr hsp => ?_
  obtain ⟨t, h, q⟩ := hbody cdv A outer s H vs Q E hr hsp
  exact ⟨t, h.nox, q⟩
theorem Fun.binds {x qual : Str} {st : Stmt} {f : Addr} {fd : FuncData} {ps : List Str} (F : Fun K x qual st f fd)
    (h : ∀ (kV doc pm : Value) (an : Option Addr) (cdv ct : Value) (us : List Value), us.length = ps.length → bindArgs (PySem.W.fnOf x qual (defArgs st) (defBody st) (defScope st) .none kV doc pm an cdv ct) ⟨us, []⟩ = pure (ps.zip us)) : Binds K fd ps [] := by
  obtain ⟨oc, od, kV, doc, pm, an, cdv, ct, osl, rfl, lk, hcd⟩ := F.ex
  exact .all (h kV doc pm an cdv ct)
theorem fun_mk {x qual : Str} {st : Stmt} {f : Addr} {oc : Value} {od an : Option Addr} {osl : Array (Option Value)} {kV doc pm cdv ct : Value} (l : K.lookup f = some ⟨oc, od, .func (PySem.W.fnOf x qual (defArgs st) (defBody st) (defScope st) .none kV doc pm an cdv ct), osl⟩)
    (c : PySem.W.codeIn K cdv qual = true) (k : PySem.W.keepIn K (.ref f) = true) : Fun K x qual st f (PySem.W.fnOf x qual (defArgs st) (defBody st) (defScope st) .none kV doc pm an cdv ct) := ⟨⟨oc, od, kV, doc, pm, an, cdv, ct, osl, rfl, l, c⟩, k⟩
end
theorem small1000 {n : Nat} (h : n ≤ 1000) : n < sizeLine := Nat.lt_of_le_of_lt h (by decide)
section
variable {X : Cx}
theorem pv (i : Nat) {x : Str} {pos : Pos} (hN : X.N[i]? = some x := by rfl) (hv : Vis X.env.scope x := by first | exact Or.inl rfl | exact Or.inr (Or.inl rfl) | exact Or.inr (Or.inr rfl)) (hd : (x == ("__debug__" : Str)) = false := by decide)
    (hcd : (x == ("__classdict__" : Str)) = false := by decide) : PE X (.Name x pos) (tVar i) := pe_var hN hv hd hcd
end
theorem ite2 {c A B : Prop} [Decidable c] (h1 : c → A) (h2 : ¬ c → B) : if c then A else B := by
  by_cases h : c
  · rw [if_pos h]
    exact h1 h
  · rw [if_neg h]
    exact h2 h
def Same (H H' : Hp) : Prop := ∀ b o, H b = some o → H' b = some o
theorem Same.refl (H : Hp) : Same H H := fun _ _ h => h
theorem Same.trans {H H1 H2 : Hp} (a : Same H H1) (b : Same H1 H2) : Same H H2 := fun c o h => b c o (a c o h)
theorem Same.free {H H' : Hp} (e : Same H H') {l : Addr} (h : H' l = Option.none) : H l = Option.none := by
  cases q : H l with
  | none => rfl
  | some o =>
    rw [e l o q] at h
    cases h
theorem Same.seq {K : PySem.W.Frag} {H H' : Hp} {a : Addr} {xs : List V} (e : Same H H') (h : SqL K H a xs) : SqL K H' a xs := by
  rcases h with (h | ⟨o, h⟩) | h
  · exact .inl (.inl (e _ _ h))
  · exact .inl (.inr ⟨o, e _ _ h⟩)
  · exact .inr h
section
variable {κ : Type} [DecidableEq κ]
end
end L2

set_option Elab.async false
set_option linter.all false
set_option maxRecDepth 100000
set_option maxHeartbeats 4000000

namespace L2
open PySem PySem.Spec PyProof.Rows

/-! ### heaps -/
theorem same_upd {H : Hp} {p : Addr} {o : HO} (h : H p = none) : Same H (upd H p o) := fun b u e => by
  rw [upd_ne (ne_of_none e h)]; exact e
theorem same_upd' {H0 H : Hp} {p : Addr} {o : HO} (s : Same H0 H) (h : H0 p = none) : Same H0 (upd H p o) := fun b u e => by
  rw [upd_ne (ne_of_none e h)]; exact s b u e
/-! ### texts: their size and their signs -/
abbrev TxtOk (x : Str) : Prop := PyData.strOk x = true
theorem len_app (x y : Str) : (x ++ y).length = x.length + y.length := by
  show (x.cps ++ y.cps).size = _
  rw [Array.size_append]; rfl
theorem len_one (c : Nat) : (⟨#[c]⟩ : Str).length = 1 := rfl
/-! ### slices of texts -/
section
variable {X : Cx}
def rSlS : V → Option Int → Option Int → Hp → VK → Prop := fun x lo hi H Q => ∃ z, x = .str z ∧ z.length ≤ sizeLine ∧ Q (.str (Txt.slice z lo hi)) H
theorem sl_str : SlR X rSlS := by
  intro pins s σ H x v vl vu lo hi sl Q I rx hs pl pu h
  obtain ⟨z, rfl, hz, q⟩ := h
  obtain ⟨t, rfl⟩ := rx
  refine ⟨"str", _, PyProof.Rows.slot_str_getitem.lookup, typeIs_str _ _ _, ?_⟩
  obtain ⟨o, ho, hc, hd⟩ := hs
  have fin : ∀ (l u : Option (Int × Tok)), vl = partValue l → vu = partValue u → lo = l.map (·.1) → hi = u.map (·.1) → wpAny (model X.prog X.w) X.A (getItem (.str z t) (.ref sl)) (EP X pins σ Q) X.xe s := by
    intro l u e1 e2 e3 e4
    subst e1 e2 e3 e4
    refine wpAny_getItem_str_slice (l := l) (u := u) (st := none) ⟨o, ho, hc, hd⟩ rfl ?_
    exact post_val_or_str ⟨Nat.le_trans (Txt.slice_le z _ _) hz, fun t' k => ⟨.str (Txt.slice z (l.map (·.1)) (u.map (·.1))), H, I.tok _, ⟨_, rfl⟩, q⟩⟩
  cases pl with
  | none =>
    cases pu with
    | none => exact fin none none rfl rfl rfl rfl
    | int j tj => exact fin none (some (j, tj)) rfl rfl rfl rfl
  | int i ti =>
    cases pu with
    | none => exact fin (some (i, ti)) none rfl rfl rfl rfl
    | int j tj => exact fin (some (i, ti)) (some (j, tj)) rfl rfl rfl rfl

/-! ### isinstance of a built-in type -/
end
end L2

/-! ### tuples of ints: not ahead -/
namespace HT
open PySem PyProof.Rows
section
open PySem.SeqAt
open PySem.AutoSeq1 (wpAny_loadPart')
open PySem.MeetsSeq PySem.MeetsSeq2 PySem.MeetsSeq3
end
section
variable {prog : Program} {w : World} {A : Around} {E : Value → Shared → Prop} {s : Shared}
end
end HT

namespace L2
open PySem PySem.Spec PyProof.Rows
section
variable {X : Cx}
end

/-! ### deep data -/
mutual
inductive DV (K : PySem.W.Frag) (H : Hp) : V → PySem.W.Dat → Prop
  | non : DV K H .non .none
  | int (i : Int) : DV K H (.int i) (.int i)
  | str (x : Str) : DV K H (.str x) (.str x)
  | tup {a : Addr} {xs : List V} {ds : List PySem.W.Dat} : SqT K H a xs → DVs K H xs ds → DV K H (.ref a) (.tuple ds)
  | lst {a : Addr} {xs : List V} {ds : List PySem.W.Dat} : SqL K H a xs → DVs K H xs ds → DV K H (.ref a) (.list ds)
inductive DVs (K : PySem.W.Frag) (H : Hp) : List V → List PySem.W.Dat → Prop
  | nil : DVs K H [] []
  | cons {x : V} {d : PySem.W.Dat} {xs : List V} {ds : List PySem.W.Dat} : DV K H x d → DVs K H xs ds → DVs K H (x :: xs) (d :: ds)
end
section
variable {X : Cx} {pins : List (Addr × Obj)} {σ : St} {H : Hp} {s : Shared}
end
section
variable {X : Cx}
end
end L2

namespace L2
open PySem PySem.Spec PyProof.Rows
/-! ### a cut between two statements: M is what holds there -/
section
variable {X : Cx} {st : Stmt} {rest : List Stmt} {t u : TS}
def tCut (M : St → Hp → Prop) (t u : TS) : TS := fun D σ H => t { D with nx := M } σ H ∧ ∀ σ' H', M σ' H' → u D σ' H'
theorem pss_cut (M : St → Hp → Prop) (h1 : PS X st t) (h2 : PSs X rest u) : PSs X (st :: rest) (tCut M t u) := by
  intro pins s σ H D I h
  refine wpAny_execs_cons (thn (h1 pins s σ H { D with nx := M } I h.1) fun f s1 q => ?_)
  cases f with
  | next =>
    obtain ⟨σ', H', I', q⟩ := q
    exact h2 pins s1 σ' H' D I' (h.2 σ' H' q)
  | ret v => exact q
  | brk => exact q
  | cont => exact q
end

/-! ### small facts -/
theorem free_upd {H : Hp} {p t : Addr} {o : HO} (h : upd H p o t = none) : t ≠ p ∧ H t = none := by
  by_cases e : t = p
  · subst e; rw [upd_same] at h; cases h
  · exact ⟨e, by rw [upd_ne e] at h; exact h⟩
theorem fit {a b : Str} (ha : a.length ≤ 100) (hb : b.length ≤ 100) : a.length + b.length ≤ sizeLine := Nat.le_of_lt (small1000 (by omega))
theorem fit1 {a : Str} (ha : a.length ≤ 100) : a.length ≤ sizeLine := Nat.le_of_lt (small1000 (by omega))
theorem atI_in {α : Type} {xs : List α} {r : Int} (h0 : 0 ≤ r) (h1 : r < xs.length) : ∃ v, atI xs r = some v ∧ xs[r.toNat]? = some v := by
  obtain ⟨n, rfl⟩ : ∃ n : Nat, r = n := ⟨r.toNat, by omega⟩
  have hn : n < xs.length := by omega
  have e : xs[n]? = some (xs[n]'hn) := by simp
  exact ⟨_, atI_nat e, by simpa using e⟩
theorem atI_ints {ns : List Int} {r : Int} (h0 : 0 ≤ r) (h1 : r < ns.length) : ∃ z, atI (ns.map V.int) r = some (V.int z) ∧ ns[r.toNat]? = some z := by
  obtain ⟨v, e, e2⟩ := atI_in (xs := ns.map V.int) h0 (by rw [List.length_map]; exact h1)
  rw [List.getElem?_map] at e2
  cases q : ns[r.toNat]? with
  | none => rw [q] at e2; cases e2
  | some z =>
    rw [q] at e2
    cases e2
    exact ⟨z, e, rfl⟩
/-! ### a def of the top -/
def DefAt (K : PySem.W.Frag) (mg : Str → Option Value) (x : Str) (st : Stmt) : Prop := ∃ f fd, mg x = some (.ref f) ∧ Fun K x x st f fd ∧ PySem.W.keepIn K (.ref f) = true
theorem defAt_mk {K : PySem.W.Frag} {h : Heap} {mg : Str → Option Value} {x : Str} {st : Stmt} {f : Addr} {od an : Option Addr} {sl : Array (Option Value)} {oc kV dc pm cd ct : Value} (X : K.In h) (G : h.Ns mainGlobals mg)
    (a : PySem.W.nsIn K mainGlobals x = some (some (.ref f))) (l : K.lookup f = some ⟨oc, od, .func (PySem.W.fnOf x x (defArgs st) (defBody st) (defScope st) .none kV dc pm an cd ct), sl⟩) (c : PySem.W.codeIn K cd x = true) (k : PySem.W.keepIn K (.ref f) = true) :
    DefAt K mg x st := ⟨f, _, PySem.W.mg_of X G a, fun_mk l c k, k⟩
end L2

set_option Elab.async false
set_option linter.all false
set_option maxRecDepth 100000
set_option maxHeartbeats 4000000

namespace L2
open PySem PySem.Spec PyProof.Rows

/-! ### a comprehension's tests -/
abbrev testsOf (ifs : List Expr) (env : Env) : Sem Bool :=
  forIn ifs true fun c r => if r = true then do let ok ← isTrue c env (eval c env); pure (ForInStep.yield ok) else pure (ForInStep.yield r)
def PTs (X : Cx) (ifs : List Expr) (t : TT) : Prop :=
  ∀ (pins : List (Addr × Obj)) (s : Shared) (σ : St) (H : Hp) (Q : Bool → Hp → Prop), Inv X pins σ H s → t σ H Q → wpAny (model X.prog X.w) X.A (testsOf ifs X.env) (TP X pins σ Q) X.xe s
def tTrue : TT := fun _ H Q => Q true H
theorem pts_nil {X : Cx} : PTs X [] tTrue := fun _ _ _ H _ I h => wpAny_tests_nil ⟨H, I, h⟩
theorem pts_one {X : Cx} {c : Expr} {t : TT} (h : PT X c t) : PTs X [c] t := fun pins s σ H Q I q => wpAny_tests_one (h pins s σ H Q I q)

/-! ### a comprehension's loop -/
section
variable {prog : Program} {w : World} {A : Around} {R : Result → Shared → Prop} {s : Shared}
theorem comp_loop {elt target iter : Expr} {ifs : List Expr} {scope : Scope} {pos : Pos} {it acc : Value} {env : Env} (I : Nat → Shared → Prop)
    (turn : ∀ n s, I n s → wpAny (model prog w) A (pyNext it) (fun r s₁ => match r with
      | none => R (.ok .next) s₁
      | some v => wpAny (model prog w) A (letOwnedTupleGo target it v) (fun _ s₀ => wpAny (model prog w) A (assign target env v) (fun _ s₂ =>
          wpAny (model prog w) A (testsOf ifs env) (fun ok s₃ =>
            if ok = true then wpAny (model prog w) A (eval elt env) (fun x s₄ =>
              wpAny (model prog w) A (call (.builtin "list.append") [acc, x]) (fun _ s₅ => ∃ m, m < n ∧ I m s₅) (notedBy (model prog w) A env fun e s' => R (.error e) s') s₄) (notedBy (model prog w) A env fun e s' => R (.error e) s') s₃
            else ∃ m, m < n ∧ I m s₃) (notedBy (model prog w) A env fun e s' => R (.error e) s') s₂) (notedBy (model prog w) A env fun e s' => R (.error e) s') s₀) (notedBy (model prog w) A env fun e s' => R (.error e) s') s₁) (notedBy (model prog w) A env fun e s' => R (.error e) s') s)
    (n : Nat) (h : I n s) : codeAny (model prog w) A (.compLoop (.ListComp elt [⟨target, iter, ifs, 0⟩] scope pos) 0 it acc env) R s := by
  refine codeAny_loop rfl I (fun n s hI => ?_) n h
  show wpAny _ A ((compTurn (.ListComp elt [⟨target, iter, ifs, 0⟩] scope pos) 0 it acc env).onRaise (fun x => do noteFrame x env; theTreesLotGoes x)) _ _ s
  refine wpAny_noted ?_
  rw [compTurn_list]
  refine wpAny_bind (wpAny_standAt (wpAny_bind (wpAny_mono (turn n s hI) (fun r s₁ h₁ => ?_) fun _ _ h' => h')))
  cases r with
  | none => exact wpAny_pure h₁
  | some v =>
    refine wpAny_bind (wpAny_mono h₁ (fun _ s₀ h₀ => ?_) fun _ _ h' => h')
    refine wpAny_bind (wpAny_mono h₀ (fun _ s₂ h₂ => wpAny_bind (wpAny_mono h₂ (fun ok s₃ h₃ => ?_) fun _ _ h' => h')) fun _ _ h' => h')
    cases ok with
    | false => exact wpAny_pure ⟨rfl, h₃⟩
    | true =>
      exact wpAny_bind (wpAny_bind (wpAny_mono h₃ (fun x s₄ h₄ => wpAny_bind (wpAny_mono h₄ (fun _ s₅ h₅ => wpAny_pure (wpAny_pure ⟨rfl, h₅⟩)) fun _ _ h' => h')) fun _ _ h' => h'))
end

/-! ### its context: a frame of its own (its names), the same stack -/
/-- the scope of a comprehension whose names are all its own or global -/
structure CompScope (N : List Str) (sc : Scope) : Prop where
  kind : sc.kind = .function
  nofree : ∀ y ∈ sc.names, y.2 ≠ .free
  nocell : ∀ y ∈ sc.names, y.2 ≠ .cell
  names : ∀ y ∈ sc.names, y.2 = .local → sc.names.lookup y.1 = some .local
  nd : N.Nodup

theorem hok_but {P : Program} {w : World} {H : Hp} {h1 h2 : Heap} {C : Addr} (ok : HOk P w H h1) (sb : Heap.SameBut C h1 h2) (hn : H C = none) : HOk P w H h2 := fun b ob e => by
  refine (ok b ob e).stay (fun c w' hc q => (sb.2 c ?_).trans q) (fun _ q => q) fun _ _ q => q
  rintro rfl
  rcases hc with rfl | hc
  · rw [hn] at e; cases e
  · rw [hn] at hc; cases hc

/-- what the loop asks: W the invariant by the turn, a measure, the names' values and the heap; the list that grows stands at D -/
def CompAsk (J : It) (g : TG) (tt : TT) (te : TE) (D : Addr) (Qd : Hp → Prop) (W : Nat → Nat → St → Hp → Prop) : Prop :=
  ∀ i m σ H, W i m σ H → (J.stop i H ∧ Qd H) ∨ (J.go i H ∧ ∀ x H2, J.yld i H x H2 → g x σ H2 fun σ3 H3 => tt σ3 H3 fun ok H4 =>
    if ok = true then te σ3 H4 fun y H5 => ∃ ys, H5 D = some (.lst ys) ∧ ys.length < sizeLine ∧ ∃ m', m' < m ∧ W (i + 1) m' σ3 (upd H5 D (.lst (ys ++ [y])))
    else ∃ m', m' < m ∧ W (i + 1) m' σ3 H4)
section
variable {X : Cx} {pins : List (Addr × Obj)} {σ : St} {H3 : Hp} {s3 : Shared}
end
end L2

set_option Elab.async false
set_option linter.all false
set_option maxRecDepth 100000
set_option maxHeartbeats 4000000

namespace L2
open PySem PySem.Spec PyProof.Rows

/-! ### the cells that a comprehension takes from around it -/
def takenFrom (env : Env) : List (Str × NameKind) → List (Str × Addr) → List (Str × Addr)
  | [], cs => cs
  | (n, k) :: r, cs => if k = .free then takenFrom env r ((n, (env.cells.lookup n).getD 0) :: cs) else takenFrom env r cs
theorem closureFor_taken {scope : Scope} {env : Env} (h : ∀ y ∈ scope.names, y.2 = .free → ∃ c, env.cells.lookup y.1 = some c) : closureFor scope env = pure (takenFrom env scope.names []) := by
  unfold closureFor
  generalize scope.names = l at h
  have go : ∀ (l : List (Str × NameKind)) (cs : List (Str × Addr)), (∀ y ∈ l, y.2 = .free → ∃ c, env.cells.lookup y.1 = some c) →
      (forIn l cs fun (x : Str × NameKind) (r : List (Str × Addr)) => (if (x.2 == .free) = true then do let y ← cellOf env x.1; pure (ForInStep.yield ((x.1, y) :: r)) else pure (ForInStep.yield r) : Sem (ForInStep (List (Str × Addr))))) = pure (takenFrom env l cs) := by
    intro l
    induction l with
    | nil => intro cs _; rfl
    | cons x l ih =>
      intro cs h
      obtain ⟨n, k⟩ := x
      rw [List.forIn_cons]
      by_cases e : k = .free
      · subst e
        obtain ⟨c, hc⟩ := h _ List.mem_cons_self rfl
        have hc : env.cells.lookup n = some c := hc
        have e1 : cellOf env n = pure c := by unfold cellOf; rw [hc]
        simp only [e1, takenFrom, hc, if_true, Option.getD_some, beq_self_eq_true, pure_bind]
        exact ih _ fun y hy => h y (List.mem_cons_of_mem _ hy)
      · have e' : (k == NameKind.free) = false := by simpa using e
        simp only [e', takenFrom, e, if_false, Bool.false_eq_true, pure_bind]
        exact ih _ fun y hy => h y (List.mem_cons_of_mem _ hy)
  have := go l [] h
  simpa using this
theorem takenFrom_some {env : Env} : ∀ {l : List (Str × NameKind)} {cs : List (Str × Addr)} {x : Str} {c : Addr}, (∀ y ∈ l, y.2 = .free → ∃ c, env.cells.lookup y.1 = some c) → (∀ x c, cs.lookup x = some c → env.cells.lookup x = some c) →
    (takenFrom env l cs).lookup x = some c → env.cells.lookup x = some c
  | [], _, _, _, _, hc, e => hc _ _ e
  | (n, k) :: l, cs, x, c, h, hc, e => by
    unfold takenFrom at e
    have h' : ∀ y ∈ l, y.2 = .free → ∃ c, env.cells.lookup y.1 = some c := fun y hy => h y (List.mem_cons_of_mem _ hy)
    split at e
    · refine takenFrom_some h' (fun z d hz => ?_) e
      rename_i hk
      rw [List.lookup_cons] at hz
      split at hz
      · rename_i q
        obtain ⟨d', hd⟩ := h (n, k) List.mem_cons_self hk
        have hd : env.cells.lookup n = some d' := hd
        have : z = n := by simpa using q
        subst this
        rw [hd] at hz ⊢
        exact hz
      · exact hc _ _ hz
    · exact takenFrom_some h' hc e
theorem takenFrom_mono {env : Env} : ∀ {l : List (Str × NameKind)} {cs : List (Str × Addr)} {x : Str}, (cs.lookup x).isSome = true → ((takenFrom env l cs).lookup x).isSome = true
  | [], _, _, h => h
  | (n, k) :: l, cs, x, h => by
    unfold takenFrom
    split
    · refine takenFrom_mono ?_
      rw [List.lookup_cons]
      split
      · rfl
      · exact h
    · exact takenFrom_mono h
theorem takenFrom_has {env : Env} {x : Str} : ∀ {l : List (Str × NameKind)} {cs : List (Str × Addr)}, (x, NameKind.free) ∈ l → ((takenFrom env l cs).lookup x).isSome = true
  | (n, k) :: l, cs, h => by
    unfold takenFrom
    rcases List.mem_cons.mp h with e | e
    · cases e
      rw [if_pos rfl]
      refine takenFrom_mono ?_
      rw [List.lookup_cons]
      simp
    · split
      · exact takenFrom_has e
      · exact takenFrom_has e

def cxCompF (X : Cx) (N : List Str) (sc : Scope) (s₀ : Shared) (H₀ : Hp) (C : Addr) (ex : List Addr) : Cx where
  prog := X.prog
  w := X.w
  K := X.K
  mg := X.mg
  base := X.base
  A := X.A
  N := N
  s₀ := s₀
  H₀ := H₀
  env := compEnvC sc (takenFrom X.env sc.names []) C X.env
  outer := X.stack
  stack := X.stack
  ex := ex
  fn := fun _ => false
  calm := X.calm
  pn := []
  xe := fun _ _ => False

/-- the scope of a comprehension: own names, then names of the block around it (slots js there) -/
structure CompScopeF (X : Cx) (own cap : List Str) (js : List Nat) (sc : Scope) : Prop where
  kind : sc.kind = .function
  nocell : ∀ y ∈ sc.names, y.2 ≠ .cell
  names : ∀ y ∈ sc.names, y.2 = .local → sc.names.lookup y.1 = some .local
  nd : (own ++ cap).Nodup
  frees : ∀ y ∈ sc.names, y.2 = .free → y.1 ∈ cap
  slots : js.map (fun j => X.N[j]?) = cap.map some
  outer' : cap.map X.env.kindOf = cap.map fun _ => some NameKind.cell
  capk' : cap.map (fun x => (relabel sc X.env).names.lookup x) = cap.map fun _ => some NameKind.cell
theorem map_all {α β : Type} {f : α → β} {c : β} : ∀ {l : List α}, l.map f = l.map (fun _ => c) → ∀ x ∈ l, f x = c
  | [], _, _, h => nomatch h
  | y :: l, e, x, h => by
    rw [List.map_cons, List.map_cons] at e
    injection e with e1 e2
    rcases List.mem_cons.mp h with q | q
    · rw [q]; exact e1
    · exact map_all e2 x q
theorem CompScopeF.outer {X : Cx} {own cap : List Str} {js : List Nat} {sc : Scope} (S : CompScopeF X own cap js sc) : ∀ x ∈ cap, X.env.kindOf x = some .cell := map_all S.outer'
theorem CompScopeF.capk {X : Cx} {own cap : List Str} {js : List Nat} {sc : Scope} (S : CompScopeF X own cap js sc) : ∀ x ∈ cap, (relabel sc X.env).names.lookup x ≠ some .local := fun x hx h => by
  rw [map_all S.capk' x hx] at h; cases h

/-- its names' values at the start -/
def compStart (n : Nat) (js : List Nat) (σ : St) : St := List.replicate n none ++ js.map fun j => (σ[j]?).join
def tCompF (wi : TI) (n : Nat) (js : List Nat) (g : TG) (tt : TT) (te : TE) : TE := fun σ H Q => wi σ H fun J H1 => ∀ D, H1 D = none →
  ∃ W : Nat → Nat → St → Hp → Prop, (∃ m, W 0 m (compStart n js σ) (upd H1 D (.lst []))) ∧ CompAsk J g tt te D (fun H' => Q (.ref D) H') W

section
variable {X : Cx} {pins : List (Addr × Obj)} {σ : St} {H3 : Hp} {s3 : Shared}
theorem kind_relabel {sc : Scope} {env : Env} {x : Str} {k : NameKind} (h : (relabel sc env).names.lookup x = some k) : k = .local ∨ k = .globalImplicit ∨ (x, k) ∈ sc.names ∨ (x, NameKind.free) ∈ sc.names := by
  have hm := PySem.mem_of_lookup h
  unfold relabel at hm
  obtain ⟨⟨n, k'⟩, hn, e⟩ := List.mem_map.mp hm
  dsimp only at e
  split at e
  · rename_i c
    cases e
    simp only [Bool.and_eq_true, beq_iff_eq] at c
    obtain ⟨⟨c, _⟩, _⟩ := c
    subst c
    exact .inr (.inr (.inr hn))
  · cases e
    exact .inr (.inr (.inl hn))
theorem comp_coreF {elt tg iter : Expr} {ifs : List Expr} {sc : Scope} {pos : Pos} {own cap : List Str} {js : List Nat} {g : TG} {tt : TT} {te : TE} {it C D : Addr} {fp : List Addr} {tn : Nat → Heap → Prop} {J : It} {h4 : Heap} {tk : Nat} {m : Str → Option Value}
    {W : Nat → Nat → St → Hp → Prop} {Qd : Hp → Prop} {m0 : Nat} (S : CompScopeF X own cap js sc) (hc : X.calm = true) (I3 : Inv X pins σ H3 s3) (T : Turn X.prog X.w X.K tg J fp it tn) (st3 : tn 0 s3.heap) (f3 : ∀ b ∈ fp, FpOk X pins H3 b)
    (eC : C = s3.heap.objs.size) (hns : h4.Ns C m) (hk : ∀ b o, s3.heap.get? b = some o → h4.get? b = some o)
    (hg : PG (cxCompF X (own ++ cap) sc s3 H3 C fp) tg g) (ht : PTs (cxCompF X (own ++ cap) sc s3 H3 C fp) ifs tt) (he : PE (cxCompF X (own ++ cap) sc s3 H3 C fp) elt te)
    (w0 : W 0 m0 (compStart own.length js σ) H3) (ask : CompAsk J g tt te D Qd W) :
    codeAny (model X.prog X.w) X.A (.compStart (.ListComp elt [⟨tg, iter, ifs, 0⟩] sc pos) 0 (.ref it) (.ref D) (compEnvC sc (takenFrom X.env sc.names []) C X.env))
      (fun r s' => r = .ok .next ∧ ∃ m' H', s'.heap.Ns C m' ∧ s'.os = s3.os ∧ AllBare s'.gens ∧ Un (frs X.stack) fp H3 H' s3.heap s'.heap ∧ HOk X.prog X.w H' s'.heap ∧ H' C = none ∧ Qd H') { s3 with heap := h4, toks := tk } := by
  have frs' : ∀ y ∈ sc.names, y.2 = .free → ∃ c, X.env.cells.lookup y.1 = some c := fun y hy e => I3.ok.has _ (.inl (S.outer _ (S.frees y hy e)))
  have toL : ∀ (x : Str) (c : Addr), (cxCompF X (own ++ cap) sc s3 H3 C fp).env.cells.lookup x = some c → X.env.cells.lookup x = some c := fun x c e =>
    takenFrom_some frs' (fun x c h => by cases (show ([] : List (Str × Addr)).lookup x = some c from h)) e
  have ltC : ∀ (x : Str) (c : Addr), X.env.cells.lookup x = some c → c < s3.heap.objs.size := fun x c e => by
    obtain ⟨v, q⟩ := I3.cell x c e
    exact q.lt
  have fpl : ∀ b ∈ fp, b < s3.heap.objs.size := fun b hb => by
    obtain ⟨o, e, _⟩ := T.obj 0 _ st3 b hb
    exact Heap.lt_size e
  have ok' : (cxCompF X (own ++ cap) sc s3 H3 C fp).Ok := by
    refine ⟨I3.ok.mod, S.kind, I3.ok.glob, I3.ok.blt, Nat.le_of_eq eC.symm, fun x y c e1 e2 => I3.ok.inj x y c (toL x c e1) (toL y c e2), fun x hx => ?_, (fun x c z _ => nomatch (show false = true from z)), I3.ok.hd, I3.ok.frames, .inl rfl, fun b hb => ?_,
      I3.bs, Nat.le_trans I3.ok.bsz I3.sz, fun b o e hb => ?_, fun b hb hs => ?_, I3.stack, I3.stkFree⟩
    · have hx' : (relabel sc X.env).names.lookup x = some .cell ∨ (relabel sc X.env).names.lookup x = some .free := hx
      have hm : (x, NameKind.free) ∈ sc.names := by
        rcases hx' with z | z
        · rcases kind_relabel z with q | q | q | q
          · cases q
          · cases q
          · exact absurd rfl (S.nocell _ q)
          · exact q
        · rcases kind_relabel z with q | q | q | q
          · cases q
          · cases q
          · exact q
          · exact q
      exact Option.isSome_iff_exists.mp (takenFrom_has hm)
    · refine ⟨?_, fun x c e => (f3 b hb).2.2.2.2.1 x c (toL x c e)⟩
      show b ≠ C
      rw [eC]
      exact Nat.ne_of_lt (fpl b hb)
    · rcases (f3 b hb).2.2.2.1 with z | z
      · exact I3.ok.noex b o e z
      · have h1 : b < X.base.objs.size := Heap.lt_size e
        exact absurd (Nat.lt_of_lt_of_le h1 (Nat.le_trans I3.ok.bsz z)) (Nat.lt_irrefl _)
    · obtain ⟨_, f1, f2, _⟩ := f3 b hb
      rcases List.mem_cons.mp (I3.stkSub b hs) with z | z
      · exact f1 z
      · exact f2 z
  have hCn : H3 C = none := by rw [eC]; exact I3.hok.fresh (Nat.le_refl _)
  have sl : js.length = cap.length := by have := congrArg List.length S.slots; simpa using this
  have I4 : Inv (cxCompF X (own ++ cap) sc s3 H3 C fp) [] (compStart own.length js σ) H3 { s3 with heap := h4, toks := tk } := by
    refine ⟨ok', rfl, I3.bare, Un.kept hk, ⟨m, hns, fun i x v e1 e2 hv => ?_⟩, fun x c e => ?_, hCn, fun x c e => I3.freeC x c (toL x c e), fun p hp => ?_, I3.hok.kept hk, ?_⟩
    · have e1 : (own ++ cap)[i]? = some x := e1
      unfold compStart at e2
      by_cases hi : i < own.length
      · rw [List.getElem?_append_left (by simpa using hi), List.getElem?_replicate, if_pos hi] at e2
        cases e2
      · rw [List.getElem?_append_right (by omega)] at e1
        rw [List.getElem?_append_right (by simpa using hi), List.length_replicate, List.getElem?_map] at e2
        obtain ⟨j, hj⟩ : ∃ j, js[i - own.length]? = some j := by
          cases q : js[i - own.length]? with
          | none => rw [q] at e2; cases e2
          | some j => exact ⟨j, rfl⟩
        rw [hj] at e2
        have e2 : (σ[j]?).join = some v := Option.some.inj e2
        have e3 : σ[j]? = some (some v) := by
          cases q : σ[j]? with
          | none => rw [q] at e2; cases e2
          | some z => rw [q] at e2; rw [show z = some v from e2]
        have hs := congrArg (fun l => l[i - own.length]?) S.slots
        simp only [List.getElem?_map, hj, e1, Option.map_some] at hs
        have hN : X.N[j]? = some x := Option.some.inj hs
        have hx : x ∈ cap := List.mem_of_getElem? e1
        obtain ⟨m2, hn2, hl2⟩ := I3.loc
        obtain ⟨u, ru, lk⟩ := hl2 j x v hN e3 (.inr (.inl (S.outer x hx)))
        refine ⟨u, ru, ?_⟩
        rcases lk with ⟨k1, _⟩ | ⟨_, c, hc1, hc2⟩
        · rw [S.outer x hx] at k1; cases k1
        · have hv : Vis (relabel sc X.env) x := hv
          have kd : (cxCompF X (own ++ cap) sc s3 H3 C fp).env.kindOf x = some .cell ∨ (cxCompF X (own ++ cap) sc s3 H3 C fp).env.kindOf x = some .free ∨ (cxCompF X (own ++ cap) sc s3 H3 C fp).env.kindOf x = some .local := by
            rcases hv with z | z | z
            · exact .inr (.inr z)
            · exact .inl z
            · exact .inr (.inl z)
          rcases kd with kd | kd | kd
          · obtain ⟨c', hc'⟩ := ok'.has x (.inl kd)
            have := toL x c' hc'
            rw [hc1] at this
            cases this
            exact .inr ⟨.inl kd, c, hc', hc2.keeps hk⟩
          · obtain ⟨c', hc'⟩ := ok'.has x (.inr kd)
            have := toL x c' hc'
            rw [hc1] at this
            cases this
            exact .inr ⟨.inr kd, c, hc', hc2.keeps hk⟩
          · have kd : (relabel sc X.env).names.lookup x = some .local := kd
            exact absurd kd (S.capk x hx)
    · obtain ⟨v, q⟩ := I3.cell x c (toL x c e)
      exact ⟨v, q.keeps hk⟩
    · have hp' : p ∈ ([] : List (Addr × Obj)) := hp
      cases hp'
    · show (compStart own.length js σ).length = (own ++ cap).length
      unfold compStart
      rw [List.length_append, List.length_replicate, List.length_map, List.length_append, sl]
  have fpS : ∀ {H' : Hp}, (∀ b ∈ fp, H' b = none) → ∀ b ∈ fp, FpOk (cxCompF X (own ++ cap) sc s3 H3 C fp) [] H' b := fun {H'} hn b hb => by
    refine ⟨hn b hb, ?_, fun hs => ok'.exfs b hb hs, .inl hb, fun x c e => (f3 b hb).2.2.2.2.1 x c (toL x c e), fun p hp => ?_⟩
    · show b ≠ C
      rw [eC]
      exact Nat.ne_of_lt (fpl b hb)
    · have hp' : p ∈ ([] : List (Addr × Obj)) := hp
      cases hp'
  have st4 : tn 0 h4 := T.keep 0 _ _ st3 fun b _ o e => hk b o e
  have loop : codeAny (model X.prog X.w) X.A (.compLoop (.ListComp elt [⟨tg, iter, ifs, 0⟩] sc pos) 0 (.ref it) (.ref D) (compEnvC sc (takenFrom X.env sc.names []) C X.env))
      (fun r s' => r = .ok .next ∧ ∃ m' H', s'.heap.Ns C m' ∧ s'.os = s3.os ∧ AllBare s'.gens ∧ Un (frs X.stack) fp H3 H' s3.heap s'.heap ∧ HOk X.prog X.w H' s'.heap ∧ H' C = none ∧ Qd H') { s3 with heap := h4, toks := tk } := by
    refine comp_loop (fun n s' => ∃ i σ' H', Inv (cxCompF X (own ++ cap) sc s3 H3 C fp) [] σ' H' s' ∧ tn i s'.heap ∧ (∀ b ∈ fp, H' b = none) ∧ W i n σ' H') ?_ m0 ⟨0, _, H3, I4, st4, fun b hb => (f3 b hb).1, w0⟩
    rintro n s' ⟨i, σ', H', J', st', fr', w'⟩
    rcases ask i n σ' H' w' with ⟨stop, qd⟩ | ⟨go, step⟩
    · refine thn (T.done (cxCompF X (own ++ cap) sc s3 H3 C fp) rfl rfl rfl hc i [] s' σ' H' _ J' (fpS fr') st' stop) fun r s1 ⟨hr, J1⟩ => ?_
      subst hr
      obtain ⟨m1, hn1, _⟩ := J1.loc
      exact ⟨rfl, m1, H', hn1, J1.os, J1.bare, J1.base, J1.hok, J1.free, qd⟩
    · refine thn (T.item (cxCompF X (own ++ cap) sc s3 H3 C fp) rfl rfl rfl hc i [] s' σ' H' _ J' (fpS fr') st' go) fun r s1 ⟨u, hr, h1⟩ => ?_
      subst hr
      refine thn h1 fun _ s2 ⟨x, H5, J5, r5, y5, st5, fr5⟩ => ?_
      have J5' := J5.pinned (fpS fr5) (T.obj _ _ st5)
      refine wpAny_mono (hg _ s2 σ' H5 x u _ J5' r5 (step x H5 y5)) (fun _ s6 ⟨σ6, H6, J6, q6⟩ => ?_) (fun _ _ z => z.elim)
      refine wpAny_mono (ht _ s6 σ6 H6 _ J6 q6) (fun ok s7 ⟨H7, J7, q7⟩ => ?_) (fun _ _ z => z.elim)
      have again : ∀ {s9 : Shared} {H9 : Hp} {m' : Nat}, Inv (cxCompF X (own ++ cap) sc s3 H3 C fp) ([] ++ pinsAt fp s2.heap) σ6 H9 s9 → m' < n → W (i + 1) m' σ6 H9 →
          ∃ m, m < n ∧ ∃ i σ' H', Inv (cxCompF X (own ++ cap) sc s3 H3 C fp) [] σ' H' s9 ∧ tn i s9.heap ∧ (∀ b ∈ fp, H' b = none) ∧ W i m σ' H' := fun {s9 H9 m'} J9 hm w9 => by
        refine ⟨m', hm, i + 1, σ6, H9, J9.unpinned, T.keep _ _ _ st5 fun b hb o e => (J9.pin (b, o) (List.mem_append_right _ (List.mem_append_right _ (mem_pinsAt hb e)))).1, fun b hb => ?_, w9⟩
        obtain ⟨o, e, d⟩ := T.obj _ _ st5 b hb
        exact (J9.pin (b, o) (List.mem_append_right _ (List.mem_append_right _ (mem_pinsAt hb e)))).2.1
      cases ok with
      | false =>
        rw [if_neg Bool.false_ne_true] at q7 ⊢
        obtain ⟨m', hm, w7⟩ := q7
        exact again J7 hm w7
      | true =>
        rw [if_pos rfl] at q7 ⊢
        refine wpAny_mono (he _ s7 σ6 H7 _ J7 q7) (fun y s8 ⟨yv, H8, J8, r8, ys, hD8, hz, m', hm, w8⟩ => ?_) (fun _ _ z => z.elim)
        refine wpAny_mono (mt_append (X := cxCompF X (own ++ cap) sc s3 H3 C fp) _ s8 σ6 H8 (.ref D) [yv] (.ref D) [y] (fun v H9 => H9 = upd H8 D (.lst (ys ++ [yv]))) J8 rfl (.cons r8 .nil) ⟨D, ys, yv, rfl, rfl, hD8, hz, rfl⟩) (fun _ s9 ⟨_, H9, J9, _, eH⟩ => ?_) (fun _ _ z => z.elim)
        subst eH
        exact again J9 hm w8
  exact codeAny_compStart_list loop (T.self X.A 0 _ _ _ st4 loop)

/-- what stands behind the block, ahead of letting its names go -/
theorem comp_runF {elt tg iter : Expr} {ifs : List Expr} {sc : Scope} {pos : Pos} {own cap : List Str} {js : List Nat} {g : TG} {tt : TT} {te : TE} {it : Addr} {fp : List Addr} {tn : Nat → Heap → Prop} {J : It} {H2 : Hp} {s2 : Shared} {use : Option (Value → Sem Unit)} {Qr : Value → Shared → Prop} {Er : Value → Shared → Prop}
    {Q : V → Hp → Prop} (S : CompScopeF X own cap js sc) (hc : X.calm = true) (I2 : Inv X pins σ H2 s2) (T : Turn X.prog X.w X.K tg J fp it tn) (st2 : tn 0 s2.heap) (f2 : ∀ b ∈ fp, FpOk X pins H2 b)
    (hg : ∀ s₀ H₀ C ex, PG (cxCompF X (own ++ cap) sc s₀ H₀ C ex) tg g) (ht : ∀ s₀ H₀ C ex, PTs (cxCompF X (own ++ cap) sc s₀ H₀ C ex) ifs tt) (he : ∀ s₀ H₀ C ex, PE (cxCompF X (own ++ cap) sc s₀ H₀ C ex) elt te)
    (q2 : ∀ D, H2 D = none → ∃ W : Nat → Nat → St → Hp → Prop, (∃ m, W 0 m (compStart own.length js σ) (upd H2 D (.lst []))) ∧ CompAsk J g tt te D (fun H' => Q (.ref D) H') W)
    (fin : ∀ (D C : Addr) (H' : Hp) (s' : Shared) (m' : Str → Option Value), s2.heap.objs.size < C → s'.heap.Ns C m' → Inv X pins σ H' s' → H' C = none → Q (.ref D) H' → compPost (model X.prog X.w) X.A Er use Qr (.ref D) C (.ok .next) s') :
    wpAny (model X.prog X.w) X.A (newList []) (fun acc s₃ => wpAny (model X.prog X.w) X.A (newFunctionEnv sc X.env.globals (takenFrom X.env sc.names []) [] X.env.qual none .none (some X.env)) (fun cenv s₄ =>
      codeAny (model X.prog X.w) X.A (.compStart (.ListComp elt [⟨tg, iter, ifs, 0⟩] sc pos) 0 (.ref it) acc { cenv with scope := relabel sc X.env }) (compPost (model X.prog X.w) X.A Er use Qr acc cenv.locals) s₄) Er s₃) Er s2 := by
  have hDn : H2 s2.heap.objs.size = none := I2.fresh
  obtain ⟨W, ⟨m0, w0⟩, ask⟩ := q2 _ hDn
  have I3 := I2.lnew (ys := []) (its := []) (t' := s2.toks) .nil (Nat.zero_le _)
  have fpl : ∀ b ∈ fp, b < s2.heap.objs.size := fun b hb => by
    obtain ⟨o, e, _⟩ := T.obj 0 _ st2 b hb
    exact Heap.lt_size e
  have f3 : ∀ b ∈ fp, FpOk X pins (upd H2 s2.heap.objs.size (.lst [])) b := fun b hb => by
    refine ⟨?_, (f2 b hb).2⟩
    rw [upd_ne (Nat.ne_of_lt (fpl b hb))]
    exact (f2 b hb).1
  refine wpAny_newObj_type (hd := by size_fits) (wpAny_newFunctionEnv S.nocell (by intro y hy; simp at hy) (fun h4 hns hsb => ?_) S.kind)
  dsimp only at hns hsb ⊢
  have hkp : ∀ b o, (s2.heap.push { cls := .type "list", dict := none, data := .seq ([] : List Value).toArray }).get? b = some o → h4.get? b = some o := fun b o e =>
    hsb.extBut b o (Nat.ne_of_lt (Heap.lt_size e)) (Heap.get?_push_of_some _ e)
  have st3 : tn 0 (s2.heap.push { cls := .type "list", dict := none, data := .seq ([] : List Value).toArray }) := T.keep 0 _ _ st2 fun b _ o e => Heap.get?_push_of_some _ e
  refine codeAny_mono (comp_coreF (s3 := { s2 with heap := s2.heap.push { cls := .type "list", dict := none, data := .seq ([] : List Value).toArray } }) (tk := s2.toks + ([] : List (Str × Value)).length) S hc I3 T st3 f3 rfl hns hkp (hg _ _ _ _) (ht _ _ _ _) (he _ _ _ _) w0 ask) fun r s' hr => ?_
  obtain ⟨er, m', H', hn', os', bare', un', hok', free', qd⟩ := hr
  subst er
  have un1 : Un (frs X.stack) fp H2 (upd H2 s2.heap.objs.size (.lst [])) s2.heap (s2.heap.push { cls := .type "list", dict := none, data := .seq ([] : List Value).toArray }) := Un.laid (fun b o e => Heap.get?_push_of_some _ e) (Nat.le_refl _) hDn
  refine fin _ _ H' s' m' ?_ hn' (I2.call' (s' := s') (ch := fp) os' (un1.trans un') hok' bare' (fun b hb => ⟨(f2 b hb).2.2.2.1, (f2 b hb).2.1, (f2 b hb).2.2.2.2.1, (f2 b hb).2.2.2.2.2⟩)) free' qd
  show s2.heap.objs.size < (s2.heap.push { cls := .type "list", dict := none, data := .seq ([] : List Value).toArray }).objs.size
  rw [Heap.size_push]
  exact Nat.lt_succ_self _

/-- a block's frame is let go: the state around is as it was -/
theorem Inv.letGo {H : Hp} {s : Shared} {C : Addr} {h' : Heap} (I : Inv X pins σ H s) (sb : Heap.SameBut C s.heap h') (hn : H C = none) (h0 : X.s₀.heap.objs.size ≤ C) (h1 : C ≠ X.env.locals) (h2 : ∀ x c, X.env.cells.lookup x = some c → c ≠ C) (h3 : ∀ p ∈ X.pn ++ pins, p.1 ≠ C) :
    Inv X pins σ H { s with heap := h' } := by
  refine I.call' (s' := { s with heap := h' }) (ch := [C]) rfl ⟨fun b o e _ _ hb => ?_, fun b o e _ _ hb => ⟨o.slots, ?_⟩, fun _ _ _ n _ => n, fun b o e hb => ⟨o, ?_⟩, fun _ _ q => q, fun _ _ _ q => q, fun _ ps q => ⟨#[], by rw [q]; simp⟩⟩ (hok_but I.hok sb hn) I.bare (fun b hb => ?_)
  · exact (sb.2 b (by simpa using hb)).trans e
  · exact (sb.2 b (by simpa using hb)).trans e
  · exact (sb.2 b (by simpa using hb)).trans e
  · have : b = C := by simpa using hb
    subst this
    exact ⟨.inr h0, h1, h2, h3⟩
theorem Inv.goes {H2 H : Hp} {s2 s : Shared} {σ' : St} {C : Addr} {h' : Heap} (I2 : Inv X pins σ' H2 s2) (hC : s2.heap.objs.size < C) (I : Inv X pins σ H s) (sb : Heap.SameBut C s.heap h') (hn : H C = none) : Inv X pins σ H { s with heap := h' } := by
  refine I.letGo sb hn (Nat.le_of_lt (Nat.lt_of_le_of_lt I2.sz hC)) (Nat.ne_of_gt (Nat.lt_trans I2.lt hC)) (fun x c e z => ?_) (fun p hp z => ?_)
  · obtain ⟨v, q⟩ := I2.cell x c e
    exact absurd (Nat.lt_trans q.lt hC) (by rw [z]; exact Nat.lt_irrefl _)
  · exact absurd (Nat.lt_trans (Heap.lt_size (I2.pin p hp).1) hC) (by rw [z]; exact Nat.lt_irrefl _)

theorem CompScopeF.clos {own cap : List Str} {js : List Nat} {sc : Scope} (S : CompScopeF X own cap js sc) (ok : X.Ok) : closureFor sc X.env = pure (takenFrom X.env sc.names []) :=
  closureFor_taken fun y hy e => ok.has _ (.inl (S.outer _ (S.frees y hy e)))

theorem pe_compF {elt tg iter : Expr} {ifs : List Expr} {sc : Scope} {pos : Pos} (own cap : List Str) (js : List Nat) {wi : TI} {g : TG} {tt : TT} {te : TE} (S : CompScopeF X own cap js sc) (hc : X.calm = true) (hi : PI X tg iter wi)
    (hg : ∀ s₀ H₀ C ex, PG (cxCompF X (own ++ cap) sc s₀ H₀ C ex) tg g) (ht : ∀ s₀ H₀ C ex, PTs (cxCompF X (own ++ cap) sc s₀ H₀ C ex) ifs tt) (he : ∀ s₀ H₀ C ex, PE (cxCompF X (own ++ cap) sc s₀ H₀ C ex) elt te)
    (hs : ∀ x, foldedSetIterable iter X.env x = pure x := by intro _; rfl) : PE X (.ListComp elt [⟨tg, iter, ifs, 0⟩] sc pos) (tCompF wi own.length js g tt te) := by
  intro pins s σ H Q I h
  rw [eval_ListComp]
  refine wpAny_comprehension_free (use := none) rfl hs (S.clos I.ok) S.kind S.names (thn (hi pins s σ H _ I h) fun v s1 h1 => thn h1 fun itv s2 h2 => ?_)
  obtain ⟨it, fp, tn, J, H2, e, I2, T, st2, f2, q2⟩ := h2
  subst e
  refine comp_runF (Q := Q) S hc I2 T st2 f2 hg ht he q2 fun D C H' s' m' hC hn' I' free' qd => ?_
  exact ⟨m', hn', fun h' sb => ⟨.ref D, H', I2.goes hC I' sb free', rfl, qd⟩⟩

/-- x = [.. for ..], x a plain local name: stored ahead of letting the block's names go -/
theorem ps_setComp {i : Nat} {x : Str} {elt tg iter : Expr} {ifs : List Expr} {sc : Scope} {pos px ps : Pos} (own cap : List Str) (js : List Nat) {wi : TI} {g : TG} {tt : TT} {te : TE} (hN : X.N.Nodup) (hx : X.N[i]? = some x) (hl : X.env.scope.names.lookup x = some .local) (S : CompScopeF X own cap js sc) (hc : X.calm = true)
    (hi : PI X tg iter wi) (hg : ∀ s₀ H₀ C ex, PG (cxCompF X (own ++ cap) sc s₀ H₀ C ex) tg g) (ht : ∀ s₀ H₀ C ex, PTs (cxCompF X (own ++ cap) sc s₀ H₀ C ex) ifs tt) (he : ∀ s₀ H₀ C ex, PE (cxCompF X (own ++ cap) sc s₀ H₀ C ex) elt te)
    (hsw : swapsWith (.ListComp elt [⟨tg, iter, ifs, 0⟩] sc pos) (some (.Name x px)) ps.line X.env = pure true := by rfl)
    (hs : ∀ x, foldedSetIterable iter X.env x = pure x := by intro _; rfl) : PS X (.Assign [.Name x px] (.ListComp elt [⟨tg, iter, ifs, 0⟩] sc pos) ps) (tAsg (tCompF wi own.length js g tt te) (gName i)) := by
  intro pins s σ H D I h
  rw [exec_Assign_Name_used _ _ _ _ hsw]
  refine wpAny_bind (wpAny_standAt (wpAny_bind ?_))
  show wpAny _ X.A (do let _ ← comprehension (.ListComp elt [⟨tg, iter, ifs, 0⟩] sc pos) sc X.env _ (newList []) false (eval iter X.env) (some (assign (.Name x px) X.env))) _ _ s
  refine wpAny_bind (wpAny_mono (wpAny_comprehension_free (use := some (assign (.Name x px) X.env)) (Q := fun _ s' => ∃ σ' H', Inv X pins σ' H' s' ∧ D.nx σ' H') rfl hs (S.clos I.ok) S.kind S.names
    (thn (hi pins s σ H _ I h) fun v s1 h1 => thn h1 fun itv s2 h2 => ?_)) (fun _ s' hq => wpAny_pure (wpAny_pure hq)) fun _ _ e => e)
  obtain ⟨it, fp, tn, J, H2, e, I2, T, st2, f2, q2⟩ := h2
  subst e
  refine comp_runF (Q := fun v H1 => gName i v σ H1 D.nx) S hc I2 T st2 f2 hg ht he q2 fun D' C H' s' m' hC hn' I' free' qd => ?_
  show wpAny _ X.A (assign (.Name x px) X.env (.ref D')) _ _ s'
  refine wpAny_assign_Name (store_ok2 (v := .ref D') I' hN hx (.inl hl) rfl (fun s'' I'' ⟨a, sb, ha⟩ => ?_) (.inr hl))
  have ne : C ≠ a := by
    rcases ha with z | z
    · rw [z]; exact Nat.ne_of_gt (Nat.lt_trans I2.lt hC)
    · obtain ⟨v, q⟩ := I2.cell x a z
      exact Nat.ne_of_gt (Nat.lt_trans q.lt hC)
  exact ⟨m', hn'.sameBut sb ne, fun h' sb' => ⟨_, H', I2.goes hC I'' sb' free', qd⟩⟩
end
end L2

set_option Elab.async false
set_option linter.all false
set_option maxRecDepth 100000
set_option maxHeartbeats 4000000

namespace L2
open PySem PySem.Spec PyProof.Rows
section
variable {X : Cx} {e k : Expr} {te tk : TE} {pos p2 : Pos}
end

section
variable {X : Cx} {a b c d : Expr} {ta tb tc td : TE} {pos : Pos}
end
end L2

set_option Elab.async false
set_option linter.all false
set_option maxRecDepth 100000
set_option maxHeartbeats 4000000

namespace L2
open PySem PySem.Spec PyProof.Rows
/-! ### what is new stands in some heap over the one ahead -/
abbrev New (H : Hp) (o : HO) (Q : V → Hp → Prop) : Prop := ∀ p H', H p = none → Same H H' → H' p = some o → Q (.ref p) H'
theorem New.at {H : Hp} {o : HO} {Q : V → Hp → Prop} (h : New H o Q) : ∀ p, H p = none → Q (.ref p) (upd H p o) := fun p hp => h p _ hp (same_upd hp) upd_same
theorem OpR.weak {X : Cx} {f : Value → Value → Sem Value} {r r' : R2} (h : OpR X f r) (w : ∀ x y H Q, r' x y H Q → r x y H Q) : OpR X f r' := fun pins s σ H x y v u Q I rx ry q => h pins s σ H x y v u Q I rx ry (w _ _ _ _ q)
theorem CallR.weak {X : Cx} {f : Value} {r r' : List V → Hp → VK → Prop} (h : CallR X f r) (w : ∀ xs H Q, r' xs H Q → r xs H Q) : CallR X f r' := fun pins s σ H xs us Q I rx q => h pins s σ H xs us Q I rx (w _ _ _ q)
theorem SlR.weak {X : Cx} {r r' : V → Option Int → Option Int → Hp → VK → Prop} (h : SlR X r) (w : ∀ x l u H Q, r' x l u H Q → r x l u H Q) : SlR X r' := fun pins s σ H x v vl vu lo hi sl Q I rx hs pl pu q => h pins s σ H x v vl vu lo hi sl Q I rx hs pl pu (w _ _ _ _ _ q)
section
variable {X : Cx} {e k : Expr} {es : List Expr} {te tk : TE} {t : TA} {pos p2 : Pos}
def rCatN : R2 := fun x y H Q => ∃ l b xs zs, x = .ref l ∧ y = .ref b ∧ H l = some (.lst xs) ∧ H b = some (.lst zs) ∧ xs.length + zs.length ≤ sizeLine ∧ New H (.lst (xs ++ zs)) Q
theorem op_catN : OpR X (binaryOp .Add) rCatN := op_cat.weak fun x y H Q ⟨l, b, xs, zs, a1, a2, a3, a4, a5, a6⟩ => ⟨l, b, xs, zs, a1, a2, a3, a4, a5, a6.at⟩
def rSlN (K : PySem.W.Frag) : V → Option Int → Option Int → Hp → VK → Prop := fun x lo hi H Q => ∃ a xs, x = .ref a ∧ SqL K H a xs ∧ New H (.lst (cutV xs lo hi)) Q
theorem sl_listN : SlR X (rSlN X.K) := sl_list.weak fun x l u H Q ⟨a, xs, a1, a2, a3⟩ => ⟨a, xs, a1, a2, a3.at⟩
theorem call_listN : CallR X (.type "list") (fun xs H Q => ∃ p ys, xs = [.ref p] ∧ (SqL X.K H p ys ∨ SqT X.K H p ys) ∧ New H (.lst ys) Q) := call_list_of.weak fun xs H Q ⟨p, ys, a1, a2, a3⟩ => ⟨p, ys, a1, a2, a3.at⟩
def tTupN (t : TA) : TE := fun σ H Q => t σ H fun xs H1 => xs.length ≤ sizeLine ∧ New H1 (.tup xs) Q
def tLstN (t : TA) : TE := fun σ H Q => t σ H fun xs H1 => xs.length ≤ sizeLine ∧ New H1 (.lst xs) Q
theorem PA.thn {t : TA} (h : PA X es t) {A : Hp → Prop} {F : VK → List V → Hp → Prop} {G : VK → List V → Hp → Prop} (w : ∀ Q xs H, F Q xs H → G Q xs H) : PA X es (fun σ H R => ∃ Q : VK, t σ H (F Q) ∧ R = G Q) := by
  intro pos pins s σ H R I ⟨Q, q, e⟩
  subst e
  exact L2.thn (h pos pins s σ H _ I q) fun us s1 ⟨vs, H1, I1, r1, q1⟩ => ⟨vs, H1, I1, r1, w _ _ _ q1⟩
theorem pe_tupN {x1} (h : PA X es t) : PE X (.Tuple es x1 pos) (tTupN t) := by
  intro pins s σ H Q I q
  exact pe_tup (PA.thn (A := fun _ => True) (F := fun Q xs H1 => xs.length ≤ sizeLine ∧ New H1 (.tup xs) Q) (G := fun Q xs H1 => xs.length ≤ sizeLine ∧ ∀ p, H1 p = none → Q (.ref p) (upd H1 p (.tup xs))) h (fun Q xs H ⟨a, b⟩ => ⟨a, b.at⟩)) pins s σ H Q I ⟨Q, q, rfl⟩
theorem pe_lstN (h : PA X es t) : PE X (.List es pos) (tLstN t) := by
  intro pins s σ H Q I q
  exact pe_lst (PA.thn (A := fun _ => True) (F := fun Q xs H1 => xs.length ≤ sizeLine ∧ New H1 (.lst xs) Q) (G := fun Q xs H1 => xs.length ≤ sizeLine ∧ ∀ p, H1 p = none → Q (.ref p) (upd H1 p (.lst xs))) h (fun Q xs H ⟨a, b⟩ => ⟨a, b.at⟩)) pins s σ H Q I ⟨Q, q, rfl⟩
theorem PE.thn {t : TE} {F G : VK → VK} (h : PE X e t) (w : ∀ Q v H, F Q v H → G Q v H) : PE X e (fun σ H R => ∃ Q : VK, t σ H (F Q) ∧ R = G Q) := by
  intro pins s σ H R I ⟨Q, q, e⟩
  subst e
  exact L2.thn (h pins s σ H _ I q) fun u s1 ⟨v, H1, I1, r1, q1⟩ => ⟨v, H1, I1, r1, w _ _ _ q1⟩
end

/-! ### comprehensions: the shapes one uses -/
section
variable {g : TG} {tt : TT} {te : TE} {H1 : Hp} {Q : Addr → Hp → Prop}
/-- S: what is known of the names; P: of what was made so far -/
theorem comp_rangeG {lo : Int} {n : Nat} {σ0 : St} (S : St → Prop) (P : Nat → List V → Hp → Prop) (s0 : S σ0) (st : ∀ D, H1 D = none → P 0 [] (upd H1 D (.lst [])))
    (turn : ∀ D i ys σ H (k : St → V → Hp → Prop) (k' : St → Hp → Prop), H1 D = none → i < n → S σ → H D = some (.lst ys) → Same H1 H → P i ys H →
      (∀ σ3 y H5, S σ3 → Same H H5 → ys.length < sizeLine → P (i + 1) (ys ++ [y]) (upd H5 D (.lst (ys ++ [y]))) → k σ3 y H5) → (∀ σ3 H4, S σ3 → Same H H4 → P (i + 1) ys H4 → k' σ3 H4) →
      g (.int (lo + i)) σ H fun σ3 H3 => tt σ3 H3 fun ok H4 => if ok = true then te σ3 H4 (k σ3) else k' σ3 H4)
    (done : ∀ D ys H, H1 D = none → H D = some (.lst ys) → Same H1 H → P n ys H → Q D H) :
    ∀ D, H1 D = none → ∃ W : Nat → Nat → St → Hp → Prop, (∃ m, W 0 m σ0 (upd H1 D (.lst []))) ∧ CompAsk (Itr lo n) g tt te D (fun H' => Q D H') W := by
  intro D hD
  refine ⟨fun i m σ H => m = n - i ∧ i ≤ n ∧ S σ ∧ ∃ ys, H D = some (.lst ys) ∧ Same H1 H ∧ P i ys H, ⟨n, by simp, Nat.zero_le _, s0, [], upd_same, same_upd hD, st D hD⟩, ?_⟩
  rintro i m σ H ⟨rfl, hi, hS, ys, hd, hs, hp⟩
  by_cases hlt : i < n
  · refine .inr ⟨hlt, fun x H2 hy => ?_⟩
    obtain ⟨e1, e2⟩ := hy
    subst e1 e2
    exact turn D i ys σ _ (fun σ3 y H5 => ∃ ys, H5 D = some (.lst ys) ∧ ys.length < sizeLine ∧ ∃ m', m' < n - i ∧ (m' = n - (i + 1) ∧ i + 1 ≤ n ∧ S σ3 ∧ ∃ zs, upd H5 D (.lst (ys ++ [y])) D = some (.lst zs) ∧ Same H1 (upd H5 D (.lst (ys ++ [y]))) ∧ P (i + 1) zs (upd H5 D (.lst (ys ++ [y])))))
      (fun σ3 H4 => ∃ m', m' < n - i ∧ (m' = n - (i + 1) ∧ i + 1 ≤ n ∧ S σ3 ∧ ∃ zs, H4 D = some (.lst zs) ∧ Same H1 H4 ∧ P (i + 1) zs H4)) hD hlt hS hd hs hp
      (fun σ3 y H5 a1 a2 a3 a4 => ⟨ys, a2 _ _ hd, a3, n - (i + 1), by omega, rfl, hlt, a1, ys ++ [y], upd_same, same_upd' (hs.trans a2) hD, a4⟩)
      (fun σ3 H4 a1 a2 a3 => ⟨n - (i + 1), by omega, rfl, hlt, a1, ys, a2 _ _ hd, hs.trans a2, a3⟩)
  · have e : i = n := by omega
    subst e
    exact .inl ⟨Nat.le_refl _, done D ys H hD hd hs hp⟩
theorem comp_listG {K : PySem.W.Frag} {a : Addr} {xs : List V} {σ0 : St} (hx : SqL K H1 a xs) (S : St → Prop) (P : Nat → List V → Hp → Prop) (s0 : S σ0) (st : ∀ D, H1 D = none → P 0 [] (upd H1 D (.lst [])))
    (turn : ∀ D i x ys σ H (k : St → V → Hp → Prop) (k' : St → Hp → Prop), H1 D = none → xs[i]? = some x → S σ → H D = some (.lst ys) → Same H1 H → P i ys H →
      (∀ σ3 y H5, S σ3 → Same H H5 → ys.length < sizeLine → P (i + 1) (ys ++ [y]) (upd H5 D (.lst (ys ++ [y]))) → k σ3 y H5) → (∀ σ3 H4, S σ3 → Same H H4 → P (i + 1) ys H4 → k' σ3 H4) →
      g x σ H fun σ3 H3 => tt σ3 H3 fun ok H4 => if ok = true then te σ3 H4 (k σ3) else k' σ3 H4)
    (done : ∀ D ys H, H1 D = none → H D = some (.lst ys) → Same H1 H → P xs.length ys H → Q D H) :
    ∀ D, H1 D = none → ∃ W : Nat → Nat → St → Hp → Prop, (∃ m, W 0 m σ0 (upd H1 D (.lst []))) ∧ CompAsk (Itl K a) g tt te D (fun H' => Q D H') W := by
  intro D hD
  refine ⟨fun i m σ H => m = xs.length - i ∧ i ≤ xs.length ∧ S σ ∧ ∃ ys, H D = some (.lst ys) ∧ Same H1 H ∧ P i ys H, ⟨xs.length, by simp, Nat.zero_le _, s0, [], upd_same, same_upd hD, st D hD⟩, ?_⟩
  rintro i m σ H ⟨rfl, hi, hS, ys, hd, hs, hp⟩
  have q : SqL K H a xs := Same.seq hs hx
  by_cases hlt : i < xs.length
  · refine .inr ⟨⟨xs, xs[i], q, by simp [hlt]⟩, fun x H2 hy => ?_⟩
    obtain ⟨e1, e2⟩ := hy
    subst e1
    exact turn D i x ys σ _ (fun σ3 y H5 => ∃ ys, H5 D = some (.lst ys) ∧ ys.length < sizeLine ∧ ∃ m', m' < xs.length - i ∧ (m' = xs.length - (i + 1) ∧ i + 1 ≤ xs.length ∧ S σ3 ∧ ∃ zs, upd H5 D (.lst (ys ++ [y])) D = some (.lst zs) ∧ Same H1 (upd H5 D (.lst (ys ++ [y]))) ∧ P (i + 1) zs (upd H5 D (.lst (ys ++ [y])))))
      (fun σ3 H4 => ∃ m', m' < xs.length - i ∧ (m' = xs.length - (i + 1) ∧ i + 1 ≤ xs.length ∧ S σ3 ∧ ∃ zs, H4 D = some (.lst zs) ∧ Same H1 H4 ∧ P (i + 1) zs H4)) hD (e2 xs q) hS hd hs hp
      (fun σ3 y H5 a1 a2 a3 a4 => ⟨ys, a2 _ _ hd, a3, xs.length - (i + 1), by omega, rfl, hlt, a1, ys ++ [y], upd_same, same_upd' (hs.trans a2) hD, a4⟩)
      (fun σ3 H4 a1 a2 a3 => ⟨xs.length - (i + 1), by omega, rfl, hlt, a1, ys, a2 _ _ hd, hs.trans a2, a3⟩)
  · have e : i = xs.length := by omega
    subst e
    exact .inl ⟨⟨xs, q, Nat.le_refl _⟩, done D ys H hD hd hs hp⟩
theorem comp_range0 {lo : Int} {n : Nat} {σ0 : St} (S : St → Prop) (P : Nat → List V → Hp → Prop) (s0 : S σ0) (st : ∀ D, H1 D = none → P 0 [] (upd H1 D (.lst [])))
    (turn : ∀ D i ys σ H (k : St → V → Hp → Prop), H1 D = none → i < n → S σ → H D = some (.lst ys) → Same H1 H → P i ys H →
      (∀ σ3 y H5, S σ3 → Same H H5 → ys.length < sizeLine → P (i + 1) (ys ++ [y]) (upd H5 D (.lst (ys ++ [y]))) → k σ3 y H5) → g (.int (lo + i)) σ H fun σ3 H3 => te σ3 H3 (k σ3))
    (done : ∀ D ys H, H1 D = none → H D = some (.lst ys) → Same H1 H → P n ys H → Q D H) :
    ∀ D, H1 D = none → ∃ W : Nat → Nat → St → Hp → Prop, (∃ m, W 0 m σ0 (upd H1 D (.lst []))) ∧ CompAsk (Itr lo n) g tTrue te D (fun H' => Q D H') W :=
  comp_rangeG S P s0 st (fun D i ys σ H k k' a1 a2 a3 a4 a5 a6 a7 _ => turn D i ys σ H k a1 a2 a3 a4 a5 a6 a7) done
theorem comp_list0 {K : PySem.W.Frag} {a : Addr} {xs : List V} {σ0 : St} (hx : SqL K H1 a xs) (S : St → Prop) (P : Nat → List V → Hp → Prop) (s0 : S σ0) (st : ∀ D, H1 D = none → P 0 [] (upd H1 D (.lst [])))
    (turn : ∀ D i x ys σ H (k : St → V → Hp → Prop), H1 D = none → xs[i]? = some x → S σ → H D = some (.lst ys) → Same H1 H → P i ys H →
      (∀ σ3 y H5, S σ3 → Same H H5 → ys.length < sizeLine → P (i + 1) (ys ++ [y]) (upd H5 D (.lst (ys ++ [y]))) → k σ3 y H5) → g x σ H fun σ3 H3 => te σ3 H3 (k σ3))
    (done : ∀ D ys H, H1 D = none → H D = some (.lst ys) → Same H1 H → P xs.length ys H → Q D H) :
    ∀ D, H1 D = none → ∃ W : Nat → Nat → St → Hp → Prop, (∃ m, W 0 m σ0 (upd H1 D (.lst []))) ∧ CompAsk (Itl K a) g tTrue te D (fun H' => Q D H') W :=
  comp_listG hx S P s0 st (fun D i x ys σ H k k' a1 a2 a3 a4 a5 a6 a7 _ => turn D i x ys σ H k a1 a2 a3 a4 a5 a6 a7) done
end
end L2

set_option Elab.async false
set_option linter.all false
set_option maxRecDepth 100000
set_option maxHeartbeats 4000000
namespace Lcp
open PySem
/-- how many lines at the begin of both are alike -/
def lcp : List Str → List Str → Nat
  | x :: xs, y :: ys => if x = y then lcp xs ys + 1 else 0
  | _, _ => 0
theorem lcp_le : ∀ (xs ys : List Str), lcp xs ys ≤ xs.length ∧ lcp xs ys ≤ ys.length
  | [], _ => by simp [lcp]
  | _ :: _, [] => by simp [lcp]
  | x :: xs, y :: ys => by
    unfold lcp
    have := lcp_le xs ys
    split <;> simp only [List.length_cons] <;> omega
theorem lcp_take : ∀ (xs ys : List Str), xs.take (lcp xs ys) = ys.take (lcp xs ys)
  | [], _ => by simp [lcp]
  | _ :: _, [] => by simp [lcp]
  | x :: xs, y :: ys => by
    unfold lcp
    split
    · rename_i h
      rw [List.take_succ_cons, List.take_succ_cons, h, lcp_take xs ys]
    · simp
/-- the block's start; how many are alike at the end of what is left -/
def fst (xs ys : List Str) : Nat := lcp xs ys
def bck (xs ys : List Str) : Nat := lcp (xs.drop (fst xs ys)).reverse (ys.drop (fst xs ys)).reverse
def stp (xs ys : List Str) : Nat := xs.length - bck xs ys
def mid (xs ys : List Str) : List Str := (ys.drop (fst xs ys)).take (ys.length - bck xs ys - fst xs ys)
theorem fb_le (xs ys : List Str) : fst xs ys + bck xs ys ≤ xs.length ∧ fst xs ys + bck xs ys ≤ ys.length := by
  have h1 := lcp_le xs ys
  have h2 := lcp_le (xs.drop (fst xs ys)).reverse (ys.drop (fst xs ys)).reverse
  rw [List.length_reverse, List.length_drop, List.length_reverse, List.length_drop] at h2
  unfold bck
  unfold fst at *
  omega
theorem fst_take (xs ys : List Str) : xs.take (fst xs ys) = ys.take (fst xs ys) := lcp_take xs ys
theorem bck_drop (xs ys : List Str) : xs.drop (stp xs ys) = ys.drop (ys.length - bck xs ys) := by
  have h := lcp_take (xs.drop (fst xs ys)).reverse (ys.drop (fst xs ys)).reverse
  obtain ⟨l1, l2⟩ := fb_le xs ys
  have h' : (xs.drop (fst xs ys)).reverse.take (bck xs ys) = (ys.drop (fst xs ys)).reverse.take (bck xs ys) := h
  rw [List.take_reverse, List.take_reverse] at h'
  have h2 := List.reverse_inj.mp h'
  rw [List.drop_drop, List.drop_drop, List.length_drop, List.length_drop] at h2
  unfold stp
  have e1 : fst xs ys + (xs.length - fst xs ys - bck xs ys) = xs.length - bck xs ys := by omega
  have e2 : fst xs ys + (ys.length - fst xs ys - bck xs ys) = ys.length - bck xs ys := by omega
  rw [e1, e2] at h2
  exact h2
theorem whole (xs ys : List Str) : xs.take (fst xs ys) ++ mid xs ys ++ xs.drop (stp xs ys) = ys := by
  obtain ⟨l1, l2⟩ := fb_le xs ys
  rw [fst_take, bck_drop]
  unfold mid
  have e : ys.drop (ys.length - bck xs ys) = (ys.drop (fst xs ys)).drop (ys.length - bck xs ys - fst xs ys) := by
    rw [List.drop_drop]
    congr 1
    omega
  rw [e, List.append_assoc, List.take_append_drop, List.take_append_drop]
end Lcp

set_option Elab.async false
set_option linter.all false
set_option maxRecDepth 100000
set_option maxHeartbeats 4000000
namespace L2
open PySem PySem.Spec PyProof.Rows
/-! ### lines: texts that are short enough and good; lists of them -/
structure Ln (x : Str) : Prop where
  ok : TxtOk x
  len : x.length ≤ 60
structure Lns (xs : List Str) : Prop where
  len : xs.length ≤ 20
  all : ∀ x ∈ xs, Ln x
/-- xs[lo:hi] -/
def cutS (xs : List Str) (lo hi : Option Int) : List Str := (xs.drop (HT.sIx xs.length 0 lo)).take (HT.sIx xs.length xs.length hi - HT.sIx xs.length 0 lo)
theorem cutV_strs (xs : List Str) (lo hi : Option Int) : cutV (xs.map V.str) lo hi = (cutS xs lo hi).map V.str := by
  unfold cutV cutS
  rw [List.length_map, List.map_take, List.map_drop]
theorem cutS_take {xs : List Str} {k : Int} (h : 0 ≤ k) : cutS xs none (some k) = xs.take k.toNat := by
  obtain ⟨n, rfl⟩ : ∃ n : Nat, k = n := ⟨k.toNat, by omega⟩
  unfold cutS
  rw [HT.sIx_none, HT.sIx_nat, List.drop_zero, Nat.sub_zero]
  exact List.take_eq_take_iff.mpr (by simp)
theorem cutS_drop {xs : List Str} {k : Int} (h : 0 ≤ k) : cutS xs (some k) none = xs.drop k.toNat := by
  obtain ⟨n, rfl⟩ : ∃ n : Nat, k = n := ⟨k.toNat, by omega⟩
  unfold cutS
  rw [HT.sIx_none, HT.sIx_nat, Int.toNat_natCast]
  rw [List.take_of_length_le (by rw [List.length_drop]; omega)]
  by_cases q : n ≤ xs.length
  · rw [Nat.min_eq_left q]
  · rw [Nat.min_eq_right (by omega), List.drop_eq_nil_iff.mpr (Nat.le_refl _), List.drop_eq_nil_iff.mpr (by omega)]
theorem atI_strs {xs : List Str} {r : Int} (h0 : 0 ≤ r) (h1 : r < xs.length) : ∃ z, atI (xs.map V.str) r = some (V.str z) ∧ xs[r.toNat]? = some z := by
  obtain ⟨v, e, e2⟩ := atI_in (xs := xs.map V.str) h0 (by rw [List.length_map]; exact h1)
  rw [List.getElem?_map] at e2
  cases q : xs[r.toNat]? with
  | none => rw [q] at e2; cases e2
  | some z =>
    rw [q] at e2
    cases e2
    exact ⟨z, e, rfl⟩
theorem strs_snoc (xs : List Str) (y : Str) : xs.map V.str ++ [V.str y] = (xs ++ [y]).map V.str := by rw [List.map_append]; rfl
theorem smallL {n : Nat} (h : n ≤ 1000) : n ≤ sizeLine := Nat.le_of_lt (small1000 h)
end L2
namespace L2
open PySem PySem.Spec PyProof.Rows
end L2

set_option Elab.async false
set_option linter.all false
set_option maxRecDepth 100000
set_option maxHeartbeats 4000000
namespace Lcp
open PySem L2
/-- two changes in their places, x's ahead -/
def both (b x y : List Str) : List Str := (((b.take (fst b x) ++ mid b x) ++ (b.drop (stp b x)).take (fst b y - stp b x)) ++ mid b y) ++ b.drop (stp b y)
def apI (a1 b1 a2 b2 : Int) : Bool := if (a1 = b1 ∧ a2 = b2) ∧ a1 = a2 then false else (decide (b1 ≤ a2) || decide (b2 ≤ a1))
def apart (b o n : List Str) : Bool := apI (fst b o) (stp b o) (fst b n) (stp b n)
end Lcp
namespace L2
open PySem PySem.Spec PyProof.Rows Lcp
/-- what lies beside -/
def BesAt (H : Hp) (r : V) : Option (List Str) → Prop
  | none => r = .non
  | some z => ∃ l2, r = .ref l2 ∧ H l2 = some (.lst (z.map V.str))
structure PutAt (H : Hp) (t l : Addr) (r : V) (m : List Str × Option (List Str)) : Prop where
  tup : H t = some (.tup [.ref l, r])
  lst : H l = some (.lst (m.1.map V.str))
  bes : BesAt H r m.2
theorem besAt_same {H H' : Hp} {r : V} {o : Option (List Str)} (s : Same H H') (h : BesAt H r o) : BesAt H' r o := by
  cases o with
  | none => exact h
  | some z => obtain ⟨l2, e, h⟩ := h; exact ⟨l2, e, s _ _ h⟩
theorem PutAt.same {H H' : Hp} {t l : Addr} {r : V} {m : List Str × Option (List Str)} (s : Same H H') (h : PutAt H t l r m) : PutAt H' t l r m := ⟨s _ _ h.tup, s _ _ h.lst, besAt_same s h.bes⟩
theorem keep_upd {H : Hp} {p b : Addr} {o ob : HO} (h : H b = some ob) (ne : b ≠ p) : upd H p o b = some ob := by rw [upd_ne ne]; exact h
end L2

set_option Elab.async false
set_option linter.all false
set_option maxRecDepth 100000
set_option maxHeartbeats 4000000
namespace L2
open PySem PySem.Spec PyProof.Rows
/-! ### str.join -/
section
variable {X : Cx}
theorem strsAre_of {ys : List Str} : ∀ {us : List Value}, Vals (ys.map V.str) us → StrsAre us ys := by
  induction ys with
  | nil => intro us r; rw [List.map_nil] at r; cases r; exact .nil
  | cons n ns ih =>
    intro us r
    rw [List.map_cons] at r
    cases r with
    | cons r1 r2 =>
      obtain ⟨t, e⟩ := r1
      subst e
      exact .cons n t (ih r2)
def rJoin (K : PySem.W.Frag) : V → List V → Hp → VK → Prop := fun x vs H Q => ∃ sep p ys, x = .str sep ∧ vs = [.ref p] ∧ SqL K H p (ys.map V.str) ∧ (ys.map (·.length)).sum + ys.length * sep.length ≤ 16777216 ∧ Q (.str (Txt.join sep ys)) H
theorem mt_join : MtM X "str.join" (rJoin X.K) := by
  intro pins s σ H x xs v us Q I rx rs h
  obtain ⟨sep, p, ys, rfl, rfl, hp, hz, q⟩ := h
  obtain ⟨t, rfl⟩ := rx
  cases rs with
  | cons r1 r2 =>
    cases r1
    cases r2
    obtain ⟨its, r, ht, _⟩ := I.list hp
    exact join_list ht.isList (by simpa using strsAre_of r) hz fun t' k => ⟨.str _, H, I.tok k, ⟨_, rfl⟩, q⟩
end
/-! ### the same rules with the fragment named: for what stands within a comprehension -/
section
variable {X : Cx} {K : PySem.W.Frag}
theorem ix_listK (K : PySem.W.Frag) (h : X.K = K := by rfl) : IxR X (rIxL K) := h ▸ ix_list
theorem ix_tupK (K : PySem.W.Frag) (h : X.K = K := by rfl) : IxR X (rIxT K) := h ▸ ix_tup
theorem op_notInK (K : PySem.W.Frag) (h : X.K = K := by rfl) : OpR X (compareOp .NotIn) (rIn K true) := h ▸ op_notIn_seq
def rLenK (K : PySem.W.Frag) : List V → Hp → VK → Prop := fun xs H Q => ∃ p ys, xs = [.ref p] ∧ (SqL K H p ys ∨ SqT K H p ys) ∧ Q (.int ys.length) H
theorem call_lenK (K : PySem.W.Frag) (h : X.K = K := by rfl) : CallR X (.builtin "len") (rLenK K) := by subst h; exact call_len_seq
end
theorem sum_le {ys : List Str} {b : Nat} (h : ∀ y ∈ ys, y.length ≤ b) : (ys.map (·.length)).sum ≤ ys.length * b := by
  induction ys with
  | nil => simp
  | cons y ys ih =>
    have h1 := h y List.mem_cons_self
    have h2 := ih fun z hz => h z (List.mem_cons_of_mem _ hz)
    simp only [List.map_cons, List.sum_cons, List.length_cons, Nat.succ_mul]
    omega
theorem join_len {ys : List Str} {sep : Str} : (Txt.join sep ys).length ≤ (ys.map (·.length)).sum + ys.length * sep.length := by
  have e : Txt.join sep ys = Str.join sep ys := StrLaws.glued_eq_join sep ys
  rw [e]
  cases ys with
  | nil => exact Nat.zero_le _
  | cons a l =>
    rw [len_join_cons]
    simp only [List.length_cons, Nat.succ_mul]
    omega
end L2
namespace Lcp
open PySem L2
/-- it stands there, one behind the other -/
def In (s l : List Str) : Prop := ∃ p q, l = p ++ s ++ q
end Lcp

set_option Elab.async false
set_option linter.all false
set_option maxRecDepth 100000
set_option maxHeartbeats 4000000

namespace L2
open PySem PySem.Spec PyProof.Rows
section
variable {X : Cx} {pins : List (Addr × Obj)} {σ : St} {H : Hp} {s : Shared}

/-! ### a tracked dict, kept as it is for a while: frozen, and let go -/
theorem Inv.rehp {H' : Hp} (I : Inv X pins σ H s) (h0 : ∀ b, H b = none → H' b = none) (ht : ∀ b xs, H b = some (.tup xs) → H' b = some (.tup xs)) (hf : ∀ b o u, X.H₀ b = some (.frz o u) → H' b = some (.frz o u))
    (hb : ∀ b ps, H b = some (.tbl ps) → H' b = some (.tbl ps)) (hok : HOk X.prog X.w H' s.heap) : Inv X pins σ H' s :=
  ⟨I.ok, I.os, I.bare, ⟨I.base.keep, I.base.slot, fun b o e n hx => h0 b (I.base.free b o e n hx), I.base.there, fun b xs e => ht b xs (I.base.tups b xs e), hf, fun b ps e => let ⟨m, q⟩ := I.base.tbls b ps e; ⟨m, hb _ _ q⟩⟩, I.loc, I.cell, h0 _ I.free,
    fun x c e => h0 _ (I.freeC x c e), fun p hp => ⟨(I.pin p hp).1, h0 _ (I.pin p hp).2.1, (I.pin p hp).2.2⟩, hok, I.len⟩
theorem Inv.freeze {d : Addr} {kvs : List (Key × V)} {o : Obj} (I : Inv X pins σ H s) (e : H d = some (.dK kvs)) (ho : s.heap.get? d = some o) : Inv X pins σ (upd H d (.frz o (.dK kvs))) s := by
  have ne : ∀ b u, H b = some u → (∀ ks, u ≠ .dK ks) → b ≠ d := fun b u q hu z => by rw [z, e] at q; cases q; exact hu _ rfl
  refine I.rehp (fun b q => ?_) (fun b xs q => ?_) (fun b o' u q => ?_) (fun b ps q => ?_) fun b u q => ?_
  · rw [upd_ne (fun z => by rw [z, e] at q; cases q)]; exact q
  · rw [upd_ne (ne b _ q (by intro ks z; cases z))]; exact q
  · have q := I.base.frzs b o' u q
    rw [upd_ne (ne b _ q (by intro ks z; cases z))]; exact q
  · rw [upd_ne (ne b _ q (by intro ks z; cases z))]; exact q
  · have up : ∀ {c : Addr} {w : HO}, H c = some w → (∀ ks, w ≠ .dK ks) → upd H d (.frz o (.dK kvs)) c = some w := fun {c w} hc hw => by rw [upd_ne (ne c _ hc hw)]; exact hc
    by_cases z : b = d
    · subst z
      rw [upd_same] at q
      cases q
      exact ⟨ho, (I.hok b _ e).stay (fun _ _ _ q => q) (fun c hc => up hc (by intro ks z; cases z)) fun c xs hc => up hc (by intro ks z; cases z)⟩
    · rw [upd_ne z] at q
      exact (I.hok b _ q).stay (fun _ _ _ q => q) (fun c hc => up hc (by intro ks z; cases z)) fun c xs hc => up hc (by intro ks z; cases z)
theorem Inv.thaw {d : Addr} {kvs : List (Key × V)} {o : Obj} (I : Inv X pins σ H s) (e : H d = some (.frz o (.dK kvs))) (hz : ∀ o' u, X.H₀ d ≠ some (.frz o' u)) : Inv X pins σ (upd H d (.dK kvs)) s := by
  have ne : ∀ b u, H b = some u → (∀ o' u', u ≠ .frz o' u') → b ≠ d := fun b u q hu z => by rw [z, e] at q; cases q; exact hu _ _ rfl
  have up : ∀ {c : Addr} {w : HO}, H c = some w → (∀ o' u', w ≠ .frz o' u') → upd H d (.dK kvs) c = some w := fun {c w} hc hw => by rw [upd_ne (ne c _ hc hw)]; exact hc
  refine I.rehp (fun b q => ?_) (fun b xs q => up q (by intro _ _ z; cases z)) (fun b o' u q => ?_) (fun b ps q => up q (by intro _ _ z; cases z)) fun b u q => ?_
  · rw [upd_ne (fun z => by rw [z, e] at q; cases q)]; exact q
  · have nb : b ≠ d := fun z => hz o' u (z ▸ q)
    rw [upd_ne nb]; exact I.base.frzs b o' u q
  · by_cases z : b = d
    · subst z
      rw [upd_same] at q
      cases q
      exact (show ObjOk X.prog X.w H s.heap b (.dK kvs) from (show ObjOk X.prog X.w H s.heap b (.frz o (.dK kvs)) from I.hok b _ e).2).stay (fun _ _ _ q => q) (fun c hc => up hc (by intro _ _ z; cases z)) fun c xs hc => up hc (by intro _ _ z; cases z)
    · rw [upd_ne z] at q
      exact (I.hok b _ q).stay (fun _ _ _ q => q) (fun c hc => up hc (by intro _ _ z; cases z)) fun c xs hc => up hc (by intro _ _ z; cases z)
/-- an untracked object, young enough, is tracked from now on -/
theorem Inv.track {a : Addr} {o : HO} (I : Inv X pins σ H s) (hn : H a = none) (h0 : X.s₀.heap.objs.size ≤ a) (h1 : a ≠ X.env.locals) (h2 : ∀ x c, X.env.cells.lookup x = some c → c ≠ a) (h3 : ∀ p ∈ X.pn ++ pins, p.1 ≠ a)
    (new : ObjOk X.prog X.w (upd H a o) s.heap a o) : Inv X pins σ (upd H a o) s := by
  have up : ∀ {c : Addr} {w : HO}, H c = some w → upd H a o c = some w := fun {c w} hc => by rw [upd_ne (ne_of_none hc hn)]; exact hc
  refine ⟨I.ok, I.os, I.bare, ⟨I.base.keep, I.base.slot, fun b ob e n hx => ?_, I.base.there, fun b xs e => up (I.base.tups b xs e), fun b o' u e => up (I.base.frzs b o' u e), fun b ps e => let ⟨m, q⟩ := I.base.tbls b ps e; ⟨m, up q⟩⟩, I.loc, I.cell, ?_, fun x c e => ?_,
    fun p hp => ⟨(I.pin p hp).1, ?_, (I.pin p hp).2.2⟩, fun b u q => ?_, I.len⟩
  · rw [upd_ne (Nat.ne_of_lt (Nat.lt_of_lt_of_le (Heap.lt_size e) h0))]
    exact I.base.free b ob e n hx
  · rw [upd_ne (Ne.symm h1)]; exact I.free
  · rw [upd_ne (h2 x c e)]; exact I.freeC x c e
  · rw [upd_ne (h3 p hp)]; exact (I.pin p hp).2.1
  · by_cases z : b = a
    · subst z
      rw [upd_same] at q
      cases q
      exact new
    · rw [upd_ne z] at q
      exact (I.hok b _ q).stay (fun _ _ _ q => q) (fun c hc => up hc) fun c xs hc => up hc
end

/-! ### dict(d), d.clear(), d.setdefault(k, v) -/
section
variable {X : Cx}
theorem call_dictN : CallR X (.type "dict") (fun xs H Q => ∃ a kvs, xs = [.ref a] ∧ H a = some (.dK kvs) ∧ New H (.dK kvs) Q) := by
  intro pins s σ H xs us Q I r h
  obtain ⟨a, kvs, rfl, e, q⟩ := h
  obtain ⟨u, rfl, ru⟩ := vals1 r
  cases ru
  exact d_copyOf I (.inl e) fun p s' hp I' => ⟨.ref p, _, I', rfl, q.at p hp⟩
end

/-! ### lists of texts, sorted; the keys of a dict, sorted or as they stand -/
theorem rel_key {k : Key} {v : Value} (h : keyIs k v = true) : RelV (kV k) v := by
  rcases keyIs_shape h with ⟨i, t, rfl, rfl⟩ | ⟨x, t, rfl, rfl⟩
  · exact ⟨t, rfl⟩
  · exact ⟨t, rfl⟩
theorem vals_strs : ∀ {us : List Value} {ys : List Str}, StrsAre us ys → Vals (ys.map V.str) us
  | _, _, .nil => .nil
  | _, _, .cons x t r => .cons ⟨t, rfl⟩ (vals_strs r)
section
variable {prog : Program} {w : World} {A : Around} {E : Value → Shared → Prop} {s : Shared}
/-- sorted of what collects to texts -/
theorem sorted_collects {r : Addr} {Q : Value → Shared → Prop} (hcol : wpAny (model prog w) A.in1 (collect (.ref r)) (fun us s' => ∃ (ys : List Str) (h' : Heap) (tk : Nat), s' = { s with heap := h', toks := tk } ∧ StrsAre us ys ∧ us.length < 64 ∧
      ∀ (h2 : Heap) (out : List Value) (ys' : List Str) (e : Nat), (∀ b o, h'.get? b = some o → h2.get? b = some o) → h2.get? h'.objs.size = some (seqObj "list" out.toArray e) → StrsAre out ys' → ys'.Perm ys → sortedS ys' = true → Q (.ref h'.objs.size) { s with heap := h2, toks := tk }) E s) :
    wpAny (model prog w) A (call (.builtin "sorted") [.ref r]) Q E s := by
  refine Calls.call_function_entry kind_sorted plain_sorted entry_sorted (args_sorted1 _) ?_
  unfold Builtin.«sorted»
  refine wpAny_bind (m := checkCount "sorted" 1 1 _) (wpAny_pure ?_)
  refine wpAny_bind (wpAny_mono hcol (fun us s' ⟨ys, h', tk, es, hS, h64, fin⟩ => ?_) fun _ _ e => e)
  subst es
  refine wpAny_bind (wpAny_newList ?_ (by rw [sizeLine_eq]; omega))
  have hoL : (h'.push (seqObj "list" us.toArray 0)).get? h'.objs.size = some (seqObj "list" us.toArray 0) := Heap.get?_push_size _ rfl
  show wpAny _ _ _ _ _ { s with heap := h'.push (seqObj "list" us.toArray 0), toks := tk }
  refine wpAny_bind (wpAny_holding (wpAny_call_entry slot_list_sort ⟨_, hoL, rfl⟩ entry_list_sort (list_sort_treeK strKind_oneLt hoL hS.keysOf (fun v₁ v₂ rest e => keyKind_strs (by rw [← e]; exact hS)) h64 fun st' a1 a2 => ⟨_, rfl, ?_⟩) (args_list_sort _)))
  obtain ⟨ys', h1, h2, h3⟩ := sorted_out_str hS a1 a2
  obtain ⟨e, he⟩ := sortedHeap_at (vs := us) (out := (arrOf st').map (·.2)) hoL
  refine wpAny_pure ⟨_, rfl, fin _ ((arrOf st').map (·.2)).toList ys' e (fun b o q => ?_) (by rw [Array.toArray_toList]; exact he) h1 h2 h3⟩
  have hb := Heap.lt_size q
  rw [sortedHeap_old (Nat.ne_of_lt hb) (by rw [Heap.size_push]; exact Nat.lt_succ_of_lt hb)]
  exact Heap.get?_push_of_some _ q
end
section
variable {X : Cx}
theorem inv_sorted {pins : List (Addr × Obj)} {σ : St} {H : Hp} {s : Shared} {h' h2 : Heap} {tk e : Nat} {out : List Value} {ys' : List Str} (I : Inv X pins σ H { s with heap := h', toks := tk }) (k : ∀ b o, h'.get? b = some o → h2.get? b = some o)
    (he : h2.get? h'.objs.size = some (seqObj "list" out.toArray e)) (hS : StrsAre out ys') (hl : ys'.length ≤ sizeLine) : Inv X pins σ (upd H h'.objs.size (.lst (ys'.map V.str))) { s with heap := h2, toks := tk } :=
  I.laid (s := { s with heap := h', toks := tk }) (t' := tk) k (Nat.le_refl _) ⟨by rw [List.length_map]; exact hl, out, e, vals_strs hS, he⟩
/-- keys that are texts -/
def KeysS (kvs : List (Key × V)) (ks : List Str) : Prop := kvs.map (·.1) = ks.map Sum.inr
theorem keysS_items {kvs : List (Key × V)} {ks : List Str} (h : KeysS kvs ks) {vs : List (Key × Value)} (rel : KV kvs vs) {us : List Value} (hl : us.length = vs.length) (hv : ∀ (j : Nat) (v : Value), us[j]? = some v → ∃ k x, vs[j]? = some (k, x) ∧ (mixKind X.prog X.w).is k v = true) : StrsAre us ks := by
  induction us generalizing kvs vs ks with
  | nil =>
    have : vs = [] := List.length_eq_zero_iff.mp hl.symm
    subst this
    cases rel
    unfold KeysS at h
    cases ks with
    | nil => exact .nil
    | cons a b => cases h
  | cons u us ih =>
    cases rel with
    | nil => cases hl
    | @cons p q ps qs r rr =>
      cases ks with
      | nil => cases h
      | cons a ks =>
        unfold KeysS at h
        rw [List.map_cons, List.map_cons] at h
        injection h with h1 h2
        obtain ⟨k, x, e, hk⟩ := hv 0 u rfl
        have e : q = (k, x) := Option.some.inj e
        have hp : p.1 = k := by rw [r.1, e]
        have hk : keyIs k u = true := hk
        rw [← hp, h1] at hk
        rcases keyIs_shape hk with ⟨i, t, e1, e2⟩ | ⟨x', t, e1, e2⟩
        · cases e1
        · cases e1
          subst e2
          exact .cons _ _ (ih h2 rr (by simpa using hl) fun j v hj => hv (j + 1) v (by simpa using hj))
/-- sorted(d) -/
theorem call_sortedD (hc : X.calm = true) : CallR X (.builtin "sorted") (fun xs H Q => ∃ d kvs ks, xs = [.ref d] ∧ H d = some (.dK kvs) ∧ KeysS kvs ks ∧ kvs.length < 64 ∧ ∀ ys', ys'.Perm ks → sortedS ys' = true → New H (.lst (ys'.map V.str)) Q) := by
  intro pins s σ H xs us Q I r h
  obtain ⟨d, kvs, ks, rfl, e, hks, h64, q⟩ := h
  obtain ⟨u, rfl, ru⟩ := vals1 r
  cases ru
  obtain ⟨z, hd, vs, rel, dd⟩ := dk_of I.hok e
  obtain ⟨ep, hat⟩ := dd.dictAt
  have hlen := rel.length
  refine sorted_collects (PySem.W.kdu_collect (PySem.W.kdl_dict (knd := mixKind X.prog X.w) (kvs := vs) (ep := ep) hd) (I.ok.hd hc) hat (by omega) fun h' tk acc hk hacc => ?_)
  have hS : StrsAre acc.toList ks := keysS_items (X := X) hks rel (by rw [Array.length_toList]; exact hacc.1) fun j v hj => hacc.2 j v (by rw [← Array.getElem?_toList]; exact hj)
  have hl2 : acc.toList.length = vs.length := by rw [Array.length_toList]; exact hacc.1
  have I' : Inv X pins σ H { s with heap := h', toks := tk } := I.kept hk
  refine ⟨ks, h', tk, rfl, hS, by omega, fun h2 out ys' e' k2 he hS' hp' hs' => ?_⟩
  have hl := hp'.length_eq
  have hl3 := StrsAre.length hS
  exact ⟨.ref h'.objs.size, _, inv_sorted I' k2 he hS' (smallL (by omega)), rfl, (q ys' hp' hs').at _ (I'.hok.fresh (Nat.le_refl _))⟩
end
end L2

set_option Elab.async false
set_option linter.all false
set_option maxRecDepth 100000
set_option maxHeartbeats 4000000

namespace L2
open PySem PySem.Spec PyProof.Rows
section
variable {X : Cx}
/-! ### in, not in: items that are data -/
end

/-! ### for k, v in d.items() -/
def epOf (o : Obj) : Nat := match o.data with
  | .dict _ ep => ep
  | _ => 0
def Iti (d : Addr) (kvs : List (Key × V)) (o : Obj) : It :=
  ⟨fun i H => H d = some (.frz o (.dK kvs)) ∧ i < kvs.length, fun i H x H' => ∃ k v p, kvs[i]? = some (k, v) ∧ H p = none ∧ x = .ref p ∧ H' = upd H p (.tup [kV k, v]), fun i H => H d = some (.frz o (.dK kvs)) ∧ kvs.length ≤ i⟩
theorem frz_dict {P : Program} {w : World} {H : Hp} {h : Heap} {d : Addr} {kvs : List (Key × V)} {o : Obj} (ok : HOk P w H h) (e : H d = some (.frz o (.dK kvs))) : ∃ vs, KV kvs vs ∧ h.DictAt (mixKind P w) d vs (epOf o) ∧ (d == sysModules) = false := by
  obtain ⟨ho, _, hd, vs, rel, o', es, ep, ho', hc, hdat, r⟩ := (show ObjOk P w H h d (.frz o (.dK kvs)) from ok d _ e)
  rw [ho] at ho'
  cases ho'
  refine ⟨vs, rel, ⟨o, es, ho, hc, ?_, r⟩, hd⟩
  unfold epOf
  rw [hdat]
theorem kv_get {kvs : List (Key × V)} {vs : List (Key × Value)} (r : KV kvs vs) {i : Nat} {k : Key} {v : V} (h : kvs[i]? = some (k, v)) : ∃ u, vs[i]? = some (k, u) ∧ RelV v u := by
  unfold KV at r
  induction r generalizing i with
  | nil => simp at h
  | @cons p q ps qs r1 rr ih =>
    cases i with
    | zero =>
      simp at h
      subst h
      obtain ⟨a, b⟩ := q
      exact ⟨b, by simp; exact r1.1.symm, r1.2⟩
    | succ i => exact ih (by simpa using h)
theorem entry_itemiter : entryFor table "dict_itemiterator.__iter__" = some Builtin.«dict_keyiterator.__iter__» :=
  entryFor_alias (id' := "dict_keyiterator.__iter__") (by kernel_rfl) rfl (by decide +kernel) (by kernel_rfl)
theorem wpAny_pyIter_itemiter {prog : Program} {w : World} {A : Around} {E : Value → Shared → Prop} {s : Shared} {it d : Addr} {i n ep : Nat} {ok ov : Value} {Q : Value → Shared → Prop} (hit : IsItemIter s.heap it d i n ep ok ov) (h : Q (.ref it) s) : wpAny (model prog w) A (pyIter (.ref it)) Q E s := by
  have hT : s.TypeIs (.ref it) "dict_itemiterator" := ⟨_, hit, rfl⟩
  refine wpAny_pyIter_slot hT PySem.F.slot_dict_itemiterator_iter (wpAny_call_entry PySem.F.slot_dict_itemiterator_iter hT entry_itemiter ?_ (PySem.F.args_dict_itemiterator_iter_1 _))
  show wpAny _ _ (ret (.ref it)) _ _ s
  exact wpAny_pure ⟨_, rfl, "dict_itemiterator", _, hT, PySem.F.slot_dict_itemiterator_next.lookup, h⟩
theorem turn_items {P : Program} {w : World} {K : PySem.W.Frag} {elts : List Expr} {x1 : Nat} {pos : Pos} (d it : Addr) (kvs : List (Key × V)) (o : Obj) : Turn P w K (.Tuple elts x1 pos) (Iti d kvs o) [it] it (fun i h => ∃ ok ov, IsItemIter h it d i kvs.length (epOf o) ok ov) where
  mem := by simp
  obj := fun i h st b hb => by
    have e : b = it := by simpa using hb
    subst e
    obtain ⟨ok, ov, st⟩ := st
    exact ⟨_, st, fun v z => by
      have z' : Data.fields _ = Data.cell v := z
      cases z'⟩
  keep := fun i h h' ⟨ok, ov, st⟩ k => ⟨ok, ov, k it (by simp) _ st⟩
  item := by
    intro X hP hw hK hc i pins s σ H E I hf st hg
    subst hP hw hK
    obtain ⟨ok, ov, st⟩ := st
    obtain ⟨hd, hlt⟩ := hg
    obtain ⟨f0, f1, f2, f3, f4, f5⟩ := hf it (by simp)
    obtain ⟨vs, rel, hat, hS⟩ := frz_dict I.hok hd
    have hlen := rel.length
    obtain ⟨kv, hkv⟩ : ∃ kv, kvs[i]? = some kv := ⟨_, List.getElem?_eq_getElem hlt⟩
    obtain ⟨k, v⟩ := kv
    obtain ⟨u, hu, ru⟩ := kv_get rel hkv
    rw [hlen] at st
    refine wpAny_pyNext_items_item st hat hu fun key h1 hkey hout htup hsz hk1 => ⟨.ref s.heap.objs.size, rfl, ?_⟩
    refine wpAny_letOwnedTupleGo_items hout fun h2 st2 sb => ?_
    have hil : it < s.heap.objs.size := Heap.lt_size st
    have sb : Heap.SameBut it h1 h2 := sb
    have I1 : Inv X pins σ H { s with heap := h2 } := I.turned (t' := s.toks) (fun b ob hb e => (sb.2 b hb).trans (hk1 b ob hb e)) f0 f1 f3 f4 f5
    have hn : H s.heap.objs.size = none := I.hok.fresh (Nat.le_refl _)
    have fp := I.fpOk (H' := H) (Nat.le_refl _) hn
    have hobj : h2.get? s.heap.objs.size = some { cls := .type "tuple", data := .seq #[key, u] } := (sb.2 _ (Nat.ne_of_gt hil)).trans htup
    have I2 : Inv X pins σ (upd H s.heap.objs.size (.tup [kV k, v])) { s with heap := h2 } := by
      refine I1.track hn I.sz fp.2.1 fp.2.2.2.2.1 fp.2.2.2.2.2 ?_
      exact ⟨by show 2 ≤ sizeLine; decide, [key, u], .cons (rel_key hkey) (.cons ru .nil), _, hobj, rfl, 0, rfl⟩
    refine ⟨.ref s.heap.objs.size, _, I2, rfl, ⟨k, v, _, hkv, hn, rfl, rfl⟩, ⟨key, u, by rw [hlen]; exact st2⟩, fun b hb => ?_⟩
    have e : b = it := by simpa using hb
    subst e
    rw [upd_ne (Nat.ne_of_lt hil)]
    exact f0
  done := by
    intro X hP hw hK hc i pins s σ H E I hf st hg
    subst hP hw hK
    obtain ⟨ok, ov, st⟩ := st
    obtain ⟨hd, hle⟩ := hg
    obtain ⟨f0, f1, f2, f3, f4, f5⟩ := hf it (by simp)
    obtain ⟨vs, rel, hat, hS⟩ := frz_dict I.hok hd
    have hlen := rel.length
    rw [hlen] at st
    exact wpAny_pyNext_items_end (I.ok.hd hc) st hat (by rw [List.getElem?_eq_none_iff]; omega) fun h' eb => ⟨rfl, I.turned (t' := s.toks) (fun b o hb e => eb b o hb e) f0 f1 f3 f4 f5⟩
  self := fun _ _ _ _ _ ⟨ok, ov, st⟩ h => wpAny_pyIter_itemiter st h

/-! ### the readings made monotone -/
section
variable {X : Cx}
theorem PE.weak {e : Expr} {t : TE} (h : PE X e t) : PE X e (fun σ H Q => ∃ Q' : VK, t σ H Q' ∧ ∀ v H, Q' v H → Q v H) := by
  intro pins s σ H Q I ⟨Q', q, w⟩
  exact L2.thn (h pins s σ H _ I q) fun u s1 ⟨v, H1, I1, r1, q1⟩ => ⟨v, H1, I1, r1, w _ _ q1⟩
theorem PG.weak {e : Expr} {g : TG} (h : PG X e g) : PG X e (fun x σ H Q => ∃ Q' : St → Hp → Prop, g x σ H Q' ∧ ∀ σ H, Q' σ H → Q σ H) := by
  intro pins s σ H v u Q I r ⟨Q', q, w⟩
  exact L2.thn (h pins s σ H v u _ I r q) fun _ s1 ⟨σ1, H1, I1, q1⟩ => ⟨σ1, H1, I1, w _ _ q1⟩
theorem PSs.weak {b : List Stmt} {t : TS} (h : PSs X b t) : PSs X b (fun D σ H => ∃ D' : Ends, t D' σ H ∧ (∀ σ H, D'.nx σ H → D.nx σ H) ∧ (∀ v H, D'.rt v H → D.rt v H) ∧ (∀ σ H, D'.bk σ H → D.bk σ H) ∧ ∀ σ H, D'.ct σ H → D.ct σ H) := by
  intro pins s σ H D I ⟨D', q, w1, w2, w3, w4⟩
  refine L2.thn (h pins s σ H D' I q) fun f s1 q1 => ?_
  cases f with
  | next => obtain ⟨σ1, H1, I1, q1⟩ := q1; exact ⟨σ1, H1, I1, w1 _ _ q1⟩
  | ret v => obtain ⟨x, σ1, H1, I1, r, q1⟩ := q1; exact ⟨x, σ1, H1, I1, r, w2 _ _ q1⟩
  | brk => obtain ⟨σ1, H1, I1, q1⟩ := q1; exact ⟨σ1, H1, I1, w3 _ _ q1⟩
  | cont => obtain ⟨σ1, H1, I1, q1⟩ := q1; exact ⟨σ1, H1, I1, w4 _ _ q1⟩
end
theorem pi_items {o : Expr} {elts : List Expr} {x1 : Nat} {tpos apos cpos : Pos} {X : Cx} {td : TE} (ho : PE X o td) (hbase : attributeBase o "items" X.env (eval o X.env) = eval o X.env := by rfl) (hline : (apos.endLine == cpos.line) = true := by rfl) :
    PI X (.Tuple elts x1 tpos) (.Call (.Attribute o "items" apos) [] [] cpos) (fun σ H R => td σ H fun x H1 => ∃ d kvs, x = .ref d ∧ H1 d = some (.dK kvs) ∧ ∀ ob, (∀ o' u, X.H₀ d ≠ some (.frz o' u)) → R (Iti d kvs ob) (upd H1 d (.frz ob (.dK kvs)))) := by
  intro pins s σ H R I h
  refine wpAny_Call_method0_late hbase hline (thn (ho pins s σ H _ I h) fun v s1 ⟨x, H1, I1, r1, d, kvs, e, ed, q⟩ => ?_)
  subst e
  cases r1
  obtain ⟨z, hd, vs, rel, dd⟩ := dk_of I1.hok ed
  obtain ⟨h1, h2⟩ := tyV_is I1 (x := .ref d) rfl (T := "dict") (.inr (.inr (.inl ⟨rfl, .inl ⟨kvs, ed⟩⟩)))
  refine ⟨"dict", "dict.items", PySem.F.plainAttrs_dict, PySem.F.slot_dict_items, PySem.F.type_dict_items, h1, h2, Calls.callWith_builtin rfl (PySem.evalArgs_none ?_)⟩
  refine call_meetsIn PySem.F.slot_dict_items dd.typeIs PySem.F.entry_dict_items (PySem.F.args_dict_items_1 _) (meets_dict_items (mixKind X.prog X.w) d hd) ⟨⟨vs, dd⟩, ?_⟩
  have dd2 := dd.push { cls := .type "dict_items", data := .fields #[.ref d] }
  obtain ⟨ob, es, ep, hob, hc, hdat, rest⟩ := id dd2
  have hat : (s1.heap.push { cls := .type "dict_items", data := .fields #[.ref d] }).DictAt (mixKind X.prog X.w) d vs ep := ⟨ob, es, hob, hc, hdat, rest⟩
  have I2 : Inv X pins σ H1 { s1 with heap := s1.heap.push { cls := .type "dict_items", data := .fields #[.ref d] } } := I1.kept (t' := s1.toks) fun b o e => Heap.get?_push_of_some _ e
  refine wpAny_pyIter_items (s := { s1 with heap := s1.heap.push { cls := .type "dict_items", data := .fields #[.ref d] } }) ⟨_, Heap.get?_push_size _ rfl, rfl, rfl⟩ hat ?_
  have hep : epOf ob = ep := by unfold epOf; rw [hdat]
  have hlen := rel.length
  have I3 : Inv X pins σ H1 { s1 with heap := (s1.heap.push { cls := .type "dict_items", data := .fields #[.ref d] }).push { cls := .type "dict_itemiterator", data := .fields #[.none, .bool false, .ref d, .int 0 0, .int vs.length 0, .int ep 0, .none, .none] } } :=
    I2.kept (t' := s1.toks) fun b o e => Heap.get?_push_of_some _ e
  have hn := I2.hok.fresh (Nat.le_refl (s1.heap.push { cls := .type "dict_items", data := .fields #[.ref d] }).objs.size)
  have hz : ∀ o' u, X.H₀ d ≠ some (.frz o' u) := fun o' u hq => by
    have := I1.base.frzs d o' u hq
    rw [ed] at this
    cases this
  refine ⟨_, [_], _, _, _, rfl, I3.freeze ed (Heap.get?_push_of_some _ hob), turn_items d _ kvs ob, ⟨.none, .none, ?_⟩, fun b hb => ?_, q ob hz⟩
  · show Heap.get? _ _ = _
    rw [hep, hlen]
    exact Heap.get?_push_size _ rfl
  · have e : b = (s1.heap.push { cls := .type "dict_items", data := .fields #[.ref d] }).objs.size := by simpa using hb
    subst e
    refine I2.fpOk (Nat.le_refl _) ?_
    rw [upd_ne (Ne.symm (ne_of_none ed hn))]
    exact hn
/-- the loop's asking, the dict frozen while it goes on -/
def tForI (td : TE) (g : TG) (tb : TS) : TS := fun D σ H => td σ H fun x H1 => ∃ d kvs, x = .ref d ∧ H1 d = some (.dK kvs) ∧ ∀ ob, ∃ W : Nat → Nat → St → Hp → Prop, (∃ m, W 0 m σ (upd H1 d (.frz ob (.dK kvs)))) ∧ ∀ i m σ H, W i m σ H →
  H d = some (.frz ob (.dK kvs)) ∧ ((kvs.length ≤ i ∧ D.nx σ (upd H d (.dK kvs))) ∨ (i < kvs.length ∧ ∃ N : St → Hp → Prop, (∀ σ' H', N σ' H' → ∃ m', m' < m ∧ W (i + 1) m' σ' H') ∧
    ∀ k v p, kvs[i]? = some (k, v) → H p = none → g (.ref p) σ (upd H p (.tup [kV k, v])) fun σ2 H2 =>
      tb { nx := N, ct := N, bk := fun σ' H' => H' d = some (.frz ob (.dK kvs)) ∧ D.nx σ' (upd H' d (.dK kvs)), rt := fun v' H' => H' d = some (.frz ob (.dK kvs)) ∧ D.rt v' (upd H' d (.dK kvs)) } σ2 H2))
theorem ps_forItems {o : Expr} {elts : List Expr} {x1 : Nat} {tpos apos cpos pos : Pos} {X : Cx} {td : TE} {g : TG} {tb : TS} {body : List Stmt} (hp : PassesOwn (model X.prog X.w) X.A X.env X.xe) (hc : X.calm = true) (ho : PE X o td) (hg : PG X (.Tuple elts x1 tpos) g) (hb : PSs X body tb)
    (hbase : attributeBase o "items" X.env (eval o X.env) = eval o X.env := by rfl) (hline : (apos.endLine == cpos.line) = true := by rfl) (hs : ∀ x, foldedSetIterable (.Call (.Attribute o "items" apos) [] [] cpos) X.env x = pure x := by intro _; rfl) :
    PS X (.For (.Tuple elts x1 tpos) (.Call (.Attribute o "items" apos) [] [] cpos) body [] pos) (tForI td g tb) := by
  intro pins s σ H D I h
  refine thn (ps_for (X := X) hp hc (pi_items ho.weak hbase hline) hg.weak hb.weak hs pins s σ H
    { nx := fun σ' H' => ∃ d kvs ob, H' d = some (.frz ob (.dK kvs)) ∧ (∀ o' u, X.H₀ d ≠ some (.frz o' u)) ∧ D.nx σ' (upd H' d (.dK kvs)), rt := fun v' H' => ∃ d kvs ob, H' d = some (.frz ob (.dK kvs)) ∧ (∀ o' u, X.H₀ d ≠ some (.frz o' u)) ∧ D.rt v' (upd H' d (.dK kvs)) } I ?_) fun f s' q => ?_
  · refine ⟨_, h, fun x H1 ⟨d, kvs, e, ed, q⟩ => ⟨d, kvs, e, ed, fun ob hz => ?_⟩⟩
    obtain ⟨W, w0, turn⟩ := q ob
    refine ⟨W, w0, fun i m σ H hw => ?_⟩
    obtain ⟨hd, c | ⟨hlt, N, hN, step⟩⟩ := turn i m σ H hw
    · exact .inl ⟨⟨hd, c.1⟩, d, kvs, ob, hd, hz, c.2⟩
    · refine .inr ⟨⟨hd, hlt⟩, N, hN, fun x H' ⟨k, v, p, hk, hp, e, eH⟩ => ?_⟩
      subst e eH
      exact ⟨_, step k v p hk hp, fun σ2 H2 q2 => ⟨_, q2, fun _ _ z => z, fun v' H' ⟨a, b⟩ => ⟨d, kvs, ob, a, hz, b⟩, fun σ' H' ⟨a, b⟩ => ⟨d, kvs, ob, a, hz, b⟩, fun _ _ z => z⟩⟩
  · cases f with
    | next =>
      obtain ⟨σ', H', I', d, kvs, ob, hd, hz, q⟩ := q
      exact ⟨σ', _, I'.thaw hd hz, q⟩
    | ret v =>
      obtain ⟨x, σ', H', I', r, d, kvs, ob, hd, hz, q⟩ := q
      exact ⟨x, σ', _, I'.thaw hd hz, r, q⟩
    | brk => obtain ⟨_, _, _, q⟩ := q; exact q.elim
    | cont => obtain ⟨_, _, _, q⟩ := q; exact q.elim
end L2

set_option Elab.async false
set_option linter.all false
set_option maxRecDepth 100000
set_option maxHeartbeats 4000000

namespace L2
open PySem PySem.Spec PyProof.Rows
/-! ### an empty set, walked -/
def Empt (h : Heap) (a : Addr) (ep : Nat) (t : SetTable) : Prop := ∃ o, h.get? a = some o ∧ o.cls = .type "set" ∧ o.data = .set #[] ep t ∧ t.fits 0 = true
def EmIt (h : Heap) (it a : Addr) (ep : Nat) : Prop := ∃ o, h.get? it = some o ∧ o.cls = .type "set_iterator" ∧ o.data = .fields #[rawInt 0, rawInt 0, .ref a, rawInt 0, rawInt ep]
theorem Empt.typeIs {s : Shared} {a : Addr} {ep : Nat} {t : SetTable} (x : Empt s.heap a ep t) : s.TypeIs (.ref a) "set" := let ⟨o, ho, hc, _⟩ := x; ⟨o, ho, hc⟩
theorem EmIt.typeIs {s : Shared} {it a : Addr} {ep : Nat} (x : EmIt s.heap it a ep) : s.TypeIs (.ref it) "set_iterator" := let ⟨o, ho, hc, _⟩ := x; ⟨o, ho, hc⟩
section
variable {prog : Program} {w : World} {A : Around} {E : Value → Shared → Prop} {s : Shared} {a it : Addr} {ep : Nat} {t : SetTable}
theorem Empt.at' {h h' : Heap} (x : Empt h a ep t) (e : ∀ o, h.get? a = some o → h'.get? a = some o) : Empt h' a ep t := let ⟨o, ho, r⟩ := x; ⟨o, e _ ho, r⟩
theorem EmIt.at' {h h' : Heap} (x : EmIt h it a ep) (e : ∀ o, h.get? it = some o → h'.get? it = some o) : EmIt h' it a ep := let ⟨o, ho, r⟩ := x; ⟨o, e _ ho, r⟩
end
section
variable {X : Cx}
/-! ### new dicts, in some heap over the one ahead; fields, with the fragment named -/
theorem pe_dnewN {pos : Pos} : PE X (.Dict [] [] pos) (fun _ H Q => New H (.dK []) Q) := fun pins s σ H Q I h => pe_dnewK pins s σ H Q I h.at
theorem pe_fldK (K : PySem.W.Frag) {e : Expr} {f : Str} {pos : Pos} {ta : TE} (he : PE X e ta) (hb : attributeBase e f X.env (eval e X.env) = eval e X.env) (h : X.K = K := by rfl) : PE X (.Attribute e f pos) (tFld K ta f) := h ▸ pe_fld he hb
end
end L2

set_option Elab.async false
set_option linter.all false
set_option maxRecDepth 100000
set_option maxHeartbeats 4000000

namespace L2
open PySem PySem.Spec PyProof.Rows
section
variable {X : Cx}
/-! ### f-strings of texts -/
theorem str_empty_app (x : Str) : Str.empty ++ x = x := by
  obtain ⟨c⟩ := x
  show (⟨#[] ++ c⟩ : Str) = ⟨c⟩
  rw [Array.empty_append]
variable {e e1 e2 : Expr} {te t1 t2 : TE} {pos : Pos}
def tFmt (te : TE) : TE := fun σ H Q => te σ H fun x H1 => ∃ y, x = .str y ∧ y.length ≤ sizeLine ∧ Q x H1
theorem pe_fmt (he : PE X e te) : PE X (.FormattedValue e (-1) none pos) (tFmt te) := by
  intro pins s σ H Q I h
  refine FormattedValue_plain (thn (he pins s σ H _ I h) fun v s1 ⟨x, H1, I1, r1, y, ex, hl, q⟩ => ?_)
  subst ex
  obtain ⟨t, rfl⟩ := r1
  exact formatField_str (fun t' tk => ⟨.str y, H1, I1.tok _, ⟨_, rfl⟩, q⟩) hl
def tJoin2 (t1 t2 : TE) : TE := fun σ H Q => t1 σ H fun a H1 => ∃ x, a = .str x ∧ x.length ≤ sizeLine ∧ t2 σ H1 fun b H2 => ∃ y, b = .str y ∧ x.length + y.length ≤ sizeLine ∧ Q (.str (x ++ y)) H2
theorem pe_join2 (h1 : PE X e1 t1) (h2 : PE X e2 t2) : PE X (.JoinedStr [e1, e2] pos) (tJoin2 t1 t2) := by
  intro pins s σ H Q I h
  refine JoinedStr_many (joinParts_cons (thn (h1 pins s σ H _ I h) fun v s1 ⟨a, H1, I1, r1, x, ex, hx, q1⟩ => ?_))
  subst ex
  obtain ⟨t, rfl⟩ := r1
  show (Str.empty ++ x).length ≤ sizeLine ∧ wpAny _ _ (joinParts (Str.empty ++ x) (eval e2 X.env :: evalEach [] X.env)) _ _ s1
  rw [str_empty_app]
  refine ⟨hx, joinParts_cons (thn (h2 pins s1 σ H1 _ I1 q1) fun v s2 ⟨b, H2, I2, r2, y, ey, hl, q2⟩ => ?_)⟩
  subst ey
  obtain ⟨t', rfl⟩ := r2
  have hz : (x ++ y).length ≤ sizeLine := by rw [len_app]; exact hl
  exact ⟨hz, joinParts_nil ⟨.str (x ++ y), H2, I2.tok _, ⟨_, rfl⟩, q2⟩ hz⟩
end
end L2

set_option Elab.async false
set_option linter.all false
set_option maxRecDepth 100000
set_option maxHeartbeats 4000000

namespace L2
open PySem
/-- a cut whose statement is given in the reading, so that it may speak of what the walk has met -/
theorem pss_cutE {X : Cx} {st : Stmt} {sts : List Stmt} {t u : TS} (h1 : PS X st t) (h2 : PSs X sts u) : PSs X (st :: sts) (fun D σ H => ∃ P : St → Hp → Prop, t { D with nx := P } σ H ∧ ∀ σ' H', P σ' H' → u D σ' H') := by
  intro pins s σ H D I ⟨P, a, b⟩
  exact pss_cut P h1 h2 pins s σ H D I ⟨a, b⟩
end L2

set_option linter.all false
namespace L2
theorem lets2 {t1 t2 : TS} {D : Ends} {σ : St} {H : Hp} (h : let d := D; let s := σ; let u2 := t2; tSeq t1 u2 d s H) : tSeq t1 (t2) D σ H := h
theorem lets3 {t1 t2 t3 : TS} {D : Ends} {σ : St} {H : Hp} (h : let d := D; let s := σ; let u3 := t3; let u2 := tSeq t2 u3; tSeq t1 u2 d s H) : tSeq t1 (tSeq t2 (t3)) D σ H := h
theorem lets4 {t1 t2 t3 t4 : TS} {D : Ends} {σ : St} {H : Hp} (h : let d := D; let s := σ; let u4 := t4; let u3 := tSeq t3 u4; let u2 := tSeq t2 u3; tSeq t1 u2 d s H) : tSeq t1 (tSeq t2 (tSeq t3 (t4))) D σ H := h
theorem lets5 {t1 t2 t3 t4 t5 : TS} {D : Ends} {σ : St} {H : Hp} (h : let d := D; let s := σ; let u5 := t5; let u4 := tSeq t4 u5; let u3 := tSeq t3 u4; let u2 := tSeq t2 u3; tSeq t1 u2 d s H) : tSeq t1 (tSeq t2 (tSeq t3 (tSeq t4 (t5)))) D σ H := h
theorem lets6 {t1 t2 t3 t4 t5 t6 : TS} {D : Ends} {σ : St} {H : Hp} (h : let d := D; let s := σ; let u6 := t6; let u5 := tSeq t5 u6; let u4 := tSeq t4 u5; let u3 := tSeq t3 u4; let u2 := tSeq t2 u3; tSeq t1 u2 d s H) : tSeq t1 (tSeq t2 (tSeq t3 (tSeq t4 (tSeq t5 (t6))))) D σ H := h
theorem lets7 {t1 t2 t3 t4 t5 t6 t7 : TS} {D : Ends} {σ : St} {H : Hp} (h : let d := D; let s := σ; let u7 := t7; let u6 := tSeq t6 u7; let u5 := tSeq t5 u6; let u4 := tSeq t4 u5; let u3 := tSeq t3 u4; let u2 := tSeq t2 u3; tSeq t1 u2 d s H) : tSeq t1 (tSeq t2 (tSeq t3 (tSeq t4 (tSeq t5 (tSeq t6 (t7)))))) D σ H := h
theorem lets8 {t1 t2 t3 t4 t5 t6 t7 t8 : TS} {D : Ends} {σ : St} {H : Hp} (h : let d := D; let s := σ; let u8 := t8; let u7 := tSeq t7 u8; let u6 := tSeq t6 u7; let u5 := tSeq t5 u6; let u4 := tSeq t4 u5; let u3 := tSeq t3 u4; let u2 := tSeq t2 u3; tSeq t1 u2 d s H) : tSeq t1 (tSeq t2 (tSeq t3 (tSeq t4 (tSeq t5 (tSeq t6 (tSeq t7 (t8))))))) D σ H := h
theorem lets9 {t1 t2 t3 t4 t5 t6 t7 t8 t9 : TS} {D : Ends} {σ : St} {H : Hp} (h : let d := D; let s := σ; let u9 := t9; let u8 := tSeq t8 u9; let u7 := tSeq t7 u8; let u6 := tSeq t6 u7; let u5 := tSeq t5 u6; let u4 := tSeq t4 u5; let u3 := tSeq t3 u4; let u2 := tSeq t2 u3; tSeq t1 u2 d s H) : tSeq t1 (tSeq t2 (tSeq t3 (tSeq t4 (tSeq t5 (tSeq t6 (tSeq t7 (tSeq t8 (t9)))))))) D σ H := h
theorem lets10 {t1 t2 t3 t4 t5 t6 t7 t8 t9 t10 : TS} {D : Ends} {σ : St} {H : Hp} (h : let d := D; let s := σ; let u10 := t10; let u9 := tSeq t9 u10; let u8 := tSeq t8 u9; let u7 := tSeq t7 u8; let u6 := tSeq t6 u7; let u5 := tSeq t5 u6; let u4 := tSeq t4 u5; let u3 := tSeq t3 u4; let u2 := tSeq t2 u3; tSeq t1 u2 d s H) : tSeq t1 (tSeq t2 (tSeq t3 (tSeq t4 (tSeq t5 (tSeq t6 (tSeq t7 (tSeq t8 (tSeq t9 (t10))))))))) D σ H := h
theorem lets11 {t1 t2 t3 t4 t5 t6 t7 t8 t9 t10 t11 : TS} {D : Ends} {σ : St} {H : Hp} (h : let d := D; let s := σ; let u11 := t11; let u10 := tSeq t10 u11; let u9 := tSeq t9 u10; let u8 := tSeq t8 u9; let u7 := tSeq t7 u8; let u6 := tSeq t6 u7; let u5 := tSeq t5 u6; let u4 := tSeq t4 u5; let u3 := tSeq t3 u4; let u2 := tSeq t2 u3; tSeq t1 u2 d s H) : tSeq t1 (tSeq t2 (tSeq t3 (tSeq t4 (tSeq t5 (tSeq t6 (tSeq t7 (tSeq t8 (tSeq t9 (tSeq t10 (t11)))))))))) D σ H := h
theorem lets12 {t1 t2 t3 t4 t5 t6 t7 t8 t9 t10 t11 t12 : TS} {D : Ends} {σ : St} {H : Hp} (h : let d := D; let s := σ; let u12 := t12; let u11 := tSeq t11 u12; let u10 := tSeq t10 u11; let u9 := tSeq t9 u10; let u8 := tSeq t8 u9; let u7 := tSeq t7 u8; let u6 := tSeq t6 u7; let u5 := tSeq t5 u6; let u4 := tSeq t4 u5; let u3 := tSeq t3 u4; let u2 := tSeq t2 u3; tSeq t1 u2 d s H) : tSeq t1 (tSeq t2 (tSeq t3 (tSeq t4 (tSeq t5 (tSeq t6 (tSeq t7 (tSeq t8 (tSeq t9 (tSeq t10 (tSeq t11 (t12))))))))))) D σ H := h
theorem lets13 {t1 t2 t3 t4 t5 t6 t7 t8 t9 t10 t11 t12 t13 : TS} {D : Ends} {σ : St} {H : Hp} (h : let d := D; let s := σ; let u13 := t13; let u12 := tSeq t12 u13; let u11 := tSeq t11 u12; let u10 := tSeq t10 u11; let u9 := tSeq t9 u10; let u8 := tSeq t8 u9; let u7 := tSeq t7 u8; let u6 := tSeq t6 u7; let u5 := tSeq t5 u6; let u4 := tSeq t4 u5; let u3 := tSeq t3 u4; let u2 := tSeq t2 u3; tSeq t1 u2 d s H) : tSeq t1 (tSeq t2 (tSeq t3 (tSeq t4 (tSeq t5 (tSeq t6 (tSeq t7 (tSeq t8 (tSeq t9 (tSeq t10 (tSeq t11 (tSeq t12 (t13)))))))))))) D σ H := h
theorem letX {X : Cx} {b : List PySem.Stmt} {D : Ends} {σ : St} {H : Hp} (h : let x := X; let d := D; ∃ t, PSs x b t ∧ t d σ H) : ∃ t, PSs X b t ∧ t D σ H := h
theorem letG {p : Prop} (h : let T := p; T) : p := h
theorem letB {g : TG} {tb : TS} {E : Ends} {x : V} {σ : St} {H : Hp} (h : let e := E; let s := σ; g x s H fun σ2 H2 => tb e σ2 H2) : g x σ H fun σ2 H2 => tb E σ2 H2 := h
end L2

set_option Elab.async false
set_option linter.all false
set_option maxRecDepth 100000
set_option maxHeartbeats 4000000

/-! ### isinstance of an exception of a class of one's own -/
namespace L2
open PySem PySem.Spec PyProof.Rows PySem.W PySem.Builtin PySem.Builtin.ObjectAttr PySem.Builtin.Getset_descriptor
/-- an exception that has landed, by its class -/
abbrev excO (a : Addr) (c : Value) : HO := .ext fun h => ∃ o, h.get? a = some o ∧ o.cls = c
theorem excO_ok {P : Program} {w : World} {H : Hp} {h : Heap} {a : Addr} {c : Value} (e : ∃ o, h.get? a = some o ∧ o.cls = c) : ObjOk P w H h a (excO a c) := by
  obtain ⟨o, e1, e2⟩ := e
  exact ⟨⟨o, e1, e2⟩, ⟨o, e1⟩, fun h1 h2 z k => by
    obtain ⟨o', x, y⟩ := z
    exact ⟨o', k _ x, y⟩⟩
abbrev bmV : List Value := [.type "ValueError", .type "Exception", .type "BaseException", .type "object"]
/-- what is known of such a class -/
structure XCls (K : PySem.W.Frag) (C : Addr) : Prop where
  exc : PySem.W.excIn K C bmV "ValueError.__new__" = true
  ga : PySem.W.findIn K (.ref C) "__getattribute__" = some (some (.builtin "BaseException.__getattribute__"))
  gh : PySem.W.findIn K (.ref C) "__getattr__" = some none
  cls : PySem.W.findIn K (.ref C) "__class__" = some (some (.builtin "object.__class__"))
  spc : PySem.W.specialIn K (.builtin "object.__class__") "__get__" = some (some (.builtin "getset_descriptor.__get__"))
  tak : PySem.W.takesIn K (.builtin "object.__class__") = some true
  mro : PySem.W.mroIn K C (.type "object") = some true
  mrb : PySem.W.mroIn K C (.type "BaseException") = some true
section
variable {K : PySem.W.Frag} {D a : Addr} {M : Model} {h : Heap}
theorem XCls.there (x : XCls K D) : ∃ cd, PySem.W.clsIn K D = some cd := by
  have e := x.mro
  unfold PySem.W.mroIn at e
  obtain ⟨cd, q, _⟩ := Option.bind_eq_some_iff.mp e
  exact ⟨cd, q⟩
theorem XCls.obj (x : XCls K D) : ∃ c d cd sl, K.lookup D = some ⟨c, d, .cls cd, sl⟩ := by
  obtain ⟨cd, e⟩ := x.there
  unfold PySem.W.clsIn at e
  split at e
  · exact ⟨_, _, _, _, ‹_›⟩
  · cases e
theorem looks_ex (e : ∃ o, h.get? a = some o ∧ o.cls = .ref D) : Looks M h (typeOf (.ref a)) (.ref D) := by
  obtain ⟨o, e1, e2⟩ := e
  exact e2 ▸ (Looks.ld e1).andThen .now
end
section
variable {prog : Program} {w : World} {A : Around} {E : Value → Shared → Prop} {s : Shared} {K : PySem.W.Frag} {D a : Addr}
theorem exc_class_get {R : Result → Shared → Prop} {tp : Value} (x : XCls K D) (X : K.In s.heap) (p : ∃ o, s.heap.get? a = some o ∧ o.cls = .ref D) (q : R (.ok (.ret (.ref D))) s) :
    codeAny (model prog w) A (.call (.builtin "getset_descriptor.__get__") ⟨[.builtin "object.__class__", .ref a, tp], []⟩) R s := by
  obtain ⟨hh, gg, dr, tk, os⟩ := s
  have LT := looks_ex (M := model prog w) p
  have LM := looks_mroIn (M := model prog w) X x.mro
  refine codeAny_call_builtin KF.slot_gs.plain KF.entry_gs
    (KF.slot_gs.check _ _ _ _ _ _ _ _ KF.type_class (KF.args_gs _ _ _) ?_)
  unfold Builtin.«getset_descriptor.__get__»
  unfold descrGet
  rw [dga_obj]
  refine wpAny_bind (wpAny_pure ?_)
  unfold descrGetter descrCheckInstance
  unfold descrNameAndClass isInstance
  simp only [KF.owner_class]
  repeat lk
  refine ⟨Code.quiet_builtin _ (by decide +kernel),
    codeAny_builtin KF.entry_class ?_⟩
  unfold Builtin.«object.__class__»
  unfold shownTypeOf
  repeat lk
  exact q
theorem exc_class_entry (x : XCls K D) {tk : Tok} {Q : PySem.Fin → Shared → Prop} (X : K.In s.heap) (p : ∃ o, s.heap.get? a = some o ∧ o.cls = .ref D) (q : Q (.done (.ret (.ref D))) s) :
    wpAny (model prog w) A (Builtin.«object.__getattribute__» ⟨[.ref a, .str "__class__" tk], []⟩) Q E s := by
  obtain ⟨hh, gg, dr, tt, os⟩ := s
  have LT := looks_ex (M := model prog w) p
  have LF : Looks (model prog w) hh (find (.ref a) (.ref D) "__class__") (.bind (.builtin "getset_descriptor.__get__") (.builtin "object.__class__")) :=
    (looks_findIn X x.cls).andThen ((looks_specialIn X x.spc).andThen ((show Looks (model prog w) hh (dataDescriptor? (some (.builtin "object.__class__")) (some (.builtin "getset_descriptor.__get__"))) (some (.builtin "getset_descriptor.__get__", .builtin "object.__class__")) from (looks_takesIn X x.tak).andThen .now).andThen (Looks.tag .now)))
  unfold Builtin.«object.__getattribute__»
  repeat (any_goals (first | assumption | with_reducible refine LT.at ?_ | with_reducible refine LF.at ?_ | wp_step))
  refine exc_class_get x X p ?_
  repeat (any_goals (first | assumption | wp_step))
theorem exc_check (x : XCls K D) {nameV : Value} {Q : Unit → Shared → Prop} (X : K.In s.heap) (p : ∃ o, s.heap.get? a = some o ∧ o.cls = .ref D) (q : Q () s) :
    wpAny (model prog w) A (checkBuiltinCall "BaseException.__getattribute__" ⟨[.ref a, nameV], []⟩) Q E s := by
  obtain ⟨hh, gg, dr, tt, os⟩ := s
  have hk : builtinKind "BaseException.__getattribute__" = some .slot := by decide +kernel
  have hsp : splitId "BaseException.__getattribute__" = some ("BaseException", "__getattribute__") := by decide +kernel
  have LM := looks_mroIn (M := model prog w) X x.mrb
  obtain ⟨o, hx, hc⟩ := id p
  have ha := F.args_bexc_ga (.ref a) nameV
  simp only [checkBuiltinCall, hk, hsp]
  refine wpAny_bind ?_
  unfold isInstance
  repeat (first | (with_reducible refine wpAny_loadPart_at hx ?_; rw [hc]) | with_reducible refine LM.at ?_ | wp_step)
  exact q
theorem exc_class_call (x : XCls K D) {tk : Tok} {R : Result → Shared → Prop} (X : K.In s.heap) (p : ∃ o, s.heap.get? a = some o ∧ o.cls = .ref D) (q : R (.ok (.ret (.ref D))) s) :
    codeAny (model prog w) A (.call (.builtin "BaseException.__getattribute__") ⟨[.ref a, .str "__class__" tk], []⟩) R s :=
  codeAny_call_builtin F.excAttr_ValueError.ga.plain F.entry_bexc_ga (exc_check x X p (exc_class_entry x X p q))
theorem exc_class_by (x : XCls K D) {tk : Tok} {Q : Value → Shared → Prop} (X : K.In s.heap) (p : ∃ o, s.heap.get? a = some o ∧ o.cls = .ref D) (q : Q (.ref D) s) :
    wpAny (model prog w) A (getAttrBy (.ref a) (.str "__class__" tk) false) Q E s := by
  obtain ⟨hh, gg, dr, tt, os⟩ := s
  have LT := looks_ex (M := model prog w) p
  have LG := looks_findIn (M := model prog w) X x.ga
  have LH := looks_findIn (M := model prog w) X x.gh
  have f3 := F.excAttr_ValueError.ga.bind (.ref a)
  have hx0 : (false && onTheHeap (Value.builtin "BaseException.__getattribute__")) = false := rfl
  have hx2 : (Value.builtin "BaseException.__getattribute__" == Value.builtin "object.__getattribute__") = false := by decide +kernel
  have hx1 : (onTheHeap (Value.ref D) && Value.builtin "BaseException.__getattribute__" == Value.builtin "object.__getattribute__") = false := by rw [hx2]; rfl
  repeat (any_goals (first | assumption | with_reducible refine LT.at ?_ | with_reducible refine LG.at ?_ | with_reducible refine LH.at ?_ | wp_step))
  refine exc_class_call x X p ?_
  repeat (any_goals (first | assumption | wp_step))
theorem exc_class (x : XCls K D) {Q : Option Value → Shared → Prop} (X : K.In s.heap) (p : ∃ o, s.heap.get? a = some o ∧ o.cls = .ref D) (q : Q (some (.ref D)) { s with toks := s.toks + 1 }) :
    wpAny (model prog w) A (getAttr? (.ref a) "__class__") Q E s := by
  obtain ⟨hh, gg, dr, tt, os⟩ := s
  unfold getAttr?
  refine wpAny_bind (wpAny_mkText ?_)
  unfold getAttrBy?
  refine wpAny_bind (wpAny_attempt (exc_class_by x X p ?_))
  exact wpAny_pure q
theorem kitx_exc (x : XCls K D) : PySem.W.KitX K (.ref a) (.ref D) (fun h => ∃ o, h.get? a = some o ∧ o.cls = .ref D) where
  ty := fun _ _ _ p => looks_ex p
  it := fun M h X _ => by
    obtain ⟨c, d, cd, sl, e⟩ := x.obj
    intro A' Q' E' s' k q
    unfold isType loadHead
    exact wpAny_bind (wpAny_loadPart (k _ _ (X _ _ e)) (wpAny_pure q))
  ne := fun h tp dd its n sl X e => by
    obtain ⟨c, d, cd, sl', e'⟩ := x.obj
    refine Bool.eq_false_iff.mpr fun q => ?_
    obtain rfl : D = tp := Value.ref.inj (beq_iff_eq.mp q)
    cases (X _ _ e').symm.trans e
  ca := fun X p q => exc_class x X p q
end
end L2

set_option Elab.async false
set_option linter.all false
set_option maxRecDepth 100000
set_option maxHeartbeats 4000000
/-! ### exceptions in flight -/
namespace L2
open PySem PySem.Spec PyProof.Rows PySem.W
theorem ObjOk.obj {P : Program} {w : World} {H : Hp} {h : Heap} {a : Addr} {o : HO} (x : ObjOk P w H h a o) : ∃ u, h.get? a = some u := by
  cases o with
  | lst xs => obtain ⟨_, _, _, _, e⟩ := x; exact ⟨_, e⟩
  | tup xs => obtain ⟨_, _, _, ob, e, _⟩ := x; exact ⟨_, e⟩
  | dK kvs => obtain ⟨_, _, _, _, o, _, _, e, _⟩ := x; exact ⟨_, e⟩
  | dT kvs => obtain ⟨_, _, _, _, o, _, _, e, _⟩ := x; exact ⟨_, e⟩
  | set S n => obtain ⟨o, _, _, _, e, _⟩ := x; exact ⟨_, e⟩
  | ins C dx fs => obtain ⟨_, _, _, e, _⟩ := x; exact ⟨_, e⟩
  | own y => obtain ⟨_, e⟩ := x; exact ⟨_, e⟩
  | xd fs => obtain ⟨_, ⟨_, _, _, e, _⟩, _⟩ := x; exact ⟨_, e⟩
  | rng lo hi => obtain ⟨_, _, _, e⟩ := x; exact ⟨_, e⟩
  | frz ob u => obtain ⟨e, _⟩ := x; exact ⟨_, e⟩
  | tbl ps => exact ⟨_, (show h.get? a = some _ from x)⟩
  | met f y => exact ⟨_, (show h.get? a = some _ from x)⟩
  | ext φ => obtain ⟨_, ⟨_, e⟩, _⟩ := x; exact ⟨_, e⟩
/-- what lies behind a flight: all that is tracked or was there at h0 stands in B and stays; the frames stay up to slots -/
structure Flew (l : List Env) (B : Heap) (H : Hp) (h0 h h' : Heap) : Prop where
  big : ∀ b o, h.get? b = some o → ((H b).isSome = true ∨ ∃ o', h0.get? b = some o') → b ∉ frs l → B.get? b = some o
  stay : B.StaysIn h'
  slots : ∀ b o, h.get? b = some o → b ∈ frs l → ∃ sl, h'.get? b = some { o with slots := sl }
section
variable {l : List Env} {B : Heap} {H H0 : Hp} {h0 h h' h'' : Heap} {P : Program} {w : World}
theorem Flew.at (f : Flew l B H h0 h h') {b : Addr} {o : Obj} (e : h.get? b = some o) (t : (H b).isSome = true ∨ ∃ o', h0.get? b = some o') (n : b ∉ frs l) : h'.get? b = some o := f.stay _ _ (f.big b o e t n)
theorem Flew.hok (f : Flew l B H h0 h h') (ok : HOk P w H h) (fr : ∀ b ∈ frs l, H b = none) : HOk P w H h' := fun b o e => by
  have nf : ∀ c u, H c = some u → c ∉ frs l := fun c u q z => by rw [fr c z] at q; cases q
  refine (ok b o e).stay (fun c u hc q => ?_) (fun _ q => q) fun _ _ q => q
  rcases hc with rfl | hc
  · exact f.at q (.inl (by rw [e]; rfl)) (nf _ _ e)
  · exact f.at q (.inl (by rw [hc]; rfl)) (nf _ _ hc)
theorem Flew.un {fs : List Addr} (f : Flew l B H h0 h h') (u : Un fs [] H0 H h0 h) (hs : ∀ b ∈ frs l, b ∈ fs ∨ h0.get? b = none) (hf : ∀ b ∈ fs, b ∈ frs l) : Un fs [] H0 H h0 h' where
  keep := fun b o q n hb hx => f.at (u.keep b o q n hb hx) (.inr ⟨o, q⟩) fun z => by
    rcases hs b z with y | y
    · exact hb y
    · rw [y] at q; cases q
  slot := fun b o q n hb hx => by
    obtain ⟨sl, e⟩ := u.slot b o q n hb hx
    obtain ⟨sl', e'⟩ := f.slots b _ e (hf b hb)
    exact ⟨sl', e'⟩
  free := u.free
  there := fun b o q hx => by
    obtain ⟨o', e⟩ := u.there b o q hx
    by_cases hb : b ∈ frs l
    · obtain ⟨sl, e'⟩ := f.slots b _ e hb
      exact ⟨_, e'⟩
    · exact ⟨o', f.at e (.inr ⟨o, q⟩) hb⟩
  tups := u.tups
  frzs := u.frzs
  tbls := u.tbls
theorem Flew.on (f : Flew l B H h0 h h') (st : B.StaysIn h'') (sm : h'.UpToSlots h'') (nf : ∀ b o, h.get? b = some o → b ∈ frs l → ∀ vs, o.data ≠ .fields vs) : Flew l B H h0 h h'' := ⟨f.big, st, fun b o e hb => by
  obtain ⟨sl, q⟩ := f.slots b o e hb
  obtain ⟨sl', q'⟩ := sm b _ q (nf b o e hb)
  exact ⟨sl', q'⟩⟩
end
/-- a call that ended in an exception of the class c: what lies there -/
def CXR (P : Program) (w : World) : CXT := fun outer H s E e s' => ∃ (a : Addr) (c : Value) (H' : Hp) (B : Heap) (a0 : Value), e = .ref a ∧ s'.os = s.os ∧ AllBare s'.gens ∧ Un (frs outer) [] H H' s.heap s'.heap ∧ HOk P w H' s'.heap ∧ s.heap.get? a = none ∧
  Heap.FlyingW B outer a c a0 s'.heap ∧ (∀ b o, s'.heap.get? b = some o → ((H' b).isSome = true ∨ ∃ o', s.heap.get? b = some o') → b ∉ frs outer → B.get? b = some o) ∧ E c none H'
section
variable {X : Cx} {pins : List (Addr × Obj)} {σ : St} {H : Hp} {s : Shared} {E : XK}
theorem Inv.nofld (I : Inv X pins σ H s) {b : Addr} (hb : b ∈ frs X.stack) : ∃ o, s.heap.get? b = some o ∧ ∀ vs, o.data ≠ .fields vs := (I.stack.mem hb).2
theorem cxr_of {B h' : Heap} {a : Addr} {c a0 : Value} {g' : Array GenState} {d' : Drawn} {t' : Nat} (I : Inv X pins σ H s) (hex : X.ex = []) (hst : X.stack = X.env :: X.outer) (hfr : X.env.frame = some X.env.locals) (f : Flew X.stack B H X.s₀.heap s.heap h') (na : X.s₀.heap.get? a = none)
    (fl : Heap.FlyingW B X.outer a c a0 h') (hg : AllBare g') (e : E c none H) : CXR X.prog X.w X.outer X.H₀ X.s₀ E (.ref a) { s with heap := h', gens := g', drawn := d', toks := t' } := by
  have sub : ∀ b ∈ frs X.outer, b ∈ frs X.stack := fun b hb => by
    rw [hst]
    unfold frs at hb ⊢
    rw [List.filterMap_cons, hfr]
    exact List.mem_cons_of_mem _ hb
  have sup : ∀ b ∈ frs X.stack, b ∈ frs X.outer ∨ X.s₀.heap.get? b = none := fun b hb => by
    rcases List.mem_cons.mp (I.stkSub b hb) with z | z
    · rw [z]; exact .inr (Heap.get?_none_of_le I.ok.above)
    · exact .inl z
  have u0 := I.base
  rw [hex] at u0
  refine ⟨a, c, H, B, a0, rfl, I.os, hg, f.un u0 sup sub, f.hok I.hok I.stkFree, na, fl, fun b o q t nb => ?_, e⟩
  have q : h'.get? b = some o := q
  have nst : b ∉ frs X.stack ∨ X.s₀.heap.get? b = none := by
    by_cases z : b ∈ frs X.stack
    · rcases sup b z with y | y
      · exact absurd y nb
      · exact .inr y
    · exact .inl z
  have tr : ∀ o2, s.heap.get? b = some o2 → b ∉ frs X.stack → B.get? b = some o := fun o2 e2 z => by
    have := f.big b o2 e2 t z
    have q2 := f.stay _ _ this
    rw [q] at q2
    cases q2
    exact this
  rcases t with t | ⟨o', t⟩
  · obtain ⟨u, hu⟩ := Option.isSome_iff_exists.mp t
    obtain ⟨o2, e2⟩ := (I.hok b u hu).obj
    exact tr o2 e2 fun z => by rw [I.stkFree b z] at hu; cases hu
  · obtain ⟨o2, e2⟩ := u0.there b o' t (by simp)
    refine tr o2 e2 fun z => ?_
    rcases nst with y | y
    · exact y z
    · rw [y] at t; cases t
/-- a def's body, where an exception may leave it -/
abbrev cxR (P : Program) (w : World) (K : PySem.W.Frag) (mg : Str → Option Value) (base : Heap) (N : List Str) (qual : Str) (scope : Scope) (f : Addr) (cd : Value) (A : Around) (outer : List Env) (s : Shared) (H : Hp) (E : XK) : Cx := cxOf (CXR P w) P w K mg base N qual scope f cd A outer s H E
end
section
variable {P : Program} {w : World} {K : PySem.W.Frag} {mg : Str → Option Value} {base : Heap} {N : List Str} {qual : Str} {scope : Scope} {f : Addr} {cd : Value} {A : Around} {outer : List Env} {s0 : Shared} {H0 : Hp} {E : XK}
theorem exc_obj {C : Addr} {h : Heap} (X : K.In h) (x : XCls K C) : ∃ bm Nn nm q bs hdct sn sub ab col dd k0 k1 k2 k3 k5 mN, h.get? C = some (excClassObj nm q C Nn bs bm hdct sn sub ab col dd k0 k1 k2 k3 k5 "ValueError.__new__") ∧ h.Ns Nn mN ∧ mN "__init__" = none ∧ OwnTail h bmV bm := by
  have q := x.exc
  unfold excIn at q
  split at q
  case h_2 => cases q
  rename_i dd cdd sl ho
  split at q
  case h_2 => cases q
  rename_i C' bm k0 k1 k2 k3 n k5 hm hs
  rw [Bool.and_eq_true, Bool.and_eq_true, Bool.and_eq_true, Bool.and_eq_true, Bool.and_eq_true] at q
  obtain ⟨⟨⟨⟨⟨z1, z2⟩, z3⟩, z4⟩, z5⟩, z6⟩ := q
  have z1 := beq_iff_eq.mp z1
  have z2 := beq_iff_eq.mp z2
  have z3 : cdd.hasDel = false := by simpa using z3
  subst z1 z2
  obtain ⟨nm, bs, mro, ns, qn, hd, sn, sub, ab, col, del⟩ := cdd
  have hm : mro = .ref C' :: bm := hm
  have z3 : del = false := z3
  subst hm z3
  obtain ⟨sll⟩ := sl
  have hs : sll = [k0, k1, k2, k3, some (.builtin "ValueError.__new__"), k5] := hs
  subst hs
  exact ⟨bm, ns, nm, qn, bs, hd, sn, sub, ab, col, dd, k0, k1, k2, k3, k5, _, X _ _ ho, .of_isNs (isNs_of_in X z5), nsMap_none_of_in X z5 (beq_iff_eq.mp z6), tail_of_in X z4⟩
/-- raise C(e) -/
theorem ps_raise {C : Addr} {x : Str} {np cpos pos : Pos} {e : Expr} {te : TE} (xc : XCls K C) (hm : mg x = some (.ref C)) (he : PE (cxR P w K mg base N qual scope f cd A outer s0 H0 E) e te) (hg : Gl (cxR P w K mg base N qual scope f cd A outer s0 H0 E) x := by rfl)
    (hs : starEach [e] (envOfC qual scope s0.heap.objs.size f cd) = [(false, eval e (envOfC qual scope s0.heap.objs.size f cd))] := by rfl) (hd : (x == ("__debug__" : Str)) = false := by decide) :
    PS (cxR P w K mg base N qual scope f cd A outer s0 H0 E) (.Raise (some (.Call (.Name x np) [e] [] cpos)) none pos) (fun _ σ H => te σ H fun v H1 => [v].length ≤ 1 ∧ E (.ref C) none H1) := by
  intro pins s σ H D I h
  obtain ⟨bm, Nn, nm, q, bs, hdct, sn, sub, ab, col, dd, k0, k1, k2, k3, k5, mN, hC, hN, hni, T⟩ := exc_obj I.mod.kin xc
  have hh : (A.deeper (envOfC qual scope s0.heap.objs.size f cd)).handled = none := I.ok.hd rfl
  refine wpAny_Raise_call_subT (C := C) (nm := nm) (q := q) (N := Nn) (bs := bs) (bm := bm) (hdct := hdct) (sn := sn) (sub := sub) (ab := ab) (col := col) (dd := dd) (k0 := k0) (k1 := k1) (k2 := k2) (k3 := k3) (k5 := k5)
    PySem.F.excBase_ValueError (mN := mN) (T.hasType PySem.F.excBase_ValueError.hasBase) hh (by show (backTo cpos (starEach [e] (envOfC qual scope s0.heap.objs.size f cd))).any (·.1) = false; rw [hs]; rfl) hni (ld_glob I hg hm ⟨rfl, ?_⟩ hd)
  have ha : PA (cxR P w K mg base N qual scope f cd A outer s0 H0 E) [e] (tCons te tNil) := pa_cons he pa_nil hs
  have go := ha cpos pins s σ H (fun vs H1 => vs.length ≤ 1 ∧ E (.ref C) none H1) I h
  have go : wpAny (model P w) (A.deeper (envOfC qual scope s0.heap.objs.size f cd)) (spliced (backTo cpos (starEach [e] (envOfC qual scope s0.heap.objs.size f cd)))) (AP (cxR P w K mg base N qual scope f cd A outer s0 H0 E) pins σ (fun vs H1 => vs.length ≤ 1 ∧ E (.ref C) none H1)) (cxR P w K mg base N qual scope f cd A outer s0 H0 E).xe s := go
  show wpAny (model P w) (A.deeper (envOfC qual scope s0.heap.objs.size f cd)) (evalArgs (.ref C) true (backTo cpos (starEach [e] (envOfC qual scope s0.heap.objs.size f cd))) []) _ _ s
  rw [hs] at go ⊢
  refine Calls.evalArgs_plain (wpAny_mono go (fun us s2 z => ?_) fun _ _ y => y)
  obtain ⟨vs, H1, I1, rv, l1, q1⟩ := z
  have hl : us.length ≤ sizeLine := by
    rw [← rv.length]
    exact Nat.le_trans l1 (by decide)
  refine ⟨rfl, hl, I1.bk _ _ hC, hN.keeps I1.bk, T.keeps I1.bk, fun h' a hx => ?_⟩
  have na0 : s0.heap.get? a = none := by
    cases z : s0.heap.get? a with
    | none => rfl
    | some o =>
      obtain ⟨o', y⟩ := I1.base.there a o z (fun z => nomatch z)
      rw [hx.new] at y; cases y
  refine wpAny_leaves_madeW (base := hideAll s2.heap (frs (envOfC qual scope s0.heap.objs.size f cd :: outer))) (L := (envOfC qual scope s0.heap.objs.size f cd).locals) (h := s2.heap) I1.ok.frames rfl (fun b o z => of_hideAll _ z)
    (funFrames_hide I1.stack fun env hev b hb => List.mem_filterMap.mpr ⟨env, hev, hb⟩) hx fun h2 t x1 x2 x3 x4 => ?_
  refine cxr_of (g' := s2.gens) (d' := s2.drawn) (t' := s2.toks) I1 rfl rfl rfl ⟨fun b o z _ nb => hideAll_get _ z nb, x1.1, fun b o z hb => ?_⟩ na0 x1 I1.bare q1
  obtain ⟨o1, e1, n1⟩ := I1.nofld hb
  rw [z] at e1; cases e1
  exact x4 b o (hx.keeps _ _ z) n1
end
end L2

set_option Elab.async false
set_option linter.all false
set_option maxRecDepth 100000
set_option maxHeartbeats 4000000
/-! ### try .. except C as e -/
namespace L2
open PySem PySem.Spec PyProof.Rows PySem.W
section
variable {X : Cx} {pins : List (Addr × Obj)} {σ : St} {H : Hp} {s : Shared}
/-- a name is let go behind the suite -/
theorem name_gone {M : Model} {A : Around} {E : Value → Shared → Prop} {i : Nat} {x : Str} {pos : Pos} {Q : Unit → Shared → Prop} (I : Inv X pins σ H s) (hN : X.N.Nodup) (hi : X.N[i]? = some x) (hk : X.env.kindOf x = some .local)
    (h : ∀ s', Inv X pins (σ.set i none) H s' → Q () s') : wpAny M A (do bindName X.env x .none; unbindBehindTheSuite X.env x pos) Q E s := by
  obtain ⟨m, hn, hl⟩ := id I.loc
  have hcls : (X.env.scope.kind == .class || (X.env.scope.kind == .module && X.env.locals != X.env.globals)) = false := by rw [I.ok.kind]; rfl
  have cne := I.cne
  refine wpAny_nameGoes_keeps hk hn hcls fun h' v hn' hs => ?_
  obtain ⟨oL, _, _, hoL, _⟩ := id hn
  have old : ∀ {b : Addr} {o : Obj}, X.s₀.heap.get? b = some o → b ≠ X.env.locals := fun e => Nat.ne_of_lt (Nat.lt_of_lt_of_le (Heap.lt_size e) I.ok.above)
  refine h _ ⟨I.ok, I.os, I.bare, ⟨fun b o e n hb hx => (hs.2 b (old e)).trans (I.base.keep b o e n hb hx), fun b o e n hb hx => ?_, I.base.free, fun b o e hx => ?_, I.base.tups, I.base.frzs, I.base.tbls⟩, ⟨_, hn', fun j y v' e1 e2 e3 => ?_⟩, fun y c e => ?_, I.free, I.freeC, fun p hp => ?_, fun b ob e => ?_, by simpa using I.len⟩
  · obtain ⟨sl, e1⟩ := I.base.slot b o e n hb hx
    exact ⟨sl, (hs.2 b (old e)).trans e1⟩
  · obtain ⟨o', e1⟩ := I.base.there b o e hx
    exact ⟨o', (hs.2 b (old e)).trans e1⟩
  · by_cases hj : j = i
    · subst hj
      have hiσ : j < σ.length := by rw [I.len]; exact (List.getElem?_eq_some_iff.mp hi).1
      rw [List.getElem?_set_self hiσ] at e2
      cases e2
    · rw [List.getElem?_set_ne (Ne.symm hj)] at e2
      obtain ⟨u', r', q⟩ := hl j y v' e1 e2 e3
      refine ⟨u', r', ?_⟩
      rcases q with ⟨k, e⟩ | ⟨k, c, e, z⟩
      · have ne : y ≠ x := fun e => hj (nodup_ix hN e1 (e ▸ hi))
        exact .inl ⟨k, by simp [ne, e]⟩
      · exact .inr ⟨k, c, e, z.sameBut hs (cne y c e)⟩
  · obtain ⟨w', z⟩ := I.cell y c e
    exact ⟨w', z.sameBut hs (cne y c e)⟩
  · obtain ⟨e, n, ne, nf, d⟩ := I.pin p hp
    exact ⟨(hs.2 p.1 ne).trans e, n, ne, nf, d⟩
  · refine (I.hok b ob e).stay (fun c w' hc q => (hs.2 c ?_).trans q) (fun _ q => q) fun _ _ q => q
    rintro rfl
    rcases hc with rfl | hc
    · rw [I.free] at e; cases e
    · rw [I.free] at hc; cases hc
/-- within a try's body; within an except suite -/
abbrev Cx.tr (X : Cx) (XE : Value → Shared → Prop) (pn : List (Addr × Obj)) : Cx := { X with xe := XE, pn := X.pn ++ pn }
abbrev Cx.exs (X : Cx) (a : Addr) : Cx := { X with A := X.A.mark (some (.ref a)), calm := false, xe := fun _ _ => False }
theorem Inv.tr (I : Inv X pins σ H s) (XE : Value → Shared → Prop) : Inv (X.tr XE pins) [] σ H s :=
  ⟨⟨I.ok.mod, I.ok.kind, I.ok.glob, I.ok.blt, I.ok.above, I.ok.inj, I.ok.has, I.ok.cab, I.ok.hd, I.ok.frames, I.ok.stk, I.ok.exf, I.ok.bs, I.ok.bsz, I.ok.noex, I.ok.exfs, I.ok.funs, I.ok.frf⟩, I.os, I.bare, I.base, I.loc, I.cell, I.free, I.freeC, fun p hp => I.pin p (by simpa using hp), I.hok, I.len⟩
theorem Inv.untr {XE : Value → Shared → Prop} {ps : List (Addr × Obj)} (I : Inv (X.tr XE pins) ps σ H s) : Inv X pins σ H s :=
  ⟨⟨I.ok.mod, I.ok.kind, I.ok.glob, I.ok.blt, I.ok.above, I.ok.inj, I.ok.has, I.ok.cab, I.ok.hd, I.ok.frames, I.ok.stk, I.ok.exf, I.ok.bs, I.ok.bsz, I.ok.noex, I.ok.exfs, I.ok.funs, I.ok.frf⟩, I.os, I.bare, I.base, I.loc, I.cell, I.free, I.freeC, fun p hp => I.pin p (List.mem_append_left _ hp), I.hok, I.len⟩
theorem Inv.exs (I : Inv X pins σ H s) (a : Addr) : Inv (X.exs a) pins σ H s :=
  ⟨⟨I.ok.mod, I.ok.kind, I.ok.glob, I.ok.blt, I.ok.above, I.ok.inj, I.ok.has, I.ok.cab, fun z => (nomatch z), I.ok.frames, I.ok.stk, I.ok.exf, I.ok.bs, I.ok.bsz, I.ok.noex, I.ok.exfs, I.ok.funs, I.ok.frf⟩, I.os, I.bare, I.base, I.loc, I.cell, I.free, I.freeC, I.pin, I.hok, I.len⟩
theorem Inv.unexs {a : Addr} (ok : X.Ok) (I : Inv (X.exs a) pins σ H s) : Inv X pins σ H s := ⟨ok, I.os, I.bare, I.base, I.loc, I.cell, I.free, I.freeC, I.pin, I.hok, I.len⟩
theorem SP.untr {XE : Value → Shared → Prop} {ps : List (Addr × Obj)} {D : Ends} {f : Flow} {s' : Shared} (h : SP (X.tr XE pins) ps D f s') : SP X pins D f s' := by
  cases f with
  | next => obtain ⟨σ', H', I, q⟩ := h; exact ⟨σ', H', I.untr, q⟩
  | brk => obtain ⟨σ', H', I, q⟩ := h; exact ⟨σ', H', I.untr, q⟩
  | cont => obtain ⟨σ', H', I, q⟩ := h; exact ⟨σ', H', I.untr, q⟩
  | ret u => obtain ⟨v, σ', H', I, r, q⟩ := h; exact ⟨v, σ', H', I.untr, r, q⟩
end
/-- an exception of a callee reaches what is wanted, by the names' values -/
def PassesS (CX : CXT) (X : Cx) (E : St → XK) : Prop := ∀ (pins : List (Addr × Obj)) (σ : St) (H : Hp) (s : Shared) (e : Value) (s' : Shared), Inv X pins σ H s → CX X.stack H s (E σ) e s' → X.xe e s'
section
variable {X : Cx} {CX : CXT} {k : Nat} {f C : Addr} {fd : FuncData} {ps : List Str} {sp : Sp} {dvs : List V} {ds : List Value} {E : St → XK} {x m : Str} {p pos apos : Pos} {e o : Expr} {es : List Expr} {ta : TE} {t : TA}
theorem run_fnS {pins : List (Addr × Obj)} {σ : St} {H : Hp} {s : Shared} {Q : VK} {us : List Value} {vs : List V} (F : FnOk X.prog X.w X.K X.mg X.base CX k f fd ps sp) (hr : Room k X.A) (hb : Binds X.K fd ps ds) (hd : Vals dvs ds) (hx : PassesS CX X E)
    (I : Inv X pins σ H s) (r : Vals vs us) (h : sp (vs ++ dvs) H Q (E σ)) : wpAny (model X.prog X.w) X.A (call (.ref f) us) (EP X pins σ Q) X.xe s := by
  have r2 : Vals (vs ++ dvs) (us ++ ds) := r.append hd
  have hl : (us ++ ds).length = ps.length := by rw [← r2.length]; exact F.len _ _ _ _ h
  refine wpAny_call (codeAny_mono (F.run X.A X.stack s H ⟨us, []⟩ (us ++ ds) (vs ++ dvs) Q (E σ) hr I.env0 (hb s us I.kIn hl) r2 h) fun r s' hq => ?_)
  cases r with
  | error e => exact hx pins σ H s e s' I hq
  | ok fl =>
    cases fl with
    | ret u => exact I.after hq
    | next => exact False.elim hq
    | brk => exact False.elim hq
    | cont => exact False.elim hq
def tCallS (sp : Sp) (dvs : List V) (E : St → XK) (t : TA) : TE := fun σ H Q => tCall sp dvs (E σ) t σ H Q
theorem pe_callS (F : FnOk X.prog X.w X.K X.mg X.base CX k f fd ps sp) (hr : Room k X.A) (hg : Gl X x) (hm : X.mg x = some (.ref f)) (hk : PySem.W.keepIn X.K (.ref f) = true) (hb : Binds X.K fd ps ds) (hd : Vals dvs ds) (hx : PassesS CX X E)
    (ha : PA X (e :: es) t) (hdb : (x == ("__debug__" : Str)) = false := by decide) (he : starEach (e :: es) X.env = (false, eval e X.env) :: starEach es X.env := by rfl) (hpl : (backTo pos (starEach es X.env)).any (·.1) = false := by rfl) :
    PE X (.Call (.Name x p) (e :: es) [] pos) (tCallS sp dvs E t) := by
  intro pins s σ H Q I h
  refine wpAny_Call_Name_kw (ld_glob I hg hm ?_ hdb)
  refine PySem.W.callWith_K (h₀ := X.base) I.ok.mod.kin hk (thn (ha pos pins s σ H _ I h) fun us s1 ⟨vs, H1, I1, r, q⟩ => ⟨I1.kIn, ?_⟩) he hpl
  exact run_fnS F hr hb hd hx I1 r q
end
section
variable {X : Cx}
/-- the wish of a try's body about exceptions of the class at M, and what the suite then asks -/
def trE (K : PySem.W.Frag) (M : Addr) (i : Nat) (ts : TS) (D : Ends) : St → XK := fun σ c _ H => exmOne K c (.ref M) = some true ∧ ∀ a, H a = none →
  ts { nx := fun σ2 H2 => D.nx (σ2.set i none) H2, rt := D.rt, bk := fun σ2 H2 => D.bk (σ2.set i none) H2, ct := fun σ2 H2 => D.ct (σ2.set i none) H2 } (σ.set i (some (.ref a))) (upd H a (excO a c))
theorem ps_tryAs {i : Nat} {M : Addr} {x n : Str} {body : List Stmt} {b0 : Stmt} {suite : List Stmt} {np hpos pos : Pos} {tb : (St → XK) → TS} {ts : TS} (nd : X.N.Nodup) (hi : X.N[i]? = some n) (hl : X.env.kindOf n = some .local)
    (hst : X.stack = X.env :: X.outer) (hfr : X.env.frame = some X.env.locals) (hm : X.mg x = some (.ref M)) (hg : Gl X x)
    (hb : ∀ XE pn E, PassesS (CXR X.prog X.w) (X.tr XE pn) E → PSs (X.tr XE pn) body (tb E)) (hs : ∀ a, PSs (X.exs a) (b0 :: suite) ts) (hdb : (x == ("__debug__" : Str)) = false := by decide) :
    PS X (.Try body [.ExceptHandler (some (.Name x np)) (some n) (b0 :: suite) hpos] [] [] pos) (fun D σ H => tb (trE X.K M i ts D) D σ H) := by
  intro pins s σ H D I h
  refine wpAny_Try_except ?_
  refine wpAny_mono (hb (fun e s₁ => wpAny (model X.prog X.w) X.A (noteFrame e X.env) (fun _ s₂ => wpAny (model X.prog X.w) X.A (setFlight e none) (fun _ s₃ => wpAny (model X.prog X.w) X.A (handleBy e X.env [.ExceptHandler (some (.Name x np)) (some n) (b0 :: suite) hpos]) (SP X pins D) X.xe s₃) X.xe s₂) X.xe s₁)
    pins (trE X.K M i ts D) ?_ [] s σ H D (I.tr _) h) (fun f s1 z => ?_) fun _ _ z => z
  · intro ps σ1 H1 s1 e s' I1 hx
    have I1 := I1.untr
    obtain ⟨a, c, H', B, a0, rfl, os, bare, un, hok, na, fl, big, hx1, hx2⟩ := hx
    have fl : Heap.FlyingW B (X.env :: X.outer) a c a0 s'.heap := hst ▸ fl
    have hfm : X.A.frames = some (X.env :: X.outer) := hst ▸ I1.ok.frames
    have un : Un (frs X.stack) [] H1 H' s1.heap s'.heap := un
    have big : ∀ b o, s'.heap.get? b = some o → ((H' b).isSome = true ∨ ∃ o', s1.heap.get? b = some o') → b ∉ frs X.stack → B.get? b = some o := big
    have J0 := I1.call' (ch := []) os un hok bare (fun b z => nomatch z)
    have nf : ∀ b o, s'.heap.get? b = some o → b ∈ frs X.stack → ∀ vs, o.data ≠ .fields vs := fun b o e hb => by
      obtain ⟨o1, e1, n1⟩ := J0.nofld hb
      rw [e] at e1; cases e1
      exact n1
    refine wpAny_looks_onW hfm hfr fl fun h4 held sm4 => ?_
    refine wpAny_landsW held fun h5 fl5 sm5 => ?_
    have f5 : Flew X.stack B H' s1.heap s'.heap h5 := ⟨big, fl5.1, fun b o e hb => (sm4.trans sm5) b o e (nf b o e hb)⟩
    have J5 : Inv X pins σ1 H' { s' with heap := h5 } := I1.call' (ch := []) os (f5.un un (fun _ z => .inl z) fun _ z => z) (f5.hok hok J0.stkFree) bare (fun b z => nomatch z)
    refine wpAny_handleBy_cons (codeAny_handlers_test ?_) (by intro q; cases q)
    refine ld_glob (J5.exs a) hg hm ?_ hdb
    have LT : Looks (model X.prog X.w) h5 (typeOf (.ref a)) c := by
      obtain ⟨ob, o1, o2⟩ := fl5.there
      exact o2 ▸ (Looks.ld o1).andThen .now
    refine (exm_one J5.kIn LT hx1).here ?_
    refine codeAny_handlers_suite_as ?_
    refine lands_againW fl5 fun h6 fl6 sm6 => ?_
    have f6 := f5.on fl6.1 sm6 nf
    have un6 := f6.un un (fun _ z => .inl z) fun _ z => z
    have hok6 := f6.hok hok J0.stkFree
    obtain ⟨oe, oe1, oe2⟩ := fl6.there
    have nst : a ∉ frs X.stack := fun z => by
      obtain ⟨o1, e1, n1⟩ := I1.nofld z
      rw [na] at e1; cases e1
    have na' : H' a = none := by
      cases z : H' a with
      | none => rfl
      | some u =>
        obtain ⟨o1, e1⟩ := (hok a u z).obj
        have := big a o1 e1 (.inl (by rw [z]; rfl)) nst
        rw [fl.2.1] at this; cases this
    have un7 : Un (frs X.stack) [] H1 (upd H' a (excO a c)) s1.heap h6 := ⟨un6.keep, un6.slot, fun b o q n hx => by rw [upd_ne (fun z => by rw [z, na] at q; cases q)]; exact un6.free b o q n hx, un6.there,
      fun b xs q => by rw [upd_ne (ne_of_none (un6.tups b xs q) na')]; exact un6.tups b xs q, fun b o u q => by rw [upd_ne (ne_of_none (un6.frzs b o u q) na')]; exact un6.frzs b o u q, fun b ps q => by
        obtain ⟨more, z⟩ := un6.tbls b ps q
        exact ⟨more, by rw [upd_ne (ne_of_none z na')]; exact z⟩⟩
    have hok7 : HOk X.prog X.w (upd H' a (excO a c)) h6 := fun b u q => by
      by_cases hb : b = a
      · subst hb
        rw [upd_same] at q; cases q
        exact excO_ok ⟨oe, oe1, oe2⟩
      · rw [upd_ne hb] at q
        exact (hok6 b u q).stay (fun _ _ _ z => z) (fun d z => by rw [upd_ne (ne_of_none z na')]; exact z) fun d xs z => by rw [upd_ne (ne_of_none z na')]; exact z
    have J6 : Inv X pins σ1 (upd H' a (excO a c)) { s' with heap := h6 } := I1.call' (ch := []) os un7 hok7 bare (fun b z => nomatch z)
    refine store_ok J6 nd hi (Or.inl hl) (v := .ref a) rfl (fun s7 J7 => ?_) (.inr hl)
    refine wpAny_mono (hs a pins s7 _ _ _ (J7.exs a) (hx2 a na')) (fun f s8 z => ?_) fun _ _ z => z.elim
    cases f with
    | next =>
      obtain ⟨σ8, H8, J8, q8⟩ := z
      exact name_gone (J8.unexs J7.ok) nd hi hl fun s9 J9 => ⟨_, H8, J9, q8⟩
    | brk =>
      obtain ⟨σ8, H8, J8, q8⟩ := z
      exact name_gone (J8.unexs J7.ok) nd hi hl fun s9 J9 => ⟨_, H8, J9, q8⟩
    | cont =>
      obtain ⟨σ8, H8, J8, q8⟩ := z
      exact name_gone (J8.unexs J7.ok) nd hi hl fun s9 J9 => ⟨_, H8, J9, q8⟩
    | ret u =>
      obtain ⟨v, σ8, H8, J8, r8, q8⟩ := z
      exact name_gone (J8.unexs J7.ok) nd hi hl fun s9 J9 => ⟨v, _, H8, J9, r8, q8⟩
  · have z := z.untr
    cases f with
    | next => exact wpAny_execs_nil z
    | brk => exact z
    | cont => exact z
    | ret u => exact z
end
end L2

set_option Elab.async false
set_option linter.all false
set_option maxRecDepth 100000
set_option maxHeartbeats 4000000
namespace L2
open PySem PySem.Spec PyProof.Rows PySem.W
/-! ### a def that an exception may leave -/
theorem Fun.okR {P : Program} {w : World} {K : PySem.W.Frag} {mg : Str → Option Value} {base : Heap} {x qual : Str} {st : Stmt} {f : Addr} {fd : FuncData} {N ps : List Str} {k : Nat} {sp : Sp} (F : Fun K x qual st f fd) (S : FnScope N ps (defScope st)) (len : ∀ vs H Q E, sp vs H Q E → vs.length = ps.length)
    (hbody : ∀ (cdv : Value) (A : Around) (outer : List Env) (s : Shared) (H : Hp) (vs : List V) (Q : VK) (E : XK), Room k (A.deeper (envOfC qual (defScope st) s.heap.objs.size f cdv)) → sp vs H Q E →
      ∃ t, PSs (cxR P w K mg base N qual (defScope st) f cdv A outer s H E) (defBody st) t ∧ t { nx := fun _ H' => Q .non H', rt := Q } (start N vs) H) : FnOk P w K mg base (CXR P w) (k + 1) f fd ps sp := by
  obtain ⟨oc, od, kV, doc, pm, an, cdv, ct, osl, rfl, lk, hcd⟩ := F.ex
  exact fn_of lk hcd S len fun A outer s H vs Q E hr hsp => hbody cdv A outer s H vs Q E hr hsp
/-! ### isinstance of an exception -/
section
variable {X : Cx}
theorem exc_at {H : Hp} {h : Heap} {P : Program} {w : World} {a : Addr} {c : Value} (ok : HOk P w H h) (e : H a = some (excO a c)) : ∃ o, h.get? a = some o ∧ o.cls = c := (ok a _ e).1
theorem call_isiO : CallR X (.builtin "isinstance") (fun xs H Q => ∃ a C D b, xs = [.ref a, .ref D] ∧ H a = some (excO a (.ref C)) ∧ XCls X.K C ∧ kitOne X.K (.ref C) (.ref D) = some b ∧ Q (.bl b) H) := by
  intro pins s σ H xs us Q I r h
  obtain ⟨a, C, D, b, rfl, e, xc, k, q⟩ := h
  obtain ⟨u, u2, rfl, r1, r2⟩ := vals2 r
  cases (show u = Value.ref a from r1)
  cases (show u2 = Value.ref D from r2)
  exact kia_one (kitx_exc xc) I.kIn (exc_at I.hok e) k (by intro z; cases z) fun tk => ⟨.bl b, H, I.tok tk, rfl, q⟩
theorem call_isiT : CallR X (.builtin "isinstance") (fun xs H Q => ∃ a C T b, xs = [.ref a, .ty T] ∧ H a = some (excO a (.ref C)) ∧ XCls X.K C ∧ kitOne X.K (.ref C) (.type T) = some b ∧ Q (.bl b) H) := by
  intro pins s σ H xs us Q I r h
  obtain ⟨a, C, T, b, rfl, e, xc, k, q⟩ := h
  obtain ⟨u, u2, rfl, r1, r2⟩ := vals2 r
  cases (show u = Value.ref a from r1)
  cases (show u2 = Value.type T from r2)
  exact kia_one (kitx_exc xc) I.kIn (exc_at I.hok e) k (by intro z; cases z) fun tk => ⟨.bl b, H, I.tok tk, rfl, q⟩
theorem vals_refs : ∀ {Ds : List Addr} {us : List Value}, Vals (Ds.map V.ref) us → us = Ds.map Value.ref
  | [], _, .nil => rfl
  | D :: Ds, _, .cons r t => by
    rw [List.map_cons, vals_refs t]
    congr 1
theorem call_isiU : CallR X (.builtin "isinstance") (fun xs H Q => ∃ (a C tp : Addr) (Ds : List Addr) (b : Bool), xs = [.ref a, .ref tp] ∧ H a = some (excO a (.ref C)) ∧ H tp = some (.tup (Ds.map V.ref)) ∧ XCls X.K C ∧ kitAny X.K (.ref C) (Ds.map Value.ref) = some b ∧ Q (.bl b) H) := by
  intro pins s σ H xs us Q I r h
  obtain ⟨a, C, tp, Ds, b, rfl, e, et, xc, k, q⟩ := h
  obtain ⟨u, u2, rfl, r1, r2⟩ := vals2 r
  cases (show u = Value.ref a from r1)
  cases (show u2 = Value.ref tp from r2)
  obtain ⟨_, its, rv, ob, e1, c1, n1, d1⟩ := I.hok tp _ et
  obtain ⟨oc, od, da, osl⟩ := ob
  have c1 : oc = .type "tuple" := c1
  have d1 : da = .seq its.toArray n1 := d1
  subst c1 d1
  rw [vals_refs rv] at e1
  exact kia_tup (kitx_exc xc) I.kIn (exc_at I.hok e) e1 k (by intro z; cases z) fun tk => ⟨.bl b, H, I.tok tk, rfl, q⟩
end
/-! ### dicts that are alike -/
section
variable {X : Cx}
end
end L2

set_option Elab.async false
set_option linter.all false
set_option maxRecDepth 100000
set_option maxHeartbeats 4000000
namespace L2
open PySem PySem.Spec PyProof.Rows
/-! ### sorting by a pure comparison -/
/-! ### tuples of ints in their order -/
end L2

set_option Elab.async false
set_option linter.all false
set_option maxRecDepth 100000
set_option maxHeartbeats 4000000
namespace L2
open PySem PySem.Spec PyProof.Rows
section
variable {prog : Program} {w : World} {A : Around} {E : Value → Shared → Prop} {s : Shared}
/-- a tuple of ints in the heap, not empty -/
def TupI (h : Heap) (v : Value) (is : List Int) : Prop := ∃ a o xs n, v = .ref a ∧ h.get? a = some o ∧ o.cls = .type "tuple" ∧ o.data = .seq xs n ∧ IntsAre xs.toList is ∧ is ≠ []
end
end L2

set_option Elab.async false
set_option linter.all false
set_option maxRecDepth 100000
set_option maxHeartbeats 4000000
namespace L2
open PySem PySem.Spec PyProof.Rows
section
variable {prog : Program} {w : World} {A : Around} {E : Value → Shared → Prop} {s : Shared}
theorem TupI.keep {h h' : Heap} {v : Value} {is : List Int} (t : TupI h v is) (k : ∀ b o, h.get? b = some o → o.cls = .type "tuple" → h'.get? b = some o) : TupI h' v is := by
  obtain ⟨a, o, xs, n, e, h1, h2, h3, h4⟩ := t
  exact ⟨a, o, xs, n, e, k a o h1 h2, h2, h3, h4⟩
end
end L2

set_option Elab.async false
set_option linter.all false
set_option maxRecDepth 100000
set_option maxHeartbeats 4000000
namespace L2
open PySem PySem.Spec PyProof.Rows
section
variable {prog : Program} {w : World} {A : Around} {E : Value → Shared → Prop} {s : Shared}
end
end L2

set_option Elab.async false
set_option linter.all false
set_option maxRecDepth 100000
set_option maxHeartbeats 4000000
namespace L2
open PySem PySem.Spec PyProof.Rows
section
variable {prog : Program} {w : World} {A : Around} {E : Value → Shared → Prop} {s : Shared}
end
/-! ### what comes out -/
theorem paired_join {α β γ : Type} {R : α → β → Prop} {S : α → γ → Prop} {T : β → γ → Prop} (h : ∀ x y z, R x y → S x z → T y z) : ∀ {xs : List α} {ys : List β} {zs : List γ}, Paired R xs ys → Paired S xs zs → Paired T ys zs := by
  intro xs ys zs p
  induction p generalizing zs with
  | nil =>
    intro q
    cases q
    exact .nil
  | cons x p ih =>
    intro q
    cases q with
    | cons y q => exact .cons (h _ _ _ x y) (ih q)
/-- values that are tuples of ints, not empty -/
def TupsAt (K : PySem.W.Frag) (H : Hp) (ys : List V) (ks : List (List Int)) : Prop := Paired (fun (y : V) (k : List Int) => ∃ t, y = .ref t ∧ SqT K H t (k.map V.int) ∧ k ≠ []) ys ks
section
variable {X : Cx}
theorem Inv.tups {pins : List (Addr × Obj)} {σ : St} {H : Hp} {s : Shared} (I : Inv X pins σ H s) {ys : List V} {ks : List (List Int)} {its : List Value} (h : TupsAt X.K H ys ks) (r : Vals ys its) : Paired (TupI s.heap) its ks :=
  paired_join (R := RelV) (fun y v k rv z => by
    obtain ⟨t, rfl, hs, hk⟩ := z
    cases rv
    obtain ⟨is, r1, p1, _⟩ := I.tuple hs
    obtain ⟨o, e1, c1, n, d1⟩ := p1
    exact ⟨t, o, is.toArray, n, rfl, e1, c1, d1, intsAre_of r1, hk⟩) r h
end
end L2

set_option Elab.async false
set_option linter.all false
set_option maxRecDepth 100000
set_option maxHeartbeats 4000000
namespace HT
open PySem PyProof.Rows
section
open PySem.SeqAt
open PySem.AutoSeq1 (wpAny_loadPart')
open PySem.MeetsSeq PySem.MeetsSeq2 PySem.MeetsSeq3
end
section
variable {prog : Program} {w : World} {A : Around} {E : Value → Shared → Prop} {s : Shared}
end
end HT
namespace L2
open PySem PySem.Spec PyProof.Rows
section
variable {X : Cx}
end
end L2

set_option Elab.async false
set_option linter.all false
set_option maxRecDepth 100000
set_option maxHeartbeats 4000000
/-! ### try .. except C, with no name; dicts alike in another order -/
namespace L2
open PySem PySem.Spec PyProof.Rows PySem.W
section
variable {X : Cx}
theorem passN {P : Program} {w : World} : Passes (CXR P w) X (fun _ _ _ => False) := fun _ _ _ _ _ _ _ h => by
  obtain ⟨_, _, _, _, _, _, _, _, _, _, _, _, _, q⟩ := h
  exact q.elim
end
end L2

set_option linter.all false
set_option maxRecDepth 100000
set_option maxHeartbeats 4000000
namespace L2
open PySem
/-! ### a table laid anew loses nothing -/
def Msk (m : Nat) : Prop := m = 7 ∨ m = 15 ∨ m = 31 ∨ m = 63
def itI (mask : Nat) : Nat → Nat → Nat
  | 0, i => i
  | m + 1, i => itI mask m ((i * 5 + 1) % (mask + 1))
def visits (mask : Nat) : Bool := (List.range (mask + 1)).all fun i => (List.range (mask + 1)).all fun j => (List.range (mask + 1)).any fun m => itI mask m i == j
theorem visits_ok {mask : Nat} (h : Msk mask) : visits mask = true := by
  rcases h with rfl | rfl | rfl | rfl
  · decide +kernel
  · decide +kernel
  · decide +kernel
  · decide +kernel
theorem visits_at {mask i j : Nat} (h : Msk mask) (hi : i ≤ mask) (hj : j ≤ mask) : ∃ m, m ≤ mask ∧ itI mask m i = j := by
  have := visits_ok h
  unfold visits at this
  rw [List.all_eq_true] at this
  have := this i (List.mem_range.mpr (by omega))
  rw [List.all_eq_true] at this
  have := this j (List.mem_range.mpr (by omega))
  obtain ⟨m, hm, e⟩ := List.any_eq_true.mp this
  exact ⟨m, by have := List.mem_range.mp hm; omega, eq_of_beq e⟩
/-- the walk of the places, with what is left of the hash -/
def itP (mask : Nat) : Nat → Nat → Nat → Nat × Nat
  | 0, i, p => (i, p)
  | m + 1, i, p => itP mask m ((i * 5 + 1 + p / 32) % (mask + 1)) (p / 32)
theorem itP_zero (mask : Nat) : ∀ (m i : Nat), itP mask m i 0 = (itI mask m i, 0)
  | 0, i => rfl
  | m + 1, i => by
    show itP mask m ((i * 5 + 1 + 0 / 32) % (mask + 1)) (0 / 32) = _
    rw [Nat.zero_div, Nat.add_zero, itP_zero mask m]
    rfl
theorem itP_add (mask : Nat) : ∀ (m k i p : Nat), itP mask (m + k) i p = itP mask k (itP mask m i p).1 (itP mask m i p).2
  | 0, k, i, p => by rw [Nat.zero_add]; rfl
  | m + 1, k, i, p => by
    rw [Nat.succ_add]
    exact itP_add mask m k _ _
theorem itP_snd (mask : Nat) : ∀ (m i p : Nat), (itP mask m i p).2 = p / 32 ^ m
  | 0, i, p => by simp [itP]
  | m + 1, i, p => by
    show (itP mask m _ (p / 32)).2 = _
    rw [itP_snd mask m, Nat.div_div_eq_div_mul, Nat.pow_succ, Nat.mul_comm]
theorem itP_le (mask : Nat) : ∀ (m i p : Nat), i ≤ mask → (itP mask m i p).1 ≤ mask
  | 0, i, p, h => h
  | m + 1, i, p, h => itP_le mask m _ _ (Nat.le_of_lt_succ (Nat.mod_lt (i * 5 + 1 + p / 32) (Nat.succ_pos mask)))
theorem all_met {mask i p j : Nat} (h : Msk mask) (hi : i ≤ mask) (hp : p < 2 ^ 64) (hj : j ≤ mask) : ∃ m, m < SetTable.turns mask ∧ (itP mask m i p).1 = j := by
  have h2 : (itP mask 13 i p).2 = 0 := by
    rw [itP_snd]
    exact Nat.div_eq_of_lt (Nat.lt_trans hp (by decide))
  obtain ⟨m, hm, e⟩ := visits_at h (itP_le mask 13 i p hi) hj
  refine ⟨13 + m, by unfold SetTable.turns; omega, ?_⟩
  rw [itP_add, h2, itP_zero]
  exact e
theorem free_none (mask : Nat) (ow : Array (Option Nat)) : ∀ (f i p : Nat), SetTable.layClean.free mask ow f i p = none → ∀ m, m < f → (ow.getD (itP mask m i p).1 (some 0)).isNone = false
  | 0, i, p, _, m, h => absurd h (Nat.not_lt_zero _)
  | f + 1, i, p, e, m, h => by
    unfold SetTable.layClean.free at e
    cases hq : (List.range (SetTable.runEnd mask i + 1 - i)).find? fun k => (ow.getD (i + k) (some 0)).isNone with
    | some k => rw [hq] at e; cases e
    | none =>
      rw [hq] at e
      cases m with
      | zero =>
        have := List.find?_eq_none.mp hq 0 (List.mem_range.mpr (by unfold SetTable.runEnd; split <;> omega))
        rw [Nat.add_zero] at this
        cases hz : (ow.getD i (some 0)).isNone with
        | true => exact absurd hz this
        | false => exact hz
      | succ m => exact free_none mask ow f _ _ e m (by omega)
theorem free_some (mask : Nat) (ow : Array (Option Nat)) : ∀ (f i p j : Nat), SetTable.layClean.free mask ow f i p = some j → (ow.getD j (some 0)).isNone = true
  | 0, i, p, j, e => by cases e
  | f + 1, i, p, j, e => by
    unfold SetTable.layClean.free at e
    cases hq : (List.range (SetTable.runEnd mask i + 1 - i)).find? fun k => (ow.getD (i + k) (some 0)).isNone with
    | some k =>
      rw [hq] at e
      cases e
      exact List.find?_some (p := fun k => (ow.getD (i + k) (some 0)).isNone) hq
    | none =>
      rw [hq] at e
      exact free_some mask ow f _ _ j e
theorem set_perm {α : Type} : ∀ {l : List (Option α)} {j : Nat} {x : α}, l[j]? = some none → ((l.set j (some x)).filterMap id).Perm (x :: l.filterMap id)
  | [], j, x, h => by cases h
  | o :: l, 0, x, h => by
    cases h
    simp
  | o :: l, j + 1, x, h => by
    have ih := set_perm (l := l) (j := j) (x := x) h
    rw [List.set_cons_succ]
    cases o with
    | none => simpa using ih
    | some y =>
      simp only [List.filterMap_cons, id]
      exact (ih.cons y).trans (.swap ..)
structure Lay (mask : Nat) (r : Array (Option Nat) × Nat) : Prop where
  size : r.1.size = mask + 1
  perm : (r.1.toList.filterMap id).Perm (List.range r.2)
theorem Lay.step {mask : Nat} (hm : Msk mask) {r : Array (Option Nat) × Nat} (x : Lay mask r) (hk : r.2 ≤ mask) (h : Int) : ∃ j, SetTable.layClean.free mask r.1 (SetTable.turns mask) (SetTable.bits h % (mask + 1)) (SetTable.bits h) = some j ∧ Lay mask (r.1.setIfInBounds j (some r.2), r.2 + 1) := by
  obtain ⟨ow, k⟩ := r
  dsimp only at *
  have hz : ow.size = mask + 1 := x.size
  have hlen := x.perm.length_eq
  dsimp only at hlen
  rw [List.length_range] at hlen
  cases hf : SetTable.layClean.free mask ow (SetTable.turns mask) (SetTable.bits h % (mask + 1)) (SetTable.bits h) with
  | none =>
    exfalso
    have hall : ∀ j, j ≤ mask → (ow.getD j (some 0)).isNone = false := fun j hj => by
      obtain ⟨m, h1, h2⟩ := all_met hm (i := SetTable.bits h % (mask + 1)) (p := SetTable.bits h) (Nat.le_of_lt_succ (Nat.mod_lt (SetTable.bits h) (Nat.succ_pos mask))) (by
        unfold SetTable.bits
        have h1 := Int.emod_lt_of_pos h (show (0 : Int) < 2 ^ 64 by decide)
        have h0 := Int.emod_nonneg h (show (2 ^ 64 : Int) ≠ 0 by decide)
        omega) hj
      have := free_none mask ow _ _ _ hf m h1
      rwa [h2] at this
    have : (ow.toList.filterMap id).length = ow.toList.length := by
      rw [List.length_filterMap_eq_countP, List.countP_eq_length]
      intro o ho
      obtain ⟨j, hj, e⟩ := List.mem_iff_getElem.mp ho
      rw [Array.length_toList] at hj
      have := hall j (by omega)
      rw [Array.getD_eq_getD_getElem?, Array.getElem?_eq_getElem hj] at this
      rw [← e, Array.getElem_toList]
      cases hq : ow[j] with
      | none => rw [hq] at this; cases this
      | some y => rfl
    have e9 : ow.toList.length = ow.size := Array.length_toList
    omega
  | some j =>
    have hs := free_some mask ow _ _ _ _ hf
    have hj : j < ow.size := by
      refine Nat.lt_of_not_le fun z => ?_
      rw [Array.getD_eq_getD_getElem?, Array.getElem?_eq_none z] at hs
      cases hs
    have hn : ow.toList[j]? = some none := by
      rw [Array.getD_eq_getD_getElem?, Array.getElem?_eq_getElem hj] at hs
      rw [Array.getElem?_toList, Array.getElem?_eq_getElem hj]
      cases hq : ow[j] with
      | none => rfl
      | some y => rw [hq] at hs; cases hs
    refine ⟨j, rfl, ⟨by simp [hz], ?_⟩⟩
    dsimp only
    rw [Array.toList_setIfInBounds, List.range_succ]
    exact (set_perm hn).trans ((x.perm.cons k).trans (List.perm_append_singleton k _).symm)
end L2

set_option Elab.async false
set_option linter.all false
set_option maxRecDepth 100000
set_option maxHeartbeats 4000000

namespace L2
open PySem PySem.Spec PyProof.Rows
/-! ### sets of texts -/
def setBy (w : World) : Bool := w.params.followText "set-order"
def keyE (e : Int × Value) : Str := match e.2 with
  | .str y _ => y
  | _ => Str.ofString ""
def GoodE (w : World) (e : Int × Value) : Prop := ∃ y tk, e = (keyH w (.inr y), Value.str y tk)
structure TObj (w : World) (o : Obj) (es : Array (Int × Value)) (ep : Nat) (t : SetTable) (xs : List Str) : Prop where
  ex : o.ExactSet
  dat : o.data = .set es ep t
  good : ∀ e ∈ es.toList, GoodE w e
  perm : (es.toList.map keyE).Perm xs
  nd : xs.Nodup
  len : xs.length ≤ 1000
  fit : t.fits es.size = true
  led : t.led = !setBy w
  pl : es.size ≠ 0 → t.plain = false
  msk : es.size = 0 → Msk t.mask
def TxS (w : World) (h : Heap) (a : Addr) (xs : List Str) : Prop := ∃ o es ep t, h.get? a = some o ∧ TObj w o es ep t xs
theorem TxS.at' {w : World} {h h' : Heap} {a : Addr} {xs : List Str} (x : TxS w h a xs) (k : ∀ o, h.get? a = some o → h'.get? a = some o) : TxS w h' a xs :=
  let ⟨o, es, ep, t, e, r⟩ := x; ⟨o, es, ep, t, k o e, r⟩
theorem TxS.typeIs {w : World} {s : Shared} {a : Addr} {xs : List Str} (x : TxS w s.heap a xs) : s.TypeIs (.ref a) "set" := let ⟨o, _, _, _, e, r⟩ := x; ⟨o, e, r.ex.1⟩
section
variable {w : World} {P : Program} {o : Obj} {es : Array (Int × Value)} {ep : Nat} {t : SetTable} {xs : List Str}
theorem TObj.size (x : TObj w o es ep t xs) : es.size = xs.length := by
  have := x.perm.length_eq
  rw [List.length_map, Array.length_toList] at this
  exact this
end
section
variable {prog : Program} {w : World} {A : Around} {E : Value → Shared → Prop} {s : Shared} {a : Addr}
end

/-! ### the order in which a set is walked -/
section
variable {prog : Program} {w : World} {A : Around} {E : Value → Shared → Prop} {s : Shared} {a : Addr}
end
end L2

set_option Elab.async false
set_option linter.all false
set_option maxRecDepth 100000
set_option maxHeartbeats 4000000

namespace L2
open PySem PySem.Spec PyProof.Rows
/-! ### a set of texts, walked -/
def TIt (h : Heap) (it a : Addr) (ep n : Nat) (f : Value) (i : Nat) : Prop := ∃ o, h.get? it = some o ∧ o.cls = .type "set_iterator" ∧ o.data = .fields #[f, rawInt i, .ref a, rawInt n, rawInt ep]
theorem TIt.at' {h h' : Heap} {it a : Addr} {ep n i : Nat} {f : Value} (x : TIt h it a ep n f i) (k : ∀ o, h.get? it = some o → h'.get? it = some o) : TIt h' it a ep n f i := let ⟨o, e, r⟩ := x; ⟨o, k _ e, r⟩
theorem TIt.typeIs {s : Shared} {it a : Addr} {ep n i : Nat} {f : Value} (x : TIt s.heap it a ep n f i) : s.TypeIs (.ref it) "set_iterator" := let ⟨o, e, r, _⟩ := x; ⟨o, e, r⟩
inductive Md (w : World) (h : Heap) (I a T : Addr) (es : Array (Int × Value)) (ep : Nat) (t : SetTable) (os : List (Int × Value)) (i : Nat) : Prop
  | text (b : setBy w = true) (e : os = (pickOrder (w.params.setOrder a ep) es).toList) (x : TIt h I a ep es.size (rawInt 0) i)
  | draw (pl : List Nat) (b : setBy w = false) (e : os.length = pl.length ∧ ∀ (k j : Nat), pl[k]? = some j → os[k]? = es[j]?) (x : TIt h I a ep es.size (.ref T) i) (y : ∃ o n, h.get? T = some o ∧ o.data = .seq (pl.map fun j => rawInt (j : Nat)).toArray n) (z : I ≠ T)
  | tab (sl : Nat) (b : setBy w = false) (l : es.size ≤ 1) (e : os = es.toList) (x : TIt h I a ep es.size (rawInt sl) i) (y : SetTable.below t.place sl = i)
section
variable {prog : Program} {w : World} {A : Around} {E : Value → Shared → Prop} {s : Shared} {a it : Addr}
end
end L2

set_option Elab.async false
set_option linter.all false
set_option maxRecDepth 100000
set_option maxHeartbeats 4000000

namespace L2
open PySem PySem.Spec PyProof.Rows
section
variable {prog : Program} {w : World} {A : Around} {E : Value → Shared → Prop} {s : Shared} {a I T : Addr}
theorem Md.keep {h h' : Heap} {es : Array (Int × Value)} {ep : Nat} {t : SetTable} {os : List (Int × Value)} {i : Nat} (x : Md w h I a T es ep t os i) (k : ∀ b, b = I ∨ b = T → ∀ o, h.get? b = some o → h'.get? b = some o) : Md w h' I a T es ep t os i := by
  cases x with
  | text b e x => exact .text b e (x.at' (k I (.inl rfl)))
  | draw pl b e x y z =>
    obtain ⟨o, n, e1, e2⟩ := y
    exact .draw pl b e (x.at' (k I (.inl rfl))) ⟨o, n, k T (.inr rfl) o e1, e2⟩ z
  | tab sl b l e x y => exact .tab sl b l e (x.at' (k I (.inl rfl))) y
end
end L2

set_option Elab.async false
set_option linter.all false
set_option maxRecDepth 100000
set_option maxHeartbeats 4000000

namespace L2
open PySem PySem.Spec PyProof.Rows
/-! ### a set of texts, collected and sorted -/
section
variable {prog : Program} {w : World} {A : Around} {E : Value → Shared → Prop} {s : Shared} {a : Addr}
end
section
variable {X : Cx} {pins : List (Addr × Obj)} {σ : List (Option V)} {H : Hp} {s : Shared}
end
end L2

set_option Elab.async false
set_option linter.all false
set_option maxRecDepth 100000
set_option maxHeartbeats 4000000

namespace L2
open PySem PySem.Spec PyProof.Rows
/-! ### sets of texts, laid anew, filled of one another -/
section
variable {prog : Program} {w : World} {A : Around} {E : Value → Shared → Prop} {s : Shared} {a : Addr}
end
end L2

set_option Elab.async false
set_option linter.all false
set_option maxRecDepth 100000
set_option maxHeartbeats 4000000

namespace L2
open PySem PySem.Spec PyProof.Rows
section
variable {prog : Program} {w : World} {A : Around} {E : Value → Shared → Prop} {s : Shared} {a f : Addr}
end
end L2

set_option Elab.async false
set_option linter.all false
set_option maxRecDepth 100000
set_option maxHeartbeats 4000000

namespace L2
open PySem PySem.Spec PyProof.Rows
section
variable {prog : Program} {w : World} {A : Around} {E : Value → Shared → Prop} {s : Shared} {a f : Addr}
end
end L2

set_option Elab.async false
set_option linter.all false
set_option maxRecDepth 100000
set_option maxHeartbeats 4000000

namespace L2
open PySem PySem.Spec PyProof.Rows
section
variable {prog : Program} {w : World} {A : Around} {E : Value → Shared → Prop} {s : Shared} {a f : Addr}
end
end L2

set_option Elab.async false
set_option linter.all false
set_option maxRecDepth 100000
set_option maxHeartbeats 4000000

namespace L2
open PySem PySem.Spec PyProof.Rows
section
variable {prog : Program} {w : World} {A : Around} {E : Value → Shared → Prop} {s : Shared}
end
end L2

set_option Elab.async false
set_option linter.all false
set_option maxRecDepth 100000
set_option maxHeartbeats 4000000

namespace L2
open PySem PySem.Spec PyProof.Rows
/-! ### sets of texts, as rules -/
theorem TxS.nd {w : World} {h : Heap} {a : Addr} {xs : List Str} (x : TxS w h a xs) : xs.Nodup := let ⟨_, _, _, _, _, X⟩ := x; X.nd
section
variable {X : Cx}
end
end L2

set_option Elab.async false
set_option linter.all false
set_option maxRecDepth 100000
set_option maxHeartbeats 4000000
namespace L2
open PySem PySem.Spec PyProof.Rows
/-! ### texts: <=, startswith, split, int -/
section
variable {X : Cx}
theorem op_le_str : OpR X (compareOp .LtE) (fun x y H Q => ∃ i j, x = .str i ∧ y = .str j ∧ Q (.bl (!decide (j.cps.toList < i.cps.toList))) H) := by
  intro pins s σ H x y v u Q I rx ry h
  obtain ⟨i, j, rfl, rfl, q⟩ := h
  obtain ⟨t, rfl⟩ := rx
  obtain ⟨t', rfl⟩ := ry
  exact PySem.P.le_str (fin_bl I q rfl)
def rStarts : V → List V → Hp → VK → Prop := fun x vs H Q => ∃ a b, x = .str a ∧ vs = [.str b] ∧ Q (.bl (Txt.startswith a b)) H
theorem mt_starts : MtM X "str.startswith" rStarts := by
  intro pins s σ H x xs v us Q I rx rs h
  obtain ⟨a, b, rfl, rfl, q⟩ := h
  obtain ⟨t, rfl⟩ := rx
  obtain ⟨u, rfl, t', rfl⟩ := vals1 rs
  exact SC.startswith (fin_bl I q rfl)
theorem vals_of_strs : ∀ l : List (Str × Tok), Vals ((l.map (·.1)).map V.str) (strValues l)
  | [] => .nil
  | p :: r => .cons ⟨p.2, rfl⟩ (vals_of_strs r)
def rSplit : V → List V → Hp → VK → Prop := fun x vs H Q => ∃ a b, x = .str a ∧ vs = [.str b] ∧ b.length ≠ 0 ∧ a.length + 2 ≤ sizeLine ∧ New H (.lst ((Txt.split a b).map V.str)) Q
theorem mt_split : MtM X "str.split" rSplit := by
  intro pins s σ H x xs v us Q I rx rs h
  obtain ⟨a, b, rfl, rfl, hb, hz, q⟩ := h
  obtain ⟨t, rfl⟩ := rx
  obtain ⟨u, rfl, t', rfl⟩ := vals1 rs
  have hy : (b.length == 0) = false := by simpa using hb
  have fin : ∀ (l : List (Str × Tok)) (k : Nat), l.map (·.1) = Txt.split a b → EP X pins σ Q (.ref s.heap.objs.size) { s with heap := s.heap.push { cls := .type "list", data := .seq (strValues l).toArray }, toks := k } := fun l k e => by
    have r := vals_of_strs l
    rw [e] at r
    have hl : ((Txt.split a b).map V.str).length ≤ sizeLine := by
      rw [List.length_map]
      exact Nat.le_trans (split_le a b) hz
    exact ⟨.ref s.heap.objs.size, _, I.laid (t' := k) (fun b o e => Heap.get?_push_of_some _ e) (Nat.le_refl _) (show ObjOk X.prog X.w _ _ _ (.lst ((Txt.split a b).map V.str)) from ⟨hl, _, _, r, Heap.get?_push_size _ rfl⟩), rfl, q.at _ (I.hok.fresh (Nat.le_refl _))⟩
  have hn : (Builtin.Str.partsBetween a (Builtin.Str.occurrences a b 0 a.length (a.length + 1)) b.length).length ≤ sizeLine := by
    have e1 := StrLaws.occ_length_le a b 0 a.length (a.length + 1)
    rw [length_partsBetween]; omega
  cases h1 : (decide (a.length < b.length) || decide (Builtin.Str.strKind a < Builtin.Str.strKind b))
  · cases hf : (Builtin.Str.occurrences a b 0 a.length (a.length + 1)).isEmpty
    · refine call_meets F.slot_str_split (typeIs_str _ _ _) F.entry_str_split (F.args_str_split_2 _ _) (meets_str_split_sep a b t t' h1 hy hf (by omega) hn) ?_
      show wants _ _ _ { s with toks := _, heap := s.heap.push { cls := .type "list", data := .seq (strsFrom s.toks (Builtin.Str.partsBetween a (Builtin.Str.occurrences a b 0 a.length (a.length + 1)) b.length)).toArray } }
      rw [strsFrom_eq]
      exact fin (numbered s.toks _) _ ((numbered_texts _ _).trans ((if_neg (ne_true_of_eq_false h1)).trans (if_neg (ne_true_of_eq_false hf))).symm)
    · exact call_meets F.slot_str_split (typeIs_str _ _ _) F.entry_str_split (F.args_str_split_2 _ _) (meets_str_split_not_found a b t t' h1 hy hf)
        (fin [(a, t)] s.toks ((if_neg (ne_true_of_eq_false h1)).trans (if_pos hf)).symm)
  · exact call_meets F.slot_str_split (typeIs_str _ _ _) F.entry_str_split (F.args_str_split_2 _ _) (meets_str_split_cannot_occur a b t t' h1)
      (fin [(a, t)] s.toks (if_pos h1).symm)
/-- int(text) -/
theorem call_intT : CallR X (.type "int") (fun xs H Q => ∃ x n, xs = [.str x] ∧ PySem.intText? x = some n ∧ x.length ≤ 640 ∧ Q (.int n) H) := by
  intro pins s σ H xs us Q I r h
  obtain ⟨x, n, rfl, hn, hl, q⟩ := h
  obtain ⟨u, rfl, t, rfl⟩ := vals1 r
  exact PySem.W.KIN.call_text hn hl ⟨.int n, H, I.tok _, ⟨_, rfl⟩, q⟩
end
end L2

set_option Elab.async false
set_option linter.all false
set_option maxRecDepth 100000
set_option maxHeartbeats 4000000
namespace L2
open PySem PySem.Spec PyProof.Rows
/-! ### the signs of a text, one after the other -/
def sgn (c : Nat) : Str := ⟨#[c]⟩
def Its (x : Str) : It := ⟨fun i _ => i < x.cps.size, fun i H v H' => H' = H ∧ ∃ c, x.cps[i]? = some c ∧ v = .str (sgn c), fun i _ => x.cps.size ≤ i⟩
theorem turn_sgn {P : Program} {w : World} {K : PySem.W.Frag} {tg : Expr} (it : Addr) (x : Str) (t : Tok) (n : String) (hn : n = "str_ascii_iterator" ∨ n = "str_iterator") : Turn P w K tg (Its x) [it] it (fun i h => h.IsStrIter it n x t i ∧ i ≤ x.cps.size) where
  mem := by simp
  obj := fun i h st b hb => by
    have e : b = it := by simpa using hb
    subst e
    obtain ⟨o, e, c, d⟩ := st.1
    exact ⟨o, e, fun v z => by rw [d] at z; cases z⟩
  keep := fun i h h' st k => ⟨let ⟨o, ho, r⟩ := st.1; ⟨o, k it (by simp) o ho, r⟩, st.2⟩
  item := by
    intro X hP hw hK hc i pins s σ H E I hf st hg
    subst hP hw hK
    obtain ⟨f0, f1, f2, f3, f4, f5⟩ := hf it (by simp)
    have go : ∀ (W : Walks X.prog X.w X.A it [it] [it] x.cps.size (SignAt x) (fun i h => h.IsStrIter it n x t i)), wpAny (model X.prog X.w) X.A (pyNext (.ref it)) (fun r s1 => ∃ u, r = some u ∧
        wpAny (model X.prog X.w) X.A (letOwnedTupleGo tg (.ref it) u) (fun _ s2 => ∃ v H', Inv X pins σ H' s2 ∧ RelV v u ∧ (Its x).yld i H v H' ∧ (s2.heap.IsStrIter it n x t (i + 1) ∧ i + 1 ≤ x.cps.size) ∧ ∀ b ∈ [it], H' b = none) E s1) E s := fun W => by
      refine W.item i s _ _ hg st.1 fun v h' tk hv st' kk => ?_
      obtain ⟨c, u, hc', rfl⟩ := hv
      have I1 : Inv X pins σ H { s with heap := h', toks := tk } := I.turned (fun b o hb e => kk b o (by simpa using hb) e) f0 f1 f3 f4 f5
      obtain ⟨o, e, c', d⟩ := id st'
      have hg' : i < x.cps.size := hg
      exact ⟨_, rfl, go_of (s := { s with heap := h', toks := tk }) e c' d (by rcases hn with rfl | rfl <;> decide) ⟨.str (sgn c), H, I1, ⟨u, rfl⟩, ⟨rfl, c, hc', rfl⟩, ⟨st', by omega⟩, fun b hb => (hf b hb).1⟩⟩
    rcases hn with rfl | rfl
    · exact go (Walks.strAscii (I.ok.hd hc) it x t)
    · exact go (Walks.strWide (I.ok.hd hc) it x t)
  done := by
    intro X hP hw hK hc i pins s σ H E I hf st hg
    subst hP hw hK
    obtain ⟨f0, f1, f2, f3, f4, f5⟩ := hf it (by simp)
    have hg' : x.cps.size ≤ i := hg
    have e : i = x.cps.size := Nat.le_antisymm st.2 hg'
    subst e
    have go : ∀ (W : Walks X.prog X.w X.A it [it] [it] x.cps.size (SignAt x) (fun i h => h.IsStrIter it n x t i)), wpAny (model X.prog X.w) X.A (pyNext (.ref it)) (fun r s1 => r = none ∧ Inv X pins σ H s1) E s := fun W =>
      W.done s _ _ st.1 fun h' tk kk => ⟨rfl, I.turned (fun b o hb e => kk b o (by simpa using hb) e) f0 f1 f3 f4 f5⟩
    rcases hn with rfl | rfl
    · exact go (Walks.strAscii (I.ok.hd hc) it x t)
    · exact go (Walks.strWide (I.ok.hd hc) it x t)
  self := fun _ _ _ _ _ st h => by
    rcases hn with rfl | rfl
    · exact wpAny_pyIter_striter_ascii st.1 h
    · exact wpAny_pyIter_striter_wide st.1 h
section
variable {X : Cx} {tg : Expr}
def iSgn (tl : TE) : TI := fun σ H R => tl σ H fun x H1 => ∃ a, x = .str a ∧ R (Its a) H1
theorem pi_sgn {l : Expr} {tl : TE} (hl : PE X l tl) : PI X tg l (iSgn tl) := by
  intro pins s σ H R I h
  refine thn (hl pins s σ H _ I h) fun v s1 ⟨x, H1, I1, r1, q1⟩ => ?_
  obtain ⟨a, e, q⟩ := q1
  subst e
  obtain ⟨t, rfl⟩ := r1
  have fin : ∀ (o : Obj) (n : String), (n = "str_ascii_iterator" ∨ n = "str_iterator") → (s1.heap.push o).IsStrIter s1.heap.objs.size n a t 0 → PIE X pins σ tg R (.ref s1.heap.objs.size) { s1 with heap := s1.heap.push o } := fun o n hn st => by
    refine ⟨s1.heap.objs.size, [s1.heap.objs.size], _, _, H1, rfl, I1.kept (t' := s1.toks) fun b o e => Heap.get?_push_of_some _ e, turn_sgn _ a t n hn, ⟨st, Nat.zero_le _⟩, fun b hb => ?_, q⟩
    have e : b = s1.heap.objs.size := by simpa using hb
    subst e
    exact I1.fpOk (Nat.le_refl _) (I1.hok.fresh (Nat.le_refl _))
  cases ha : a.cps.all (· < 128)
  · exact wpAny_pyIter_wide ha (fin _ _ (.inr rfl) ⟨_, Heap.get?_push_size _ rfl, rfl, rfl⟩)
  · exact wpAny_pyIter_ascii ha (fin _ _ (.inl rfl) ⟨_, Heap.get?_push_size _ rfl, rfl, rfl⟩)
/-- all([..]) of a list of truths -/
def rAll (K : PySem.W.Frag) : List V → Hp → VK → Prop := fun xs H Q => ∃ (p : Addr) (bs : List Bool), xs = [.ref p] ∧ SqL K H p (bs.map V.bl) ∧ Q (.bl (bs.all id)) H
theorem range_all (bs : List Bool) : (List.range bs.length).all (fun i => bs.getD i false) = bs.all id := by
  rw [Bool.eq_iff_iff, List.all_eq_true, List.all_eq_true]
  constructor
  · intro h b hb
    obtain ⟨i, hi, e⟩ := List.mem_iff_getElem.mp hb
    have := h i (List.mem_range.mpr hi)
    rw [List.getD_eq_getElem?_getD, List.getElem?_eq_getElem hi, Option.getD_some, e] at this
    exact this
  · intro h i hi
    have hi := List.mem_range.mp hi
    rw [List.getD_eq_getElem?_getD, List.getElem?_eq_getElem hi, Option.getD_some]
    exact h _ (List.getElem_mem hi)
theorem call_all (K : PySem.W.Frag) (h : X.K = K := by rfl) (hc : X.calm = true := by rfl) : CallR X (.builtin "all") (rAll K) := by
  subst h
  intro pins s σ H xs us Q I r h
  obtain ⟨p, bs, rfl, hq, q⟩ := h
  obtain ⟨u, rfl, rx⟩ := vals1 r
  cases rx
  obtain ⟨its, rv, pl, hz⟩ := I.list hq
  have hlen := rv.length
  rw [List.length_map] at hlen
  refine call_all_walk (wpAny_pyIter_list pl.isList ?_)
  have hne : p ≠ s.heap.objs.size := by
    obtain ⟨o, ho, _⟩ := pl.isList
    exact Nat.ne_of_lt (Heap.lt_size ho)
  refine ⟨_, _, _, _, _, _, fun i => bs.getD i false, rfl, Walks.list (A := X.A.in1) (I.ok.hd hc) _ p hne its.toArray, ⟨⟨_, Heap.get?_push_size _ rfl, rfl, rfl⟩, pl.isList.push _⟩, ?_, fun h' tk kk => ?_⟩
  · intro i v s' Q' E hv hq'
    have hv : its[i]? = some v := by simpa using hv
    have hi : i < bs.length := by
      have := (List.getElem?_eq_some_iff.mp hv).1
      omega
    obtain ⟨u, hu, ru⟩ := rv.get (i := i) (x := V.bl bs[i]) (by rw [List.getElem?_map, List.getElem?_eq_getElem hi]; rfl)
    rw [hv] at hu
    cases hu
    have ru : v = .bool bs[i] := by cases ru; rfl
    subst ru
    have hq' : Q' (bs.getD i false) s' := hq'
    rw [List.getD_eq_getElem?_getD, List.getElem?_eq_getElem hi, Option.getD_some] at hq'
    exact wpAny_truthy_bool hq'
  · have e : its.toArray.size = bs.length := by simp; omega
    rw [e, range_all]
    exact ⟨.bl _, H, I.kept fun b o e => kk b o (by
      have := Heap.lt_size e
      rw [List.mem_singleton]
      exact Nat.ne_of_lt this) (Heap.get?_push_of_some _ e), rfl, q⟩
end
end L2

set_option Elab.async false
set_option linter.all false
set_option maxRecDepth 100000
set_option maxHeartbeats 4000000
namespace L2
open PySem PySem.Spec PyProof.Rows
/-- an iterator's own objects have turned -/
theorem Inv.turnedL {X : Cx} {pins : List (Addr × Obj)} {σ : St} {H : Hp} {s : Shared} {h' : Heap} {t' : Nat} {fp : List Addr} (I : Inv X pins σ H s) (k : ∀ b o, b ∉ fp → s.heap.get? b = some o → h'.get? b = some o) (hf : ∀ b ∈ fp, FpOk X pins H b) : Inv X pins σ H { s with heap := h', toks := t' } := by
  have nit : ∀ b u, H b = some u → b ∉ fp := fun b u e z => by rw [(hf b z).1] at e; cases e
  have hL : X.env.locals ∉ fp := fun z => (hf _ z).2.1 rfl
  refine I.step (g' := s.gens) (d' := s.drawn) (ch := fp) (fun b hb => ?_) (fun b o _ _ hc e _ => k b o hc e) (fun b o _ _ hc e _ => ⟨o.slots, k b o hc e⟩) (fun _ _ _ _ n => n)
    (fun b o hc e => ⟨o, k b o hc e⟩) (fun _ _ e => e) (fun _ _ _ e => e) (fun b ps e => ⟨#[], by rw [e]; simp⟩) (fun m hm => ?_) (fun b u e => ?_) I.bare
  · obtain ⟨f0, f1, f2, f3, f4, f5⟩ := hf b hb
    exact ⟨f3, f1, f4, f5⟩
  · obtain ⟨o, es, ep, ho, r⟩ := hm
    exact ⟨o, es, ep, k _ o hL ho, r⟩
  · refine (I.hok b u e).stay (fun c v hc q => k c v ?_ q) (fun _ q => q) fun _ _ q => q
    rcases hc with z | z
    · rw [z]; exact nit b u e
    · exact nit c _ z
/-! ### for i, x in enumerate(list) -/
def Ite (K : PySem.W.Frag) (a : Addr) : It :=
  ⟨fun i H => ∃ xs x, SqL K H a xs ∧ xs[i]? = some x, fun i H v H' => ∃ p x, H p = none ∧ (∀ xs, SqL K H a xs → xs[i]? = some x) ∧ v = .ref p ∧ H' = upd H p (.tup [.int i, x]), fun i H => ∃ xs, SqL K H a xs ∧ xs.length ≤ i⟩
theorem turn_enum {P : Program} {w : World} {K : PySem.W.Frag} {elts : List Expr} {x1 : Nat} {pos : Pos} (a e it : Addr) (hne : e ≠ it) : Turn P w K (.Tuple elts x1 pos) (Ite K a) [e, it] e (fun i h => (∃ old, IsEnum h e it i old) ∧ h.IsListIter it a i) where
  mem := by simp
  obj := fun i h st b hb => by
    obtain ⟨⟨old, st⟩, o, e', c, d⟩ := st
    rcases List.mem_cons.mp hb with rfl | hb
    · exact ⟨_, st, fun v z => by
        have z' : Data.fields _ = Data.cell v := z
        cases z'⟩
    · have hb := List.mem_singleton.mp hb
      subst hb
      exact ⟨o, e', fun v z => by rw [d] at z; cases z⟩
  keep := fun i h h' ⟨⟨old, st⟩, st2⟩ k => ⟨⟨old, k e (by simp) _ st⟩, st2.at fun o e' => k it (by simp) o e'⟩
  item := by
    intro X hP hw hK hc i pins s σ H E I hf st hg
    subst hP hw hK
    obtain ⟨⟨old, st⟩, st2⟩ := st
    obtain ⟨xs, x, hq, hx⟩ := hg
    obtain ⟨its, rv, p, hz⟩ := I.list hq
    obtain ⟨u, hu, ru⟩ := rv.get hx
    refine wpAny_pyNext_enum_item st st2 p.isList (x := u) (by simpa using hu) hne fun h1 ho it1 htup hsz hk1 => ⟨.ref s.heap.objs.size, rfl, ?_⟩
    refine wpAny_letOwnedTupleGo_enum ho fun h2 en2 sb => ?_
    have sb : Heap.SameBut e h1 h2 := sb
    have hel : e < s.heap.objs.size := Heap.lt_size st
    have hil : it < s.heap.objs.size := by
      obtain ⟨o, e', _⟩ := st2
      exact Heap.lt_size e'
    have I1 : Inv X pins σ H { s with heap := h2, toks := s.toks + 1 } := I.turnedL (fp := [e, it]) (fun b ob hb e' => by
      simp only [List.mem_cons, List.not_mem_nil, or_false, not_or] at hb
      exact (sb.2 b hb.1).trans (hk1 b ob hb.1 hb.2 e')) hf
    have hn : H s.heap.objs.size = none := I.hok.fresh (Nat.le_refl _)
    have fp := I.fpOk (H' := H) (Nat.le_refl _) hn
    have hobj : h2.get? s.heap.objs.size = some { cls := .type "tuple", data := .seq #[.int i s.toks, u] } := (sb.2 _ (Nat.ne_of_gt hel)).trans htup
    have I2 : Inv X pins σ (upd H s.heap.objs.size (.tup [.int i, x])) { s with heap := h2, toks := s.toks + 1 } := by
      refine I1.track hn I.sz fp.2.1 fp.2.2.2.2.1 fp.2.2.2.2.2 ?_
      exact ⟨by show 2 ≤ sizeLine; decide, [.int i s.toks, u], .cons ⟨_, rfl⟩ (.cons ru .nil), _, hobj, rfl, 0, rfl⟩
    refine ⟨.ref s.heap.objs.size, _, I2, rfl, ⟨_, x, hn, fun ys hy => by rw [I.list_inj hy hq]; exact hx, rfl, rfl⟩, ⟨⟨u, by simpa using en2⟩, it1.at fun o e' => (sb.2 it (Ne.symm hne)).trans e'⟩, fun b hb => ?_⟩
    have hb0 := (hf b hb).1
    rw [upd_ne, hb0]
    simp only [List.mem_cons, List.not_mem_nil, or_false] at hb
    rcases hb with rfl | rfl
    · exact Nat.ne_of_lt hel
    · exact Nat.ne_of_lt hil
  done := by
    intro X hP hw hK hc i pins s σ H E I hf st hg
    subst hP hw hK
    obtain ⟨⟨old, st⟩, st2⟩ := st
    obtain ⟨xs, hq, hx⟩ := hg
    obtain ⟨its, rv, p, hz⟩ := I.list hq
    have hl := rv.length
    exact wpAny_pyNext_enum_end (I.ok.hd hc) st st2 p.isList (by simp; omega) fun h' eb => ⟨rfl, I.turnedL (t' := s.toks) (fp := [e, it]) (fun b o hb e' => eb b o (fun z => hb (by simp [z])) e') hf⟩
  self := fun _ _ _ _ _ st h => let ⟨⟨_, st⟩, _⟩ := st; wpAny_pyIter_enum st h
section
variable {X : Cx}
def iEnum (K : PySem.W.Frag) (ta : TA) : TI := fun σ H R => ta σ H fun vs H1 => ∃ a, vs = [.ref a] ∧ (∃ xs, SqL K H1 a xs) ∧ R (Ite K a) H1
theorem pi_enum {l : Expr} {ta : TA} {p pos p2 : Pos} {elts : List Expr} {x1 : Nat} (hg : Gl X "enumerate") (hm : X.mg "enumerate" = none) (ha : PA X [l] ta) (hs : starEach [l] X.env = [(false, eval l X.env)] := by rfl) :
    PI X (.Tuple elts x1 p2) (.Call (.Name "enumerate" p) [l] [] pos) (iEnum X.K ta) := by
  intro pins s σ H R I h
  refine Call_ (ld_blt I hg hm boot_enumerate (PyProof.Rows.callWith_type1 (thn (ha pos pins s σ H _ I h) fun us s1 ⟨vs, H1, I1, r1, q1⟩ => ?_) hs rfl))
  obtain ⟨a, e, ⟨xs, hq⟩, q⟩ := q1
  subst e
  obtain ⟨u, rfl, rx⟩ := vals1 r1
  cases rx
  obtain ⟨its, rv, pl, hz⟩ := I1.list hq
  refine call_enumerate_list pl.isList fun h' en it hsz kp => ?_
  refine wpAny_pyIter_enum en ?_
  refine ⟨s1.heap.objs.size + 1, [s1.heap.objs.size + 1, s1.heap.objs.size], _, _, H1, rfl, I1.kept (t' := s1.toks) kp, turn_enum a _ _ (Nat.succ_ne_self _), ⟨⟨_, en⟩, it⟩, fun b hb => ?_, q⟩
  have e : s1.heap.objs.size ≤ b := by
    simp only [List.mem_cons, List.not_mem_nil, or_false] at hb
    rcases hb with rfl | rfl
    · exact Nat.le_succ _
    · exact Nat.le_refl _
  exact I1.fpOk e (I1.hok.fresh e)
end
end L2

set_option Elab.async false
set_option linter.all false
set_option maxRecDepth 100000
set_option maxHeartbeats 4000000
namespace L2
open PySem PySem.Spec PyProof.Rows
/-! ### the values of a dict, walked -/
def Itv (d : Addr) (kvs : List (Key × V)) (o : Obj) : It :=
  ⟨fun i H => H d = some (.frz o (.dK kvs)) ∧ i < kvs.length, fun i H x H' => ∃ k, kvs[i]? = some (k, x) ∧ H' = H, fun i H => H d = some (.frz o (.dK kvs)) ∧ kvs.length ≤ i⟩
theorem turn_vals {P : Program} {w : World} {K : PySem.W.Frag} {tg : Expr} (d it : Addr) (kvs : List (Key × V)) (o : Obj) : Turn P w K tg (Itv d kvs o) [it] it (fun i h => h.IsValIter it d i kvs.length (epOf o)) where
  mem := by simp
  obj := fun i h st b hb => by
    have e : b = it := by simpa using hb
    subst e
    obtain ⟨o, e, c, d⟩ := st
    exact ⟨o, e, fun v z => by rw [d] at z; cases z⟩
  keep := fun i h h' st k => let ⟨o, e, r⟩ := st; ⟨o, k it (by simp) o e, r⟩
  item := by
    intro X hP hw hK hc i pins s σ H E I hf st hg
    subst hP hw hK
    obtain ⟨hd, hlt⟩ := hg
    obtain ⟨f0, f1, f2, f3, f4, f5⟩ := hf it (by simp)
    obtain ⟨vs, rel, hat, hS⟩ := frz_dict I.hok hd
    have hlen := rel.length
    obtain ⟨kv, hkv⟩ : ∃ kv, kvs[i]? = some kv := ⟨_, List.getElem?_eq_getElem hlt⟩
    obtain ⟨k, v⟩ := kv
    obtain ⟨u, hu, ru⟩ := kv_get rel hkv
    rw [hlen] at st
    refine wpAny_pyNext_values_item st hat hu fun h' st' sb => ⟨u, rfl, ?_⟩
    have I1 : Inv X pins σ H { s with heap := h' } := I.turned (t' := s.toks) (fun b ob hb e => (sb.2 b hb).trans e) f0 f1 f3 f4 f5
    obtain ⟨oi, ei, ci, di⟩ := id st'
    exact go_of (s := { s with heap := h' }) ei ci di (by decide) ⟨v, H, I1, ru, ⟨k, hkv, rfl⟩, by rw [hlen]; exact st', fun b hb => (hf b hb).1⟩
  done := by
    intro X hP hw hK hc i pins s σ H E I hf st hg
    subst hP hw hK
    obtain ⟨hd, hle⟩ := hg
    obtain ⟨f0, f1, f2, f3, f4, f5⟩ := hf it (by simp)
    obtain ⟨vs, rel, hat, hS⟩ := frz_dict I.hok hd
    have hlen := rel.length
    rw [hlen] at st
    exact wpAny_pyNext_values_end (I.ok.hd hc) st hat (by rw [List.getElem?_eq_none_iff]; omega) fun h' eb => ⟨rfl, I.turned (t' := s.toks) (fun b o hb e => eb b o hb e) f0 f1 f3 f4 f5⟩
  self := fun _ _ _ _ _ st h => wpAny_pyIter_valiter st h
theorem pi_vals {tg o : Expr} {apos cpos : Pos} {X : Cx} {td : TE} (ho : PE X o td) (hbase : attributeBase o "values" X.env (eval o X.env) = eval o X.env := by rfl) (hline : (apos.endLine == cpos.line) = true := by rfl) :
    PI X tg (.Call (.Attribute o "values" apos) [] [] cpos) (fun σ H R => td σ H fun x H1 => ∃ d kvs, x = .ref d ∧ H1 d = some (.dK kvs) ∧ ∀ ob, (∀ o' u, X.H₀ d ≠ some (.frz o' u)) → R (Itv d kvs ob) (upd H1 d (.frz ob (.dK kvs)))) := by
  intro pins s σ H R I h
  refine wpAny_Call_method0_late hbase hline (thn (ho pins s σ H _ I h) fun v s1 ⟨x, H1, I1, r1, d, kvs, e, ed, q⟩ => ?_)
  subst e
  cases r1
  obtain ⟨z, hd, vs, rel, dd⟩ := dk_of I1.hok ed
  obtain ⟨h1, h2⟩ := tyV_is I1 (x := .ref d) rfl (T := "dict") (.inr (.inr (.inl ⟨rfl, .inl ⟨kvs, ed⟩⟩)))
  refine ⟨"dict", "dict.values", PySem.F.plainAttrs_dict, PySem.F.slot_dict_values, PySem.F.type_dict_values, h1, h2, Calls.callWith_builtin rfl (PySem.evalArgs_none ?_)⟩
  refine call_meetsIn PySem.F.slot_dict_values dd.typeIs PySem.F.entry_dict_values (PySem.F.args_dict_values_1 _) (meets_dict_values (mixKind X.prog X.w) d hd) ⟨⟨vs, dd⟩, ?_⟩
  have dd2 := dd.push { cls := .type "dict_values", data := .fields #[.ref d] }
  obtain ⟨ob, es, ep, hob, hc, hdat, rest⟩ := id dd2
  have hat : (s1.heap.push { cls := .type "dict_values", data := .fields #[.ref d] }).DictAt (mixKind X.prog X.w) d vs ep := ⟨ob, es, hob, hc, hdat, rest⟩
  have I2 : Inv X pins σ H1 { s1 with heap := s1.heap.push { cls := .type "dict_values", data := .fields #[.ref d] } } := I1.kept (t' := s1.toks) fun b o e => Heap.get?_push_of_some _ e
  refine wpAny_pyIter_values (s := { s1 with heap := s1.heap.push { cls := .type "dict_values", data := .fields #[.ref d] } }) ⟨_, Heap.get?_push_size _ rfl, rfl, rfl⟩ hat ?_
  have hep : epOf ob = ep := by unfold epOf; rw [hdat]
  have hlen := rel.length
  have I3 : Inv X pins σ H1 { s1 with heap := (s1.heap.push { cls := .type "dict_values", data := .fields #[.ref d] }).push { cls := .type "dict_valueiterator", data := .fields #[.ref d, .int 0 0, .int vs.length 0, .int ep 0] } } :=
    I2.kept (t' := s1.toks) fun b o e => Heap.get?_push_of_some _ e
  have hn := I2.hok.fresh (Nat.le_refl (s1.heap.push { cls := .type "dict_values", data := .fields #[.ref d] }).objs.size)
  have hz : ∀ o' u, X.H₀ d ≠ some (.frz o' u) := fun o' u hq => by
    have := I1.base.frzs d o' u hq
    rw [ed] at this
    cases this
  refine ⟨_, [_], _, _, _, rfl, I3.freeze ed (Heap.get?_push_of_some _ hob), turn_vals d _ kvs ob, ⟨_, Heap.get?_push_size _ rfl, rfl, ?_⟩, fun b hb => ?_, q ob hz⟩
  · rw [hep, hlen]
    rfl
  · have e : b = (s1.heap.push { cls := .type "dict_values", data := .fields #[.ref d] }).objs.size := by simpa using hb
    subst e
    refine I2.fpOk (Nat.le_refl _) ?_
    rw [upd_ne (Ne.symm (ne_of_none ed hn))]
    exact hn
/-! ### a comprehension over them -/
def tCompV (td : TE) (n : Nat) (js : List Nat) (g : TG) (tt : TT) (te : TE) : TE := fun σ H Q => td σ H fun x H1 => ∃ d kvs, x = .ref d ∧ H1 d = some (.dK kvs) ∧ ∀ ob D, upd H1 d (.frz ob (.dK kvs)) D = none →
  ∃ W : Nat → Nat → St → Hp → Prop, (∃ m, W 0 m (compStart n js σ) (upd (upd H1 d (.frz ob (.dK kvs))) D (.lst []))) ∧ CompAsk (Itv d kvs ob) g tt te D (fun H' => H' d = some (.frz ob (.dK kvs)) ∧ Q (.ref D) (upd H' d (.dK kvs))) W
section
variable {X : Cx}
theorem pe_compV {elt tg o : Expr} {ifs : List Expr} {sc : Scope} {pos apos cpos : Pos} (own cap : List Str) (js : List Nat) {td : TE} {g : TG} {tt : TT} {te : TE} (S : CompScopeF X own cap js sc) (hc : X.calm = true) (hi : PE X o td)
    (hg : ∀ s₀ H₀ C ex, PG (cxCompF X (own ++ cap) sc s₀ H₀ C ex) tg g) (ht : ∀ s₀ H₀ C ex, PTs (cxCompF X (own ++ cap) sc s₀ H₀ C ex) ifs tt) (he : ∀ s₀ H₀ C ex, PE (cxCompF X (own ++ cap) sc s₀ H₀ C ex) elt te)
    (hbase : attributeBase o "values" X.env (eval o X.env) = eval o X.env := by rfl) (hline : (apos.endLine == cpos.line) = true := by rfl) (hs : ∀ x, foldedSetIterable (.Call (.Attribute o "values" apos) [] [] cpos) X.env x = pure x := by intro _; rfl) : PE X (.ListComp elt [⟨tg, .Call (.Attribute o "values" apos) [] [] cpos, ifs, 0⟩] sc pos) (tCompV td own.length js g tt te) := by
  intro pins s σ H Q I h
  refine thn (pe_compF own cap js S hc (pi_vals hi.weak hbase hline) hg ht he hs pins s σ H (fun v H' => ∃ d kvs ob, H' d = some (.frz ob (.dK kvs)) ∧ (∀ o' u, X.H₀ d ≠ some (.frz o' u)) ∧ Q v (upd H' d (.dK kvs))) I ⟨_, h, fun x H1 ⟨d, kvs, e, ed, q⟩ => ⟨d, kvs, e, ed, fun ob hz D hD => ?_⟩⟩) fun u s' ⟨v, H', I', r, d, kvs, ob, hd, hz, q⟩ => ⟨v, _, I'.thaw hd hz, r, q⟩
  obtain ⟨W, w0, ask⟩ := q ob D hD
  refine ⟨W, w0, fun i m σ H hw => ?_⟩
  rcases ask i m σ H hw with ⟨a, b⟩ | z
  · exact .inl ⟨a, d, kvs, ob, b.1, hz, b.2⟩
  · exact .inr z
end
end L2

set_option Elab.async false
set_option linter.all false
set_option maxRecDepth 100000
set_option maxHeartbeats 4000000
namespace L2
open PySem PySem.Spec PyProof.Rows
section
variable {prog : Program} {w : World} {A : Around} {E : Value → Shared → Prop} {s : Shared}
/-- a tuple in the heap whose first part is a text -/
def TupX (h : Heap) (v : Value) (k : Str) : Prop := ∃ a o xs n t, v = .ref a ∧ h.get? a = some o ∧ o.cls = .type "tuple" ∧ o.data = .seq xs n ∧ xs[0]? = some (.str k t)
theorem TupX.keep {h h' : Heap} {v : Value} {k : Str} (t : TupX h v k) (kp : ∀ b o, h.get? b = some o → o.cls = .type "tuple" → h'.get? b = some o) : TupX h' v k := by
  obtain ⟨a, o, xs, n, u, e, h1, h2, h3⟩ := t
  exact ⟨a, o, xs, n, u, e, kp a o h1 h2, h2, h3⟩
end
section
variable {X : Cx}
end
end L2

set_option Elab.async false
set_option linter.all false
set_option maxRecDepth 100000
set_option maxHeartbeats 4000000
namespace L2
open PySem PySem.Spec PyProof.Rows
/-! ### comprehensions whose items are told ahead -/
theorem Same.seqT {K : PySem.W.Frag} {H H' : Hp} {a : Addr} {xs : List V} (e : Same H H') (h : SqT K H a xs) : SqT K H' a xs := by
  rcases h with (h | ⟨o, h⟩) | h
  · exact .inl (.inl (e _ _ h))
  · exact .inl (.inr ⟨o, e _ _ h⟩)
  · exact .inr h
theorem take_snoc {α : Type} {ys : List α} {i : Nat} {y : α} (h : ys[i]? = some y) : ys.take (i + 1) = ys.take i ++ [y] := by
  rw [List.take_succ, h]; rfl
section
variable {g : TG} {te : TE} {H1 : Hp} {Q : Addr → Hp → Prop}
theorem comp_mapL {K : PySem.W.Frag} {a : Addr} {xs : List V} {σ0 : St} (hx : SqL K H1 a xs) (S : St → Prop) (ys : List V) (hl : ys.length = xs.length) (big : xs.length ≤ sizeLine) (s0 : S σ0)
    (turn : ∀ (i : Nat) x y σ H (k : St → V → Hp → Prop), xs[i]? = some x → ys[i]? = some y → S σ → Same H1 H → (∀ σ3 H5, S σ3 → Same H H5 → k σ3 y H5) → g x σ H fun σ3 H3 => te σ3 H3 (k σ3))
    (done : ∀ D H, H1 D = none → H D = some (.lst ys) → Same H1 H → Q D H) :
    ∀ D, H1 D = none → ∃ W : Nat → Nat → St → Hp → Prop, (∃ m, W 0 m σ0 (upd H1 D (.lst []))) ∧ CompAsk (Itl K a) g tTrue te D (fun H' => Q D H') W := by
  refine comp_list0 hx S (fun i zs _ => zs = ys.take i) s0 (fun _ _ => rfl) (fun D i x zs σ H k a1 a2 a3 a4 a5 a6 a7 => ?_) fun D zs H a1 a2 a3 a4 => ?_
  · have hi : i < ys.length := by rw [hl]; exact (List.getElem?_eq_some_iff.mp a2).1
    have hy := List.getElem?_eq_getElem hi
    refine turn i x ys[i] σ H k a2 hy a3 a5 fun σ3 H5 b1 b2 => a7 σ3 _ H5 b1 b2 ?_ ?_
    · rw [a6, List.length_take]; omega
    · rw [a6, take_snoc hy]
  · rw [a4, ← hl, List.take_length] at a2
    exact done D H a1 a2 a3
theorem comp_mapT {K : PySem.W.Frag} {a : Addr} {xs : List V} {σ0 : St} (hx : SqT K H1 a xs) (S : St → Prop) (ys : List V) (hl : ys.length = xs.length) (big : xs.length ≤ sizeLine) (s0 : S σ0)
    (turn : ∀ (i : Nat) x y σ H (k : St → V → Hp → Prop), xs[i]? = some x → ys[i]? = some y → S σ → Same H1 H → (∀ σ3 H5, S σ3 → Same H H5 → k σ3 y H5) → g x σ H fun σ3 H3 => te σ3 H3 (k σ3))
    (done : ∀ D H, H1 D = none → H D = some (.lst ys) → Same H1 H → Q D H) :
    ∀ D, H1 D = none → ∃ W : Nat → Nat → St → Hp → Prop, (∃ m, W 0 m σ0 (upd H1 D (.lst []))) ∧ CompAsk (Itt K a) g tTrue te D (fun H' => Q D H') W := by
  intro D hD
  refine ⟨fun i m σ H => m = xs.length - i ∧ i ≤ xs.length ∧ S σ ∧ H D = some (.lst (ys.take i)) ∧ Same H1 H, ⟨xs.length, by simp, Nat.zero_le _, s0, upd_same, same_upd hD⟩, ?_⟩
  rintro i m σ H ⟨rfl, hi, hS, hd, hs⟩
  have q : SqT K H a xs := Same.seqT hs hx
  by_cases hlt : i < xs.length
  · refine .inr ⟨⟨xs, xs[i], q, by simp [hlt]⟩, fun x H2 hy => ?_⟩
    obtain ⟨e1, e2⟩ := hy
    subst e1
    have hy := List.getElem?_eq_getElem (by omega : i < ys.length)
    refine turn i x ys[i] σ _ (fun σ3 y H5 => ∃ zs, H5 D = some (.lst zs) ∧ zs.length < sizeLine ∧ ∃ m', m' < xs.length - i ∧ (m' = xs.length - (i + 1) ∧ i + 1 ≤ xs.length ∧ S σ3 ∧ upd H5 D (.lst (zs ++ [y])) D = some (.lst (ys.take (i + 1))) ∧ Same H1 (upd H5 D (.lst (zs ++ [y]))))) (e2 xs q) hy hS hs
      (fun σ3 H5 a1 a2 => ⟨ys.take i, a2 _ _ hd, by rw [List.length_take]; omega, xs.length - (i + 1), by omega, rfl, hlt, a1, by rw [upd_same, take_snoc hy], same_upd' (hs.trans a2) hD⟩)
  · have e : i = xs.length := by omega
    subst e
    rw [← hl, List.take_length] at hd
    exact .inl ⟨⟨xs, q, Nat.le_refl _⟩, done D H hD hd hs⟩
/-- over the signs of a text -/
theorem comp_mapS {a : Str} {σ0 : St} (S : St → Prop) (f : Nat → V) (big : a.cps.size ≤ sizeLine) (s0 : S σ0)
    (turn : ∀ c σ H (k : St → V → Hp → Prop), c ∈ a.cps.toList → S σ → Same H1 H → (∀ σ3 H5, S σ3 → Same H H5 → k σ3 (f c) H5) → g (.str (sgn c)) σ H fun σ3 H3 => te σ3 H3 (k σ3))
    (done : ∀ D H, H1 D = none → H D = some (.lst (a.cps.toList.map f)) → Same H1 H → Q D H) :
    ∀ D, H1 D = none → ∃ W : Nat → Nat → St → Hp → Prop, (∃ m, W 0 m σ0 (upd H1 D (.lst []))) ∧ CompAsk (Its a) g tTrue te D (fun H' => Q D H') W := by
  intro D hD
  have hn : (a.cps.toList.map f).length = a.cps.size := by rw [List.length_map, Array.length_toList]
  refine ⟨fun i m σ H => m = a.cps.size - i ∧ i ≤ a.cps.size ∧ S σ ∧ H D = some (.lst ((a.cps.toList.map f).take i)) ∧ Same H1 H, ⟨a.cps.size, by simp, Nat.zero_le _, s0, upd_same, same_upd hD⟩, ?_⟩
  rintro i m σ H ⟨rfl, hi, hS, hd, hs⟩
  by_cases hlt : i < a.cps.size
  · refine .inr ⟨hlt, fun x H2 hy => ?_⟩
    obtain ⟨e1, c, hc, e2⟩ := hy
    subst e1 e2
    have hc' : a.cps.toList[i]? = some c := by rw [Array.getElem?_toList]; exact hc
    have hy : (a.cps.toList.map f)[i]? = some (f c) := by rw [List.getElem?_map, hc']; rfl
    refine turn c σ _ (fun σ3 y H5 => ∃ zs, H5 D = some (.lst zs) ∧ zs.length < sizeLine ∧ ∃ m', m' < a.cps.size - i ∧ (m' = a.cps.size - (i + 1) ∧ i + 1 ≤ a.cps.size ∧ S σ3 ∧ upd H5 D (.lst (zs ++ [y])) D = some (.lst ((a.cps.toList.map f).take (i + 1))) ∧ Same H1 (upd H5 D (.lst (zs ++ [y]))))) (List.mem_of_getElem? hc') hS hs
      (fun σ3 H5 a1 a2 => ⟨(a.cps.toList.map f).take i, a2 _ _ hd, by rw [List.length_take]; omega, a.cps.size - (i + 1), by omega, rfl, hlt, a1, by rw [upd_same, take_snoc hy], same_upd' (hs.trans a2) hD⟩)
  · have e : i = a.cps.size := by omega
    subst e
    rw [← hn, List.take_length] at hd
    exact .inl ⟨Nat.le_refl _, done D H hD hd hs⟩
/-- over the values of a dict, nothing new on its way -/
theorem comp_mapV {d : Addr} {kvs : List (Key × V)} {σ0 : St} {ob : Obj} (hd : H1 d = some (.dK kvs)) (S : St → Prop) (ys : List V) (hl : ys.length = kvs.length) (big : kvs.length ≤ sizeLine) (s0 : S σ0)
    (turn : ∀ (i : Nat) k x y σ H (kk : St → V → Hp → Prop), kvs[i]? = some (k, x) → ys[i]? = some y → S σ → (∀ c vs, H1 c = some (.tup vs) → H c = some (.tup vs)) → (∀ σ3, S σ3 → kk σ3 y H) → g x σ H fun σ3 H3 => te σ3 H3 (kk σ3))
    (done : ∀ D H, H1 D = none → H D = some (.lst ys) → Same H1 H → Q D H) :
    ∀ D, upd H1 d (.frz ob (.dK kvs)) D = none → ∃ W : Nat → Nat → St → Hp → Prop, (∃ m, W 0 m σ0 (upd (upd H1 d (.frz ob (.dK kvs))) D (.lst []))) ∧ CompAsk (Itv d kvs ob) g tTrue te D (fun H' => H' d = some (.frz ob (.dK kvs)) ∧ Q D (upd H' d (.dK kvs))) W := by
  intro D hD
  obtain ⟨nDd, hD1⟩ := free_upd hD
  have fr : ∀ zs, upd (upd H1 d (.frz ob (.dK kvs))) D (.lst zs) d = some (.frz ob (.dK kvs)) := fun zs => by rw [upd_ne nDd.symm, upd_same]
  refine ⟨fun i m σ H => m = kvs.length - i ∧ i ≤ kvs.length ∧ S σ ∧ H = upd (upd H1 d (.frz ob (.dK kvs))) D (.lst (ys.take i)), ⟨kvs.length, by simp, Nat.zero_le _, s0, rfl⟩, ?_⟩
  rintro i m σ H ⟨rfl, hi, hS, rfl⟩
  by_cases hlt : i < kvs.length
  · refine .inr ⟨⟨fr _, hlt⟩, fun x H2 hy => ?_⟩
    obtain ⟨k, e1, e2⟩ := hy
    subst e2
    have hy := List.getElem?_eq_getElem (by omega : i < ys.length)
    refine turn i k x ys[i] σ _ _ e1 hy hS (fun c vs hc => ?_) fun σ3 a1 => ⟨ys.take i, upd_same, by rw [List.length_take]; omega, kvs.length - (i + 1), by omega, rfl, hlt, a1, ?_⟩
    · rw [upd_ne (fun z => by rw [z, hD1] at hc; cases hc), upd_ne (fun z => by rw [z, hd] at hc; cases hc)]
      exact hc
    · rw [upd_upd, take_snoc hy]
  · have e : i = kvs.length := by omega
    subst e
    refine .inl ⟨⟨fr _, Nat.le_refl _⟩, fr _, ?_⟩
    rw [← hl, List.take_length]
    refine done D _ hD1 (by rw [upd_ne nDd, upd_same]) fun b o hb => ?_
    by_cases z : b = d
    · subst z
      rw [hd] at hb
      cases hb
      exact upd_same
    · rw [upd_ne z, upd_ne (fun q => by rw [q, hD1] at hb; cases hb), upd_ne z]
      exact hb
end
end L2

set_option Elab.async false
set_option linter.all false
set_option maxRecDepth 100000
set_option maxHeartbeats 4000000
namespace L2
open PySem PySem.Spec PyProof.Rows
/-! ### f-strings with a number -/
section
variable {X : Cx} {e e1 e2 e3 : Expr} {te t1 t2 t3 : TE} {pos : Pos}
def tFmtI (te : TE) : TE := fun σ H Q => te σ H fun x H1 => ∃ i : Int, x = .int i ∧ i.natAbs.log2 < 1920 ∧ Q (.str (toString i)) H1
theorem pe_fmtI (he : PE X e te) : PE X (.FormattedValue e (-1) none pos) (tFmtI te) := by
  intro pins s σ H Q I h
  refine FormattedValue_plain (thn (he pins s σ H _ I h) fun v s1 ⟨x, H1, I1, r1, i, ex, hl, q⟩ => ?_)
  subst ex
  obtain ⟨t, rfl⟩ := r1
  exact wpAny_formatField_int hl ⟨.str (toString i), H1, I1.tok _, ⟨_, rfl⟩, q⟩
def tJoin3 (t1 t2 t3 : TE) : TE := fun σ H Q => t1 σ H fun a H1 => ∃ x1, a = .str x1 ∧ x1.length ≤ 20000 ∧ t2 σ H1 fun b H2 => ∃ x2, b = .str x2 ∧ x2.length ≤ 20000 ∧ t3 σ H2 fun c H3 => ∃ x3, c = .str x3 ∧ x3.length ≤ 20000 ∧ Q (.str (x1 ++ x2 ++ x3)) H3
theorem pe_join3 (h1 : PE X e1 t1) (h2 : PE X e2 t2) (h3 : PE X e3 t3) : PE X (.JoinedStr [e1, e2, e3] pos) (tJoin3 t1 t2 t3) := by
  intro pins s σ H Q I h
  refine JoinedStr_many (joinParts_cons (thn (h1 pins s σ H _ I h) fun v s1 ⟨a, H1, I1, r1, x1, ex, l1, q1⟩ => ?_))
  subst ex
  obtain ⟨t, rfl⟩ := r1
  show (Str.empty ++ x1).length ≤ sizeLine ∧ wpAny _ _ (joinParts (Str.empty ++ x1) (eval e2 X.env :: eval e3 X.env :: evalEach [] X.env)) _ _ s1
  rw [str_empty_app]
  have big : ∀ {n : Nat}, n ≤ 80000 → n ≤ sizeLine := fun h => by rw [sizeLine_eq]; omega
  refine ⟨big (by omega), joinParts_cons (thn (h2 pins s1 σ H1 _ I1 q1) fun v s2 ⟨b, H2, I2, r2, x2, ey, l2, q2⟩ => ?_)⟩
  subst ey
  obtain ⟨t', rfl⟩ := r2
  refine ⟨big (by rw [len_app]; omega), joinParts_cons (thn (h3 pins s2 σ H2 _ I2 q2) fun v s3 ⟨c, H3, I3, r3, x3, ez, l3, q3⟩ => ?_)⟩
  subst ez
  obtain ⟨t3', rfl⟩ := r3
  have hz : (x1 ++ x2 ++ x3).length ≤ sizeLine := big (by rw [len_app, len_app]; omega)
  exact ⟨hz, joinParts_nil ⟨.str (x1 ++ x2 ++ x3), H3, I3.tok _, ⟨_, rfl⟩, q3⟩ hz⟩
end
end L2

set_option Elab.async false
set_option linter.all false
set_option maxRecDepth 100000
set_option maxHeartbeats 4000000
namespace K35
open PySem PySem.Spec PyProof.Rows L2
/-- all but the object at x is as it was; what is free was free -/
structure Stage (C dx x : Addr) (H Hk : Hp) (fl : List (Str × V)) : Prop where
  same : ∀ b o, H b = some o → b ≠ x → Hk b = some o
  free : ∀ b, Hk b = none → H b = none
  ob : Hk x = some (.ins C dx fl)
section
variable {K : PySem.W.Frag} {C dx x p a : Addr} {H Hk : Hp} {fl fl' : List (Str × V)} {o o' : HO} {xs : List V}
theorem Stage.put (S : Stage C dx x H Hk fl) : Stage C dx x H (upd Hk x (.ins C dx fl')) fl' :=
  ⟨fun b o e hb => by rw [upd_ne hb]; exact S.same b o e hb, fun b e => S.free b (free_upd e).2, upd_same⟩
theorem keep_upd (h : Hk a = some o) (n : a ≠ p) : upd Hk p o' a = some o := by rw [upd_ne n]; exact h
theorem lp {f : Str} {v : V} {n : Nat} (h : fl.length ≤ n) : (putF f v fl).length ≤ n + 1 := Nat.le_trans (length_putF _ _ _) (by omega)
theorem few {n : Nat} (h : fl.length ≤ n) (h2 : n < 1000) : fl.length < 1000 := by omega
theorem len0 : ([] : List (Str × V)).length ≤ 0 := Nat.le_refl _
end
/-- the heap without some places -/
def msk (L : List Addr) (H : Hp) : Hp := fun b => if b ∈ L then none else H b
theorem msk_at {L : List Addr} {H : Hp} {b : Addr} {o : HO} (n : b ∉ L) (h : H b = some o) : msk L H b = some o := by
  unfold msk
  rw [if_neg n]
  exact h
/-- places that stand, and are no tuples -/
def Busy (H : Hp) (L : List Addr) : Prop := ∀ b ∈ L, ∃ o, H b = some o ∧ ∀ vs, o ≠ .tup vs
theorem Busy.free {H : Hp} {L : List Addr} (h : Busy H L) {b : Addr} (n : H b = none) : b ∉ L := fun z => by
  obtain ⟨o, e, _⟩ := h b z
  rw [n] at e
  cases e
theorem Busy.tup {H : Hp} {L : List Addr} (h : Busy H L) {b : Addr} {vs : List V} (n : H b = some (.tup vs)) : b ∉ L := fun z => by
  obtain ⟨o, e, q⟩ := h b z
  rw [n] at e
  cases e
  exact q _ rfl
theorem paired_get' {α β : Type} {F : α → β → Prop} : ∀ {xs : List α} {ys : List β}, Paired F xs ys → ∀ {i : Nat} {x : α}, xs[i]? = some x → ∃ y, ys[i]? = some y ∧ F x y
  | _, _, .nil, i, y, h => by cases h
  | _, _, .cons r t, 0, y, h => by cases h; exact ⟨_, rfl, r⟩
  | _, _, .cons r t, i + 1, y, h => paired_get' t (i := i) h
theorem paired_len {α β : Type} {F : α → β → Prop} : ∀ {xs : List α} {ys : List β}, Paired F xs ys → xs.length = ys.length
  | _, _, .nil => rfl
  | _, _, .cons _ t => congrArg (· + 1) (paired_len t)
theorem paired_snoc {α β : Type} {F : α → β → Prop} {x : α} {y : β} (h : F x y) : ∀ {xs : List α} {ys : List β}, Paired F xs ys → Paired F (xs ++ [x]) (ys ++ [y])
  | _, _, .nil => .cons h .nil
  | _, _, .cons r t => .cons r (paired_snoc h t)
theorem rising_pw : ∀ (p : Str) (l : List Str), risingS p l = true → (p :: l).Pairwise (fun a b => a.cps.toList ≤ b.cps.toList)
  | p, [], _ => List.pairwise_singleton _ _
  | p, x :: r, h => by
    have h : (!ltCps x.cps.toList p.cps.toList && risingS x r) = true := h
    obtain ⟨h1, h2⟩ := Bool.and_eq_true_iff.mp h
    have ih := rising_pw x r h2
    have le : p.cps.toList ≤ x.cps.toList := by
      rw [PyProof.Rows.ltCps_eq] at h1
      intro z
      rw [decide_eq_true z] at h1
      cases h1
    refine List.pairwise_cons.mpr ⟨fun y hy => ?_, ih⟩
    rcases List.mem_cons.mp hy with e | hy
    · rw [e]; exact le
    · exact List.le_trans le (List.rel_of_pairwise_cons ih hy)
theorem sorted_pw : ∀ {l : List Str}, sortedS l = true → l.Pairwise (fun a b => a.cps.toList ≤ b.cps.toList)
  | [], _ => .nil
  | x :: r, h => rising_pw x r h
theorem sorted_eq {a b : List Str} (p : a.Perm b) (h1 : sortedS a = true) (h2 : sortedS b = true) : a = b := by
  refine List.Perm.eq_of_pairwise (fun x y _ _ h h' => ?_) (sorted_pw h1) (sorted_pw h2) p
  have e := List.le_antisymm h h'
  obtain ⟨⟨x⟩⟩ := x
  obtain ⟨⟨y⟩⟩ := y
  have e : x = y := e
  rw [e]

/-! ### a table of files, pure -/
section
variable {β : Type}
def putP (tr : List (Str × β)) (x : Str) (ls : β) : List (Str × β) := if (tr.any fun f => decide (f.1 = x)) = true then tr.map (fun f => if f.1 = x then (f.1, ls) else f) else tr ++ [(x, ls)]
theorem putP_mem {tr : List (Str × β)} {x : Str} {ls : β} {f : Str × β} (h : f ∈ putP tr x ls) : f = (x, ls) ∨ f ∈ tr := by
  unfold putP at h
  split at h
  · obtain ⟨g, hg, e⟩ := List.mem_map.mp h
    split at e
    · rename_i hx
      left; rw [← e, hx]
    · right; rw [← e]; exact hg
  · rcases List.mem_append.mp h with h | h
    · exact .inr h
    · exact .inl (List.mem_singleton.mp h)
theorem putP_keys (tr : List (Str × β)) (x : Str) (ls : β) : (putP tr x ls).map (·.1) = if (tr.any fun f => decide (f.1 = x)) = true then tr.map (·.1) else tr.map (·.1) ++ [x] := by
  unfold putP
  split
  · rw [List.map_map]
    refine List.map_congr_left fun f _ => ?_
    show (if f.1 = x then (f.1, ls) else f).1 = f.1
    split <;> rfl
  · rw [List.map_append]; rfl
theorem any_key {tr : List (Str × β)} {x : Str} : (tr.any fun f => decide (f.1 = x)) = true ↔ x ∈ tr.map (·.1) := by
  rw [List.any_eq_true, List.mem_map]
  constructor
  · rintro ⟨f, hf, e⟩
    exact ⟨f, hf, of_decide_eq_true e⟩
  · rintro ⟨f, hf, e⟩
    exact ⟨f, hf, decide_eq_true e⟩
theorem putP_nodup {tr : List (Str × β)} {x : Str} {ls : β} (h : (tr.map (·.1)).Nodup) : ((putP tr x ls).map (·.1)).Nodup := by
  rw [putP_keys]
  split
  · exact h
  · rename_i hx
    rw [List.nodup_append]
    refine ⟨h, by simp, fun a ha b hb => ?_⟩
    rw [List.mem_singleton.mp hb]
    intro e
    exact hx (any_key.mpr (e ▸ ha))
theorem putP_key {tr : List (Str × β)} {x y : Str} {ls : β} (h : y = x ∨ y ∈ tr.map (·.1)) : y ∈ (putP tr x ls).map (·.1) := by
  rw [putP_keys]
  split
  · rename_i hx
    rcases h with h | h
    · rw [h]; exact any_key.mp hx
    · exact h
  · rcases h with h | h
    · rw [h]; exact List.mem_append_right _ (List.mem_singleton.mpr rfl)
    · exact List.mem_append_left _ h
theorem putP_len (tr : List (Str × β)) (x : Str) (ls : β) : (putP tr x ls).length ≤ tr.length + 1 := by
  unfold putP
  split
  · rw [List.length_map]; omega
  · rw [List.length_append, List.length_singleton]; omega
/-- a dict's entries beside a table -/
theorem paired_put {F : Key × V → Str × β → Prop} (hk : ∀ kv f, F kv f → kv.1 = Sum.inr f.1) {x : Str} {ls : β} {v : V} (hv : F (.inr x, v) (x, ls)) {kvs : List (Key × V)} {tr : List (Str × β)} (h : Paired F kvs tr) : Paired F (putK kvs (.inr x) v) (putP tr x ls) := by
  have e : (kvs.any fun kv => decide (kv.1 = Sum.inr x)) = (tr.any fun f => decide (f.1 = x)) := by
    induction h with
    | nil => rfl
    | cons r t ih =>
      rw [List.any_cons, List.any_cons, ih, hk _ _ r]
      congr 1
      exact decide_eq_decide.mpr ⟨fun z => Sum.inr.inj z, fun z => by rw [z]⟩
  unfold putK putP
  rw [e]
  split
  · clear e
    rename_i hh
    clear hh
    induction h with
    | nil => exact .nil
    | @cons kv f kvs tr r t ih =>
      refine .cons ?_ ih
      have hr := hk _ _ r
      dsimp only
      by_cases hx : f.1 = x
      · have hkx : kv.1 = Sum.inr x := by rw [hr, hx]
        rw [if_pos hkx, if_pos hx, hkx, hx]
        exact hv
      · rw [if_neg (fun z => hx (Sum.inr.inj (hr.symm.trans z))), if_neg hx]
        exact r
  · exact paired_snoc hv h
end
theorem keysS_of {β : Type} {F : Key × V → Str × β → Prop} (hk : ∀ kv f, F kv f → kv.1 = Sum.inr f.1) {kvs : List (Key × V)} {tr : List (Str × β)} (h : Paired F kvs tr) : KeysS kvs (tr.map (·.1)) := by
  unfold KeysS
  induction h with
  | nil => rfl
  | cons r t ih => rw [List.map_cons, List.map_cons, List.map_cons, ih, hk _ _ r]
/-- what is found at a key -/
theorem paired_val {β : Type} {F : Key × V → Str × β → Prop} (hk : ∀ kv f, F kv f → kv.1 = Sum.inr f.1) {kvs : List (Key × V)} {tr : List (Str × β)} (h : Paired F kvs tr) {x : Str} (hx : x ∈ tr.map (·.1)) : ∃ v ls, valV kvs (.inr x) = some v ∧ (x, ls) ∈ tr ∧ F (.inr x, v) (x, ls) := by
  induction h with
  | nil => cases hx
  | @cons kv f kvs tr r t ih =>
    have hr := hk _ _ r
    by_cases e : f.1 = x
    · refine ⟨kv.2, f.2, by rw [valV_pos (hr.trans (by rw [e]))], ?_, ?_⟩
      · rw [← e]; exact List.mem_cons_self
      · rw [← e, ← hr]; exact r
    · rcases List.mem_cons.mp hx with z | z
      · exact absurd z.symm e
      · obtain ⟨v, ls, a, b, c⟩ := ih z
        exact ⟨v, ls, by rw [valV_neg (fun q => e (Sum.inr.inj (hr.symm.trans q)))]; exact a, List.mem_cons_of_mem _ b, c⟩
theorem nodup_fun {β : Type} {tr : List (Str × β)} (h : (tr.map (·.1)).Nodup) {x : Str} {a b : β} (ha : (x, a) ∈ tr) (hb : (x, b) ∈ tr) : a = b := by
  induction tr with
  | nil => cases ha
  | cons f tr ih =>
    rw [List.map_cons, List.nodup_cons] at h
    rcases List.mem_cons.mp ha with ea | ha
    · rcases List.mem_cons.mp hb with eb | hb
      · rw [← ea] at eb; exact (Prod.mk.inj eb).2.symm
      · exact absurd (List.mem_map_of_mem (f := (·.1)) hb) (by rw [← ea] at h; exact h.1)
    · rcases List.mem_cons.mp hb with eb | hb
      · exact absurd (List.mem_map_of_mem (f := (·.1)) ha) (by rw [← eb] at h; exact h.1)
      · exact ih h.2 ha hb
/-! ### joined and split again -/
theorem app_inj {c : Nat} : ∀ {p q x y : List Nat}, c ∉ p → c ∉ q → p ++ c :: x = q ++ c :: y → p = q ∧ x = y
  | [], [], x, y, _, _, h => ⟨rfl, (List.cons.inj h).2⟩
  | [], b :: q, x, y, _, hq, h => absurd ((List.cons.inj h).1 ▸ List.mem_cons_self) hq
  | a :: p, [], x, y, hp, _, h => absurd ((List.cons.inj h).1.symm ▸ List.mem_cons_self) hp
  | a :: p, b :: q, x, y, hp, hq, h => by
    have h := List.cons.inj h
    obtain ⟨e1, e2⟩ := app_inj (fun z => hp (List.mem_cons_of_mem _ z)) (fun z => hq (List.mem_cons_of_mem _ z)) h.2
    exact ⟨by rw [h.1, e1], e2⟩
theorem str_ext {a b : Str} (h : a.cps.toList = b.cps.toList) : a = b := Str.ext' (Array.toList_inj.mp h)
theorem app_cps (a b : Str) : (a ++ b).cps.toList = a.cps.toList ++ b.cps.toList := by rw [Str.cps_append, Array.toList_append]
theorem join_cons (c : Nat) (p q : Str) (r : List Str) : (Str.join ⟨#[c]⟩ (p :: q :: r)).cps.toList = p.cps.toList ++ c :: (Str.join ⟨#[c]⟩ (q :: r)).cps.toList := by
  show (p ++ ⟨#[c]⟩ ++ Str.join ⟨#[c]⟩ (q :: r)).cps.toList = _
  rw [app_cps, app_cps, List.append_assoc]
  rfl
theorem join_inj {c : Nat} : ∀ {ps qs : List Str}, ps ≠ [] → qs ≠ [] → (∀ p ∈ ps, c ∉ p.cps.toList) → (∀ q ∈ qs, c ∉ q.cps.toList) → Str.join ⟨#[c]⟩ ps = Str.join ⟨#[c]⟩ qs → ps = qs
  | [], _, h, _, _, _, _ => absurd rfl h
  | _ :: _, [], _, h, _, _, _ => absurd rfl h
  | [p], [q], _, _, _, _, e => by
    have e : p = q := e
    rw [e]
  | [p], q :: q' :: r, _, _, hp, _, e => by
    have e := congrArg (fun x : Str => x.cps.toList) e
    have e : p.cps.toList = (Str.join ⟨#[c]⟩ (q :: q' :: r)).cps.toList := e
    rw [join_cons] at e
    exact absurd (by rw [e]; exact List.mem_append_right _ List.mem_cons_self) (hp p List.mem_cons_self)
  | p :: p' :: r, [q], _, _, _, hq, e => by
    have e := congrArg (fun x : Str => x.cps.toList) e
    have e : (Str.join ⟨#[c]⟩ (p :: p' :: r)).cps.toList = q.cps.toList := e
    rw [join_cons] at e
    exact absurd (by rw [← e]; exact List.mem_append_right _ List.mem_cons_self) (hq q List.mem_cons_self)
  | p :: p' :: r, q :: q' :: t, _, _, hp, hq, e => by
    have e := congrArg (fun x : Str => x.cps.toList) e
    have e : (Str.join ⟨#[c]⟩ (p :: p' :: r)).cps.toList = (Str.join ⟨#[c]⟩ (q :: q' :: t)).cps.toList := e
    rw [join_cons, join_cons] at e
    obtain ⟨e1, e2⟩ := app_inj (hp p List.mem_cons_self) (hq q List.mem_cons_self) e
    rw [str_ext e1, join_inj (List.cons_ne_nil _ _) (List.cons_ne_nil _ _) (fun z hz => hp z (List.mem_cons_of_mem _ hz)) (fun z hz => hq z (List.mem_cons_of_mem _ hz)) (str_ext e2)]
theorem split_ne (x y : Str) : Txt.split x y ≠ [] := fun z => by
  have := split_pos x y
  rw [z] at this
  exact absurd this (by decide)
theorem split_join {c : Nat} {ps : List Str} (ne : ps ≠ []) (h : ∀ p ∈ ps, c ∉ p.cps.toList) : Txt.split (Str.join ⟨#[c]⟩ ps) ⟨#[c]⟩ = ps :=
  join_inj (split_ne _ _) ne (StrLaws.split_free _ _) h (StrLaws.join_split _ _)
/-! ### signs -/
def le2 (x y : Str) : Bool := !decide (y.cps.toList < x.cps.toList)
def btw (lo hi : Str) (c : Nat) : Bool := if le2 lo (sgn c) = true then le2 (sgn c) hi else false
theorem le2_one (a b : Nat) : le2 ⟨#[a]⟩ ⟨#[b]⟩ = decide (a ≤ b) := by
  unfold le2
  show (!decide ([b] < [a])) = _
  rw [StrLaws.lt_cons_cons, StrLaws.lt_nil_nil, Bool.and_false, Bool.or_false]
  by_cases h : b < a
  · rw [decide_eq_true h, decide_eq_false (by omega)]; rfl
  · rw [decide_eq_false h, decide_eq_true (by omega)]; rfl
theorem btw_eq (a b c : Nat) : btw ⟨#[a]⟩ ⟨#[b]⟩ c = decide (a ≤ c ∧ c ≤ b) := by
  unfold btw sgn
  rw [le2_one, le2_one]
  by_cases h : a ≤ c
  · rw [decide_eq_true h, if_pos rfl]
    exact decide_eq_decide.mpr ⟨fun z => ⟨h, z⟩, fun z => z.2⟩
  · rw [decide_eq_false h, if_neg (by decide), decide_eq_false (fun z => h z.1)]
theorem starts_one (x : Str) (c : Nat) : Txt.startswith x ⟨#[c]⟩ = decide (x.cps.toList[0]? = some c) := by
  unfold Txt.startswith
  rw [Bool.eq_iff_iff, Bool.and_eq_true, decide_eq_true_eq, decide_eq_true_eq]
  exact StrLaws.subAt_one x c 0
def nlS : Str := "\n"
def spS : Str := " "
def slS : Str := "/"
def doS : Str := "."
def ltS : Str := "<"
def gtS : Str := ">"
def aS : Str := "a"
def zS : Str := "z"
def tiS : Str := "~"
def z0S : Str := "0"
def n9S : Str := "9"
def inS : Str := "in"
def chS : Str := "choose"
def owS : Str := "own"
theorem nl_eq : nlS = ⟨#[10]⟩ := by decide +kernel
theorem sp_eq : spS = ⟨#[32]⟩ := by decide +kernel
theorem sl_eq : slS = ⟨#[47]⟩ := by decide +kernel
theorem do_eq : doS = ⟨#[46]⟩ := by decide +kernel
theorem lt_eq : ltS = ⟨#[60]⟩ := by decide +kernel
theorem gt_eq : gtS = ⟨#[62]⟩ := by decide +kernel
theorem a_eq : aS = ⟨#[97]⟩ := by decide +kernel
theorem z_eq : zS = ⟨#[122]⟩ := by decide +kernel
theorem ti_eq : tiS = ⟨#[126]⟩ := by decide +kernel
theorem z0_eq : z0S = ⟨#[48]⟩ := by decide +kernel
theorem n9_eq : n9S = ⟨#[57]⟩ := by decide +kernel
theorem in_eq : inS = ⟨#[105, 110]⟩ := by decide +kernel
theorem ch_eq : chS = ⟨#[99, 104, 111, 111, 115, 101]⟩ := by decide +kernel
theorem ow_eq : owS = ⟨#[111, 119, 110]⟩ := by decide +kernel
/-! ### what a row may be -/
def nameB (x : Str) : Bool := decide (0 < x.length ∧ x.length ≤ 8) && x.cps.toList.all (btw aS zS)
def pathB (x : Str) : Bool := decide ((Txt.split x slS).length ≤ 4) && (Txt.split x slS).all nameB
def lsB (c : Nat) : Bool := btw spS tiS c && decide (c ≠ 37)
def lineB (x : Str) : Bool := decide (x.length ≤ 60) && x.cps.toList.all lsB
def figB (x : Str) : Bool := x.cps.toList.all (btw z0S n9S)
def numR (x : Str) : Option Int := if (decide (0 < x.length ∧ x.length ≤ 10) && figB x) = true then (if (Txt.startswith x z0S && decide (x ≠ z0S)) = true then none else if 1000000000 < (NumText.digitsVal x.cps.toList : Int) then none else some (NumText.digitsVal x.cps.toList)) else none
def mkB (x : Str) : Bool := decide ((Txt.split x doS).length ≤ 3) && (Txt.split x doS).all fun p => (numR p).isSome
def goodB (row : Str) : Bool :=
  if (Txt.startswith row ltS || Txt.startswith row gtS) = true then lineB (Txt.slice row (some 1) none) else
  match Txt.split row spS with
  | [w, p] => decide (w = owS) && pathB p
  | [w, n, x] => !decide (w = owS) && nameB n && (if w = inS then mkB x else decide (w = chS) && nameB x)
  | _ => false
theorem figB_digits {x : Str} (h : figB x = true) : NumText.AllDigits x.cps.toList := fun c hc => by
  have := List.all_eq_true.mp h c hc
  rw [z0_eq, n9_eq, btw_eq] at this
  exact of_decide_eq_true this
theorem fig_read {x : Str} (h : figB x = true) (h1 : 0 < x.length) (h2 : x.length ≤ 4300) : PySem.intText? x = some ((NumText.digitsVal x.cps.toList : Nat) : Int) :=
  PySem.intText_digits (figB_digits h) (fun z => by
    have : x.cps.toList.length = x.length := Array.length_toList
    rw [z] at this
    simp at this
    omega) h2
/-! ### what rows tell -/
inductive Row
  | les (x : Str)
  | mor (x : Str)
  | inn (n t : Str)
  | cho (c n : Str)
  | own (p : Str)
def parse (row : Str) : Row :=
  if Txt.startswith row ltS = true then .les (Txt.slice row (some 1) none) else if Txt.startswith row gtS = true then .mor (Txt.slice row (some 1) none) else
  if (Txt.split row spS).getD 0 Str.empty = inS then .inn ((Txt.split row spS).getD 1 Str.empty) ((Txt.split row spS).getD 2 Str.empty) else
  if (Txt.split row spS).getD 0 Str.empty = chS then .cho ((Txt.split row spS).getD 1 Str.empty) ((Txt.split row spS).getD 2 Str.empty) else .own ((Txt.split row spS).getD 1 Str.empty)
def mkN (t : Str) : List Int := (Txt.split t doS).map fun p => ((NumText.digitsVal p.cps.toList : Nat) : Int)
structure Nt where
  ch : List (Str × List Int) := []
  cs : List (Str × Str) := []
  ow : List (Str × (List Str × List Str)) := []
  ck : Option Str := none
  b : List Str := []
  m : List Str := []
def putC (ow : List (Str × (List Str × List Str))) (ck : Option Str) (r : List Str × List Str) : List (Str × (List Str × List Str)) :=
  match ck with
  | none => ow
  | some p => putP ow p r
def Nt.step (s : Nt) (row : Str) : Nt :=
  match parse row with
  | .les x => { s with ow := putC s.ow s.ck (s.b ++ [x], s.m), b := s.b ++ [x] }
  | .mor x => { s with ow := putC s.ow s.ck (s.b, s.m ++ [x]), m := s.m ++ [x] }
  | .inn n t => { s with ch := putP s.ch n (mkN t) }
  | .cho c n => { s with cs := putP s.cs c n }
  | .own p => { s with ow := putP s.ow p ([], []), ck := some p, b := [], m := [] }
def noted (rows : List Str) : Nt := rows.foldl Nt.step {}
/-! ### the rows of a stand -/
def numS (n : Int) : Str := toString n
def mkS (ms : List Int) : Str := Str.join doS (ms.map numS)
def rowI (e : Str × List Int) : Str := Str.join spS [inS, e.1, mkS e.2]
def rowC (e : Str × Str) : Str := Str.join spS [chS, e.1, e.2]
def rowO (e : Str × (List Str × List Str)) : List Str := [Str.join spS [owS, e.1]] ++ e.2.1.map (ltS ++ ·) ++ e.2.2.map (gtS ++ ·)
def rowsT (ch : List (Str × List Int)) (cs : List (Str × Str)) (ow : List (Str × (List Str × List Str))) : List Str := ch.map rowI ++ cs.map rowC ++ ow.flatMap rowO
def rowsOf (t : Str) : List Str := if t = Str.empty then [] else Txt.split t nlS
/-! ### what the law draws -/
structure IsNm (x : Str) : Prop where
  lo : 1 ≤ x.length
  hi : x.length ≤ 8
  az : ∀ c ∈ x.cps.toList, 97 ≤ c ∧ c ≤ 122
structure IsLn (x : Str) : Prop where
  hi : x.length ≤ 60
  sg : ∀ c ∈ x.cps.toList, 32 ≤ c ∧ c ≤ 126 ∧ c ≠ 37
structure IsMk (ms : List Int) : Prop where
  lo : 1 ≤ ms.length
  hi : ms.length ≤ 3
  rg : ∀ n ∈ ms, 0 ≤ n ∧ n ≤ 1000000000
def IsPt (x : Str) : Prop := ∃ ps : List Str, x = Str.join slS ps ∧ 1 ≤ ps.length ∧ ps.length ≤ 4 ∧ ∀ p ∈ ps, IsNm p
theorem IsNm.name {x : Str} (h : IsNm x) : nameB x = true := by
  unfold nameB
  rw [decide_eq_true ⟨h.lo, h.hi⟩, Bool.true_and, List.all_eq_true]
  intro c hc
  rw [a_eq, z_eq, btw_eq]
  exact decide_eq_true (h.az c hc)
theorem IsLn.line {x : Str} (h : IsLn x) : lineB x = true := by
  unfold lineB
  rw [decide_eq_true h.hi, Bool.true_and, List.all_eq_true]
  intro c hc
  obtain ⟨h1, h2, h3⟩ := h.sg c hc
  unfold lsB
  rw [sp_eq, ti_eq, btw_eq, decide_eq_true ⟨h1, h2⟩, decide_eq_true h3]
  rfl
theorem ne_nil {α : Type} {l : List α} (h : 1 ≤ l.length) : l ≠ [] := fun z => by
  rw [z, List.length_nil] at h
  omega
theorem IsPt.path {x : Str} (h : IsPt x) : pathB x = true := by
  obtain ⟨ps, rfl, h1, h2, h3⟩ := h
  have e : Txt.split (Str.join slS ps) slS = ps := by
    rw [sl_eq]
    exact split_join (ne_nil h1) fun p hp hc => by have := (h3 p hp).az _ hc; omega
  unfold pathB
  rw [e, decide_eq_true h2, Bool.true_and, List.all_eq_true]
  exact fun p hp => (h3 p hp).name
theorem join_mem {c : Nat} : ∀ {ps : List Str} {d : Nat}, d ∈ (Str.join ⟨#[c]⟩ ps).cps.toList → d = c ∨ ∃ p ∈ ps, d ∈ p.cps.toList
  | [], d, h => by
    have h : d ∈ ([] : List Nat) := h
    cases h
  | [p], d, h => .inr ⟨p, List.mem_cons_self, h⟩
  | p :: q :: r, d, h => by
    rw [join_cons] at h
    rcases List.mem_append.mp h with h | h
    · exact .inr ⟨p, List.mem_cons_self, h⟩
    · rcases List.mem_cons.mp h with h | h
      · exact .inl h
      · rcases join_mem h with h | ⟨z, hz, hd⟩
        · exact .inl h
        · exact .inr ⟨z, List.mem_cons_of_mem _ hz, hd⟩
theorem IsPt.signs {x : Str} (h : IsPt x) : ∀ c ∈ x.cps.toList, c = 47 ∨ (97 ≤ c ∧ c ≤ 122) := by
  obtain ⟨ps, rfl, h1, h2, h3⟩ := h
  intro c hc
  rw [sl_eq] at hc
  rcases join_mem hc with e | ⟨p, hp, hd⟩
  · exact .inl e
  · exact .inr ((h3 p hp).az c hd)
/-! ### numbers -/
theorem digits_head : ∀ (m : Nat) (r : List Char), Nat.toDigits 10 m = '0' :: r → m = 0 := by
  intro m
  induction m using Nat.strongRecOn with
  | _ m ih =>
    intro r h
    by_cases hm : m < 10
    · rw [Nat.toDigits_of_lt_base hm] at h
      have h1 := (List.cons.inj h).1
      have : ∀ d : Nat, d < 10 → Nat.digitChar d = '0' → d = 0 := by decide
      exact this m hm h1
    · have hm' : m % 10 < 10 := Nat.mod_lt m (by decide)
      have t : Nat.toDigits 10 (m / 10) ++ Nat.toDigits 10 (m % 10) = Nat.toDigits 10 (10 * (m / 10) + m % 10) := Nat.toDigits_append_toDigits (by decide) (by omega) hm'
      rw [Nat.div_add_mod, h] at t
      cases hd : Nat.toDigits 10 (m / 10) with
      | nil =>
        have := PySem.toDigits_len_ge 10 (m / 10)
        rw [hd] at this
        exact absurd this (by decide)
      | cons a r' =>
        rw [hd] at t
        have ha : a = '0' := (List.cons.inj t).1
        subst ha
        have := ih (m / 10) (by omega) r' hd
        omega

theorem num_signs {n : Int} (h0 : 0 ≤ n) : (numS n).cps.toList = (Nat.toDigits 10 n.toNat).map Char.toNat := by
  obtain ⟨m, rfl⟩ := Int.eq_ofNat_of_zero_le h0
  exact PySem.W.KIN.signs_num m
theorem num_digits {n : Int} (h0 : 0 ≤ n) : NumText.AllDigits (numS n).cps.toList := by
  intro c hc
  rw [num_signs h0] at hc
  obtain ⟨ch, hch, e⟩ := List.mem_map.mp hc
  have r := digit_range (Nat.isDigit_of_mem_toDigits (by decide) (by decide) hch)
  rw [← e]
  exact r
theorem num_fig {n : Int} (h0 : 0 ≤ n) : figB (numS n) = true := by
  unfold figB
  rw [List.all_eq_true]
  intro c hc
  rw [z0_eq, n9_eq, btw_eq]
  exact decide_eq_true (num_digits h0 c hc)
theorem num_val {n : Int} (h0 : 0 ≤ n) : ((NumText.digitsVal (numS n).cps.toList : Nat) : Int) = n := by
  rw [num_signs h0, PySem.W.KIN.val_back]
  omega
theorem num_len {n : Int} (h0 : 0 ≤ n) (h1 : n ≤ 1000000000) : 1 ≤ (numS n).length ∧ (numS n).length ≤ 10 := by
  refine ⟨?_, PySem.W.KT.len_num h0 (by omega)⟩
  have e : (numS n).cps.toList.length = (numS n).length := Array.length_toList
  rw [← e, num_signs h0, List.length_map]
  exact PySem.toDigits_len_ge 10 _
theorem num_read {n : Int} (h0 : 0 ≤ n) (h1 : n ≤ 1000000000) : numR (numS n) = some n := by
  obtain ⟨l1, l2⟩ := num_len h0 h1
  unfold numR
  rw [decide_eq_true ⟨l1, l2⟩, num_fig h0, if_pos (by rfl), num_val h0, if_neg (by omega : ¬ 1000000000 < n)]
  rw [if_neg]
  rw [z0_eq, starts_one, Bool.and_eq_true, decide_eq_true_eq, decide_eq_true_eq, num_signs h0]
  rintro ⟨h, ne⟩
  refine ne (str_ext ?_)
  rw [num_signs h0]
  cases hd : Nat.toDigits 10 n.toNat with
  | nil => rw [hd] at h; cases h
  | cons a r =>
    rw [hd] at h
    have h : a.toNat = 48 := Option.some.inj h
    have ha : a = '0' := by
      apply Char.ext
      apply UInt32.toNat.inj
      exact h
    rw [ha] at hd
    have e0 := digits_head _ _ hd
    rw [e0] at hd
    have hd : ['0'] = a :: r := by rw [ha]; exact hd
    rw [← hd]
    rfl
theorem IsMk.split {ms : List Int} (h : IsMk ms) : Txt.split (mkS ms) doS = ms.map numS := by
  unfold mkS
  rw [do_eq]
  refine split_join (fun z => ne_nil h.lo (List.map_eq_nil_iff.mp z)) fun p hp hc => ?_
  obtain ⟨n, hn, rfl⟩ := List.mem_map.mp hp
  have := num_digits (h.rg n hn).1 _ hc
  omega
theorem IsMk.good {ms : List Int} (h : IsMk ms) : mkB (mkS ms) = true := by
  unfold mkB
  rw [h.split, List.length_map, decide_eq_true h.hi, Bool.true_and, List.all_eq_true]
  intro p hp
  obtain ⟨n, hn, rfl⟩ := List.mem_map.mp hp
  rw [num_read (h.rg n hn).1 (h.rg n hn).2]
  rfl
theorem IsMk.back {ms : List Int} (h : IsMk ms) : mkN (mkS ms) = ms := by
  unfold mkN
  rw [h.split, List.map_map]
  exact (List.map_congr_left fun n hn => num_val (h.rg n hn).1).trans (List.map_id _)
theorem IsMk.signs {ms : List Int} (h : IsMk ms) : ∀ c ∈ (mkS ms).cps.toList, 46 ≤ c ∧ c ≤ 57 := by
  intro c hc
  unfold mkS at hc
  rw [do_eq] at hc
  rcases join_mem hc with e | ⟨p, hp, hd⟩
  · omega
  · obtain ⟨n, hn, rfl⟩ := List.mem_map.mp hp
    have := num_digits (h.rg n hn).1 c hd
    omega
/-! ### the rows, one kind after the other -/
theorem slice_eq (x : Str) (l u : Option Int) : Txt.slice x l u = PySem.StrLaws.sliceText x l u := rfl
theorem slice1 (x : Str) (c : Nat) : Txt.slice (⟨#[c]⟩ ++ x) (some 1) none = x := by
  apply str_ext
  have e : (⟨#[c]⟩ ++ x : Str).cps.toList = c :: x.cps.toList := by rw [app_cps]; rfl
  have h := PySem.StrLaws.sliceText_from (x := ⟨#[c]⟩ ++ x) (i := 1) ⟨by decide, by rw [e, List.length_cons]; omega⟩
  rw [slice_eq, h, e]
  show (List.take _ x.cps.toList) = x.cps.toList
  refine List.take_of_length_le ?_
  rw [List.length_cons]
  omega
theorem starts_cons {x : Str} {d : Nat} {r : List Nat} (e : x.cps.toList = d :: r) (c : Nat) : Txt.startswith x ⟨#[c]⟩ = decide (d = c) := by
  rw [starts_one, e]
  exact decide_eq_decide.mpr ⟨fun z => Option.some.inj z, fun z => by rw [z]; rfl⟩
theorem lt_cps (x : Str) : (ltS ++ x).cps.toList = 60 :: x.cps.toList := by rw [lt_eq, app_cps]; rfl
theorem gt_cps (x : Str) : (gtS ++ x).cps.toList = 62 :: x.cps.toList := by rw [gt_eq, app_cps]; rfl
theorem good_les {x : Str} (h : IsLn x) : goodB (ltS ++ x) = true := by
  unfold goodB
  have e : Txt.startswith (ltS ++ x) ltS = true := by
    have := starts_cons (lt_cps x) 60
    rw [← lt_eq] at this
    rw [this]; rfl
  rw [e, Bool.true_or, if_pos rfl]
  conv => lhs; arg 1; rw [lt_eq, slice1]
  exact h.line
theorem good_mor {x : Str} (h : IsLn x) : goodB (gtS ++ x) = true := by
  unfold goodB
  have e : Txt.startswith (gtS ++ x) gtS = true := by
    have := starts_cons (gt_cps x) 62
    rw [← gt_eq] at this
    rw [this]; rfl
  rw [e, Bool.or_true, if_pos rfl]
  conv => lhs; arg 1; rw [gt_eq, slice1]
  exact h.line
theorem parse_les (x : Str) : parse (ltS ++ x) = .les x := by
  unfold parse
  have e : Txt.startswith (ltS ++ x) ltS = true := by
    have := starts_cons (lt_cps x) 60
    rw [← lt_eq] at this
    rw [this]; rfl
  rw [if_pos e]
  congr 1
  rw [lt_eq, slice1]
theorem parse_mor (x : Str) : parse (gtS ++ x) = .mor x := by
  unfold parse
  have e : Txt.startswith (gtS ++ x) gtS = true := by
    have := starts_cons (gt_cps x) 62
    rw [← gt_eq] at this
    rw [this]; rfl
  have e0 : Txt.startswith (gtS ++ x) ltS = false := by
    have := starts_cons (gt_cps x) 60
    rw [← lt_eq] at this
    rw [this]; rfl
  rw [if_neg (by rw [e0]; decide), if_pos e]
  congr 1
  rw [gt_eq, slice1]
/-- a row of words -/
theorem words {w : Str} {d : Nat} {r : List Nat} (hw : w.cps.toList = d :: r) (h60 : d ≠ 60) (h62 : d ≠ 62) {ws : List Str} (h : ∀ p ∈ w :: ws, 32 ∉ p.cps.toList) : Txt.split (Str.join spS (w :: ws)) spS = w :: ws ∧ Txt.startswith (Str.join spS (w :: ws)) ltS = false ∧ Txt.startswith (Str.join spS (w :: ws)) gtS = false := by
  have hd : ∃ r', (Str.join spS (w :: ws)).cps.toList = d :: r' := by
    cases ws with
    | nil => exact ⟨r, hw⟩
    | cons v ws => rw [sp_eq, join_cons, hw]; exact ⟨_, rfl⟩
  obtain ⟨r', e⟩ := hd
  refine ⟨?_, ?_, ?_⟩
  · rw [sp_eq]; exact split_join (List.cons_ne_nil _ _) h
  · rw [lt_eq, starts_cons e 60]; exact decide_eq_false h60
  · rw [gt_eq, starts_cons e 62]; exact decide_eq_false h62
theorem free3 {a b c : Str} (h1 : 32 ∉ a.cps.toList) (h2 : 32 ∉ b.cps.toList) (h3 : 32 ∉ c.cps.toList) : ∀ p ∈ [a, b, c], 32 ∉ p.cps.toList := by
  intro p hp
  simp only [List.mem_cons, List.not_mem_nil, or_false] at hp
  rcases hp with rfl | rfl | rfl <;> assumption
theorem IsNm.no {x : Str} (h : IsNm x) {c : Nat} (hc : c < 97) : c ∉ x.cps.toList := fun z => by have := h.az c z; omega
theorem in_no {c : Nat} (hc : c < 97) : c ∉ inS.cps.toList := by
  rw [in_eq]; intro z
  have z : c ∈ [105, 110] := z
  simp at z; omega
theorem ch_no {c : Nat} (hc : c < 97) : c ∉ chS.cps.toList := by
  rw [ch_eq]; intro z
  have z : c ∈ [99, 104, 111, 111, 115, 101] := z
  simp at z; omega
theorem ow_no {c : Nat} (hc : c < 97) : c ∉ owS.cps.toList := by
  rw [ow_eq]; intro z
  have z : c ∈ [111, 119, 110] := z
  simp at z; omega
theorem IsMk.no {ms : List Int} (h : IsMk ms) {c : Nat} (hc : c < 46) : c ∉ (mkS ms).cps.toList := fun z => by have := h.signs c z; omega
theorem IsPt.no {x : Str} (h : IsPt x) {c : Nat} (hc : c < 47) : c ∉ x.cps.toList := fun z => by have := h.signs c z; omega
theorem in_ow : inS ≠ owS := by decide +kernel
theorem ch_ow : chS ≠ owS := by decide +kernel
theorem ch_in : chS ≠ inS := by decide +kernel
theorem ow_in : owS ≠ inS := by decide +kernel
theorem ow_ch : owS ≠ chS := by decide +kernel
theorem good_inn {e : Str × List Int} (h1 : IsNm e.1) (h2 : IsMk e.2) : goodB (rowI e) = true := by
  obtain ⟨a, b, c⟩ := words (w := inS) (d := 105) (r := [110]) (by rw [in_eq]) (by decide) (by decide) (free3 (in_no (by decide)) (h1.no (by decide)) (h2.no (by decide)))
  unfold goodB rowI
  rw [b, c, Bool.or_false, if_neg (by decide), a]
  dsimp only
  rw [decide_eq_false in_ow, h1.name, if_pos rfl, h2.good]
  rfl
theorem parse_inn {e : Str × List Int} (h1 : IsNm e.1) (h2 : IsMk e.2) : parse (rowI e) = .inn e.1 (mkS e.2) := by
  obtain ⟨a, b, c⟩ := words (w := inS) (d := 105) (r := [110]) (by rw [in_eq]) (by decide) (by decide) (free3 (in_no (by decide)) (h1.no (by decide)) (h2.no (by decide)))
  unfold parse rowI
  rw [b, c, a, if_neg (by decide), if_neg (by decide)]
  rfl
theorem good_cho {e : Str × Str} (h1 : IsNm e.1) (h2 : IsNm e.2) : goodB (rowC e) = true := by
  obtain ⟨a, b, c⟩ := words (w := chS) (d := 99) (r := [104, 111, 111, 115, 101]) (by rw [ch_eq]) (by decide) (by decide) (free3 (ch_no (by decide)) (h1.no (by decide)) (h2.no (by decide)))
  unfold goodB rowC
  rw [b, c, Bool.or_false, if_neg (by decide), a]
  dsimp only
  rw [decide_eq_false ch_ow, h1.name, if_neg ch_in, decide_eq_true rfl, h2.name]
  rfl
theorem parse_cho {e : Str × Str} (h1 : IsNm e.1) (h2 : IsNm e.2) : parse (rowC e) = .cho e.1 e.2 := by
  obtain ⟨a, b, c⟩ := words (w := chS) (d := 99) (r := [104, 111, 111, 115, 101]) (by rw [ch_eq]) (by decide) (by decide) (free3 (ch_no (by decide)) (h1.no (by decide)) (h2.no (by decide)))
  unfold parse rowC
  rw [b, c, a, if_neg (by decide), if_neg (by decide)]
  rw [if_neg (show ¬ [chS, e.1, e.2].getD 0 Str.empty = inS from ch_in), if_pos (show [chS, e.1, e.2].getD 0 Str.empty = chS from rfl)]
  rfl
theorem own_words {p : Str} (h : IsPt p) : Txt.split (Str.join spS [owS, p]) spS = [owS, p] ∧ Txt.startswith (Str.join spS [owS, p]) ltS = false ∧ Txt.startswith (Str.join spS [owS, p]) gtS = false :=
  words (w := owS) (d := 111) (r := [119, 110]) (by rw [ow_eq]) (by decide) (by decide) fun q hq => by
    simp only [List.mem_cons, List.not_mem_nil, or_false] at hq
    rcases hq with rfl | rfl
    · exact ow_no (by decide)
    · exact h.no (by decide)
theorem good_own {p : Str} (h : IsPt p) : goodB (Str.join spS [owS, p]) = true := by
  obtain ⟨a, b, c⟩ := own_words h
  unfold goodB
  rw [b, c, Bool.or_false, if_neg (by decide), a]
  dsimp only
  rw [decide_eq_true rfl, h.path]
  rfl
theorem parse_own {p : Str} (h : IsPt p) : parse (Str.join spS [owS, p]) = .own p := by
  obtain ⟨a, b, c⟩ := own_words h
  unfold parse
  rw [b, c, a, if_neg (by decide), if_neg (by decide)]
  rw [if_neg (show ¬ [owS, p].getD 0 Str.empty = inS from ow_in), if_neg (show ¬ [owS, p].getD 0 Str.empty = chS from ow_ch)]
  rfl
/-! ### all the rows -/
structure OkS (ch : List (Str × List Int)) (cs : List (Str × Str)) (ow : List (Str × (List Str × List Str))) : Prop where
  ch : ∀ e ∈ ch, IsNm e.1 ∧ IsMk e.2
  cs : ∀ e ∈ cs, IsNm e.1 ∧ IsNm e.2
  ow : ∀ e ∈ ow, IsPt e.1 ∧ (∀ x ∈ e.2.1, IsLn x) ∧ ∀ x ∈ e.2.2, IsLn x
theorem rows_cases {ch : List (Str × List Int)} {cs : List (Str × Str)} {ow : List (Str × (List Str × List Str))} (ok : OkS ch cs ow) {r : Str} (h : r ∈ rowsT ch cs ow) :
    (∃ e : Str × List Int, IsNm e.1 ∧ IsMk e.2 ∧ r = rowI e) ∨ (∃ e : Str × Str, IsNm e.1 ∧ IsNm e.2 ∧ r = rowC e) ∨ (∃ p, IsPt p ∧ r = Str.join spS [owS, p]) ∨ (∃ x, IsLn x ∧ r = ltS ++ x) ∨ ∃ x, IsLn x ∧ r = gtS ++ x := by
  unfold rowsT at h
  rcases List.mem_append.mp h with h | h
  · rcases List.mem_append.mp h with h | h
    · obtain ⟨e, he, rfl⟩ := List.mem_map.mp h
      exact .inl ⟨e, (ok.ch e he).1, (ok.ch e he).2, rfl⟩
    · obtain ⟨e, he, rfl⟩ := List.mem_map.mp h
      exact .inr (.inl ⟨e, (ok.cs e he).1, (ok.cs e he).2, rfl⟩)
  · obtain ⟨e, he, hr⟩ := List.mem_flatMap.mp h
    obtain ⟨h1, h2, h3⟩ := ok.ow e he
    unfold rowO at hr
    rcases List.mem_append.mp hr with hr | hr
    · rcases List.mem_append.mp hr with hr | hr
      · exact .inr (.inr (.inl ⟨e.1, h1, List.mem_singleton.mp hr⟩))
      · obtain ⟨x, hx, rfl⟩ := List.mem_map.mp hr
        exact .inr (.inr (.inr (.inl ⟨x, h2 x hx, rfl⟩)))
    · obtain ⟨x, hx, rfl⟩ := List.mem_map.mp hr
      exact .inr (.inr (.inr (.inr ⟨x, h3 x hx, rfl⟩)))
theorem rows_good {ch : List (Str × List Int)} {cs : List (Str × Str)} {ow : List (Str × (List Str × List Str))} (ok : OkS ch cs ow) : ∀ r ∈ rowsT ch cs ow, goodB r = true := fun r h => by
  rcases rows_cases ok h with ⟨e, a, b, rfl⟩ | ⟨e, a, b, rfl⟩ | ⟨p, a, rfl⟩ | ⟨x, a, rfl⟩ | ⟨x, a, rfl⟩
  · exact good_inn a b
  · exact good_cho a b
  · exact good_own a
  · exact good_les a
  · exact good_mor a
theorem join3_mem {a b c : Str} {d : Nat} (h : d ∈ (Str.join spS [a, b, c]).cps.toList) : d = 32 ∨ d ∈ a.cps.toList ∨ d ∈ b.cps.toList ∨ d ∈ c.cps.toList := by
  rw [sp_eq] at h
  rcases join_mem h with e | ⟨p, hp, hd⟩
  · exact .inl e
  · simp only [List.mem_cons, List.not_mem_nil, or_false] at hp
    rcases hp with rfl | rfl | rfl
    · exact .inr (.inl hd)
    · exact .inr (.inr (.inl hd))
    · exact .inr (.inr (.inr hd))
theorem rows_free {ch : List (Str × List Int)} {cs : List (Str × Str)} {ow : List (Str × (List Str × List Str))} (ok : OkS ch cs ow) : ∀ r ∈ rowsT ch cs ow, 10 ∉ r.cps.toList ∧ r ≠ Str.empty := fun r h => by
  rcases rows_cases ok h with ⟨e, a, b, rfl⟩ | ⟨e, a, b, rfl⟩ | ⟨p, a, rfl⟩ | ⟨x, a, rfl⟩ | ⟨x, a, rfl⟩
  · refine ⟨fun z => ?_, fun z => ?_⟩
    · rcases join3_mem z with z | z | z | z
      · omega
      · exact in_no (by decide) z
      · exact a.no (by decide) z
      · exact b.no (by decide) z
    · have z : (rowI e).cps.toList = [] := by rw [z]; rfl
      unfold rowI at z
      rw [sp_eq, join_cons, in_eq] at z
      cases z
  · refine ⟨fun z => ?_, fun z => ?_⟩
    · rcases join3_mem z with z | z | z | z
      · omega
      · exact ch_no (by decide) z
      · exact a.no (by decide) z
      · exact b.no (by decide) z
    · have z : (rowC e).cps.toList = [] := by rw [z]; rfl
      unfold rowC at z
      rw [sp_eq, join_cons, ch_eq] at z
      cases z
  · refine ⟨fun z => ?_, fun z => ?_⟩
    · rw [sp_eq] at z
      rcases join_mem z with z | ⟨q, hq, hd⟩
      · omega
      · simp only [List.mem_cons, List.not_mem_nil, or_false] at hq
        rcases hq with rfl | rfl
        · exact ow_no (by decide) hd
        · exact a.no (by decide) hd
    · have z : (Str.join spS [owS, p]).cps.toList = [] := by rw [z]; rfl
      rw [sp_eq, join_cons, ow_eq] at z
      cases z
  · refine ⟨fun z => ?_, fun z => ?_⟩
    · rw [lt_cps] at z
      rcases List.mem_cons.mp z with z | z
      · omega
      · have := a.sg _ z; omega
    · have z : (ltS ++ x).cps.toList = [] := by rw [z]; rfl
      rw [lt_cps] at z
      cases z
  · refine ⟨fun z => ?_, fun z => ?_⟩
    · rw [gt_cps] at z
      rcases List.mem_cons.mp z with z | z
      · omega
      · have := a.sg _ z; omega
    · have z : (gtS ++ x).cps.toList = [] := by rw [z]; rfl
      rw [gt_cps] at z
      cases z
theorem rows_back {rows : List Str} (h : ∀ r ∈ rows, 10 ∉ r.cps.toList ∧ r ≠ Str.empty) : rowsOf (Str.join nlS rows) = rows := by
  unfold rowsOf
  cases rows with
  | nil => exact if_pos rfl
  | cons r rs =>
    have ne : Str.join nlS (r :: rs) ≠ Str.empty := fun z => by
      have hr := (h r List.mem_cons_self).2
      have z : (Str.join nlS (r :: rs)).cps.toList = [] := by rw [z]; rfl
      cases rs with
      | nil => exact hr (str_ext (by rw [show r.cps.toList = [] from z]; rfl))
      | cons q qs =>
        rw [nl_eq, join_cons] at z
        have := congrArg List.length z
        rw [List.length_append, List.length_cons] at this
        simp at this
    rw [if_neg ne, nl_eq]
    exact split_join (List.cons_ne_nil _ _) fun p hp => (h p hp).1
/-! ### noted -/
theorem putP_new {β : Type} {tr : List (Str × β)} {x : Str} {y : β} (h : x ∉ tr.map (·.1)) : putP tr x y = tr ++ [(x, y)] := by
  unfold putP
  rw [if_neg (fun z => h (any_key.mp z))]
theorem putP_last {β : Type} {tr : List (Str × β)} {x : Str} {y z : β} (h : x ∉ tr.map (·.1)) : putP (tr ++ [(x, y)]) x z = tr ++ [(x, z)] := by
  unfold putP
  rw [if_pos (any_key.mpr (by rw [List.map_append]; exact List.mem_append_right _ List.mem_cons_self)), List.map_append]
  congr 1
  · refine (List.map_congr_left fun f hf => ?_).trans (List.map_id _)
    rw [if_neg (fun e : f.1 = x => h (by rw [← e]; exact List.mem_map_of_mem hf))]
    rfl
  · show [if x = x then (x, z) else (x, y)] = _
    rw [if_pos rfl]
theorem step_ch : ∀ (es : List (Str × List Int)) (s : Nt), (∀ e ∈ es, IsNm e.1 ∧ IsMk e.2) → ((s.ch ++ es).map (·.1)).Nodup → (es.map rowI).foldl Nt.step s = { s with ch := s.ch ++ es }
  | [], s, _, _ => by rw [List.append_nil]; rfl
  | e :: es, s, ok, nd => by
    have h1 := ok e List.mem_cons_self
    have e1 : Nt.step s (rowI e) = { s with ch := s.ch ++ [e] } := by
      unfold Nt.step
      rw [parse_inn h1.1 h1.2]
      dsimp only
      rw [h1.2.back, putP_new]
      rw [List.map_append, List.map_cons] at nd
      intro z
      exact (List.nodup_append.mp nd).2.2 _ z _ List.mem_cons_self rfl
    rw [List.map_cons, List.foldl_cons, e1]
    have e2 := step_ch es { s with ch := s.ch ++ [e] } (fun x hx => ok x (List.mem_cons_of_mem _ hx)) (by show (((s.ch ++ [e]) ++ es).map (·.1)).Nodup; rw [List.append_assoc]; exact nd)
    rw [e2]
    show { s with ch := s.ch ++ [e] ++ es } = _
    rw [List.append_assoc]
    rfl
theorem step_cs : ∀ (es : List (Str × Str)) (s : Nt), (∀ e ∈ es, IsNm e.1 ∧ IsNm e.2) → ((s.cs ++ es).map (·.1)).Nodup → (es.map rowC).foldl Nt.step s = { s with cs := s.cs ++ es }
  | [], s, _, _ => by rw [List.append_nil]; rfl
  | e :: es, s, ok, nd => by
    have h1 := ok e List.mem_cons_self
    have e1 : Nt.step s (rowC e) = { s with cs := s.cs ++ [e] } := by
      unfold Nt.step
      rw [parse_cho h1.1 h1.2]
      dsimp only
      rw [putP_new]
      rw [List.map_append, List.map_cons] at nd
      intro z
      exact (List.nodup_append.mp nd).2.2 _ z _ List.mem_cons_self rfl
    rw [List.map_cons, List.foldl_cons, e1]
    have e2 := step_cs es { s with cs := s.cs ++ [e] } (fun x hx => ok x (List.mem_cons_of_mem _ hx)) (by show (((s.cs ++ [e]) ++ es).map (·.1)).Nodup; rw [List.append_assoc]; exact nd)
    rw [e2]
    show { s with cs := s.cs ++ [e] ++ es } = _
    rw [List.append_assoc]
    rfl
theorem step_les (p : Str) (tr : List (Str × (List Str × List Str))) (h : p ∉ tr.map (·.1)) (m : List Str) : ∀ (xs b : List Str) (s : Nt), (xs.map (ltS ++ ·)).foldl Nt.step { s with ow := tr ++ [(p, (b, m))], ck := some p, b := b, m := m } = { s with ow := tr ++ [(p, (b ++ xs, m))], ck := some p, b := b ++ xs, m := m }
  | [], b, s => by rw [List.append_nil]; rfl
  | x :: xs, b, s => by
    have e1 : Nt.step { s with ow := tr ++ [(p, (b, m))], ck := some p, b := b, m := m } (ltS ++ x) = { s with ow := tr ++ [(p, (b ++ [x], m))], ck := some p, b := b ++ [x], m := m } := by
      unfold Nt.step
      rw [parse_les]
      dsimp only [putC]
      rw [putP_last h]
    rw [List.map_cons, List.foldl_cons, e1, step_les p tr h m xs (b ++ [x]) s, List.append_assoc]
    rfl
theorem step_mor (p : Str) (tr : List (Str × (List Str × List Str))) (h : p ∉ tr.map (·.1)) (b : List Str) : ∀ (xs m : List Str) (s : Nt), (xs.map (gtS ++ ·)).foldl Nt.step { s with ow := tr ++ [(p, (b, m))], ck := some p, b := b, m := m } = { s with ow := tr ++ [(p, (b, m ++ xs))], ck := some p, b := b, m := m ++ xs }
  | [], m, s => by rw [List.append_nil]; rfl
  | x :: xs, m, s => by
    have e1 : Nt.step { s with ow := tr ++ [(p, (b, m))], ck := some p, b := b, m := m } (gtS ++ x) = { s with ow := tr ++ [(p, (b, m ++ [x]))], ck := some p, b := b, m := m ++ [x] } := by
      unfold Nt.step
      rw [parse_mor]
      dsimp only [putC]
      rw [putP_last h]
    rw [List.map_cons, List.foldl_cons, e1, step_mor p tr h b xs (m ++ [x]) s, List.append_assoc]
    rfl
theorem step_ow : ∀ (es : List (Str × (List Str × List Str))) (s : Nt), (∀ e ∈ es, IsPt e.1) → ((s.ow ++ es).map (·.1)).Nodup → ∃ ck b m, (es.flatMap rowO).foldl Nt.step s = { s with ow := s.ow ++ es, ck := ck, b := b, m := m }
  | [], s, _, _ => ⟨s.ck, s.b, s.m, by rw [List.append_nil]; rfl⟩
  | e :: es, s, ok, nd => by
    obtain ⟨p, b, m⟩ := e
    have h1 : IsPt p := ok _ List.mem_cons_self
    have hp : p ∉ s.ow.map (·.1) := fun z => by
      rw [List.map_append, List.map_cons] at nd
      exact (List.nodup_append.mp nd).2.2 _ z _ List.mem_cons_self rfl
    have e1 : (rowO (p, (b, m))).foldl Nt.step s = { s with ow := s.ow ++ [(p, (b, m))], ck := some p, b := b, m := m } := by
      unfold rowO
      rw [List.foldl_append, List.foldl_append]
      have e0 : [Str.join spS [owS, p]].foldl Nt.step s = { s with ow := s.ow ++ [(p, ([], []))], ck := some p, b := [], m := [] } := by
        show Nt.step s (Str.join spS [owS, p]) = _
        unfold Nt.step
        rw [parse_own h1]
        dsimp only
        rw [putP_new hp]
      rw [e0, step_les p s.ow hp [] b [] s, step_mor p s.ow hp _ m [] s]
      rfl
    rw [List.flatMap_cons, List.foldl_append, e1]
    obtain ⟨ck, b', m', e2⟩ := step_ow es { s with ow := s.ow ++ [(p, (b, m))], ck := some p, b := b, m := m } (fun x hx => ok x (List.mem_cons_of_mem _ hx)) (by show (((s.ow ++ [(p, (b, m))]) ++ es).map (·.1)).Nodup; rw [List.append_assoc]; exact nd)
    refine ⟨ck, b', m', ?_⟩
    rw [e2]
    show { s with ow := s.ow ++ [(p, (b, m))] ++ es, ck := ck, b := b', m := m' } = _
    rw [List.append_assoc]
    rfl
theorem noted_rows {ch : List (Str × List Int)} {cs : List (Str × Str)} {ow : List (Str × (List Str × List Str))} (ok : OkS ch cs ow) (n1 : (ch.map (·.1)).Nodup) (n2 : (cs.map (·.1)).Nodup) (n3 : (ow.map (·.1)).Nodup) : ∃ ck b m, noted (rowsT ch cs ow) = ⟨ch, cs, ow, ck, b, m⟩ := by
  unfold noted rowsT
  rw [List.foldl_append, List.foldl_append, step_ch ch {} ok.ch n1]
  show ∃ ck b m, List.foldl Nt.step (List.foldl Nt.step ({ ch := ch } : Nt) (List.map rowC cs)) (List.flatMap rowO ow) = _
  rw [step_cs cs { ch := ch } ok.cs n2]
  exact step_ow ow { ch := ch, cs := cs } (fun e he => (ok.ow e he).1) n3
/-! ### in their order -/
theorem perm_lift {α β : Type} {f : α → β} {ks ls : List β} (p : ks.Perm ls) : ∀ {l : List α}, ls = l.map f → ∃ l' : List α, l'.Perm l ∧ l'.map f = ks := by
  induction p with
  | nil =>
    intro l e
    cases l with
    | nil => exact ⟨[], .nil, rfl⟩
    | cons a l => cases e
  | cons x p ih =>
    intro l e
    cases l with
    | nil => cases e
    | cons a l =>
      rw [List.map_cons] at e
      obtain ⟨e1, e2⟩ := List.cons.inj e
      obtain ⟨l', h1, h2⟩ := ih e2
      exact ⟨a :: l', h1.cons a, by rw [List.map_cons, h2, e1]⟩
  | swap x y r =>
    intro l e
    cases l with
    | nil => cases e
    | cons a l =>
      cases l with
      | nil => cases e
      | cons b l =>
        rw [List.map_cons, List.map_cons] at e
        obtain ⟨e1, e2⟩ := List.cons.inj e
        obtain ⟨e2, e3⟩ := List.cons.inj e2
        exact ⟨b :: a :: l, .swap a b l, by rw [List.map_cons, List.map_cons, ← e1, ← e2, ← e3]⟩
  | trans p q ih1 ih2 =>
    intro l e
    obtain ⟨l1, h1, h2⟩ := ih2 e
    obtain ⟨l2, h3, h4⟩ := ih1 h2.symm
    exact ⟨l2, h3.trans h1, h4⟩
/-- sorted by the first parts -/
structure Srt {β : Type} (a b : List (Str × β)) : Prop where
  pm : b.Perm a
  so : sortedS (b.map (·.1)) = true
theorem Srt.eq {β : Type} {a b c : List (Str × β)} (nd : (a.map (·.1)).Nodup) (h1 : Srt a b) (h2 : Srt a c) : b = c := by
  have pm : b.Perm c := h1.pm.trans h2.pm.symm
  have e : b.map (·.1) = c.map (·.1) := sorted_eq (pm.map _) h1.so h2.so
  have ndb : (b.map (·.1)).Nodup := (h1.pm.map _).nodup_iff.mpr nd
  have hl := pm.length_eq
  refine List.ext_getElem hl fun i hi hj => ?_
  have hm : b[i] ∈ c := pm.mem_iff.mp (List.getElem_mem hi)
  have e1 : b[i].1 = c[i].1 := by
    have : (b.map (·.1))[i]? = (c.map (·.1))[i]? := by rw [e]
    rw [List.getElem?_map, List.getElem?_map, List.getElem?_eq_getElem hi, List.getElem?_eq_getElem hj] at this
    exact Option.some.inj this
  have hc : c[i] ∈ c := List.getElem_mem hj
  have ndc : (c.map (·.1)).Nodup := by rw [← e]; exact ndb
  have : b[i].2 = c[i].2 := nodup_fun ndc (x := b[i].1) hm (by rw [e1]; exact hc)
  exact Prod.ext e1 this
theorem Srt.self {β : Type} {a b : List (Str × β)} (h : Srt a b) : Srt b b := ⟨.refl _, h.so⟩
end K35

set_option Elab.async false
set_option linter.all false
set_option maxRecDepth 100000
set_option maxHeartbeats 4000000
namespace K35
open PySem L2 PySem.Spec
def top (i : Nat) : Stmt := PySem.Challenge.pw_parcelmend_k35_what_is_no_stand.main.body.getD i (.Pass ⟨0, 0, 0, 0⟩)
abbrev sTIn : Stmt := inClass (top 32) 0
abbrev sRwO : Stmt := top 22
abbrev sIsN : Stmt := top 23
abbrev sIsP : Stmt := top 24
abbrev sILS : Stmt := top 25
abbrev sIsL : Stmt := top 26
abbrev sAFi : Stmt := top 27
abbrev sNuR : Stmt := top 28
abbrev sMkR : Stmt := top 29
abbrev sMkS : Stmt := top 30
abbrev sCCo : Stmt := top 33
abbrev sSho : Stmt := top 35
abbrev sChR : Stmt := top 36
abbrev sRdS : Stmt := top 37
abbrev sIsG : Stmt := top 38
abbrev sLiW : Stmt := top 39
abbrev sNot : Stmt := top 40
abbrev sMkN : Stmt := top 41
abbrev sCel : Stmt := top 43
abbrev sMix : Stmt := top 44
abbrev sLin : Stmt := top 45
abbrev sLis : Stmt := top 46
abbrev sRef : Stmt := top 47
abbrev sRow : Stmt := top 48
abbrev sBad : Stmt := top 49
abbrev sMan : Stmt := top 50
abbrev sLaw : Stmt := top 51
/-- the names of the built-ins are free at the top -/
structure Blt (mg : Str → Option Value) : Prop where
  range : mg "range" = none
  len : mg "len" = none
  list : mg "list" = none
  dict : mg "dict" = none
  sorted : mg "sorted" = none
  isinstance : mg "isinstance" = none
  str : mg "str" = none
  tuple : mg "tuple" = none
  all : mg "all" = none
  enumerate : mg "enumerate" = none
  int : mg "int" = none
  ord : mg "ord" = none
  verr : mg "ValueError" = none
/-- the numbers that the program names -/
structure Cst (mg : Str → Option Value) : Prop where
  let8 : ∃ t, mg "MOST_LETTERS" = some (.int 8 t)
  pw4 : ∃ t, mg "MOST_PATH_WORDS" = some (.int 4 t)
  sg60 : ∃ t, mg "MOST_SIGNS" = some (.int 60 t)
  li20 : ∃ t, mg "MOST_LINES" = some (.int 20 t)
  mn3 : ∃ t, mg "MOST_MAKE_NUMBERS" = some (.int 3 t)
  big : ∃ t, mg "GREATEST_NUMBER" = some (.int 1000000000 t)
  fi10 : ∃ t, mg "MOST_FIGURES" = some (.int 10 t)
  pc37 : ∃ t, mg "PERCENT_CODE" = some (.int 37 t)
theorem join_memG {sep : Str} : ∀ {ps : List Str} {d : Nat}, d ∈ (Str.join sep ps).cps.toList → d ∈ sep.cps.toList ∨ ∃ p ∈ ps, d ∈ p.cps.toList
  | [], d, h => by
    have h : d ∈ ([] : List Nat) := h
    cases h
  | [p], d, h => .inr ⟨p, List.mem_cons_self, h⟩
  | p :: q :: r, d, h => by
    have h : d ∈ (p ++ sep ++ Str.join sep (q :: r)).cps.toList := h
    rw [app_cps, app_cps] at h
    rcases List.mem_append.mp h with h | h
    · rcases List.mem_append.mp h with h | h
      · exact .inr ⟨p, List.mem_cons_self, h⟩
      · exact .inl h
    · rcases join_memG h with h | ⟨z, hz, hd⟩
      · exact .inl h
      · exact .inr ⟨z, List.mem_cons_of_mem _ hz, hd⟩
theorem one_mem {c d : Nat} (h : d ∈ (⟨#[c]⟩ : Str).cps.toList) : d = c := List.mem_singleton.mp h
theorem str_at {x : Str} {P : Nat → Prop} (ok : ∀ c ∈ x.cps.toList, P c) {r : Int} (h0 : 0 ≤ r) (h1 : r < x.length) : ∃ c, atI x.cps.toList r = some c ∧ P c := by
  obtain ⟨n, rfl⟩ : ∃ n : Nat, r = n := ⟨r.toNat, by omega⟩
  have hn : n < x.cps.toList.length := by
    have : x.cps.toList.length = x.length := by simp [Str.length]
    omega
  exact ⟨_, atI_nat (List.getElem?_eq_getElem hn), ok _ (List.getElem_mem hn)⟩
def someS : Str := " !\"#$&'()*+,-./0123456789:;<=>?@ABCDEFGHIJKLMNOPQRSTUVWXYZ[\\]^_`"
def restS : Str := "abcdefghijklmnopqrstuvwxyz{|}~"
theorem some_ok : ∀ c ∈ (someS ++ restS).cps.toList, 32 ≤ c ∧ c ≤ 126 ∧ c ≠ 37 := by decide +kernel
theorem some_len : (someS ++ restS).length = 94 := by decide +kernel
section
variable {P : Program} {w : World} {K : PySem.W.Frag} {mg : Str → Option Value} {base : Heap}

def spMix : Sp := fun vs H Q _ => ∃ c k : Int, vs = [.int c, .int k] ∧ ∀ n : Int, Q (.int n) H
theorem scMix : FnScope ["_law_cell", "_law_k", "_law_number"] ["_law_cell", "_law_k"] (defScope sMix) := ⟨rfl, rfl, rfl, by decide +kernel, rfl, by decide +kernel, by decide +kernel⟩
theorem okMix {f : Addr} {fd : FuncData} (F : Fun K "_law_mixed" "_law_mixed" sMix f fd) : FnOk P w K mg base CX0 1 f fd ["_law_cell", "_law_k"] spMix := by
  refine F.ok scMix (fun vs H Q E h => ?_) (fun cdv A outer s H vs Q E hr h => ?_)
  · obtain ⟨c, k, rfl, _⟩ := h
    rfl
  · refine letX ?_
    intro xX dX
    obtain ⟨c, k, rfl, q⟩ := h
    refine ⟨_, (pss_cons (ps_set (i := 2) scMix.nd rfl (Or.inl rfl) (pe_op op_mod (pe_op op_mul (pe_op op_add (pe_op op_add (pe_op op_mod (pv 0) pe_int) (pe_op op_mul pe_int (pv 1))) pe_int) pe_int) pe_int))
        (pss_one (ps_ret (pe_op op_mod (pe_op op_mul (pv 2) (pe_op op_add (pe_op op_fdiv (pv 2) pe_int) pe_int)) pe_int)))), ?_⟩
    refine lets2 ?_
    intro dD sS uU2
    refine ⟨_, rfl, _, _, rfl, rfl, (by show (0 : Int) < 2147483647; decide), _, rfl, _, _, rfl, rfl, .inl ⟨by omega, by omega⟩, _, _, rfl, rfl, _, _, rfl, rfl, _, _, rfl, rfl, .inr ⟨by omega, by omega⟩, _, _, rfl, rfl, (by show (0 : Int) < 2147483647; decide), ?_⟩
    refine ⟨_, rfl, _, rfl, _, _, rfl, rfl, ⟨by omega, by omega⟩, _, _, rfl, rfl, _, _, rfl, rfl, .inl ⟨by omega, by omega⟩, _, _, rfl, rfl, (by show (0 : Int) < 2147483647; decide), ?_⟩
    exact q _

def spCel (K : PySem.W.Frag) : Sp := fun vs H Q _ => ∃ (a : Addr) (k : Int) (ns : List Int), vs = [.ref a, .int k] ∧ 0 ≤ k ∧ SqL K H a (ns.map V.int) ∧ ∀ n : Int, Q (.int n) H
theorem scCel : FnScope ["_law_script", "_law_k"] ["_law_script", "_law_k"] (defScope sCel) := ⟨rfl, rfl, rfl, by decide +kernel, rfl, by decide +kernel, by decide +kernel⟩
theorem okCel {f : Addr} {fd : FuncData} (F : Fun K "_law_cell_at" "_law_cell_at" sCel f fd) (B : Blt mg) : FnOk P w K mg base CX0 1 f fd ["_law_script", "_law_k"] (spCel K) := by
  refine F.ok scCel (fun vs H Q E h => ?_) (fun cdv A outer s H vs Q E hr h => ?_)
  · obtain ⟨a, k, ns, rfl, _⟩ := h
    rfl
  · refine letX ?_
    intro xX dX
    obtain ⟨a, k, ns, rfl, k0, hA, q⟩ := h
    refine ⟨_, (pss_cons (ps_if (pt_cmpR op_lt (pv 1) (pe_callB call_len_seq (by rfl) B.len PySem.boot_len (pa_cons (pv 0) pa_nil)) (nomark _))
        (pss_one (ps_ret (pe_ix ix_list (pv 0) (pv 1) (fun _ _ => rfl)))) pss_nil)
        (pss_one (ps_ret pe_int))), ?_⟩
    refine lets2 ?_
    intro dD sS uU2
    refine ⟨_, rfl, _, rfl, a, _, rfl, .inl hA, _, _, rfl, rfl, _, rfl, ?_⟩
    refine ite2 (fun h => ?_) (fun h => ?_)
    · have h' := of_decide_eq_true h
      rw [List.length_map] at h'
      obtain ⟨z, hz, _⟩ := atI_ints (ns := ns) (r := k) k0 h'
      exact ⟨_, rfl, _, rfl, a, _, _, _, rfl, rfl, hA, hz, q z⟩
    · exact q 0

def spLin : Sp := fun vs H Q _ => ∃ c : Int, vs = [.int c] ∧ ∀ x H', IsLn x → Same H H' → Q (.str x) H'
theorem scLin : FnScope ["_law_number", "_law_some", "_law_many_here"] ["_law_number"] (defScope sLin) := ⟨rfl, rfl, rfl, by decide +kernel, rfl, by decide +kernel, by decide +kernel⟩
theorem okLin {f : Addr} {fd : FuncData} (F : Fun K "_law_line" "_law_line" sLin f fd) (B : Blt mg) : FnOk P w K mg base CX0 1 f fd ["_law_number"] spLin := by
  refine F.ok scLin (fun vs H Q E h => ?_) (fun cdv A outer s H vs Q E hr h => ?_)
  · obtain ⟨c, rfl, _⟩ := h
    rfl
  · refine letX ?_
    intro xX dX
    obtain ⟨c, rfl, q⟩ := h
    refine ⟨_, (pss_cons (ps_set (i := 1) scLin.nd rfl (Or.inr rfl) pe_str)
        (pss_cons (ps_set (i := 1) scLin.nd rfl (Or.inr rfl) (pe_op op_add_str (pv 1) pe_str))
        (pss_cons (ps_set (i := 2) scLin.nd rfl (Or.inl rfl) (pe_op op_mod (pv 0) pe_int))
        (pss_one (ps_ret (pe_bm PySem.F.plainAttrs_str PySem.F.slot_str_join PySem.F.type_str_join mt_join pe_str (pa_cons (pe_compF ["_law_k"] ["_law_some", "_law_number"] [1, 0] ⟨rfl, by decide +kernel, by decide +kernel, by decide +kernel, by decide +kernel, rfl, rfl, rfl⟩ rfl (pi_range1 rfl B.range (pa_cons (pv 2) pa_nil)) (fun _ _ _ _ => (pg_name (i := 0) (show List.Nodup (["_law_k", "_law_some", "_law_number"] : List Str) by decide +kernel) rfl (Or.inl rfl))) (fun _ _ _ _ => pts_nil) (fun _ _ _ _ => (pe_ix ix_str (pv 1) (pe_op op_mod (pe_op op_fdiv (pv 2) (pe_op op_add pe_int (pe_op op_mul pe_int (pv 0)))) (pe_callB call_len_str (by rfl) B.len PySem.boot_len (pa_cons (pv 1) pa_nil))) (fun _ _ => rfl)))) pa_nil))))))), ?_⟩
    refine lets4 ?_
    intro dD sS uU4 uU3 uU2
    refine ⟨_, rfl, _, _, rfl, rfl, (by show someS.length + restS.length ≤ sizeLine; rw [← len_app, some_len]; decide), ?_⟩
    refine ⟨_, rfl, _, _, rfl, rfl, (by show (0 : Int) < 5; decide), ?_⟩
    refine ⟨rfl, _, rfl, c % 5, rfl, by omega, by omega, ?_⟩
    have e1 : ∀ i : Nat, ∃ z, atI (someS ++ restS).cps.toList (c / (5 + 11 * (0 + (i : Int))) % ((someS ++ restS).length : Int)) = some z ∧ (32 ≤ z ∧ z ≤ 126 ∧ z ≠ 37) := fun i => str_at some_ok (Int.emod_nonneg _ (by rw [some_len]; decide)) (Int.emod_lt_of_pos _ (by rw [some_len]; decide))
    refine comp_range0 (σ0 := [none, some (.str (someS ++ restS)), some (.int c)]) (fun σ => ∃ v, σ = [v, some (.str (someS ++ restS)), some (.int c)]) (fun i ys _ => ∃ xs : List Str, ys = xs.map V.str ∧ xs.length = i ∧ ∀ x ∈ xs, (∀ c ∈ x.cps.toList, 32 ≤ c ∧ c ≤ 126 ∧ c ≠ 37) ∧ x.length ≤ 1) ⟨_, rfl⟩ (fun _ _ => ⟨[], rfl, rfl, fun _ h => nomatch h⟩) ?_ ?_
    · intro D i ys σ H2 k hD hi hQ5 hd hs hQ6 hk
      refine letG ?_
      intro tT
      obtain ⟨v, rfl⟩ := hQ5
      obtain ⟨xs, rfl, hx, hl⟩ := hQ6
      first | (refine lets12 ?_; intros) | (refine lets11 ?_; intros) | (refine lets10 ?_; intros) | (refine lets9 ?_; intros) | (refine lets8 ?_; intros) | (refine lets7 ?_; intros) | (refine lets6 ?_; intros) | (refine lets5 ?_; intros) | (refine lets4 ?_; intros) | (refine lets3 ?_; intros) | (refine lets2 ?_; intros) | (refine letB (g := gName _) ?_; intros) | (refine letB (g := gTup _ _ _) ?_; intros) | skip
      obtain ⟨z, hz, zb⟩ := e1 i
      refine ⟨_, rfl, _, rfl, _, rfl, _, _, rfl, rfl, .inl ⟨by omega, by omega⟩, _, _, rfl, rfl, _, _, rfl, rfl, ⟨by omega, by omega⟩, _, rfl, _, rfl, fit1 (by rw [some_len]; decide), _, _, rfl, rfl, (by show (0 : Int) < ((someS ++ restS).length : Int); rw [some_len]; decide), _, _, z, rfl, rfl, fit1 (by rw [some_len]; decide), hz, ?_⟩
      refine hk _ _ _ ⟨_, rfl⟩ (Same.refl _) (small1000 (by rw [List.length_map]; omega)) ⟨xs ++ [_], strs_snoc xs _, by rw [List.length_append, hx]; rfl, fun y hy => ?_⟩
      rcases List.mem_append.mp hy with hy | hy
      · exact hl y hy
      · rw [List.mem_singleton.mp hy]
        exact ⟨fun d hd => by rw [one_mem hd]; exact zb, Nat.le_of_eq (len_one z)⟩
    · intro D ys H2 hD hd hs hQ7
      refine letG ?_
      intro tT
      obtain ⟨xs, rfl, hx, hl⟩ := hQ7
      first | (refine lets12 ?_; intros) | (refine lets11 ?_; intros) | (refine lets10 ?_; intros) | (refine lets9 ?_; intros) | (refine lets8 ?_; intros) | (refine lets7 ?_; intros) | (refine lets6 ?_; intros) | (refine lets5 ?_; intros) | (refine lets4 ?_; intros) | (refine lets3 ?_; intros) | (refine lets2 ?_; intros) | (refine letB (g := gName _) ?_; intros) | (refine letB (g := gTup _ _ _) ?_; intros) | skip
      have hsum := sum_le (b := 1) fun y hy => (hl y hy).2
      have e0 : (Str.ofString "").length = 0 := by decide +kernel
      refine ⟨_, D, xs, rfl, rfl, SqL.of hd, by rw [e0]; omega, ?_⟩
      refine q _ _ ⟨?_, fun d hd => ?_⟩ hs
      · refine Nat.le_trans join_len ?_
        rw [e0]
        omega
      · rw [show Txt.join (Str.ofString "") xs = Str.join (Str.ofString "") xs from StrLaws.glued_eq_join _ _] at hd
        rcases join_memG hd with hd | ⟨y, hy, hd⟩
        · cases hd
        · exact (hl y hy).1 d hd

abbrev LisNew (H : Hp) (Q : V → Hp → Prop) : Prop := ∀ (l : Addr) (H' : Hp) (xs : List Str), H l = none → Same H H' → H' l = some (.lst (xs.map V.str)) → xs.length ≤ 4 → (∀ x ∈ xs, IsLn x) → Q (.ref l) H'
def spLis : Sp := fun vs H Q _ => ∃ c : Int, vs = [.int c] ∧ LisNew H Q
theorem scLis : FnScope ["_law_number", "_law_some"] ["_law_number"] (defScope sLis) := ⟨rfl, rfl, rfl, by decide +kernel, rfl, by decide +kernel, by decide +kernel⟩
theorem okLis {f fMix fLin : Addr} {fd fdMix fdLin : FuncData} (F : Fun K "_law_lines" "_law_lines" sLis f fd) (B : Blt mg) (FMix : Fun K "_law_mixed" "_law_mixed" sMix fMix fdMix) (mMix : mg "_law_mixed" = some (.ref fMix)) (FLin : Fun K "_law_line" "_law_line" sLin fLin fdLin) (mLin : mg "_law_line" = some (.ref fLin)) :
    FnOk P w K mg base CX0 2 f fd ["_law_number"] spLis := by
  have GMix : FnOk P w K mg base CX0 1 fMix fdMix ["_law_cell", "_law_k"] spMix := okMix FMix
  have bMix := FMix.binds (ps := ["_law_cell", "_law_k"]) fun _ _ _ _ _ _ us hl => match us, hl with | [_, _], _ => rfl
  have GLin : FnOk P w K mg base CX0 1 fLin fdLin ["_law_number"] spLin := okLin FLin B
  have bLin := FLin.binds (ps := ["_law_number"]) fun _ _ _ _ _ _ us hl => match us, hl with | [_], _ => rfl
  refine F.ok scLis (fun vs H Q E h => ?_) (fun cdv A outer s H vs Q E hr h => ?_)
  · obtain ⟨c, rfl, _⟩ := h
    rfl
  · refine letX ?_
    intro xX dX
    obtain ⟨c, rfl, q⟩ := h
    refine ⟨_, (pss_cons (ps_set (i := 1) scLis.nd rfl (Or.inr rfl) (pe_op op_add pe_int (pe_op op_mul pe_int (pe_op op_mod (pv 0) pe_int))))
        (pss_one (ps_ret (pe_compF ["_law_k"] ["_law_some", "_law_number"] [1, 0] ⟨rfl, by decide +kernel, by decide +kernel, by decide +kernel, by decide +kernel, rfl, rfl, rfl⟩ rfl (pi_range1 rfl B.range (pa_cons (pe_op op_mod (pv 0) pe_int) pa_nil)) (fun _ _ _ _ => (pg_name (i := 0) (show List.Nodup (["_law_k", "_law_some", "_law_number"] : List Str) by decide +kernel) rfl (Or.inl rfl))) (fun _ _ _ _ => pts_nil) (fun _ _ _ _ => (pe_call GLin hr rfl mLin FLin.kp bLin .nil pass0 (pa_cons (pe_op op_mod (pe_call GMix hr rfl mMix FMix.kp bMix .nil pass0 (pa_cons (pe_op op_fdiv (pv 2) pe_int) (pa_cons (pv 0) pa_nil))) (pv 1)) pa_nil))))))), ?_⟩
    refine lets2 ?_
    intro dD sS uU2
    refine ⟨_, rfl, _, _, rfl, rfl, (by show (0 : Int) < 3; decide), _, _, rfl, rfl, .inl ⟨by omega, by omega⟩, _, _, rfl, rfl, ?_⟩
    refine ⟨_, rfl, _, _, rfl, rfl, (by show (0 : Int) < 5; decide), c % 5, rfl, by omega, by omega, ?_⟩
    refine comp_range0 (σ0 := [none, some (.int (40 + 900 * (c % 3))), some (.int c)]) (fun σ => ∃ v, σ = [v, some (.int (40 + 900 * (c % 3))), some (.int c)]) (fun i ys _ => ∃ xs : List Str, ys = xs.map V.str ∧ xs.length = i ∧ ∀ x ∈ xs, IsLn x) ⟨_, rfl⟩ (fun _ _ => ⟨[], rfl, rfl, fun _ h => nomatch h⟩) ?_ ?_
    · intro D i ys σ H2 k hD hi hQ8 hd hs hQ9 hk
      refine letG ?_
      intro tT
      obtain ⟨v, rfl⟩ := hQ8
      obtain ⟨xs, rfl, hx, hl⟩ := hQ9
      first | (refine lets12 ?_; intros) | (refine lets11 ?_; intros) | (refine lets10 ?_; intros) | (refine lets9 ?_; intros) | (refine lets8 ?_; intros) | (refine lets7 ?_; intros) | (refine lets6 ?_; intros) | (refine lets5 ?_; intros) | (refine lets4 ?_; intros) | (refine lets3 ?_; intros) | (refine lets2 ?_; intros) | (refine letB (g := gName _) ?_; intros) | (refine letB (g := gTup _ _ _) ?_; intros) | skip
      refine ⟨_, rfl, _, _, rfl, rfl, ⟨by omega, by omega⟩, _, rfl, _, _, rfl, fun n => ?_⟩
      refine ⟨_, rfl, _, _, rfl, rfl, (by show (0 : Int) < 40 + 900 * (c % 3); omega), _, rfl, fun x H3 lx s3 => ?_⟩
      exact hk _ _ _ ⟨_, rfl⟩ s3 (small1000 (by rw [List.length_map]; omega)) ⟨xs ++ [x], strs_snoc xs x, by rw [List.length_append, hx]; rfl, fun y hy => (List.mem_append.mp hy).elim (hl y) (fun hy => by rw [List.mem_singleton.mp hy]; exact lx)⟩
    · intro D ys H2 hD hd hs hQ10
      refine letG ?_
      intro tT
      obtain ⟨xs, rfl, hx, hl⟩ := hQ10
      exact q D H2 xs hD hs hd (by omega) hl

end
end K35

set_option Elab.async false
set_option linter.all false
set_option maxRecDepth 100000
set_option maxHeartbeats 4000000
namespace K35
open PySem L2 PySem.Spec PyProof.Rows
section
variable {P : Program} {w : World} {K : PySem.W.Frag} {mg : Str → Option Value} {base : Heap}
theorem bigZ {n : Nat} (h : n ≤ 100000) : n ≤ sizeLine := by rw [sizeLine_eq]; omega
theorem bls_map {α : Type} (l : List α) (f : α → Bool) : l.map (fun c => V.bl (f c)) = (l.map f).map V.bl := by rw [List.map_map]; rfl
theorem alls_map {α : Type} (l : List α) (f : α → Bool) : (l.map f).all id = l.all f := by rw [List.all_map]; rfl
theorem map_at {α β : Type} {l : List α} {f : α → β} {i : Nat} {y : β} (h : (l.map f)[i]? = some y) : ∃ x, l[i]? = some x ∧ y = f x := by
  rw [List.getElem?_map] at h
  cases e : l[i]? with
  | none => rw [e] at h; cases h
  | some x => rw [e] at h; exact ⟨x, rfl, (Option.some.inj h).symm⟩

def spRwO : Sp := fun vs H Q _ => ∃ t : Str, vs = [.str t] ∧ t.length ≤ 90000 ∧ ∀ l H', H l = none → Same H H' → H' l = some (.lst ((rowsOf t).map V.str)) → Q (.ref l) H'
theorem scRwO : FnScope ["text"] ["text"] (defScope sRwO) := ⟨rfl, rfl, rfl, by decide +kernel, rfl, by decide +kernel, by decide +kernel⟩
theorem okRwO {f : Addr} {fd : FuncData} (F : Fun K "rows_of" "rows_of" sRwO f fd) : FnOk P w K mg base CX0 1 f fd ["text"] spRwO := by
  refine F.ok scRwO (fun vs H Q E h => ?_) (fun cdv A outer s H vs Q E hr h => ?_)
  · obtain ⟨t, rfl, _⟩ := h
    rfl
  · refine letX ?_
    intro xX dX
    obtain ⟨t, rfl, ht, q⟩ := h
    refine ⟨_, (pss_one (ps_ret (pe_ifExp (pt_cmpR op_ne (pv 0) pe_str (nomark _)) (pe_bm PySem.F.plainAttrs_str PySem.F.slot_str_split PySem.F.type_str_split mt_split (pv 0) (pa_cons pe_str pa_nil)) (pe_lstN pa_nil)))), ?_⟩
    refine ⟨_, rfl, rfl, _, rfl, ?_⟩
    refine ite2 (fun h => ?_) (fun h => ?_)
    · have ne : t ≠ Str.empty := fun z => by
        rw [z] at h
        exact absurd h (by decide +kernel)
      refine ⟨_, rfl, rfl, t, nlS, rfl, rfl, by decide +kernel, bigZ (by omega), fun l H' a b c => ?_⟩
      refine q l H' a b ?_
      rw [c]
      unfold rowsOf
      rw [if_neg ne]
    · have e : t = Str.empty := by
        rcases Classical.em (t = Str.empty) with z | z
        · exact z
        · refine absurd ?_ h
          show (!decide (V.str t = V.str Str.empty)) = true
          rw [decide_eq_false (fun y => z (V.str.inj y))]
          rfl
      refine ⟨(by show 0 ≤ sizeLine; exact Nat.zero_le _), fun l H' a b c => ?_⟩
      refine q l H' a b ?_
      rw [c]
      unfold rowsOf
      rw [if_pos e]
      rfl

def spIsN : Sp := fun vs H Q _ => ∃ x : Str, vs = [.str x] ∧ x.length ≤ 90000 ∧ ∀ H', Same H H' → Q (.bl (nameB x)) H'
theorem scIsN : FnScope ["text"] ["text"] (defScope sIsN) := ⟨rfl, rfl, rfl, by decide +kernel, rfl, by decide +kernel, by decide +kernel⟩
theorem okIsN {f : Addr} {fd : FuncData} (F : Fun K "is_name" "is_name" sIsN f fd) (B : Blt mg) (C : Cst mg) : FnOk P w K mg base CX0 1 f fd ["text"] spIsN := by
  obtain ⟨t8, h8⟩ := C.let8
  refine F.ok scIsN (fun vs H Q E h => ?_) (fun cdv A outer s H vs Q E hr h => ?_)
  · obtain ⟨x, rfl, _⟩ := h
    rfl
  · refine letX ?_
    intro xX dX
    obtain ⟨x, rfl, hx, q⟩ := h
    refine ⟨_, (pss_one (ps_ret (pe_and (pe_chain op_lt op_le pe_int (pe_callB call_len_str (by rfl) B.len PySem.boot_len (pa_cons (pv 0) pa_nil)) (pe_glob (v := .int 8) (by rfl) h8 ⟨_, rfl⟩))
        (pe_one (pe_callB (call_all K) (by rfl) B.all PyProof.Rows.boot_all (pa_cons (pe_compF ["sign"] [] [] ⟨rfl, by decide +kernel, by decide +kernel, by decide +kernel, by decide +kernel, rfl, rfl, rfl⟩ rfl (pi_sgn (pv 0)) (fun _ _ _ _ => (pg_name (i := 0) (show List.Nodup (["sign"] : List Str) by decide +kernel) rfl (Or.inl rfl))) (fun _ _ _ _ => pts_nil) (fun _ _ _ _ => (pe_chain op_le_str op_le_str pe_str (pv 0) pe_str))) pa_nil)))))), ?_⟩
    refine ⟨_, rfl, _, rfl, bigZ (by omega), _, _, rfl, rfl, _, rfl, ?_⟩
    refine ite2 (fun h1 => ?_) (fun h1 => ?_)
    · refine ⟨_, _, rfl, rfl, _, rfl, ?_⟩
      refine ite2 (fun h2 => ?_) (fun h2 => ?_)
      · refine ⟨_, rfl, x, rfl, ?_⟩
        refine comp_mapS (σ0 := [none]) (fun σ => ∃ v, σ = [v]) (fun c => .bl (btw aS zS c)) (bigZ (by show x.length ≤ _; omega)) ⟨_, rfl⟩ ?_ ?_
        · intro c σ H2 k hc hQ hs hk
          obtain ⟨v, rfl⟩ := hQ
          refine ⟨_, rfl, _, _, rfl, rfl, _, rfl, ?_⟩
          have hk' := hk [some (.str (sgn c))] H2 ⟨_, rfl⟩ (Same.refl _)
          refine ite2 (fun h3 => ?_) (fun h3 => ?_)
          · refine ⟨_, _, rfl, rfl, ?_⟩
            rw [show btw aS zS c = le2 (sgn c) zS from if_pos h3] at hk'
            exact hk'
          · rw [show btw aS zS c = false from if_neg h3] at hk'
            exact hk'
        · intro D H2 hD hd hs
          refine ⟨D, _, rfl, SqL.of (by rw [hd, bls_map]), ?_⟩
          have := q H2 hs
          unfold nameB at this
          rw [alls_map]
          rw [decide_eq_true ⟨by have := of_decide_eq_true h1; omega, by have := of_decide_eq_true h2; omega⟩, Bool.true_and] at this
          exact this
      · have := q H (Same.refl _)
        unfold nameB at this
        rw [decide_eq_false (fun z => h2 (decide_eq_true (by have := z.2; omega))), Bool.false_and] at this
        exact this
    · refine ⟨_, rfl, ?_⟩
      have := q H (Same.refl _)
      unfold nameB at this
      rw [decide_eq_false (fun z => h1 (decide_eq_true (by have := z.1; omega))), Bool.false_and] at this
      exact this

def spIsP : Sp := fun vs H Q _ => ∃ x : Str, vs = [.str x] ∧ x.length ≤ 80000 ∧ ∀ H', Same H H' → Q (.bl (pathB x)) H'
theorem scIsP : FnScope ["text", "parts"] ["text"] (defScope sIsP) := ⟨rfl, rfl, rfl, by decide +kernel, rfl, by decide +kernel, by decide +kernel⟩
theorem part_len {x y a : Str} (h : a ∈ Txt.split x y) : a.length ≤ x.length := part_short h
theorem okIsP {f fIsN : Addr} {fd fdIsN : FuncData} (F : Fun K "is_path" "is_path" sIsP f fd) (B : Blt mg) (C : Cst mg) (FIsN : Fun K "is_name" "is_name" sIsN fIsN fdIsN) (mIsN : mg "is_name" = some (.ref fIsN)) : FnOk P w K mg base CX0 2 f fd ["text"] spIsP := by
  have GIsN : FnOk P w K mg base CX0 1 fIsN fdIsN ["text"] spIsN := okIsN FIsN B C
  have bIsN := FIsN.binds (ps := ["text"]) fun _ _ _ _ _ _ us hl => match us, hl with | [_], _ => rfl
  obtain ⟨t4, h4⟩ := C.pw4
  refine F.ok scIsP (fun vs H Q E h => ?_) (fun cdv A outer s H vs Q E hr h => ?_)
  · obtain ⟨x, rfl, _⟩ := h
    rfl
  · refine letX ?_
    intro xX dX
    obtain ⟨x, rfl, hx, q⟩ := h
    refine ⟨_, (pss_cons (ps_set (i := 1) scIsP.nd rfl (Or.inl rfl) (pe_bm PySem.F.plainAttrs_str PySem.F.slot_str_split PySem.F.type_str_split mt_split (pv 0) (pa_cons pe_str pa_nil)))
        (pss_one (ps_ret (pe_and (pe_cmpR op_le (pe_callB call_len_seq (by rfl) B.len PySem.boot_len (pa_cons (pv 1) pa_nil)) (pe_glob (v := .int 4) (by rfl) h4 ⟨_, rfl⟩) (nomark _))
        (pe_one (pe_callB (call_all K) (by rfl) B.all PyProof.Rows.boot_all (pa_cons (pe_compF ["part"] [] [] ⟨rfl, by decide +kernel, by decide +kernel, by decide +kernel, by decide +kernel, rfl, rfl, rfl⟩ rfl (pi_list (pv 1)) (fun _ _ _ _ => (pg_name (i := 0) (show List.Nodup (["part"] : List Str) by decide +kernel) rfl (Or.inl rfl))) (fun _ _ _ _ => pts_nil) (fun _ _ _ _ => (pe_call GIsN hr rfl mIsN FIsN.kp bIsN .nil pass0 (pa_cons (pv 0) pa_nil)))) pa_nil))))))), ?_⟩
    refine lets2 ?_
    intro dD sS uU2
    refine ⟨_, rfl, rfl, x, slS, rfl, rfl, by decide +kernel, bigZ (by omega), fun l H1 n1 s1 e1 => ?_⟩
    refine ⟨_, rfl, l, _, rfl, .inl (SqL.of e1), _, _, rfl, rfl, _, rfl, ?_⟩
    refine ite2 (fun h1 => ?_) (fun h1 => ?_)
    · refine ⟨_, rfl, l, rfl, ⟨_, SqL.of e1⟩, ?_⟩
      refine comp_mapL (σ0 := [none]) (SqL.of e1) (fun σ => ∃ v, σ = [v]) (((Txt.split x slS).map nameB).map V.bl) (by rw [List.length_map, List.length_map, List.length_map]) (bigZ (by rw [List.length_map]; have := split_le x slS; omega)) ⟨_, rfl⟩ ?_ ?_
      · intro i z y σ H2 k hz hy hQ hs hk
        obtain ⟨v, rfl⟩ := hQ
        obtain ⟨p, hp, rfl⟩ := map_at hz
        rw [List.map_map] at hy
        obtain ⟨p', hp', rfl⟩ := map_at hy
        rw [hp] at hp'
        cases hp'
        refine ⟨_, rfl, p, rfl, ?_, fun H' s' => hk _ _ ⟨_, rfl⟩ s'⟩
        have := part_len (List.mem_of_getElem? hp)
        omega
      · intro D H2 hD hd hs
        refine ⟨D, _, rfl, SqL.of hd, ?_⟩
        have := q H2 (s1.trans hs)
        unfold pathB at this
        rw [alls_map]
        rw [decide_eq_true (by have := of_decide_eq_true h1; rw [List.length_map] at this; omega), Bool.true_and] at this
        exact this
    · have := q H1 s1
      unfold pathB at this
      rw [decide_eq_false (fun z => h1 (decide_eq_true (by rw [List.length_map]; omega))), Bool.false_and] at this
      exact this

def spILS : Sp := fun vs H Q _ => ∃ c : Nat, vs = [.str (sgn c)] ∧ Q (.bl (lsB c)) H
theorem scILS : FnScope ["sign"] ["sign"] (defScope sILS) := ⟨rfl, rfl, rfl, by decide +kernel, rfl, by decide +kernel, by decide +kernel⟩
theorem okILS {f : Addr} {fd : FuncData} (F : Fun K "is_line_sign" "is_line_sign" sILS f fd) (B : Blt mg) (C : Cst mg) : FnOk P w K mg base CX0 1 f fd ["sign"] spILS := by
  obtain ⟨t8, h8⟩ := C.pc37
  refine F.ok scILS (fun vs H Q E h => ?_) (fun cdv A outer s H vs Q E hr h => ?_)
  · obtain ⟨x, rfl, _⟩ := h
    rfl
  · refine letX ?_
    intro xX dX
    obtain ⟨c, rfl, q⟩ := h
    refine ⟨_, (pss_one (ps_ret (pe_and (pe_chain op_le_str op_le_str pe_str (pv 0) pe_str) (pe_one (pe_cmpR op_ne (pe_callB call_ord (by rfl) B.ord PyProof.Rows.boot_ord (pa_cons (pv 0) pa_nil)) (pe_glob (v := .int 37) (by rfl) h8 ⟨_, rfl⟩) (nomark _)))))), ?_⟩
    refine ⟨_, rfl, _, _, rfl, rfl, _, rfl, ?_⟩
    have e0 : ∀ b, btw spS tiS c = b → lsB c = (b && decide (c ≠ 37)) := fun b h => by unfold lsB; rw [h]
    refine ite2 (fun h1 => ?_) (fun h1 => ?_)
    · refine ⟨_, _, rfl, rfl, _, rfl, ?_⟩
      refine ite2 (fun h2 => ?_) (fun h2 => ?_)
      · refine ⟨_, rfl, _, rfl, rfl, rfl, ?_⟩
        rw [e0 true ((if_pos h1).trans h2), Bool.true_and] at q
        have e : (!decide (V.int (((sgn c).cps.getD 0 0 : Nat) : Int) = V.int 37)) = decide (c ≠ 37) := by
          by_cases z : c = 37
          · subst z; rfl
          · rw [decide_eq_true z, decide_eq_false (fun y => z (by
              have y : ((c : Nat) : Int) = 37 := V.int.inj y
              omega))]
            rfl
        exact (show Q (.bl (!decide (V.int (((sgn c).cps.getD 0 0 : Nat) : Int) = V.int 37))) H by rw [e]; exact q)
      · rw [e0 false ((if_pos h1).trans (Bool.eq_false_iff.mpr h2)), Bool.false_and] at q
        exact q
    · refine ⟨_, rfl, ?_⟩
      rw [e0 false (if_neg h1), Bool.false_and] at q
      exact q

def spIsL : Sp := fun vs H Q _ => ∃ x : Str, vs = [.str x] ∧ x.length ≤ 90000 ∧ ∀ H', Same H H' → Q (.bl (lineB x)) H'
theorem scIsL : FnScope ["text"] ["text"] (defScope sIsL) := ⟨rfl, rfl, rfl, by decide +kernel, rfl, by decide +kernel, by decide +kernel⟩
theorem okIsL {f fILS : Addr} {fd fdILS : FuncData} (F : Fun K "is_line" "is_line" sIsL f fd) (B : Blt mg) (C : Cst mg) (FILS : Fun K "is_line_sign" "is_line_sign" sILS fILS fdILS) (mILS : mg "is_line_sign" = some (.ref fILS)) : FnOk P w K mg base CX0 2 f fd ["text"] spIsL := by
  have GILS : FnOk P w K mg base CX0 1 fILS fdILS ["sign"] spILS := okILS FILS B C
  have bILS := FILS.binds (ps := ["sign"]) fun _ _ _ _ _ _ us hl => match us, hl with | [_], _ => rfl
  obtain ⟨t8, h8⟩ := C.sg60
  refine F.ok scIsL (fun vs H Q E h => ?_) (fun cdv A outer s H vs Q E hr h => ?_)
  · obtain ⟨x, rfl, _⟩ := h
    rfl
  · refine letX ?_
    intro xX dX
    obtain ⟨x, rfl, hx, q⟩ := h
    refine ⟨_, (pss_one (ps_ret (pe_and (pe_cmpR op_le (pe_callB call_len_str (by rfl) B.len PySem.boot_len (pa_cons (pv 0) pa_nil)) (pe_glob (v := .int 60) (by rfl) h8 ⟨_, rfl⟩) (nomark _))
        (pe_one (pe_callB (call_all K) (by rfl) B.all PyProof.Rows.boot_all (pa_cons (pe_compF ["sign"] [] [] ⟨rfl, by decide +kernel, by decide +kernel, by decide +kernel, by decide +kernel, rfl, rfl, rfl⟩ rfl (pi_sgn (pv 0)) (fun _ _ _ _ => (pg_name (i := 0) (show List.Nodup (["sign"] : List Str) by decide +kernel) rfl (Or.inl rfl))) (fun _ _ _ _ => pts_nil) (fun _ _ _ _ => (pe_call GILS hr rfl mILS FILS.kp bILS .nil pass0 (pa_cons (pv 0) pa_nil)))) pa_nil)))))), ?_⟩
    refine ⟨_, rfl, _, rfl, bigZ (by omega), _, _, rfl, rfl, _, rfl, ?_⟩
    refine ite2 (fun h1 => ?_) (fun h1 => ?_)
    · refine ⟨_, rfl, x, rfl, ?_⟩
      refine comp_mapS (σ0 := [none]) (fun σ => ∃ v, σ = [v]) (fun c => .bl (lsB c)) (bigZ (by show x.length ≤ _; omega)) ⟨_, rfl⟩ ?_ ?_
      · intro c σ H2 k hc hQ hs hk
        obtain ⟨v, rfl⟩ := hQ
        exact ⟨_, rfl, c, rfl, hk _ _ ⟨_, rfl⟩ (Same.refl _)⟩
      · intro D H2 hD hd hs
        refine ⟨D, _, rfl, SqL.of (by rw [hd, bls_map]), ?_⟩
        have := q H2 hs
        unfold lineB at this
        rw [alls_map]
        rw [decide_eq_true (by have := of_decide_eq_true h1; omega), Bool.true_and] at this
        exact this
    · have := q H (Same.refl _)
      unfold lineB at this
      rw [decide_eq_false (fun z => h1 (decide_eq_true (by omega))), Bool.false_and] at this
      exact this

def spAFi : Sp := fun vs H Q _ => ∃ x : Str, vs = [.str x] ∧ x.length ≤ 90000 ∧ ∀ H', Same H H' → Q (.bl (figB x)) H'
theorem scAFi : FnScope ["text"] ["text"] (defScope sAFi) := ⟨rfl, rfl, rfl, by decide +kernel, rfl, by decide +kernel, by decide +kernel⟩
theorem okAFi {f : Addr} {fd : FuncData} (F : Fun K "are_figures" "are_figures" sAFi f fd) (B : Blt mg) : FnOk P w K mg base CX0 1 f fd ["text"] spAFi := by
  refine F.ok scAFi (fun vs H Q E h => ?_) (fun cdv A outer s H vs Q E hr h => ?_)
  · obtain ⟨x, rfl, _⟩ := h
    rfl
  · refine letX ?_
    intro xX dX
    obtain ⟨x, rfl, hx, q⟩ := h
    refine ⟨_, (pss_one (ps_ret (pe_callB (call_all K) (by rfl) B.all PyProof.Rows.boot_all (pa_cons (pe_compF ["sign"] [] [] ⟨rfl, by decide +kernel, by decide +kernel, by decide +kernel, by decide +kernel, rfl, rfl, rfl⟩ rfl (pi_sgn (pv 0)) (fun _ _ _ _ => (pg_name (i := 0) (show List.Nodup (["sign"] : List Str) by decide +kernel) rfl (Or.inl rfl))) (fun _ _ _ _ => pts_nil) (fun _ _ _ _ => (pe_chain op_le_str op_le_str pe_str (pv 0) pe_str))) pa_nil)))), ?_⟩
    refine ⟨_, rfl, x, rfl, ?_⟩
    refine comp_mapS (σ0 := [none]) (fun σ => ∃ v, σ = [v]) (fun c => .bl (btw z0S n9S c)) (bigZ (by show x.length ≤ _; omega)) ⟨_, rfl⟩ ?_ ?_
    · intro c σ H2 k hc hQ hs hk
      obtain ⟨v, rfl⟩ := hQ
      refine ⟨_, rfl, _, _, rfl, rfl, _, rfl, ?_⟩
      have hk' := hk [some (.str (sgn c))] H2 ⟨_, rfl⟩ (Same.refl _)
      refine ite2 (fun h3 => ?_) (fun h3 => ?_)
      · refine ⟨_, _, rfl, rfl, ?_⟩
        rw [show btw z0S n9S c = le2 (sgn c) n9S from if_pos h3] at hk'
        exact hk'
      · rw [show btw z0S n9S c = false from if_neg h3] at hk'
        exact hk'
    · intro D H2 hD hd hs
      refine ⟨D, _, rfl, SqL.of (by rw [hd, bls_map]), ?_⟩
      rw [alls_map]
      exact q H2 hs

def optV : Option Int → V
  | none => .non
  | some n => .int n
def spNuR : Sp := fun vs H Q _ => ∃ x : Str, vs = [.str x] ∧ x.length ≤ 90000 ∧ ∀ H', Same H H' → Q (optV (numR x)) H'
theorem scNuR : FnScope ["text", "number"] ["text"] (defScope sNuR) := ⟨rfl, rfl, rfl, by decide +kernel, rfl, by decide +kernel, by decide +kernel⟩
theorem okNuR {f fAFi : Addr} {fd fdAFi : FuncData} (F : Fun K "number_read" "number_read" sNuR f fd) (B : Blt mg) (C : Cst mg) (FAFi : Fun K "are_figures" "are_figures" sAFi fAFi fdAFi) (mAFi : mg "are_figures" = some (.ref fAFi)) : FnOk P w K mg base CX0 2 f fd ["text"] spNuR := by
  have GAFi : FnOk P w K mg base CX0 1 fAFi fdAFi ["text"] spAFi := okAFi FAFi B
  have bAFi := FAFi.binds (ps := ["text"]) fun _ _ _ _ _ _ us hl => match us, hl with | [_], _ => rfl
  obtain ⟨t8, h8⟩ := C.fi10
  obtain ⟨t9, h9⟩ := C.big
  refine F.ok scNuR (fun vs H Q E h => ?_) (fun cdv A outer s H vs Q E hr h => ?_)
  · obtain ⟨x, rfl, _⟩ := h
    rfl
  · refine letX ?_
    intro xX dX
    obtain ⟨x, rfl, hx, q⟩ := h
    refine ⟨_, (pss_cons (ps_if (PW.pt (pw_or (pt_not (pt_chain op_lt op_le pe_int (pe_callB call_len_str (by rfl) B.len PySem.boot_len (pa_cons (pv 0) pa_nil)) (pe_glob (v := .int 10) (by rfl) h8 ⟨_, rfl⟩))) (pw_or1 (pt_not (pt_val (pe_call GAFi hr rfl mAFi FAFi.kp bAFi .nil pass0 (pa_cons (pv 0) pa_nil)))))))
        (pss_one (ps_ret pe_non)) pss_nil)
        (pss_cons (ps_if (PW.pt (pw_and (pt_val (pe_bm PySem.F.plainAttrs_str PySem.F.slot_str_startswith PySem.F.type_str_startswith mt_starts (pv 0) (pa_cons pe_str pa_nil))) (pw_and1 (pt_cmpR op_ne (pv 0) pe_str (nomark _)))))
        (pss_one (ps_ret pe_non)) pss_nil)
        (pss_cons (ps_set (i := 1) scNuR.nd rfl (Or.inl rfl) (pe_callTy call_intT (by rfl) B.int PyProof.Rows.boot_int (pa_cons (pv 0) pa_nil)))
        (pss_cons (ps_if (pt_cmpR op_gt (pv 1) (pe_glob (v := .int 1000000000) (by rfl) h9 ⟨_, rfl⟩) (nomark _))
        (pss_one (ps_ret pe_non)) pss_nil)
        (pss_one (ps_ret (pv 1))))))), ?_⟩
    have none1 : ∀ H', Same H H' → numR x = none → Q .non H' := fun H' s' e => by
      have := q H' s'
      rw [e] at this
      exact this
    have bad : ¬ ((decide (0 < x.length ∧ x.length ≤ 10) && figB x) = true) → numR x = none := fun z => if_neg z
    refine ⟨_, rfl, _, rfl, bigZ (by omega), _, _, rfl, rfl, _, rfl, ?_⟩
    refine ite2 (fun h1 => ?_) (fun h1 => ?_)
    · refine ⟨_, _, rfl, rfl, _, rfl, ?_⟩
      refine ite2 (fun h2 => ?_) (fun h2 => ?_)
      · refine ite2 (fun _ => ?_) (fun z => absurd rfl z)
        refine none1 _ (Same.refl _) (bad fun z => ?_)
        have z := (of_decide_eq_true (Bool.and_eq_true_iff.mp z).1).2
        rw [decide_eq_true (by omega : (x.length : Int) ≤ 10)] at h2
        cases h2
      · have l10 : x.length ≤ 10 := by
          rcases Nat.lt_or_ge 10 x.length with z | z
          · exact absurd (by rw [decide_eq_false (by omega : ¬ (x.length : Int) ≤ 10)]; rfl) h2
          · exact z
        have l0 : 0 < x.length := by have := of_decide_eq_true h1; omega
        refine ⟨_, rfl, x, rfl, by omega, fun H1 s1 => ⟨_, rfl, ?_⟩⟩
        refine ite2 (fun h3 => ?_) (fun h3 => ?_)
        · refine none1 _ s1 (bad fun z => ?_)
          rw [(Bool.and_eq_true_iff.mp z).2] at h3
          cases h3
        · have hf : figB x = true := by
            cases e : figB x with
            | true => rfl
            | false => rw [e] at h3; exact absurd rfl h3
          have e1 : numR x = (if (Txt.startswith x z0S && decide (x ≠ z0S)) = true then (none : Option Int) else if 1000000000 < ((NumText.digitsVal x.cps.toList : Nat) : Int) then (none : Option Int) else some ((NumText.digitsVal x.cps.toList : Nat) : Int)) := if_pos (by rw [decide_eq_true ⟨l0, l10⟩, hf]; rfl)
          have rd := fig_read hf l0 (by omega)
          refine ⟨_, rfl, rfl, x, z0S, rfl, rfl, _, rfl, ?_⟩
          refine ite2 (fun h4 => ?_) (fun h4 => ?_)
          · refine ⟨_, rfl, rfl, _, rfl, ?_⟩
            refine ite2 (fun h5 => ?_) (fun h5 => ?_)
            · refine none1 _ s1 (e1.trans (if_pos ?_))
              rw [h4, Bool.true_and]
              refine decide_eq_true fun z => ?_
              rw [z] at h5
              exact absurd h5 (by decide +kernel)
            · have ez : x = z0S := by
                rcases Classical.em (x = z0S) with z | z
                · exact z
                · refine absurd ?_ h5
                  show (!decide (V.str x = V.str z0S)) = true
                  rw [decide_eq_false (fun y => z (V.str.inj y))]
                  rfl
              have e2 := e1.trans (if_neg (by rw [decide_eq_false (fun z => z ez), Bool.and_false]; decide))
              refine ⟨_, rfl, x, _, rfl, rd, by omega, ?_⟩
              refine ⟨_, rfl, _, _, rfl, rfl, _, rfl, ?_⟩
              refine ite2 (fun h6 => ?_) (fun h6 => ?_)
              · exact none1 _ s1 (e2.trans (if_pos (of_decide_eq_true h6)))
              · refine ⟨_, rfl, ?_⟩
                have := q _ s1
                rw [e2, if_neg (fun z => h6 (decide_eq_true z))] at this
                exact this
          · refine ite2 (fun z => nomatch z) (fun _ => ?_)
            have e2 := e1.trans (if_neg (by rw [Bool.eq_false_iff.mpr h4, Bool.false_and]; decide))
            refine ⟨_, rfl, x, _, rfl, rd, by omega, ?_⟩
            refine ⟨_, rfl, _, _, rfl, rfl, _, rfl, ?_⟩
            refine ite2 (fun h6 => ?_) (fun h6 => ?_)
            · exact none1 _ s1 (e2.trans (if_pos (of_decide_eq_true h6)))
            · refine ⟨_, rfl, ?_⟩
              have := q _ s1
              rw [e2, if_neg (fun z => h6 (decide_eq_true z))] at this
              exact this
    · refine ⟨_, rfl, ?_⟩
      refine ite2 (fun _ => ?_) (fun z => absurd rfl z)
      refine ite2 (fun _ => ?_) (fun z => absurd rfl z)
      refine none1 _ (Same.refl _) (bad fun z => ?_)
      have z := (of_decide_eq_true (Bool.and_eq_true_iff.mp z).1).1
      exact h1 (decide_eq_true (by omega))

def spMkR : Sp := fun vs H Q _ => ∃ x : Str, vs = [.str x] ∧ x.length ≤ 80000 ∧ (mkB x = false → ∀ H', Same H H' → Q .non H') ∧ (mkB x = true → ∀ p H', Same H H' → Q (.ref p) H')
theorem scMkR : FnScope ["text", "numbers"] ["text"] (defScope sMkR) := ⟨rfl, rfl, rfl, by decide +kernel, rfl, by decide +kernel, by decide +kernel⟩
theorem opt_flat (l : List Str) : (l.map fun p => optV (numR p)).all flatV = true := by
  rw [List.all_map, List.all_eq_true]
  intro p _
  show flatV (optV (numR p)) = true
  cases numR p <;> rfl
theorem opt_in (l : List Str) : inV .non (l.map fun p => optV (numR p)) = !l.all fun p => (numR p).isSome := by
  unfold inV
  rw [List.any_map, List.not_all_eq_any_not]
  refine congrArg (fun f => l.any f) (funext fun p => ?_)
  show eqV (optV (numR p)) .non = !(numR p).isSome
  cases numR p <;> rfl
theorem okMkR {f fNuR fAFi : Addr} {fd fdNuR fdAFi : FuncData} (F : Fun K "make_read" "make_read" sMkR f fd) (B : Blt mg) (C : Cst mg) (FNuR : Fun K "number_read" "number_read" sNuR fNuR fdNuR) (mNuR : mg "number_read" = some (.ref fNuR)) (FAFi : Fun K "are_figures" "are_figures" sAFi fAFi fdAFi) (mAFi : mg "are_figures" = some (.ref fAFi)) : FnOk P w K mg base CX0 3 f fd ["text"] spMkR := by
  have GNuR : FnOk P w K mg base CX0 2 fNuR fdNuR ["text"] spNuR := okNuR FNuR B C FAFi mAFi
  have bNuR := FNuR.binds (ps := ["text"]) fun _ _ _ _ _ _ us hl => match us, hl with | [_], _ => rfl
  obtain ⟨t3, h3⟩ := C.mn3
  refine F.ok scMkR (fun vs H Q E h => ?_) (fun cdv A outer s H vs Q E hr h => ?_)
  · obtain ⟨x, rfl, _⟩ := h
    rfl
  · refine letX ?_
    intro xX dX
    obtain ⟨x, rfl, hx, q1, q2⟩ := h
    refine ⟨_, (pss_cons (ps_setComp (i := 1) ["part"] [] [] scMkR.nd rfl rfl ⟨rfl, by decide +kernel, by decide +kernel, by decide +kernel, by decide +kernel, rfl, rfl, rfl⟩ rfl (pi_list (pe_bm PySem.F.plainAttrs_str PySem.F.slot_str_split PySem.F.type_str_split mt_split (pv 0) (pa_cons pe_str pa_nil))) (fun _ _ _ _ => (pg_name (i := 0) (show List.Nodup (["part"] : List Str) by decide +kernel) rfl (Or.inl rfl))) (fun _ _ _ _ => pts_nil) (fun _ _ _ _ => (pe_call GNuR hr rfl mNuR FNuR.kp bNuR .nil pass0 (pa_cons (pv 0) pa_nil))))
        (pss_cons (ps_if (PW.pt (pw_or (pt_cmpR op_gt (pe_callB call_len_seq (by rfl) B.len PySem.boot_len (pa_cons (pv 1) pa_nil)) (pe_glob (v := .int 3) (by rfl) h3 ⟨_, rfl⟩) (nomark _)) (pw_or1 (pt_cmpR op_in_seq pe_non (pv 1) (by rfl)))))
        (pss_one (ps_ret pe_non)) pss_nil)
        (pss_one (ps_ret (pe_callTy call_tuple_of (by rfl) B.tuple PyProof.Rows.boot_tuple (pa_cons (pv 1) pa_nil)))))), ?_⟩
    refine lets3 ?_
    intro dD sS uU3 uU2
    have hsl := split_le x doS
    refine ⟨_, rfl, rfl, x, doS, rfl, rfl, by decide +kernel, bigZ (by omega), fun l H1 n1 s1 e1 => ⟨l, rfl, ⟨_, SqL.of e1⟩, ?_⟩⟩
    refine comp_mapL (σ0 := [none]) (SqL.of e1) (fun σ => ∃ v, σ = [v]) ((Txt.split x doS).map fun p => optV (numR p)) (by rw [List.length_map, List.length_map]) (bigZ (by rw [List.length_map]; omega)) ⟨_, rfl⟩ ?_ ?_
    · intro i z y σ H2 k hz hy hQ hs hk
      obtain ⟨v, rfl⟩ := hQ
      obtain ⟨p, hp, rfl⟩ := map_at hz
      obtain ⟨p', hp', rfl⟩ := map_at hy
      rw [hp] at hp'
      cases hp'
      refine ⟨_, rfl, p, rfl, ?_, fun H' s' => hk _ _ ⟨_, rfl⟩ s'⟩
      have := part_len (List.mem_of_getElem? hp)
      omega
    · intro D H2 hD hd hs
      have s2 := s1.trans hs
      refine ⟨_, rfl, D, _, rfl, .inl (SqL.of hd), _, _, rfl, rfl, _, rfl, ?_⟩
      refine ite2 (fun h1 => ?_) (fun h1 => ?_)
      · refine ite2 (fun _ => ?_) (fun z => absurd rfl z)
        refine q1 ?_ _ s2
        unfold mkB
        have := of_decide_eq_true h1
        rw [List.length_map] at this
        rw [decide_eq_false (by omega), Bool.false_and]
      · have l3 : (Txt.split x doS).length ≤ 3 := by
          rcases Nat.lt_or_ge 3 (Txt.split x doS).length with z | z
          · exact absurd (decide_eq_true (by rw [List.length_map]; omega)) h1
          · exact z
        refine ⟨_, rfl, D, _, rfl, .inl (SqL.of hd), rfl, opt_flat _, _, rfl, ?_⟩
        have em : mkB x = (Txt.split x doS).all fun p => (numR p).isSome := by
          unfold mkB
          rw [decide_eq_true l3, Bool.true_and]
        refine ite2 (fun h2 => ?_) (fun h2 => ?_)
        · have h2 : inV .non ((Txt.split x doS).map fun p => optV (numR p)) = true := h2
          rw [opt_in, ← em] at h2
          refine q1 ?_ _ s2
          cases e : mkB x with
          | false => rfl
          | true => rw [e] at h2; cases h2
        · have h2 : ¬ inV .non ((Txt.split x doS).map fun p => optV (numR p)) = true := h2
          rw [opt_in, ← em] at h2
          refine ⟨_, rfl, D, _, rfl, .inl ⟨SqL.of hd, fun p hp => ?_⟩⟩
          refine q2 ?_ p _ (s2.trans (same_upd hp))
          cases e : mkB x with
          | true => rfl
          | false => rw [e] at h2; exact absurd rfl h2

/-- a make that can be shown -/
def MkOk (ms : List Int) : Prop := ms.length ≤ 3 ∧ ∀ n ∈ ms, 0 ≤ n ∧ n ≤ 1000000000
theorem IsMk.ok {ms : List Int} (h : IsMk ms) : MkOk ms := ⟨h.hi, h.rg⟩
def spMkS : Sp := fun vs H Q _ => ∃ (m : Addr) (ms : List Int), vs = [.ref m] ∧ H m = some (.tup (ms.map V.int)) ∧ MkOk ms ∧ ∀ H', Same H H' → Q (.str (mkS ms)) H'
theorem scMkS : FnScope ["make"] ["make"] (defScope sMkS) := ⟨rfl, rfl, rfl, by decide +kernel, rfl, by decide +kernel, by decide +kernel⟩
theorem nums_len {ms : List Int} (h : MkOk ms) : ((ms.map numS).map (·.length)).sum ≤ 30 := by
  have := sum_le (ys := ms.map numS) (b := 10) fun y hy => by
    obtain ⟨n, hn, rfl⟩ := List.mem_map.mp hy
    exact (num_len (h.2 n hn).1 (h.2 n hn).2).2
  rw [List.length_map] at this
  have := h.1
  omega
theorem log_small {n : Int} (h0 : 0 ≤ n) (h1 : n ≤ 1000000000) : n.natAbs.log2 < 1920 := by
  have : n.natAbs < 2 ^ 1920 := Nat.lt_of_le_of_lt (by omega : n.natAbs ≤ 1000000000) (by decide +kernel)
  by_cases z : n.natAbs = 0
  · rw [z]; decide
  · exact (Nat.log2_lt z).mpr this
theorem okMkS {f : Addr} {fd : FuncData} (F : Fun K "make_shown" "make_shown" sMkS f fd) (B : Blt mg) : FnOk P w K mg base CX0 1 f fd ["make"] spMkS := by
  refine F.ok scMkS (fun vs H Q E h => ?_) (fun cdv A outer s H vs Q E hr h => ?_)
  · obtain ⟨m, ms, rfl, _⟩ := h
    rfl
  · refine letX ?_
    intro xX dX
    obtain ⟨m, ms, rfl, hm, ok, q⟩ := h
    refine ⟨_, (pss_one (ps_ret (pe_bm PySem.F.plainAttrs_str PySem.F.slot_str_join PySem.F.type_str_join mt_join pe_str (pa_cons (pe_compF ["number"] [] [] ⟨rfl, by decide +kernel, by decide +kernel, by decide +kernel, by decide +kernel, rfl, rfl, rfl⟩ rfl (pi_tup (pv 0)) (fun _ _ _ _ => (pg_name (i := 0) (show List.Nodup (["number"] : List Str) by decide +kernel) rfl (Or.inl rfl))) (fun _ _ _ _ => pts_nil) (fun _ _ _ _ => (pe_callTy call_str_int (by rfl) B.str PyProof.Rows.boot_str (pa_cons (pv 0) pa_nil)))) pa_nil)))), ?_⟩
    refine ⟨rfl, _, rfl, m, rfl, ⟨_, SqT.of hm⟩, ?_⟩
    refine comp_mapT (σ0 := [none]) (SqT.of hm) (fun σ => ∃ v, σ = [v]) ((ms.map numS).map V.str) (by rw [List.length_map, List.length_map, List.length_map]) (bigZ (by rw [List.length_map]; have := ok.1; omega)) ⟨_, rfl⟩ ?_ ?_
    · intro i z y σ H2 k hz hy hQ hs hk
      obtain ⟨v, rfl⟩ := hQ
      obtain ⟨n, hn, rfl⟩ := map_at hz
      rw [List.map_map] at hy
      obtain ⟨n', hn', rfl⟩ := map_at hy
      rw [hn] at hn'
      cases hn'
      have r := ok.2 n (List.mem_of_getElem? hn)
      exact ⟨_, rfl, n, rfl, log_small r.1 r.2, hk _ _ ⟨_, rfl⟩ (Same.refl _)⟩
    · intro D H2 hD hd hs
      have l1 := nums_len ok
      refine ⟨doS, D, ms.map numS, rfl, rfl, SqL.of hd, ?_, ?_⟩
      · rw [show doS.length = 1 by decide +kernel, List.length_map]
        have := ok.1
        omega
      · have := q H2 hs
        rw [show mkS ms = Txt.join doS (ms.map numS) from (StrLaws.glued_eq_join _ _).symm] at this
        exact this
end
end K35

set_option Elab.async false
set_option linter.all false
set_option maxRecDepth 100000
set_option maxHeartbeats 4000000
namespace K35
open PySem L2 PySem.Spec
theorem for_itemsG {g : TG} {tb : TS} {D : Ends} {σ : St} {H1 : Hp} {d : Addr} {kvs : List (Key × V)} {ob : Obj} (Pv : Nat → St → Hp → Prop) (h0 : Pv 0 σ (upd H1 d (.frz ob (.dK kvs)))) (hf : ∀ i σ H, Pv i σ H → H d = some (.frz ob (.dK kvs)))
    (hs : ∀ i k v p σ H, kvs[i]? = some (k, v) → Pv i σ H → H p = none → g (.ref p) σ (upd H p (.tup [kV k, v])) fun σ2 H2 =>
      tb { nx := Pv (i + 1), ct := Pv (i + 1), bk := fun σ' H' => H' d = some (.frz ob (.dK kvs)) ∧ D.nx σ' (upd H' d (.dK kvs)), rt := fun v' H' => H' d = some (.frz ob (.dK kvs)) ∧ D.rt v' (upd H' d (.dK kvs)) } σ2 H2)
    (hd : ∀ σ H, Pv kvs.length σ H → D.nx σ (upd H d (.dK kvs))) : ∃ W : Nat → Nat → St → Hp → Prop, (∃ m, W 0 m σ (upd H1 d (.frz ob (.dK kvs)))) ∧ ∀ i m σ H, W i m σ H →
  H d = some (.frz ob (.dK kvs)) ∧ ((kvs.length ≤ i ∧ D.nx σ (upd H d (.dK kvs))) ∨ (i < kvs.length ∧ ∃ N : St → Hp → Prop, (∀ σ' H', N σ' H' → ∃ m', m' < m ∧ W (i + 1) m' σ' H') ∧
    ∀ k v p, kvs[i]? = some (k, v) → H p = none → g (.ref p) σ (upd H p (.tup [kV k, v])) fun σ2 H2 =>
      tb { nx := N, ct := N, bk := fun σ' H' => H' d = some (.frz ob (.dK kvs)) ∧ D.nx σ' (upd H' d (.dK kvs)), rt := fun v' H' => H' d = some (.frz ob (.dK kvs)) ∧ D.rt v' (upd H' d (.dK kvs)) } σ2 H2)) := by
  refine ⟨fun i m σ H => m = kvs.length - i ∧ i ≤ kvs.length ∧ Pv i σ H, ⟨kvs.length, by simp, Nat.zero_le _, h0⟩, ?_⟩
  rintro i m σ H ⟨rfl, hi, p⟩
  refine ⟨hf i σ H p, ?_⟩
  by_cases hlt : i < kvs.length
  · exact .inr ⟨hlt, Pv (i + 1), fun σ' H' p' => ⟨kvs.length - (i + 1), by omega, rfl, hlt, p'⟩, fun k v q hk hq => hs i k v q σ H hk p hq⟩
  · have e : i = kvs.length := by omega
    subst e
    exact .inl ⟨Nat.le_refl _, hd σ H p⟩
/-! ### what is chosen; the stand -/
abbrev Ch := List (Str × List Int)
def ChV (H : Hp) (kv : Key × V) (e : Str × List Int) : Prop := kv.1 = .inr e.1 ∧ ∃ m, kv.2 = .ref m ∧ H m = some (.tup (e.2.map V.int))
theorem ChV.same {H H' : Hp} (s : Same H H') {kv : Key × V} {e : Str × List Int} (h : ChV H kv e) : ChV H' kv e := let ⟨a, m, b, c⟩ := h; ⟨a, m, b, s _ _ c⟩
def ChoAt (H : Hp) (c : Addr) (ch : Ch) : Prop := ∃ kvs, H c = some (.dK kvs) ∧ Paired (ChV H) kvs ch
theorem ChoAt.same {H H' : Hp} (s : Same H H') {c : Addr} {ch : Ch} (h : ChoAt H c ch) : ChoAt H' c ch := let ⟨kvs, a, b⟩ := h; ⟨kvs, s _ _ a, paired_mapP b fun _ _ => ChV.same s⟩
structure TxtT (K : PySem.W.Frag) (mg : Str → Option Value) (T : Addr) : Prop where
  cl : Cls K T
  nC : NoAttr K T "chosen"
  nH : NoAttr K T "choices"
  nO : NoAttr K T "own"
  mgC : mg "Stand" = some (.ref T)

/-! ### own changes -/
abbrev Ow := List (Str × (List Str × List Str))
def OwV (H : Hp) (kv : Key × V) (e : Str × (List Str × List Str)) : Prop := kv.1 = .inr e.1 ∧ ∃ t l1 l2, kv.2 = .ref t ∧ H t = some (.tup [.ref l1, .ref l2]) ∧ H l1 = some (.lst (e.2.1.map V.str)) ∧ H l2 = some (.lst (e.2.2.map V.str))
theorem OwV.same {H H' : Hp} (s : Same H H') {kv : Key × V} {e : Str × (List Str × List Str)} (h : OwV H kv e) : OwV H' kv e := let ⟨a, t, l1, l2, b, c, d, f⟩ := h; ⟨a, t, l1, l2, b, s _ _ c, s _ _ d, s _ _ f⟩
/-- .. all of it new -/
def OwN (H H' : Hp) (kv : Key × V) (e : Str × (List Str × List Str)) : Prop := kv.1 = .inr e.1 ∧ ∃ t l1 l2, kv.2 = .ref t ∧ H t = none ∧ H l1 = none ∧ H l2 = none ∧ H' t = some (.tup [.ref l1, .ref l2]) ∧ H' l1 = some (.lst (e.2.1.map V.str)) ∧ H' l2 = some (.lst (e.2.2.map V.str))
theorem OwN.same {H H1 H2 : Hp} (s : ∀ b o, H1 b = some o → H b = none → H2 b = some o) {kv : Key × V} {e : Str × (List Str × List Str)} (h : OwN H H1 kv e) : OwN H H2 kv e := let ⟨a, t, l1, l2, b, n1, n2, n3, c, d, f⟩ := h; ⟨a, t, l1, l2, b, n1, n2, n3, s _ _ c n1, s _ _ d n2, s _ _ f n3⟩
theorem OwN.put {H H1 : Hp} {d : Addr} {ks ks' : List (Key × V)} (hd : H1 d = some (.dK ks)) {kv : Key × V} {e : Str × (List Str × List Str)} (h : OwN H H1 kv e) : OwN H (upd H1 d (.dK ks')) kv e :=
  let ⟨a, t, l1, l2, b, n1, n2, n3, c, d', f⟩ := h; ⟨a, t, l1, l2, b, n1, n2, n3, keep_upd c (ne_of c hd (by intro z; cases z)), keep_upd d' (ne_of d' hd (by intro z; cases z)), keep_upd f (ne_of f hd (by intro z; cases z))⟩
theorem OwN.msk {H H' : Hp} {L : List Addr} (hL : Busy H L) {kv : Key × V} {e : Str × (List Str × List Str)} (h : OwN H H' kv e) : OwV (msk L H') kv e := let ⟨a, t, l1, l2, b, n1, n2, n3, c, d, f⟩ := h; ⟨a, t, l1, l2, b, msk_at (hL.free n1) c, msk_at (hL.free n2) d, msk_at (hL.free n3) f⟩
def OwnAt (H : Hp) (o : Addr) (ow : Ow) : Prop := ∃ kvs, H o = some (.dK kvs) ∧ Paired (OwV H) kvs ow
theorem OwnAt.same {H H' : Hp} (s : Same H H') {o : Addr} {ow : Ow} (h : OwnAt H o ow) : OwnAt H' o ow := let ⟨kvs, a, b⟩ := h; ⟨kvs, s _ _ a, paired_mapP b fun _ _ => OwV.same s⟩
/-! ### choices -/
abbrev Cs := List (Str × Str)
def CsV (kv : Key × V) (e : Str × Str) : Prop := kv.1 = .inr e.1 ∧ kv.2 = .str e.2
def CsAt (H : Hp) (h : Addr) (cs : Cs) : Prop := ∃ kvs, H h = some (.dK kvs) ∧ Paired CsV kvs cs
theorem CsAt.same {H H' : Hp} (s : Same H H') {h : Addr} {cs : Cs} (x : CsAt H h cs) : CsAt H' h cs := let ⟨kvs, a, b⟩ := x; ⟨kvs, s _ _ a, b⟩
def StandAt (T : Addr) (H : Hp) (v : V) (ch : Ch) (cs : Cs) (ow : Ow) : Prop := ∃ a dx fl c h o, v = .ref a ∧ H a = some (.ins T dx fl) ∧ fl.lookup ("chosen" : Str) = some (.ref c) ∧ fl.lookup ("choices" : Str) = some (.ref h) ∧ fl.lookup ("own" : Str) = some (.ref o) ∧
  ChoAt H c ch ∧ CsAt H h cs ∧ OwnAt H o ow
theorem StandAt.same {T : Addr} {H H' : Hp} {v : V} {ch : Ch} {cs : Cs} {ow : Ow} (s : Same H H') (x : StandAt T H v ch cs ow) : StandAt T H' v ch cs ow := by
  obtain ⟨a, dx, fl, c, h, o, e, h1, h2, h3, h4, h5, h6, h7⟩ := x
  exact ⟨a, dx, fl, c, h, o, e, s _ _ h1, h2, h3, h4, h5.same s, h6.same s, h7.same s⟩
section
variable {P : Program} {w : World} {K : PySem.W.Frag} {mg : Str → Option Value} {base : Heap}
def spCCo : Sp := fun vs H Q _ => ∃ (o : Addr) (kvs : List (Key × V)) (ow : Ow), vs = [.ref o] ∧ H o = some (.dK kvs) ∧ Paired (OwV H) kvs ow ∧ (ow.map (·.1)).Nodup ∧ ow.length ≤ 100 ∧
  ∀ d H' kvs', H d = none → Same H H' → H' d = some (.dK kvs') → Paired (OwN H H') kvs' ow → Q (.ref d) H'
theorem scCCo : FnScope ["own", "copied", "path", "change"] ["own"] (defScope sCCo) := ⟨rfl, rfl, rfl, by decide +kernel, rfl, by decide +kernel, by decide +kernel⟩
theorem okCCo {f : Addr} {fd : FuncData} (F : Fun K "changes_copied" "changes_copied" sCCo f fd) (B : Blt mg) : FnOk P w K mg base CX0 1 f fd ["own"] spCCo := by
  refine F.ok scCCo (fun vs H Q E h => ?_) (fun cdv A outer s H vs Q E hr h => ?_)
  · obtain ⟨o, kvs, ow, rfl, _⟩ := h
    rfl
  · refine letX ?_
    intro xX dX
    obtain ⟨o, kvs, ow, rfl, ho, pr, nd, l100, q⟩ := h
    have hu := hr.units
    refine ⟨_, (pss_cons (ps_set (i := 1) scCCo.nd rfl (Or.inl rfl) pe_dnewN)
        (pss_cons (ps_forItems PassesOwn.never rfl (pv 0) (pg_tup rfl (pgs_cons (pg_name (i := 2) scCCo.nd rfl (Or.inl rfl)) (pgs_cons (pg_name (i := 3) scCCo.nd rfl (Or.inl rfl)) pgs_nil)))
        (pss_one (ps_dput hu (pv 1) (pv 2) (pe_tupN (pa_cons (pe_callTy call_listN (by rfl) B.list PyProof.Rows.boot_list (pa_cons (pe_ix ix_tup (pv 3) pe_int (fun _ _ => rfl)) pa_nil)) (pa_cons (pe_callTy call_listN (by rfl) B.list PyProof.Rows.boot_list (pa_cons (pe_ix ix_tup (pv 3) pe_int (fun _ _ => rfl)) pa_nil)) pa_nil))) rfl)))
        (pss_one (ps_ret (pv 1))))), ?_⟩
    refine lets3 ?_
    intro dD sS uU3 uU2
    have hk : ∀ (H' : Hp) kv f, OwN H H' kv f → kv.1 = Sum.inr f.1 := fun _ kv f z => z.1
    refine fun d H1 n1 s1 e1 => ?_
    have od : d ≠ o := (ne_of_none ho n1).symm
    refine ⟨_, rfl, o, kvs, rfl, s1 _ _ ho, fun ob => ?_⟩
    refine for_itemsG (fun i σ H5 => ∃ u v kvs2, σ = [some (.ref o), some (.ref d), u, v] ∧ (∀ b x, H b = some x → b ≠ o → H5 b = some x) ∧ (∀ b, H5 b = none → H b = none) ∧ H5 o = some (.frz ob (.dK kvs)) ∧ H5 d = some (.dK kvs2) ∧ Paired (OwN H H5) kvs2 (ow.take i))
      ⟨none, none, [], rfl, fun b x e hb => keep_upd (s1 _ _ e) hb, fun b e => s1.free (free_upd e).2, upd_same, keep_upd e1 od, .nil⟩ ?_ ?_ ?_
    · intro i σ H5 hQ1
      refine letG ?_
      intro tT
      obtain ⟨u, v, kvs2, rfl, _, _, h, _⟩ := hQ1
      exact h
    · intro i k v p σ H5 hi hQ2 hp
      refine letG ?_
      intro tT
      obtain ⟨u, v', kvs2, rfl, k5, f5, h5, hd5, pr5⟩ := hQ2
      first | (refine letB (g := gName _) ?_; intro eQ sQ) | (refine letB (g := gTup _ _ _) ?_; intro eQ sQ) | skip
      obtain ⟨⟨x, b1, m1⟩, hf, a1, t, l1, l2, a2, a3, a4, a5⟩ := paired_get' pr hi
      have a1 : k = .inr x := a1
      have a2 : v = .ref t := a2
      subst a1 a2
      have hlt := (List.getElem?_eq_some_iff.mp hf).1
      have sp : Same H5 (upd H5 p (.tup [kV (.inr x), .ref t])) := same_upd hp
      have K5 : ∀ {b : Addr} {z : HO}, H b = some z → (∀ ks, z ≠ .dK ks) → (upd H5 p (.tup [kV (.inr x), .ref t])) b = some z := fun {b z} e hz => sp _ _ (k5 _ _ e (ne_of e ho (hz _)))
      have T5 := K5 a3 (by intro ks z; cases z)
      have L5 := K5 a4 (by intro ks z; cases z)
      have M5 := K5 a5 (by intro ks z; cases z)
      have z0 : atI [V.ref l1, V.ref l2] 0 = some (V.ref l1) := rfl
      have z1 : atI [V.ref l1, V.ref l2] 1 = some (V.ref l2) := rfl
      refine ⟨p, _, rfl, SqT.of upd_same, rfl, _, _, rfl, _, _, rfl, rfl, ?_⟩
      refine ⟨_, rfl, t, _, _, _, rfl, rfl, SqT.of T5, z0, l1, _, rfl, .inl (SqL.of L5), fun q1 H6 n6 s6 e6 => ?_⟩
      refine ⟨_, rfl, t, _, _, _, rfl, rfl, SqT.of (s6 _ _ T5), z1, l2, _, rfl, .inl (SqL.of (s6 _ _ M5)), fun q2 H7 n7 s7 e7 => ?_⟩
      refine ⟨(by show 2 ≤ sizeLine; decide), fun q3 H8 n8 s8 e8 => ?_⟩
      have s58 := sp.trans (s6.trans (s7.trans s8))
      have pl := paired_len pr5
      rw [List.length_take] at pl
      refine ⟨_, rfl, _, rfl, d, _, rfl, DPut.k (k := .inr x) (s58 _ _ hd5) (small1000 (by omega)), ?_⟩
      have hxn : x ∉ (ow.take i).map (·.1) := by
        rw [List.map_take]
        intro hm
        obtain ⟨j, hj, ej⟩ := List.mem_iff_getElem.mp hm
        rw [List.length_take, List.length_map] at hj
        rw [List.getElem_take] at ej
        have e1 : (ow.map (·.1))[j]? = some x := by rw [List.getElem?_eq_getElem (by rw [List.length_map]; omega), ej]
        have e2 : (ow.map (·.1))[i]? = some x := by rw [List.getElem?_map, hf]; rfl
        have := (List.getElem?_inj (l := ow.map (·.1)) (i := j) (j := i) (by rw [List.length_map]; omega) nd).mp (by rw [e1, e2])
        omega
      have hf8 : ∀ b, H8 b = none → H b = none := fun b e => f5 b (s58.free e)
      refine ⟨_, _, _, rfl, fun b z e hb => ?_, fun b e => hf8 b (free_upd e).2, keep_upd (s58 _ _ h5) od.symm, upd_same, ?_⟩
      · rw [upd_ne (fun y => by rw [y, n1] at e; cases e)]
        exact s58 _ _ (k5 _ _ e hb)
      · rw [List.take_add_one, hf]
        have := paired_put (F := OwN H H8) (hk H8) (x := x) (ls := (b1, m1)) (v := .ref q3) ⟨rfl, q3, q1, q2, rfl, f5 _ (sp.free (s6.free (s7.free n8))), f5 _ (sp.free n6), f5 _ (sp.free (s6.free n7)), e8, s8 _ _ (s7 _ _ e6), s8 _ _ e7⟩ (paired_mapP pr5 fun _ _ => OwN.same fun b z e _ => s58 _ _ e)
        rw [putP_new hxn] at this
        exact paired_mapP this fun _ _ => OwN.put (s58 _ _ hd5)
    · intro σ H5 hQ3
      refine letG ?_
      intro tT
      obtain ⟨u, v, kvs2, rfl, k5, f5, h5, hd5, pr5⟩ := hQ3
      first | (refine letB (g := gName _) ?_; intro eQ sQ) | (refine letB (g := gTup _ _ _) ?_; intro eQ sQ) | skip
      rw [paired_len pr, List.take_length] at pr5
      refine ⟨_, rfl, q d _ kvs2 n1 (fun b z e => ?_) (keep_upd hd5 od) (paired_mapP pr5 fun _ _ => OwN.same fun b z e hb => keep_upd e (fun y => by rw [y, ho] at hb; cases hb))⟩
      by_cases hb : b = o
      · subst hb
        rw [ho] at e
        cases e
        exact upd_same
      · exact keep_upd (k5 b z e hb) hb

def spTIn (T : Addr) : Sp := fun vs H Q _ => ∃ (x dx c h o : Addr) (kvs kvh : List (Key × V)) (ow : Ow), vs = [.ref x, .ref c, .ref h, .ref o] ∧ H x = some (.ins T dx []) ∧ H c = some (.dK kvs) ∧ H h = some (.dK kvh) ∧ OwnAt H o ow ∧ (ow.map (·.1)).Nodup ∧ ow.length ≤ 100 ∧
  ∀ (H' : Hp) (fl : List (Str × V)) (c' h' o' : Addr) (ko : List (Key × V)), (∀ b o, H b = some o → b ≠ x → H' b = some o) → H' x = some (.ins T dx fl) → fl.lookup ("chosen" : Str) = some (.ref c') → fl.lookup ("choices" : Str) = some (.ref h') → fl.lookup ("own" : Str) = some (.ref o') →
    H c' = none → H h' = none → H o' = none → H' c' = some (.dK kvs) → H' h' = some (.dK kvh) → H' o' = some (.dK ko) → Paired (OwN H H') ko ow → Q .non H'
theorem scTIn : FnScope ["self", "chosen", "choices", "own"] ["self", "chosen", "choices", "own"] (defScope sTIn) := ⟨rfl, rfl, rfl, by decide +kernel, rfl, by decide +kernel, by decide +kernel⟩
theorem Stage.over {C dx x : Addr} {H Hk Hj : Hp} {fl : List (Str × V)} (S : Stage C dx x H Hk fl) (s : Same Hk Hj) : Stage C dx x H Hj fl := ⟨fun b o e hb => s _ _ (S.same b o e hb), fun b e => S.free b (s.free e), s _ _ S.ob⟩
theorem okTIn {f T fCCo : Addr} {fd fdCCo : FuncData} (F : Fun K "__init__" "Stand.__init__" sTIn f fd) (U : TxtT K mg T) (B : Blt mg) (FCCo : Fun K "changes_copied" "changes_copied" sCCo fCCo fdCCo) (mCCo : mg "changes_copied" = some (.ref fCCo)) :
    FnOk P w K mg base CX0 2 f fd ["self", "chosen", "choices", "own"] (spTIn T) := by
  have GCCo : FnOk P w K mg base CX0 1 fCCo fdCCo ["own"] spCCo := okCCo FCCo B
  have bCCo := FCCo.binds (ps := ["own"]) fun _ _ _ _ _ _ us hl => match us, hl with | [_], _ => rfl
  refine F.ok scTIn (fun vs H Q E h => ?_) (fun cdv A outer s H vs Q E hr h => ?_)
  · obtain ⟨x, dx, c, h, o, kvs, kvh, ow, rfl, _⟩ := h
    rfl
  · refine letX ?_
    intro xX dX
    obtain ⟨x, dx, c, h, o, kvs, kvh, ow, rfl, hx, hc, hh, ho, nd, l100, q⟩ := h
    refine ⟨_, (pss_cons (ps_fld (pv 0) (pe_callTy call_dictN (by rfl) B.dict PyProof.Rows.boot_dict (pa_cons (pv 1) pa_nil)) rfl)
        (pss_cons (ps_fld (pv 0) (pe_callTy call_dictN (by rfl) B.dict PyProof.Rows.boot_dict (pa_cons (pv 2) pa_nil)) rfl)
        (pss_one (ps_fld (pv 0) (pe_call GCCo hr rfl mCCo FCCo.kp bCCo .nil pass0 (pa_cons (pv 3) pa_nil)) rfl)))), ?_⟩
    refine lets3 ?_
    intro dD sS uU3 uU2
    have S0 : Stage T dx x H H [] := ⟨fun _ _ e _ => e, fun _ e => e, hx⟩
    have ch : ∀ {b : Addr} {ks : List (Key × V)}, H b = some (.dK ks) → b ≠ x := fun e => ne_of e hx (by intro z; cases z)
    refine ⟨_, rfl, c, _, rfl, hc, fun c1 H1 n1 s1 e1 => ?_⟩
    have S1 := S0.over s1
    refine ⟨_, rfl, x, T, dx, _, rfl, S1.ob, U.cl, U.nC, (by decide), ?_⟩
    have S2 : Stage T dx x H _ (putF "chosen" (.ref c1) []) := S1.put
    have c1x : c1 ≠ x := (ne_of_none hx n1).symm
    have c2 : (upd H1 x (.ins T dx (putF "chosen" (.ref c1) []))) c1 = some (.dK kvs) := keep_upd e1 c1x
    refine ⟨_, rfl, h, _, rfl, S2.same _ _ hh (ch hh), fun h1 H3 n3 s3 e3 => ?_⟩
    have S3 := S2.over s3
    have hn3 := S2.free _ n3
    refine ⟨_, rfl, x, T, dx, _, rfl, S3.ob, U.cl, U.nH, few (lp len0) (by decide), ?_⟩
    have S4 : Stage T dx x H _ (putF "choices" (.ref h1) (putF "chosen" (.ref c1) [])) := S3.put
    have h1x : h1 ≠ x := (ne_of_none hx hn3).symm
    obtain ⟨ko, ko1, ko2⟩ := ho
    have pr4 : Paired (OwV (upd H3 x (.ins T dx (putF "choices" (.ref h1) (putF "chosen" (.ref c1) []))))) ko ow := paired_mapP ko2 fun kv e z => by
      obtain ⟨z1, t, l1, l2, z2, z3, z4, z5⟩ := z
      exact ⟨z1, t, l1, l2, z2, S4.same _ _ z3 (ne_of z3 hx (by intro z; cases z)), S4.same _ _ z4 (ne_of z4 hx (by intro z; cases z)), S4.same _ _ z5 (ne_of z5 hx (by intro z; cases z))⟩
    refine ⟨_, rfl, o, ko, ow, rfl, S4.same _ _ ko1 (ch ko1), pr4, nd, l100, fun o1 H5 ko' n5 s5 e5 pr5 => ?_⟩
    have S5 := S4.over s5
    have hn5 := S4.free _ n5
    refine ⟨_, rfl, x, T, dx, _, rfl, S5.ob, U.cl, U.nO, few (lp (lp len0)) (by decide), ?_⟩
    have o1x : o1 ≠ x := (ne_of_none hx hn5).symm
    have S6 : Stage T dx x H _ (putF "own" (.ref o1) (putF "choices" (.ref h1) (putF "chosen" (.ref c1) []))) := S5.put
    refine q _ _ c1 h1 o1 ko' S6.same S6.ob ?_ ?_ ?_ n1 hn3 hn5 (keep_upd (s5 _ _ (keep_upd (s3 _ _ c2) c1x)) c1x) (keep_upd (s5 _ _ (keep_upd e3 h1x)) h1x) (keep_upd e5 o1x) (paired_mapP pr5 fun kv e z => ?_)
    · rw [lookup_putF, if_neg (by decide +kernel), lookup_putF, if_neg (by decide +kernel), lookup_putF, if_pos rfl]
    · rw [lookup_putF, if_neg (by decide +kernel), lookup_putF, if_pos rfl]
    · rw [lookup_putF, if_pos rfl]
    · obtain ⟨z1, t, l1, l2, z2, m1, m2, m3, z3, z4, z5⟩ := z
      have fx : ∀ {b : Addr} {z : HO}, H5 b = some z → (∀ fs, z ≠ .ins T dx fs) → b ≠ x := fun e hz => ne_of e S5.ob (hz _)
      exact ⟨z1, t, l1, l2, z2, S4.free _ m1, S4.free _ m2, S4.free _ m3, keep_upd z3 (fx z3 (by intro fs z; cases z)), keep_upd z4 (fx z4 (by intro fs z; cases z)), keep_upd z5 (fx z5 (by intro fs z; cases z))⟩
theorem make_standA {T : Addr} {H : Hp} {Q : Addr → Hp → Prop} {E : XK} {c h o : Addr} {ch : Ch} {cs : Cs} {ow : Ow} (hc : ChoAt H c ch) (hh : CsAt H h cs) (ho : OwnAt H o ow) (nd : (ow.map (·.1)).Nodup) (l100 : ow.length ≤ 100) (q : ∀ x H', H x = none → Same H H' → (∀ L, Busy H L → StandAt T (msk L H') (.ref x) ch cs ow) → Q x H') :
    ∀ x dx, H x = none → H dx = none → dx ≠ x → spTIn T (.ref x :: ([.ref c, .ref h, .ref o] ++ [])) (upd (upd H dx (.own x)) x (.ins T dx [])) (fun v H2 => v = .non ∧ Q x H2) E := by
  intro x dx hx hdx nx
  have s1 : Same H (upd (upd H dx (.own x)) x (.ins T dx [])) := same_upd' (same_upd hdx) hx
  obtain ⟨kvs, e1, e2⟩ := hc
  obtain ⟨kvh, e3, e4⟩ := hh
  refine ⟨x, dx, c, h, o, kvs, kvh, ow, rfl, upd_same, s1 _ _ e1, s1 _ _ e3, ho.same s1, nd, l100, fun H' fl c' h' o' ko keep hob l1 l2 l3 n1 n2 n3 g1 g2 g3 g4 => ?_⟩
  have s2 : Same H H' := fun b o e => keep b o (s1 _ _ e) (ne_of_none e hx)
  refine ⟨rfl, q x H' hx s2 fun L hL => ⟨x, dx, fl, c', h', o', rfl, msk_at (hL.free hx) hob, l1, l2, l3, ⟨kvs, msk_at (hL.free (s1.free n1)) g1, paired_mapP e2 fun kv e z => ?_⟩, ⟨kvh, msk_at (hL.free (s1.free n2)) g2, e4⟩, ⟨ko, msk_at (hL.free (s1.free n3)) g3, paired_mapP g4 fun kv e z => ?_⟩⟩⟩
  · obtain ⟨a, m, b, c⟩ := z
    exact ⟨a, m, b, msk_at (hL.tup c) (s2 _ _ c)⟩
  · obtain ⟨z1, t, l1, l2, z2, m1, m2, m3, z3, z4, z5⟩ := z
    exact ⟨z1, t, l1, l2, z2, msk_at (hL.free (s1.free m1)) z3, msk_at (hL.free (s1.free m2)) z4, msk_at (hL.free (s1.free m3)) z5⟩
end
end K35

set_option Elab.async false
set_option linter.all false
set_option maxRecDepth 100000
set_option maxHeartbeats 4000000
namespace L2
open PySem PySem.Spec
theorem pe_bmK {X : Cx} (K : PySem.W.Frag) {T id : String} {name : Str} {r : V → List V → Hp → VK → Prop} {o e : Expr} {es : List Expr} {to : TE} {t : TA} {apos cpos : Pos} (pa : PlainAttrs T) (slot : Slot T name id) (hty : typeOf (.builtin id) = pure (.type "method_descriptor")) (hm : MtR X id r) (ho : PE X o to) (ha : PA X (e :: es) t) (h : X.K = K := by rfl)
    (hbase : attributeBase o name X.env (eval o X.env) = eval o X.env := by rfl)
    (hfew : ((backTo cpos (starEach (e :: es) X.env)).all (fun x => !x.1) && (backToKw cpos (keywordEach [] X.env)).all (fun x => x.1.isSome)
      && decide ((e :: es).length + ([] : List Keyword).length + (if ([] : List Keyword).isEmpty then 0 else 1) < 30)) = true := by rfl)
    (hline : (apos.endLine == cpos.line) = true := by rfl) (hs : starEach (e :: es) X.env = (false, eval e X.env) :: starEach es X.env := by rfl) (hplain : (backTo cpos (starEach es X.env)).any (·.1) = false := by rfl) :
    PE X (.Call (.Attribute o name apos) (e :: es) [] cpos) (tBM K T r to t) := by
  subst h
  exact pe_bm pa slot hty hm ho ha hbase hfew hline hs hplain
theorem mt_joinK {X : Cx} (K : PySem.W.Frag) (h : X.K = K := by rfl) : MtM X "str.join" (rJoin K) := h ▸ mt_join
end L2
namespace K35
open PySem L2 PySem.Spec PyProof.Rows
/-- a stand that can be shown -/
structure Bnd (ch : Ch) (cs : Cs) (ow : Ow) : Prop where
  nch : ch.length < 64
  ncs : cs.length < 64
  now : ow.length < 64
  dch : (ch.map (·.1)).Nodup
  dcs : (cs.map (·.1)).Nodup
  dow : (ow.map (·.1)).Nodup
  ch : ∀ e ∈ ch, e.1.length ≤ 60 ∧ MkOk e.2
  cs : ∀ e ∈ cs, e.1.length ≤ 60 ∧ e.2.length ≤ 60
  ow : ∀ e ∈ ow, e.1.length ≤ 60 ∧ e.2.1.length ≤ 60 ∧ e.2.2.length ≤ 60 ∧ (∀ x ∈ e.2.1, x.length ≤ 60) ∧ ∀ x ∈ e.2.2, x.length ≤ 60
theorem join_eq (sep : Str) (ps : List Str) : Txt.join sep ps = Str.join sep ps := StrLaws.glued_eq_join _ _
theorem ow_app (p : Str) : (Str.ofString "own ") ++ p = Str.join spS [owS, p] := by
  show _ = owS ++ spS ++ p
  rw [show (Str.ofString "own ") = owS ++ spS by decide +kernel]
theorem join_short {sep : Str} {ps : List Str} {b : Nat} (h : ∀ p ∈ ps, p.length ≤ b) (hs : sep.length ≤ 1) : (Str.join sep ps).length ≤ ps.length * (b + 1) := by
  rw [← join_eq]
  refine Nat.le_trans join_len ?_
  have := sum_le h
  have h2 : ps.length * sep.length ≤ ps.length * 1 := Nat.mul_le_mul_left _ hs
  rw [Nat.mul_add]
  omega
section
variable {P : Program} {w : World} {K : PySem.W.Frag} {mg : Str → Option Value} {base : Heap}
def spChR : Sp := fun vs H Q _ => ∃ (p : Str) (t l1 l2 : Addr) (b m : List Str), vs = [.str p, .ref t] ∧ H t = some (.tup [.ref l1, .ref l2]) ∧ H l1 = some (.lst (b.map V.str)) ∧ H l2 = some (.lst (m.map V.str)) ∧ p.length ≤ 60 ∧ b.length ≤ 60 ∧ m.length ≤ 60 ∧ (∀ x ∈ b, x.length ≤ 60) ∧ (∀ x ∈ m, x.length ≤ 60) ∧
  ∀ l H', H l = none → Same H H' → H' l = some (.lst ((rowO (p, (b, m))).map V.str)) → Q (.ref l) H'
theorem scChR : FnScope ["path", "change", "rows"] ["path", "change"] (defScope sChR) := ⟨rfl, rfl, rfl, by decide +kernel, rfl, by decide +kernel, by decide +kernel⟩
theorem okChR {f : Addr} {fd : FuncData} (F : Fun K "change_rows" "change_rows" sChR f fd) : FnOk P w K mg base CX0 1 f fd ["path", "change"] spChR := by
  refine F.ok scChR (fun vs H Q E h => ?_) (fun cdv A outer s H vs Q E hr h => ?_)
  · obtain ⟨p, t, l1, l2, b, m, rfl, _⟩ := h
    rfl
  · refine letX ?_
    intro xX dX
    obtain ⟨p, t, l1, l2, b, m, rfl, ht, h1, h2, hp, hb, hm, hbx, hmx, q⟩ := h
    refine ⟨_, (pss_cons (ps_set (i := 2) scChR.nd rfl (Or.inl rfl) (pe_lstN (pa_cons (pe_join2 pe_str (pe_fmt (pv 0))) pa_nil)))
        (pss_cons (ps_expr (pe_bm PySem.F.plainAttrs_list PySem.F.slot_list_extend PySem.F.type_list_extend mt_extend (pv 2) (pa_cons (pe_compF ["line"] [] [] ⟨rfl, by decide +kernel, by decide +kernel, by decide +kernel, by decide +kernel, rfl, rfl, rfl⟩ rfl (pi_list (pe_ix ix_tup (pv 1) pe_int (fun _ _ => rfl))) (fun _ _ _ _ => (pg_name (i := 0) (show List.Nodup (["line"] : List Str) by decide +kernel) rfl (Or.inl rfl))) (fun _ _ _ _ => pts_nil) (fun _ _ _ _ => (pe_join2 pe_str (pe_fmt (pv 0))))) pa_nil)))
        (pss_cons (ps_expr (pe_bm PySem.F.plainAttrs_list PySem.F.slot_list_extend PySem.F.type_list_extend mt_extend (pv 2) (pa_cons (pe_compF ["line"] [] [] ⟨rfl, by decide +kernel, by decide +kernel, by decide +kernel, by decide +kernel, rfl, rfl, rfl⟩ rfl (pi_list (pe_ix ix_tup (pv 1) pe_int (fun _ _ => rfl))) (fun _ _ _ _ => (pg_name (i := 0) (show List.Nodup (["line"] : List Str) by decide +kernel) rfl (Or.inl rfl))) (fun _ _ _ _ => pts_nil) (fun _ _ _ _ => (pe_join2 pe_str (pe_fmt (pv 0))))) pa_nil)))
        (pss_one (ps_ret (pv 2)))))), ?_⟩
    refine lets4 ?_
    intro dD sS uU4 uU3 uU2
    have z0 : atI [V.ref l1, V.ref l2] 0 = some (V.ref l1) := rfl
    have z1 : atI [V.ref l1, V.ref l2] 1 = some (V.ref l2) := rfl
    have e4 : (Str.ofString "own ").length = 4 := by decide +kernel
    refine ⟨_, rfl, bigZ (by rw [e4]; omega), _, rfl, _, rfl, bigZ (by omega), _, rfl, bigZ (by rw [e4]; omega), (by show 1 ≤ sizeLine; decide), fun r H1 n1 s1 e1 => ?_⟩
    refine ⟨_, rfl, .inl ⟨rfl, _, SqL.of e1⟩, _, rfl, t, _, _, _, rfl, rfl, SqT.of (s1 _ _ ht), z0, l1, rfl, ⟨_, SqL.of (s1 _ _ h1)⟩, ?_⟩
    refine comp_mapL (σ0 := [none]) (SqL.of (s1 _ _ h1)) (fun σ => ∃ v, σ = [v]) ((b.map (ltS ++ ·)).map V.str) (by rw [List.length_map, List.length_map, List.length_map]) (bigZ (by rw [List.length_map]; omega)) ⟨_, rfl⟩ ?_ ?_
    · intro i z y σ H2 k hz hy hQ hs hk
      obtain ⟨v, rfl⟩ := hQ
      obtain ⟨x, hx, rfl⟩ := map_at hz
      rw [List.map_map] at hy
      obtain ⟨x', hx', rfl⟩ := map_at hy
      rw [hx] at hx'
      cases hx'
      have := hbx x (List.mem_of_getElem? hx)
      exact ⟨_, rfl, bigZ (by show ltS.length ≤ _; rw [lt_eq]; decide), _, rfl, _, rfl, bigZ (by omega), _, rfl, bigZ (by show ltS.length + _ ≤ _; rw [lt_eq, len_one]; omega), hk _ _ ⟨_, rfl⟩ (Same.refl _)⟩
    intro D1 H2 n2 e2 s2
    refine ⟨r, D1, _, _, rfl, rfl, s2 _ _ e1, e2, bigZ (by simp only [List.length_map, List.length_cons, List.length_nil]; omega), ?_⟩
    have s12 := s1.trans s2
    have nr : ∀ {c : Addr} {o : HO}, H c = some o → c ≠ r := fun e => ne_of_none e n1
    have k3 : ∀ {c : Addr} {o : HO} {o' : HO}, H c = some o → upd H2 r o' c = some o := fun e => keep_upd (s12 _ _ e) (nr e)
    refine ⟨_, rfl, .inl ⟨rfl, _, SqL.of upd_same⟩, _, rfl, t, _, _, _, rfl, rfl, SqT.of (k3 ht), z1, l2, rfl, ⟨_, SqL.of (k3 h2)⟩, ?_⟩
    refine comp_mapL (σ0 := [none]) (SqL.of (k3 h2)) (fun σ => ∃ v, σ = [v]) ((m.map (gtS ++ ·)).map V.str) (by rw [List.length_map, List.length_map, List.length_map]) (bigZ (by rw [List.length_map]; omega)) ⟨_, rfl⟩ ?_ ?_
    · intro i z y σ H3 k hz hy hQ hs hk
      obtain ⟨v, rfl⟩ := hQ
      obtain ⟨x, hx, rfl⟩ := map_at hz
      rw [List.map_map] at hy
      obtain ⟨x', hx', rfl⟩ := map_at hy
      rw [hx] at hx'
      cases hx'
      have := hmx x (List.mem_of_getElem? hx)
      exact ⟨_, rfl, bigZ (by show gtS.length ≤ _; rw [gt_eq]; decide), _, rfl, _, rfl, bigZ (by omega), _, rfl, bigZ (by show gtS.length + _ ≤ _; rw [gt_eq, len_one]; omega), hk _ _ ⟨_, rfl⟩ (Same.refl _)⟩
    intro D2 H3 n3 e3 s3
    refine ⟨r, D2, _, _, rfl, rfl, s3 _ _ upd_same, e3, bigZ (by simp only [List.length_map, List.length_cons, List.length_nil, List.length_append]; omega), ?_⟩
    refine ⟨_, rfl, q r _ n1 (fun c o e => keep_upd (s3 _ _ (k3 e)) (nr e)) ?_⟩
    rw [upd_same]
    unfold rowO
    rw [List.map_append, List.map_append, ← ow_app]
    rfl

def spSho (T : Addr) : Sp := fun vs H Q _ => ∃ (v : V) (ch : Ch) (cs : Cs) (ow : Ow), vs = [v] ∧ StandAt T H v ch cs ow ∧ Bnd ch cs ow ∧
  ∀ ch' cs' ow' H', Srt ch ch' → Srt cs cs' → Srt ow ow' → Same H H' → Q (.str (Str.join nlS (rowsT ch' cs' ow'))) H'
theorem scSho : FnScope ["stand", "rows", "path"] ["stand"] (defScope sSho) := ⟨rfl, rfl, rfl, by decide +kernel, rfl, by decide +kernel, by decide +kernel⟩
theorem three_len {a b c : Str} (ha : a.length ≤ 10) (hb : b.length ≤ 60) (hc : c.length ≤ 60) : (([a, b, c].map (·.length)).sum + [a, b, c].length * spS.length) ≤ 16777216 := by
  rw [show spS.length = 1 by decide +kernel]
  simp only [List.map_cons, List.map_nil, List.sum_cons, List.sum_nil, List.length_cons, List.length_nil]
  omega
theorem mkS_len {ms : List Int} (h : MkOk ms) : (mkS ms).length ≤ 60 := by
  unfold mkS
  rw [← join_eq]
  refine Nat.le_trans join_len ?_
  have := nums_len h
  have := h.1
  rw [show doS.length = 1 by decide +kernel, List.length_map]
  omega
theorem row3_len {a b c : Str} (ha : a.length ≤ 10) (hb : b.length ≤ 60) (hc : c.length ≤ 60) : (Str.join spS [a, b, c]).length ≤ 133 := by
  show (a ++ spS ++ (b ++ spS ++ c)).length ≤ 133
  simp only [len_app, show spS.length = 1 by decide +kernel]
  omega
theorem rows_len {ch : Ch} {cs : Cs} {ow : Ow} (bd : Bnd ch cs ow) {ch' : Ch} {cs' : Cs} {ow' : Ow} (pm1 : ch'.Perm ch) (pm2 : cs'.Perm cs) (pm3 : ow'.Perm ow) : (rowsT ch' cs' ow').length ≤ 64 + 64 + 64 * 121 ∧ ∀ y ∈ rowsT ch' cs' ow', y.length ≤ 140 := by
  refine ⟨?_, fun y hy => ?_⟩
  · have : ∀ (l : Ow), (∀ e ∈ l, e ∈ ow) → (l.flatMap rowO).length ≤ l.length * 121 := by
      intro l
      induction l with
      | nil => intro _; exact Nat.zero_le _
      | cons e l ih =>
        intro hm
        have h1 := ih fun x hx => hm x (List.mem_cons_of_mem _ hx)
        obtain ⟨_, h2, h3, _⟩ := bd.ow e (hm e List.mem_cons_self)
        rw [List.flatMap_cons, List.length_append, List.length_cons]
        have : (rowO e).length ≤ 121 := by
          unfold rowO
          simp only [List.length_append, List.length_map, List.length_cons, List.length_nil]
          omega
        omega
    have h3 := this ow' fun e he => pm3.mem_iff.mp he
    have a1 := pm1.length_eq
    have a2 := pm2.length_eq
    have a3 := pm3.length_eq
    have b1 := bd.nch
    have b2 := bd.ncs
    have b3 := bd.now
    have h4 : ow'.length * 121 ≤ 64 * 121 := Nat.mul_le_mul_right _ (by omega)
    unfold rowsT
    rw [List.length_append, List.length_append, List.length_map, List.length_map]
    omega
  · unfold rowsT at hy
    rcases List.mem_append.mp hy with hy | hy
    · rcases List.mem_append.mp hy with hy | hy
      · obtain ⟨e, he, rfl⟩ := List.mem_map.mp hy
        obtain ⟨k1, k2⟩ := bd.ch e (pm1.mem_iff.mp he)
        have := row3_len (a := inS) (by decide +kernel) k1 (mkS_len k2)
        unfold rowI
        omega
      · obtain ⟨e, he, rfl⟩ := List.mem_map.mp hy
        obtain ⟨k1, k2⟩ := bd.cs e (pm2.mem_iff.mp he)
        have := row3_len (a := chS) (by decide +kernel) k1 k2
        unfold rowC
        omega
    · obtain ⟨e, he, hy⟩ := List.mem_flatMap.mp hy
      obtain ⟨j1, j2, j3, j4, j5⟩ := bd.ow e (pm3.mem_iff.mp he)
      unfold rowO at hy
      rcases List.mem_append.mp hy with hy | hy
      · rcases List.mem_append.mp hy with hy | hy
        · rw [List.mem_singleton.mp hy, ← ow_app, len_app, show (Str.ofString "own ").length = 4 by decide +kernel]
          omega
        · obtain ⟨x, hx, rfl⟩ := List.mem_map.mp hy
          have := j4 x hx
          show (ltS ++ x).length ≤ 140
          rw [len_app, lt_eq, len_one]
          omega
      · obtain ⟨x, hx, rfl⟩ := List.mem_map.mp hy
        have := j5 x hx
        show (gtS ++ x).length ≤ 140
        rw [len_app, gt_eq, len_one]
        omega
theorem rows_sum {ch : Ch} {cs : Cs} {ow : Ow} (bd : Bnd ch cs ow) {ch' : Ch} {cs' : Cs} {ow' : Ow} (pm1 : ch'.Perm ch) (pm2 : cs'.Perm cs) (pm3 : ow'.Perm ow) : ((rowsT ch' cs' ow').map (·.length)).sum + (rowsT ch' cs' ow').length * nlS.length ≤ 16777216 := by
  obtain ⟨h1, h2⟩ := rows_len bd pm1 pm2 pm3
  have := sum_le h2
  rw [show nlS.length = 1 by decide +kernel]
  omega
theorem okSho {f T fMkS fChR : Addr} {fd fdMkS fdChR : FuncData} (F : Fun K "stand_shown" "stand_shown" sSho f fd) (U : TxtT K mg T) (B : Blt mg) (FMkS : Fun K "make_shown" "make_shown" sMkS fMkS fdMkS) (mMkS : mg "make_shown" = some (.ref fMkS)) (FChR : Fun K "change_rows" "change_rows" sChR fChR fdChR) (mChR : mg "change_rows" = some (.ref fChR)) :
    FnOk P w K mg base CX0 2 f fd ["stand"] (spSho T) := by
  have GMkS : FnOk P w K mg base CX0 1 fMkS fdMkS ["make"] spMkS := okMkS FMkS B
  have bMkS := FMkS.binds (ps := ["make"]) fun _ _ _ _ _ _ us hl => match us, hl with | [_], _ => rfl
  have GChR : FnOk P w K mg base CX0 1 fChR fdChR ["path", "change"] spChR := okChR FChR
  have bChR := FChR.binds (ps := ["path", "change"]) fun _ _ _ _ _ _ us hl => match us, hl with | [_, _], _ => rfl
  refine F.ok scSho (fun vs H Q E h => ?_) (fun cdv A outer s H vs Q E hr h => ?_)
  · obtain ⟨v, ch, cs, ow, rfl, _⟩ := h
    rfl
  · refine letX ?_
    intro xX dX
    obtain ⟨v, ch, cs, ow, rfl, hS, bd, q⟩ := h
    have hu := hr.units
    obtain ⟨a, dx, fl, c, h, o, rfl, ha, f1, f2, f3, ⟨kc, kc1, kc2⟩, ⟨kh, kh1, kh2⟩, ⟨ko, ko1, ko2⟩⟩ := hS
    refine ⟨_, (pss_cons (ps_setComp (i := 1) ["name"] ["stand"] [0] scSho.nd rfl rfl ⟨rfl, by decide +kernel, by decide +kernel, by decide +kernel, by decide +kernel, rfl, rfl, rfl⟩ rfl (pi_list (pe_callB (call_sortedD rfl) (by rfl) B.sorted PyProof.Rows.boot_sorted (pa_cons (pe_fld (pv 0) rfl) pa_nil))) (fun _ _ _ _ => (pg_name (i := 0) (show List.Nodup (["name", "stand"] : List Str) by decide +kernel) rfl (Or.inl rfl))) (fun _ _ _ _ => pts_nil) (fun _ _ _ _ => (pe_bmK K PySem.F.plainAttrs_str PySem.F.slot_str_join PySem.F.type_str_join (mt_joinK K) pe_str (pa_cons (pe_lstN (pa_cons pe_str (pa_cons (pv 0) (pa_cons (pe_call GMkS hr (by rfl) mMkS FMkS.kp bMkS .nil pass0 (pa_cons (pe_dget hu (pe_fldK K (pv 1) rfl) (pv 0) (fun _ _ => rfl)) pa_nil)) pa_nil)))) pa_nil))))
        (pss_cons (ps_expr (pe_bm PySem.F.plainAttrs_list PySem.F.slot_list_extend PySem.F.type_list_extend mt_extend (pv 1) (pa_cons (pe_compF ["common"] ["stand"] [0] ⟨rfl, by decide +kernel, by decide +kernel, by decide +kernel, by decide +kernel, rfl, rfl, rfl⟩ rfl (pi_list (pe_callB (call_sortedD rfl) (by rfl) B.sorted PyProof.Rows.boot_sorted (pa_cons (pe_fld (pv 0) rfl) pa_nil))) (fun _ _ _ _ => (pg_name (i := 0) (show List.Nodup (["common", "stand"] : List Str) by decide +kernel) rfl (Or.inl rfl))) (fun _ _ _ _ => pts_nil) (fun _ _ _ _ => (pe_bmK K PySem.F.plainAttrs_str PySem.F.slot_str_join PySem.F.type_str_join (mt_joinK K) pe_str (pa_cons (pe_lstN (pa_cons pe_str (pa_cons (pv 0) (pa_cons (pe_dget hu (pe_fldK K (pv 1) rfl) (pv 0) (fun _ _ => rfl)) pa_nil)))) pa_nil)))) pa_nil)))
        (pss_cons (ps_for PassesOwn.never rfl (pi_list (pe_callB (call_sortedD rfl) (by rfl) B.sorted PyProof.Rows.boot_sorted (pa_cons (pe_fld (pv 0) rfl) pa_nil))) (pg_name (i := 2) scSho.nd rfl (Or.inl rfl))
          (pss_one (ps_expr (pe_bm PySem.F.plainAttrs_list PySem.F.slot_list_extend PySem.F.type_list_extend mt_extend (pv 1) (pa_cons (pe_call GChR hr (by rfl) mChR FChR.kp bChR .nil pass0 (pa_cons (pv 2) (pa_cons (pe_dget hu (pe_fld (pv 0) rfl) (pv 2) (fun _ _ => rfl)) pa_nil))) pa_nil)))))
        (pss_one (ps_ret (pe_bm PySem.F.plainAttrs_str PySem.F.slot_str_join PySem.F.type_str_join mt_join pe_str (pa_cons (pv 1) pa_nil))))))), ?_⟩
    refine lets4 ?_
    intro dD sS uU4 uU3 uU2
    have hkc : ∀ kv f, ChV H kv f → kv.1 = Sum.inr f.1 := fun kv f z => z.1
    have hkh : ∀ kv f, CsV kv f → kv.1 = Sum.inr f.1 := fun kv f z => z.1
    have hko : ∀ kv f, OwV H kv f → kv.1 = Sum.inr f.1 := fun kv f z => z.1
    have lc := paired_len kc2
    have lh := paired_len kh2
    have lo := paired_len ko2
    have b1 := bd.nch
    have b2 := bd.ncs
    have b3 := bd.now
    refine ⟨_, rfl, a, T, dx, fl, _, rfl, ha, U.cl, U.nC, f1, c, kc, _, rfl, kc1, keysS_of hkc kc2, by omega, fun ys hp hs l1 H1 n1 s1 e1 => ⟨l1, rfl, ⟨_, SqL.of e1⟩, ?_⟩⟩
    obtain ⟨ch', pm1, mp1⟩ := perm_lift hp rfl
    subst mp1
    have y1 : ch'.length = ch.length := pm1.length_eq
    refine comp_mapL (σ0 := [none, some (.ref a)]) (SqL.of e1) (fun σ => ∃ v, σ = [v, some (.ref a)]) ((ch'.map rowI).map V.str) (by rw [List.length_map, List.length_map, List.length_map, List.length_map]) (bigZ (by rw [List.length_map, List.length_map]; omega)) ⟨_, rfl⟩ ?_ ?_
    · intro i z y σ H2 k hz hy hQ hs2 hk
      obtain ⟨v, rfl⟩ := hQ
      rw [List.map_map] at hz hy
      obtain ⟨e, he, rfl⟩ := map_at hz
      obtain ⟨e', he', rfl⟩ := map_at hy
      rw [he] at he'
      cases he'
      have hem : e ∈ ch := pm1.mem_iff.mp (List.mem_of_getElem? he)
      obtain ⟨u, ms, g1, g2, _, m, g4, g3⟩ := paired_val hkc kc2 (List.mem_map_of_mem (f := (·.1)) hem)
      have g4 : u = .ref m := g4
      subst g4
      have em : ms = e.2 := nodup_fun bd.dch g2 (by exact hem)
      subst em
      have s12 := s1.trans hs2
      obtain ⟨k1, k2⟩ := bd.ch e hem
      refine ⟨rfl, _, rfl, _, rfl, a, T, dx, fl, _, rfl, s12 _ _ ha, U.cl, U.nC, f1, _, rfl, c, _, rfl, (by rw [← g1]; exact DGet.k (k := .inr e.1) (s12 _ _ kc1)), ?_⟩
      refine ⟨m, e.2, rfl, s12 _ _ g3, k2, fun H3 s3 => ?_⟩
      refine ⟨(by show 3 ≤ sizeLine; decide), fun r H4 n4 s4 e4 => ?_⟩
      refine ⟨spS, r, [inS, e.1, mkS e.2], rfl, rfl, SqL.of e4, three_len (by decide +kernel) k1 (mkS_len k2), ?_⟩
      have hk' := hk [some (.str e.1), some (.ref a)] H4 ⟨_, rfl⟩ (s3.trans s4)
      rw [join_eq]
      exact hk'
    intro D1 H2 n2 e2 s2
    have s12 := s1.trans s2
    have nD1 : H D1 = none := s1.free n2
    refine ⟨_, rfl, .inl ⟨rfl, _, SqL.of e2⟩, _, rfl, a, T, dx, fl, _, rfl, s12 _ _ ha, U.cl, U.nH, f2, h, kh, _, rfl, s12 _ _ kh1, keysS_of hkh kh2, by omega, fun ys2 hp2 hs2' l2 H3 n3 s3 e3 => ⟨l2, rfl, ⟨_, SqL.of e3⟩, ?_⟩⟩
    obtain ⟨cs', pm2, mp2⟩ := perm_lift hp2 rfl
    subst mp2
    have y2 : cs'.length = cs.length := pm2.length_eq
    have s13 := s12.trans s3
    refine comp_mapL (σ0 := [none, some (.ref a)]) (SqL.of e3) (fun σ => ∃ v, σ = [v, some (.ref a)]) ((cs'.map rowC).map V.str) (by rw [List.length_map, List.length_map, List.length_map, List.length_map]) (bigZ (by rw [List.length_map, List.length_map]; omega)) ⟨_, rfl⟩ ?_ ?_
    · intro i z y σ H4 k hz hy hQ hs4 hk
      obtain ⟨v, rfl⟩ := hQ
      rw [List.map_map] at hz hy
      obtain ⟨e, he, rfl⟩ := map_at hz
      obtain ⟨e', he', rfl⟩ := map_at hy
      rw [he] at he'
      cases he'
      have hem : e ∈ cs := pm2.mem_iff.mp (List.mem_of_getElem? he)
      obtain ⟨u, nm, g1, g2, _, g4⟩ := paired_val hkh kh2 (List.mem_map_of_mem (f := (·.1)) hem)
      have g4 : u = .str nm := g4
      subst g4
      have em : nm = e.2 := nodup_fun bd.dcs g2 (by exact hem)
      subst em
      have s14 := s13.trans hs4
      obtain ⟨k1, k2⟩ := bd.cs e hem
      refine ⟨rfl, _, rfl, _, rfl, a, T, dx, fl, _, rfl, s14 _ _ ha, U.cl, U.nH, f2, _, rfl, h, _, rfl, (by rw [← g1]; exact DGet.k (k := .inr e.1) (s14 _ _ kh1)), ?_⟩
      refine ⟨(by show 3 ≤ sizeLine; decide), fun r H5 n5 s5 e5 => ?_⟩
      refine ⟨spS, r, [chS, e.1, e.2], rfl, rfl, SqL.of e5, three_len (by decide +kernel) k1 k2, ?_⟩
      have hk' := hk [some (.str e.1), some (.ref a)] H5 ⟨_, rfl⟩ s5
      rw [join_eq]
      exact hk'
    intro D2 H4 n4 e4 s4
    have s14 := s13.trans s4
    refine ⟨D1, D2, _, _, rfl, rfl, s4 _ _ (s3 _ _ e2), e4, bigZ (by simp only [List.length_map]; omega), ?_⟩
    have k5 : ∀ {b : Addr} {z o' : HO}, H b = some z → upd H4 D1 o' b = some z := fun e => keep_upd (s14 _ _ e) (ne_of_none e nD1)
    refine ⟨_, rfl, a, T, dx, fl, _, rfl, k5 ha, U.cl, U.nO, f3, o, ko, _, rfl, k5 ko1, keysS_of hko ko2, by omega, fun ys3 hp3 hs3' l3 H6 n6 s6 e6 => ⟨l3, rfl, ⟨_, SqL.of e6⟩, ?_⟩⟩
    obtain ⟨ow', pm3, mp3⟩ := perm_lift hp3 rfl
    subst mp3
    have y3 : ow'.length = ow.length := pm3.length_eq
    have f6 : H6 D1 = some (.lst ((ch'.map rowI ++ cs'.map rowC).map V.str)) := by
      rw [List.map_append]
      exact s6 _ _ upd_same
    have k6 : ∀ {b : Addr} {z : HO}, H b = some z → H6 b = some z := fun e => s6 _ _ (k5 e)
    have l3D : l3 ≠ D1 := fun z => by
      subst z
      rw [upd_same] at n6
      cases n6
    have rl : ∀ i, ((ow'.take i).flatMap rowO).length ≤ 64 * 121 := fun i => by
      have : ∀ (l : Ow), (∀ e ∈ l, e ∈ ow) → (l.flatMap rowO).length ≤ l.length * 121 := by
        intro l
        induction l with
        | nil => intro _; exact Nat.zero_le _
        | cons e l ih =>
          intro hm
          have h1 := ih fun x hx => hm x (List.mem_cons_of_mem _ hx)
          obtain ⟨_, h2, h3, _⟩ := bd.ow e (hm e List.mem_cons_self)
          rw [List.flatMap_cons, List.length_append, List.length_cons]
          have : (rowO e).length ≤ 121 := by
            unfold rowO
            simp only [List.length_append, List.length_map, List.length_cons, List.length_nil]
            omega
          omega
      refine Nat.le_trans (this _ fun e he => pm3.mem_iff.mp (List.mem_of_mem_take he)) ?_
      rw [List.length_take]
      have : min i ow'.length ≤ 64 := by omega
      exact Nat.mul_le_mul_right _ this
    refine for_list (xs := (ow'.map (·.1)).map V.str) (fun i σ H7 => ∃ u, σ = [some (.ref a), some (.ref D1), u] ∧ (∀ b z, H b = some z → H7 b = some z) ∧ H7 l3 = some (.lst ((ow'.map (·.1)).map V.str)) ∧ H7 D1 = some (.lst ((ch'.map rowI ++ cs'.map rowC ++ (ow'.take i).flatMap rowO).map V.str))) ⟨none, rfl, fun b z e => k6 e, e6, by rw [List.take_zero, List.flatMap_nil, List.append_nil]; exact f6⟩ ?_ ?_ ?_
    · intro i σ H7 hi hQ
      obtain ⟨u, rfl, _, h7, _⟩ := hQ
      exact SqL.of h7
    · intro i z σ H7 hz hQ
      obtain ⟨u, rfl, k7, l7, d7⟩ := hQ
      rw [List.map_map] at hz
      obtain ⟨e, he, rfl⟩ := map_at hz
      have hem : e ∈ ow := pm3.mem_iff.mp (List.mem_of_getElem? he)
      obtain ⟨u2, bm, g1, g2, _, t, q1, q2, g4, g5, g6, g7⟩ := paired_val hko ko2 (List.mem_map_of_mem (f := (·.1)) hem)
      have g4 : u2 = .ref t := g4
      subst g4
      have em : bm = e.2 := nodup_fun bd.dow g2 (by exact hem)
      subst em
      obtain ⟨j1, j2, j3, j4, j5⟩ := bd.ow e hem
      refine ⟨_, rfl, .inl ⟨rfl, _, SqL.of d7⟩, _, rfl, _, rfl, a, T, dx, fl, _, rfl, k7 _ _ ha, U.cl, U.nO, f3, _, rfl, o, _, rfl, (by rw [← g1]; exact DGet.k (k := .inr e.1) (k7 _ _ ko1)), ?_⟩
      refine ⟨e.1, t, q1, q2, e.2.1, e.2.2, rfl, k7 _ _ g5, k7 _ _ g6, k7 _ _ g7, j1, j2, j3, j4, j5, fun r H8 n8 s8 e8 => ?_⟩
      have rl1 := rl i
      refine ⟨D1, r, _, _, rfl, rfl, s8 _ _ d7, e8, bigZ ?_, ?_⟩
      · have : (rowO e).length ≤ 121 := by
          unfold rowO
          simp only [List.length_append, List.length_map, List.length_cons, List.length_nil]
          omega
        rw [List.length_map, List.length_map, List.length_append, List.length_append, List.length_map, List.length_map]
        show _ + (rowO (e.1, (e.2.1, e.2.2))).length ≤ _
        have e0 : (rowO (e.1, (e.2.1, e.2.2))) = rowO e := rfl
        rw [e0]
        omega
      · refine ⟨_, rfl, fun b z hb => keep_upd (s8 _ _ (k7 _ _ hb)) (ne_of_none hb nD1), keep_upd (s8 _ _ l7) l3D, ?_⟩
        rw [upd_same, List.take_add_one, he, ← List.map_append]
        show some (HO.lst (List.map V.str (ch'.map rowI ++ cs'.map rowC ++ (ow'.take i).flatMap rowO ++ rowO e))) = some (HO.lst (List.map V.str (ch'.map rowI ++ cs'.map rowC ++ (ow'.take i ++ [e]).flatMap rowO)))
        rw [List.flatMap_append, List.append_assoc (List.map rowI ch' ++ List.map rowC cs'), List.flatMap_singleton]
    · intro σ H7 hQ
      obtain ⟨u, rfl, k7, l7, d7⟩ := hQ
      rw [List.length_map, List.length_map, List.take_length] at d7
      refine ⟨rfl, _, rfl, nlS, D1, rowsT ch' cs' ow', rfl, rfl, SqL.of d7, ?_, ?_⟩
      · exact rows_sum bd pm1 pm2 pm3
      · rw [join_eq]
        exact q ch' cs' ow' H7 ⟨pm1, hs⟩ ⟨pm2, hs2'⟩ ⟨pm3, hs3'⟩ (fun b z e => k7 b z e)
end
end K35

set_option Elab.async false
set_option linter.all false
set_option maxRecDepth 100000
set_option maxHeartbeats 4000000
namespace K35
open PySem L2 PySem.Spec PyProof.Rows
/-! ### good rows, pure -/
theorem numR_some {p : Str} (h : (numR p).isSome = true) : figB p = true ∧ 0 < p.length ∧ p.length ≤ 10 ∧ (NumText.digitsVal p.cps.toList : Int) ≤ 1000000000 := by
  unfold numR at h
  split at h
  · rename_i h1
    obtain ⟨h2, h3⟩ := Bool.and_eq_true_iff.mp h1
    have h2 := of_decide_eq_true h2
    split at h
    · cases h
    · split at h
      · cases h
      · exact ⟨h3, h2.1, h2.2, by omega⟩
  · cases h
theorem mkB_ok {t : Str} (h : mkB t = true) : (Txt.split t doS).length ≤ 3 ∧ ∀ p ∈ Txt.split t doS, (numR p).isSome = true := by
  unfold mkB at h
  obtain ⟨h1, h2⟩ := Bool.and_eq_true_iff.mp h
  exact ⟨of_decide_eq_true h1, List.all_eq_true.mp h2⟩
theorem mkN_ok {t : Str} (h : mkB t = true) : MkOk (mkN t) := by
  obtain ⟨h1, h2⟩ := mkB_ok h
  refine ⟨by unfold mkN; rw [List.length_map]; exact h1, fun n hn => ?_⟩
  unfold mkN at hn
  obtain ⟨p, hp, rfl⟩ := List.mem_map.mp hn
  exact ⟨Int.natCast_nonneg _, (numR_some (h2 p hp)).2.2.2⟩
theorem good_words {row : Str} (h : goodB row = true) (h1 : Txt.startswith row ltS = false) (h2 : Txt.startswith row gtS = false) :
    (∃ p, Txt.split row spS = [owS, p]) ∨ (∃ n x, Txt.split row spS = [inS, n, x] ∧ mkB x = true) ∨ ∃ n x, Txt.split row spS = [chS, n, x] := by
  unfold goodB at h
  rw [h1, h2, Bool.or_false, if_neg (by decide)] at h
  generalize Txt.split row spS = ws at h
  match ws, h with
  | [w, p], h =>
    have h := of_decide_eq_true (Bool.and_eq_true_iff.mp h).1
    rw [h]
    exact .inl ⟨p, rfl⟩
  | [w, n, x], h =>
    obtain ⟨_, h⟩ := Bool.and_eq_true_iff.mp h
    by_cases hw : w = inS
    · rw [if_pos hw] at h
      rw [hw]
      exact .inr (.inl ⟨n, x, rfl, h⟩)
    · rw [if_neg hw] at h
      have h := of_decide_eq_true (Bool.and_eq_true_iff.mp h).1
      rw [h]
      exact .inr (.inr ⟨n, x, rfl⟩)
/-! ### what is noted, in the heap -/
def OwE (H7 : Hp) (ck : Option Str) (ct cl1 cl2 : Addr) (b m : List Str) (kv : Key × V) (e : Str × (List Str × List Str)) : Prop :=
  kv.1 = .inr e.1 ∧ ((ck = some e.1 ∧ kv.2 = .ref ct ∧ e.2 = (b, m)) ∨ (ck ≠ some e.1 ∧ ∃ t l1 l2, kv.2 = .ref t ∧ H7 t = some (.tup [.ref l1, .ref l2]) ∧ H7 l1 = some (.lst (e.2.1.map V.str)) ∧ H7 l2 = some (.lst (e.2.2.map V.str)) ∧ l1 ≠ cl1 ∧ l1 ≠ cl2 ∧ l2 ≠ cl1 ∧ l2 ≠ cl2))
structure NtAt (H H7 : Hp) (dc dh dO ct cl1 cl2 : Addr) (s : Nt) : Prop where
  old : ∀ b z, H b = some z → H7 b = some z
  nc : H dc = none
  nh : H dh = none
  no : H dO = none
  n1 : H cl1 = none
  n2 : H cl2 = none
  d1 : dc ≠ dh
  d2 : dc ≠ dO
  d3 : dh ≠ dO
  d4 : cl1 ≠ cl2
  ch : ∃ kc, H7 dc = some (.dK kc) ∧ Paired (ChV H7) kc s.ch
  cs : ∃ kh, H7 dh = some (.dK kh) ∧ Paired CsV kh s.cs
  hct : H7 ct = some (.tup [.ref cl1, .ref cl2])
  c1 : H7 cl1 = some (.lst (s.b.map V.str))
  c2 : H7 cl2 = some (.lst (s.m.map V.str))
  ow : ∃ ko, H7 dO = some (.dK ko) ∧ Paired (OwE H7 s.ck ct cl1 cl2 s.b s.m) ko s.ow
  ck : ∀ p, s.ck = some p → p ∈ s.ow.map (·.1)
section
variable {H H7 H8 : Hp} {dc dh dO ct cl1 cl2 : Addr} {s : Nt}
theorem OwE.keep {ck : Option Str} {b m : List Str} {kv : Key × V} {e : Str × (List Str × List Str)} (k : ∀ c z, H7 c = some z → (∀ ks, z ≠ .dK ks) → c ≠ cl1 → c ≠ cl2 → H8 c = some z) (h1 : ∃ xs, H7 cl1 = some (.lst xs)) (h2 : ∃ xs, H7 cl2 = some (.lst xs)) (h : OwE H7 ck ct cl1 cl2 b m kv e) : OwE H8 ck ct cl1 cl2 b m kv e := by
  obtain ⟨a, h⟩ := h
  refine ⟨a, ?_⟩
  rcases h with h | ⟨nk, t, l1, l2, e1, e2, e3, e4, e5, e6, e7, e8⟩
  · exact .inl h
  · obtain ⟨x1, h1⟩ := h1
    obtain ⟨x2, h2⟩ := h2
    exact .inr ⟨nk, t, l1, l2, e1, k _ _ e2 (by intro ks z; cases z) (ne_of e2 h1 (by intro z; cases z)) (ne_of e2 h2 (by intro z; cases z)), k _ _ e3 (by intro ks z; cases z) e5 e6, k _ _ e4 (by intro ks z; cases z) e7 e8, e5, e6, e7, e8⟩
theorem NtAt.same (N : NtAt H H7 dc dh dO ct cl1 cl2 s) (sm : Same H7 H8) : NtAt H H8 dc dh dO ct cl1 cl2 s where
  old := fun b z e => sm _ _ (N.old b z e)
  nc := N.nc
  nh := N.nh
  no := N.no
  n1 := N.n1
  n2 := N.n2
  d1 := N.d1
  d2 := N.d2
  d3 := N.d3
  d4 := N.d4
  ch := let ⟨kc, a, b⟩ := N.ch; ⟨kc, sm _ _ a, paired_mapP b fun _ _ => ChV.same sm⟩
  cs := let ⟨kh, a, b⟩ := N.cs; ⟨kh, sm _ _ a, b⟩
  hct := sm _ _ N.hct
  c1 := sm _ _ N.c1
  c2 := sm _ _ N.c2
  ow := let ⟨ko, a, b⟩ := N.ow; ⟨ko, sm _ _ a, paired_mapP b fun _ _ => OwE.keep (fun _ _ e _ _ _ => sm _ _ e) ⟨_, N.c1⟩ ⟨_, N.c2⟩⟩
  ck := N.ck
theorem NtAt.inn (N : NtAt H H7 dc dh dO ct cl1 cl2 s) {kc : List (Key × V)} (hc : H7 dc = some (.dK kc)) {n : Str} {ms : List Int} {m : Addr} (hm : H7 m = some (.tup (ms.map V.int))) :
    NtAt H (upd H7 dc (.dK (putK kc (.inr n) (.ref m)))) dc dh dO ct cl1 cl2 { s with ch := putP s.ch n ms } := by
  have up : ∀ c z, H7 c = some z → (∀ ks, z ≠ .dK ks) → upd H7 dc (.dK (putK kc (.inr n) (.ref m))) c = some z := fun c z e hz => keep_upd e (ne_of e hc (hz _))
  obtain ⟨kc', a1, a2⟩ := N.ch
  rw [hc] at a1
  cases a1
  obtain ⟨kh, b1, b2⟩ := N.cs
  obtain ⟨ko, o1, o2⟩ := N.ow
  exact {
    old := fun b z e => keep_upd (N.old b z e) (ne_of_none e N.nc)
    nc := N.nc, nh := N.nh, no := N.no, n1 := N.n1, n2 := N.n2, d1 := N.d1, d2 := N.d2, d3 := N.d3, d4 := N.d4
    ch := ⟨_, upd_same, paired_mapP (paired_put (F := ChV H7) (fun kv f z => z.1) (x := n) (ls := ms) (v := .ref m) ⟨rfl, m, rfl, hm⟩ a2) fun kv f ⟨x1, x2, x3, x4⟩ => ⟨x1, x2, x3, up _ _ x4 (by intro ks z; cases z)⟩⟩
    cs := ⟨kh, keep_upd b1 N.d1.symm, b2⟩
    hct := up _ _ N.hct (by intro ks z; cases z)
    c1 := up _ _ N.c1 (by intro ks z; cases z)
    c2 := up _ _ N.c2 (by intro ks z; cases z)
    ow := ⟨ko, keep_upd o1 N.d2.symm, paired_mapP o2 fun _ _ => OwE.keep (fun c z e hz _ _ => up c z e hz) ⟨_, N.c1⟩ ⟨_, N.c2⟩⟩
    ck := N.ck }
theorem NtAt.cho (N : NtAt H H7 dc dh dO ct cl1 cl2 s) {kh : List (Key × V)} (hh : H7 dh = some (.dK kh)) {c n : Str} :
    NtAt H (upd H7 dh (.dK (putK kh (.inr c) (.str n)))) dc dh dO ct cl1 cl2 { s with cs := putP s.cs c n } := by
  have up : ∀ b z, H7 b = some z → (∀ ks, z ≠ .dK ks) → upd H7 dh (.dK (putK kh (.inr c) (.str n))) b = some z := fun b z e hz => keep_upd e (ne_of e hh (hz _))
  obtain ⟨kc, a1, a2⟩ := N.ch
  obtain ⟨kh', b1, b2⟩ := N.cs
  rw [hh] at b1
  cases b1
  obtain ⟨ko, o1, o2⟩ := N.ow
  exact {
    old := fun b z e => keep_upd (N.old b z e) (ne_of_none e N.nh)
    nc := N.nc, nh := N.nh, no := N.no, n1 := N.n1, n2 := N.n2, d1 := N.d1, d2 := N.d2, d3 := N.d3, d4 := N.d4
    ch := ⟨kc, keep_upd a1 N.d1, paired_mapP a2 fun kv f ⟨x1, x2, x3, x4⟩ => ⟨x1, x2, x3, up _ _ x4 (by intro ks z; cases z)⟩⟩
    cs := ⟨_, upd_same, paired_put (F := CsV) (fun kv f z => z.1) (x := c) (ls := n) (v := .str n) ⟨rfl, rfl⟩ b2⟩
    hct := up _ _ N.hct (by intro ks z; cases z)
    c1 := up _ _ N.c1 (by intro ks z; cases z)
    c2 := up _ _ N.c2 (by intro ks z; cases z)
    ow := ⟨ko, keep_upd o1 N.d3.symm, paired_mapP o2 fun _ _ => OwE.keep (fun c z e hz _ _ => up c z e hz) ⟨_, N.c1⟩ ⟨_, N.c2⟩⟩
    ck := N.ck }
theorem putC_paired {ck : Option Str} {b m b' m' : List Str} {ko : List (Key × V)} {ow : Ow} (hc : ∀ p, ck = some p → p ∈ ow.map (·.1)) (k : ∀ c z, H7 c = some z → c ≠ cl1 → c ≠ cl2 → H8 c = some z) (h1 : ∃ xs, H7 cl1 = some (.lst xs)) (h2 : ∃ xs, H7 cl2 = some (.lst xs))
    (h : Paired (OwE H7 ck ct cl1 cl2 b m) ko ow) : Paired (OwE H8 ck ct cl1 cl2 b' m') ko (putC ow ck (b', m')) ∧ (putC ow ck (b', m')).map (·.1) = ow.map (·.1) := by
  obtain ⟨x1, h1⟩ := h1
  obtain ⟨x2, h2⟩ := h2
  have keep2 : ∀ {t l1 l2 : Addr} {e : List Str × List Str}, H7 t = some (.tup [.ref l1, .ref l2]) ∧ H7 l1 = some (.lst (e.1.map V.str)) ∧ H7 l2 = some (.lst (e.2.map V.str)) ∧ l1 ≠ cl1 ∧ l1 ≠ cl2 ∧ l2 ≠ cl1 ∧ l2 ≠ cl2 → H8 t = some (.tup [.ref l1, .ref l2]) ∧ H8 l1 = some (.lst (e.1.map V.str)) ∧ H8 l2 = some (.lst (e.2.map V.str)) ∧ l1 ≠ cl1 ∧ l1 ≠ cl2 ∧ l2 ≠ cl1 ∧ l2 ≠ cl2 := by
    rintro t l1 l2 e ⟨e2, e3, e4, e5, e6, e7, e8⟩
    exact ⟨k _ _ e2 (ne_of e2 h1 (by intro z; cases z)) (ne_of e2 h2 (by intro z; cases z)), k _ _ e3 e5 e6, k _ _ e4 e7 e8, e5, e6, e7, e8⟩
  cases ck with
  | none =>
    refine ⟨paired_mapP h fun kv e z => ?_, rfl⟩
    obtain ⟨a, z⟩ := z
    rcases z with ⟨z, _⟩ | ⟨nk, t, l1, l2, e1, z⟩
    · cases z
    · exact ⟨a, .inr ⟨nk, t, l1, l2, e1, keep2 z⟩⟩
  | some p =>
    have hp := hc p rfl
    have e0 : putC ow (some p) (b', m') = ow.map fun f => if f.1 = p then (f.1, (b', m')) else f := if_pos (any_key.mpr hp)
    refine ⟨?_, ?_⟩
    · rw [e0]
      clear e0 hp hc
      induction h with
      | nil => exact .nil
      | @cons kv e ko ow r t ih =>
        refine .cons ?_ ih
        obtain ⟨a, z⟩ := r
        dsimp only
        by_cases ep : e.1 = p
        · rw [if_pos ep]
          rcases z with ⟨z1, z2, z3⟩ | ⟨nk, _⟩
          · exact ⟨a, .inl ⟨by rw [ep], z2, rfl⟩⟩
          · exact absurd (by rw [ep]) nk
        · rw [if_neg ep]
          rcases z with ⟨z1, z2, z3⟩ | ⟨nk, t, l1, l2, e1, z⟩
          · exact absurd (Option.some.inj z1).symm ep
          · exact ⟨a, .inr ⟨nk, t, l1, l2, e1, keep2 z⟩⟩
    · rw [e0, List.map_map]
      refine List.map_congr_left fun f _ => ?_
      show (if f.1 = p then (f.1, (b', m')) else f).1 = f.1
      split <;> rfl
theorem NtAt.les (N : NtAt H H7 dc dh dO ct cl1 cl2 s) (x : Str) : NtAt H (upd H7 cl1 (.lst (s.b.map V.str ++ [.str x]))) dc dh dO ct cl1 cl2 { s with ow := putC s.ow s.ck (s.b ++ [x], s.m), b := s.b ++ [x] } := by
  have up : ∀ c z, H7 c = some z → c ≠ cl1 → upd H7 cl1 (.lst (s.b.map V.str ++ [.str x])) c = some z := fun c z e hc => keep_upd e hc
  have nl : ∀ {c : Addr} {z : HO}, H7 c = some z → (∀ xs, z ≠ .lst xs) → c ≠ cl1 := fun e hz => ne_of e N.c1 (hz _)
  obtain ⟨kc, a1, a2⟩ := N.ch
  obtain ⟨kh, b1, b2⟩ := N.cs
  obtain ⟨ko, o1, o2⟩ := N.ow
  obtain ⟨p1, p2⟩ := putC_paired (H8 := upd H7 cl1 (.lst (s.b.map V.str ++ [.str x]))) (b' := s.b ++ [x]) (m' := s.m) N.ck (fun c z e h1 _ => up c z e h1) ⟨_, N.c1⟩ ⟨_, N.c2⟩ o2
  exact {
    old := fun b z e => keep_upd (N.old b z e) (ne_of_none e N.n1)
    nc := N.nc, nh := N.nh, no := N.no, n1 := N.n1, n2 := N.n2, d1 := N.d1, d2 := N.d2, d3 := N.d3, d4 := N.d4
    ch := ⟨kc, up _ _ a1 (nl a1 (by intro xs z; cases z)), paired_mapP a2 fun kv f ⟨x1, x2, x3, x4⟩ => ⟨x1, x2, x3, up _ _ x4 (nl x4 (by intro xs z; cases z))⟩⟩
    cs := ⟨kh, up _ _ b1 (nl b1 (by intro xs z; cases z)), b2⟩
    hct := up _ _ N.hct (nl N.hct (by intro xs z; cases z))
    c1 := by rw [upd_same, strs_snoc]
    c2 := up _ _ N.c2 N.d4.symm
    ow := ⟨ko, up _ _ o1 (nl o1 (by intro xs z; cases z)), p1⟩
    ck := fun p hp => by
      show p ∈ (putC s.ow s.ck (s.b ++ [x], s.m)).map (·.1)
      rw [p2]
      exact N.ck p hp }
theorem NtAt.mor (N : NtAt H H7 dc dh dO ct cl1 cl2 s) (x : Str) : NtAt H (upd H7 cl2 (.lst (s.m.map V.str ++ [.str x]))) dc dh dO ct cl1 cl2 { s with ow := putC s.ow s.ck (s.b, s.m ++ [x]), m := s.m ++ [x] } := by
  have up : ∀ c z, H7 c = some z → c ≠ cl2 → upd H7 cl2 (.lst (s.m.map V.str ++ [.str x])) c = some z := fun c z e hc => keep_upd e hc
  have nl : ∀ {c : Addr} {z : HO}, H7 c = some z → (∀ xs, z ≠ .lst xs) → c ≠ cl2 := fun e hz => ne_of e N.c2 (hz _)
  obtain ⟨kc, a1, a2⟩ := N.ch
  obtain ⟨kh, b1, b2⟩ := N.cs
  obtain ⟨ko, o1, o2⟩ := N.ow
  obtain ⟨p1, p2⟩ := putC_paired (H8 := upd H7 cl2 (.lst (s.m.map V.str ++ [.str x]))) (b' := s.b) (m' := s.m ++ [x]) N.ck (fun c z e _ h1 => up c z e h1) ⟨_, N.c1⟩ ⟨_, N.c2⟩ o2
  exact {
    old := fun b z e => keep_upd (N.old b z e) (ne_of_none e N.n2)
    nc := N.nc, nh := N.nh, no := N.no, n1 := N.n1, n2 := N.n2, d1 := N.d1, d2 := N.d2, d3 := N.d3, d4 := N.d4
    ch := ⟨kc, up _ _ a1 (nl a1 (by intro xs z; cases z)), paired_mapP a2 fun kv f ⟨x1, x2, x3, x4⟩ => ⟨x1, x2, x3, up _ _ x4 (nl x4 (by intro xs z; cases z))⟩⟩
    cs := ⟨kh, up _ _ b1 (nl b1 (by intro xs z; cases z)), b2⟩
    hct := up _ _ N.hct (nl N.hct (by intro xs z; cases z))
    c1 := up _ _ N.c1 N.d4
    c2 := by rw [upd_same, strs_snoc]
    ow := ⟨ko, up _ _ o1 (nl o1 (by intro xs z; cases z)), p1⟩
    ck := fun p hp => by
      show p ∈ (putC s.ow s.ck (s.b, s.m ++ [x])).map (·.1)
      rw [p2]
      exact N.ck p hp }
theorem paired_putG {β : Type} {G F : Key × V → Str × β → Prop} (hk : ∀ kv f, G kv f → kv.1 = Sum.inr f.1) {x : Str} {ls : β} {v : V} (hv : F (.inr x, v) (x, ls)) (hg : ∀ kv f, G kv f → f.1 ≠ x → F kv f) {kvs : List (Key × V)} {tr : List (Str × β)} (h : Paired G kvs tr) : Paired F (putK kvs (.inr x) v) (putP tr x ls) := by
  have h' : Paired (fun kv f => kv.1 = Sum.inr f.1 ∧ (f.1 ≠ x → F kv f)) kvs tr := paired_mapP h fun kv f z => ⟨hk kv f z, hg kv f z⟩
  have := paired_put (F := fun kv f => kv.1 = Sum.inr f.1 ∧ (f.1 ≠ x → F kv f)) (fun kv f z => z.1) (x := x) (ls := ls) (v := v) ⟨rfl, fun z => absurd rfl z⟩ h'
  -- the entry at x is the new one
  have e : (kvs.any fun kv => decide (kv.1 = Sum.inr x)) = (tr.any fun f => decide (f.1 = x)) := by
    clear this
    induction h' with
    | nil => rfl
    | cons r t ih =>
      cases h with
      | cons _ t0 =>
      rw [List.any_cons, List.any_cons, ih t0, r.1]
      congr 1
      exact decide_eq_decide.mpr ⟨fun z => Sum.inr.inj z, fun z => by rw [z]⟩
  clear this
  unfold putK putP
  rw [e]
  split
  · rename_i hh
    clear hh e h
    induction h' with
    | nil => exact .nil
    | @cons kv f kvs tr r t ih =>
      refine .cons ?_ ih
      have hr := r.1
      dsimp only
      by_cases hx : f.1 = x
      · have hkx : kv.1 = Sum.inr x := by rw [hr, hx]
        rw [if_pos hkx, if_pos hx, hkx, hx]
        exact hv
      · rw [if_neg (fun z => hx (Sum.inr.inj (hr.symm.trans z))), if_neg hx]
        exact r.2 hx
  · rename_i hh
    refine paired_snoc hv ?_
    have hn : x ∉ tr.map (·.1) := fun z => hh (any_key.mpr z)
    clear hh e h
    induction h' with
    | nil => exact .nil
    | @cons kv f kvs tr r t ih =>
      rw [List.map_cons, List.mem_cons, not_or] at hn
      exact .cons (r.2 fun z => hn.1 z.symm) (ih hn.2)
theorem NtAt.own (N : NtAt H H7 dc dh dO ct cl1 cl2 s) {ct' q1 q2 : Addr} (sm : Same H7 H8) (f1 : H7 q1 = none) (f2 : H7 q2 = none) (ne : q1 ≠ q2) (g1 : H8 q1 = some (.lst [])) (g2 : H8 q2 = some (.lst [])) (g3 : H8 ct' = some (.tup [.ref q1, .ref q2])) {ko : List (Key × V)} (ho : H8 dO = some (.dK ko)) (p : Str) :
    NtAt H (upd H8 dO (.dK (putK ko (.inr p) (.ref ct')))) dc dh dO ct' q1 q2 { s with ow := putP s.ow p ([], []), ck := some p, b := [], m := [] } := by
  have fr : ∀ b, H7 b = none → H b = none := fun b e => by
    cases hb : H b with
    | none => rfl
    | some z => rw [N.old b z hb] at e; cases e
  have up : ∀ c z, H8 c = some z → (∀ ks, z ≠ .dK ks) → upd H8 dO (.dK (putK ko (.inr p) (.ref ct'))) c = some z := fun c z e hz => keep_upd e (ne_of e ho (hz _))
  obtain ⟨kc, a1, a2⟩ := N.ch
  obtain ⟨kh, b1, b2⟩ := N.cs
  obtain ⟨ko', o1, o2⟩ := N.ow
  have o1' := sm _ _ o1
  rw [ho] at o1'
  cases o1'
  exact {
    old := fun b z e => keep_upd (sm _ _ (N.old b z e)) (ne_of_none e N.no)
    nc := N.nc, nh := N.nh, no := N.no, n1 := fr _ f1, n2 := fr _ f2, d1 := N.d1, d2 := N.d2, d3 := N.d3, d4 := ne
    ch := ⟨kc, keep_upd (sm _ _ a1) N.d2, paired_mapP a2 fun kv f ⟨x1, x2, x3, x4⟩ => ⟨x1, x2, x3, up _ _ (sm _ _ x4) (by intro ks z; cases z)⟩⟩
    cs := ⟨kh, keep_upd (sm _ _ b1) N.d3, b2⟩
    hct := up _ _ g3 (by intro ks z; cases z)
    c1 := up _ _ g1 (by intro ks z; cases z)
    c2 := up _ _ g2 (by intro ks z; cases z)
    ow := ⟨_, upd_same, paired_putG (G := OwE H7 s.ck ct cl1 cl2 s.b s.m) (fun kv f z => z.1) ⟨rfl, .inl ⟨rfl, rfl, rfl⟩⟩ (fun kv f z hf => by
      obtain ⟨z1, z⟩ := z
      have lne : ∀ {l : Addr} {xs : List V}, H7 l = some (.lst xs) → l ≠ q1 ∧ l ≠ q2 := fun e => ⟨ne_of_none e f1, ne_of_none e f2⟩
      rcases z with ⟨z2, z3, z4⟩ | ⟨nk, t, l1, l2, e1, e2, e3, e4, e5, e6, e7, e8⟩
      · refine ⟨z1, .inr ⟨fun y => hf (Option.some.inj y).symm, ct, cl1, cl2, z3, up _ _ (sm _ _ N.hct) (by intro ks z; cases z), ?_, ?_, (lne N.c1).1, (lne N.c1).2, (lne N.c2).1, (lne N.c2).2⟩⟩
        · rw [z4]; exact up _ _ (sm _ _ N.c1) (by intro ks z; cases z)
        · rw [z4]; exact up _ _ (sm _ _ N.c2) (by intro ks z; cases z)
      · exact ⟨z1, .inr ⟨fun y => hf (Option.some.inj y).symm, t, l1, l2, e1, up _ _ (sm _ _ e2) (by intro ks z; cases z), up _ _ (sm _ _ e3) (by intro ks z; cases z), up _ _ (sm _ _ e4) (by intro ks z; cases z), (lne e3).1, (lne e3).2, (lne e4).1, (lne e4).2⟩⟩) o2⟩
    ck := fun p' hp' => by
      cases hp'
      exact putP_key (.inl rfl) }
theorem NtAt.own_at (N : NtAt H H7 dc dh dO ct cl1 cl2 s) : OwnAt H7 dO s.ow := by
  obtain ⟨ko, o1, o2⟩ := N.ow
  refine ⟨ko, o1, paired_mapP o2 fun kv e z => ?_⟩
  obtain ⟨z1, z⟩ := z
  rcases z with ⟨z2, z3, z4⟩ | ⟨nk, t, l1, l2, e1, e2, e3, e4, _⟩
  · refine ⟨z1, ct, cl1, cl2, z3, N.hct, ?_, ?_⟩
    · rw [z4]; exact N.c1
    · rw [z4]; exact N.c2
  · exact ⟨z1, t, l1, l2, e1, e2, e3, e4⟩
end
/-! ### tables stay tables -/
theorem step_nodup {s : Nt} (h : (s.ch.map (·.1)).Nodup ∧ (s.cs.map (·.1)).Nodup ∧ (s.ow.map (·.1)).Nodup) (row : Str) : ((s.step row).ch.map (·.1)).Nodup ∧ ((s.step row).cs.map (·.1)).Nodup ∧ ((s.step row).ow.map (·.1)).Nodup := by
  have pc : ∀ r, ((putC s.ow s.ck r).map (·.1)).Nodup := fun r => by
    unfold putC
    split
    · exact h.2.2
    · exact putP_nodup h.2.2
  unfold Nt.step
  split
  · exact ⟨h.1, h.2.1, pc _⟩
  · exact ⟨h.1, h.2.1, pc _⟩
  · exact ⟨putP_nodup h.1, h.2⟩
  · exact ⟨h.1, putP_nodup h.2.1, h.2.2⟩
  · exact ⟨h.1, h.2.1, putP_nodup h.2.2⟩
theorem noted_nodup (rows : List Str) : ((noted rows).ch.map (·.1)).Nodup ∧ ((noted rows).cs.map (·.1)).Nodup ∧ ((noted rows).ow.map (·.1)).Nodup := by
  have : ∀ (rows : List Str) (s : Nt), ((s.ch.map (·.1)).Nodup ∧ (s.cs.map (·.1)).Nodup ∧ (s.ow.map (·.1)).Nodup) → ((rows.foldl Nt.step s).ch.map (·.1)).Nodup ∧ ((rows.foldl Nt.step s).cs.map (·.1)).Nodup ∧ ((rows.foldl Nt.step s).ow.map (·.1)).Nodup := by
    intro rows
    induction rows with
    | nil => exact fun s h => h
    | cons r rows ih => exact fun s h => ih _ (step_nodup h r)
  exact this rows {} ⟨List.nodup_nil, List.nodup_nil, List.nodup_nil⟩
theorem step_len (s : Nt) (row : Str) : (s.step row).ch.length ≤ s.ch.length + 1 ∧ (s.step row).cs.length ≤ s.cs.length + 1 ∧ (s.step row).ow.length ≤ s.ow.length + 1 ∧ (s.step row).b.length ≤ s.b.length + 1 ∧ (s.step row).m.length ≤ s.m.length + 1 := by
  have pc : ∀ r, (putC s.ow s.ck r).length ≤ s.ow.length + 1 := fun r => by
    unfold putC
    split
    · omega
    · exact putP_len _ _ _
  unfold Nt.step
  split
  · exact ⟨by dsimp only; omega, by dsimp only; omega, pc _, by simp, by dsimp only; omega⟩
  · exact ⟨by dsimp only; omega, by dsimp only; omega, pc _, by dsimp only; omega, by simp⟩
  · exact ⟨putP_len _ _ _, by dsimp only; omega, by dsimp only; omega, by dsimp only; omega, by dsimp only; omega⟩
  · exact ⟨by dsimp only; omega, putP_len _ _ _, by dsimp only; omega, by dsimp only; omega, by dsimp only; omega⟩
  · exact ⟨by dsimp only; omega, by dsimp only; omega, putP_len _ _ _, by simp, by simp⟩
theorem noted_len (rows : List Str) : (noted rows).ch.length ≤ rows.length ∧ (noted rows).cs.length ≤ rows.length ∧ (noted rows).ow.length ≤ rows.length ∧ (noted rows).b.length ≤ rows.length ∧ (noted rows).m.length ≤ rows.length := by
  have : ∀ (rows : List Str) (s : Nt), (rows.foldl Nt.step s).ch.length ≤ s.ch.length + rows.length ∧ (rows.foldl Nt.step s).cs.length ≤ s.cs.length + rows.length ∧ (rows.foldl Nt.step s).ow.length ≤ s.ow.length + rows.length ∧ (rows.foldl Nt.step s).b.length ≤ s.b.length + rows.length ∧ (rows.foldl Nt.step s).m.length ≤ s.m.length + rows.length := by
    intro rows
    induction rows with
    | nil => exact fun s => ⟨Nat.le_refl _, Nat.le_refl _, Nat.le_refl _, Nat.le_refl _, Nat.le_refl _⟩
    | cons r rows ih =>
      intro s
      obtain ⟨a1, a2, a3, a4, a5⟩ := ih (s.step r)
      obtain ⟨b1, b2, b3, b4, b5⟩ := step_len s r
      rw [List.foldl_cons, List.length_cons]
      exact ⟨by omega, by omega, by omega, by omega, by omega⟩
  have h := this rows {}
  simp only [List.length_nil, Nat.zero_add] at h
  exact h
theorem noted_snoc (rows : List Str) (r : Str) : noted (rows ++ [r]) = (noted rows).step r := by
  unfold noted
  rw [List.foldl_append]
  rfl
end K35

set_option Elab.async false
set_option linter.all false
set_option maxRecDepth 100000
set_option maxHeartbeats 4000000
namespace K35
open PySem L2 PySem.Spec PyProof.Rows
section
variable {P : Program} {w : World} {K : PySem.W.Frag} {mg : Str → Option Value} {base : Heap}
theorem str_dec {x y : Str} {b : Bool} (h : decide (V.str x = V.str y) = b) : decide (x = y) = b := by
  rw [← h]
  exact decide_eq_decide.mpr ⟨fun z => by rw [z], fun z => V.str.inj z⟩
def spIsG : Sp := fun vs H Q _ => ∃ x : Str, vs = [.str x] ∧ x.length ≤ 70000 ∧ ∀ H', Same H H' → Q (.bl (goodB x)) H'
theorem scIsG : FnScope ["row", "words"] ["row"] (defScope sIsG) := ⟨rfl, rfl, rfl, by decide +kernel, rfl, by decide +kernel, by decide +kernel⟩
theorem okIsG {f fIsL fIsP fIsN fMkR : Addr} {fd fdIsL fdIsP fdIsN fdMkR : FuncData} (F : Fun K "is_good" "is_good" sIsG f fd) (B : Blt mg)
    (FIsL : Fun K "is_line" "is_line" sIsL fIsL fdIsL) (mIsL : mg "is_line" = some (.ref fIsL)) (GIsL : FnOk P w K mg base CX0 2 fIsL fdIsL ["text"] spIsL)
    (FIsP : Fun K "is_path" "is_path" sIsP fIsP fdIsP) (mIsP : mg "is_path" = some (.ref fIsP)) (GIsP : FnOk P w K mg base CX0 2 fIsP fdIsP ["text"] spIsP)
    (FIsN : Fun K "is_name" "is_name" sIsN fIsN fdIsN) (mIsN : mg "is_name" = some (.ref fIsN)) (GIsN : FnOk P w K mg base CX0 1 fIsN fdIsN ["text"] spIsN)
    (FMkR : Fun K "make_read" "make_read" sMkR fMkR fdMkR) (mMkR : mg "make_read" = some (.ref fMkR)) (GMkR : FnOk P w K mg base CX0 3 fMkR fdMkR ["text"] spMkR) : FnOk P w K mg base CX0 4 f fd ["row"] spIsG := by
  have bIsL := FIsL.binds (ps := ["text"]) fun _ _ _ _ _ _ us hl => match us, hl with | [_], _ => rfl
  have bIsP := FIsP.binds (ps := ["text"]) fun _ _ _ _ _ _ us hl => match us, hl with | [_], _ => rfl
  have bIsN := FIsN.binds (ps := ["text"]) fun _ _ _ _ _ _ us hl => match us, hl with | [_], _ => rfl
  have bMkR := FMkR.binds (ps := ["text"]) fun _ _ _ _ _ _ us hl => match us, hl with | [_], _ => rfl
  refine F.ok scIsG (fun vs H Q E h => ?_) (fun cdv A outer s H vs Q E hr h => ?_)
  · obtain ⟨x, rfl, _⟩ := h
    rfl
  · refine letX ?_
    intro xX dX
    obtain ⟨x, rfl, hx, q⟩ := h
    have hr2 := hr.mono (j := 2) (by decide)
    have hr1 := hr.mono (j := 1) (by decide)
    refine ⟨_, (pss_cons (ps_if (PW.pt (pw_or (pt_val (pe_bm PySem.F.plainAttrs_str PySem.F.slot_str_startswith PySem.F.type_str_startswith mt_starts (pv 0) (pa_cons pe_str pa_nil))) (pw_or1 (pt_val (pe_bm PySem.F.plainAttrs_str PySem.F.slot_str_startswith PySem.F.type_str_startswith mt_starts (pv 0) (pa_cons pe_str pa_nil))))))
        (pss_one (ps_ret (pe_call GIsL hr2 rfl mIsL FIsL.kp bIsL .nil pass0 (pa_cons (pe_slice sl_str (pv 0) (po_some pe_int) po_none) pa_nil)))) pss_nil)
        (pss_cons (ps_set (i := 1) scIsG.nd rfl (Or.inl rfl) (pe_bm PySem.F.plainAttrs_str PySem.F.slot_str_split PySem.F.type_str_split mt_split (pv 0) (pa_cons pe_str pa_nil)))
        (pss_cons (ps_if (pt_cmpR op_eq (pe_ix ix_list (pv 1) pe_int (fun _ _ => rfl)) pe_str (nomark _))
        (pss_one (ps_ret (pe_and (pe_cmpR op_eq (pe_callB call_len_seq (by rfl) B.len PySem.boot_len (pa_cons (pv 1) pa_nil)) pe_int (nomark _)) (pe_one (pe_call GIsP hr2 rfl mIsP FIsP.kp bIsP .nil pass0 (pa_cons (pe_ix ix_list (pv 1) pe_int (fun _ _ => rfl)) pa_nil)))))) pss_nil)
        (pss_cons (ps_if (PW.pt (pw_or (pt_cmpR op_ne (pe_callB call_len_seq (by rfl) B.len PySem.boot_len (pa_cons (pv 1) pa_nil)) pe_int (nomark _)) (pw_or1 (pt_not (pt_val (pe_call GIsN hr1 rfl mIsN FIsN.kp bIsN .nil pass0 (pa_cons (pe_ix ix_list (pv 1) pe_int (fun _ _ => rfl)) pa_nil)))))))
        (pss_one (ps_ret pe_bl)) pss_nil)
        (pss_cons (ps_if (pt_cmpR op_eq (pe_ix ix_list (pv 1) pe_int (fun _ _ => rfl)) pe_str (nomark _))
        (pss_one (ps_ret (pe_cmpR op_notN (pe_call GMkR hr rfl mMkR FMkR.kp bMkR .nil pass0 (pa_cons (pe_ix ix_list (pv 1) pe_int (fun _ _ => rfl)) pa_nil)) pe_non (nomark _)))) pss_nil)
        (pss_one (ps_ret (pe_and (pe_cmpR op_eq (pe_ix ix_list (pv 1) pe_int (fun _ _ => rfl)) pe_str (nomark _)) (pe_one (pe_call GIsN hr1 rfl mIsN FIsN.kp bIsN .nil pass0 (pa_cons (pe_ix ix_list (pv 1) pe_int (fun _ _ => rfl)) pa_nil))))))))))), ?_⟩
    have line : (Txt.startswith x ltS || Txt.startswith x gtS) = true → ∀ H', Same H H' → Q (.bl (lineB (Txt.slice x (some 1) none))) H' := fun h H' s' => by
      have := q H' s'
      unfold goodB at this
      rw [if_pos h] at this
      exact this
    have sl := Txt.slice_le x (some 1) none
    refine ⟨_, rfl, rfl, x, ltS, rfl, rfl, _, rfl, ?_⟩
    refine ite2 (fun h1 => ?_) (fun h1 => ?_)
    · refine ite2 (fun _ => ?_) (fun z => absurd rfl z)
      exact ⟨_, rfl, _, rfl, _, rfl, bigZ (by omega), _, rfl, by omega, fun H' s' => line (by rw [h1]; rfl) H' s'⟩
    refine ⟨_, rfl, rfl, x, gtS, rfl, rfl, _, rfl, ?_⟩
    refine ite2 (fun h2 => ?_) (fun h2 => ?_)
    · exact ⟨_, rfl, _, rfl, _, rfl, bigZ (by omega), _, rfl, by omega, fun H' s' => line (by rw [h2, Bool.or_true]) H' s'⟩
    have e1 : Txt.startswith x ltS = false := Bool.eq_false_iff.mpr h1
    have e2 : Txt.startswith x gtS = false := Bool.eq_false_iff.mpr h2
    have eg : goodB x = match Txt.split x spS with
      | [w, p] => decide (w = owS) && pathB p
      | [w, n, x] => !decide (w = owS) && nameB n && (if w = inS then mkB x else decide (w = chS) && nameB x)
      | _ => false := by
      unfold goodB
      rw [e1, e2, Bool.or_false, if_neg (by decide)]
      all_goals (generalize Txt.split x spS = ws; rcases ws with _ | ⟨a, _ | ⟨b, _ | ⟨c, _ | ⟨d, r⟩⟩⟩⟩ <;> rfl)
    refine ⟨_, rfl, rfl, x, spS, rfl, rfl, by decide +kernel, bigZ (by omega), fun l H1 n1 s1 a1 => ?_⟩
    have pl : ∀ p ∈ Txt.split x spS, p.length ≤ x.length := fun p hp => part_len hp
    have q1 : ∀ b H', goodB x = b → Same H1 H' → Q (.bl b) H' := fun b H' e s' => by
      have := q H' (s1.trans s')
      rw [e] at this
      exact this
    obtain ⟨w0, r0, hw⟩ : ∃ w0 r0, Txt.split x spS = w0 :: r0 := by
      cases e : Txt.split x spS with
      | nil => exact absurd e (split_ne _ _)
      | cons a r => exact ⟨a, r, rfl⟩
    rw [hw] at a1 pl eg
    have z0 : atI ((w0 :: r0).map V.str) 0 = some (V.str w0) := atI_nat (j := 0) rfl
    refine ⟨_, rfl, l, _, _, _, rfl, rfl, SqL.of a1, z0, rfl, _, rfl, ?_⟩
    refine ite2 (fun h3 => ?_) (fun h3 => ?_)
    · have ew : w0 = owS := of_decide_eq_true (str_dec h3)
      subst ew
      refine ⟨_, rfl, l, _, rfl, .inl (SqL.of a1), rfl, _, rfl, ?_⟩
      refine ite2 (fun h4 => ?_) (fun h4 => ?_)
      · match r0, h4 with
        | [p], h4 =>
          have z1 : atI (([owS, p]).map V.str) 1 = some (V.str p) := rfl
          refine ⟨_, rfl, l, _, _, _, rfl, rfl, SqL.of a1, z1, p, rfl, ?_, fun H2 s2 => q1 _ H2 (eg.trans ?_) s2⟩
          · have := pl p (List.mem_cons_of_mem _ List.mem_cons_self)
            omega
          · show (decide (owS = owS) && pathB p) = _
            rw [decide_eq_true rfl, Bool.true_and]
        | [], h4 => exact absurd h4 (by decide)
        | _ :: _ :: r, h4 =>
          have h4 := V.int.inj (of_decide_eq_true h4)
          rw [List.length_map, List.length_cons, List.length_cons, List.length_cons] at h4
          omega
      · refine q1 false H1 (eg.trans ?_) (Same.refl _)
        match r0, h4 with
        | [p], h4 => exact absurd rfl h4
        | [], h4 => rfl
        | [n, y], h4 =>
          show (!decide (owS = owS) && nameB n && _) = false
          rw [decide_eq_true rfl]
          rfl
        | _ :: _ :: _ :: r, h4 => rfl
    have nw : w0 ≠ owS := fun z => h3 (by rw [z]; exact decide_eq_true rfl)
    refine ⟨_, rfl, l, _, rfl, .inl (SqL.of a1), rfl, _, rfl, ?_⟩
    refine ite2 (fun h4 => ?_) (fun h4 => ?_)
    · refine ite2 (fun _ => ?_) (fun z => absurd rfl z)
      refine q1 false H1 (eg.trans ?_) (Same.refl _)
      match r0, h4 with
      | [n, y], h4 => exact absurd h4 (show ¬ ((!decide (V.int 3 = V.int 3)) = true) by decide)
      | [], h4 => rfl
      | [p], h4 =>
        show (decide (w0 = owS) && pathB p) = false
        rw [decide_eq_false nw, Bool.false_and]
      | _ :: _ :: _ :: r, h4 => rfl
    obtain ⟨n, y, rfl⟩ : ∃ n y, r0 = [n, y] := by
      match r0, h4 with
      | [n, y], _ => exact ⟨n, y, rfl⟩
      | [], h4 => exact absurd rfl h4
      | [p], h4 => exact absurd rfl h4
      | a :: b :: c :: r, h4 =>
        refine absurd ?_ h4
        show (!decide (V.int ((((w0 :: a :: b :: c :: r).map V.str).length : Nat) : Int) = V.int 3)) = true
        rw [decide_eq_false (fun z => by
          have z := V.int.inj z
          rw [List.length_map, List.length_cons, List.length_cons, List.length_cons, List.length_cons] at z
          omega)]
        rfl
    have z1 : atI (([w0, n, y]).map V.str) 1 = some (V.str n) := rfl
    have z2 : atI (([w0, n, y]).map V.str) 2 = some (V.str y) := rfl
    have ln := pl n (List.mem_cons_of_mem _ List.mem_cons_self)
    have ly := pl y (List.mem_cons_of_mem _ (List.mem_cons_of_mem _ List.mem_cons_self))
    have eg : goodB x = (!decide (w0 = owS) && nameB n && (if w0 = inS then mkB y else decide (w0 = chS) && nameB y)) := eg
    rw [decide_eq_false nw, show (!false) = true from rfl, Bool.true_and] at eg
    refine ⟨_, rfl, l, _, _, _, rfl, rfl, SqL.of a1, z1, n, rfl, by omega, fun H2 s2 => ⟨_, rfl, ?_⟩⟩
    refine ite2 (fun h5 => ?_) (fun h5 => ?_)
    · refine q1 false H2 (eg.trans ?_) s2
      cases e : nameB n with
      | false => rfl
      | true => rw [e] at h5; cases h5
    have en : nameB n = true := by
      cases e : nameB n with
      | true => rfl
      | false => rw [e] at h5; exact absurd rfl h5
    rw [en, Bool.true_and] at eg
    have a2 := s2 _ _ a1
    refine ⟨_, rfl, l, _, _, _, rfl, rfl, SqL.of a2, z0, rfl, _, rfl, ?_⟩
    refine ite2 (fun h6 => ?_) (fun h6 => ?_)
    · have ew : w0 = inS := of_decide_eq_true (str_dec h6)
      rw [if_pos ew] at eg
      refine ⟨_, rfl, l, _, _, _, rfl, rfl, SqL.of a2, z2, y, rfl, by omega, fun h7 H3 s3 => ⟨rfl, ?_⟩, fun h7 p H3 s3 => ⟨rfl, ?_⟩⟩
      · exact q1 false H3 (eg.trans h7) (s2.trans s3)
      · exact q1 true H3 (eg.trans h7) (s2.trans s3)
    · have nw2 : w0 ≠ inS := fun z => h6 (by rw [z]; exact decide_eq_true rfl)
      rw [if_neg nw2] at eg
      refine ⟨_, rfl, l, _, _, _, rfl, rfl, SqL.of a2, z0, rfl, _, rfl, ?_⟩
      refine ite2 (fun h7 => ?_) (fun h7 => ?_)
      · have ew : w0 = chS := of_decide_eq_true (str_dec h7)
        rw [decide_eq_true ew, Bool.true_and] at eg
        exact ⟨_, rfl, l, _, _, _, rfl, rfl, SqL.of a2, z2, y, rfl, by omega, fun H3 s3 => q1 _ H3 eg (s2.trans s3)⟩
      · have nw3 : w0 ≠ chS := fun z => h7 (by rw [z]; exact decide_eq_true rfl)
        rw [decide_eq_false nw3, Bool.false_and] at eg
        exact q1 false H2 eg s2

def spMkN : Sp := fun vs H Q _ => ∃ x : Str, vs = [.str x] ∧ x.length ≤ 70000 ∧ mkB x = true ∧ ∀ p H', H p = none → Same H H' → H' p = some (.tup ((mkN x).map V.int)) → Q (.ref p) H'
theorem scMkN : FnScope ["text"] ["text"] (defScope sMkN) := ⟨rfl, rfl, rfl, by decide +kernel, rfl, by decide +kernel, by decide +kernel⟩
theorem okMkN {f : Addr} {fd : FuncData} (F : Fun K "make_noted" "make_noted" sMkN f fd) (B : Blt mg) : FnOk P w K mg base CX0 1 f fd ["text"] spMkN := by
  refine F.ok scMkN (fun vs H Q E h => ?_) (fun cdv A outer s H vs Q E hr h => ?_)
  · obtain ⟨x, rfl, _⟩ := h
    rfl
  · refine letX ?_
    intro xX dX
    obtain ⟨x, rfl, hx, hb, q⟩ := h
    obtain ⟨m1, m2⟩ := mkB_ok hb
    refine ⟨_, (pss_one (ps_ret (pe_callTy call_tuple_of (by rfl) B.tuple PyProof.Rows.boot_tuple (pa_cons (pe_compF ["part"] [] [] ⟨rfl, by decide +kernel, by decide +kernel, by decide +kernel, by decide +kernel, rfl, rfl, rfl⟩ rfl (pi_list (pe_bm PySem.F.plainAttrs_str PySem.F.slot_str_split PySem.F.type_str_split mt_split (pv 0) (pa_cons pe_str pa_nil))) (fun _ _ _ _ => (pg_name (i := 0) (show List.Nodup (["part"] : List Str) by decide +kernel) rfl (Or.inl rfl))) (fun _ _ _ _ => pts_nil) (fun _ _ _ _ => (pe_callTy call_intT (by rfl) B.int PyProof.Rows.boot_int (pa_cons (pv 0) pa_nil)))) pa_nil)))), ?_⟩
    have hsl := split_le x doS
    refine ⟨_, rfl, rfl, x, doS, rfl, rfl, by decide +kernel, bigZ (by omega), fun l H1 n1 s1 e1 => ⟨l, rfl, ⟨_, SqL.of e1⟩, ?_⟩⟩
    refine comp_mapL (σ0 := [none]) (SqL.of e1) (fun σ => ∃ v, σ = [v]) ((mkN x).map V.int) (by unfold mkN; rw [List.length_map, List.length_map, List.length_map]) (bigZ (by rw [List.length_map]; omega)) ⟨_, rfl⟩ ?_ ?_
    · intro i z y σ H2 k hz hy hQ hs hk
      obtain ⟨v, rfl⟩ := hQ
      obtain ⟨p, hp, rfl⟩ := map_at hz
      unfold mkN at hy
      rw [List.map_map] at hy
      obtain ⟨p', hp', rfl⟩ := map_at hy
      rw [hp] at hp'
      cases hp'
      obtain ⟨g1, g2, g3, _⟩ := numR_some (m2 p (List.mem_of_getElem? hp))
      exact ⟨_, rfl, p, _, rfl, fig_read g1 g2 (by omega), by omega, hk _ _ ⟨_, rfl⟩ (Same.refl _)⟩
    · intro D H2 hD hd hs
      refine ⟨D, _, rfl, .inl ⟨SqL.of hd, fun p hp => ?_⟩⟩
      have s2 := s1.trans hs
      exact q p _ (s2.free hp) (s2.trans (same_upd hp)) upd_same

/-! ### the rows, noted -/
theorem msk_nil (H : Hp) : msk [] H = H := by
  funext b
  unfold msk
  exact if_neg (fun z => nomatch z)
def spNot (T : Addr) : Sp := fun vs H Q _ => ∃ t : Str, vs = [.str t] ∧ t.length ≤ 60000 ∧ (rowsOf t).length ≤ 100 ∧ (∀ r ∈ rowsOf t, goodB r = true) ∧
  ∀ v H', Same H H' → StandAt T H' v (noted (rowsOf t)).ch (noted (rowsOf t)).cs (noted (rowsOf t)).ow → Q v H'
theorem scNot : FnScope ["text", "chosen", "choices", "own", "change", "row", "words"] ["text"] (defScope sNot) := ⟨rfl, rfl, rfl, by decide +kernel, rfl, by decide +kernel, by decide +kernel⟩
theorem rows_short {t r : Str} (h : r ∈ rowsOf t) : r.length ≤ t.length := by
  unfold rowsOf at h
  split at h
  · cases h
  · exact part_len h
theorem okNot {f T fRwO fMkN fTIn : Addr} {fd fdRwO fdMkN fdTIn : FuncData} (F : Fun K "stand_noted" "stand_noted" sNot f fd) (B : Blt mg) (UT : TxtT K mg T) (MT : Mk K T fTIn)
    (FRwO : Fun K "rows_of" "rows_of" sRwO fRwO fdRwO) (mRwO : mg "rows_of" = some (.ref fRwO))
    (FMkN : Fun K "make_noted" "make_noted" sMkN fMkN fdMkN) (mMkN : mg "make_noted" = some (.ref fMkN))
    (FTIn : Fun K "__init__" "Stand.__init__" sTIn fTIn fdTIn) (GTIn : FnOk P w K mg base CX0 2 fTIn fdTIn ["self", "chosen", "choices", "own"] (spTIn T)) : FnOk P w K mg base CX0 4 f fd ["text"] (spNot T) := by
  have GRwO : FnOk P w K mg base CX0 1 fRwO fdRwO ["text"] spRwO := okRwO FRwO
  have bRwO := FRwO.binds (ps := ["text"]) fun _ _ _ _ _ _ us hl => match us, hl with | [_], _ => rfl
  have GMkN : FnOk P w K mg base CX0 1 fMkN fdMkN ["text"] spMkN := okMkN FMkN B
  have bMkN := FMkN.binds (ps := ["text"]) fun _ _ _ _ _ _ us hl => match us, hl with | [_], _ => rfl
  have bTIn := FTIn.binds (ps := ["self", "chosen", "choices", "own"]) fun _ _ _ _ _ _ us hl => match us, hl with | [_, _, _, _], _ => rfl
  refine F.ok scNot (fun vs H Q E h => ?_) (fun cdv A outer s H vs Q E hr h => ?_)
  · obtain ⟨t, rfl, _⟩ := h
    rfl
  · refine letX ?_
    intro xX dX
    obtain ⟨t, rfl, ht, hn, hg, q⟩ := h
    have hu := hr.units
    have hr1 := hr.mono (j := 1) (by decide)
    refine ⟨_, (pss_cons (ps_set (i := 1) scNot.nd rfl (Or.inl rfl) pe_dnewN) (pss_cons (ps_set (i := 2) scNot.nd rfl (Or.inl rfl) pe_dnewN) (pss_cons (ps_set (i := 3) scNot.nd rfl (Or.inl rfl) pe_dnewN) (pss_cons (ps_set (i := 4) scNot.nd rfl (Or.inl rfl) (pe_tupN (pa_cons (pe_lstN pa_nil) (pa_cons (pe_lstN pa_nil) pa_nil))))
        (pss_cons (ps_for PassesOwn.never rfl (pi_list (pe_call GRwO hr1 (by rfl) mRwO FRwO.kp bRwO .nil pass0 (pa_cons (pv 0) pa_nil))) (pg_name (i := 5) scNot.nd rfl (Or.inl rfl))
          (pss_cons (ps_set (i := 6) scNot.nd rfl (Or.inl rfl) (pe_bm PySem.F.plainAttrs_str PySem.F.slot_str_split PySem.F.type_str_split mt_split (pv 5) (pa_cons pe_str pa_nil))) (pss_one (ps_if (pt_val (pe_bm PySem.F.plainAttrs_str PySem.F.slot_str_startswith PySem.F.type_str_startswith mt_starts (pv 5) (pa_cons pe_str pa_nil))) (pss_one (ps_expr (pe_bm PySem.F.plainAttrs_list PySem.F.slot_list_append PySem.F.type_list_append mt_append (pe_ix ix_tup (pv 4) pe_int (fun _ _ => rfl)) (pa_cons (pe_slice sl_str (pv 5) (po_some pe_int) po_none) pa_nil)))) (pss_one (ps_if (pt_val (pe_bm PySem.F.plainAttrs_str PySem.F.slot_str_startswith PySem.F.type_str_startswith mt_starts (pv 5) (pa_cons pe_str pa_nil))) (pss_one (ps_expr (pe_bm PySem.F.plainAttrs_list PySem.F.slot_list_append PySem.F.type_list_append mt_append (pe_ix ix_tup (pv 4) pe_int (fun _ _ => rfl)) (pa_cons (pe_slice sl_str (pv 5) (po_some pe_int) po_none) pa_nil)))) (pss_one (ps_if (pt_cmpR op_eq (pe_ix ix_list (pv 6) pe_int (fun _ _ => rfl)) pe_str (nomark _)) (pss_one (ps_dput hu (pv 1) (pe_ix ix_list (pv 6) pe_int (fun _ _ => rfl)) (pe_call GMkN hr1 (by rfl) mMkN FMkN.kp bMkN .nil pass0 (pa_cons (pe_ix ix_list (pv 6) pe_int (fun _ _ => rfl)) pa_nil)) rfl)) (pss_one (ps_if (pt_cmpR op_eq (pe_ix ix_list (pv 6) pe_int (fun _ _ => rfl)) pe_str (nomark _)) (pss_one (ps_dput hu (pv 2) (pe_ix ix_list (pv 6) pe_int (fun _ _ => rfl)) (pe_ix ix_list (pv 6) pe_int (fun _ _ => rfl)) rfl)) (pss_cons (ps_set (i := 4) scNot.nd rfl (Or.inl rfl) (pe_tupN (pa_cons (pe_lstN pa_nil) (pa_cons (pe_lstN pa_nil) pa_nil)))) (pss_one (ps_dput hu (pv 3) (pe_ix ix_list (pv 6) pe_int (fun _ _ => rfl)) (pv 4) rfl)))))))))))))
        (pss_one (ps_ret (pe_make MT GTIn hr (by rfl) UT.mgC bTIn .nil pass0 (pa_cons (pv 1) (pa_cons (pv 2) (pa_cons (pv 3) pa_nil))))))))))), ?_⟩
    refine lets6 ?_
    intro dD sS uU6 uU5 uU4 uU3 uU2
    refine fun dc H1 n1 s1 e1 dh H2 n2 s2 e2 dO H3 n3 s3 e3 => ?_
    refine ⟨(by show 0 ≤ sizeLine; exact Nat.zero_le _), fun q1 H4 n4 s4 e4 => ⟨(by show 0 ≤ sizeLine; exact Nat.zero_le _), fun q2 H5 n5 s5 e5 => ⟨(by show 2 ≤ sizeLine; decide), fun ct H6 n6 s6 e6 => ?_⟩⟩⟩
    have s15 := s1.trans (s2.trans (s3.trans (s4.trans s5)))
    have N0 : NtAt H H6 dc dh dO ct q1 q2 {} := {
      old := fun b z e => s6 _ _ (s15 _ _ e)
      nc := n1
      nh := s1.free n2
      no := (s1.trans s2).free n3
      n1 := (s1.trans (s2.trans s3)).free n4
      n2 := (s1.trans (s2.trans (s3.trans s4))).free n5
      d1 := ne_of_none e1 n2
      d2 := ne_of_none (s2 _ _ e1) n3
      d3 := ne_of_none e2 n3
      d4 := ne_of_none e4 n5
      ch := ⟨[], s6 _ _ (s5 _ _ (s4 _ _ (s3 _ _ (s2 _ _ e1)))), .nil⟩
      cs := ⟨[], s6 _ _ (s5 _ _ (s4 _ _ (s3 _ _ e2))), .nil⟩
      hct := e6
      c1 := s6 _ _ (s5 _ _ e4)
      c2 := s6 _ _ e5
      ow := ⟨[], s6 _ _ (s5 _ _ (s4 _ _ e3)), .nil⟩
      ck := fun p hp => nomatch hp }
    refine ⟨_, rfl, t, rfl, by omega, fun l H7 n7 s7 e7 => ⟨l, rfl, ⟨_, SqL.of e7⟩, ?_⟩⟩
    refine for_list (xs := (rowsOf t).map V.str) (fun i σ H8 => ∃ ct q1 q2 u v, σ = [some (.str t), some (.ref dc), some (.ref dh), some (.ref dO), some (.ref ct), u, v] ∧ H8 l = some (.lst ((rowsOf t).map V.str)) ∧ l ≠ q1 ∧ l ≠ q2 ∧ NtAt H H8 dc dh dO ct q1 q2 (noted ((rowsOf t).take i)))
      ⟨ct, q1, q2, none, none, rfl, e7, (ne_of_none N0.c1 n7).symm, (ne_of_none N0.c2 n7).symm, N0.same s7⟩ ?_ ?_ ?_
    · intro i σ H8 hi hQ
      obtain ⟨ct, q1, q2, u, v, rfl, h8, _⟩ := hQ
      exact SqL.of h8
    · intro i z σ H8 hz hQ
      refine letG ?_
      intro tT
      obtain ⟨ct, q1, q2, u, v, rfl, h8, m1, m2, N⟩ := hQ
      obtain ⟨r, hr', rfl⟩ := map_at hz
      have hrm := List.mem_of_getElem? hr'
      have hgr := hg r hrm
      have hrl := rows_short hrm
      have es : noted ((rowsOf t).take (i + 1)) = (noted ((rowsOf t).take i)).step r := by rw [take_snoc hr', noted_snoc]
      rw [show dc = dc from rfl] at N
      have hnl := noted_len ((rowsOf t).take i)
      rw [List.length_take] at hnl
      obtain ⟨k1, k2, k3, k4, k5⟩ := hnl
      generalize noted ((rowsOf t).take i) = s0 at N es k1 k2 k3 k4 k5
      have sl := Txt.slice_le r (some 1) none
      refine ⟨_, rfl, rfl, r, spS, rfl, rfl, by decide +kernel, bigZ (by omega), fun wl H9 n9 s9 e9 => ?_⟩
      have N9 := N.same s9
      have h9 := s9 _ _ h8
      have z0 : atI [V.ref q1, V.ref q2] 0 = some (V.ref q1) := rfl
      have z1 : atI [V.ref q1, V.ref q2] 1 = some (V.ref q2) := rfl
      refine ⟨_, rfl, rfl, r, ltS, rfl, rfl, _, rfl, ?_⟩
      refine ite2 (fun h1 => ?_) (fun h1 => ?_)
      · refine ⟨_, rfl, ct, _, _, _, rfl, rfl, SqT.of N9.hct, z0, .inl ⟨rfl, _, SqL.of N9.c1⟩, _, rfl, _, rfl, _, rfl, bigZ (by omega), q1, _, _, rfl, rfl, N9.c1, small1000 (by rw [List.length_map]; omega), ?_⟩
        refine ⟨ct, q1, q2, _, _, rfl, keep_upd h9 m1, m1, m2, ?_⟩
        have e0 : s0.step r = { s0 with ow := putC s0.ow s0.ck (s0.b ++ [Txt.slice r (some 1) none], s0.m), b := s0.b ++ [Txt.slice r (some 1) none] } := by
          unfold Nt.step parse
          rw [if_pos h1]
        rw [es, e0]
        exact N9.les _
      refine ⟨_, rfl, rfl, r, gtS, rfl, rfl, _, rfl, ?_⟩
      refine ite2 (fun h2 => ?_) (fun h2 => ?_)
      · refine ⟨_, rfl, ct, _, _, _, rfl, rfl, SqT.of N9.hct, z1, .inl ⟨rfl, _, SqL.of N9.c2⟩, _, rfl, _, rfl, _, rfl, bigZ (by omega), q2, _, _, rfl, rfl, N9.c2, small1000 (by rw [List.length_map]; omega), ?_⟩
        refine ⟨ct, q1, q2, _, _, rfl, keep_upd h9 m2, m1, m2, ?_⟩
        have e0 : s0.step r = { s0 with ow := putC s0.ow s0.ck (s0.b, s0.m ++ [Txt.slice r (some 1) none]), m := s0.m ++ [Txt.slice r (some 1) none] } := by
          unfold Nt.step parse
          rw [if_neg h1, if_pos h2]
        rw [es, e0]
        exact N9.mor _
      have pr : parse r = if (Txt.split r spS).getD 0 Str.empty = inS then .inn ((Txt.split r spS).getD 1 Str.empty) ((Txt.split r spS).getD 2 Str.empty) else
          if (Txt.split r spS).getD 0 Str.empty = chS then .cho ((Txt.split r spS).getD 1 Str.empty) ((Txt.split r spS).getD 2 Str.empty) else .own ((Txt.split r spS).getD 1 Str.empty) := by
        unfold parse
        rw [if_neg h1, if_neg h2]
      have pl : ∀ p ∈ Txt.split r spS, p.length ≤ r.length := fun p hp => part_len hp
      rcases good_words hgr (Bool.eq_false_iff.mpr h1) (Bool.eq_false_iff.mpr h2) with ⟨p, hw⟩ | ⟨n, x, hw, hmk⟩ | ⟨c, n, hw⟩
      · rw [hw] at e9 pr pl
        have y0 : atI ([owS, p].map V.str) 0 = some (V.str owS) := rfl
        have y1 : atI ([owS, p].map V.str) 1 = some (V.str p) := rfl
        have pr : parse r = .own p := pr.trans ((if_neg ow_in).trans (if_neg ow_ch))
        refine ⟨_, rfl, wl, _, _, _, rfl, rfl, SqL.of e9, y0, rfl, _, rfl, ?_⟩
        refine ite2 (fun h3 => absurd (of_decide_eq_true (str_dec h3)) ow_in) (fun h3 => ?_)
        refine ⟨_, rfl, wl, _, _, _, rfl, rfl, SqL.of e9, y0, rfl, _, rfl, ?_⟩
        refine ite2 (fun h4 => absurd (of_decide_eq_true (str_dec h4)) ow_ch) (fun h4 => ?_)
        refine ⟨(by show 0 ≤ sizeLine; exact Nat.zero_le _), fun p1 Ha na sa ea => ⟨(by show 0 ≤ sizeLine; exact Nat.zero_le _), fun p2 Hb nb sb eb => ⟨(by show 2 ≤ sizeLine; decide), fun p3 Hc nc' sc ec => ?_⟩⟩⟩
        have sac := sa.trans (sb.trans sc)
        obtain ⟨ko, o1, o2⟩ := N9.ow
        have lo := paired_len o2
        refine ⟨_, rfl, _, rfl, _, rfl, wl, _, _, _, rfl, rfl, SqL.of (sac _ _ e9), y1, dO, _, rfl, DPut.k (k := .inr p) (sac _ _ o1) (small1000 (by omega)), ?_⟩
        have d9 : ∃ ks, H9 dO = some (.dK ks) := ⟨_, o1⟩
        have hl : l ≠ dO := ne_of h9 o1 (by intro z; cases z)
        refine ⟨p3, p1, p2, _, _, rfl, keep_upd (sac _ _ h9) hl, ne_of_none h9 na, ne_of_none (sa _ _ h9) nb, ?_⟩
        have e0 : s0.step r = { s0 with ow := putP s0.ow p ([], []), ck := some p, b := [], m := [] } := by
          unfold Nt.step
          rw [pr]
        rw [es, e0]
        exact N9.own sac na (sa.free nb) (ne_of_none ea nb) (sc _ _ (sb _ _ ea)) (sc _ _ eb) ec (sac _ _ o1) p
      · rw [hw] at e9 pr pl
        have y0 : atI ([inS, n, x].map V.str) 0 = some (V.str inS) := rfl
        have y1 : atI ([inS, n, x].map V.str) 1 = some (V.str n) := rfl
        have y2 : atI ([inS, n, x].map V.str) 2 = some (V.str x) := rfl
        have pr : parse r = .inn n x := pr.trans (if_pos rfl)
        have lx := pl x (List.mem_cons_of_mem _ (List.mem_cons_of_mem _ List.mem_cons_self))
        refine ⟨_, rfl, wl, _, _, _, rfl, rfl, SqL.of e9, y0, rfl, _, rfl, ?_⟩
        refine ite2 (fun h3 => ?_) (fun h3 => absurd (decide_eq_true rfl) h3)
        refine ⟨_, rfl, wl, _, _, _, rfl, rfl, SqL.of e9, y2, x, rfl, by omega, hmk, fun m Ha na sa ea => ?_⟩
        have Na := N9.same sa
        obtain ⟨kc, c1, c2⟩ := Na.ch
        have lc := paired_len c2
        refine ⟨_, rfl, _, rfl, wl, _, _, _, rfl, rfl, SqL.of (sa _ _ e9), y1, dc, _, rfl, DPut.k (k := .inr n) c1 (small1000 (by omega)), ?_⟩
        refine ⟨ct, q1, q2, _, _, rfl, keep_upd (sa _ _ h9) (ne_of (sa _ _ h9) c1 (by intro z; cases z)), m1, m2, ?_⟩
        have e0 : s0.step r = { s0 with ch := putP s0.ch n (mkN x) } := by
          unfold Nt.step
          rw [pr]
        rw [es, e0]
        exact Na.inn c1 ea
      · rw [hw] at e9 pr pl
        have y0 : atI ([chS, c, n].map V.str) 0 = some (V.str chS) := rfl
        have y1 : atI ([chS, c, n].map V.str) 1 = some (V.str c) := rfl
        have y2 : atI ([chS, c, n].map V.str) 2 = some (V.str n) := rfl
        have pr : parse r = .cho c n := pr.trans ((if_neg ch_in).trans (if_pos rfl))
        refine ⟨_, rfl, wl, _, _, _, rfl, rfl, SqL.of e9, y0, rfl, _, rfl, ?_⟩
        refine ite2 (fun h3 => absurd (of_decide_eq_true (str_dec h3)) ch_in) (fun h3 => ?_)
        refine ⟨_, rfl, wl, _, _, _, rfl, rfl, SqL.of e9, y0, rfl, _, rfl, ?_⟩
        refine ite2 (fun h4 => ?_) (fun h4 => absurd (decide_eq_true rfl) h4)
        obtain ⟨kh, c1, c2⟩ := N9.cs
        have lh := paired_len c2
        refine ⟨_, rfl, wl, _, _, _, rfl, rfl, SqL.of e9, y2, _, rfl, _, rfl, wl, _, _, _, rfl, rfl, SqL.of e9, y1, dh, _, rfl, DPut.k (k := .inr c) c1 (small1000 (by omega)), ?_⟩
        refine ⟨ct, q1, q2, _, _, rfl, keep_upd h9 (ne_of h9 c1 (by intro z; cases z)), m1, m2, ?_⟩
        have e0 : s0.step r = { s0 with cs := putP s0.cs c n } := by
          unfold Nt.step
          rw [pr]
        rw [es, e0]
        exact N9.cho c1
    · intro σ H8 hQ
      refine letG ?_
      intro tT
      obtain ⟨ct, q1, q2, u, v, rfl, h8, m1, m2, N⟩ := hQ
      rw [List.length_map, List.take_length] at N
      obtain ⟨kc, c1, c2⟩ := N.ch
      obtain ⟨kh, b1, b2⟩ := N.cs
      have nd := noted_nodup (rowsOf t)
      have nl := noted_len (rowsOf t)
      refine ⟨_, rfl, _, rfl, _, rfl, ?_⟩
      refine make_standA (T := T) ⟨kc, c1, c2⟩ ⟨kh, b1, b2⟩ N.own_at nd.2.2 (by omega) fun x H' nx sx hx => ?_
      have := hx [] (fun b hb => nomatch hb)
      rw [msk_nil] at this
      exact q (.ref x) H' (fun b z e => sx _ _ (N.old b z e)) this
end
end K35

set_option Elab.async false
set_option linter.all false
set_option maxRecDepth 100000
set_option maxHeartbeats 4000000
namespace K35
open PySem L2 PySem.Spec PyProof.Rows
/-! ### good rows tell good things -/
theorem nameB_nm {x : Str} (h : nameB x = true) : IsNm x := by
  unfold nameB at h
  obtain ⟨h1, h2⟩ := Bool.and_eq_true_iff.mp h
  have h1 := of_decide_eq_true h1
  refine ⟨h1.1, h1.2, fun c hc => ?_⟩
  have := List.all_eq_true.mp h2 c hc
  rw [a_eq, z_eq, btw_eq] at this
  exact of_decide_eq_true this
theorem lineB_ln {x : Str} (h : lineB x = true) : IsLn x := by
  unfold lineB at h
  obtain ⟨h1, h2⟩ := Bool.and_eq_true_iff.mp h
  refine ⟨of_decide_eq_true h1, fun c hc => ?_⟩
  have := List.all_eq_true.mp h2 c hc
  unfold lsB at this
  rw [sp_eq, ti_eq, btw_eq] at this
  obtain ⟨h3, h4⟩ := Bool.and_eq_true_iff.mp this
  have h3 := of_decide_eq_true h3
  exact ⟨h3.1, h3.2, of_decide_eq_true h4⟩
theorem pathB_pt {x : Str} (h : pathB x = true) : IsPt x := by
  unfold pathB at h
  obtain ⟨h1, h2⟩ := Bool.and_eq_true_iff.mp h
  exact ⟨Txt.split x slS, (StrLaws.join_split x slS).symm, split_pos x slS, of_decide_eq_true h1, fun p hp => nameB_nm (List.all_eq_true.mp h2 p hp)⟩
theorem mkB_mk {t : Str} (h : mkB t = true) : IsMk (mkN t) := by
  obtain ⟨h1, h2⟩ := mkN_ok h
  exact ⟨by unfold mkN; rw [List.length_map]; exact split_pos t doS, h1, h2⟩
theorem good_words2 {row : Str} (h : goodB row = true) (h1 : Txt.startswith row ltS = false) (h2 : Txt.startswith row gtS = false) :
    (∃ p, Txt.split row spS = [owS, p] ∧ pathB p = true) ∨ (∃ n x, Txt.split row spS = [inS, n, x] ∧ nameB n = true ∧ mkB x = true) ∨ ∃ n x, Txt.split row spS = [chS, n, x] ∧ nameB n = true ∧ nameB x = true := by
  unfold goodB at h
  rw [h1, h2, Bool.or_false, if_neg (by decide)] at h
  generalize Txt.split row spS = ws at h
  match ws, h with
  | [w, p], h =>
    obtain ⟨h3, h4⟩ := Bool.and_eq_true_iff.mp h
    rw [of_decide_eq_true h3]
    exact .inl ⟨p, rfl, h4⟩
  | [w, n, x], h =>
    obtain ⟨h3, h⟩ := Bool.and_eq_true_iff.mp h
    obtain ⟨_, hn⟩ := Bool.and_eq_true_iff.mp h3
    by_cases hw : w = inS
    · rw [if_pos hw] at h
      rw [hw]
      exact .inr (.inl ⟨n, x, rfl, hn, h⟩)
    · rw [if_neg hw] at h
      obtain ⟨h5, h6⟩ := Bool.and_eq_true_iff.mp h
      rw [of_decide_eq_true h5]
      exact .inr (.inr ⟨n, x, rfl, hn, h6⟩)
structure NtOk (k : Nat) (s : Nt) : Prop where
  ok : OkS s.ch s.cs s.ow
  b : ∀ x ∈ s.b, IsLn x
  m : ∀ x ∈ s.m, IsLn x
  ck : ∀ p, s.ck = some p → IsPt p
  lb : s.b.length ≤ k
  lm : s.m.length ≤ k
  le : ∀ e ∈ s.ow, e.2.1.length ≤ k ∧ e.2.2.length ≤ k
theorem putC_mem {ow : List (Str × (List Str × List Str))} {ck : Option Str} {r : List Str × List Str} {e : Str × (List Str × List Str)} (h : e ∈ putC ow ck r) : (∃ p, ck = some p ∧ e = (p, r)) ∨ e ∈ ow := by
  unfold putC at h
  split at h
  · exact .inr h
  · rename_i p
    rcases putP_mem h with z | z
    · exact .inl ⟨p, rfl, z⟩
    · exact .inr z
theorem step_ok {k : Nat} {s : Nt} (h : NtOk k s) {row : Str} (hg : goodB row = true) : NtOk (k + 1) (s.step row) := by
  have le' : ∀ e ∈ s.ow, e.2.1.length ≤ k + 1 ∧ e.2.2.length ≤ k + 1 := fun e he => ⟨Nat.le_succ_of_le (h.le e he).1, Nat.le_succ_of_le (h.le e he).2⟩
  have lb := h.lb
  have lm := h.lm
  by_cases h1 : Txt.startswith row ltS = true
  · have hl : IsLn (Txt.slice row (some 1) none) := by
      unfold goodB at hg
      rw [h1, Bool.true_or, if_pos rfl] at hg
      exact lineB_ln hg
    have e : parse row = .les (Txt.slice row (some 1) none) := by
      unfold parse
      rw [if_pos h1]
    have hb : ∀ x ∈ s.b ++ [Txt.slice row (some 1) none], IsLn x := fun x hx => (List.mem_append.mp hx).elim (h.b x) fun z => by rw [List.mem_singleton.mp z]; exact hl
    unfold Nt.step
    rw [e]
    refine ⟨⟨h.ok.ch, h.ok.cs, fun e he => ?_⟩, hb, h.m, h.ck, by simp; omega, Nat.le_succ_of_le lm, fun e he => ?_⟩
    · rcases putC_mem he with ⟨p, hp, rfl⟩ | z
      · exact ⟨h.ck p hp, hb, h.m⟩
      · exact h.ok.ow e z
    · rcases putC_mem he with ⟨p, hp, rfl⟩ | z
      · exact ⟨by simp; omega, Nat.le_succ_of_le lm⟩
      · exact le' e z
  have e1 : Txt.startswith row ltS = false := Bool.eq_false_iff.mpr h1
  by_cases h2 : Txt.startswith row gtS = true
  · have hl : IsLn (Txt.slice row (some 1) none) := by
      unfold goodB at hg
      rw [h2, Bool.or_true, if_pos rfl] at hg
      exact lineB_ln hg
    have e : parse row = .mor (Txt.slice row (some 1) none) := by
      unfold parse
      rw [if_neg h1, if_pos h2]
    have hb : ∀ x ∈ s.m ++ [Txt.slice row (some 1) none], IsLn x := fun x hx => (List.mem_append.mp hx).elim (h.m x) fun z => by rw [List.mem_singleton.mp z]; exact hl
    unfold Nt.step
    rw [e]
    refine ⟨⟨h.ok.ch, h.ok.cs, fun e he => ?_⟩, h.b, hb, h.ck, Nat.le_succ_of_le lb, by simp; omega, fun e he => ?_⟩
    · rcases putC_mem he with ⟨p, hp, rfl⟩ | z
      · exact ⟨h.ck p hp, h.b, hb⟩
      · exact h.ok.ow e z
    · rcases putC_mem he with ⟨p, hp, rfl⟩ | z
      · exact ⟨Nat.le_succ_of_le lb, by simp; omega⟩
      · exact le' e z
  have e2 : Txt.startswith row gtS = false := Bool.eq_false_iff.mpr h2
  have pr : parse row = if (Txt.split row spS).getD 0 Str.empty = inS then .inn ((Txt.split row spS).getD 1 Str.empty) ((Txt.split row spS).getD 2 Str.empty) else
      if (Txt.split row spS).getD 0 Str.empty = chS then .cho ((Txt.split row spS).getD 1 Str.empty) ((Txt.split row spS).getD 2 Str.empty) else .own ((Txt.split row spS).getD 1 Str.empty) := by
    unfold parse
    rw [if_neg h1, if_neg h2]
  rcases good_words2 hg e1 e2 with ⟨p, hw, hp⟩ | ⟨n, x, hw, hn, hm⟩ | ⟨c, n, hw, hc, hn⟩
  · rw [hw] at pr
    have e : parse row = .own p := pr.trans ((if_neg ow_in).trans (if_neg ow_ch))
    unfold Nt.step
    rw [e]
    refine ⟨⟨h.ok.ch, h.ok.cs, fun e he => ?_⟩, (fun _ z => nomatch z), (fun _ z => nomatch z), fun q hq => ?_, Nat.zero_le _, Nat.zero_le _, fun e he => ?_⟩
    · rcases putP_mem he with rfl | z
      · exact ⟨pathB_pt hp, (fun _ z => nomatch z), (fun _ z => nomatch z)⟩
      · exact h.ok.ow e z
    · cases hq
      exact pathB_pt hp
    · rcases putP_mem he with rfl | z
      · exact ⟨Nat.zero_le _, Nat.zero_le _⟩
      · exact le' e z
  · rw [hw] at pr
    have e : parse row = .inn n x := pr.trans (if_pos rfl)
    unfold Nt.step
    rw [e]
    refine ⟨⟨fun e he => ?_, h.ok.cs, h.ok.ow⟩, h.b, h.m, h.ck, Nat.le_succ_of_le lb, Nat.le_succ_of_le lm, le'⟩
    rcases putP_mem he with rfl | z
    · exact ⟨nameB_nm hn, mkB_mk hm⟩
    · exact h.ok.ch e z
  · rw [hw] at pr
    have e : parse row = .cho c n := pr.trans ((if_neg ch_in).trans (if_pos rfl))
    unfold Nt.step
    rw [e]
    refine ⟨⟨h.ok.ch, fun e he => ?_, h.ok.ow⟩, h.b, h.m, h.ck, Nat.le_succ_of_le lb, Nat.le_succ_of_le lm, le'⟩
    rcases putP_mem he with rfl | z
    · exact ⟨nameB_nm hc, nameB_nm hn⟩
    · exact h.ok.cs e z
theorem noted_ok {rows : List Str} (hg : ∀ r ∈ rows, goodB r = true) : NtOk rows.length (noted rows) := by
  have : ∀ (rows : List Str) (k : Nat) (s : Nt), NtOk k s → (∀ r ∈ rows, goodB r = true) → NtOk (k + rows.length) (rows.foldl Nt.step s) := by
    intro rows
    induction rows with
    | nil => exact fun k s h _ => h
    | cons r rows ih =>
      intro k s h hg
      have := ih (k + 1) (s.step r) (step_ok h (hg r List.mem_cons_self)) fun x hx => hg x (List.mem_cons_of_mem _ hx)
      rw [List.foldl_cons, List.length_cons, show k + (rows.length + 1) = k + 1 + rows.length by omega]
      exact this
  have h := this rows 0 {} ⟨⟨(fun _ z => nomatch z), (fun _ z => nomatch z), (fun _ z => nomatch z)⟩, (fun _ z => nomatch z), (fun _ z => nomatch z), (fun _ z => nomatch z), Nat.le_refl _, Nat.le_refl _, (fun _ z => nomatch z)⟩ hg
  rw [Nat.zero_add] at h
  exact h
theorem noted_bnd {rows : List Str} (hg : ∀ r ∈ rows, goodB r = true) (hl : rows.length ≤ 60) : Bnd (noted rows).ch (noted rows).cs (noted rows).ow := by
  have h := noted_ok hg
  obtain ⟨n1, n2, n3⟩ := noted_nodup rows
  obtain ⟨l1, l2, l3, _⟩ := noted_len rows
  refine ⟨by omega, by omega, by omega, n1, n2, n3, fun e he => ⟨?_, (h.ok.ch e he).2.ok⟩, fun e he => ⟨?_, ?_⟩, fun e he => ?_⟩
  · have := (h.ok.ch e he).1.hi; omega
  · have := (h.ok.cs e he).1.hi; omega
  · have := (h.ok.cs e he).2.hi; omega
  · obtain ⟨⟨ps, e1, p1, p2, p3⟩, q1, q2⟩ := h.ok.ow e he
    obtain ⟨k1, k2⟩ := h.le e he
    refine ⟨?_, by omega, by omega, fun x hx => (q1 x hx).hi, fun x hx => (q2 x hx).hi⟩
    rw [e1]
    have := join_short (sep := slS) (b := 8) (fun p hp => (p3 p hp).hi) (by rw [sl_eq]; decide)
    omega
/-! ### what the rows of a stand look like -/
def okp (r s : Str) : Bool := !Txt.startswith s ltS || Txt.startswith r ltS || decide ((Txt.split r spS).getD 0 Str.empty = owS)
def adjR : List Str → Bool
  | [] => true
  | [_] => true
  | x :: y :: r => okp x y && adjR (y :: r)
theorem adjR_at : ∀ {pre post : List Str} {r s : Str}, adjR (pre ++ r :: s :: post) = true → okp r s = true
  | [], post, r, s, h => (Bool.and_eq_true_iff.mp h).1
  | [a], post, r, s, h => adjR_at (pre := []) (Bool.and_eq_true_iff.mp (show (okp a r && adjR (r :: s :: post)) = true from h)).2
  | a :: b :: pre, post, r, s, h => adjR_at (pre := b :: pre) (Bool.and_eq_true_iff.mp (show (okp a b && adjR (b :: pre ++ r :: s :: post)) = true from h)).2
def headN (l : List Str) : Prop := ∀ x r, l = x :: r → Txt.startswith x ltS = false
theorem adj_cons {x : Str} {l : List Str} (h : adjR l = true) (hh : ∀ y r, l = y :: r → okp x y = true) : adjR (x :: l) = true := by
  cases l with
  | nil => rfl
  | cons y r =>
    show (okp x y && adjR (y :: r)) = true
    rw [h, hh y r rfl]
    rfl
theorem okp_non {x y : Str} (h : Txt.startswith y ltS = false) : okp x y = true := by
  unfold okp
  rw [h]
  rfl
theorem adj_non : ∀ {xs l : List Str}, (∀ x ∈ xs, Txt.startswith x ltS = false) → adjR l = true → headN l → adjR (xs ++ l) = true ∧ headN (xs ++ l)
  | [], l, _, h, hh => ⟨h, hh⟩
  | x :: xs, l, hx, h, hh => by
    obtain ⟨h1, h2⟩ := adj_non (fun y hy => hx y (List.mem_cons_of_mem _ hy)) h hh
    refine ⟨adj_cons h1 fun y r e => okp_non (h2 y r e), fun y r e => ?_⟩
    cases e
    exact hx x List.mem_cons_self
theorem lt_starts (x : Str) : Txt.startswith (ltS ++ x) ltS = true := by
  have := starts_cons (lt_cps x) 60
  rw [← lt_eq] at this
  rw [this]; rfl
theorem gt_starts (x : Str) : Txt.startswith (gtS ++ x) gtS = true := by
  have := starts_cons (gt_cps x) 62
  rw [← gt_eq] at this
  rw [this]; rfl
theorem gt_not_lt (x : Str) : Txt.startswith (gtS ++ x) ltS = false := by
  have := starts_cons (gt_cps x) 60
  rw [← lt_eq] at this
  rw [this]; rfl
theorem adj_les : ∀ {b l : List Str}, adjR l = true → headN l → adjR (b.map (ltS ++ ·) ++ l) = true
  | [], l, h, _ => h
  | x :: b, l, h, hh => by
    refine adj_cons (adj_les (b := b) h hh) fun y r e => ?_
    cases b with
    | nil => exact okp_non (hh y r e)
    | cons z b =>
      cases e
      unfold okp
      rw [lt_starts x, Bool.or_true, Bool.true_or]
theorem adj_blk {e : Str × (List Str × List Str)} {l : List Str} (hp : IsPt e.1) (h : adjR l = true) (hh : headN l) : adjR (rowO e ++ l) = true ∧ headN (rowO e ++ l) := by
  obtain ⟨w1, w2, w3⟩ := own_words hp
  obtain ⟨m1, m2⟩ := adj_non (xs := e.2.2.map (gtS ++ ·)) (fun x hx => by obtain ⟨y, _, rfl⟩ := List.mem_map.mp hx; exact gt_not_lt y) h hh
  have l1 := adj_les (b := e.2.1) m1 m2
  have e0 : rowO e ++ l = Str.join spS [owS, e.1] :: (e.2.1.map (ltS ++ ·) ++ (e.2.2.map (gtS ++ ·) ++ l)) := by
    unfold rowO
    simp only [List.append_assoc, List.cons_append, List.nil_append]
  rw [e0]
  refine ⟨adj_cons l1 fun y r _ => ?_, fun y r z => ?_⟩
  · unfold okp
    rw [w1, show decide ([owS, e.1].getD 0 Str.empty = owS) = true from decide_eq_true rfl, Bool.or_true]
  · cases z
    exact w2
theorem inn_words {e : Str × List Int} (h1 : IsNm e.1) (h2 : IsMk e.2) : Txt.startswith (rowI e) ltS = false ∧ Txt.startswith (rowI e) gtS = false := by
  obtain ⟨a, b, c⟩ := words (w := inS) (d := 105) (r := [110]) (by rw [in_eq]) (by decide) (by decide) (free3 (in_no (by decide)) (h1.no (by decide)) (h2.no (by decide)))
  exact ⟨b, c⟩
theorem cho_words {e : Str × Str} (h1 : IsNm e.1) (h2 : IsNm e.2) : Txt.startswith (rowC e) ltS = false ∧ Txt.startswith (rowC e) gtS = false := by
  obtain ⟨a, b, c⟩ := words (w := chS) (d := 99) (r := [104, 111, 111, 115, 101]) (by rw [ch_eq]) (by decide) (by decide) (free3 (ch_no (by decide)) (h1.no (by decide)) (h2.no (by decide)))
  exact ⟨b, c⟩
theorem rows_adj {ch : List (Str × List Int)} {cs : List (Str × Str)} {ow : List (Str × (List Str × List Str))} (ok : OkS ch cs ow) : adjR (rowsT ch cs ow) = true := by
  have h3 : ∀ ow : List (Str × (List Str × List Str)), (∀ e ∈ ow, IsPt e.1) → adjR (ow.flatMap rowO) = true ∧ headN (ow.flatMap rowO) := by
    intro ow
    induction ow with
    | nil => exact fun _ => ⟨rfl, fun x r e => nomatch e⟩
    | cons e ow ih =>
      intro hp
      obtain ⟨a, b⟩ := ih fun x hx => hp x (List.mem_cons_of_mem _ hx)
      rw [List.flatMap_cons]
      exact adj_blk (hp e List.mem_cons_self) a b
  obtain ⟨a, b⟩ := h3 ow fun e he => (ok.ow e he).1
  obtain ⟨c, d⟩ := adj_non (xs := cs.map rowC) (fun x hx => by obtain ⟨e, he, rfl⟩ := List.mem_map.mp hx; exact (cho_words (ok.cs e he).1 (ok.cs e he).2).1) a b
  obtain ⟨f, _⟩ := adj_non (xs := ch.map rowI) (fun x hx => by obtain ⟨e, he, rfl⟩ := List.mem_map.mp hx; exact (inn_words (ok.ch e he).1 (ok.ch e he).2).1) c d
  unfold rowsT
  rw [List.append_assoc]
  exact f
theorem rows_head {ch : List (Str × List Int)} {cs : List (Str × Str)} {ow : List (Str × (List Str × List Str))} (ok : OkS ch cs ow) {x : Str} {r : List Str} (h : rowsT ch cs ow = x :: r) : Txt.startswith x ltS = false ∧ Txt.startswith x gtS = false := by
  cases ch with
  | cons e ch =>
    have : rowI e = x := (List.cons.inj h).1
    rw [← this]
    exact inn_words (ok.ch e List.mem_cons_self).1 (ok.ch e List.mem_cons_self).2
  | nil =>
    cases cs with
    | cons e cs =>
      have : rowC e = x := (List.cons.inj h).1
      rw [← this]
      exact cho_words (ok.cs e List.mem_cons_self).1 (ok.cs e List.mem_cons_self).2
    | nil =>
      cases ow with
      | nil => cases h
      | cons e ow =>
        have : Str.join spS [owS, e.1] = x := (List.cons.inj h).1
        rw [← this]
        obtain ⟨_, b, c⟩ := own_words (ok.ow e List.mem_cons_self).1
        exact ⟨b, c⟩
/-! ### rows that are no lines -/
def nlB (r : Str) : Bool := !(Txt.startswith r ltS || Txt.startswith r gtS)
def keyR (r : Str) : Nat × Str :=
  match parse r with
  | .inn n _ => (0, n)
  | .cho c _ => (1, c)
  | .own p => (2, p)
  | .les _ => (3, Str.empty)
  | .mor _ => (3, Str.empty)
def lessK (a b : Nat × Str) : Bool := decide (a.1 < b.1) || (decide (a.1 = b.1) && decide (a.2.cps.toList < b.2.cps.toList))
def ordB : List (Nat × Str) → Bool
  | [] => true
  | [_] => true
  | x :: y :: r => lessK x y && ordB (y :: r)
theorem ordB_of : ∀ {l : List (Nat × Str)}, l.Pairwise (fun a b => lessK a b = true) → ordB l = true
  | [], _ => rfl
  | [_], _ => rfl
  | x :: y :: r, h => by
    have h := List.pairwise_cons.mp h
    show (lessK x y && ordB (y :: r)) = true
    rw [h.1 y List.mem_cons_self, ordB_of h.2]
    rfl
theorem sorted_lt {l : List Str} (h : sortedS l = true) (nd : l.Nodup) : l.Pairwise (fun a b => a.cps.toList < b.cps.toList) := by
  have p := (sorted_pw h).and nd
  refine p.imp fun {a b} z => ?_
  rcases Classical.em (a.cps.toList < b.cps.toList) with y | y
  · exact y
  · exact absurd (str_ext (List.le_antisymm z.1 (List.not_lt.mp y))) z.2
theorem nl_rows {ch : List (Str × List Int)} {cs : List (Str × Str)} {ow : List (Str × (List Str × List Str))} (ok : OkS ch cs ow) : ((rowsT ch cs ow).filter nlB).map keyR = ch.map (fun e => (0, e.1)) ++ cs.map (fun e => (1, e.1)) ++ ow.map (fun e => (2, e.1)) := by
  have f1 : ∀ ch : List (Str × List Int), (∀ e ∈ ch, IsNm e.1 ∧ IsMk e.2) → ((ch.map rowI).filter nlB).map keyR = ch.map (fun e => (0, e.1)) := by
    intro ch
    induction ch with
    | nil => exact fun _ => rfl
    | cons e ch ih =>
      intro h
      obtain ⟨a, b⟩ := h e List.mem_cons_self
      obtain ⟨c, d⟩ := inn_words a b
      rw [List.map_cons, List.filter_cons, if_pos (by unfold nlB; rw [c, d]; rfl), List.map_cons, ih fun x hx => h x (List.mem_cons_of_mem _ hx), List.map_cons]
      congr 1
      unfold keyR
      rw [parse_inn a b]
  have f2 : ∀ cs : List (Str × Str), (∀ e ∈ cs, IsNm e.1 ∧ IsNm e.2) → ((cs.map rowC).filter nlB).map keyR = cs.map (fun e => (1, e.1)) := by
    intro cs
    induction cs with
    | nil => exact fun _ => rfl
    | cons e cs ih =>
      intro h
      obtain ⟨a, b⟩ := h e List.mem_cons_self
      obtain ⟨c, d⟩ := cho_words a b
      rw [List.map_cons, List.filter_cons, if_pos (by unfold nlB; rw [c, d]; rfl), List.map_cons, ih fun x hx => h x (List.mem_cons_of_mem _ hx), List.map_cons]
      congr 1
      unfold keyR
      rw [parse_cho a b]
  have g1 : ∀ b : List Str, (b.map (ltS ++ ·)).filter nlB = [] := fun b => by
    rw [List.filter_eq_nil_iff]
    intro x hx
    obtain ⟨y, _, rfl⟩ := List.mem_map.mp hx
    unfold nlB
    rw [lt_starts, Bool.true_or]
    decide
  have g2 : ∀ b : List Str, (b.map (gtS ++ ·)).filter nlB = [] := fun b => by
    rw [List.filter_eq_nil_iff]
    intro x hx
    obtain ⟨y, _, rfl⟩ := List.mem_map.mp hx
    unfold nlB
    rw [gt_starts, Bool.or_true]
    decide
  have f3 : ∀ ow : List (Str × (List Str × List Str)), (∀ e ∈ ow, IsPt e.1) → ((ow.flatMap rowO).filter nlB).map keyR = ow.map (fun e => (2, e.1)) := by
    intro ow
    induction ow with
    | nil => exact fun _ => rfl
    | cons e ow ih =>
      intro h
      have a := h e List.mem_cons_self
      obtain ⟨_, c, d⟩ := own_words a
      rw [List.flatMap_cons, List.filter_append, List.map_append, ih fun x hx => h x (List.mem_cons_of_mem _ hx), List.map_cons]
      have : ((rowO e).filter nlB).map keyR = [(2, e.1)] := by
        unfold rowO
        rw [List.filter_append, List.filter_append, g1, g2, List.append_nil, List.append_nil, List.filter_cons, if_pos (by unfold nlB; rw [c, d]; rfl)]
        show [keyR (Str.join spS [owS, e.1])] = _
        unfold keyR
        rw [parse_own a]
      rw [this]
      rfl
  unfold rowsT
  rw [List.filter_append, List.filter_append, List.map_append, List.map_append, f1 ch ok.ch, f2 cs ok.cs, f3 ow fun e he => (ok.ow e he).1]
theorem rows_ord {ch : List (Str × List Int)} {cs : List (Str × Str)} {ow : List (Str × (List Str × List Str))} (ok : OkS ch cs ow) (s1 : sortedS (ch.map (·.1)) = true) (s2 : sortedS (cs.map (·.1)) = true) (s3 : sortedS (ow.map (·.1)) = true) (n1 : (ch.map (·.1)).Nodup) (n2 : (cs.map (·.1)).Nodup) (n3 : (ow.map (·.1)).Nodup) : ordB (((rowsT ch cs ow).filter nlB).map keyR) = true := by
  rw [nl_rows ok]
  have one : ∀ {β : Type} (k : Nat) (l : List (Str × β)), sortedS (l.map (·.1)) = true → (l.map (·.1)).Nodup → (l.map (fun e => (k, e.1))).Pairwise (fun a b => lessK a b = true) := fun k l hs hn => by
    have := sorted_lt hs hn
    rw [List.pairwise_map] at this ⊢
    refine this.imp fun {a b} z => ?_
    unfold lessK
    rw [decide_eq_true (rfl : k = k), decide_eq_true z, Bool.true_and, Bool.or_true]
  have two : ∀ {a b : Nat × Str}, a.1 < b.1 → lessK a b = true := fun h => by
    unfold lessK
    rw [decide_eq_true h, Bool.true_or]
  refine ordB_of (List.pairwise_append.mpr ⟨List.pairwise_append.mpr ⟨one 0 ch s1 n1, one 1 cs s2 n2, fun a ha b hb => ?_⟩, one 2 ow s3 n3, fun a ha b hb => ?_⟩)
  · obtain ⟨x, _, rfl⟩ := List.mem_map.mp ha
    obtain ⟨y, _, rfl⟩ := List.mem_map.mp hb
    exact two (show 0 < 1 by decide)
  · obtain ⟨y, _, rfl⟩ := List.mem_map.mp hb
    rcases List.mem_append.mp ha with ha | ha
    · obtain ⟨x, _, rfl⟩ := List.mem_map.mp ha
      exact two (show 0 < 2 by decide)
    · obtain ⟨x, _, rfl⟩ := List.mem_map.mp ha
      exact two (show 1 < 2 by decide)
/-- rows that no stand shows -/
def Odd (rows : List Str) : Prop := (∃ x r, rows = x :: r ∧ (Txt.startswith x ltS = true ∨ Txt.startswith x gtS = true)) ∨ (∃ pre r s post, rows = pre ++ r :: s :: post ∧ okp r s = false) ∨ ordB ((rows.filter nlB).map keyR) = false
theorem odd_not {rows : List Str} (hg : ∀ r ∈ rows, goodB r = true) (hf : ∀ r ∈ rows, 10 ∉ r.cps.toList ∧ r ≠ Str.empty) (ho : Odd rows) {ch' : List (Str × List Int)} {cs' : List (Str × Str)} {ow' : List (Str × (List Str × List Str))} (r1 : Srt (noted rows).ch ch') (r2 : Srt (noted rows).cs cs') (r3 : Srt (noted rows).ow ow') : Str.join nlS (rowsT ch' cs' ow') ≠ Str.join nlS rows := by
  intro e
  have h := noted_ok hg
  have ok : OkS ch' cs' ow' := ⟨fun e he => h.ok.ch e (r1.pm.mem_iff.mp he), fun e he => h.ok.cs e (r2.pm.mem_iff.mp he), fun e he => h.ok.ow e (r3.pm.mem_iff.mp he)⟩
  obtain ⟨n1, n2, n3⟩ := noted_nodup rows
  have er : rowsT ch' cs' ow' = rows := by
    rw [← rows_back (rows_free ok), e, rows_back hf]
  rcases ho with ⟨x, r, ex, hx⟩ | ⟨pre, r, s, post, ex, hx⟩ | hx
  · obtain ⟨a, b⟩ := rows_head ok (er.trans ex)
    rcases hx with z | z
    · rw [a] at z; cases z
    · rw [b] at z; cases z
  · have := rows_adj ok
    rw [er, ex] at this
    rw [adjR_at this] at hx
    cases hx
  · have := rows_ord ok r1.so r2.so r3.so ((r1.pm.map _).nodup_iff.mpr n1) ((r2.pm.map _).nodup_iff.mpr n2) ((r3.pm.map _).nodup_iff.mpr n3)
    rw [er, hx] at this
    cases this
end K35

set_option Elab.async false
set_option linter.all false
set_option maxRecDepth 100000
set_option maxHeartbeats 4000000
namespace L2
open PySem PySem.Spec
/-- for i, x in enumerate(xs), the list left as it is -/
theorem for_enum {K : PySem.W.Frag} {a : Addr} {xs : List V} {g : TG} {tb : TS} {D : Ends} {σ : St} {H : Hp} (Pv : Nat → St → Hp → Prop) (h0 : Pv 0 σ H) (hl : ∀ i σ H, i ≤ xs.length → Pv i σ H → SqL K H a xs)
    (hs : ∀ i x p σ H, xs[i]? = some x → Pv i σ H → H p = none → g (.ref p) σ (upd H p (.tup [.int i, x])) fun σ2 H2 => tb { D with nx := Pv (i + 1), ct := Pv (i + 1), bk := D.nx } σ2 H2) (hd : ∀ σ H, Pv xs.length σ H → D.nx σ H) :
    ∃ W : Nat → Nat → St → Hp → Prop, (∃ m, W 0 m σ H) ∧ ∀ i m σ H, W i m σ H →
      ((Ite K a).stop i H ∧ D.nx σ H) ∨ ((Ite K a).go i H ∧ ∃ N : St → Hp → Prop, (∀ σ' H', N σ' H' → ∃ m', m' < m ∧ W (i + 1) m' σ' H') ∧ ∀ x H', (Ite K a).yld i H x H' → g x σ H' fun σ2 H2 => tb { D with nx := N, ct := N, bk := D.nx } σ2 H2) := by
  refine ⟨fun i m σ H => m = xs.length - i ∧ i ≤ xs.length ∧ Pv i σ H, ⟨xs.length, by simp, Nat.zero_le _, h0⟩, ?_⟩
  rintro i m σ H ⟨rfl, hi, p⟩
  have q := hl i σ H hi p
  by_cases hlt : i < xs.length
  · refine .inr ⟨⟨xs, xs[i], q, by simp [hlt]⟩, Pv (i + 1), fun σ' H' p' => ⟨xs.length - (i + 1), by omega, rfl, hlt, p'⟩, fun x H' y => ?_⟩
    obtain ⟨b, x', hb, e, rfl, rfl⟩ := y
    exact hs i x' b σ _ (e xs q) p hb
  · have e : i = xs.length := by omega
    subst e
    exact .inl ⟨⟨xs, q, Nat.le_refl _⟩, hd σ H p⟩
/-- a comprehension over the values of a dict, with its end told apart -/
def VAsk (H1 : Hp) (d : Addr) (kvs : List (Key × V)) (σ0 : St) (g : TG) (tt : TT) (te : TE) (Q : VK) : Prop := ∀ ob D, upd H1 d (.frz ob (.dK kvs)) D = none →
  ∃ W : Nat → Nat → St → Hp → Prop, (∃ m, W 0 m σ0 (upd (upd H1 d (.frz ob (.dK kvs))) D (.lst []))) ∧ CompAsk (Itv d kvs ob) g tt te D (fun H' => H' d = some (.frz ob (.dK kvs)) ∧ Q (.ref D) (upd H' d (.dK kvs))) W
def tCompW (td : TE) (n : Nat) (js : List Nat) (g : TG) (tt : TT) (te : TE) : TE := fun σ H Q => td σ H fun x H1 => ∃ d kvs, x = .ref d ∧ H1 d = some (.dK kvs) ∧ VAsk H1 d kvs (compStart n js σ) g tt te Q
theorem pe_compW {X : Cx} {elt tg o : Expr} {ifs : List Expr} {sc : Scope} {pos apos cpos : Pos} (own cap : List Str) (js : List Nat) {td : TE} {g : TG} {tt : TT} {te : TE} (S : CompScopeF X own cap js sc) (hc : X.calm = true) (hi : PE X o td)
    (hg : ∀ s₀ H₀ C ex, PG (cxCompF X (own ++ cap) sc s₀ H₀ C ex) tg g) (ht : ∀ s₀ H₀ C ex, PTs (cxCompF X (own ++ cap) sc s₀ H₀ C ex) ifs tt) (he : ∀ s₀ H₀ C ex, PE (cxCompF X (own ++ cap) sc s₀ H₀ C ex) elt te)
    (hbase : attributeBase o "values" X.env (eval o X.env) = eval o X.env := by rfl) (hline : (apos.endLine == cpos.line) = true := by rfl) (hs : ∀ x, foldedSetIterable (.Call (.Attribute o "values" apos) [] [] cpos) X.env x = pure x := by intro _; rfl) : PE X (.ListComp elt [⟨tg, .Call (.Attribute o "values" apos) [] [] cpos, ifs, 0⟩] sc pos) (tCompW td own.length js g tt te) :=
  pe_compV own cap js S hc hi hg ht he hbase hline hs
theorem comp_mapW {g : TG} {te : TE} {H1 : Hp} {Q : VK} {d : Addr} {kvs : List (Key × V)} {σ0 : St} (hd : H1 d = some (.dK kvs)) (S : St → Prop) (ys : List V) (hl : ys.length = kvs.length) (big : kvs.length ≤ sizeLine) (s0 : S σ0)
    (turn : ∀ (i : Nat) k x y σ H (kk : St → V → Hp → Prop), kvs[i]? = some (k, x) → ys[i]? = some y → S σ → (∀ c vs, H1 c = some (.tup vs) → H c = some (.tup vs)) → (∀ σ3, S σ3 → kk σ3 y H) → g x σ H fun σ3 H3 => te σ3 H3 (kk σ3))
    (done : ∀ D H, H1 D = none → H D = some (.lst ys) → Same H1 H → Q (.ref D) H) : VAsk H1 d kvs σ0 g tTrue te Q :=
  fun ob => comp_mapV (ob := ob) (Q := fun D H => Q (.ref D) H) hd S ys hl big s0 turn done
end L2
namespace K35
open PySem L2 PySem.Spec PyProof.Rows
section
variable {P : Program} {w : World} {K : PySem.W.Frag} {mg : Str → Option Value} {base : Heap}
def LnV (H : Hp) (v : V) (xs : List Str) : Prop := ∃ a, v = .ref a ∧ H a = some (.lst (xs.map V.str))
theorem LnV.same {H H' : Hp} (s : Same H H') {v : V} {xs : List Str} (h : LnV H v xs) : LnV H' v xs := let ⟨a, b, c⟩ := h; ⟨a, b, s _ _ c⟩
theorem paired_app {α β : Type} {F : α → β → Prop} : ∀ {xs xs' : List α} {ys ys' : List β}, Paired F xs ys → Paired F xs' ys' → Paired F (xs ++ xs') (ys ++ ys')
  | _, _, _, _, .nil, h => h
  | _, _, _, _, .cons r t, h => .cons r (paired_app t h)
theorem own_parts {H : Hp} {ko : List (Key × V)} {ow : Ow} (h : Paired (OwV H) ko ow) : ∃ v1 v2 : List V, Paired (LnV H) v1 (ow.map (·.2.1)) ∧ Paired (LnV H) v2 (ow.map (·.2.2)) ∧ v1.length = ko.length ∧ v2.length = ko.length ∧ ∀ (i : Nat) k x y1 y2, ko[i]? = some (k, x) → v1[i]? = some y1 → v2[i]? = some y2 → ∃ t, x = .ref t ∧ H t = some (.tup [y1, y2]) := by
  induction h with
  | nil => exact ⟨[], [], .nil, .nil, rfl, rfl, fun i k x y1 y2 h => nomatch h⟩
  | @cons kv e ko ow r t ih =>
    obtain ⟨v1, v2, p1, p2, l1, l2, g⟩ := ih
    obtain ⟨_, t', a1, a2, e1, e2, e3, e4⟩ := r
    refine ⟨.ref a1 :: v1, .ref a2 :: v2, .cons ⟨a1, rfl, e3⟩ p1, .cons ⟨a2, rfl, e4⟩ p2, by rw [List.length_cons, List.length_cons, l1], by rw [List.length_cons, List.length_cons, l2], fun i k x y1 y2 h h1 h2 => ?_⟩
    cases i with
    | zero =>
      cases h
      cases h1
      cases h2
      exact ⟨t', e1, e2⟩
    | succ i => exact g i k x y1 y2 h h1 h2
def spLiW (T : Addr) : Sp := fun vs H Q _ => ∃ (v : V) (ch : Ch) (cs : Cs) (ow : Ow), vs = [v] ∧ StandAt T H v ch cs ow ∧ ow.length ≤ 100 ∧
  ∀ l H' xs, H l = none → Same H H' → H' l = some (.lst xs) → Paired (LnV H') xs (ow.map (·.2.1) ++ ow.map (·.2.2)) → Q (.ref l) H'
theorem scLiW : FnScope ["stand"] ["stand"] (defScope sLiW) := ⟨rfl, rfl, rfl, by decide +kernel, rfl, by decide +kernel, by decide +kernel⟩
theorem okLiW {f T : Addr} {fd : FuncData} (F : Fun K "lines_within" "lines_within" sLiW f fd) (U : TxtT K mg T) : FnOk P w K mg base CX0 1 f fd ["stand"] (spLiW T) := by
  refine F.ok scLiW (fun vs H Q E h => ?_) (fun cdv A outer s H vs Q E hr h => ?_)
  · obtain ⟨v, ch, cs, ow, rfl, _⟩ := h
    rfl
  · refine letX ?_
    intro xX dX
    obtain ⟨v, ch, cs, ow, rfl, hS, l100, q⟩ := h
    obtain ⟨a, dx, fl, c, h, o, rfl, ha, f1, f2, f3, _, _, ⟨ko, ko1, ko2⟩⟩ := hS
    refine ⟨_, (pss_one (ps_ret (pe_op op_catN
        (pe_compW ["change"] [] [] ⟨rfl, by decide +kernel, by decide +kernel, by decide +kernel, by decide +kernel, rfl, rfl, rfl⟩ rfl (pe_fld (pv 0) rfl) (fun _ _ _ _ => (pg_name (i := 0) (show List.Nodup (["change"] : List Str) by decide +kernel) rfl (Or.inl rfl))) (fun _ _ _ _ => pts_nil) (fun _ _ _ _ => (pe_ix (ix_tupK K) (pv 0) pe_int (fun _ _ => rfl))))
        (pe_compW ["change"] [] [] ⟨rfl, by decide +kernel, by decide +kernel, by decide +kernel, by decide +kernel, rfl, rfl, rfl⟩ rfl (pe_fld (pv 0) rfl) (fun _ _ _ _ => (pg_name (i := 0) (show List.Nodup (["change"] : List Str) by decide +kernel) rfl (Or.inl rfl))) (fun _ _ _ _ => pts_nil) (fun _ _ _ _ => (pe_ix (ix_tupK K) (pv 0) pe_int (fun _ _ => rfl))))))), ?_⟩
    obtain ⟨v1, v2, p1, p2, l1, l2, g⟩ := own_parts ko2
    have lo := paired_len ko2
    refine ⟨_, rfl, a, T, dx, fl, _, rfl, ha, U.cl, U.nO, f3, o, ko, rfl, ko1, ?_⟩
    refine comp_mapW (σ0 := [none]) ko1 (fun σ => ∃ v, σ = [v]) v1 l1 (bigZ (by omega)) ⟨_, rfl⟩ ?_ ?_
    · intro i k x y σ H2 kk hk hy hQ hs hkk
      obtain ⟨v, rfl⟩ := hQ
      have hi : i < v2.length := by rw [l2]; exact (List.getElem?_eq_some_iff.mp hk).1
      obtain ⟨t, rfl, ht⟩ := g i k x y v2[i] hk hy (List.getElem?_eq_getElem hi)
      have z0 : atI [y, v2[i]] 0 = some y := rfl
      exact ⟨_, rfl, t, _, _, _, rfl, rfl, SqT.of (hs _ _ ht), z0, hkk _ ⟨_, rfl⟩⟩
    intro D1 H2 n2 e2 s2
    refine ⟨_, rfl, a, T, dx, fl, _, rfl, s2 _ _ ha, U.cl, U.nO, f3, o, ko, rfl, s2 _ _ ko1, ?_⟩
    refine comp_mapW (σ0 := [none]) (s2 _ _ ko1) (fun σ => ∃ v, σ = [v]) v2 l2 (bigZ (by omega)) ⟨_, rfl⟩ ?_ ?_
    · intro i k x y σ H3 kk hk hy hQ hs hkk
      obtain ⟨v, rfl⟩ := hQ
      have hi : i < v1.length := by rw [l1]; exact (List.getElem?_eq_some_iff.mp hk).1
      obtain ⟨t, rfl, ht⟩ := g i k x v1[i] y hk (List.getElem?_eq_getElem hi) hy
      have z1 : atI [v1[i], y] 1 = some y := rfl
      exact ⟨_, rfl, t, _, _, _, rfl, rfl, SqT.of (hs _ _ (s2 _ _ ht)), z1, hkk _ ⟨_, rfl⟩⟩
    intro D2 H3 n3 e3 s3
    refine ⟨D1, D2, v1, v2, rfl, rfl, s3 _ _ e2, e3, bigZ (by omega), fun l H4 n4 s4 e4 => ?_⟩
    have s14 := s2.trans (s3.trans s4)
    exact q l H4 _ ((s2.trans s3).free n4) s14 e4 (paired_app (paired_mapP p1 fun _ _ => LnV.same s14) (paired_mapP p2 fun _ _ => LnV.same s14))

/-! ### a stand read, or refused -/
def Okp (rows : List Str) : Prop := ∀ r ∈ rows, goodB r = true
def Few (rows : List Str) : Prop := ∀ e ∈ (noted rows).ow, e.2.1.length ≤ 20 ∧ e.2.2.length ≤ 20
def Shown (rows : List Str) (t : Str) : Prop := ∀ ch' cs' ow', Srt (noted rows).ch ch' → Srt (noted rows).cs cs' → Srt (noted rows).ow ow' → Str.join nlS (rowsT ch' cs' ow') = t
def Unlike (rows : List Str) (t : Str) : Prop := ∀ ch' cs' ow', Srt (noted rows).ch ch' → Srt (noted rows).cs cs' → Srt (noted rows).ow ow' → Str.join nlS (rowsT ch' cs' ow') ≠ t
/-- why a text is no stand -/
def Bad (t : Str) : Prop := (∃ r ∈ rowsOf t, goodB r = false) ∨ (Okp (rowsOf t) ∧ ¬ Few (rowsOf t)) ∨ (Okp (rowsOf t) ∧ Few (rowsOf t) ∧ Unlike (rowsOf t) t)
def spRdS (T NS : Addr) : Sp := fun vs H Q E => ∃ t : Str, vs = [.str t] ∧ t.length ≤ 50000 ∧ (rowsOf t).length ≤ 60 ∧
  ((Bad t ∧ ∀ H', Same H H' → E (.ref NS) none H') ∨ (Okp (rowsOf t) ∧ Few (rowsOf t) ∧ Shown (rowsOf t) t ∧ ∀ v H', Same H H' → StandAt T H' v (noted (rowsOf t)).ch (noted (rowsOf t)).cs (noted (rowsOf t)).ow → Q v H'))
theorem scRdS : FnScope ["text", "number", "row", "stand"] ["text"] (defScope sRdS) := ⟨rfl, rfl, rfl, by decide +kernel, rfl, by decide +kernel, by decide +kernel⟩
theorem str_le {n : Int} (h0 : 0 ≤ n) (h1 : n ≤ 1000000000) : (Str.ofString (toString n)).length ≤ 20000 := Nat.le_trans (num_len h0 h1).2 (by decide)
theorem okRdS {f T NS fRwO fIsG fNot fLiW fSho : Addr} {fd fdRwO fdIsG fdNot fdLiW fdSho : FuncData} (F : Fun K "read_stand" "read_stand" sRdS f fd) (B : Blt mg) (C : Cst mg) (UT : TxtT K mg T) (xc : XCls K NS) (mN : mg "NoStand" = some (.ref NS))
    (FRwO : Fun K "rows_of" "rows_of" sRwO fRwO fdRwO) (mRwO : mg "rows_of" = some (.ref fRwO))
    (FIsG : Fun K "is_good" "is_good" sIsG fIsG fdIsG) (mIsG : mg "is_good" = some (.ref fIsG)) (GIsG : FnOk P w K mg base CX0 4 fIsG fdIsG ["row"] spIsG)
    (FNot : Fun K "stand_noted" "stand_noted" sNot fNot fdNot) (mNot : mg "stand_noted" = some (.ref fNot)) (GNot : FnOk P w K mg base CX0 4 fNot fdNot ["text"] (spNot T))
    (FLiW : Fun K "lines_within" "lines_within" sLiW fLiW fdLiW) (mLiW : mg "lines_within" = some (.ref fLiW))
    (FSho : Fun K "stand_shown" "stand_shown" sSho fSho fdSho) (mSho : mg "stand_shown" = some (.ref fSho)) (GSho : FnOk P w K mg base CX0 2 fSho fdSho ["stand"] (spSho T)) : FnOk P w K mg base (CXR P w) 5 f fd ["text"] (spRdS T NS) := by
  have GRwO : FnOk P w K mg base CX0 1 fRwO fdRwO ["text"] spRwO := okRwO FRwO
  have bRwO := FRwO.binds (ps := ["text"]) fun _ _ _ _ _ _ us hl => match us, hl with | [_], _ => rfl
  have bIsG := FIsG.binds (ps := ["row"]) fun _ _ _ _ _ _ us hl => match us, hl with | [_], _ => rfl
  have bNot := FNot.binds (ps := ["text"]) fun _ _ _ _ _ _ us hl => match us, hl with | [_], _ => rfl
  have GLiW : FnOk P w K mg base CX0 1 fLiW fdLiW ["stand"] (spLiW T) := okLiW FLiW UT
  have bLiW := FLiW.binds (ps := ["stand"]) fun _ _ _ _ _ _ us hl => match us, hl with | [_], _ => rfl
  have bSho := FSho.binds (ps := ["stand"]) fun _ _ _ _ _ _ us hl => match us, hl with | [_], _ => rfl
  obtain ⟨t20, h20⟩ := C.li20
  refine F.okR scRdS (fun vs H Q E h => ?_) (fun cdv A outer s H vs Q E hr h => ?_)
  · obtain ⟨t, rfl, _⟩ := h
    rfl
  · obtain ⟨t, rfl, ht, hn, q⟩ := h
    have hr1 := hr.mono (j := 1) (by decide)
    have hr2 := hr.mono (j := 2) (by decide)
    refine ⟨_, (pss_cons (ps_for PassesOwn.leaving rfl (pi_enum (by rfl) B.enumerate (pa_cons (pe_call GRwO hr1 rfl mRwO FRwO.kp bRwO .nil pass0 (pa_cons (pv 0) pa_nil)) pa_nil)) (pg_tup rfl (pgs_cons (pg_name (i := 1) scRdS.nd rfl (Or.inl rfl)) (pgs_cons (pg_name (i := 2) scRdS.nd rfl (Or.inl rfl)) pgs_nil)))
          (pss_one (ps_if (pt_not (pt_val (pe_call GIsG hr rfl mIsG FIsG.kp bIsG .nil pass0 (pa_cons (pv 2) pa_nil)))) (pss_one (ps_raise xc mN (pe_join3 pe_str (pe_fmtI (pv 1)) pe_str))) pss_nil)))
        (pss_cons (ps_set (i := 3) scRdS.nd rfl (Or.inl rfl) (pe_call GNot hr rfl mNot FNot.kp bNot .nil pass0 (pa_cons (pv 0) pa_nil)))
        (pss_cons (ps_if (pt_not (pt_val (pe_callB (call_all K) (by rfl) B.all PyProof.Rows.boot_all (pa_cons (pe_compF ["lines"] [] [] ⟨rfl, by decide +kernel, by decide +kernel, by decide +kernel, by decide +kernel, rfl, rfl, rfl⟩ rfl (pi_list (pe_call GLiW hr1 rfl mLiW FLiW.kp bLiW .nil pass0 (pa_cons (pv 3) pa_nil))) (fun _ _ _ _ => (pg_name (i := 0) (show List.Nodup (["lines"] : List Str) by decide +kernel) rfl (Or.inl rfl))) (fun _ _ _ _ => pts_nil) (fun _ _ _ _ => (pe_cmpR op_le (pe_callB (call_lenK K) (by rfl) B.len PySem.boot_len (pa_cons (pv 0) pa_nil)) (pe_glob (v := .int 20) (by rfl) h20 ⟨_, rfl⟩) (nomark _)))) pa_nil)))) (pss_one (ps_raise xc mN pe_str)) pss_nil)
        (pss_cons (ps_if (pt_cmpR op_ne (pe_call GSho hr2 rfl mSho FSho.kp bSho .nil pass0 (pa_cons (pv 3) pa_nil)) (pv 0) (nomark _)) (pss_one (ps_raise xc mN pe_str)) pss_nil)
        (pss_one (ps_ret (pv 3))))))), ?_⟩
    refine ⟨_, rfl, t, rfl, by omega, fun l H1 n1 s1 e1 => ⟨l, rfl, ⟨_, SqL.of e1⟩, ?_⟩⟩
    -- what is not good is refused
    have bad : ∀ r ∈ rowsOf t, goodB r = false → ∀ H', Same H H' → E (.ref NS) none H' := fun r hm hb => by
      rcases q with ⟨_, qe⟩ | ⟨ok, _⟩
      · exact qe
      · rw [ok r hm] at hb
        cases hb
    refine for_enum (xs := (rowsOf t).map V.str) (fun i σ H2 => ∃ u v, σ = [some (.str t), u, v, none] ∧ Same H1 H2 ∧ ∀ r ∈ (rowsOf t).take i, goodB r = true) ⟨none, none, rfl, Same.refl _, fun _ z => by rw [List.take_zero] at z; cases z⟩ ?_ ?_ ?_
    · intro i σ H2 hi hQ
      obtain ⟨u, v, rfl, s2, _⟩ := hQ
      exact SqL.of (s2 _ _ e1)
    · intro i z p σ H2 hz hQ hp
      obtain ⟨u, v, rfl, s2, g2⟩ := hQ
      obtain ⟨r, hr', rfl⟩ := map_at hz
      have hrm := List.mem_of_getElem? hr'
      have hrl := rows_short hrm
      have hi : i < (rowsOf t).length := (List.getElem?_eq_some_iff.mp hr').1
      have sp : Same H2 (upd H2 p (.tup [.int i, .str r])) := same_upd hp
      refine ⟨p, _, rfl, SqT.of upd_same, rfl, _, _, rfl, _, _, rfl, rfl, ?_⟩
      refine ⟨_, rfl, r, rfl, by omega, fun H3 s3 => ⟨_, rfl, ?_⟩⟩
      refine ite2 (fun h1 => ?_) (fun h1 => ?_)
      · have hb : goodB r = false := by
          cases e : goodB r with
          | false => rfl
          | true => rw [e] at h1; cases h1
        have l1 : (Str.ofString "row ").length ≤ 20000 := by decide +kernel
        have l2 : (Str.ofString " is not as a stand's rows are").length ≤ 20000 := by decide +kernel
        exact ⟨_, rfl, l1, _, rfl, _, rfl, log_small (by omega) (by omega), _, rfl, str_le (by omega) (by omega), _, rfl, l2, Nat.le_refl 1, bad r hrm hb _ (s1.trans (s2.trans (sp.trans s3)))⟩
      · have hb : goodB r = true := by
          cases e : goodB r with
          | true => rfl
          | false => rw [e] at h1; exact absurd rfl h1
        refine ⟨_, _, rfl, s2.trans (sp.trans s3), fun x hx => ?_⟩
        rw [take_snoc hr'] at hx
        rcases List.mem_append.mp hx with hx | hx
        · exact g2 x hx
        · rw [List.mem_singleton.mp hx]; exact hb
    · intro σ H2 hQ
      obtain ⟨u, v, rfl, s2, g2⟩ := hQ
      rw [List.length_map, List.take_length] at g2
      have bd := noted_bnd g2 hn
      refine ⟨_, rfl, t, rfl, by omega, by omega, g2, fun sv H3 s3 hS => ?_⟩
      have nl := noted_len (rowsOf t)
      refine ⟨_, rfl, sv, _, _, _, rfl, hS, by omega, fun l4 H4 xs n4 s4 e4 p4 => ⟨l4, rfl, ⟨_, SqL.of e4⟩, ?_⟩⟩
      have lx := paired_len p4
      rw [List.length_append, List.length_map, List.length_map] at lx
      let yss := (noted (rowsOf t)).ow.map (·.2.1) ++ (noted (rowsOf t)).ow.map (·.2.2)
      have ly : xs.length = yss.length := paired_len p4
      refine comp_mapL (σ0 := [none]) (SqL.of e4) (fun σ => ∃ v, σ = [v]) ((yss.map fun ys => decide (ys.length ≤ 20)).map V.bl) (by rw [List.length_map, List.length_map, ly]) (bigZ (by omega)) ⟨_, rfl⟩ ?_ ?_
      · intro i z y σ H5 k hz hy hQ hs hk
        obtain ⟨v, rfl⟩ := hQ
        rw [List.map_map] at hy
        obtain ⟨ys', hy', rfl⟩ := map_at hy
        obtain ⟨ys, hys, a, rfl, ha⟩ := paired_get' p4 hz
        have ee : ys' = ys := by
          have hys : yss[i]? = some ys := hys
          rw [hy'] at hys
          exact Option.some.inj hys
        subst ee
        refine ⟨_, rfl, a, _, rfl, .inl (SqL.of (hs _ _ ha)), _, _, rfl, rfl, ?_⟩
        have hk' := hk [some (.ref a)] H5 ⟨_, rfl⟩ (Same.refl _)
        have e : decide ((((ys'.map V.str).length : Nat) : Int) ≤ 20) = decide (ys'.length ≤ 20) := decide_eq_decide.mpr (by rw [List.length_map]; omega)
        show k _ (.bl (decide ((((ys'.map V.str).length : Nat) : Int) ≤ 20))) H5
        rw [e]
        exact hk'
      · intro D H5 hD hd hs
        have s15 := s1.trans (s2.trans (s3.trans (s4.trans hs)))
        refine ⟨D, _, rfl, SqL.of hd, _, rfl, ?_⟩
        rw [alls_map]
        have few : (yss.all fun ys => decide (ys.length ≤ 20)) = true ↔ Few (rowsOf t) := by
          rw [List.all_eq_true]
          constructor
          · intro h e he
            exact ⟨of_decide_eq_true (h _ (List.mem_append_left _ (List.mem_map_of_mem (f := (·.2.1)) he))), of_decide_eq_true (h _ (List.mem_append_right _ (List.mem_map_of_mem (f := (·.2.2)) he)))⟩
          · intro h ys hm
            rcases List.mem_append.mp hm with hm | hm
            · obtain ⟨e, he, rfl⟩ := List.mem_map.mp hm
              exact decide_eq_true (h e he).1
            · obtain ⟨e, he, rfl⟩ := List.mem_map.mp hm
              exact decide_eq_true (h e he).2
        refine ite2 (fun h1 => ?_) (fun h1 => ?_)
        · have nf : ¬ Few (rowsOf t) := fun z => by
            rw [few.mpr z] at h1
            cases h1
          refine ⟨Nat.le_refl 1, ?_⟩
          rcases q with ⟨_, qe⟩ | ⟨_, z, _⟩
          · exact qe _ s15
          · exact absurd z nf
        · have hf : Few (rowsOf t) := few.mp (by
            cases e : (yss.all fun ys => decide (ys.length ≤ 20)) with
            | true => rfl
            | false => rw [e] at h1; exact absurd rfl h1)
          refine ⟨_, rfl, sv, _, _, _, rfl, hS.same (s4.trans hs), bd, fun ch' cs' ow' H6 r1 r2 r3 s6 => ?_⟩
          refine ⟨_, rfl, rfl, _, rfl, ?_⟩
          refine ite2 (fun h2 => ?_) (fun h2 => ?_)
          · have ne : Str.join nlS (rowsT ch' cs' ow') ≠ t := fun z => by
              rw [z] at h2
              have h2 : (!decide (V.str t = V.str t)) = true := h2
              rw [decide_eq_true rfl] at h2
              cases h2
            refine ⟨Nat.le_refl 1, ?_⟩
            rcases q with ⟨_, qe⟩ | ⟨_, _, z, _⟩
            · exact qe _ (s15.trans s6)
            · exact absurd (z ch' cs' ow' r1 r2 r3) ne
          · have ee : Str.join nlS (rowsT ch' cs' ow') = t := by
              rcases Classical.em (Str.join nlS (rowsT ch' cs' ow') = t) with z | z
              · exact z
              · refine absurd ?_ h2
                show (!decide (V.str (Str.join nlS (rowsT ch' cs' ow')) = V.str t)) = true
                rw [decide_eq_false (fun y => z (V.str.inj y))]
                rfl
            rcases q with ⟨b, qe⟩ | ⟨_, _, _, qv⟩
            · rcases b with ⟨r, hm, hb⟩ | ⟨_, nf⟩ | ⟨_, _, un⟩
              · rw [g2 r hm] at hb; cases hb
              · exact absurd hf nf
              · exact absurd ee (un ch' cs' ow' r1 r2 r3)
            · exact ⟨_, rfl, qv sv H6 (s15.trans s6) (hS.same (s4.trans (hs.trans s6)))⟩
end
end K35

set_option Elab.async false
set_option linter.all false
set_option maxRecDepth 100000
set_option maxHeartbeats 4000000
namespace K35
open PySem L2 PySem.Spec PyProof.Rows
def nmB (x : Str) : Bool := decide (1 ≤ x.length) && decide (x.length ≤ 8) && x.cps.toList.all fun c => decide (97 ≤ c) && decide (c ≤ 122)
theorem nm_of {x : Str} (h : nmB x = true) : IsNm x := by
  unfold nmB at h
  simp only [Bool.and_eq_true, decide_eq_true_eq, List.all_eq_true] at h
  exact ⟨h.1.1, h.1.2, h.2⟩
theorem pt_of {x : Str} (ps : List Str) (e : x = Str.join slS ps) (h1 : 1 ≤ ps.length) (h2 : ps.length ≤ 4) (h : ps.all nmB = true) : IsPt x := ⟨ps, e, h1, h2, fun p hp => nm_of (List.all_eq_true.mp h p hp)⟩
/-! ### the same, so that it can be worked out -/
def splL (c : Nat) : List Nat → List (List Nat)
  | [] => [[]]
  | x :: r => if x = c then [] :: splL c r else match splL c r with
    | [] => [[x]]
    | p :: q => (x :: p) :: q
theorem splL_ne (c : Nat) (l : List Nat) : ∃ p q, splL c l = p :: q := by
  cases l with
  | nil => exact ⟨_, _, rfl⟩
  | cons x r =>
    unfold splL
    split
    · exact ⟨_, _, rfl⟩
    · split
      · exact ⟨_, _, rfl⟩
      · exact ⟨_, _, rfl⟩
theorem splL_free (c : Nat) : ∀ l, ∀ p ∈ splL c l, c ∉ p
  | [], p, h => by
    have h : p ∈ [[]] := h
    rw [List.mem_singleton.mp h]
    exact fun z => nomatch z
  | x :: r, p, h => by
    unfold splL at h
    split at h
    · rcases List.mem_cons.mp h with h | h
      · rw [h]; exact fun z => nomatch z
      · exact splL_free c r p h
    · rename_i hx
      split at h
      · rw [List.mem_singleton.mp h]
        intro z
        exact hx (List.mem_singleton.mp z).symm
      · rename_i a q e
        rcases List.mem_cons.mp h with h | h
        · rw [h]
          intro z
          rcases List.mem_cons.mp z with z | z
          · exact hx z.symm
          · exact splL_free c r a (by rw [e]; exact List.mem_cons_self) z
        · exact splL_free c r p (by rw [e]; exact List.mem_cons_of_mem _ h)
def ofL (l : List Nat) : Str := ⟨l.toArray⟩
theorem splL_join (c : Nat) : ∀ l, (Str.join ⟨#[c]⟩ ((splL c l).map ofL)).cps.toList = l
  | [] => rfl
  | x :: r => by
    obtain ⟨p, q, e⟩ := splL_ne c r
    have ih := splL_join c r
    rw [e] at ih
    unfold splL
    by_cases hx : x = c
    · rw [if_pos hx, e, List.map_cons, List.map_cons, join_cons]
      show [] ++ c :: (Str.join ⟨#[c]⟩ ((p :: q).map ofL)).cps.toList = x :: r
      rw [ih, hx]
      rfl
    · rw [if_neg hx, e]
      show (Str.join ⟨#[c]⟩ (((x :: p) :: q).map ofL)).cps.toList = x :: r
      cases q with
      | nil =>
        have ih : p = r := ih
        rw [ih]
        rfl
      | cons q0 q =>
        rw [List.map_cons, List.map_cons, join_cons] at ih ⊢
        show (x :: p) ++ _ = _
        rw [List.cons_append]
        congr 1
theorem split_eq (x : Str) (c : Nat) : Txt.split x ⟨#[c]⟩ = (splL c x.cps.toList).map ofL := by
  obtain ⟨p, q, e⟩ := splL_ne c x.cps.toList
  have hj : Str.join ⟨#[c]⟩ ((splL c x.cps.toList).map ofL) = x := str_ext (splL_join c _)
  have := split_join (c := c) (ps := (splL c x.cps.toList).map ofL) (by rw [e]; exact List.cons_ne_nil _ _) (fun y hy => by
    obtain ⟨l, hl, rfl⟩ := List.mem_map.mp hy
    exact splL_free c _ l hl)
  rw [hj] at this
  exact this
def azC (l : List Nat) : Bool := l.all fun c => decide (97 ≤ c) && decide (c ≤ 122)
def nameC (l : List Nat) : Bool := decide (0 < l.length) && decide (l.length ≤ 8) && azC l
def pathC (l : List Nat) : Bool := decide ((splL 47 l).length ≤ 4) && (splL 47 l).all nameC
def figC (l : List Nat) : Bool := l.all fun c => decide (48 ≤ c) && decide (c ≤ 57)
def numC (l : List Nat) : Bool := decide (0 < l.length) && decide (l.length ≤ 10) && figC l && !(decide (l[0]? = some 48) && decide (l ≠ [48])) && decide (NumText.digitsVal l ≤ 1000000000)
def mkC (l : List Nat) : Bool := decide ((splL 46 l).length ≤ 3) && (splL 46 l).all numC
def wordsC (ws : List (List Nat)) : Bool :=
  match ws with
  | [w, p] => decide (w = [111, 119, 110]) && pathC p
  | [w, n, x] => !decide (w = [111, 119, 110]) && nameC n && (if w = [105, 110] then mkC x else decide (w = [99, 104, 111, 111, 115, 101]) && nameC x)
  | _ => false
theorem len_ofL (l : List Nat) : (ofL l).length = l.length := List.size_toArray
theorem cps_ofL (l : List Nat) : (ofL l).cps.toList = l := rfl
theorem nameB_eq (l : List Nat) : nameB (ofL l) = nameC l := by
  unfold nameB nameC azC
  rw [len_ofL, cps_ofL, Bool.decide_and]
  congr 1
  refine congrArg (fun f => l.all f) (funext fun c => ?_)
  rw [a_eq, z_eq, btw_eq, Bool.decide_and]
theorem pathB_eq (l : List Nat) : pathB (ofL l) = pathC l := by
  unfold pathB pathC
  rw [sl_eq, split_eq, cps_ofL, List.length_map, List.all_map]
  congr 1
  exact congrArg (fun f => (splL 47 l).all f) (funext fun p => nameB_eq p)
theorem figB_eq (l : List Nat) : figB (ofL l) = figC l := by
  unfold figB figC
  rw [cps_ofL]
  refine congrArg (fun f => l.all f) (funext fun c => ?_)
  rw [z0_eq, n9_eq, btw_eq, Bool.decide_and]
theorem ofL_eq (l m : List Nat) : decide (ofL l = ofL m) = decide (l = m) := decide_eq_decide.mpr ⟨fun h => by have := congrArg (fun x : Str => x.cps.toList) h; exact this, fun h => by rw [h]⟩
theorem numR_eq (l : List Nat) : (numR (ofL l)).isSome = numC l := by
  unfold numR numC
  rw [len_ofL, figB_eq, cps_ofL, z0_eq, starts_one, cps_ofL, Bool.decide_and]
  have e : decide (ofL l ≠ (⟨#[48]⟩ : Str)) = decide (l ≠ [48]) := decide_eq_decide.mpr (not_congr ⟨fun h => by have := congrArg (fun x : Str => x.cps.toList) h; exact this, fun h => by rw [h]; rfl⟩)
  rw [e]
  cases decide (0 < l.length) && decide (l.length ≤ 10) && figC l with
  | false => rfl
  | true =>
    rw [if_pos rfl]
    cases (decide (l[0]? = some 48) && decide (l ≠ [48])) with
    | true => rfl
    | false =>
      rw [if_neg (by decide)]
      by_cases h : NumText.digitsVal l ≤ 1000000000
      · rw [if_neg (by omega), decide_eq_true h]; rfl
      · rw [if_pos (by omega), decide_eq_false h]; rfl
theorem mkB_eq (l : List Nat) : mkB (ofL l) = mkC l := by
  unfold mkB mkC
  rw [do_eq, split_eq, cps_ofL, List.length_map, List.all_map]
  congr 1
  exact congrArg (fun f => (splL 46 l).all f) (funext fun p => numR_eq p)
theorem good_eq {row : Str} (h1 : row.cps.toList[0]? ≠ some 60) (h2 : row.cps.toList[0]? ≠ some 62) : goodB row = wordsC (splL 32 row.cps.toList) := by
  unfold goodB
  rw [lt_eq, gt_eq, starts_one, starts_one, decide_eq_false h1, decide_eq_false h2, Bool.or_false, if_neg (by decide), sp_eq, split_eq]
  have eo : ∀ w : List Nat, decide (ofL w = owS) = decide (w = [111, 119, 110]) := fun w => by rw [ow_eq]; exact ofL_eq w [111, 119, 110]
  have ei : ∀ w : List Nat, (ofL w = inS) ↔ (w = [105, 110]) := fun w => by
    rw [in_eq]
    exact ⟨fun h => by have := congrArg (fun x : Str => x.cps.toList) h; exact this, fun h => by rw [h]; rfl⟩
  have ec : ∀ w : List Nat, decide (ofL w = chS) = decide (w = [99, 104, 111, 111, 115, 101]) := fun w => by rw [ch_eq]; exact ofL_eq w [99, 104, 111, 111, 115, 101]
  generalize splL 32 row.cps.toList = ws
  match ws with
  | [] => rfl
  | [w] => rfl
  | [w, p] =>
    show (decide (ofL w = owS) && pathB (ofL p)) = (decide (w = [111, 119, 110]) && pathC p)
    rw [eo, pathB_eq]
  | [w, n, x] =>
    show (!decide (ofL w = owS) && nameB (ofL n) && (if ofL w = inS then mkB (ofL x) else decide (ofL w = chS) && nameB (ofL x))) = (!decide (w = [111, 119, 110]) && nameC n && (if w = [105, 110] then mkC x else decide (w = [99, 104, 111, 111, 115, 101]) && nameC x))
    rw [eo, nameB_eq, nameB_eq, mkB_eq, ec]
    by_cases hw : w = [105, 110]
    · rw [if_pos hw, if_pos ((ei w).mpr hw)]
    · rw [if_neg hw, if_neg (fun z => hw ((ei w).mp z))]
  | _ :: _ :: _ :: _ :: _ => rfl
/-! ### the rows that the law makes -/
def badS : List Str := (["in b", "in b 1.2 3", "in B 1", "in b 01", "in b 1.", "in b 1.2.3.4", "in b -1"] : List Str) ++ (["in b 1000000001", "in abcdefghi 1", "in  b 1", "in b  1", " in b 1", "In b 1"] : List Str) ++ (["choose d", "choose d b c", "choose D b", "choose d B", "choose d -", "own"] : List Str) ++ (["own a b", "own A", "own a//b", "own /a", "own a/", "own a/b/c/d/e"] : List Str) ++ (["own abcdefghi", "own a/b.own", "own =a", "x", "", "|x", "-"] : List Str)
theorem bad_len : badS.length = 32 := rfl
theorem bad_all : ∀ x ∈ badS, goodB x = false ∧ 10 ∉ x.cps.toList ∧ x.length ≤ 60 := by
  have h : badS.all (fun x => !decide (x.cps.toList[0]? = some 60) && !decide (x.cps.toList[0]? = some 62) && !wordsC (splL 32 x.cps.toList) && !decide (10 ∈ x.cps.toList) && decide (x.length ≤ 60)) = true := by decide +kernel
  intro x hx
  have h := List.all_eq_true.mp h x hx
  simp only [Bool.and_eq_true, Bool.not_eq_true', decide_eq_false_iff_not, decide_eq_true_eq] at h
  obtain ⟨⟨⟨⟨h1, h2⟩, h3⟩, h4⟩, h5⟩ := h
  exact ⟨(good_eq h1 h2).trans h3, h4, h5⟩
def headS : List Str := ["in b 1.2", "in c 0", "choose d b", "own a/b"]
def tailS : List Str := ["own b", "<x", "> y"]
def baseR (b m : List Str) : List Str := headS ++ b.map (ltS ++ ·) ++ (["<", ">"] : List Str) ++ m.map (gtS ++ ·) ++ tailS
def chR : List (Str × List Int) := [("b", [1, 2]), ("c", [0])]
def csR : List (Str × Str) := [("d", "b")]
def owR (b m : List Str) : List (Str × (List Str × List Str)) := [("a/b", (b ++ ([""] : List Str), "" :: m)), ("b", (["x"], [" y"]))]
theorem nm1 (x : Str) (h : nmB x = true) : IsNm x := nm_of h
theorem mk_of {ms : List Int} (h : (decide (1 ≤ ms.length) && decide (ms.length ≤ 3) && ms.all fun n => decide (0 ≤ n) && decide (n ≤ 1000000000)) = true) : IsMk ms := by
  simp only [Bool.and_eq_true, decide_eq_true_eq, List.all_eq_true] at h
  exact ⟨h.1.1, h.1.2, h.2⟩
theorem ln_of {x : Str} (h : (decide (x.length ≤ 60) && x.cps.toList.all fun c => decide (32 ≤ c) && decide (c ≤ 126) && !decide (c = 37)) = true) : IsLn x := by
  simp only [Bool.and_eq_true, decide_eq_true_eq, List.all_eq_true, Bool.not_eq_true', decide_eq_false_iff_not] at h
  exact ⟨h.1, fun c hc => ⟨(h.2 c hc).1.1, (h.2 c hc).1.2, (h.2 c hc).2⟩⟩
theorem ptA : IsPt "a/b" := pt_of ["a", "b"] (by decide +kernel) (by decide) (by decide) (by decide +kernel)
theorem ptB : IsPt "b" := pt_of ["b"] (by decide +kernel) (by decide) (by decide) (by decide +kernel)
theorem ptC : IsPt "a" := pt_of ["a"] (by decide +kernel) (by decide) (by decide) (by decide +kernel)
theorem okR {b m : List Str} (hb : ∀ x ∈ b, IsLn x) (hm : ∀ x ∈ m, IsLn x) : OkS chR csR (owR b m) := by
  refine ⟨fun e he => ?_, fun e he => ?_, fun e he => ?_⟩
  · simp only [chR, List.mem_cons, List.not_mem_nil, or_false] at he
    rcases he with rfl | rfl
    · exact ⟨nm1 _ (by decide +kernel), mk_of (by decide)⟩
    · exact ⟨nm1 _ (by decide +kernel), mk_of (by decide)⟩
  · simp only [csR, List.mem_cons, List.not_mem_nil, or_false] at he
    rw [he]
    exact ⟨nm1 _ (by decide +kernel), nm1 _ (by decide +kernel)⟩
  · simp only [owR, List.mem_cons, List.not_mem_nil, or_false] at he
    rcases he with rfl | rfl
    · refine ⟨ptA, fun x hx => ?_, fun x hx => ?_⟩
      · rcases List.mem_append.mp hx with hx | hx
        · exact hb x hx
        · rw [List.mem_singleton.mp hx]; exact ln_of (by decide +kernel)
      · rcases List.mem_cons.mp hx with hx | hx
        · rw [hx]; exact ln_of (by decide +kernel)
        · exact hm x hx
    · refine ⟨ptB, fun x hx => ?_, fun x hx => ?_⟩
      · rw [List.mem_singleton.mp hx]; exact ln_of (by decide +kernel)
      · rw [List.mem_singleton.mp hx]; exact ln_of (by decide +kernel)
theorem base_eq (b m : List Str) : baseR b m = rowsT chR csR (owR b m) := by
  have e1 : chR.map rowI ++ csR.map rowC ++ [Str.join spS [owS, "a/b"]] = headS := by decide +kernel
  have e2 : ([ltS ++ ("" : Str)] : List Str) ++ [gtS ++ ("" : Str)] = (["<", ">"] : List Str) := by decide +kernel
  have e3 : rowO ("b", (["x"], [" y"])) = tailS := by decide +kernel
  show baseR b m = chR.map rowI ++ csR.map rowC ++ (rowO ("a/b", (b ++ ([""] : List Str), "" :: m)) ++ (rowO ("b", (["x"], [" y"])) ++ []))
  rw [e3, List.append_nil]
  unfold baseR
  rw [← e1, ← e2]
  unfold rowO
  simp only [List.map_append, List.map_cons, List.map_nil, List.append_assoc, List.cons_append, List.nil_append]
theorem srtC : Srt chR chR := ⟨.refl _, by decide +kernel⟩
theorem srtH : Srt csR csR := ⟨.refl _, by decide +kernel⟩
theorem srtO (b m : List Str) : Srt (owR b m) (owR b m) := ⟨.refl _, by show sortedS ["a/b", "b"] = true; decide +kernel⟩
theorem ndC : (chR.map (·.1)).Nodup := by decide +kernel
theorem ndH : (csR.map (·.1)).Nodup := by decide +kernel
theorem ndO (b m : List Str) : ((owR b m).map (·.1)).Nodup := by show (["a/b", "b"] : List Str).Nodup; decide +kernel
theorem shown_of {ch : List (Str × List Int)} {cs : List (Str × Str)} {ow : List (Str × (List Str × List Str))} (ok : OkS ch cs ow) (n1 : (ch.map (·.1)).Nodup) (n2 : (cs.map (·.1)).Nodup) (n3 : (ow.map (·.1)).Nodup) (s1 : Srt ch ch) (s2 : Srt cs cs) (s3 : Srt ow ow) (l20 : ∀ e ∈ ow, e.2.1.length ≤ 20 ∧ e.2.2.length ≤ 20) :
    rowsOf (Str.join nlS (rowsT ch cs ow)) = rowsT ch cs ow ∧ (noted (rowsT ch cs ow)).ow = ow ∧ Okp (rowsT ch cs ow) ∧ Few (rowsT ch cs ow) ∧ Shown (rowsT ch cs ow) (Str.join nlS (rowsT ch cs ow)) := by
  obtain ⟨ck, b, m, hn⟩ := noted_rows ok n1 n2 n3
  refine ⟨rows_back (rows_free ok), by rw [hn], rows_good ok, ?_, ?_⟩
  · unfold Few
    rw [hn]
    exact l20
  · unfold Shown
    rw [hn]
    intro ch' cs' ow' r1 r2 r3
    rw [Srt.eq n1 r1 s1, Srt.eq n2 r2 s2, Srt.eq n3 r3 s3]
/-! ### rows that are refused -/
theorem bad_of_odd {rows : List Str} (hg : ∀ r ∈ rows, goodB r = true) (hf : ∀ r ∈ rows, 10 ∉ r.cps.toList ∧ r ≠ Str.empty) (ho : Odd rows) (hl : Few rows) : rowsOf (Str.join nlS rows) = rows ∧ Bad (Str.join nlS rows) := by
  have e := rows_back hf
  refine ⟨e, .inr (.inr ?_)⟩
  rw [e]
  exact ⟨hg, hl, fun ch' cs' ow' r1 r2 r3 => odd_not hg hf ho r1 r2 r3⟩
theorem few_len {rows : List Str} (hg : ∀ r ∈ rows, goodB r = true) (h : rows.length ≤ 20) : Few rows := fun e he => by
  have := (noted_ok hg).le e he
  omega
theorem rows_two {rows : List Str} (hf : ∀ r ∈ rows, 10 ∉ r.cps.toList) (h2 : 2 ≤ rows.length) : rowsOf (Str.join nlS rows) = rows := by
  match rows, h2 with
  | a :: b :: r, _ =>
    unfold rowsOf
    have ne : Str.join nlS (a :: b :: r) ≠ Str.empty := fun z => by
      have z : (Str.join nlS (a :: b :: r)).cps.toList = [] := by rw [z]; rfl
      rw [nl_eq, join_cons] at z
      have := congrArg List.length z
      rw [List.length_append, List.length_cons] at this
      simp at this
    rw [if_neg ne, nl_eq]
    exact split_join (List.cons_ne_nil _ _) hf
theorem bad_of_row {rows : List Str} (hf : ∀ r ∈ rows, 10 ∉ r.cps.toList) (h2 : 2 ≤ rows.length) {x : Str} (hx : x ∈ rows) (hb : goodB x = false) : rowsOf (Str.join nlS rows) = rows ∧ Bad (Str.join nlS rows) := by
  have e := rows_two hf h2
  refine ⟨e, .inl ⟨x, ?_, hb⟩⟩
  rw [e]
  exact hx
theorem ordB_at : ∀ {p q : List (Nat × Str)} {a b : Nat × Str}, ordB (p ++ a :: b :: q) = true → lessK a b = true
  | [], q, a, b, h => (Bool.and_eq_true_iff.mp h).1
  | [c], q, a, b, h => ordB_at (p := []) (Bool.and_eq_true_iff.mp (show (lessK c a && ordB (a :: b :: q)) = true from h)).2
  | c :: d :: p, q, a, b, h => ordB_at (p := d :: p) (Bool.and_eq_true_iff.mp (show (lessK c d && ordB (d :: p ++ a :: b :: q)) = true from h)).2
theorem ordB_no {p q : List (Nat × Str)} {a b : Nat × Str} (h : lessK a b = false) : ordB (p ++ a :: b :: q) = false := by
  cases e : ordB (p ++ a :: b :: q) with
  | false => rfl
  | true => rw [ordB_at e] at h; cases h
theorem lessK_self (a : Nat × Str) : lessK a a = false := by
  unfold lessK
  rw [decide_eq_false (Nat.lt_irrefl _), decide_eq_false (List.lt_irrefl _), Bool.and_false]
  rfl
theorem odd_twice {pre post : List Str} {r : Str} (h : nlB r = true) : Odd (pre ++ r :: r :: post) := by
  refine .inr (.inr ?_)
  rw [List.filter_append, List.filter_cons, if_pos h, List.filter_cons, if_pos h, List.map_append, List.map_cons, List.map_cons]
  exact ordB_no (lessK_self _)
theorem base_nl (b m : List Str) : (baseR b m).filter nlB = headS ++ (["own b"] : List Str) := by
  have g1 : ∀ b : List Str, (b.map (ltS ++ ·)).filter nlB = [] := fun b => by
    rw [List.filter_eq_nil_iff]
    intro x hx
    obtain ⟨y, _, rfl⟩ := List.mem_map.mp hx
    unfold nlB
    rw [lt_starts, Bool.true_or]
    decide
  have g2 : ∀ b : List Str, (b.map (gtS ++ ·)).filter nlB = [] := fun b => by
    rw [List.filter_eq_nil_iff]
    intro x hx
    obtain ⟨y, _, rfl⟩ := List.mem_map.mp hx
    unfold nlB
    rw [gt_starts, Bool.or_true]
    decide
  have st : ∀ l : List Str, l.filter nlB = l.filter fun x => !(decide (x.cps.toList[0]? = some 60) || decide (x.cps.toList[0]? = some 62)) := fun l => by
    refine congrArg (fun f => l.filter f) (funext fun x => ?_)
    unfold nlB
    rw [lt_eq, gt_eq, starts_one, starts_one]
  have h1 : headS.filter nlB = headS := by rw [st]; decide +kernel
  have h2 : (["<", ">"] : List Str).filter nlB = [] := by rw [st]; decide +kernel
  have h3 : tailS.filter nlB = (["own b"] : List Str) := by rw [st]; decide +kernel
  unfold baseR
  rw [List.filter_append, List.filter_append, List.filter_append, List.filter_append, g1, g2, h1, h2, h3, List.append_nil, List.append_nil, List.append_nil]
theorem key_inn {e : Str × List Int} (a : IsNm e.1) (b : IsMk e.2) : keyR (rowI e) = (0, e.1) := by
  unfold keyR
  rw [parse_inn a b]
theorem key_cho {e : Str × Str} (a : IsNm e.1) (b : IsNm e.2) : keyR (rowC e) = (1, e.1) := by
  unfold keyR
  rw [parse_cho a b]
theorem key_own {p : Str} (a : IsPt p) : keyR (Str.join spS [owS, p]) = (2, p) := by
  unfold keyR
  rw [parse_own a]
theorem kB : keyR "in b 1.2" = (0, ("b" : Str)) := by
  rw [show ("in b 1.2" : Str) = rowI ("b", [1, 2]) by decide +kernel]
  exact key_inn (nm1 _ (by decide +kernel)) (mk_of (by decide))
theorem kC : keyR "in c 0" = (0, ("c" : Str)) := by
  rw [show ("in c 0" : Str) = rowI ("c", [0]) by decide +kernel]
  exact key_inn (nm1 _ (by decide +kernel)) (mk_of (by decide))
theorem kO : keyR "own b" = (2, ("b" : Str)) := by
  rw [show ("own b" : Str) = Str.join spS [owS, "b"] by decide +kernel]
  exact key_own ptB
def moreS : List Str := ["<x", "own b", "in d 1", "own a", "choose e b", "choose a b"]
theorem okp_no1 : okp "> y" "<x" = false := by
  unfold okp
  rw [lt_eq, starts_one, starts_one, sp_eq, split_eq, ow_eq]
  decide +kernel
theorem okp_no2 : okp "choose d b" "<x" = false := by
  unfold okp
  rw [lt_eq, starts_one, starts_one, sp_eq, split_eq, ow_eq]
  decide +kernel
theorem gX : goodB "<x" = true := by
  rw [show ("<x" : Str) = ltS ++ "x" by decide +kernel]
  exact good_les (ln_of (by decide +kernel))
theorem gG : goodB ">" = true := by
  rw [show (">" : Str) = gtS ++ "" by decide +kernel]
  exact good_mor (ln_of (by decide +kernel))
theorem more_good : ∀ x ∈ moreS, goodB x = true ∧ 10 ∉ x.cps.toList ∧ x ≠ Str.empty ∧ x.length ≤ 60 := by
  have h : (moreS.drop 1).all (fun x => !decide (x.cps.toList[0]? = some 60) && !decide (x.cps.toList[0]? = some 62) && wordsC (splL 32 x.cps.toList)) = true := by decide +kernel
  have h0 : moreS.all (fun x => !decide (10 ∈ x.cps.toList) && !decide (x.cps.toList = []) && decide (x.length ≤ 60)) = true := by decide +kernel
  intro x hx
  have h0 := List.all_eq_true.mp h0 x hx
  simp only [Bool.and_eq_true, Bool.not_eq_true', decide_eq_false_iff_not, decide_eq_true_eq] at h0
  refine ⟨?_, h0.1.1, fun z => h0.1.2 (by rw [z]; rfl), h0.2⟩
  have hx : x ∈ ("<x" : Str) :: moreS.drop 1 := hx
  rcases List.mem_cons.mp hx with hx | hx
  · rw [hx]; exact gX
  · have h := List.all_eq_true.mp h x hx
    simp only [Bool.and_eq_true, Bool.not_eq_true', decide_eq_false_iff_not, decide_eq_true_eq] at h
    rw [good_eq h.1.1 h.1.2]
    exact h.2
theorem odd_more (b m : List Str) : ∀ x ∈ moreS, Odd (baseR b m ++ [x]) := by
  have hd : ∀ x : Str, lessK (2, ("b" : Str)) (keyR x) = false → nlB x = true → Odd (baseR b m ++ [x]) := fun x hk hn => by
    refine .inr (.inr ?_)
    rw [List.filter_append, base_nl, List.filter_cons, if_pos hn, List.filter_nil, List.append_assoc, List.map_append]
    show ordB (headS.map keyR ++ keyR "own b" :: keyR x :: []) = false
    rw [kO]
    exact ordB_no hk
  have nl : ∀ x : Str, (!(decide (x.cps.toList[0]? = some 60) || decide (x.cps.toList[0]? = some 62))) = true → nlB x = true := fun x h => by
    unfold nlB
    rw [lt_eq, gt_eq, starts_one, starts_one]
    exact h
  intro x hx
  simp only [moreS, List.mem_cons, List.not_mem_nil, or_false] at hx
  rcases hx with rfl | rfl | rfl | rfl | rfl | rfl
  · refine .inr (.inl ⟨headS ++ b.map (ltS ++ ·) ++ (["<", ">"] : List Str) ++ m.map (gtS ++ ·) ++ (["own b", "<x"] : List Str), "> y", "<x", [], ?_, okp_no1⟩)
    unfold baseR tailS
    simp only [List.append_assoc, List.cons_append, List.nil_append]
  · exact hd _ (by rw [kO]; exact lessK_self _) (nl _ (by decide +kernel))
  · refine hd _ ?_ (nl _ (by decide +kernel))
    rw [show ("in d 1" : Str) = rowI ("d", [1]) by decide +kernel, key_inn (nm1 _ (by decide +kernel)) (mk_of (by decide))]
    decide +kernel
  · refine hd _ ?_ (nl _ (by decide +kernel))
    rw [show ("own a" : Str) = Str.join spS [owS, "a"] by decide +kernel, key_own ptC]
    decide +kernel
  · refine hd _ ?_ (nl _ (by decide +kernel))
    rw [show ("choose e b" : Str) = rowC ("e", "b") by decide +kernel, key_cho (nm1 _ (by decide +kernel)) (nm1 _ (by decide +kernel))]
    decide +kernel
  · refine hd _ ?_ (nl _ (by decide +kernel))
    rw [show ("choose a b" : Str) = rowC ("a", "b") by decide +kernel, key_cho (nm1 _ (by decide +kernel)) (nm1 _ (by decide +kernel))]
    decide +kernel
theorem odd_swap (l : List Str) : Odd ("in c 0" :: "in b 1.2" :: l) := by
  refine .inr (.inr ?_)
  have nl : ∀ x : Str, (!(decide (x.cps.toList[0]? = some 60) || decide (x.cps.toList[0]? = some 62))) = true → nlB x = true := fun x h => by
    unfold nlB
    rw [lt_eq, gt_eq, starts_one, starts_one]
    exact h
  rw [List.filter_cons, if_pos (nl _ (by decide +kernel)), List.filter_cons, if_pos (nl _ (by decide +kernel)), List.map_cons, List.map_cons, kB, kC]
  exact ordB_no (p := []) (by decide +kernel)
end K35

set_option Elab.async false
set_option linter.all false
set_option maxRecDepth 100000
set_option maxHeartbeats 4000000
namespace K35
open PySem L2 PySem.Spec
theorem iteF' {A B : Prop} (h : B) : if (false = true) then A else B := by rw [if_neg (by decide)]; exact h
theorem iteT' {A B : Prop} (h : A) : if (true = true) then A else B := by rw [if_pos rfl]; exact h
structure Errs (K : PySem.W.Frag) (mg : Str → Option Value) (M NS c1 c2 c3 c4 c5 c6 c7 c8 c9 c10 : Addr) : Prop where
  xc : XCls K NS
  mM : mg "MendError" = some (.ref M)
  mN : mg "NoStand" = some (.ref NS)
  m1 : mg "Fallen" = some (.ref c1)
  m2 : mg "NoFile" = some (.ref c2)
  m3 : mg "NoFormer" = some (.ref c3)
  m4 : mg "NoName" = some (.ref c4)
  m5 : mg "NoParcel" = some (.ref c5)
  m6 : mg "NoPath" = some (.ref c6)
  m7 : mg "NoRow" = some (.ref c7)
  m8 : mg "NoShelf" = some (.ref c8)
  m9 : mg "NotUp" = some (.ref c9)
  m10 : mg "TooWide" = some (.ref c10)
  k8 : PySem.W.kitAny K (.ref NS) [.ref c1, .ref c2, .ref c3, .ref c4, .ref c5, .ref c6, .ref c7, .ref c8] = some false
  k2 : PySem.W.kitAny K (.ref NS) [.ref c9, .ref c10] = some false
  kN : PySem.W.kitOne K (.ref NS) (.ref NS) = some true
  kV : PySem.W.kitOne K (.ref NS) (.type "ValueError") = some true
  ex : PySem.W.exmOne K (.ref NS) (.ref M) = some true
/-- rows that are short and refused -/
structure Ref (rows : List Str) : Prop where
  back : rowsOf (Str.join nlS rows) = rows
  bad : Bad (Str.join nlS rows)
  len : rows.length ≤ 40
  sh : ∀ r ∈ rows, r.length ≤ 140
theorem joined {rows : List Str} (l : rows.length ≤ 40) (sh : ∀ r ∈ rows, r.length ≤ 140) : (rows.map (·.length)).sum + rows.length * nlS.length ≤ 16777216 ∧ (Str.join nlS rows).length ≤ 50000 := by
  have h1 := sum_le sh
  have e : nlS.length = 1 := by decide +kernel
  have h2 := join_short (sep := nlS) sh (by rw [e]; exact Nat.le_refl _)
  have h3 : rows.length * (140 + 1) ≤ 40 * 141 := Nat.mul_le_mul_right _ l
  have h4 : rows.length * 140 ≤ 40 * 140 := Nat.mul_le_mul_right _ l
  rw [e]
  exact ⟨by omega, by omega⟩
section
variable {P : Program} {w : World} {K : PySem.W.Frag} {mg : Str → Option Value} {base : Heap}
def spRef : Sp := fun vs H Q _ => ∃ (l : Addr) (rows : List Str), vs = [.ref l] ∧ H l = some (.lst (rows.map V.str)) ∧ Ref rows ∧ ∀ H', Same H H' → Q (.bl true) H'
theorem scRef : FnScope ["_law_rows_here", "_law_error", "e"] ["_law_rows_here"] (defScope sRef) := ⟨rfl, rfl, rfl, by decide +kernel, rfl, by decide +kernel, by decide +kernel⟩
theorem okRef {f T M NS c1 c2 c3 c4 c5 c6 c7 c8 c9 c10 fRdS : Addr} {fd fdRdS : FuncData} (F : Fun K "_law_refused" "_law_refused" sRef f fd) (B : Blt mg) (R : Errs K mg M NS c1 c2 c3 c4 c5 c6 c7 c8 c9 c10)
    (FRdS : Fun K "read_stand" "read_stand" sRdS fRdS fdRdS) (mRdS : mg "read_stand" = some (.ref fRdS)) (GRdS : FnOk P w K mg base (CXR P w) 5 fRdS fdRdS ["text"] (spRdS T NS)) : FnOk P w K mg base CX0 6 f fd ["_law_rows_here"] spRef := by
  have bRdS := FRdS.binds (ps := ["text"]) fun _ _ _ _ _ _ us hl => match us, hl with | [_], _ => rfl
  refine F.ok scRef (fun vs H Q E h => ?_) (fun cdv A outer s H vs Q E hr h => ?_)
  · obtain ⟨l, rows, rfl, _⟩ := h
    rfl
  · obtain ⟨l, rows, rfl, hl, rf, q⟩ := h
    refine ⟨_, (pss_cons (ps_set (i := 1) scRef.nd rfl (Or.inl rfl) pe_non)
        (pss_cutE (ps_tryAs (i := 2) scRef.nd rfl rfl rfl rfl R.mM rfl (fun XE pn E hp => pss_one (ps_expr (pe_callS GRdS hr rfl mRdS FRdS.kp bRdS .nil hp (pa_cons (pe_bmK K PySem.F.plainAttrs_str PySem.F.slot_str_join PySem.F.type_str_join (mt_joinK K) pe_str (pa_cons (pv 0) pa_nil)) pa_nil)))) (fun a => pss_one (ps_set (i := 1) scRef.nd rfl (Or.inl rfl) (pv 2))))
        (pss_cons (ps_if (pt_val (pe_callB call_isiU (by rfl) B.isinstance PyProof.Rows.boot_isinstance (pa_cons (pv 1) (pa_cons (pe_tupN (pa_cons (pe_glob (v := .ref c1) rfl R.m1 rfl) (pa_cons (pe_glob (v := .ref c2) rfl R.m2 rfl) (pa_cons (pe_glob (v := .ref c3) rfl R.m3 rfl) (pa_cons (pe_glob (v := .ref c4) rfl R.m4 rfl) (pa_cons (pe_glob (v := .ref c5) rfl R.m5 rfl) (pa_cons (pe_glob (v := .ref c6) rfl R.m6 rfl) (pa_cons (pe_glob (v := .ref c7) rfl R.m7 rfl) (pa_cons (pe_glob (v := .ref c8) rfl R.m8 rfl) pa_nil))))))))) pa_nil))))
        (pss_one (ps_ret pe_bl)) pss_nil)
        (pss_cons (ps_if (pt_val (pe_callB call_isiU (by rfl) B.isinstance PyProof.Rows.boot_isinstance (pa_cons (pv 1) (pa_cons (pe_tupN (pa_cons (pe_glob (v := .ref c9) rfl R.m9 rfl) (pa_cons (pe_glob (v := .ref c10) rfl R.m10 rfl) pa_nil))) pa_nil))))
        (pss_one (ps_ret pe_bl)) pss_nil)
        (pss_one (ps_ret (pe_and (pe_callB call_isiO (by rfl) B.isinstance PyProof.Rows.boot_isinstance (pa_cons (pv 1) (pa_cons (pe_glob (v := .ref NS) rfl R.mN rfl) pa_nil))) (pe_one (pe_callB call_isiT (by rfl) B.isinstance PyProof.Rows.boot_isinstance (pa_cons (pv 1) (pa_cons (pe_bltn (v := .ty "ValueError") rfl B.verr PyProof.Rows.Boot.«ValueError» rfl) pa_nil))))))))))), ?_⟩
    obtain ⟨j1, j2⟩ := joined rf.len rf.sh
    refine ⟨fun σ' H' => ∃ a, σ' = [some (.ref l), some (.ref a), none] ∧ H' a = some (excO a (.ref NS)) ∧ Same H H', ?_, ?_⟩
    · refine ⟨rfl, _, rfl, nlS, l, rows, rfl, rfl, SqL.of hl, j1, ?_⟩
      rw [join_eq]
      refine ⟨_, rfl, j2, by rw [rf.back]; have := rf.len; omega, .inl ⟨rf.bad, fun H' s' => ⟨R.ex, fun a ha => ?_⟩⟩⟩
      exact ⟨_, rfl, a, rfl, upd_same, s'.trans (same_upd ha)⟩
    · rintro σ' H' ⟨a, rfl, ha, s0⟩
      refine ⟨_, rfl, (by show 8 ≤ sizeLine; decide), fun t1 H1 n1 s1 e1 => ?_⟩
      refine ⟨a, NS, t1, [c1, c2, c3, c4, c5, c6, c7, c8], false, rfl, s1 _ _ ha, e1, R.xc, R.k8, _, rfl, iteF' ?_⟩
      refine ⟨_, rfl, (by show 2 ≤ sizeLine; decide), fun t2 H2 n2 s2 e2 => ?_⟩
      have s12 := s1.trans s2
      refine ⟨a, NS, t2, [c9, c10], false, rfl, s12 _ _ ha, e2, R.xc, R.k2, _, rfl, iteF' ?_⟩
      refine ⟨_, rfl, a, NS, NS, true, rfl, s12 _ _ ha, R.xc, R.kN, _, rfl, iteT' ?_⟩
      exact ⟨_, rfl, a, NS, "ValueError", true, rfl, s12 _ _ ha, R.xc, R.kV, q _ (s0.trans s12)⟩

/-! ### the rows of a good stand -/
def spRow : Sp := fun vs H Q _ => ∃ c : Int, vs = [.int c] ∧ ∀ (l : Addr) (H' : Hp) (b m : List Str), H l = none → Same H H' → H' l = some (.lst ((baseR b m).map V.str)) → b.length ≤ 4 → m.length ≤ 4 → (∀ x ∈ b, IsLn x) → (∀ x ∈ m, IsLn x) → Q (.ref l) H'
theorem scRow : FnScope ["_law_cell", "_law_rows_here"] ["_law_cell"] (defScope sRow) := ⟨rfl, rfl, rfl, by decide +kernel, rfl, by decide +kernel, by decide +kernel⟩
theorem okRow {f fMix fLis fLin : Addr} {fd fdMix fdLis fdLin : FuncData} (F : Fun K "_law_rows" "_law_rows" sRow f fd) (B : Blt mg) (FMix : Fun K "_law_mixed" "_law_mixed" sMix fMix fdMix) (mMix : mg "_law_mixed" = some (.ref fMix)) (FLin : Fun K "_law_line" "_law_line" sLin fLin fdLin) (mLin : mg "_law_line" = some (.ref fLin))
    (FLis : Fun K "_law_lines" "_law_lines" sLis fLis fdLis) (mLis : mg "_law_lines" = some (.ref fLis)) : FnOk P w K mg base CX0 3 f fd ["_law_cell"] spRow := by
  have GMix : FnOk P w K mg base CX0 1 fMix fdMix ["_law_cell", "_law_k"] spMix := okMix FMix
  have bMix := FMix.binds (ps := ["_law_cell", "_law_k"]) fun _ _ _ _ _ _ us hl => match us, hl with | [_, _], _ => rfl
  have GLis : FnOk P w K mg base CX0 2 fLis fdLis ["_law_number"] spLis := okLis FLis B FMix mMix FLin mLin
  have bLis := FLis.binds (ps := ["_law_number"]) fun _ _ _ _ _ _ us hl => match us, hl with | [_], _ => rfl
  refine F.ok scRow (fun vs H Q E h => ?_) (fun cdv A outer s H vs Q E hr h => ?_)
  · obtain ⟨c, rfl, _⟩ := h
    rfl
  · refine letX ?_
    intro xX dX
    obtain ⟨c, rfl, q⟩ := h
    have hr1 := hr.mono (j := 1) (by decide)
    refine ⟨_, (pss_cons (ps_set (i := 1) scRow.nd rfl (Or.inl rfl) (pe_lstN (pa_cons pe_str (pa_cons pe_str (pa_cons pe_str (pa_cons pe_str pa_nil))))))
        (pss_cons (ps_set (i := 1) scRow.nd rfl (Or.inl rfl) (pe_op op_catN (pe_op op_catN (pv 1)
          (pe_compF ["_law_line_here"] [] [] ⟨rfl, by decide +kernel, by decide +kernel, by decide +kernel, by decide +kernel, rfl, rfl, rfl⟩ rfl (pi_list (pe_call GLis hr (by rfl) mLis FLis.kp bLis .nil pass0 (pa_cons (pe_call GMix hr1 (by rfl) mMix FMix.kp bMix .nil pass0 (pa_cons (pv 0) (pa_cons pe_int pa_nil))) pa_nil))) (fun _ _ _ _ => (pg_name (i := 0) (show List.Nodup (["_law_line_here"] : List Str) by decide +kernel) rfl (Or.inl rfl))) (fun _ _ _ _ => pts_nil) (fun _ _ _ _ => (pe_op op_add_str pe_str (pv 0)))))
          (pe_lstN (pa_cons pe_str (pa_cons pe_str pa_nil)))))
        (pss_cons (ps_set (i := 1) scRow.nd rfl (Or.inl rfl) (pe_op op_catN (pv 1)
          (pe_compF ["_law_line_here"] [] [] ⟨rfl, by decide +kernel, by decide +kernel, by decide +kernel, by decide +kernel, rfl, rfl, rfl⟩ rfl (pi_list (pe_call GLis hr (by rfl) mLis FLis.kp bLis .nil pass0 (pa_cons (pe_call GMix hr1 (by rfl) mMix FMix.kp bMix .nil pass0 (pa_cons (pv 0) (pa_cons pe_int pa_nil))) pa_nil))) (fun _ _ _ _ => (pg_name (i := 0) (show List.Nodup (["_law_line_here"] : List Str) by decide +kernel) rfl (Or.inl rfl))) (fun _ _ _ _ => pts_nil) (fun _ _ _ _ => (pe_op op_add_str pe_str (pv 0))))))
        (pss_one (ps_ret (pe_op op_catN (pv 1) (pe_lstN (pa_cons pe_str (pa_cons pe_str (pa_cons pe_str pa_nil)))))))))), ?_⟩
    refine lets4 ?_
    intro dD sS uU4 uU3 uU2
    refine ⟨(by show 4 ≤ sizeLine; decide), fun l0 H1 n1 s1 e1 => ?_⟩
    have e1 : H1 l0 = some (.lst (headS.map V.str)) := e1
    refine ⟨_, rfl, _, rfl, c, _, rfl, fun m1 => ⟨m1, rfl, fun l1 H2 b n2 s2 e2 b4 bl => ⟨l1, rfl, ⟨_, SqL.of e2⟩, ?_⟩⟩⟩
    refine comp_mapL (σ0 := [none]) (SqL.of e2) (fun σ => ∃ v, σ = [v]) ((b.map (ltS ++ ·)).map V.str) (by rw [List.length_map, List.length_map, List.length_map]) (bigZ (by rw [List.length_map]; omega)) ⟨_, rfl⟩ ?_ ?_
    · intro i z y σ H3 k hz hy hQ hs hk
      obtain ⟨v, rfl⟩ := hQ
      obtain ⟨x, hx, rfl⟩ := map_at hz
      rw [List.map_map] at hy
      obtain ⟨x', hx', rfl⟩ := map_at hy
      rw [hx] at hx'
      cases hx'
      have := (bl x (List.mem_of_getElem? hx)).hi
      exact ⟨_, rfl, _, _, rfl, rfl, bigZ (by show ltS.length + _ ≤ _; rw [lt_eq, len_one]; omega), hk _ _ ⟨_, rfl⟩ (Same.refl _)⟩
    intro D1 H3 n3 e3 s3
    refine ⟨l0, D1, _, _, rfl, rfl, s3 _ _ (s2 _ _ e1), e3, bigZ (by rw [List.length_map, List.length_map, List.length_map]; show 4 + _ ≤ _; omega), fun l2 H4 n4 s4 e4 => ?_⟩
    refine ⟨(by show 2 ≤ sizeLine; decide), fun l3 H5 n5 s5 e5 => ?_⟩
    have e5 : H5 l3 = some (.lst (([("<" : Str), (">" : Str)]).map V.str)) := e5
    refine ⟨l2, l3, _, _, rfl, rfl, s5 _ _ e4, e5, bigZ (by simp only [List.length_append, List.length_map]; show 4 + _ + 2 ≤ _; omega), fun l4 H6 n6 s6 e6 => ?_⟩
    have s16 := s1.trans (s2.trans (s3.trans (s4.trans (s5.trans s6))))
    refine ⟨_, rfl, _, rfl, c, _, rfl, fun m2 => ⟨m2, rfl, fun l5 H7 m n7 s7 e7 m4 ml => ⟨l5, rfl, ⟨_, SqL.of e7⟩, ?_⟩⟩⟩
    refine comp_mapL (σ0 := [none]) (SqL.of e7) (fun σ => ∃ v, σ = [v]) ((m.map (gtS ++ ·)).map V.str) (by rw [List.length_map, List.length_map, List.length_map]) (bigZ (by rw [List.length_map]; omega)) ⟨_, rfl⟩ ?_ ?_
    · intro i z y σ H8 k hz hy hQ hs hk
      obtain ⟨v, rfl⟩ := hQ
      obtain ⟨x, hx, rfl⟩ := map_at hz
      rw [List.map_map] at hy
      obtain ⟨x', hx', rfl⟩ := map_at hy
      rw [hx] at hx'
      cases hx'
      have := (ml x (List.mem_of_getElem? hx)).hi
      exact ⟨_, rfl, _, _, rfl, rfl, bigZ (by show gtS.length + _ ≤ _; rw [gt_eq, len_one]; omega), hk _ _ ⟨_, rfl⟩ (Same.refl _)⟩
    intro D2 H8 n8 e8 s8
    refine ⟨l4, D2, _, _, rfl, rfl, s8 _ _ (s7 _ _ e6), e8, bigZ (by simp only [List.length_append, List.length_map]; show 4 + _ + 2 + _ ≤ _; omega), fun l6 H9 n9 s9 e9 => ?_⟩
    refine ⟨_, rfl, (by show 3 ≤ sizeLine; decide), fun l7 H10 n10 s10 e10 => ?_⟩
    have e10 : H10 l7 = some (.lst (tailS.map V.str)) := e10
    refine ⟨l6, l7, _, _, rfl, rfl, s10 _ _ e9, e10, bigZ (by simp only [List.length_append, List.length_map]; show 4 + _ + 2 + _ + 3 ≤ _; omega), fun l8 H11 n11 s11 e11 => ?_⟩
    have s111 := s16.trans (s7.trans (s8.trans (s9.trans (s10.trans s11))))
    have s110 := s16.trans (s7.trans (s8.trans (s9.trans s10)))
    refine q l8 H11 b m (s110.free n11) s111 ?_ b4 m4 bl ml
    rw [e11]
    unfold baseR
    simp only [List.map_append]

/-! ### a bad row -/
def spBad : Sp := fun vs H Q _ => ∃ c : Int, vs = [.int c] ∧ ∀ x ∈ badS, ∀ H', Same H H' → Q (.str x) H'
theorem scBad : FnScope ["_law_cell", "_law_some"] ["_law_cell"] (defScope sBad) := ⟨rfl, rfl, rfl, by decide +kernel, rfl, by decide +kernel, by decide +kernel⟩
theorem okBad {f : Addr} {fd : FuncData} (F : Fun K "_law_bad" "_law_bad" sBad f fd) (B : Blt mg) : FnOk P w K mg base CX0 1 f fd ["_law_cell"] spBad := by
  refine F.ok scBad (fun vs H Q E h => ?_) (fun cdv A outer s H vs Q E hr h => ?_)
  · obtain ⟨c, rfl, _⟩ := h
    rfl
  · refine letX ?_
    intro xX dX
    obtain ⟨c, rfl, q⟩ := h
    refine ⟨_, (pss_cons (ps_set (i := 1) scBad.nd rfl (Or.inl rfl) (pe_lstN (pa_cons pe_str (pa_cons pe_str (pa_cons pe_str (pa_cons pe_str (pa_cons pe_str (pa_cons pe_str (pa_cons pe_str pa_nil)))))))))
        (pss_cons (ps_set (i := 1) scBad.nd rfl (Or.inl rfl) (pe_op op_catN (pv 1) (pe_lstN (pa_cons pe_str (pa_cons pe_str (pa_cons pe_str (pa_cons pe_str (pa_cons pe_str (pa_cons pe_str pa_nil)))))))))
        (pss_cons (ps_set (i := 1) scBad.nd rfl (Or.inl rfl) (pe_op op_catN (pv 1) (pe_lstN (pa_cons pe_str (pa_cons pe_str (pa_cons pe_str (pa_cons pe_str (pa_cons pe_str (pa_cons pe_str pa_nil)))))))))
        (pss_cons (ps_set (i := 1) scBad.nd rfl (Or.inl rfl) (pe_op op_catN (pv 1) (pe_lstN (pa_cons pe_str (pa_cons pe_str (pa_cons pe_str (pa_cons pe_str (pa_cons pe_str (pa_cons pe_str pa_nil)))))))))
        (pss_cons (ps_set (i := 1) scBad.nd rfl (Or.inl rfl) (pe_op op_catN (pv 1) (pe_lstN (pa_cons pe_str (pa_cons pe_str (pa_cons pe_str (pa_cons pe_str (pa_cons pe_str (pa_cons pe_str (pa_cons pe_str pa_nil))))))))))
        (pss_one (ps_ret (pe_ix ix_list (pv 1) (pe_op op_mod (pv 0) (pe_callB call_len_seq (by rfl) B.len PySem.boot_len (pa_cons (pv 1) pa_nil))) (fun _ _ => rfl))))))))), ?_⟩
    refine lets6 ?_
    intro dD sS uU6 uU5 uU4 uU3 uU2
    refine ⟨(by show 7 ≤ sizeLine; decide), fun l0 H1 n1 s1 e1 => ?_⟩
    refine ⟨_, rfl, (by show 6 ≤ sizeLine; decide), fun l1 H2 n2 s2 e2 => ⟨l0, l1, _, _, rfl, rfl, s2 _ _ e1, e2, (by show 7 + 6 ≤ sizeLine; decide), fun l2 H3 n3 s3 e3 => ?_⟩⟩
    refine ⟨_, rfl, (by show 6 ≤ sizeLine; decide), fun l3 H4 n4 s4 e4 => ⟨l2, l3, _, _, rfl, rfl, s4 _ _ e3, e4, (by show 13 + 6 ≤ sizeLine; decide), fun l4 H5 n5 s5 e5 => ?_⟩⟩
    refine ⟨_, rfl, (by show 6 ≤ sizeLine; decide), fun l5 H6 n6 s6 e6 => ⟨l4, l5, _, _, rfl, rfl, s6 _ _ e5, e6, (by show 19 + 6 ≤ sizeLine; decide), fun l6 H7 n7 s7 e7 => ?_⟩⟩
    refine ⟨_, rfl, (by show 7 ≤ sizeLine; decide), fun l7 H8 n8 s8 e8 => ⟨l6, l7, _, _, rfl, rfl, s8 _ _ e7, e8, (by show 25 + 7 ≤ sizeLine; decide), fun l8 H9 n9 s9 e9 => ?_⟩⟩
    have e9 : H9 l8 = some (.lst (badS.map V.str)) := e9
    have s19 := s1.trans (s2.trans (s3.trans (s4.trans (s5.trans (s6.trans (s7.trans (s8.trans s9)))))))
    obtain ⟨z, hz, zm⟩ := atI_strs (xs := badS) (r := c % ((badS.map V.str).length : Int)) (Int.emod_nonneg _ (by rw [List.length_map, bad_len]; decide)) (by rw [List.length_map, bad_len]; omega)
    exact ⟨_, rfl, _, rfl, _, rfl, l8, _, rfl, .inl (SqL.of e9), _, _, rfl, rfl, (by show (0 : Int) < ((badS.map V.str).length : Int); rw [List.length_map, bad_len]; decide), l8, _, _, _, rfl, rfl, SqL.of e9, hz, q z (List.mem_of_getElem? zm) H9 s19⟩
end
end K35

set_option Elab.async false
set_option linter.all false
set_option maxRecDepth 100000
set_option maxHeartbeats 4000000
namespace K35
open PySem L2 PySem.Spec
/-! ### refused, pure -/
theorem rows_140 {ch : Ch} {cs : Cs} {ow : Ow} (ok : OkS ch cs ow) : ∀ r ∈ rowsT ch cs ow, r.length ≤ 140 := fun r h => by
  rcases rows_cases ok h with ⟨e, a, b, rfl⟩ | ⟨e, a, b, rfl⟩ | ⟨p, a, rfl⟩ | ⟨x, a, rfl⟩ | ⟨x, a, rfl⟩
  · have := row3_len (a := inS) (b := e.1) (c := mkS e.2) (by decide +kernel) (by have := a.hi; omega) (mkS_len b.ok)
    unfold rowI
    omega
  · have := row3_len (a := chS) (b := e.1) (c := e.2) (by decide +kernel) (by have := a.hi; omega) (by have := b.hi; omega)
    unfold rowC
    omega
  · obtain ⟨ps, rfl, p1, p2, p3⟩ := a
    have := join_short (sep := slS) (b := 8) (fun p hp => (p3 p hp).hi) (by rw [sl_eq]; decide)
    rw [← ow_app, len_app, show (Str.ofString "own ").length = 4 by decide +kernel]
    omega
  · rw [len_app, lt_eq, len_one]
    have := a.hi
    omega
  · rw [len_app, gt_eq, len_one]
    have := a.hi
    omega
structure Ext (r : Str) : Prop where
  g : goodB r = true
  f : 10 ∉ r.cps.toList
  n : r ≠ Str.empty
  l : r.length ≤ 140
theorem base_ext {b m : List Str} (hb : ∀ x ∈ b, IsLn x) (hm : ∀ x ∈ m, IsLn x) : ∀ r ∈ baseR b m, Ext r := fun r h => by
  rw [base_eq] at h
  have ok := okR hb hm
  exact ⟨rows_good ok r h, (rows_free ok r h).1, (rows_free ok r h).2, rows_140 ok r h⟩
theorem base_len {b m : List Str} (h1 : b.length ≤ 4) (h2 : m.length ≤ 4) : 9 ≤ (baseR b m).length ∧ (baseR b m).length ≤ 17 := by
  unfold baseR
  simp only [List.length_append, List.length_map]
  show 9 ≤ 4 + _ + 2 + _ + 3 ∧ 4 + _ + 2 + _ + 3 ≤ 17
  omega
theorem mkRef {rows : List Str} (hx : ∀ r ∈ rows, Ext r) (hl : rows.length ≤ 20) (ho : Odd rows) : Ref rows := by
  have hg : ∀ r ∈ rows, goodB r = true := fun r hr => (hx r hr).g
  obtain ⟨a, b⟩ := bad_of_odd hg (fun r hr => ⟨(hx r hr).f, (hx r hr).n⟩) ho (few_len hg hl)
  exact ⟨a, b, by omega, fun r hr => by have := (hx r hr).l; omega⟩
section
variable {b m : List Str} (hb : ∀ x ∈ b, IsLn x) (hm : ∀ x ∈ m, IsLn x) (h1 : b.length ≤ 4) (h2 : m.length ≤ 4)
include hb hm h1 h2
theorem ref1 {k : Nat} {x : Str} (hx : x ∈ badS) : Ref ((baseR b m).take k ++ [x] ++ (baseR b m).drop k) := by
  obtain ⟨g, f, l⟩ := bad_all x hx
  obtain ⟨l1, l2⟩ := base_len h1 h2
  have mem : ∀ r ∈ (baseR b m).take k ++ [x] ++ (baseR b m).drop k, r ∈ baseR b m ∨ r = x := fun r hr => by
    rcases List.mem_append.mp hr with hr | hr
    · rcases List.mem_append.mp hr with hr | hr
      · exact .inl (List.mem_of_mem_take hr)
      · exact .inr (List.mem_singleton.mp hr)
    · exact .inl (List.mem_of_mem_drop hr)
  have len : ((baseR b m).take k ++ [x] ++ (baseR b m).drop k).length = (baseR b m).length + 1 := by
    rw [List.length_append, List.length_append, List.length_take, List.length_drop, List.length_singleton]
    omega
  obtain ⟨a, c⟩ := bad_of_row (rows := (baseR b m).take k ++ [x] ++ (baseR b m).drop k) (fun r hr => (mem r hr).elim (fun z => (base_ext hb hm r z).f) fun z => by rw [z]; exact f) (by omega) (x := x) (List.mem_append_left _ (List.mem_append_right _ (List.mem_singleton.mpr rfl))) g
  exact ⟨a, c, by omega, fun r hr => (mem r hr).elim (fun z => by have := (base_ext hb hm r z).l; omega) fun z => by rw [z]; omega⟩
theorem ref3 {k : Nat} {r : Str} (hr : (baseR b m)[k]? = some r) (hn : nlB r = true) : Ref ((baseR b m).take (k + 1) ++ (baseR b m).drop k) := by
  obtain ⟨l1, l2⟩ := base_len h1 h2
  have hk : k < (baseR b m).length := (List.getElem?_eq_some_iff.mp hr).1
  have ed : (baseR b m).drop k = r :: (baseR b m).drop (k + 1) := by
    rw [List.drop_eq_getElem_cons hk]
    have := (List.getElem?_eq_some_iff.mp hr).2
    rw [this]
  refine mkRef (fun x hx => ?_) ?_ ?_
  · rcases List.mem_append.mp hx with hx | hx
    · exact base_ext hb hm x (List.mem_of_mem_take hx)
    · exact base_ext hb hm x (List.mem_of_mem_drop hx)
  · rw [List.length_append, List.length_take, List.length_drop]
    omega
  · rw [ed, take_snoc hr, List.append_assoc]
    exact odd_twice hn
theorem ref4 {x : Str} (hx : x = "<x" ∨ x = ">") : Ref (x :: baseR b m) := by
  obtain ⟨l1, l2⟩ := base_len h1 h2
  refine mkRef (fun r hr => ?_) (by rw [List.length_cons]; omega) (.inl ⟨x, _, rfl, ?_⟩)
  · rcases List.mem_cons.mp hr with hr | hr
    · rw [hr]
      rcases hx with rfl | rfl
      · exact ⟨gX, by decide +kernel, by decide +kernel, by decide +kernel⟩
      · exact ⟨gG, by decide +kernel, by decide +kernel, by decide +kernel⟩
    · exact base_ext hb hm r hr
  · rcases hx with rfl | rfl
    · refine .inl ?_
      rw [show ("<x" : Str) = ltS ++ "x" by decide +kernel]
      exact lt_starts _
    · refine .inr ?_
      rw [show (">" : Str) = gtS ++ "" by decide +kernel]
      exact gt_starts _
theorem ref5 : Ref ((baseR b m).take 3 ++ (["<x"] : List Str) ++ (baseR b m).drop 3) := by
  obtain ⟨l1, l2⟩ := base_len h1 h2
  refine mkRef (fun r hr => ?_) ?_ (.inr (.inl ⟨["in b 1.2", "in c 0"], "choose d b", "<x", (baseR b m).drop 3, rfl, okp_no2⟩))
  · rcases List.mem_append.mp hr with hr | hr
    · rcases List.mem_append.mp hr with hr | hr
      · exact base_ext hb hm r (List.mem_of_mem_take hr)
      · rw [List.mem_singleton.mp hr]
        exact ⟨gX, by decide +kernel, by decide +kernel, by decide +kernel⟩
    · exact base_ext hb hm r (List.mem_of_mem_drop hr)
  · rw [List.length_append, List.length_append, List.length_take, List.length_drop, List.length_singleton]
    omega
theorem ref6 {x : Str} (hx : x ∈ moreS) : Ref (baseR b m ++ [x]) := by
  obtain ⟨l1, l2⟩ := base_len h1 h2
  obtain ⟨g, f, n, l⟩ := more_good x hx
  refine mkRef (fun r hr => ?_) (by rw [List.length_append, List.length_singleton]; omega) (odd_more b m x hx)
  rcases List.mem_append.mp hr with hr | hr
  · exact base_ext hb hm r hr
  · rw [List.mem_singleton.mp hr]
    exact ⟨g, f, n, by omega⟩
theorem ref7 : Ref ("in c 0" :: "in b 1.2" :: (baseR b m).drop 2) := by
  obtain ⟨l1, l2⟩ := base_len h1 h2
  have h0 : ("in b 1.2" : Str) ∈ baseR b m := List.mem_of_getElem? (i := 0) rfl
  have h1' : ("in c 0" : Str) ∈ baseR b m := List.mem_of_getElem? (i := 1) rfl
  refine mkRef (fun r hr => ?_) (by rw [List.length_cons, List.length_cons, List.length_drop]; omega) (odd_swap _)
  rcases List.mem_cons.mp hr with hr | hr
  · rw [hr]; exact base_ext hb hm _ h1'
  · rcases List.mem_cons.mp hr with hr | hr
    · rw [hr]; exact base_ext hb hm _ h0
    · exact base_ext hb hm r (List.mem_of_mem_drop hr)
theorem base_read : rowsOf (Str.join nlS (baseR b m)) = baseR b m ∧ Okp (baseR b m) ∧ Few (baseR b m) ∧ Shown (baseR b m) (Str.join nlS (baseR b m)) := by
  have := shown_of (okR hb hm) ndC ndH (ndO b m) srtC srtH (srtO b m) (fun e he => by
    simp only [owR, List.mem_cons, List.not_mem_nil, or_false] at he
    rcases he with rfl | rfl
    · refine ⟨?_, ?_⟩
      · show (b ++ ([""] : List Str)).length ≤ 20
        rw [List.length_append]
        show b.length + 1 ≤ 20
        omega
      · show (("" : Str) :: m).length ≤ 20
        rw [List.length_cons]
        omega
    · exact ⟨by decide, by decide⟩)
  rw [← base_eq] at this
  exact ⟨this.1, this.2.2⟩
end
/-! ### many lines of one change -/
def manyR (d : Bool) (n : Nat) : List Str := "own a" :: List.replicate n ((if d = true then gtS else ltS) ++ "line")
def manyO (d : Bool) (n : Nat) : Ow := [("a", if d = true then ([], List.replicate n "line") else (List.replicate n "line", []))]
theorem many_eq (d : Bool) (n : Nat) : manyR d n = rowsT [] [] (manyO d n) := by
  have e : ("own a" : Str) = Str.join spS [owS, "a"] := by decide +kernel
  show manyR d n = [] ++ [] ++ (rowO ("a", if d = true then ([], List.replicate n "line") else (List.replicate n "line", [])) ++ [])
  unfold manyR rowO
  cases d with
  | false =>
    simp only [List.nil_append, List.append_nil, List.map_nil, Bool.false_eq_true, if_false, List.map_replicate]
    rw [e]
    rfl
  | true =>
    simp only [List.nil_append, List.append_nil, List.map_nil, if_true, List.map_replicate]
    rw [e]
    rfl
theorem many_ok (d : Bool) (n : Nat) : OkS [] [] (manyO d n) := by
  have ln : ∀ x ∈ List.replicate n ("line" : Str), IsLn x := fun x hx => by
    rw [List.eq_of_mem_replicate hx]
    exact ln_of (by decide +kernel)
  refine ⟨(fun _ z => nomatch z), (fun _ z => nomatch z), fun e he => ?_⟩
  rw [List.mem_singleton.mp he]
  cases d with
  | false => exact ⟨ptC, ln, (fun _ z => nomatch z)⟩
  | true => exact ⟨ptC, (fun _ z => nomatch z), ln⟩
theorem many_nd (d : Bool) (n : Nat) : ((manyO d n).map (·.1)).Nodup := List.nodup_cons.mpr ⟨(fun z => nomatch z), List.nodup_nil⟩
theorem srt0 {β : Type} : Srt ([] : List (Str × β)) [] := ⟨.nil, rfl⟩
theorem many_len (d : Bool) (n : Nat) : (manyR d n).length = n + 1 := by
  unfold manyR
  rw [List.length_cons, List.length_replicate]
theorem many_ref {d : Bool} {n : Nat} (h1 : 20 < n) (h2 : n ≤ 22) : Ref (manyR d n) := by
  have ok := many_ok d n
  obtain ⟨ck, b, m, hn⟩ := noted_rows ok List.nodup_nil List.nodup_nil (many_nd d n)
  have hb : rowsOf (Str.join nlS (manyR d n)) = manyR d n := by
    rw [many_eq]
    exact rows_back (rows_free ok)
  refine ⟨hb, .inr (.inl ?_), by rw [many_len]; omega, fun r hr => ?_⟩
  · rw [hb]
    refine ⟨fun r hr => ?_, fun hf => ?_⟩
    · rw [many_eq] at hr
      exact rows_good ok r hr
    · unfold Few at hf
      rw [many_eq, hn] at hf
      have := hf _ (List.mem_singleton.mpr rfl)
      cases d with
      | false =>
        have h := this.1
        have h : (List.replicate n ("line" : Str)).length ≤ 20 := h
        rw [List.length_replicate] at h
        omega
      | true =>
        have h := this.2
        have h : (List.replicate n ("line" : Str)).length ≤ 20 := h
        rw [List.length_replicate] at h
        omega
  · rw [many_eq] at hr
    have := rows_140 ok r hr
    omega
theorem many_read {d : Bool} {n : Nat} (h2 : n ≤ 20) : rowsOf (Str.join nlS (manyR d n)) = manyR d n ∧ (noted (manyR d n)).ow = manyO d n ∧ Okp (manyR d n) ∧ Few (manyR d n) ∧ Shown (manyR d n) (Str.join nlS (manyR d n)) := by
  have := shown_of (many_ok d n) List.nodup_nil List.nodup_nil (many_nd d n) srt0 srt0 ⟨.refl _, rfl⟩ (fun e he => by
    rw [List.mem_singleton.mp he]
    cases d with
    | false =>
      refine ⟨?_, Nat.zero_le _⟩
      show (List.replicate n ("line" : Str)).length ≤ 20
      rw [List.length_replicate]
      omega
    | true =>
      refine ⟨Nat.zero_le _, ?_⟩
      show (List.replicate n ("line" : Str)).length ≤ 20
      rw [List.length_replicate]
      omega)
  rw [← many_eq] at this
  exact this
theorem rep_map (n : Nat) (s : Str) : (List.replicate n [V.str s]).flatten = (List.replicate n s).map V.str := by
  induction n with
  | zero => rfl
  | succ n ih =>
    rw [List.replicate_succ, List.flatten_cons, ih, List.replicate_succ, List.map_cons]
    rfl
end K35

set_option Elab.async false
set_option linter.all false
set_option maxRecDepth 100000
set_option maxHeartbeats 4000000
namespace K35
open PySem L2 PySem.Spec
section
variable {P : Program} {w : World} {K : PySem.W.Frag} {mg : Str → Option Value} {base : Heap}
def spMan : Sp := fun vs H Q _ => ∃ c : Int, vs = [.int c] ∧ ∀ H', Same H H' → Q (.bl true) H'
theorem scMan : FnScope ["_law_cell", "_law_many_here", "_law_rows_here", "_law_record"] ["_law_cell"] (defScope sMan) := ⟨rfl, rfl, rfl, by decide +kernel, rfl, by decide +kernel, by decide +kernel⟩
theorem okMan {f T NS fRdS fRef : Addr} {fd fdRdS fdRef : FuncData} (F : Fun K "_law_many" "_law_many" sMan f fd) (B : Blt mg) (UT : TxtT K mg T)
    (FRdS : Fun K "read_stand" "read_stand" sRdS fRdS fdRdS) (mRdS : mg "read_stand" = some (.ref fRdS)) (GRdS : FnOk P w K mg base (CXR P w) 5 fRdS fdRdS ["text"] (spRdS T NS))
    (FRef : Fun K "_law_refused" "_law_refused" sRef fRef fdRef) (mRef : mg "_law_refused" = some (.ref fRef)) (GRef : FnOk P w K mg base CX0 6 fRef fdRef ["_law_rows_here"] spRef) : FnOk P w K mg base CX0 7 f fd ["_law_cell"] spMan := by
  have bRdS := FRdS.binds (ps := ["text"]) fun _ _ _ _ _ _ us hl => match us, hl with | [_], _ => rfl
  have bRef := FRef.binds (ps := ["_law_rows_here"]) fun _ _ _ _ _ _ us hl => match us, hl with | [_], _ => rfl
  refine F.ok scMan (fun vs H Q E h => ?_) (fun cdv A outer s H vs Q E hr h => ?_)
  · obtain ⟨c, rfl, _⟩ := h
    rfl
  · refine letX ?_
    intro xX dX
    obtain ⟨c, rfl, q⟩ := h
    have hu := hr.units
    have hr5 := hr.mono (j := 5) (by decide)
    refine ⟨_, (pss_cons (ps_set (i := 1) scMan.nd rfl (Or.inl rfl) (pe_op op_add pe_int (pe_op op_mod (pv 0) pe_int)))
        (pss_cons (ps_set (i := 2) scMan.nd rfl (Or.inl rfl) (pe_op op_catN (pe_lstN (pa_cons pe_str pa_nil)) (pe_op op_rep (pe_lstN (pa_cons (pe_op op_add_str (pe_ix ix_list (pe_lstN (pa_cons pe_str (pa_cons pe_str pa_nil))) (pe_op op_mod (pe_op op_fdiv (pv 0) pe_int) pe_int) (fun _ _ => rfl)) pe_str) pa_nil)) (pv 1))))
        (pss_cons (ps_if (pt_cmpR op_gt (pv 1) pe_int (nomark _)) (pss_one (ps_ret (pe_call GRef hr (by rfl) mRef FRef.kp bRef .nil pass0 (pa_cons (pv 2) pa_nil)))) pss_nil)
        (pss_cons (ps_set (i := 3) scMan.nd rfl (Or.inl rfl) (pe_dget hu (pe_fld (pe_call GRdS hr5 (by rfl) mRdS FRdS.kp bRdS .nil passN (pa_cons (pe_bm PySem.F.plainAttrs_str PySem.F.slot_str_join PySem.F.type_str_join mt_join pe_str (pa_cons (pv 2) pa_nil)) pa_nil)) rfl) pe_str (fun _ _ => rfl)))
        (pss_one (ps_ret (pe_cmpR op_eq (pe_callB call_len_seq (by rfl) B.len PySem.boot_len (pa_cons (pe_ix ix_tup (pv 3) (pe_op op_mod (pe_op op_fdiv (pv 0) pe_int) pe_int) (fun _ _ => rfl)) pa_nil)) (pv 1) (nomark _)))))))), ?_⟩
    refine lets5 ?_
    intro dD sS uU5 uU4 uU3 uU2
    refine ⟨_, rfl, _, _, rfl, rfl, (by show (0 : Int) < 4; decide), _, _, rfl, rfl, ?_⟩
    refine ⟨(by show 1 ≤ sizeLine; decide), fun l1 H1 n1 s1 e1 => ?_⟩
    refine ⟨(by show 2 ≤ sizeLine; decide), fun l2 H2 n2 s2 e2 => ?_⟩
    obtain ⟨n, hn⟩ : ∃ n : Nat, 19 + c % 4 = n := ⟨(19 + c % 4).toNat, by omega⟩
    have hn1 : 19 ≤ n := by omega
    have hn2 : n ≤ 22 := by omega
    obtain ⟨d, hd⟩ : ∃ d : Bool, atI [V.str ltS, V.str gtS] (c / 4 % 2) = some (V.str (if d = true then gtS else ltS)) ∧ ∀ (x y : V), atI [x, y] (c / 4 % 2) = some (if d = true then y else x) := by
      have : c / 4 % 2 = 0 ∨ c / 4 % 2 = 1 := by omega
      rcases this with z | z
      · exact ⟨false, by rw [z]; rfl, fun x y => by rw [z]; rfl⟩
      · exact ⟨true, by rw [z]; rfl, fun x y => by rw [z]; rfl⟩
    obtain ⟨hd, hxy⟩ := hd
    have sl : (if d = true then gtS else ltS).length = 1 := by cases d <;> decide +kernel
    refine ⟨_, rfl, _, _, rfl, rfl, ⟨by omega, by omega⟩, _, _, rfl, rfl, (by show (0 : Int) < 2; decide), l2, _, _, _, rfl, rfl, SqL.of e2, hd, _, _, rfl, rfl, bigZ (by rw [sl]; decide), ?_⟩
    refine ⟨(by show 1 ≤ sizeLine; decide), fun l3 H3 n3 s3 e3 => ?_⟩
    have hk : (19 + c % 4).toNat = n := by omega
    refine ⟨_, rfl, l3, _, _, rfl, rfl, e3, by omega, by omega, (by show 1 * _ ≤ sizeLine; rw [hk]; exact bigZ (by omega)), fun l4 n4 => ?_⟩
    rw [hk, rep_map]
    have e4 : upd H3 l4 (.lst ((List.replicate n ((if d = true then gtS else ltS) ++ Str.ofString "line")).map V.str)) l4 = some (.lst ((List.replicate n ((if d = true then gtS else ltS) ++ Str.ofString "line")).map V.str)) := upd_same
    have s4 : Same H3 (upd H3 l4 (.lst ((List.replicate n ((if d = true then gtS else ltS) ++ Str.ofString "line")).map V.str))) := same_upd n4
    refine ⟨l1, l4, _, _, rfl, rfl, s4 _ _ (s3 _ _ (s2 _ _ e1)), e4, bigZ (by rw [List.length_map, List.length_replicate]; show 1 + n ≤ _; omega), fun l5 H5 n5 s5 e5 => ?_⟩
    have e5 : H5 l5 = some (.lst ((manyR d n).map V.str)) := e5
    have s15 := s1.trans (s2.trans (s3.trans (s4.trans s5)))
    refine ⟨_, rfl, _, _, rfl, rfl, _, rfl, ?_⟩
    refine ite2 (fun h1 => ?_) (fun h1 => ?_)
    · have h1 := of_decide_eq_true h1
      exact ⟨_, rfl, l5, manyR d n, rfl, e5, many_ref (by omega) hn2, fun H6 s6 => q H6 (s15.trans s6)⟩
    · have h20 : n ≤ 20 := by
        rcases Nat.lt_or_ge 20 n with z | z
        · exact absurd (decide_eq_true (by omega)) h1
        · exact z
      obtain ⟨r1, r2, r3, r4, r5⟩ := many_read (d := d) h20
      have len := many_len d n
      obtain ⟨j1, j2⟩ := joined (rows := manyR d n) (by omega) (fun r hr => by rw [many_eq] at hr; exact rows_140 (many_ok d n) r hr)
      refine ⟨rfl, _, rfl, nlS, l5, manyR d n, rfl, rfl, SqL.of e5, j1, ?_⟩
      rw [join_eq]
      refine ⟨_, rfl, j2, by rw [r1]; omega, .inr ?_⟩
      rw [r1]
      refine ⟨r3, r4, r5, fun v H6 s6 hS => ?_⟩
      rw [r2] at hS
      obtain ⟨sa, dx, fl, kc, kh, ko, rfl, a1, a2, a3, a4, _, _, ⟨kv, b1, b2⟩⟩ := hS
      obtain ⟨u, bm, g1, g2, _, tp, q1, q2, g4, g5, g6, g7⟩ := paired_val (F := OwV H6) (fun kv f z => z.1) b2 (x := "a") (List.mem_singleton.mpr rfl)
      have g4 : u = .ref tp := g4
      subst g4
      have eb : bm = (if d = true then (([] : List Str), List.replicate n ("line" : Str)) else (List.replicate n ("line" : Str), ([] : List Str))) := by
        have := List.mem_singleton.mp g2
        exact (Prod.mk.inj this).2
      subst eb
      refine ⟨sa, T, dx, fl, _, rfl, a1, UT.cl, UT.nO, a4, ko, _, rfl, (by rw [← g1]; exact DGet.k (k := .inr "a") b1), ?_⟩
      refine ⟨_, rfl, _, rfl, _, _, rfl, rfl, ⟨by omega, by omega⟩, _, _, rfl, rfl, (by show (0 : Int) < 2; decide), tp, _, _, _, rfl, rfl, SqT.of g5, hxy _ _, ?_⟩
      have fin : ∀ (l : Addr) (xs : List Str), H6 l = some (.lst (xs.map V.str)) → xs.length = n → (if d = true then V.ref q2 else V.ref q1) = V.ref l → ∃ p ys, ([if d = true then V.ref q2 else V.ref q1] : List V) = [.ref p] ∧ (SqL K H6 p ys ∨ SqT K H6 p ys) ∧ ys.length = n := fun l xs e1 e2 e3 => ⟨l, _, by rw [e3], .inl (SqL.of e1), by rw [List.length_map, e2]⟩
      obtain ⟨p, ys, f1, f2, f3⟩ : ∃ p ys, ([if d = true then V.ref q2 else V.ref q1] : List V) = [.ref p] ∧ (SqL K H6 p ys ∨ SqT K H6 p ys) ∧ ys.length = n := by
        cases d with
        | false => exact fin q1 _ g6 List.length_replicate rfl
        | true => exact fin q2 _ g7 List.length_replicate rfl
      refine ⟨p, ys, f1, f2, _, rfl, rfl, ?_⟩
      have e9 : decide (V.int ((ys.length : Nat) : Int) = V.int (19 + c % 4)) = true := decide_eq_true (by rw [f3, hn])
      show dX.rt (.bl (decide (V.int ((ys.length : Nat) : Int) = V.int (19 + c % 4)))) H6
      rw [e9]
      exact q H6 (s15.trans s6)
end
end K35

set_option Elab.async false
set_option linter.all false
set_option maxRecDepth 100000
set_option maxHeartbeats 4000000
namespace K35
open PySem L2 PySem.Spec
theorem first_in {r : Str} (h : r ≠ Str.empty) : inV (.str (Txt.slice r none (some 1))) [.str "<", .str ">"] = !nlB r := by
  obtain ⟨⟨l⟩⟩ := r
  cases l with
  | nil => exact absurd rfl h
  | cons c cs =>
    have e := PySem.StrLaws.sliceText_to (x := ⟨⟨c :: cs⟩⟩) (j := 1) ⟨by decide, by show (1 : Int) ≤ ((c :: cs).length : Int); rw [List.length_cons]; omega⟩
    have e : Txt.slice ⟨⟨c :: cs⟩⟩ none (some 1) = ⟨#[c]⟩ := e
    rw [e]
    unfold nlB
    rw [lt_eq, gt_eq, starts_one, starts_one, Bool.not_not]
    have a : ∀ d : Nat, eqV (.str ⟨#[d]⟩) (.str ⟨#[c]⟩) = decide ((⟨⟨c :: cs⟩⟩ : Str).cps.toList[0]? = some d) := fun d => by
      show ((⟨#[d]⟩ : Str) == ⟨#[c]⟩) = decide ((some c : Option Nat) = some d)
      by_cases z : c = d
      · subst z
        rw [decide_eq_true rfl]
        exact beq_self_eq_true _
      · rw [decide_eq_false (fun w => z (Option.some.inj w))]
        refine beq_eq_false_iff_ne.mpr fun w => z ?_
        have w := congrArg (fun s : Str => s.cps.toList) w
        have w : [d] = [c] := w
        exact (List.cons.inj w).1.symm
    show (eqV (.str ltS) _ || (eqV (.str gtS) _ || false)) = _
    rw [lt_eq, gt_eq, a, a, Bool.or_false]
def fstS (rows : List Str) (n : Nat) : List Nat := (List.range n).filter fun j => nlB (rows.getD j Str.empty)
theorem fst_succ (rows : List Str) (n : Nat) : fstS rows (n + 1) = fstS rows n ++ (if nlB (rows.getD n Str.empty) = true then [n] else []) := by
  unfold fstS
  rw [List.range_succ, List.filter_append, List.filter_cons, List.filter_nil]
theorem fst_len (rows : List Str) (n : Nat) : (fstS rows n).length ≤ n := by
  have := List.length_filter_le (fun j => nlB (rows.getD j Str.empty)) (List.range n)
  rw [List.length_range] at this
  exact this
theorem fst_mem {rows : List Str} {k : Nat} (h : k ∈ fstS rows rows.length) : ∃ r, rows[k]? = some r ∧ nlB r = true := by
  obtain ⟨h1, h2⟩ := List.mem_filter.mp h
  have h1 := List.mem_range.mp h1
  refine ⟨rows[k], List.getElem?_eq_getElem h1, ?_⟩
  rw [List.getD_eq_getElem?_getD, List.getElem?_eq_getElem h1] at h2
  exact h2
theorem nl_head : nlB "in b 1.2" = true := by
  unfold nlB
  rw [lt_eq, gt_eq, starts_one, starts_one]
  decide +kernel
theorem fst_pos (b m : List Str) : 0 < (fstS (baseR b m) (baseR b m).length).length := by
  refine List.length_pos_of_mem (a := 0) (List.mem_filter.mpr ⟨List.mem_range.mpr ?_, nl_head⟩)
  show 0 < (_ :: _ : List Str).length
  exact Nat.succ_pos _
abbrev intN (n : Nat) : V := .int (n : Int)
theorem at_fst {xs : List Nat} {r : Int} (h0 : 0 ≤ r) (h1 : r < (xs.map intN).length) : ∃ k, atI (xs.map intN) r = some (intN k) ∧ k ∈ xs := by
  obtain ⟨v, e, e2⟩ := atI_in h0 h1
  obtain ⟨k, hk, rfl⟩ := map_at e2
  exact ⟨k, e, List.mem_of_getElem? hk⟩
section
variable {P : Program} {w : World} {K : PySem.W.Frag} {mg : Str → Option Value} {base : Heap}
def spLaw (K : PySem.W.Frag) : Sp := fun vs H Q _ => ∃ (a : Addr) (ns : List Int), vs = [.ref a] ∧ SqL K H a (ns.map V.int) ∧ ns.length ≤ 63 ∧ ∀ H', Q (.bl true) H'
theorem scLaw : FnScope ["_law_script", "_law_cell", "_law_rows_here", "_law_first", "_law_at", "_law_way", "_law_some"] ["_law_script"] (defScope sLaw) := ⟨rfl, rfl, rfl, by decide +kernel, rfl, by decide +kernel, by decide +kernel⟩
theorem okLaw {f T NS fCel fRow fRdS fRef fBad fMan : Addr} {fd fdCel fdRow fdRdS fdRef fdBad fdMan : FuncData} (F : Fun K "law" "law" sLaw f fd) (B : Blt mg)
    (FCel : Fun K "_law_cell_at" "_law_cell_at" sCel fCel fdCel) (mCel : mg "_law_cell_at" = some (.ref fCel)) (GCel : FnOk P w K mg base CX0 1 fCel fdCel ["_law_script", "_law_k"] (spCel K))
    (FRow : Fun K "_law_rows" "_law_rows" sRow fRow fdRow) (mRow : mg "_law_rows" = some (.ref fRow)) (GRow : FnOk P w K mg base CX0 3 fRow fdRow ["_law_cell"] spRow)
    (FRdS : Fun K "read_stand" "read_stand" sRdS fRdS fdRdS) (mRdS : mg "read_stand" = some (.ref fRdS)) (GRdS : FnOk P w K mg base (CXR P w) 5 fRdS fdRdS ["text"] (spRdS T NS))
    (FRef : Fun K "_law_refused" "_law_refused" sRef fRef fdRef) (mRef : mg "_law_refused" = some (.ref fRef)) (GRef : FnOk P w K mg base CX0 6 fRef fdRef ["_law_rows_here"] spRef)
    (FBad : Fun K "_law_bad" "_law_bad" sBad fBad fdBad) (mBad : mg "_law_bad" = some (.ref fBad)) (GBad : FnOk P w K mg base CX0 1 fBad fdBad ["_law_cell"] spBad)
    (FMan : Fun K "_law_many" "_law_many" sMan fMan fdMan) (mMan : mg "_law_many" = some (.ref fMan)) (GMan : FnOk P w K mg base CX0 7 fMan fdMan ["_law_cell"] spMan) : FnOk P w K mg base CX0 8 f fd ["_law_script"] (spLaw K) := by
  have bCel := FCel.binds (ps := ["_law_script", "_law_k"]) fun _ _ _ _ _ _ us hl => match us, hl with | [_, _], _ => rfl
  have bRow := FRow.binds (ps := ["_law_cell"]) fun _ _ _ _ _ _ us hl => match us, hl with | [_], _ => rfl
  have bRdS := FRdS.binds (ps := ["text"]) fun _ _ _ _ _ _ us hl => match us, hl with | [_], _ => rfl
  have bRef := FRef.binds (ps := ["_law_rows_here"]) fun _ _ _ _ _ _ us hl => match us, hl with | [_], _ => rfl
  have bBad := FBad.binds (ps := ["_law_cell"]) fun _ _ _ _ _ _ us hl => match us, hl with | [_], _ => rfl
  have bMan := FMan.binds (ps := ["_law_cell"]) fun _ _ _ _ _ _ us hl => match us, hl with | [_], _ => rfl
  refine F.ok scLaw (fun vs H Q E h => ?_) (fun cdv A outer s H vs Q E hr h => ?_)
  · obtain ⟨a, is, rfl, _⟩ := h
    rfl
  · refine letX ?_
    intro xX dX
    obtain ⟨a, is, rfl, hS, h63, q⟩ := h
    have hr6 := hr.mono (j := 6) (by decide)
    have hr5 := hr.mono (j := 5) (by decide)
    have hr3 := hr.mono (j := 3) (by decide)
    have hr1 := hr.mono (j := 1) (by decide)
    refine ⟨_, (pss_cons (ps_set (i := 1) scLaw.nd rfl (Or.inl rfl) (pe_call GCel hr1 (by rfl) mCel FCel.kp bCel .nil pass0 (pa_cons (pv 0) (pa_cons pe_int pa_nil))))
        (pss_cons (ps_set (i := 2) scLaw.nd rfl (Or.inr rfl) (pe_call GRow hr3 (by rfl) mRow FRow.kp bRow .nil pass0 (pa_cons (pe_call GCel hr1 (by rfl) mCel FCel.kp bCel .nil pass0 (pa_cons (pv 0) (pa_cons pe_int pa_nil))) pa_nil)))
        (pss_cons (ps_expr (pe_call GRdS hr5 (by rfl) mRdS FRdS.kp bRdS .nil passN (pa_cons (pe_bm PySem.F.plainAttrs_str PySem.F.slot_str_join PySem.F.type_str_join mt_join pe_str (pa_cons (pv 2) pa_nil)) pa_nil)))
        (pss_cons (ps_setComp (i := 3) ["_law_k"] ["_law_rows_here"] [2] scLaw.nd rfl rfl ⟨rfl, by decide +kernel, by decide +kernel, by decide +kernel, by decide +kernel, rfl, rfl, rfl⟩ rfl (pi_range1 rfl B.range (pa_cons (pe_callB call_len_seq (by rfl) B.len PySem.boot_len (pa_cons (pv 2) pa_nil)) pa_nil)) (fun _ _ _ _ => (pg_name (i := 0) (show List.Nodup (["_law_k", "_law_rows_here"] : List Str) by decide +kernel) rfl (Or.inl rfl)))
          (fun _ _ _ _ => pts_one (pt_cmpR (op_notInK K) (pe_slice sl_str (pe_ix (ix_listK K) (pv 1) (pv 0) (fun _ _ => rfl)) po_none (po_some pe_int)) (pe_tupN (pa_cons pe_str (pa_cons pe_str pa_nil))) (by rfl))) (fun _ _ _ _ => (pv 0)))
        (pss_cons (ps_set (i := 4) scLaw.nd rfl (Or.inl rfl) (pe_ix ix_list (pv 3) (pe_op op_mod (pe_op op_fdiv (pv 1) pe_int) (pe_callB call_len_seq (by rfl) B.len PySem.boot_len (pa_cons (pv 3) pa_nil))) (fun _ _ => rfl)))
        (pss_cons (ps_set (i := 5) scLaw.nd rfl (Or.inl rfl) (pe_op op_mod (pv 1) pe_int))
        (pss_cons (ps_if (pt_cmpR op_lt (pv 5) pe_int (nomark _)) (pss_one (ps_ret (pe_call GRef hr6 (by rfl) mRef FRef.kp bRef .nil pass0 (pa_cons (pe_op op_catN (pe_op op_catN (pe_slice sl_listN (pv 2) po_none (po_some (pv 4))) (pe_lstN (pa_cons (pe_call GBad hr1 (by rfl) mBad FBad.kp bBad .nil pass0 (pa_cons (pe_op op_fdiv (pv 1) pe_int) pa_nil)) pa_nil))) (pe_slice sl_listN (pv 2) (po_some (pv 4)) po_none)) pa_nil)))) pss_nil)
        (pss_cons (ps_if (pt_cmpR op_eq (pv 5) pe_int (nomark _)) (pss_one (ps_ret (pe_call GRef hr6 (by rfl) mRef FRef.kp bRef .nil pass0 (pa_cons (pe_op op_catN (pe_slice sl_listN (pv 2) po_none (po_some (pe_op op_add (pv 4) pe_int))) (pe_slice sl_listN (pv 2) (po_some (pv 4)) po_none)) pa_nil)))) pss_nil)
        (pss_cons (ps_if (pt_cmpR op_eq (pv 5) pe_int (nomark _)) (pss_one (ps_ret (pe_call GRef hr6 (by rfl) mRef FRef.kp bRef .nil pass0 (pa_cons (pe_op op_catN (pe_lstN (pa_cons (pe_ix ix_list (pe_lstN (pa_cons pe_str (pa_cons pe_str pa_nil))) (pe_op op_mod (pe_op op_fdiv (pv 1) pe_int) pe_int) (fun _ _ => rfl)) pa_nil)) (pv 2)) pa_nil)))) pss_nil)
        (pss_cons (ps_if (PW.pt (pw_and (pt_cmpR op_eq (pv 5) pe_int (nomark _)) (pw_and1 (pt_cmpR op_eq (pe_op op_mod (pe_op op_fdiv (pv 1) pe_int) pe_int) pe_int (nomark _))))) (pss_one (ps_ret (pe_call GRef hr6 (by rfl) mRef FRef.kp bRef .nil pass0 (pa_cons (pe_op op_catN (pe_op op_catN (pe_slice sl_listN (pv 2) po_none (po_some pe_int)) (pe_lstN (pa_cons pe_str pa_nil))) (pe_slice sl_listN (pv 2) (po_some pe_int) po_none)) pa_nil)))) pss_nil)
        (pss_cons (ps_if (pt_cmpR op_eq (pv 5) pe_int (nomark _)) (pss_one (ps_ret (pe_call GMan hr (by rfl) mMan FMan.kp bMan .nil pass0 (pa_cons (pe_op op_fdiv (pv 1) pe_int) pa_nil)))) pss_nil)
        (pss_cons (ps_if (pt_cmpR op_eq (pv 5) pe_int (nomark _)) (pss_cons (ps_set (i := 6) scLaw.nd rfl (Or.inl rfl) (pe_lstN (pa_cons pe_str (pa_cons pe_str (pa_cons pe_str (pa_cons pe_str (pa_cons pe_str (pa_cons pe_str pa_nil)))))))) (pss_one (ps_ret (pe_call GRef hr6 (by rfl) mRef FRef.kp bRef .nil pass0 (pa_cons (pe_op op_catN (pv 2) (pe_lstN (pa_cons (pe_ix ix_list (pv 6) (pe_op op_mod (pe_op op_fdiv (pv 1) pe_int) pe_int) (fun _ _ => rfl)) pa_nil))) pa_nil))))) pss_nil)
        (pss_one (ps_ret (pe_call GRef hr6 (by rfl) mRef FRef.kp bRef .nil pass0 (pa_cons (pe_op op_catN (pe_lstN (pa_cons (pe_ix ix_list (pv 2) pe_int (fun _ _ => rfl)) (pa_cons (pe_ix ix_list (pv 2) pe_int (fun _ _ => rfl)) pa_nil))) (pe_slice sl_listN (pv 2) (po_some pe_int) po_none)) pa_nil)))))))))))))))), ?_⟩
    refine lets13 ?_
    intro dD sS uU13 uU12 uU11 uU10 uU9 uU8 uU7 uU6 uU5 uU4 uU3 uU2
    refine ⟨_, rfl, a, _, is, rfl, (by decide), hS, fun c => ?_⟩
    refine ⟨_, rfl, a, _, is, rfl, (by decide), hS, fun c1 => ?_⟩
    refine ⟨c1, rfl, fun l H1 b m n1 s1 e1 b4 m4 bl ml => ?_⟩
    obtain ⟨r1, r2, r3, r4⟩ := base_read bl ml b4 m4
    obtain ⟨l9, l17⟩ := base_len (b := b) (m := m) b4 m4
    have hx := base_ext bl ml
    obtain ⟨j1, j2⟩ := joined (rows := baseR b m) (by omega) (fun r hr => (hx r hr).l)
    refine ⟨rfl, _, rfl, nlS, l, baseR b m, rfl, rfl, SqL.of e1, j1, ?_⟩
    rw [join_eq]
    refine ⟨_, rfl, j2, by rw [r1]; omega, .inr ?_⟩
    rw [r1]
    refine ⟨r2, r3, r4, fun v H2 s2 _ => ?_⟩
    have e2 := s2 _ _ e1
    refine ⟨_, rfl, l, _, rfl, .inl (SqL.of e2), _, rfl, (by rw [List.length_map]; omega), (by rw [List.length_map]; omega), ?_⟩
    have e2 : H2 l = some (.lst ((baseR b m).map V.str)) := e2
    refine comp_rangeG (σ0 := [none, some (.ref l)]) (fun σ => ∃ v, σ = [v, some (.ref l)]) (fun i ys _ => ys = (fstS (baseR b m) i).map intN) ⟨_, rfl⟩ (fun _ _ => rfl) ?_ ?_
    · intro D i ys σ H3 k k' hD hi hQ hd hs hP hk hk'
      obtain ⟨v, rfl⟩ := hQ
      subst hP
      have hi : i < (baseR b m).length := by rw [List.length_map] at hi; exact hi
      have hat : (baseR b m)[i]? = some ((baseR b m)[i]) := List.getElem?_eq_getElem hi
      generalize hr0 : (baseR b m)[i] = r at hat
      have hm := List.mem_of_getElem? hat
      have hv : atI ((baseR b m).map V.str) ((i : Nat) : Int) = some (V.str r) := atI_nat (by rw [List.getElem?_map, hat]; rfl)
      have hgd : (baseR b m).getD i Str.empty = r := by rw [List.getD_eq_getElem?_getD, hat]; rfl
      have hfl := fst_len (baseR b m) i
      refine ⟨_, rfl, _, rfl, l, _, _, _, rfl, (by show V.int (0 + (i : Int)) = V.int (i : Int); rw [Int.zero_add]), SqL.of (hs _ _ e2), hv, 1, rfl, r, rfl, bigZ (by have := (hx r hm).l; omega), ?_⟩
      refine ⟨(by show 2 ≤ sizeLine; decide), fun t H4 n4 s4 e4 => ⟨t, _, rfl, .inr (SqT.of e4), rfl, rfl, _, rfl, ?_⟩⟩
      refine ite2 (fun h => ?_) (fun h => ?_)
      · have h : (!inV (.str (Txt.slice r none (some 1))) [.str "<", .str ">"]) = true := h
        rw [first_in (hx r hm).n, Bool.not_not] at h
        refine ⟨_, rfl, hk _ _ _ ⟨_, rfl⟩ s4 (small1000 (by rw [List.length_map]; omega)) ?_⟩
        rw [fst_succ, hgd, if_pos h, List.map_append]
        show _ ++ [V.int (0 + (i : Int))] = _
        rw [Int.zero_add]
        rfl
      · have h : ¬ (!inV (.str (Txt.slice r none (some 1))) [.str "<", .str ">"]) = true := h
        rw [first_in (hx r hm).n, Bool.not_not] at h
        refine hk' _ _ ⟨_, rfl⟩ s4 ?_
        rw [fst_succ, hgd, if_neg h, List.append_nil]
    intro D ys H3 hD hd hs hP
    rw [List.length_map] at hP
    subst hP
    have e3 := hs _ _ e2
    have fp := fst_pos b m
    have lp : ((fstS (baseR b m) (baseR b m).length).map intN).length = (fstS (baseR b m) (baseR b m).length).length := List.length_map _
    obtain ⟨k, hk, km⟩ := at_fst (xs := fstS (baseR b m) (baseR b m).length) (r := c / 8 % (((fstS (baseR b m) (baseR b m).length).map intN).length : Int)) (Int.emod_nonneg _ (by omega)) (Int.emod_lt_of_pos _ (by omega))
    obtain ⟨r, hr', hnl⟩ := fst_mem km
    have hk17 := (List.getElem?_eq_some_iff.mp hr').1
    refine ⟨_, rfl, _, rfl, _, _, rfl, rfl, ⟨by omega, by omega⟩, _, rfl, D, _, rfl, .inl (SqL.of hd), _, _, rfl, rfl, (by show (0 : Int) < (((fstS (baseR b m) (baseR b m).length).map intN).length : Int); omega), D, _, _, _, rfl, rfl, SqL.of hd, hk, ?_⟩
    refine ⟨_, rfl, _, _, rfl, rfl, (by show (0 : Int) < 8; decide), ?_⟩
    have bsl : (baseR b m).length ≤ 100 := by omega
    have tk : ∀ j : Nat, cutV ((baseR b m).map V.str) none (some (j : Int)) = ((baseR b m).take j).map V.str := fun j => by rw [cutV_strs, cutS_take (by omega), Int.toNat_natCast]
    have dp : ∀ j : Nat, cutV ((baseR b m).map V.str) (some (j : Int)) none = ((baseR b m).drop j).map V.str := fun j => by rw [cutV_strs, cutS_drop (by omega), Int.toNat_natCast]
    have ltk : ∀ j : Nat, (((baseR b m).take j).map V.str).length ≤ 100 := fun j => by rw [List.length_map, List.length_take]; omega
    have ldp : ∀ j : Nat, (((baseR b m).drop j).map V.str).length ≤ 100 := fun j => by rw [List.length_map, List.length_drop]; omega
    have SL : SqL K H3 l ((baseR b m).map V.str) := SqL.of e3
    -- the last
    have w0 : atI ((baseR b m).map V.str) 0 = some (V.str "in b 1.2") := atI_nat (j := 0) rfl
    have w1 : atI ((baseR b m).map V.str) 1 = some (V.str "in c 0") := atI_nat (j := 1) rfl
    have g13 : uU13 dD [some (.ref a), some (.int c), some (.ref l), some (.ref D), some (intN k), some (.int (c % 8)), none] H3 := by
      refine ⟨_, rfl, l, _, _, _, rfl, rfl, SL, w1, _, rfl, l, _, _, _, rfl, rfl, SL, w0, (by show 2 ≤ sizeLine; decide), fun p1 H4 n4 s4 e4 => ?_⟩
      refine ⟨_, rfl, 2, rfl, l, _, rfl, SqL.of (s4 _ _ e3), fun p2 H5 n5 s5 e5 => ?_⟩
      have e5 : H5 p2 = some (.lst (((baseR b m).drop 2).map V.str)) := by rw [← dp]; exact e5
      refine ⟨p1, p2, _, _, rfl, rfl, s5 _ _ e4, e5, bigZ (by have := ldp 2; simp only [List.length_cons, List.length_nil]; omega), fun p3 H6 n6 s6 e6 => ?_⟩
      exact ⟨p3, _, rfl, e6.trans rfl, ref7 bl ml b4 m4, fun H7 _ => q H7⟩
    have g12 : uU12 dD [some (.ref a), some (.int c), some (.ref l), some (.ref D), some (intN k), some (.int (c % 8)), none] H3 := by
      refine ⟨_, rfl, rfl, _, rfl, ite2 (fun _ => ?_) (fun _ => g13)⟩
      refine ⟨(by show 6 ≤ sizeLine; decide), fun p1 H4 n4 s4 e4 => ?_⟩
      have e4 : H4 p1 = some (.lst (moreS.map V.str)) := e4
      obtain ⟨x, hx1, hx2⟩ := atI_strs (xs := moreS) (r := c / 8 % 6) (Int.emod_nonneg _ (by decide)) (Int.emod_lt_of_pos _ (by decide))
      refine ⟨_, rfl, _, rfl, _, rfl, _, _, rfl, rfl, ⟨by omega, by omega⟩, _, _, rfl, rfl, (by show (0 : Int) < 6; decide), p1, _, _, _, rfl, rfl, SqL.of e4, hx1, (by show 1 ≤ sizeLine; decide), fun p2 H5 n5 s5 e5 => ?_⟩
      refine ⟨l, p2, _, _, rfl, rfl, s5 _ _ (s4 _ _ e3), e5, bigZ (by simp only [List.length_cons, List.length_nil, List.length_map]; omega), fun p3 H6 n6 s6 e6 => ?_⟩
      exact ⟨p3, baseR b m ++ [x], rfl, by rw [e6, List.map_append]; rfl, ref6 bl ml b4 m4 (List.mem_of_getElem? hx2), fun H7 _ => q H7⟩
    have g11 : uU11 dD [some (.ref a), some (.int c), some (.ref l), some (.ref D), some (intN k), some (.int (c % 8)), none] H3 := by
      refine ⟨_, rfl, rfl, _, rfl, ite2 (fun _ => ?_) (fun _ => g12)⟩
      exact ⟨_, rfl, _, _, rfl, rfl, ⟨by omega, by omega⟩, _, rfl, fun H7 _ => q H7⟩
    have g10 : uU10 dD [some (.ref a), some (.int c), some (.ref l), some (.ref D), some (intN k), some (.int (c % 8)), none] H3 := by
      refine ⟨_, rfl, rfl, _, rfl, ite2 (fun _ => ?_) (fun _ => iteF' g11)⟩
      refine ⟨_, rfl, _, _, rfl, rfl, ⟨by omega, by omega⟩, _, _, rfl, rfl, (by show (0 : Int) < 2; decide), rfl, _, rfl, ite2 (fun _ => ?_) (fun _ => g11)⟩
      refine ⟨_, rfl, 3, rfl, l, _, rfl, SL, fun p1 H4 n4 s4 e4 => ?_⟩
      have e4 : H4 p1 = some (.lst (((baseR b m).take 3).map V.str)) := by rw [← tk]; exact e4
      refine ⟨(by show 1 ≤ sizeLine; decide), fun p2 H5 n5 s5 e5 => ?_⟩
      refine ⟨p1, p2, _, _, rfl, rfl, s5 _ _ e4, e5, bigZ (by have := ltk 3; simp only [List.length_cons, List.length_nil]; omega), fun p3 H6 n6 s6 e6 => ?_⟩
      refine ⟨_, rfl, 3, rfl, l, _, rfl, SqL.of (s6 _ _ (s5 _ _ (s4 _ _ e3))), fun p4 H7 n7 s7 e7 => ?_⟩
      have e7 : H7 p4 = some (.lst (((baseR b m).drop 3).map V.str)) := by rw [← dp]; exact e7
      refine ⟨p3, p4, _, _, rfl, rfl, s7 _ _ e6, e7, bigZ (by have := ltk 3; have := ldp 3; simp only [List.length_append, List.length_cons, List.length_nil]; omega), fun p5 H8 n8 s8 e8 => ?_⟩
      exact ⟨p5, (baseR b m).take 3 ++ (["<x"] : List Str) ++ (baseR b m).drop 3, rfl, by rw [e8, List.map_append, List.map_append]; rfl, ref5 bl ml b4 m4, fun H7 _ => q H7⟩
    have g9 : uU9 dD [some (.ref a), some (.int c), some (.ref l), some (.ref D), some (intN k), some (.int (c % 8)), none] H3 := by
      refine ⟨_, rfl, rfl, _, rfl, ite2 (fun _ => ?_) (fun _ => g10)⟩
      refine ⟨(by show 2 ≤ sizeLine; decide), fun p1 H4 n4 s4 e4 => ?_⟩
      have e4 : H4 p1 = some (.lst ((["<x", ">"] : List Str).map V.str)) := e4
      obtain ⟨x, hx1, hx2⟩ := atI_strs (xs := (["<x", ">"] : List Str)) (r := c / 8 % 2) (Int.emod_nonneg _ (by decide)) (Int.emod_lt_of_pos _ (by decide))
      have hx3 : x = "<x" ∨ x = ">" := by
        have := List.mem_of_getElem? hx2
        simp only [List.mem_cons, List.not_mem_nil, or_false] at this
        exact this
      refine ⟨_, rfl, _, _, rfl, rfl, ⟨by omega, by omega⟩, _, _, rfl, rfl, (by show (0 : Int) < 2; decide), p1, _, _, _, rfl, rfl, SqL.of e4, hx1, (by show 1 ≤ sizeLine; decide), fun p2 H5 n5 s5 e5 => ?_⟩
      refine ⟨_, rfl, p2, l, _, _, rfl, rfl, e5, s5 _ _ (s4 _ _ e3), bigZ (by simp only [List.length_cons, List.length_nil, List.length_map]; omega), fun p3 H6 n6 s6 e6 => ?_⟩
      exact ⟨p3, x :: baseR b m, rfl, by rw [e6, List.map_cons]; rfl, ref4 bl ml b4 m4 hx3, fun H7 _ => q H7⟩
    have g8 : uU8 dD [some (.ref a), some (.int c), some (.ref l), some (.ref D), some (intN k), some (.int (c % 8)), none] H3 := by
      refine ⟨_, rfl, rfl, _, rfl, ite2 (fun _ => ?_) (fun _ => g9)⟩
      refine ⟨_, rfl, _, rfl, _, _, rfl, rfl, ((k + 1 : Nat) : Int), rfl, l, _, rfl, SL, fun p1 H4 n4 s4 e4 => ?_⟩
      have e4 : H4 p1 = some (.lst (((baseR b m).take (k + 1)).map V.str)) := by rw [← tk]; exact e4
      refine ⟨_, rfl, _, rfl, (k : Int), rfl, l, _, rfl, SqL.of (s4 _ _ e3), fun p2 H5 n5 s5 e5 => ?_⟩
      have e5 : H5 p2 = some (.lst (((baseR b m).drop k).map V.str)) := by rw [← dp]; exact e5
      refine ⟨p1, p2, _, _, rfl, rfl, s5 _ _ e4, e5, bigZ (by have := ltk (k + 1); have := ldp k; omega), fun p3 H6 n6 s6 e6 => ?_⟩
      exact ⟨p3, (baseR b m).take (k + 1) ++ (baseR b m).drop k, rfl, by rw [e6, List.map_append], ref3 bl ml b4 m4 hr' hnl, fun H7 _ => q H7⟩
    refine ⟨_, rfl, _, _, rfl, rfl, _, rfl, ite2 (fun _ => ?_) (fun _ => g8)⟩
    refine ⟨_, rfl, _, rfl, (k : Int), rfl, l, _, rfl, SL, fun p1 H4 n4 s4 e4 => ?_⟩
    have e4 : H4 p1 = some (.lst (((baseR b m).take k).map V.str)) := by rw [← tk]; exact e4
    refine ⟨_, rfl, _, _, rfl, rfl, ⟨by omega, by omega⟩, _, rfl, fun x hx H5 s5 => ⟨(by show 1 ≤ sizeLine; decide), fun p2 H6 n6 s6 e6 => ?_⟩⟩
    refine ⟨p1, p2, _, _, rfl, rfl, s6 _ _ (s5 _ _ e4), e6, bigZ (by have := ltk k; simp only [List.length_cons, List.length_nil]; omega), fun p3 H7 n7 s7 e7 => ?_⟩
    refine ⟨_, rfl, _, rfl, (k : Int), rfl, l, _, rfl, SqL.of (s7 _ _ (s6 _ _ (s5 _ _ (s4 _ _ e3)))), fun p4 H8 n8 s8 e8 => ?_⟩
    have e8 : H8 p4 = some (.lst (((baseR b m).drop k).map V.str)) := by rw [← dp]; exact e8
    refine ⟨p3, p4, _, _, rfl, rfl, s8 _ _ e7, e8, bigZ (by have := ltk k; have := ldp k; simp only [List.length_append, List.length_cons, List.length_nil]; omega), fun p5 H9 n9 s9 e9 => ?_⟩
    exact ⟨p5, (baseR b m).take k ++ [x] ++ (baseR b m).drop k, rfl, by rw [e9, List.map_append, List.map_append]; rfl, ref1 bl ml b4 m4 hx, fun H10 _ => q H10⟩
end
end K35

set_option Elab.async false
set_option linter.all false
set_option maxRecDepth 100000
set_option maxHeartbeats 8000000
namespace K35
open PySem L2
def ClsT (K : PySem.W.Frag) (mg : Str → Option Value) : Prop := ∃ T fTIn fdTIn, TxtT K mg T ∧ Mk K T fTIn ∧ Fun K "__init__" "Stand.__init__" sTIn fTIn fdTIn
theorem clsT_mk {K : PySem.W.Frag} {h : Heap} {mg : Str → Option Value} {T f0 : Addr} {od0 an0 : Option Addr} {sl0 : Array (Option Value)} {oc0 kV0 dc0 pm0 cd0 ct0 : Value} (X : K.In h) (G : h.Ns mainGlobals mg)
    (aC : PySem.W.nsIn K mainGlobals "Stand" = some (some (.ref T))) (a0 : PySem.W.findIn K (.ref T) "__init__" = some (some (.ref f0))) (i0 : PySem.W.isFn K (.ref f0) = true)
    (l0 : K.lookup f0 = some ⟨oc0, od0, .func (PySem.W.fnOf "__init__" "Stand.__init__" (defArgs sTIn) (defBody sTIn) (defScope sTIn) .none kV0 dc0 pm0 an0 cd0 ct0), sl0⟩) (c0 : PySem.W.codeIn K cd0 "Stand.__init__" = true) (k0 : PySem.W.keepIn K (.ref f0) = true)
    (pg : PySem.W.plainGet K T Str.empty = true) (hd : PySem.W.hasDictIn K T = true) (po : PySem.W.plainOver K T = true) (sa : PySem.W.findIn K (.ref T) "__setattr__" = some (some (.builtin "object.__setattr__"))) (mk : PySem.W.makesIn K T = true) (kc : PySem.W.keepIn K (.ref T) = true) (n0 : PySem.W.findIn K (.ref T) "chosen" = some none) (n1 : PySem.W.findIn K (.ref T) "choices" = some none) (n2 : PySem.W.findIn K (.ref T) "own" = some none) : ClsT K mg :=
  ⟨T, f0, _, ⟨⟨pg, hd, po, sa⟩, n0, n1, n2, PySem.W.mg_of X G aC⟩, ⟨mk, a0, i0, kc⟩, fun_mk l0 c0 k0⟩
def ErrC (K : PySem.W.Frag) (mg : Str → Option Value) : Prop := ∃ M NS c1 c2 c3 c4 c5 c6 c7 c8 c9 c10, Errs K mg M NS c1 c2 c3 c4 c5 c6 c7 c8 c9 c10
theorem err_mk {K : PySem.W.Frag} {h : Heap} {mg : Str → Option Value} {M NS c1 c2 c3 c4 c5 c6 c7 c8 c9 c10 : Addr} (X : K.In h) (G : h.Ns mainGlobals mg) (nM : PySem.W.nsIn K mainGlobals "MendError" = some (some (.ref M))) (nNS : PySem.W.nsIn K mainGlobals "NoStand" = some (some (.ref NS))) (nc1 : PySem.W.nsIn K mainGlobals "Fallen" = some (some (.ref c1))) (nc2 : PySem.W.nsIn K mainGlobals "NoFile" = some (some (.ref c2))) (nc3 : PySem.W.nsIn K mainGlobals "NoFormer" = some (some (.ref c3))) (nc4 : PySem.W.nsIn K mainGlobals "NoName" = some (some (.ref c4))) (nc5 : PySem.W.nsIn K mainGlobals "NoParcel" = some (some (.ref c5))) (nc6 : PySem.W.nsIn K mainGlobals "NoPath" = some (some (.ref c6))) (nc7 : PySem.W.nsIn K mainGlobals "NoRow" = some (some (.ref c7))) (nc8 : PySem.W.nsIn K mainGlobals "NoShelf" = some (some (.ref c8))) (nc9 : PySem.W.nsIn K mainGlobals "NotUp" = some (some (.ref c9))) (nc10 : PySem.W.nsIn K mainGlobals "TooWide" = some (some (.ref c10))) (exc : PySem.W.excIn K NS [.type "ValueError", .type "Exception", .type "BaseException", .type "object"] "ValueError.__new__" = true) (ga : PySem.W.findIn K (.ref NS) "__getattribute__" = some (some (.builtin "BaseException.__getattribute__"))) (gh : PySem.W.findIn K (.ref NS) "__getattr__" = some none) (cls : PySem.W.findIn K (.ref NS) "__class__" = some (some (.builtin "object.__class__"))) (spc : PySem.W.specialIn K (.builtin "object.__class__") "__get__" = some (some (.builtin "getset_descriptor.__get__"))) (tak : PySem.W.takesIn K (.builtin "object.__class__") = some true) (mro : PySem.W.mroIn K NS (.type "object") = some true) (mrb : PySem.W.mroIn K NS (.type "BaseException") = some true) (k8 : PySem.W.kitAny K (.ref NS) [.ref c1, .ref c2, .ref c3, .ref c4, .ref c5, .ref c6, .ref c7, .ref c8] = some false) (k2 : PySem.W.kitAny K (.ref NS) [.ref c9, .ref c10] = some false) (kN : PySem.W.kitOne K (.ref NS) (.ref NS) = some true) (kV : PySem.W.kitOne K (.ref NS) (.type "ValueError") = some true) (ex : PySem.W.exmOne K (.ref NS) (.ref M) = some true) : ErrC K mg :=
  ⟨M, NS, c1, c2, c3, c4, c5, c6, c7, c8, c9, c10, ⟨exc, ga, gh, cls, spc, tak, mro, mrb⟩, PySem.W.mg_of X G nM, PySem.W.mg_of X G nNS, PySem.W.mg_of X G nc1, PySem.W.mg_of X G nc2, PySem.W.mg_of X G nc3, PySem.W.mg_of X G nc4, PySem.W.mg_of X G nc5, PySem.W.mg_of X G nc6, PySem.W.mg_of X G nc7, PySem.W.mg_of X G nc8, PySem.W.mg_of X G nc9, PySem.W.mg_of X G nc10, k8, k2, kN, kV, ex⟩
theorem cst_mk {K : PySem.W.Frag} {h : Heap} {mg : Str → Option Value} {t0 t1 t2 t3 t4 t5 t6 t7 : Tok} (X : K.In h) (G : h.Ns mainGlobals mg) (z0 : PySem.W.nsIn K mainGlobals "MOST_LETTERS" = some (some (.int 8 t0))) (z1 : PySem.W.nsIn K mainGlobals "MOST_PATH_WORDS" = some (some (.int 4 t1))) (z2 : PySem.W.nsIn K mainGlobals "MOST_SIGNS" = some (some (.int 60 t2))) (z3 : PySem.W.nsIn K mainGlobals "MOST_LINES" = some (some (.int 20 t3))) (z4 : PySem.W.nsIn K mainGlobals "MOST_MAKE_NUMBERS" = some (some (.int 3 t4))) (z5 : PySem.W.nsIn K mainGlobals "GREATEST_NUMBER" = some (some (.int 1000000000 t5))) (z6 : PySem.W.nsIn K mainGlobals "MOST_FIGURES" = some (some (.int 10 t6))) (z7 : PySem.W.nsIn K mainGlobals "PERCENT_CODE" = some (some (.int 37 t7))) : Cst mg :=
  ⟨⟨t0, PySem.W.mg_of X G z0⟩, ⟨t1, PySem.W.mg_of X G z1⟩, ⟨t2, PySem.W.mg_of X G z2⟩, ⟨t3, PySem.W.mg_of X G z3⟩, ⟨t4, PySem.W.mg_of X G z4⟩, ⟨t5, PySem.W.mg_of X G z5⟩, ⟨t6, PySem.W.mg_of X G z6⟩, ⟨t7, PySem.W.mg_of X G z7⟩⟩
theorem bltAt_mk {K : PySem.W.Frag} {h : Heap} {mg : Str → Option Value} (X : K.In h) (G : h.Ns mainGlobals mg) (z0 : PySem.W.nsIn K mainGlobals "range" = some none) (z1 : PySem.W.nsIn K mainGlobals "len" = some none) (z2 : PySem.W.nsIn K mainGlobals "list" = some none) (z3 : PySem.W.nsIn K mainGlobals "dict" = some none) (z4 : PySem.W.nsIn K mainGlobals "sorted" = some none) (z5 : PySem.W.nsIn K mainGlobals "isinstance" = some none) (z6 : PySem.W.nsIn K mainGlobals "str" = some none) (z7 : PySem.W.nsIn K mainGlobals "tuple" = some none) (z8 : PySem.W.nsIn K mainGlobals "all" = some none) (z9 : PySem.W.nsIn K mainGlobals "enumerate" = some none) (z10 : PySem.W.nsIn K mainGlobals "int" = some none) (z11 : PySem.W.nsIn K mainGlobals "ord" = some none) (z12 : PySem.W.nsIn K mainGlobals "ValueError" = some none) : Blt mg :=
  ⟨PySem.W.mg_none_of X G z0, PySem.W.mg_none_of X G z1, PySem.W.mg_none_of X G z2, PySem.W.mg_none_of X G z3, PySem.W.mg_none_of X G z4, PySem.W.mg_none_of X G z5, PySem.W.mg_none_of X G z6, PySem.W.mg_none_of X G z7, PySem.W.mg_none_of X G z8, PySem.W.mg_none_of X G z9, PySem.W.mg_none_of X G z10, PySem.W.mg_none_of X G z11, PySem.W.mg_none_of X G z12⟩
theorem all_mk {P : Program} {w : World} {K : PySem.W.Frag} {mg : Str → Option Value} {fa : Addr} (hfa : mg "law" = some (.ref fa)) (B : Blt mg) (CT : ClsT K mg) (CR : ErrC K mg) (C : Cst mg) (dRwO : DefAt K mg "rows_of" sRwO) (dIsN : DefAt K mg "is_name" sIsN) (dIsP : DefAt K mg "is_path" sIsP) (dILS : DefAt K mg "is_line_sign" sILS) (dIsL : DefAt K mg "is_line" sIsL) (dAFi : DefAt K mg "are_figures" sAFi) (dNuR : DefAt K mg "number_read" sNuR) (dMkR : DefAt K mg "make_read" sMkR) (dMkS : DefAt K mg "make_shown" sMkS) (dCCo : DefAt K mg "changes_copied" sCCo) (dSho : DefAt K mg "stand_shown" sSho) (dChR : DefAt K mg "change_rows" sChR) (dRdS : DefAt K mg "read_stand" sRdS) (dIsG : DefAt K mg "is_good" sIsG) (dLiW : DefAt K mg "lines_within" sLiW) (dNot : DefAt K mg "stand_noted" sNot) (dMkN : DefAt K mg "make_noted" sMkN) (dCel : DefAt K mg "_law_cell_at" sCel) (dMix : DefAt K mg "_law_mixed" sMix) (dLin : DefAt K mg "_law_line" sLin) (dLis : DefAt K mg "_law_lines" sLis) (dRef : DefAt K mg "_law_refused" sRef) (dRow : DefAt K mg "_law_rows" sRow) (dBad : DefAt K mg "_law_bad" sBad) (dMan : DefAt K mg "_law_many" sMan) (dLaw : DefAt K mg "law" sLaw) :
    ∃ fd : FuncData, (∀ (s : Shared) (v : Value), BindsTo s fd ⟨[v], []⟩ [("_law_script", v)]) ∧ ∀ base : Heap, K.In base → base.Ns mainGlobals mg → FnOk P w K mg base CX0 8 fa fd ["_law_script"] (spLaw K) := by
  obtain ⟨T, fTIn, fdTIn, UT, MT, FTIn⟩ := CT
  obtain ⟨M, NS, c1, c2, c3, c4, c5, c6, c7, c8, c9, c10, R⟩ := CR
  obtain ⟨fRwO, fdRwO, mRwO, FRwO, _⟩ := dRwO
  obtain ⟨fIsN, fdIsN, mIsN, FIsN, _⟩ := dIsN
  obtain ⟨fIsP, fdIsP, mIsP, FIsP, _⟩ := dIsP
  obtain ⟨fILS, fdILS, mILS, FILS, _⟩ := dILS
  obtain ⟨fIsL, fdIsL, mIsL, FIsL, _⟩ := dIsL
  obtain ⟨fAFi, fdAFi, mAFi, FAFi, _⟩ := dAFi
  obtain ⟨fNuR, fdNuR, mNuR, FNuR, _⟩ := dNuR
  obtain ⟨fMkR, fdMkR, mMkR, FMkR, _⟩ := dMkR
  obtain ⟨fMkS, fdMkS, mMkS, FMkS, _⟩ := dMkS
  obtain ⟨fCCo, fdCCo, mCCo, FCCo, _⟩ := dCCo
  obtain ⟨fSho, fdSho, mSho, FSho, _⟩ := dSho
  obtain ⟨fChR, fdChR, mChR, FChR, _⟩ := dChR
  obtain ⟨fRdS, fdRdS, mRdS, FRdS, _⟩ := dRdS
  obtain ⟨fIsG, fdIsG, mIsG, FIsG, _⟩ := dIsG
  obtain ⟨fLiW, fdLiW, mLiW, FLiW, _⟩ := dLiW
  obtain ⟨fNot, fdNot, mNot, FNot, _⟩ := dNot
  obtain ⟨fMkN, fdMkN, mMkN, FMkN, _⟩ := dMkN
  obtain ⟨fCel, fdCel, mCel, FCel, _⟩ := dCel
  obtain ⟨fMix, fdMix, mMix, FMix, _⟩ := dMix
  obtain ⟨fLin, fdLin, mLin, FLin, _⟩ := dLin
  obtain ⟨fLis, fdLis, mLis, FLis, _⟩ := dLis
  obtain ⟨fRef, fdRef, mRef, FRef, _⟩ := dRef
  obtain ⟨fRow, fdRow, mRow, FRow, _⟩ := dRow
  obtain ⟨fBad, fdBad, mBad, FBad, _⟩ := dBad
  obtain ⟨fMan, fdMan, mMan, FMan, _⟩ := dMan
  obtain ⟨fLaw, fdLaw, mLaw, FLaw, _⟩ := dLaw
  have e := hfa.symm.trans mLaw
  cases e
  obtain ⟨oc, od, kV, doc, pm, an, cdv, ct, osl, rfl, lk, hcd⟩ := id FLaw.ex
  refine ⟨PySem.W.fnOf "law" "law" (defArgs sLaw) (defBody sLaw) (defScope sLaw) .none kV doc pm an cdv ct, fun s v => .of_eq rfl, fun base _ _ => ?_⟩
  have GTIn : FnOk P w K mg base CX0 2 fTIn fdTIn ["self", "chosen", "choices", "own"] (spTIn T) := okTIn FTIn UT B FCCo mCCo
  have GSho : FnOk P w K mg base CX0 2 fSho fdSho ["stand"] (spSho T) := okSho FSho UT B FMkS mMkS FChR mChR
  have GRdS : FnOk P w K mg base (CXR P w) 5 fRdS fdRdS ["text"] (spRdS T NS) := okRdS FRdS B C UT R.xc R.mN FRwO mRwO FIsG mIsG (okIsG FIsG B FIsL mIsL (okIsL FIsL B C FILS mILS) FIsP mIsP (okIsP FIsP B C FIsN mIsN) FIsN mIsN (okIsN FIsN B C) FMkR mMkR (okMkR FMkR B C FNuR mNuR FAFi mAFi)) FNot mNot (okNot FNot B UT MT FRwO mRwO FMkN mMkN FTIn GTIn) FLiW mLiW FSho mSho GSho
  have GRef : FnOk P w K mg base CX0 6 fRef fdRef ["_law_rows_here"] spRef := okRef FRef B R FRdS mRdS GRdS
  exact okLaw FLaw B FCel mCel (okCel FCel B) FRow mRow (okRow FRow B FMix mMix FLin mLin FLis mLis) FRdS mRdS GRdS FRef mRef GRef FBad mBad (okBad FBad B) FMan mMan (okMan FMan B UT FRdS mRdS GRdS FRef mRef GRef)
theorem walk {l : PySem.W.OpenLaw} {q : Program} {loose : List Str} {XP : (Str → Option Value) → Heap → Prop} {YP : World → Heap → Prop} {d : DefRec} {K : Params → PySem.W.Frag} (hn : l.most = some 63) (hdf : d.params.defaults = [])
    (hY : ∀ (w : World) (h : Heap), YP w h → (K w.params).In h)
    (F : ∀ (w : World) (mg : Str → Option Value) (fa : Addr) (h : Heap), (K w.params).In h → h.Ns mainGlobals mg → mg d.name = some (.ref fa) →
      ∃ fd : FuncData, (∀ (s : Shared) (u : Value), BindsTo s fd ⟨[u], []⟩ [("_law_script", u)]) ∧ ∀ base : Heap, (K w.params).In base → base.Ns mainGlobals mg → FnOk l.prog w (K w.params) mg base CX0 8 fa fd ["_law_script"] (spLaw (K w.params))) :
    PySem.W.WalkO q loose XP YP l.row.toRowW d [] (fun f vs => PySem.call f vs) :=
  L2.walk_of (n := 63) (k := 8) (x := "_law_script") (CX := fun _ => CX0) (sp := fun w => spLaw (K w.params)) hn (by decide) hdf ⟨rfl, by decide, by decide, rfl⟩ hY F (fun _ _ a ns hl _ hS => ⟨a, ns, rfl, hS, hl, fun _ => rfl⟩) fun _ _ _ _ _ z => z
end K35
open PySem PySem.W PyProof.Rows
noncomputable def PySem.W.Fast.tw3070067678332115571 : PySem.Program := PySem.Challenge.pw_parcelmend_k35_what_is_no_stand
theorem PySem.W.Fast.te3070067678332115571 : PySem.Challenge.pw_parcelmend_k35_what_is_no_stand = PySem.W.Fast.tw3070067678332115571 := rfl
noncomputable def PySem.W.Fast.tw17789805210854263574 : Unit := ()
noncomputable def PySem.W.Fast.tw6687058247614648118 : Unit := ()
noncomputable def PySem.W.Fast.tw12663157287795321410 : Unit := ()
noncomputable def PySem.W.Fast.tw16083037856581728141 : Unit := ()
noncomputable def PySem.W.Fast.tw17257042566208128283 : Unit := ()
noncomputable def PySem.W.Fast.tw17331905093609929187 : Unit := ()
noncomputable def PySem.W.Fast.tw10494349501512607105 : Unit := ()
noncomputable def PySem.W.Fast.tw13240899027139351846 : Unit := ()
noncomputable def PySem.W.Fast.tw11183163010664215996 : Unit := ()
noncomputable def PySem.W.Fast.tw4573721804181856197 : Unit := ()
noncomputable def PySem.W.Fast.tw5747080208046696588 : Unit := ()
noncomputable def PySem.W.Fast.tw7224930155190610200 : Unit := ()
noncomputable def PySem.W.Fast.tw44606871350222024 : Unit := ()
noncomputable def PySem.W.Fast.tw7187501788948972042 : Unit := ()
noncomputable def PySem.W.Fast.tw14570462575242401982 : Unit := ()
noncomputable def PySem.W.Fast.tw3315650662544517661 : Unit := ()
noncomputable def PySem.W.Fast.tw2807446999828521783 : Unit := ()
noncomputable def PySem.W.Fast.tw12524242284469515745 : Unit := ()
noncomputable def PySem.W.Fast.tw17114063400242539006 : Unit := ()
noncomputable def PySem.W.Fast.tw9373813832765670124 : Unit := ()
set_option maxRecDepth 100000 in
set_option maxHeartbeats 0 in
theorem PySem.Challenge.cw_parcelmend_k35_what_is_no_stand_holds : PySem.Challenge.rw_parcelmend_k35_what_is_no_stand.Holds := by
  w_on; o_law; k_head; (case hw => w_witness2)
  k_fill
  refine K35.walk (l := PySem.Challenge.rw_parcelmend_k35_what_is_no_stand) rfl rfl (fun w h Y => PySem.W.kIn_of Y) ?F
  case F =>
    intro w mg fa h KX G hmg
    refine' K35.all_mk hmg (K35.bltAt_mk KX G ?kk_z0 ?kk_z1 ?kk_z2 ?kk_z3 ?kk_z4 ?kk_z5 ?kk_z6 ?kk_z7 ?kk_z8 ?kk_z9 ?kk_z10 ?kk_z11 ?kk_z12) (K35.clsT_mk KX G ?kk_TaC ?kk_Ta0 ?kk_Ti0 ?kk_Tl0 ?kk_Tc0 ?kk_Tk0 ?kk_Tpg ?kk_Thd ?kk_Tpo ?kk_Tsa ?kk_Tmk ?kk_Tkc ?kk_Tn0 ?kk_Tn1 ?kk_Tn2) (K35.err_mk KX G ?kk_EnM ?kk_EnNS ?kk_Enc1 ?kk_Enc2 ?kk_Enc3 ?kk_Enc4 ?kk_Enc5 ?kk_Enc6 ?kk_Enc7 ?kk_Enc8 ?kk_Enc9 ?kk_Enc10 ?kk_Eexc ?kk_Ega ?kk_Egh ?kk_Ecls ?kk_Espc ?kk_Etak ?kk_Emro ?kk_Emrb ?kk_Ek8 ?kk_Ek2 ?kk_EkN ?kk_EkV ?kk_Eex) (K35.cst_mk KX G ?kk_q0 ?kk_q1 ?kk_q2 ?kk_q3 ?kk_q4 ?kk_q5 ?kk_q6 ?kk_q7)
      (L2.defAt_mk KX G ?kk_a0 ?kk_l0 ?kk_c0 ?kk_k0)
      (L2.defAt_mk KX G ?kk_a1 ?kk_l1 ?kk_c1 ?kk_k1)
      (L2.defAt_mk KX G ?kk_a2 ?kk_l2 ?kk_c2 ?kk_k2)
      (L2.defAt_mk KX G ?kk_a3 ?kk_l3 ?kk_c3 ?kk_k3)
      (L2.defAt_mk KX G ?kk_a4 ?kk_l4 ?kk_c4 ?kk_k4)
      (L2.defAt_mk KX G ?kk_a5 ?kk_l5 ?kk_c5 ?kk_k5)
      (L2.defAt_mk KX G ?kk_a6 ?kk_l6 ?kk_c6 ?kk_k6)
      (L2.defAt_mk KX G ?kk_a7 ?kk_l7 ?kk_c7 ?kk_k7)
      (L2.defAt_mk KX G ?kk_a8 ?kk_l8 ?kk_c8 ?kk_k8)
      (L2.defAt_mk KX G ?kk_a9 ?kk_l9 ?kk_c9 ?kk_k9)
      (L2.defAt_mk KX G ?kk_a10 ?kk_l10 ?kk_c10 ?kk_k10)
      (L2.defAt_mk KX G ?kk_a11 ?kk_l11 ?kk_c11 ?kk_k11)
      (L2.defAt_mk KX G ?kk_a12 ?kk_l12 ?kk_c12 ?kk_k12)
      (L2.defAt_mk KX G ?kk_a13 ?kk_l13 ?kk_c13 ?kk_k13)
      (L2.defAt_mk KX G ?kk_a14 ?kk_l14 ?kk_c14 ?kk_k14)
      (L2.defAt_mk KX G ?kk_a15 ?kk_l15 ?kk_c15 ?kk_k15)
      (L2.defAt_mk KX G ?kk_a16 ?kk_l16 ?kk_c16 ?kk_k16)
      (L2.defAt_mk KX G ?kk_a17 ?kk_l17 ?kk_c17 ?kk_k17)
      (L2.defAt_mk KX G ?kk_a18 ?kk_l18 ?kk_c18 ?kk_k18)
      (L2.defAt_mk KX G ?kk_a19 ?kk_l19 ?kk_c19 ?kk_k19)
      (L2.defAt_mk KX G ?kk_a20 ?kk_l20 ?kk_c20 ?kk_k20)
      (L2.defAt_mk KX G ?kk_a21 ?kk_l21 ?kk_c21 ?kk_k21)
      (L2.defAt_mk KX G ?kk_a22 ?kk_l22 ?kk_c22 ?kk_k22)
      (L2.defAt_mk KX G ?kk_a23 ?kk_l23 ?kk_c23 ?kk_k23)
      (L2.defAt_mk KX G ?kk_a24 ?kk_l24 ?kk_c24 ?kk_k24)
      (L2.defAt_mk KX G ?kk_a25 ?kk_l25 ?kk_c25 ?kk_k25)
    (case kk_z0 => k_is); (case kk_z1 => k_is); (case kk_z2 => k_is); (case kk_z3 => k_is); (case kk_z4 => k_is); (case kk_z5 => k_is); (case kk_z6 => k_is); (case kk_z7 => k_is); (case kk_z8 => k_is); (case kk_z9 => k_is); (case kk_z10 => k_is); (case kk_z11 => k_is); (case kk_z12 => k_is)
    (case kk_TaC => k_is); (case kk_Ta0 => k_is); (case kk_Ti0 => k_is); (case kk_Tl0 => k_is); (case kk_Tc0 => k_is); (case kk_Tk0 => k_is); (case kk_Tpg => k_is); (case kk_Thd => k_is); (case kk_Tpo => k_is); (case kk_Tsa => k_is); (case kk_Tmk => k_is); (case kk_Tkc => k_is); (case kk_Tn0 => k_is); (case kk_Tn1 => k_is); (case kk_Tn2 => k_is)
    (case kk_EnM => k_is); (case kk_EnNS => k_is); (case kk_Enc1 => k_is); (case kk_Enc2 => k_is); (case kk_Enc3 => k_is); (case kk_Enc4 => k_is); (case kk_Enc5 => k_is); (case kk_Enc6 => k_is); (case kk_Enc7 => k_is); (case kk_Enc8 => k_is); (case kk_Enc9 => k_is); (case kk_Enc10 => k_is); (case kk_Eexc => k_exc); (case kk_Ega => k_is); (case kk_Egh => k_is); (case kk_Ecls => k_is); (case kk_Espc => k_is); (case kk_Etak => k_is); (case kk_Emro => k_is); (case kk_Emrb => k_is); (case kk_Ek8 => kit_is); (case kk_Ek2 => kit_is); (case kk_EkN => kit_is); (case kk_EkV => kit_is); (case kk_Eex => kts_exm)
    (case kk_q0 => k_is); (case kk_q1 => k_is); (case kk_q2 => k_is); (case kk_q3 => k_is); (case kk_q4 => k_is); (case kk_q5 => k_is); (case kk_q6 => k_is); (case kk_q7 => k_is)
    (case kk_a0 => k_is); (case kk_l0 => k_is); (case kk_c0 => k_is); (case kk_k0 => k_is)
    (case kk_a1 => k_is); (case kk_l1 => k_is); (case kk_c1 => k_is); (case kk_k1 => k_is)
    (case kk_a2 => k_is); (case kk_l2 => k_is); (case kk_c2 => k_is); (case kk_k2 => k_is)
    (case kk_a3 => k_is); (case kk_l3 => k_is); (case kk_c3 => k_is); (case kk_k3 => k_is)
    (case kk_a4 => k_is); (case kk_l4 => k_is); (case kk_c4 => k_is); (case kk_k4 => k_is)
    (case kk_a5 => k_is); (case kk_l5 => k_is); (case kk_c5 => k_is); (case kk_k5 => k_is)
    (case kk_a6 => k_is); (case kk_l6 => k_is); (case kk_c6 => k_is); (case kk_k6 => k_is)
    (case kk_a7 => k_is); (case kk_l7 => k_is); (case kk_c7 => k_is); (case kk_k7 => k_is)
    (case kk_a8 => k_is); (case kk_l8 => k_is); (case kk_c8 => k_is); (case kk_k8 => k_is)
    (case kk_a9 => k_is); (case kk_l9 => k_is); (case kk_c9 => k_is); (case kk_k9 => k_is)
    (case kk_a10 => k_is); (case kk_l10 => k_is); (case kk_c10 => k_is); (case kk_k10 => k_is)
    (case kk_a11 => k_is); (case kk_l11 => k_is); (case kk_c11 => k_is); (case kk_k11 => k_is)
    (case kk_a12 => k_is); (case kk_l12 => k_is); (case kk_c12 => k_is); (case kk_k12 => k_is)
    (case kk_a13 => k_is); (case kk_l13 => k_is); (case kk_c13 => k_is); (case kk_k13 => k_is)
    (case kk_a14 => k_is); (case kk_l14 => k_is); (case kk_c14 => k_is); (case kk_k14 => k_is)
    (case kk_a15 => k_is); (case kk_l15 => k_is); (case kk_c15 => k_is); (case kk_k15 => k_is)
    (case kk_a16 => k_is); (case kk_l16 => k_is); (case kk_c16 => k_is); (case kk_k16 => k_is)
    (case kk_a17 => k_is); (case kk_l17 => k_is); (case kk_c17 => k_is); (case kk_k17 => k_is)
    (case kk_a18 => k_is); (case kk_l18 => k_is); (case kk_c18 => k_is); (case kk_k18 => k_is)
    (case kk_a19 => k_is); (case kk_l19 => k_is); (case kk_c19 => k_is); (case kk_k19 => k_is)
    (case kk_a20 => k_is); (case kk_l20 => k_is); (case kk_c20 => k_is); (case kk_k20 => k_is)
    (case kk_a21 => k_is); (case kk_l21 => k_is); (case kk_c21 => k_is); (case kk_k21 => k_is)
    (case kk_a22 => k_is); (case kk_l22 => k_is); (case kk_c22 => k_is); (case kk_k22 => k_is)
    (case kk_a23 => k_is); (case kk_l23 => k_is); (case kk_c23 => k_is); (case kk_k23 => k_is)
    (case kk_a24 => k_is); (case kk_l24 => k_is); (case kk_c24 => k_is); (case kk_k24 => k_is)
    (case kk_a25 => k_is); (case kk_l25 => k_is); (case kk_c25 => k_is); (case kk_k25 => k_is)
