/- Ops in words and back, there and back: plain mathematics. -/
import Derived.Test.YtolljdomnohmdabGreatDoorM1
namespace Go.Proofs.YtolljdomnohmdabGreatDoor

theorem joinW_cons (w : List UInt8) (r : List (List UInt8)) (h : r ≠ []) : joinW (w :: r) = w ++ 32 :: joinW r := by
  cases r with
  | nil => exact absurd rfl h
  | cons x r => rfl
theorem joinW_snoc : ∀ (ws : List (List UInt8)) (w : List UInt8), ws ≠ [] → joinW (ws ++ [w]) = joinW ws ++ 32 :: w
  | [], _, h => absurd rfl h
  | [x], w, _ => rfl
  | x :: y :: r, w, _ => by
    have ih := joinW_snoc (y :: r) w (by simp)
    rw [List.cons_append, joinW_cons x _ (by simp), ih, joinW_cons x (y :: r) (by simp)]
    simp
theorem splitGo_ne : ∀ (l cur : List UInt8) (ws : List (List UInt8)), splitGo cur l = some ws → ws ≠ []
  | [], cur, ws, h => by
    rw [splitGo] at h
    split at h
    · cases h
    · cases h; simp
  | c :: r, cur, ws, h => by
    rw [splitGo] at h
    split at h
    · split at h
      · cases h
      · obtain ⟨y, _, rfl⟩ := Option.map_eq_some_iff.1 h
        simp
    · split at h
      · cases h
      · exact splitGo_ne r _ ws h
theorem splitGo_join : ∀ (l cur : List UInt8) (ws : List (List UInt8)), splitGo cur l = some ws → joinW ws = cur ++ l
  | [], cur, ws, h => by
    rw [splitGo] at h
    split at h
    · cases h
    · cases h; simp [joinW]
  | c :: r, cur, ws, h => by
    rw [splitGo] at h
    split at h
    · rename_i hc
      split at h
      · cases h
      · obtain ⟨y, hy, rfl⟩ := Option.map_eq_some_iff.1 h
        rw [joinW_cons _ _ (splitGo_ne r [] y hy), splitGo_join r [] y hy, hc]
        simp
    · split at h
      · cases h
      · rw [splitGo_join r _ ws h]
        simp
theorem splitOf_join (l : List UInt8) (ws : List (List UInt8)) (h : splitOf l = some ws) : joinW ws = l := by
  unfold splitOf at h
  split at h
  · rename_i hl
    cases h
    rw [hl]; rfl
  · simpa using splitGo_join l [] ws h
def goodB (ls : List (List UInt8)) : Bool := ls.all (fun x => within 33 126 x)
theorem split_join : ∀ (ls : List (List UInt8)), ls ≠ [] → (∀ x ∈ ls, within 33 126 x = true) → splitGo [] (joinW ls) = some ls
  | [], h, _ => absurd rfl h
  | [x], _, hg => by
    have hx := hg x (by simp)
    have h32 : (32 : UInt8) ∉ x := fun hm => by have := ((within_iff _ _ _).1 hx).2 32 hm; revert this; decide
    rw [show joinW [x] = x from rfl, split_miss x h32, hx]; rfl
  | x :: y :: r, _, hg => by
    have hx := hg x (by simp)
    have h32 : (32 : UInt8) ∉ x := fun hm => by have := ((within_iff _ _ _).1 hx).2 32 hm; revert this; decide
    have ih := split_join (y :: r) (by simp) (fun z hz => hg z (by simp at hz ⊢; exact .inr hz))
    rw [joinW_cons x (y :: r) (by simp), split_hit x _ h32, hx, ih]; rfl
theorem good_mem {ls : List (List UInt8)} (h : goodB ls = true) : ∀ x ∈ ls, within 33 126 x = true := by
  simpa [goodB, List.all_eq_true] using h
theorem splitOf_joinW (ls : List (List UInt8)) (h : goodB ls = true) : splitOf (joinW ls) = some ls := by
  cases ls with
  | nil => rfl
  | cons x r =>
    have hx := (within_iff _ _ _).1 (good_mem h x (by simp))
    unfold splitOf
    rw [if_neg ?_, split_join _ (by simp) (good_mem h)]
    cases r with
    | nil => exact hx.1
    | cons y r => rw [joinW_cons x (y :: r) (by simp)]; simp
theorem splitGo_len : ∀ (l cur : List UInt8) (x : List (List UInt8)), splitGo cur l = some x → x.length ≤ l.length + 1
  | [], cur, x, h => by
    rw [splitGo] at h
    split at h
    · cases h
    · cases h; simp
  | c :: r, cur, x, h => by
    rw [splitGo] at h
    split at h
    · split at h
      · cases h
      · obtain ⟨y, hy, rfl⟩ := Option.map_eq_some_iff.1 h
        have := splitGo_len r [] y hy
        simp; omega
    · split at h
      · cases h
      · have := splitGo_len r (cur ++ [c]) x h
        simp; omega

theorem dec_within (u : Nat) : within 33 126 (Lib.decDigits u) = true := by
  obtain ⟨h0, h⟩ := dec_digits u
  exact (within_iff _ _ _).2 ⟨h0, fun c hc => by have := h c hc; omega⟩
theorem itoa_within (n : Int) : within 33 126 (Lib.itoa n) = true := by
  unfold Lib.itoa
  split
  · obtain ⟨h0, h⟩ := dec_digits n.natAbs
    refine (within_iff _ _ _).2 ⟨by simp, fun c hc => ?_⟩
    rcases List.mem_cons.1 hc with rfl | hc
    · decide
    · have := h c hc; omega
  · exact dec_within _
theorem waitT_within (n : Int) : within 33 126 (waitT n) = true := by
  unfold waitT
  split
  · decide
  · exact itoa_within n
theorem case_within (c : CaseD) : ∀ x ∈ caseW c, within 33 126 x = true := by
  intro x hx
  unfold caseW at hx
  split at hx
  · simp only [List.mem_cons, List.not_mem_nil, or_false] at hx
    rcases hx with rfl | rfl | rfl
    · decide
    · exact itoa_within _
    · exact itoa_within _
  · simp only [List.mem_cons, List.not_mem_nil, or_false] at hx
    rcases hx with rfl | rfl
    · decide
    · exact itoa_within _
theorem kind_cases {k : Int} (h : isKindB k = true) : k = 1 ∨ k = 2 ∨ k = 3 ∨ k = 4 ∨ k = 5 ∨ k = 6 ∨ k = 7 ∨ k = 8 ∨ k = 9 := by
  simp [isKindB] at h
  omega
theorem shape_within {k : Int} (h : isKindB k = true) : within 33 126 (shapeOf k.toNat).word = true := by
  rcases kind_cases h with rfl | rfl | rfl | rfl | rfl | rfl | rfl | rfl | rfl <;> decide
theorem words_good (o : OpD) (h : isKindB o.kind = true) : goodB (wordsD o) = true := by
  unfold goodB
  rw [List.all_eq_true]
  intro x hx
  unfold wordsD at hx
  simp only [List.mem_append] at hx
  rcases hx with (((hx | hx) | hx) | hx) | hx
  · rw [List.mem_singleton.1 hx]; exact shape_within h
  · split at hx
    · rw [List.mem_singleton.1 hx]; exact itoa_within _
    · cases hx
  · split at hx
    · rw [List.mem_singleton.1 hx]; exact itoa_within _
    · cases hx
  · split at hx
    · rw [List.mem_singleton.1 hx]; exact waitT_within _
    · cases hx
  · split at hx
    · obtain ⟨c, _, hc⟩ := List.mem_flatMap.1 hx
      exact case_within c x hc
    · cases hx
theorem split_words (o : OpD) (h : isKindB o.kind = true) : splitOf (textD o) = some (wordsD o) := splitOf_joinW _ (words_good o h)

def in64 (n : Int) : Prop := -9223372036854775808 ≤ n ∧ n ≤ 9223372036854775807
structure In64 (o : OpD) : Prop where
  kind : in64 o.kind
  n : in64 o.n
  v : in64 o.v
  wait : in64 o.wait
  cases : ∀ c ∈ o.cases, in64 c.chan ∧ in64 c.v

theorem num_it {n : Int} (h : in64 n) : numOf (Lib.itoa n) = (n, 0) := num_itoa n h.1 h.2
theorem num_dash : numOf [45] = (0, 2) := by decide +kernel
theorem waitOf_T {n : Int} (h0 : -1 ≤ n) (h1 : n ≤ 1000) : waitOf (waitT n) = (n, 0) := by
  unfold waitT
  split
  · rename_i h; subst h; rfl
  · have hn := num_itoa n (by omega) (by omega)
    unfold waitOf
    rw [if_neg ?_, hn]
    · simp; omega
    · intro e
      rw [e, num_dash] at hn
      simp at hn
theorem waitT_of {l : List UInt8} {n : Int} (h : waitOf l = (n, 0)) : waitT n = l ∧ (l = [45] ∨ numOf l = (n, 0) ∧ 0 ≤ n) := by
  unfold waitOf at h
  split at h
  · rename_i hl
    simp only [Prod.mk.injEq, and_true] at h
    subst h
    exact ⟨hl.symm, .inl hl⟩
  · split at h
    · split at h
      · simp at h
      · rename_i h0
        rw [h] at h0
        simp only at h0
        refine ⟨?_, .inr ⟨h, by omega⟩⟩
        unfold waitT
        rw [if_neg (by omega)]
        exact itoa_num h
    · rename_i h2
      rw [h] at h2
      exact absurd rfl h2

theorem areB_cons (k a : List UInt8) (r : List (List UInt8)) : areB (k :: a :: r) = if k = sendW then (match r with
      | [] => false
      | _ :: r' => areB r') else if k = recvW then areB r else false := by rw [areB.eq_def]; rfl
theorem casesOf_cons (k a : List UInt8) (r : List (List UInt8)) : casesOf (k :: a :: r) = if (numOf a).2 = 0 then
      (if k = sendW then (match r with
        | [] => ([], 2)
        | b :: r' => if (numOf b).2 = 0 then consC ⟨true, (numOf a).1, (numOf b).1⟩ (casesOf r') else ([], (numOf b).2))
      else consC ⟨false, (numOf a).1, 0⟩ (casesOf r)) else ([], (numOf a).2) := by rw [casesOf.eq_def]; rfl
theorem caseW_send (ch v : Int) : caseW ⟨true, ch, v⟩ = [sendW, Lib.itoa ch, Lib.itoa v] := rfl
theorem caseW_recv (ch v : Int) : caseW ⟨false, ch, v⟩ = [recvW, Lib.itoa ch] := rfl
theorem areB_words : ∀ cs : List CaseD, areB (cs.flatMap caseW) = true
  | [] => rfl
  | c :: r => by
    have ih := areB_words r
    obtain ⟨sd, ch, v⟩ := c
    rw [List.flatMap_cons]
    cases sd with
    | true => rw [caseW_send, List.cons_append, List.cons_append, List.cons_append, List.nil_append, areB_cons, if_pos rfl]; exact ih
    | false => rw [caseW_recv, List.cons_append, List.cons_append, List.nil_append, areB_cons, if_neg (by decide), if_pos rfl]; exact ih
theorem casesOf_words : ∀ cs : List CaseD, (∀ c ∈ cs, in64 c.chan ∧ in64 c.v) → (∀ c ∈ cs, c.send = false → c.v = 0) → casesOf (cs.flatMap caseW) = (cs, 0)
  | [], _, _ => rfl
  | c :: r, h, hv => by
    have ih := casesOf_words r (fun d hd => h d (List.mem_cons_of_mem _ hd)) (fun d hd => hv d (List.mem_cons_of_mem _ hd))
    obtain ⟨h1, h2⟩ := h c (List.mem_cons_self)
    obtain ⟨sd, ch, v⟩ := c
    simp only at h1 h2
    rw [List.flatMap_cons]
    cases sd with
    | true =>
      rw [caseW_send, List.cons_append, List.cons_append, List.cons_append, List.nil_append, casesOf_cons, num_it h1, if_pos rfl, if_pos rfl]
      simp only [num_it h2, if_true]
      rw [ih]; rfl
    | false =>
      have : v = 0 := hv _ (List.mem_cons_self) rfl
      subst this
      rw [caseW_recv, List.cons_append, List.cons_append, List.nil_append, casesOf_cons, num_it h1, if_pos rfl, if_neg (by decide), ih]; rfl
theorem consC_inv {c : CaseD} {x : List CaseD × Int} {cs : List CaseD} (h : consC c x = (cs, 0)) : ∃ t, cs = c :: t ∧ x = (t, 0) := by
  unfold consC at h
  split at h
  · rename_i hx
    simp only [Prod.mk.injEq, and_true] at h
    exact ⟨x.1, h.symm, by rw [← hx]⟩
  · rename_i hx
    simp only [Prod.mk.injEq] at h
    exact absurd h.2 hx
theorem pair_fst {x : Int × Int} (h : x.2 = 0) : x = (x.1, 0) := by rw [← h]
theorem words_casesOf : ∀ (n : Nat) (ws : List (List UInt8)) (cs : List CaseD), ws.length ≤ n → areB ws = true → casesOf ws = (cs, 0) → cs.flatMap caseW = ws
  | _, [], cs, _, _, h => by
    rw [casesOf] at h
    simp only [Prod.mk.injEq, and_true] at h
    rw [← h]; rfl
  | _, [_], cs, _, h, _ => by simp [areB] at h
  | 0, _ :: _ :: _, _, h, _, _ => by simp at h
  | n + 1, k :: a :: r, cs, hl, hb, h => by
    rw [casesOf_cons] at h
    rw [areB_cons] at hb
    split at h
    · rename_i ha
      split at h
      · rename_i hk
        rw [if_pos hk] at hb
        cases r with
        | nil => simp at hb
        | cons b r' =>
          simp only at h hb
          split at h
          · rename_i hb2
            obtain ⟨t, rfl, ht⟩ := consC_inv h
            have ih := words_casesOf n r' t (by simp at hl; omega) hb ht
            rw [List.flatMap_cons, ih]
            simp only [caseW, if_true, List.cons_append, List.nil_append]
            rw [itoa_num (pair_fst ha), itoa_num (pair_fst hb2), hk]
          · simp only [Prod.mk.injEq] at h
            rename_i hb2
            exact absurd h.2 hb2
      · rename_i hk
        rw [if_neg hk] at hb
        split at hb
        · rename_i hk2
          obtain ⟨t, rfl, ht⟩ := consC_inv h
          have ih := words_casesOf n r t (by simp at hl; omega) hb ht
          rw [List.flatMap_cons, ih]
          simp only [caseW, Bool.false_eq_true, if_false, List.cons_append, List.nil_append]
          rw [itoa_num (pair_fst ha), hk2]
        · cases hb
    · simp only [Prod.mk.injEq] at h
      rename_i ha
      exact absurd h.2 ha

theorem casesE_good : ∀ (cs seen : List CaseD), casesE seen cs = 0 → ∀ c ∈ cs, badC c = false
  | [], _, _, c, hc => by cases hc
  | d :: r, seen, h, c, hc => by
    rw [casesE] at h
    split at h
    · simp at h
    · rename_i hd
      split at h
      · simp at h
      · rcases List.mem_cons.1 hc with rfl | hc
        · simpa using hd
        · exact casesE_good r _ h c hc
theorem badC_no {c : CaseD} (h : badC c = false) : 0 ≤ c.chan ∧ c.chan < 8 ∧ (c.send = false → c.v = 0) := by
  simp [badC] at h
  obtain ⟨⟨h1, h2⟩, h3⟩ := h
  refine ⟨h1, h2, fun hs => ?_⟩
  by_cases hv : c.v = 0
  · exact hv
  · have := h3 hv; rw [hs] at this; cases this

/-- What Check takes. -/
structure Taken (o : OpD) : Prop where
  kind : isKindB o.kind = true
  takes : takesB (shapeOf o.kind.toNat) o.n o.v o.wait o.cases.length = true
  cases : casesE [] o.cases = 0
  many : (shapeOf o.kind.toNat).picks = true → o.cases.length ≤ 4
theorem taken_of {o : OpD} (h : checkD o = 0) : Taken o := by
  unfold checkD at h
  split at h
  · rename_i hk
    split at h
    · rename_i ht
      split at h
      · simp at h
      · rename_i hm
        refine ⟨hk, ht, h, fun hp => ?_⟩
        rw [hp] at hm
        simp at hm
        omega
    · simp at h
  · simp at h
theorem taken_wait {o : OpD} (h : Taken o) : -1 ≤ o.wait ∧ o.wait ≤ 1000 := by
  have := h.takes
  simp [takesB] at this
  omega

theorem read_words {o : OpD} (h : Taken o) (hi : In64 o) : ∃ k : Nat, (k : Int) = o.kind ∧ k ≠ 0 ∧ ∃ w r, wordsD o = w :: r ∧ kindOf w = k ∧ fitsB (shapeOf k) (w :: r) = true ∧ readD k r = (o, 0) := by
  have ht := h.takes
  have hw := taken_wait h
  have hk := kind_cases h.kind
  have hc := casesOf_words o.cases hi.cases (fun c hc => (badC_no (casesE_good _ _ h.cases c hc)).2.2)
  have ha := areB_words o.cases
  have hn := num_it hi.n
  have hv := num_it hi.v
  have hwt := waitOf_T hw.1 hw.2
  obtain ⟨kd, n, v, wt, cs⟩ := o
  simp only at hk ht hn hv hwt hc ha
  rcases hk with rfl | rfl | rfl | rfl | rfl | rfl | rfl | rfl | rfl
  · simp [takesB, shapeOf] at ht
    obtain ⟨⟨⟨_, rfl⟩, ⟨rfl, _⟩, _⟩, rfl⟩ := ht
    exact ⟨1, rfl, by decide, [114, 117, 110], [Lib.itoa n], rfl, by decide, rfl, by simp [readD, hn]⟩
  · simp [takesB, shapeOf] at ht
    obtain ⟨⟨⟨_, rfl⟩, ⟨rfl, _⟩, _⟩, rfl⟩ := ht
    exact ⟨2, rfl, by decide, [108, 111, 99, 107], [Lib.itoa n], rfl, by decide, rfl, by simp [readD, hn]⟩
  · simp [takesB, shapeOf] at ht
    obtain ⟨⟨⟨_, rfl⟩, ⟨rfl, _⟩, _⟩, rfl⟩ := ht
    exact ⟨3, rfl, by decide, [117, 110, 108, 111, 99, 107], [Lib.itoa n], rfl, by decide, rfl, by simp [readD, hn]⟩
  · simp [takesB, shapeOf] at ht
    obtain ⟨_, rfl⟩ := ht
    exact ⟨4, rfl, by decide, [115, 101, 110, 100], [Lib.itoa n, Lib.itoa v, waitT wt], rfl, by decide, rfl, by simp [readD, hn, hv, hwt]⟩
  · simp [takesB, shapeOf] at ht
    obtain ⟨⟨⟨_, rfl⟩, _⟩, rfl⟩ := ht
    exact ⟨5, rfl, by decide, [114, 101, 99, 118], [Lib.itoa n, waitT wt], rfl, by decide, rfl, by simp [readD, hn, hwt]⟩
  · simp [takesB, shapeOf] at ht
    obtain ⟨⟨⟨_, rfl⟩, ⟨rfl, _⟩, _⟩, rfl⟩ := ht
    exact ⟨6, rfl, by decide, [99, 108, 111, 115, 101], [Lib.itoa n], rfl, by decide, rfl, by simp [readD, hn]⟩
  · simp [takesB, shapeOf] at ht
    obtain ⟨⟨⟨_, _⟩, rfl⟩, _⟩ := ht
    obtain rfl : n = 0 := by omega
    refine ⟨7, rfl, by decide, [115, 101, 108, 101, 99, 116], waitT wt :: cs.flatMap caseW, rfl, by decide, ?_, by simp [readD, hwt, hc]⟩
    unfold fitsB
    rw [if_neg (by simp [aheadN, shapeOf])]
    exact ha
  · simp [takesB, shapeOf] at ht
    obtain ⟨⟨⟨_, rfl⟩, ⟨rfl, _⟩, _⟩, rfl⟩ := ht
    exact ⟨8, rfl, by decide, [108, 111, 111, 112], [Lib.itoa n], rfl, by decide, rfl, by simp [readD, hn]⟩
  · simp [takesB, shapeOf] at ht
    obtain ⟨⟨⟨⟨_, _⟩, rfl⟩, ⟨rfl, _⟩, _⟩, rfl⟩ := ht
    obtain rfl : n = 0 := by omega
    exact ⟨9, rfl, by decide, [101, 110, 100], [], rfl, by decide, rfl, rfl⟩

/-- There and back. -/
theorem parse_text {o : OpD} (h : checkD o = 0) (hi : In64 o) : parseD (textD o) = (o, 0) := by
  have ht := taken_of h
  obtain ⟨k, hk, hk0, w, r, h1, h2, h3, h4⟩ := read_words ht hi
  unfold parseD
  rw [split_words o ht.kind, h1]
  show parseW (w :: r) = _
  unfold parseW
  simp only [h2, if_neg hk0, h3, if_true, h4, checked, h]

theorem checked_inv {x : OpD × Int} {o : OpD} (h : checked x = (o, 0)) : x = (o, 0) ∧ checkD o = 0 := by
  unfold checked at h
  split at h
  · split at h
    · rename_i hc
      subst h
      exact ⟨rfl, hc⟩
    · rename_i hc
      simp only [Prod.mk.injEq] at h
      exact absurd h.2 hc
  · rename_i hx
    simp only [Prod.mk.injEq] at h
    exact absurd h.2 hx
theorem kindOf_word {w : List UInt8} (h : kindOf w ≠ 0) : (shapeOf (kindOf w)).word = w ∧ 1 ≤ kindOf w ∧ kindOf w ≤ 9 := by
  unfold kindOf at h ⊢
  split <;> (try (rename_i e; subst e; decide))
  split <;> (try (rename_i e; subst e; decide))
  split <;> (try (rename_i e; subst e; decide))
  split <;> (try (rename_i e; subst e; decide))
  split <;> (try (rename_i e; subst e; decide))
  split <;> (try (rename_i e; subst e; decide))
  split <;> (try (rename_i e; subst e; decide))
  split <;> (try (rename_i e; subst e; decide))
  split <;> (try (rename_i e; subst e; decide))
  rename_i h1 h2 h3 h4 h5 h6 h7 h8 h9
  simp [h1, h2, h3, h4, h5, h6, h7, h8, h9] at h
theorem pair_ne {o : OpD} {x : OpD} {e : Int} (h : (x, e) = (o, (0 : Int))) (he : e ≠ 0) : False := by
  simp only [Prod.mk.injEq] at h
  exact he h.2
theorem words_read {k : Nat} (hk : 1 ≤ k ∧ k ≤ 9) {r : List (List UInt8)} {o : OpD} (hf : fitsB (shapeOf k) ((shapeOf k).word :: r) = true) (h : readD k r = (o, 0)) : wordsD o = (shapeOf k).word :: r := by
  have hk' : k = 4 ∨ k = 5 ∨ k = 7 ∨ k = 9 ∨ (k = 1 ∨ k = 2 ∨ k = 3 ∨ k = 6 ∨ k = 8) := by omega
  rcases hk' with rfl | rfl | rfl | rfl | hk'
  · unfold readD at h
    rw [if_pos rfl] at h
    split at h
    · rename_i a b c
      split at h <;> (try exact (pair_ne h (by assumption)).elim)
      split at h <;> (try exact (pair_ne h (by assumption)).elim)
      split at h <;> (try exact (pair_ne h (by assumption)).elim)
      rename_i h1 h2 h3
      simp only [Prod.mk.injEq, and_true] at h
      subst h
      show [_, Lib.itoa _, Lib.itoa _, waitT _] = _
      rw [itoa_num (pair_fst h1), itoa_num (pair_fst h2), (waitT_of (pair_fst h3)).1]
      rfl
    · simp at h
  · unfold readD at h
    rw [if_neg (by decide), if_pos rfl] at h
    split at h
    · rename_i a c
      split at h <;> (try exact (pair_ne h (by assumption)).elim)
      split at h <;> (try exact (pair_ne h (by assumption)).elim)
      rename_i h1 h3
      simp only [Prod.mk.injEq, and_true] at h
      subst h
      show [_, Lib.itoa _, waitT _] = _
      rw [itoa_num (pair_fst h1), (waitT_of (pair_fst h3)).1]
      rfl
    · simp at h
  · unfold readD at h
    rw [if_neg (by decide), if_neg (by decide), if_pos rfl] at h
    split at h
    · rename_i c t
      split at h <;> (try exact (pair_ne h (by assumption)).elim)
      split at h <;> (try exact (pair_ne h (by assumption)).elim)
      rename_i h1 h2
      simp only [Prod.mk.injEq, and_true] at h
      subst h
      have ha : areB t = true := by
        unfold fitsB at hf
        rw [if_neg (by simp [aheadN, shapeOf])] at hf
        exact hf
      have := words_casesOf t.length t _ (Nat.le_refl _) ha (show casesOf t = ((casesOf t).1, 0) by rw [← h2])
      show [_] ++ [] ++ [] ++ [waitT _] ++ _ = _
      rw [(waitT_of (pair_fst h1)).1]
      simp only [shapeOf]
      rw [show (List.flatMap caseW (casesOf t).1) = t from this]
      rfl
    · simp at h
  · unfold readD at h
    rw [if_neg (by decide), if_neg (by decide), if_neg (by decide), if_pos rfl] at h
    split at h
    · simp only [Prod.mk.injEq, and_true] at h
      subst h
      rfl
    · simp at h
  · unfold readD at h
    rw [if_neg (by omega), if_neg (by omega), if_neg (by omega), if_neg (by omega)] at h
    split at h
    · rename_i a
      split at h <;> (try exact (pair_ne h (by assumption)).elim)
      rename_i h1
      simp only [Prod.mk.injEq, and_true] at h
      subst h
      have hi := itoa_num (pair_fst h1)
      rcases hk' with rfl | rfl | rfl | rfl | rfl <;> (show [_, Lib.itoa _] = _; rw [hi]; rfl)
    · simp at h
/-- What is one is told so again. -/
theorem text_parse {s : List UInt8} {o : OpD} (h : parseD s = (o, 0)) : textD o = s ∧ checkD o = 0 := by
  unfold parseD at h
  split at h
  · simp at h
  · rename_i ws hs
    unfold parseW at h
    split at h
    · simp at h
    · rename_i w r
      split at h
      · simp at h
      · rename_i hk
        split at h
        · rename_i hf
          obtain ⟨h1, h2⟩ := checked_inv h
          obtain ⟨e1, e2⟩ := kindOf_word hk
          have := words_read e2 (by rw [e1]; exact hf) h1
          rw [e1] at this
          exact ⟨by unfold textD; rw [this]; exact splitOf_join s _ hs, h2⟩
        · simp at h

theorem sameC_iff (a b : CaseD) : sameC a b = true ↔ a = b := by
  obtain ⟨a1, a2, a3⟩ := a
  obtain ⟨b1, b2, b3⟩ := b
  simp [sameC, and_assoc]
theorem sameL_iff : ∀ a b : List CaseD, sameL a b = true ↔ a = b
  | [], [] => by simp [sameL]
  | [], _ :: _ => by simp [sameL]
  | _ :: _, [] => by simp [sameL]
  | a :: r, b :: t => by simp [sameL, sameC_iff, sameL_iff r t]
theorem sameD_iff (a b : OpD) : sameD a b = true ↔ a = b := by
  obtain ⟨a1, a2, a3, a4, a5⟩ := a
  obtain ⟨b1, b2, b3, b4, b5⟩ := b
  simp [sameD, sameL_iff, and_assoc]
theorem sameD_self (a : OpD) : sameD a a = true := (sameD_iff a a).2 rfl
theorem sameD_symm (a b : OpD) : sameD a b = sameD b a := by
  rw [Bool.eq_iff_iff, sameD_iff, sameD_iff]
  exact eq_comm
/-- Two that are taken are told alike just where they are alike. -/
theorem text_apart {a b : OpD} (ha : checkD a = 0) (hb : checkD b = 0) (ia : In64 a) (ib : In64 b) : (textD a == textD b) = sameD a b := by
  rw [Bool.eq_iff_iff, sameD_iff, beq_iff_eq]
  constructor
  · intro h
    have h1 := parse_text ha ia
    rw [h, parse_text hb ib] at h1
    simp only [Prod.mk.injEq, and_true] at h1
    exact h1.symm
  · intro h; rw [h]

/-- A channel's number that is none, told otherwise. -/
def clC (f : Int → Int) (c : CaseD) : CaseD := ⟨c.send, f c.chan, c.v⟩
structure Cl (f : Int → Int) : Prop where
  ok : ∀ n, 0 ≤ n → n < 8 → f n = n
  no : ∀ n, n < 0 ∨ 8 ≤ n → f n < 0 ∨ 8 ≤ f n
theorem clC_good {f : Int → Int} (hf : Cl f) {c : CaseD} (h : badC c = false) : clC f c = c := by
  have := badC_no h
  obtain ⟨a, b, d⟩ := c
  simp only [clC, hf.ok b this.1 this.2.1]
theorem clC_bad {f : Int → Int} (hf : Cl f) {c : CaseD} (h : badC c = true) : badC (clC f c) = true := by
  obtain ⟨a, b, d⟩ := c
  by_cases hb : 0 ≤ b ∧ b < 8
  · have : clC f ⟨a, b, d⟩ = ⟨a, b, d⟩ := by simp only [clC, hf.ok b hb.1 hb.2]
    rw [this]; exact h
  · rcases hf.no b (by omega) with h | h
    · simp [badC, clC, h]
    · simp [badC, clC, h]
theorem casesE_cl {f : Int → Int} (hf : Cl f) : ∀ (cs seen : List CaseD), casesE seen (cs.map (clC f)) = casesE seen cs
  | [], _ => rfl
  | c :: r, seen => by
    rw [List.map_cons, casesE, casesE]
    cases h : badC c with
    | true => rw [clC_bad hf h]; rfl
    | false => rw [clC_good hf h, h, casesE_cl hf r]
theorem map_cl {f : Int → Int} (hf : Cl f) : ∀ (cs : List CaseD), (∀ c ∈ cs, badC c = false) → cs.map (clC f) = cs
  | [], _ => rfl
  | c :: r, h => by rw [List.map_cons, clC_good hf (h c List.mem_cons_self), map_cl hf r (fun d hd => h d (List.mem_cons_of_mem _ hd))]
def clO (f : Int → Int) (o : OpD) : OpD := ⟨o.kind, o.n, o.v, o.wait, o.cases.map (clC f)⟩
theorem checkD_cl {f : Int → Int} (hf : Cl f) (o : OpD) : checkD (clO f o) = checkD o := by
  unfold checkD clO
  simp only [List.length_map, casesE_cl hf]
theorem clO_taken {f : Int → Int} (hf : Cl f) {o : OpD} (h : checkD o = 0) : clO f o = o := by
  have := casesE_good _ _ (taken_of h).cases
  unfold clO
  rw [map_cl hf _ this]
def chan8 (n : Int) : Int := if n < 0 ∨ 8 ≤ n then -1 else n
def chan40 (n : Int) : Int := if n < -1099511627776 ∨ 1099511627776 < n then -1 else n
theorem cl8 : Cl chan8 := ⟨fun n h0 h1 => by rw [chan8, if_neg (by omega)], fun n h => by rw [chan8, if_pos h]; omega⟩
theorem cl40 : Cl chan40 := ⟨fun n h0 h1 => by rw [chan40, if_neg (by omega)], fun n h => by unfold chan40; split <;> omega⟩
/-- What comes of a reading whose channels are told otherwise. -/
theorem checked_cl {f : Int → Int} (hf : Cl f) (x : OpD × Int) : checked (clO f x.1, x.2) = checked x := by
  unfold checked
  simp only [checkD_cl hf]
  split
  · split
    · rename_i h1 h2
      rw [clO_taken hf h2]
    · rfl
  · rfl
end Go.Proofs.YtolljdomnohmdabGreatDoor
