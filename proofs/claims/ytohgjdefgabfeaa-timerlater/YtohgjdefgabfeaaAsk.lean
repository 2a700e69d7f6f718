/- New, Len, find and Left of a timer, and the reference's find and Left, by their contracts. -/
import Derived.Test.YtohgjdefgabfeaaMem
namespace Go.Proofs.Ytohgjdefgabfeaa
open Go.RowKit Tm

set_option maxHeartbeats 400000 in
theorem new_any (B : Nat) (w : World) (hB : B ≤ w.heap.size) :
    Calls Try.prog 8 #[] w fun e w' => ∃ tb, e = .returned (.pointer (some ⟨tb, 0, none⟩)) ∧ TP 57 53 B w' tb (.slice none 0 0) [] ∧ Turns (fun _ => False) w w' ∧ w.heap.size ≤ tb := by
  go_enter Try.func8, Try.ntmps8
  go_wp2
  go_ret
  refine ⟨w.heap.size, rfl, ⟨World.ownsRow_nil _ _ _ _, World.ownsRow_lit w #[.slice none 0 0] 1 hB (by unfold maxLen; omega) rfl, by simp [Value.ownBlock], pos_nil, by simp⟩, (Turns.refl _ _).alloc _, Nat.le_refl _⟩

set_option maxHeartbeats 400000 in
theorem len_any {B : Nat} {w : World} {tb : Nat} {rv : Value} {row : List Du} (h : TP 57 53 B w tb rv row) :
    Calls Try.prog 19 #[.pointer (some ⟨tb, 0, none⟩)] w fun e w' => e = .returned (.int .i64 row.length) ∧ w' = w := by
  have hc := h.c0
  obtain ⟨a, c, rfl⟩ := h.sl
  go_enter Try.func19, Try.ntmps19
  go_wp2
  go_ret
  exact ⟨rfl, rfl⟩

/-- What find answers. -/
def plc (row : List Du) (id : Int) : Int := if findL row id = -1 then 0 else findL row id
def hasB (row : List Du) (id : Int) : Bool := decide (findL row id ≠ -1)
theorem plc_none {row : List Du} {id : Int} (h : findL row id = -1) : plc row id = 0 ∧ hasB row id = false := by simp [plc, hasB, h]
theorem plc_some {row : List Du} {id : Int} {k : Nat} (h : findL row id = (k : Int)) : plc row id = (k : Int) ∧ hasB row id = true := by
  have : ¬ (k : Int) = -1 := by omega
  simp [plc, hasB, h, this]

set_option maxHeartbeats 1000000 in
theorem find_any {B : Nat} {w : World} {tb : Nat} {rv : Value} {row : List Du} (id : Int) (h : TP 57 53 B w tb rv row) :
    Calls Try.prog 20 #[.pointer (some ⟨tb, 0, none⟩), .int .i64 id] w fun e w' => e = .returned (.tuple #[.int .i64 (plc row id), .bool (hasB row id)]) ∧ Turns (fun _ => False) w w' := by
  have hc := h.c0
  have hlen := h.len
  rcases h.form with ⟨rfl, rfl⟩ | ⟨g, cap, rfl, hcap, hne⟩
  · have HP1 : Hid (plc [] id = 0 ∧ hasB [] id = false) := plc_none rfl
    go_enter Try.func20, Try.ntmps20
    go_wp2_with fail
    go_step3
    go_wp2_with fail
    go_step3
    go_wp2_with fail
    go_loopw [6, 7, 15] (fun p b i wr => p = .int .i64 0 ∧ b = .bool false ∧ i = .int .i64 0 ∧ wr = w) (fun _ _ _ _ => 0)
    case atStart => exact ⟨rfl, rfl, rfl, rfl⟩
    case round =>
      obtain ⟨rfl, rfl, rfl, rfl⟩ := hrel
      go_wp2
      rw [Exit.noGoto_ret]
      go_ret2
      rw [HP1.out.1, HP1.out.2]
      exact ⟨rfl, Turns.refl _ _⟩
  · have hown := h.own
    have hlt := h.tb_lt
    go_enter Try.func20, Try.ntmps20
    go_wp2_with fail
    go_step3
    go_wp2_with fail
    go_step3
    go_wp2_with fail
    go_loopw [6, 7, 15] (fun p b i wr => ∃ c : Nat, p = .int .i64 0 ∧ b = .bool false ∧ i = .int .i64 c ∧ c ≤ row.length ∧ Hid (∀ j, j < c → (at' row j).id ≠ id) ∧ Turns (fun _ => False) w wr) (fun _ _ i _ => row.length - (intOf i).toNat)
    case atStart => exact ⟨0, rfl, rfl, rfl, by omega, (fun j hj => by omega), Turns.refl _ _⟩
    case round =>
      obtain ⟨c, rfl, rfl, rfl, hc2, HN, T⟩ := hrel
      by_cases hcl : c < row.length
      · have hq := own_get (owns_turns hown T (fun _ _ x => x)) rfl c hcl
        obtain ⟨gx, gy⟩ := hq
        obtain ⟨x, hx⟩ : ∃ x, (at' row c).id = x := ⟨_, rfl⟩
        obtain ⟨y, hy⟩ : ∃ y, (at' row c).left = y := ⟨_, rfl⟩
        rw [hx] at gx
        rw [hy] at gy
        have HX : Hid ((at' row c).id = x) := hx
        clear hx hy
        have b1 : (c : Int) < (row.length : Int) := by omega
        have b2 : (0 : Int) ≤ (c : Int) := by omega
        by_cases hxi : x = id
        · have q : (x == id) = true := by simp [hxi]
          have HXI : Hid (x = id) := hxi
          clear hxi
          have HF : Hid (plc row id = (c : Int) ∧ hasB row id = true) := plc_some (findL_eq c hcl (by rw [HX.out, HXI.out]) HN.out)
          go_wp2
          rw [Exit.noGoto_ret]
          go_ret2
          rw [HF.out.1, HF.out.2]
          exact ⟨rfl, T.alloc _⟩
        · have q : (x == id) = false := by simp [hxi]
          have HXI : Hid (¬ x = id) := hxi
          clear hxi
          go_wp2
          go_roundw
          case rel =>
            refine ⟨c + 1, rfl, rfl, by go_num, by omega, ?_, ?_⟩
            · intro j hj
              by_cases hjc : j = c
              · rw [hjc, HX.out]; exact HXI.out
              · exact HN.out j (by omega)
            · exact T.alloc _
          case measure => simp [intOf]; omega
      · have HF : Hid (plc row id = 0 ∧ hasB row id = false) := plc_none (findL_none (fun j hj => HN.out j (by omega)))
        have b1 : ¬ (c : Int) < (row.length : Int) := by omega
        go_wp2
        go_ret2
        rw [HF.out.1, HF.out.2]
        exact ⟨rfl, T⟩

/-- What Left answers. -/
def lftB (row : List Du) (id : Int) : Int := if findL row id = -1 then 0 else (at' row (findL row id).toNat).left
theorem lft_none {row : List Du} {id : Int} (h : findL row id = -1) : lftB row id = 0 := by simp [lftB, h]
theorem lft_some {row : List Du} {id : Int} {k : Nat} (h : findL row id = (k : Int)) : lftB row id = (at' row k).left := by
  have : ¬ (k : Int) = -1 := by omega
  simp [lftB, h, this]

set_option maxHeartbeats 1000000 in
theorem left_any {B : Nat} {w : World} {tb : Nat} {rv : Value} {row : List Du} (id : Int) (h : TP 57 53 B w tb rv row) :
    Calls Try.prog 17 #[.pointer (some ⟨tb, 0, none⟩), .int .i64 id] w fun e w' => e = .returned (.tuple #[.int .i64 (lftB row id), .bool (hasB row id)]) ∧ Turns (fun _ => False) w w' := by
  rcases findL_cases row id with ⟨hf, _⟩ | ⟨k, hk, _, hf, _⟩
  · have HF : Hid (plc row id = 0 ∧ hasB row id = false) := plc_none hf
    have HL : Hid (lftB row id = 0) := lft_none hf
    clear hf
    go_enter Try.func17, Try.ntmps17
    go_wp2_with fail
    refine (find_any id h).mono ?_
    rintro e w1 ⟨rfl, t1⟩
    rw [HF.out.1, HF.out.2]
    go_wp2_with fail
    go_ret2
    rw [HL.out, HF.out.2]
    exact ⟨rfl, t1⟩
  · have HF : Hid (plc row id = (k : Int) ∧ hasB row id = true) := plc_some hf
    have HL : Hid (lftB row id = (at' row k).left) := lft_some hf
    clear hf
    go_enter Try.func17, Try.ntmps17
    go_wp2_with fail
    refine (find_any id h).mono ?_
    rintro e w1 ⟨rfl, t1⟩
    rw [HF.out.1, HF.out.2]
    have h1 := h.keep t1
    rcases h.form with ⟨rfl, rfl⟩ | ⟨g, cap, rfl, hcap, hne⟩
    · simp at hk
    · have hc := h1.c0
      have gy := (own_get h1.own rfl k hk).2
      have b1 : (k : Int) < (row.length : Int) := by omega
      have b2 : (0 : Int) ≤ (k : Int) := by omega
      go_wp2_with fail
      go_ret2
      rw [HL.out, HF.out.2]
      exact ⟨rfl, t1⟩

set_option maxHeartbeats 1000000 in
theorem rfind_any {B : Nat} {w : World} {mb : Nat} {lv : Value} {l : List Du} (id : Int) (h : TP 59 29 B w mb lv l) :
    Calls Try.prog 21 #[.pointer (some ⟨mb, 0, none⟩), .int .i64 id] w fun e w' => e = .returned (.int .i64 (findL l id)) ∧ w' = w := by
  have hlen := h.len
  have hc1 := h.c0
  rcases h.form with ⟨rfl, rfl⟩ | ⟨g, cap, rfl, hcap, _⟩
  · go_enter Try.func21, Try.ntmps21
    go_wp2
    go_loopw [5] (fun i wr => i = .int .i64 0 ∧ wr = w) (fun _ _ => 0)
    case atStart => exact ⟨rfl, rfl⟩
    case round =>
      obtain ⟨rfl, rfl⟩ := hrel
      go_wp2
      go_ret
      exact ⟨rfl, rfl⟩
  · have hown := h.own
    go_enter Try.func21, Try.ntmps21
    go_wp2
    go_loopw [5] (fun i wr => ∃ c : Nat, i = .int .i64 c ∧ c ≤ l.length ∧ Hid (∀ j, j < c → (at' l j).id ≠ id) ∧ wr = w) (fun i _ => l.length - (intOf i).toNat)
    case atStart => exact ⟨0, rfl, by omega, (fun j hj => by omega), rfl⟩
    case round =>
      obtain ⟨c, rfl, hc, HN, rfl⟩ := hrel
      by_cases hcl : c < l.length
      · have gx := (own_get hown rfl c hcl).1
        obtain ⟨x, hx⟩ : ∃ x, (at' l c).id = x := ⟨_, rfl⟩
        rw [hx] at gx
        have HX : Hid ((at' l c).id = x) := hx
        clear hx
        have b1 : (c : Int) < (l.length : Int) := by omega
        have b2 : (0 : Int) ≤ (c : Int) := by omega
        by_cases hxi : x = id
        · have q : (x == id) = true := by simp [hxi]
          have HXI : Hid (x = id) := hxi
          clear hxi
          have HF : Hid (findL l id = (c : Int)) := findL_eq c hcl (by rw [HX.out, HXI.out]) HN.out
          go_wp2
          go_ret
          rw [HF.out]
          exact ⟨rfl, rfl⟩
        · have q : (x == id) = false := by simp [hxi]
          have HXI : Hid (¬ x = id) := hxi
          clear hxi
          go_wp2
          go_roundw
          case rel =>
            refine ⟨c + 1, by go_num, by omega, ?_, by first | rfl | trivial⟩
            intro j hj
            by_cases hjc : j = c
            · rw [hjc, HX.out]; exact HXI.out
            · exact HN.out j (by omega)
          case measure => simp [intOf]; omega
      · have HF : Hid (findL l id = -1) := findL_none (fun j hj => HN.out j (by omega))
        have b1 : ¬ (c : Int) < (l.length : Int) := by omega
        go_wp2
        go_ret
        rw [HF.out]
        exact ⟨rfl, rfl⟩

set_option maxHeartbeats 1000000 in
theorem rleft_any {B : Nat} {w : World} {tb : Nat} {rv : Value} {row : List Du} (id : Int) (h : TP 59 29 B w tb rv row) :
    Calls Try.prog 18 #[.pointer (some ⟨tb, 0, none⟩), .int .i64 id] w fun e w' => e = .returned (.tuple #[.int .i64 (lftB row id), .bool (hasB row id)]) ∧ w' = w := by
  have hc := h.c0
  rcases findL_cases row id with ⟨hf, _⟩ | ⟨k, hk, _, hf, _⟩
  · have HF : Hid (hasB row id = false) := (plc_none hf).2
    have HL : Hid (lftB row id = 0) := lft_none hf
    have HFF : Hid (findL row id = -1) := hf
    clear hf
    go_enter Try.func18, Try.ntmps18
    go_wp2_with fail
    refine (rfind_any id h).mono ?_
    rintro e w1 ⟨rfl, hw⟩
    subst w1
    rw [HFF.out]
    go_wp2_with fail
    go_ret2
    rw [HL.out, HF.out]
    exact ⟨rfl, rfl⟩
  · have HF : Hid (hasB row id = true) := (plc_some hf).2
    have HL : Hid (lftB row id = (at' row k).left) := lft_some hf
    have HFF : Hid (findL row id = (k : Int)) := hf
    clear hf
    go_enter Try.func18, Try.ntmps18
    go_wp2_with fail
    refine (rfind_any id h).mono ?_
    rintro e w1 ⟨rfl, hw⟩
    subst w1
    rw [HFF.out]
    rcases h.form with ⟨rfl, rfl⟩ | ⟨g, cap, rfl, hcap, hne⟩
    · simp at hk
    · have gy := (own_get h.own rfl k hk).2
      have b1 : (k : Int) < (row.length : Int) := by omega
      have b2 : (0 : Int) ≤ (k : Int) := by omega
      go_wp2_with fail
      go_ret2
      rw [HL.out, HF.out]
      exact ⟨rfl, rfl⟩
end Go.Proofs.Ytohgjdefgabfeaa
