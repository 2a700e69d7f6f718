/- How great the numbers of the reference's CheckProg are; its state in memory. The reference's CheckProg. The reference's CheckProg, of any ops. -/
import Derived.Test.YtlkbphogpbcjfaaGreatDoorRcA
import Derived.Test.YtlkbphogpbcjfaaGreatDoorRCk
import Derived.Test.YtlkbphogpbcjfaaGreatDoorPgA
namespace Go.Proofs.YtlkbphogpbcjfaaGreatDoor
open Go.RowKit

def Bnd (j : Nat) (s : StR) : Prop := ∃ ts, mulOk s.st ts ∧ 0 ≤ s.steps ∧ (∀ f ∈ s.st, 1 ≤ f.2.1 ∧ f.2.1 ≤ 32 ∧ 0 ≤ f.2.2) ∧ tot s.steps s.st ts ≤ 32768 * (j : Int)
theorem mul_bd : ∀ (st : List (List Int × Int × Int)) (t : Int) (r : List Int), mulOk st (t :: r) → (∀ f ∈ st, 1 ≤ f.2.1 ∧ f.2.1 ≤ 32) → 1 ≤ t ∧ t ≤ 32 ^ st.length
  | [], t, r, h, _ => by
    cases r with
    | nil => simp only [mulOk] at h; subst h; simp
    | cons u us => exact h.elim
  | (hh, N, was) :: st, t, r, h, hf => by
    cases r with
    | nil => exact h.elim
    | cons u us =>
      obtain ⟨e, h2⟩ := h
      have ih := mul_bd st u us h2 (fun f hm => hf f (by simp [hm]))
      have hN := hf (hh, N, was) (by simp)
      simp only at hN
      subst e
      rw [List.length_cons, Int.pow_succ]
      refine ⟨?_, Int.mul_le_mul ih.2 hN.2 (by omega) (by omega)⟩
      have := Int.mul_le_mul ih.1 hN.1 (by omega) (by omega)
      omega
theorem tot_bd2 : ∀ (st : List (List Int × Int × Int)) (steps : Int) (ts : List Int), mulOk st ts → 0 ≤ steps → (∀ f ∈ st, 1 ≤ f.2.1 ∧ f.2.1 ≤ 32 ∧ 0 ≤ f.2.2) → steps ≤ tot steps st ts ∧ ∀ f ∈ st, f.2.2 ≤ tot steps st ts
  | [], steps, ts, h, h0, _ => by
    obtain ⟨t, r, rfl⟩ := mul_cons h
    have hb := mul_bd [] t r h (fun f hf => by cases hf)
    have : 1 * steps ≤ t * steps := Int.mul_le_mul_of_nonneg_right hb.1 h0
    simp only [tot]
    exact ⟨by omega, fun f hf => by cases hf⟩
  | (hh, N, was) :: st, steps, ts, h, h0, hf => by
    obtain ⟨t, r, rfl⟩ := mul_cons h
    have hb := mul_bd _ t r h (fun f hm => ⟨(hf f hm).1, (hf f hm).2.1⟩)
    have h1 : 1 * steps ≤ t * steps := Int.mul_le_mul_of_nonneg_right hb.1 h0
    cases r with
    | nil => exact h.elim
    | cons u us =>
      have hw := hf (hh, N, was) (by simp)
      simp only at hw
      have ih := tot_bd2 st was (u :: us) h.2 hw.2.2 (fun f hm => hf f (by simp [hm]))
      simp only [tot]
      refine ⟨by omega, fun f hm => ?_⟩
      rcases List.mem_cons.1 hm with rfl | hm
      · simp only; omega
      · have := ih.2 f hm; omega
theorem loop_n2 {o : OpD} (hk : o.kind = 8) (h : checkD o = 0) : 1 ≤ o.n ∧ o.n ≤ 32 := by
  obtain ⟨k, n, v, wt, l⟩ := o
  have ht := (taken_of h).takes
  simp only at hk
  subst hk
  simp [takesB, shapeOf] at ht
  simp only
  omega
theorem bnd_step {j : Nat} {s s' : StR} {o : OpD} (h : Bnd j s) (hl : s.st.length ≤ 3) (ho : checkD o = 0) (hr : rStep s o = some s') : Bnd (j + 1) s' := by
  obtain ⟨ts, hm, h0, hf, ht⟩ := h
  obtain ⟨rl, st, steps⟩ := s
  obtain ⟨t, tr, rfl⟩ := mul_cons hm
  simp only at hm h0 hf ht hl hr
  have hb := mul_bd st t tr hm (fun f hq => ⟨(hf f hq).1, (hf f hq).2.1⟩)
  have hp : (32 : Int) ^ st.length ≤ 32768 := by
    rcases Nat.lt_or_ge st.length 3 with h3 | h3
    · have hcase : st.length = 0 ∨ st.length = 1 ∨ st.length = 2 := by omega
      rcases hcase with e | e | e <;> rw [e] <;> decide
    · rw [show st.length = 3 by omega]; decide
  unfold rStep at hr
  by_cases k8 : o.kind = 8
  · have hn := loop_n2 k8 ho
    rw [if_pos k8] at hr
    split at hr
    · cases hr
    · cases hr
      refine ⟨(t * o.n) :: t :: tr, ⟨rfl, hm⟩, by simp, fun f hq => ?_, by simp [tot]; omega⟩
      rcases List.mem_cons.1 hq with rfl | hq
      · exact ⟨hn.1, hn.2, h0⟩
      · exact hf f hq
  · rw [if_neg k8] at hr
    by_cases k9 : o.kind = 9
    · rw [if_pos k9] at hr
      match st, hm, hr, hf, ht with
      | (h, N, was) :: st', hm, hr, hf, ht =>
        match tr, hm, ht with
        | u :: us, hm, ht =>
          simp only at hr
          split at hr
          · cases hr
            have hw := hf (h, N, was) (by simp)
            simp only at hw
            obtain ⟨e1, hm2⟩ := hm
            have hns : 0 ≤ N * steps := Int.mul_nonneg (by omega) h0
            refine ⟨u :: us, hm2, by simp only; omega, fun f hq => hf f (by simp [hq]), ?_⟩
            simp only [tot] at ht
            simp only
            rw [tot_add]
            rw [e1, Int.mul_assoc] at ht
            omega
          · cases hr
    · rw [if_neg k9] at hr
      have hplain : s'.st = st ∧ s'.steps = steps + 1 := by
        split at hr
        · split at hr
          · cases hr; exact ⟨rfl, rfl⟩
          · split at hr
            · cases hr
            · cases hr; exact ⟨rfl, rfl⟩
        · split at hr
          · split at hr
            · cases hr
            · split at hr
              · cases hr; exact ⟨rfl, rfl⟩
              · cases hr
          · split at hr
            · cases hr
            · cases hr; exact ⟨rfl, rfl⟩
      refine ⟨t :: tr, by rw [hplain.1]; exact hm, by rw [hplain.2]; omega, by rw [hplain.1]; exact hf, ?_⟩
      rw [hplain.1, hplain.2, tot_add]
      have : 32768 * ((j + 1 : Nat) : Int) = 32768 * (j : Int) + 32768 := by omega
      omega
/-- The state in memory. -/
structure LSt (Bd : Nat) (W : World) (j : Nat) (s : StR) (a6 : Option Addr) (c6 : Nat) (v7 : Value) (rf : List Fr) : Prop where
  la : LAt W v7 a6 s.rl.reverse
  l0 : a6 = none → c6 = 0
  lc : s.rl.length ≤ c6
  fr : FRow Bd W v7 rf.reverse
  fm : rf.map (fun f => (f.h, f.N, f.was)) = s.st
  fa : ∀ f ∈ rf, LAt W v7 f.a f.h.reverse ∧ (f.a = none → f.c = 0) ∧ f.h.length ≤ f.c
  ok : StOk s
  bd : Bnd j s
theorem LSt.kept {Bd : Nat} {W W' : World} {j : Nat} {s : StR} {a6 : Option Addr} {c6 : Nat} {v7 : Value} {rf : List Fr} (h : LSt Bd W j s a6 c6 v7 rf) (t : Kept W W') : LSt Bd W' j s a6 c6 v7 rf :=
  ⟨h.la.kept t, h.l0, h.lc, h.fr.kept t, h.fm, fun f hf => ⟨(h.fa f hf).1.kept t, (h.fa f hf).2⟩, h.ok, h.bd⟩
theorem LSt.nums {Bd : Nat} {W : World} {j : Nat} {s : StR} {a6 : Option Addr} {c6 : Nat} {v7 : Value} {rf : List Fr} (h : LSt Bd W j s a6 c6 v7 rf) (hj : j ≤ 48) : 0 ≤ s.steps ∧ s.steps ≤ 1572864 ∧ s.rl.length ≤ 8 ∧ rf.length ≤ 3 := by
  obtain ⟨ts, hm, h0, hf, ht⟩ := h.bd
  have hb := tot_bd2 s.st s.steps ts hm h0 hf
  refine ⟨h0, by omega, ?_, ?_⟩
  · have key : ∀ r : List Int, DecR r → ∀ n : Int, (∀ x ∈ r, x < n) → 0 ≤ n → (r.length : Int) ≤ n := by
      intro r
      induction r with
      | nil => intro _ n _ hn; simpa using hn
      | cons k r ih =>
        intro hd n hx hn
        have := ih hd.2.2.2 k hd.2.2.1 hd.1
        have := hx k (by simp)
        simp
        omega
    have := key s.rl h.ok.1 8 (fun x hx => by
      have aux : ∀ r : List Int, DecR r → ∀ x ∈ r, x ≤ 7 := by
        intro r
        induction r with
        | nil => intro _ x hx; cases hx
        | cons k r ih =>
          intro hd x hx
          rcases List.mem_cons.1 hx with rfl | hx
          · exact hd.2.1
          · exact ih hd.2.2.2 x hx
      have := aux s.rl h.ok.1 x hx
      omega) (by omega)
    omega
  · have := congrArg List.length h.fm
    have h2 := h.ok.2.1
    simp at this
    omega
theorem FRow.form {Bd : Nat} {w : World} {v : Value} {fs : List Fr} (h : FRow Bd w v fs) : ∃ a c, v = .slice a fs.length c := by
  rcases h.2 with ⟨h1, h2⟩ | ⟨g, cap, cur, h1, _⟩
  · exact ⟨none, 0, by rw [h1, h2]⟩
  · exact ⟨_, _, h1⟩
end Go.Proofs.YtlkbphogpbcjfaaGreatDoor
namespace Go.Proofs.YtlkbphogpbcjfaaGreatDoor
open Go.RowKit

theorem rev_last (k : Int) (r : List Int) : (k :: r).reverse[r.length]? = some k := by
  rw [List.reverse_cons, List.getElem?_append_right (by simp)]
  simp
set_option maxHeartbeats 16000000 in
set_option maxRecDepth 20000 in
theorem rloop_any (a : Option Addr) (c : Nat) (p : List OpD) (w : World) (hA : AtP w a p) (h48 : p.length ≤ 48) (hc : ∀ o ∈ p, checkD o = 0) :
    Calls Tryz.prog 27 #[.slice a p.length c] w fun e w' => e = .returned (.tuple #[.int .i64 (checkP p).1, .int .i64 (checkP p).2]) ∧ Kept w w' := by
  have HA : Hid (AtP w a p) := hA
  have HC : Hid (∀ o ∈ p, checkD o = 0) := hc
  have HG : Hid (rGo p.length 0 ⟨[], [], 0⟩ p = checkP p) := rgo_check h48 hc
  clear hA hc
  have b48 : ¬ (p.length : Int) > 48 := by omega
  go_enter Tryz.func27, Tryz.ntmps27
  go_wp2_with fail
  go_loopg [4] p.length (fun gk i wr => ∃ (j : Nat) (W : World), W = wr ∧ i = .int .i64 j ∧ j + gk = p.length ∧ Kept w W)
  case atStart => exact ⟨0, _, rfl, rfl, by omega, Kept.refl w⟩
  case round =>
    obtain ⟨j, W, hW, rfl, hj, K⟩ := hrel
    subst hW
    by_cases hjp : j < p.length
    · obtain ⟨b, f, k, n, v, wt, l, ca, cc, rfl, hpj, g0, g1, g2, g3, g4, hcc, hat, hbl, hdr⟩ := (HA.out.kept K).get j hjp
      have b1 : (j : Int) < (p.length : Int) := by omega
      have b2 : (0 : Int) ≤ (j : Int) := by omega
      have hck := rcheck_any k n v wt ca l.length cc l W hat
      rw [HC.out _ (List.mem_of_getElem? hpj)] at hck
      obtain ⟨g3', rfl⟩ : ∃ g, gk = g + 1 := ⟨gk - 1, by omega⟩
      clear hpj hat hdr
      go_wp2_with fail
      refine hck.mono ?_
      rintro e w2 ⟨rfl, t2⟩
      go_wp2_with fail
      go_roundg g3'
      case rel => exact ⟨j + 1, _, rfl, by go_num, by omega, K.trans t2⟩
      case measure => omega
    · have b1 : ¬ (j : Int) < (p.length : Int) := by omega
      have K1 := K
      have M0 : Hid (LSt w.heap.size W 0 ⟨[], [], 0⟩ none 0 (.slice none 0 0) []) := ⟨LAt.nil _ _ _, fun _ => rfl, by simp, FRow.nil _ _, rfl, (fun f hf => by cases hf), ⟨trivial, by simp, fun f hf => by cases hf⟩, ⟨[1], rfl, by simp, (fun f hf => by cases hf), by simp [tot]⟩⟩
      clear K hj hjp
      go_wp2_with fail
      go_loopg [6, 7, 8, 9] p.length (fun gk x6 x7 x8 i wq => ∃ (j : Nat) (s : StR) (a6 : Option Addr) (c6 : Nat) (a7 : Option Addr) (c7 : Nat) (rf : List Fr) (W : World), W = wq ∧ x6 = .slice a6 s.rl.length c6 ∧ x7 = .slice a7 rf.length c7 ∧ x8 = .int .i64 s.steps ∧ i = .int .i64 j ∧ j + gk = p.length ∧ Hid (LSt w.heap.size W j s a6 c6 (.slice a7 rf.length c7) rf) ∧ Hid (checkP p = rGo p.length j s (p.drop j)) ∧ Hid (j = 0 → s.st = [] ∧ s.rl = []) ∧ Kept w W)
      case atStart => exact ⟨0, ⟨[], [], 0⟩, none, 0, none, 0, [], _, rfl, rfl, rfl, rfl, rfl, by omega, M0, (by show _ = _; rw [List.drop_zero, HG.out]), (fun _ => ⟨rfl, rfl⟩), K1⟩
      case round =>
        clear M0 b1 K1
        obtain ⟨j, s, a6, c6, a7, c7, rf, W, hW, rfl, rfl, rfl, rfl, hj, HM, HE, HJ0, K⟩ := hrel
        subst hW
        obtain ⟨rl, st, steps⟩ := s
        have hnum := HM.out.nums (by omega)
        have HFM : Hid (rf.map (fun f => (f.h, f.N, f.was)) = st) := HM.out.fm
        have hrfl : rf.length = st.length := by have := congrArg List.length HFM.out; simpa using this
        have HRF : Hid (rf.length = st.length) := hrfl
        clear hrfl
        simp only at hnum ⊢
        by_cases hjp : j < p.length
        · obtain ⟨b, f, k, n, v, wt, l, ca, cc, rfl, hpj, g0, g1, g2, g3, g4, hcc, hat, hbl, hdr⟩ := (HA.out.kept K).get j hjp
          have b1 : (j : Int) < (p.length : Int) := by omega
          have b2 : (0 : Int) ≤ (j : Int) := by omega
          have HK : Hid (checkD ⟨k, n, v, wt, l⟩ = 0) := HC.out _ (List.mem_of_getElem? hpj)
          have HN : Hid (rStep ⟨rl, st, steps⟩ ⟨k, n, v, wt, l⟩ = none → checkP p = (j, 11)) := fun h => by rw [HE.out, hdr, rGo, h]
          have HS : Hid (∀ s', rStep ⟨rl, st, steps⟩ ⟨k, n, v, wt, l⟩ = some s' → checkP p = rGo p.length (j + 1) s' (p.drop (j + 1))) := fun s' h => by rw [HE.out, hdr, rGo, h]
          obtain ⟨gg, rfl⟩ : ∃ g, gk = g + 1 := ⟨gk - 1, by omega⟩
          clear hpj hat hdr HE
          by_cases k8 : k = 8
          · subst k8
            have KA : Kept W (W.alloc (.cells #[.int .i64 8, .int .i64 n, .int .i64 v, .int .i64 wt, .slice ca l.length cc] 83)) := (Kept.refl W).alloc _
            have HM8 : Hid (LSt w.heap.size (W.alloc (.cells #[.int .i64 8, .int .i64 n, .int .i64 v, .int .i64 wt, .slice ca l.length cc] 83)) j ⟨rl, st, steps⟩ a6 c6 (.slice a7 rf.length c7) rf) := HM.out.kept KA
            by_cases h3 : 3 ≤ st.length
            · have d3 : (rf.length : Int) ≥ 3 := by have := HRF.out; omega
              have HZ : Hid (checkP p = (j, 11)) := HN.out (by simp [rStep, h3])
              clear HN HS
              go_wp2_with fail
              go_ret2
              rw [HZ.out]
              exact ⟨rfl, K.trans KA⟩
            · have d3 : ¬ (rf.length : Int) ≥ 3 := by have := HRF.out; omega
              have HRS : Hid (rStep ⟨rl, st, steps⟩ ⟨8, n, v, wt, l⟩ = some ⟨rl, (rl, n, steps) :: st, 0⟩) := by show _ = _; simp [rStep, h3]
              have HZ : Hid (checkP p = rGo p.length (j + 1) ⟨rl, (rl, n, steps) :: st, 0⟩ (p.drop (j + 1))) := HS.out _ HRS.out
              have HB2 : Hid (Bnd (j + 1) ⟨rl, (rl, n, steps) :: st, 0⟩) := bnd_step HM.out.bd HM.out.ok.2.1 HK.out HRS.out
              have HO2 : Hid (StOk ⟨rl, (rl, n, steps) :: st, 0⟩) := (step_eq HM.out.ok HK.out).2 _ HRS.out
              have hsz : (W.alloc (.cells #[.int .i64 8, .int .i64 n, .int .i64 v, .int .i64 wt, .slice ca l.length cc] 83)).heap.size = W.heap.size + 1 := by simp
              have hln : rf.reverse.length ≤ 1000000 := by simp; omega
              have hrv : rf.reverse.length = rf.length := by simp
              clear HN HS
              go_wp2_with (at_builtin; refine wpList_append_fr _ (by rfl) _ _ rfl w.heap.size (.slice a7 rf.length c7) rf.reverse ⟨a6, c6, rl, n, steps⟩ (W.alloc (.cells #[.int .i64 8, .int .i64 n, .int .i64 v, .int .i64 wt, .slice ca l.length cc] 83)) _ rfl (by rfl) (by rfl) (W.heap.size + 1) hsz.symm (by rfl) HM8.out.fr hln (K.trans KA).size ?_; intro g5 c5 w5 R5 t5 hg5; have K5 : Kept w w5 := t5.kept (K.trans KA) (fun i hi => (World.ownsRow.lt HM8.out.fr i hi).1); have HR5 : Hid (FRow w.heap.size w5 (.slice (some ⟨g5, 0, none⟩) (rf.reverse.length + 1) c5) (rf.reverse ++ [⟨a6, c6, rl, n, steps⟩])) := R5; clear R5)
              go_roundg gg
              case rel =>
                refine ⟨j + 1, ⟨rl, (rl, n, steps) :: st, 0⟩, a6, c6, some ⟨g5, 0, none⟩, c5, ⟨a6, c6, rl, n, steps⟩ :: rf, _, rfl, rfl, ?_, rfl, by go_num, by omega, ⟨HM8.out.la.grow t5 hg5, HM8.out.l0, HM8.out.lc, ?_, ?_, ?_, HO2.out, HB2.out⟩, HZ, (fun h => by omega), K5⟩
                · simp
                · rw [List.reverse_cons]
                  have h := HR5.out
                  rw [hrv] at h
                  exact h
                · rw [List.map_cons, HFM.out]
                · intro f hf
                  rcases List.mem_cons.1 hf with rfl | hf
                  · exact ⟨HM8.out.la.grow t5 hg5, HM8.out.l0, HM8.out.lc⟩
                  · exact ⟨(HM8.out.fa f hf).1.grow t5 hg5, (HM8.out.fa f hf).2⟩
              case measure => omega
          by_cases k9 : k = 9
          · subst k9
            have KA : Kept W (W.alloc (.cells #[.int .i64 9, .int .i64 n, .int .i64 v, .int .i64 wt, .slice ca l.length cc] 83)) := (Kept.refl W).alloc _
            have HM9 : Hid (LSt w.heap.size (W.alloc (.cells #[.int .i64 9, .int .i64 n, .int .i64 v, .int .i64 wt, .slice ca l.length cc] 83)) j ⟨rl, st, steps⟩ a6 c6 (.slice a7 rf.length c7) rf) := HM.out.kept KA
            cases rf with
            | nil =>
              have hst0 : st = [] := by have := HRF.out; simp at this; exact List.eq_nil_of_length_eq_zero this.symm
              have HZ : Hid (checkP p = (j, 11)) := HN.out (by rw [hst0]; simp [rStep])
              clear HN HS
              go_wp2_with fail
              go_ret2
              rw [HZ.out]
              exact ⟨rfl, K.trans KA⟩
            | cons f0 rf' =>
              obtain ⟨fa, fc, fh, fN, fw⟩ := f0
              obtain ⟨st', hst'⟩ : ∃ st', st = (fh, fN, fw) :: st' := ⟨rf'.map (fun f => (f.h, f.N, f.was)), by rw [← HFM.out]; rfl⟩
              have HFR : Hid (FRow w.heap.size (W.alloc (.cells #[.int .i64 9, .int .i64 n, .int .i64 v, .int .i64 wt, .slice ca l.length cc] 83)) (.slice a7 (rf'.length + 1) c7) (rf'.reverse ++ [⟨fa, fc, fh, fN, fw⟩])) := by
                have h := HM9.out.fr
                rw [List.reverse_cons] at h
                exact h
              obtain ⟨g7, hg7⟩ : ∃ g, a7 = some ⟨g, 0, none⟩ := by
                rcases HFR.out.2 with ⟨_, h2⟩ | ⟨g, cap, cur, h2, _⟩
                · simp at h2
                · exact ⟨g, (Value.slice.inj h2).1⟩
              subst hg7
              have hfl : (rf'.reverse ++ [(⟨fa, fc, fh, fN, fw⟩ : Fr)]).length = rf'.length + 1 := by simp
              have HCL : Hid (∀ i, i < 3 → (W.alloc (.cells #[.int .i64 9, .int .i64 n, .int .i64 v, .int .i64 wt, .slice ca l.length cc] 83)).cell? ⟨g7, rf'.length * 3 + i, none⟩ = (frV ⟨fa, fc, fh, fN, fw⟩)[i]?) := fun i hi => by
                have hrow := HFR.out
                unfold FRow at hrow
                rw [hfl] at hrow
                rw [hrow.cellAt (rf'.length * 3 + i) (by omega), flatF_get _ rf'.length i ⟨fa, fc, fh, fN, fw⟩ (by rw [List.getElem?_append_right (by simp)]; simp) hi]
              have q0 : (W.alloc (.cells #[.int .i64 9, .int .i64 n, .int .i64 v, .int .i64 wt, .slice ca l.length cc] 83)).cell? ⟨g7, rf'.length * 3, none⟩ = some (.slice fa fh.length fc) := HCL.out 0 (by omega)
              have q1 : (W.alloc (.cells #[.int .i64 9, .int .i64 n, .int .i64 v, .int .i64 wt, .slice ca l.length cc] 83)).cell? ⟨g7, rf'.length * 3 + 1, none⟩ = some (.int .i64 fN) := HCL.out 1 (by omega)
              have q2 : (W.alloc (.cells #[.int .i64 9, .int .i64 n, .int .i64 v, .int .i64 wt, .slice ca l.length cc] 83)).cell? ⟨g7, rf'.length * 3 + 2, none⟩ = some (.int .i64 fw) := HCL.out 2 (by omega)
              have hfa := HM9.out.fa ⟨fa, fc, fh, fN, fw⟩ (by simp)
              have hr3 : (rf'.length : Int) ≤ 3 := by have := hnum.2.2.2; simp at this; omega
              have hr0 : (0 : Int) ≤ (rf'.length : Int) := by omega
              have i1 : ((rf'.length + 1 : Nat) : Int) - 1 = (rf'.length : Int) := by omega
              have i2 : (rf'.length : Int) < ((rf'.length + 1 : Nat) : Int) := by omega
              have i3 : (rf'.length : Int) + 1 - 1 = (rf'.length : Int) := by omega
              have i4 : ¬ (rf'.length : Int) + 1 = 0 := by omega
              have hal := alike_any fa a6 fc c6 fh.reverse rl.reverse (W.alloc (.cells #[.int .i64 9, .int .i64 n, .int .i64 v, .int .i64 wt, .slice ca l.length cc] 83)) hfa.1.at HM9.out.la.at (by
                have h3 := HM9.out.ok.2.2 (fh, fN, fw) (by simp only; rw [hst']; simp)
                have aux : ∀ r : List Int, DecR r → r.length ≤ 8 := fun r hd => by
                  have hh : LSt 0 (W.alloc (.cells #[.int .i64 9, .int .i64 n, .int .i64 v, .int .i64 wt, .slice ca l.length cc] 83)) 0 ⟨r, [], 0⟩ none r.length (.slice none 0 0) [] → r.length ≤ 8 := fun x => (x.nums (by omega)).2.2.1
                  by_cases hr0 : r.length ≤ 8
                  · exact hr0
                  · exfalso
                    have key : ∀ r : List Int, DecR r → ∀ n : Int, (∀ x ∈ r, x < n) → 0 ≤ n → (r.length : Int) ≤ n := by
                      intro r
                      induction r with
                      | nil => intro _ n _ hn; simpa using hn
                      | cons k r ih =>
                        intro hd n hx hn
                        have := ih hd.2.2.2 k hd.2.2.1 hd.1
                        have := hx k (by simp)
                        simp
                        omega
                    have aux2 : ∀ r : List Int, DecR r → ∀ x ∈ r, x ≤ 7 := by
                      intro r
                      induction r with
                      | nil => intro _ x hx; cases hx
                      | cons k r ih =>
                        intro hd x hx
                        rcases List.mem_cons.1 hx with rfl | hx
                        · exact hd.2.1
                        · exact ih hd.2.2.2 x hx
                    have := key r hd 8 (fun x hx => by have := aux2 r hd x hx; omega) (by omega)
                    omega
                have := aux fh h3
                simp
                omega) (by simp; omega)
              rw [List.length_reverse, List.length_reverse] at hal
              by_cases hfr : fh = rl
              rotate_left
              · have hde : decide (fh.reverse = rl.reverse) = false := decide_eq_false (fun e => hfr (by have := congrArg List.reverse e; simpa using this))
                rw [hde] at hal
                have HZ : Hid (checkP p = (j, 11)) := HN.out (by rw [hst']; simp [rStep, hfr])
                clear HN HS hde hfr
                go_wp2_with fail
                refine hal.mono ?_
                rintro e w2 ⟨rfl, t2⟩
                go_wp2_with fail
                go_ret2
                rw [HZ.out]
                exact ⟨rfl, (K.trans KA).trans t2⟩
              · rw [decide_eq_true (by rw [hfr])] at hal
                have HRS : Hid (rStep ⟨rl, st, steps⟩ ⟨9, n, v, wt, l⟩ = some ⟨rl, st', fw + fN * steps⟩) := by show _ = _; rw [hst']; simp [rStep, hfr]
                have HZ : Hid (checkP p = rGo p.length (j + 1) ⟨rl, st', fw + fN * steps⟩ (p.drop (j + 1))) := HS.out _ HRS.out
                have HB2 : Hid (Bnd (j + 1) ⟨rl, st', fw + fN * steps⟩) := bnd_step HM.out.bd HM.out.ok.2.1 HK.out HRS.out
                have HO2 : Hid (StOk ⟨rl, st', fw + fN * steps⟩) := (step_eq HM.out.ok HK.out).2 _ HRS.out
                have hbN : (1 ≤ fN ∧ fN ≤ 32 ∧ 0 ≤ fw) ∧ fw ≤ 1572864 := by
                  obtain ⟨ts, hm, h0, hf, ht⟩ := HM.out.bd
                  simp only at hm h0 hf ht
                  have hmem : (fh, fN, fw) ∈ st := by rw [hst']; simp
                  have hb := (tot_bd2 st steps ts hm h0 hf).2 _ hmem
                  simp only at hb
                  exact ⟨hf _ hmem, by omega⟩
                obtain ⟨P, hP⟩ : ∃ P, fN * steps = P := ⟨_, rfl⟩
                have hPb : 0 ≤ P ∧ P ≤ 50331648 := by
                  rw [← hP]
                  refine ⟨Int.mul_nonneg (by omega) (by omega), ?_⟩
                  have := Int.mul_le_mul hbN.1.2.1 hnum.2.1 (by omega) (by omega)
                  omega
                have hPw : ∀ q, q = P → IntKind.i64.wrap q = q := by
                  intro q hq
                  simp [IntKind.wrap, IntKind.bits, IntKind.signed]
                  omega
                rw [hP] at HZ HB2 HO2
                have c7b : (rf'.length : Int) ≤ (c7 : Int) := by
                  have hrow := HFR.out
                  rcases hrow.2 with ⟨h1, _⟩ | ⟨g, cap, cur, h2, _, _, h3, _⟩
                  · cases h1
                  · have := (Value.slice.inj h2).2.2
                    rw [hfl] at h3
                    omega
                have HFM2 : Hid (rf'.map (fun f => (f.h, f.N, f.was)) = st') := by
                  have h := HFM.out
                  rw [hst', List.map_cons] at h
                  exact (List.cons.inj h).2
                have HTK : Hid (∀ w', Kept (W.alloc (.cells #[.int .i64 9, .int .i64 n, .int .i64 v, .int .i64 wt, .slice ca l.length cc] 83)) w' → FRow w.heap.size w' (.slice (some ⟨g7, 0, none⟩) rf'.length c7) rf'.reverse) := fun w' t => by
                  have h := HFR.out.kept t
                  unfold FRow at h
                  rw [hfl] at h
                  have h2 := own_take (r := rf'.length) h (by omega)
                  unfold FRow
                  rw [List.length_reverse]
                  have he : (flatF (rf'.reverse ++ [⟨fa, fc, fh, fN, fw⟩])).take (rf'.length * 3) = flatF rf'.reverse := by
                    rw [show flatF (rf'.reverse ++ [⟨fa, fc, fh, fN, fw⟩]) = flatF rf'.reverse ++ frV ⟨fa, fc, fh, fN, fw⟩ by simp [flatF]]
                    exact List.take_left' (by rw [flatF_len, List.length_reverse])
                  rw [he] at h2
                  exact h2
                have HLA : Hid (LAt (W.alloc (.cells #[.int .i64 9, .int .i64 n, .int .i64 v, .int .i64 wt, .slice ca l.length cc] 83)) (.slice (some ⟨g7, 0, none⟩) rf'.length c7) a6 rl.reverse) := HM9.out.la.short
                have HFA : Hid (∀ f ∈ rf', LAt (W.alloc (.cells #[.int .i64 9, .int .i64 n, .int .i64 v, .int .i64 wt, .slice ca l.length cc] 83)) (.slice (some ⟨g7, 0, none⟩) rf'.length c7) f.a f.h.reverse ∧ (f.a = none → f.c = 0) ∧ f.h.length ≤ f.c) := fun f hf => ⟨(HM9.out.fa f (by simp [hf])).1.short, (HM9.out.fa f (by simp [hf])).2⟩
                have hl0 := HM.out.l0
                have HLC : Hid (rl.length ≤ c6) := HM.out.lc
                clear HN HS hfr HRS hst'
                go_wp2_with fail
                refine hal.mono ?_
                rintro e w2 ⟨rfl, t2⟩
                have z0 := t2.cell q0
                have z1 := t2.cell q1
                have z2 := t2.cell q2
                have KZ : Kept w2 (w2.alloc (.cells #[.slice fa fh.length fc, .int .i64 fN, .int .i64 fw] 99)) := (Kept.refl w2).alloc _
                have T2 := t2.trans KZ
                clear q0 q1 q2 hal
                go_wp2_with fail
                go_roundg gg
                case rel =>
                  refine ⟨j + 1, ⟨rl, st', fw + P⟩, a6, c6, some ⟨g7, 0, none⟩, c7, rf', _, rfl, rfl, rfl, ?_, by go_num, by omega, ⟨HLA.out.kept T2, hl0, HLC.out, HTK.out _ T2, HFM2.out, fun f hf => ⟨(HFA.out f hf).1.kept T2, (HFA.out f hf).2⟩, HO2.out, HB2.out⟩, HZ, (fun h => by omega), (K.trans KA).trans T2⟩
                  first | rfl | go_num
                case measure => omega
          by_cases k2 : k = 2
          · subst k2
            cases rl with
            | nil =>
              have KA : Kept W (W.alloc (.cells #[.int .i64 2, .int .i64 n, .int .i64 v, .int .i64 wt, .slice ca l.length cc] 83)) := (Kept.refl W).alloc _
              have HM2 : Hid (LSt w.heap.size (W.alloc (.cells #[.int .i64 2, .int .i64 n, .int .i64 v, .int .i64 wt, .slice ca l.length cc] 83)) j ⟨[], st, steps⟩ a6 c6 (.slice a7 rf.length c7) rf) := HM.out.kept KA
              have HRS : Hid (rStep ⟨[], st, steps⟩ ⟨2, n, v, wt, l⟩ = some ⟨n :: [], st, steps + 1⟩) := by show _ = _; simp [rStep]
              have HZ : Hid (checkP p = rGo p.length (j + 1) ⟨n :: [], st, steps + 1⟩ (p.drop (j + 1))) := HS.out _ HRS.out
              have HB2 : Hid (Bnd (j + 1) ⟨n :: [], st, steps + 1⟩) := bnd_step HM.out.bd HM.out.ok.2.1 HK.out HRS.out
              have HO2 : Hid (StOk ⟨n :: [], st, steps + 1⟩) := (step_eq HM.out.ok HK.out).2 _ HRS.out
              have hsz : (W.alloc (.cells #[.int .i64 2, .int .i64 n, .int .i64 v, .int .i64 wt, .slice ca l.length cc] 83)).heap.size = W.heap.size + 1 := by simp
              have HLN : Hid (0 = ([] : List Int).reverse.length) := by show _ = _; simp
              have hll : ([] : List Int).reverse.length ≤ 1000000 := by simp
              have HLT : Hid (∀ q, (Value.slice a7 rf.length c7).ownBlock = some q → q < W.heap.size + 1) := fun q hq => by
                have := (World.ownsRow.lt HM2.out.fr q hq).2
                omega
              clear HN HS
              go_wp2_with (at_builtin; first
                | (refine wpList_append_int nInt _ (by rfl) _ _ rfl (W.heap.size + 1) v4 ([] : List Int).reverse n w4 (by rfl) (by rfl) w4.heap.size (by rfl) (by rfl) HR4.out hll (show W.heap.size + 1 ≤ w4.heap.size from hsz ▸ t4s.size) ?_; intro g5 c5 w5 R5 gr5 hg5; have K5 : Kept (W.alloc (.cells #[.int .i64 2, .int .i64 n, .int .i64 v, .int .i64 wt, .slice ca l.length cc] 83)) w5 := Turns.kept (S := fun k => v4.ownBlock = some k) (((Turns.refl _ w4).alloc _).trans (Turns.grown gr5 (fun k e => e))) t4s (fun i hi => by rw [hsz]; exact (World.ownsRow.lt HR4.out i hi).1); have HR5 : Hid (IRow 3 (W.heap.size + 1) w5 (.slice (some ⟨g5, 0, none⟩) (([] : List Int).reverse.length + 1) c5) (([] : List Int).reverse ++ [n])) := R5; clear R5)
                | (refine wpList_copy_int _ (by rfl) _ _ rfl (W.alloc (.cells #[.int .i64 2, .int .i64 n, .int .i64 v, .int .i64 wt, .slice ca l.length cc] 83)) (by rfl) (W.heap.size + 1) hsz.symm (by rfl) a6 0 c6 ([] : List Int).reverse HLN.out (by rfl) HM2.out.l0 HM2.out.la.at hll ?_; intro v4 w4 R4 t4s; rw [hsz] at R4; have HR4 : Hid (IRow 3 (W.heap.size + 1) w4 v4 ([] : List Int).reverse) := R4; clear R4) | fail)
              go_roundg gg
              case rel =>
                have hR5 := HR5.out
                have hcp : (n :: [] : List Int).length ≤ c5 := by
                  obtain ⟨a9, c9, e9, h9⟩ := hR5.form
                  have := (Value.slice.inj e9).2.2
                  simp at h9
                  simp
                  omega
                refine ⟨j + 1, ⟨n :: [], st, steps + 1⟩, some ⟨g5, 0, none⟩, c5, a7, c7, rf, _, rfl, ?_, rfl, by first | rfl | go_num, by go_num, by omega, ⟨?_, (fun e => by cases e), hcp, HM2.out.fr.kept K5, HFM.out, fun f hf => ⟨(HM2.out.fa f hf).1.kept K5, (HM2.out.fa f hf).2⟩, HO2.out, HB2.out⟩, HZ, (fun h => by omega), (K.trans KA).trans K5⟩
                · simp
                · rw [List.reverse_cons]
                  exact LAt.fresh hR5 HLT.out
              case measure => omega
            | cons k0 r =>
              obtain ⟨b6, f6, ha6, hc6, _⟩ := HM.out.la r.length k0 (rev_last k0 r)
              subst ha6
              have kc := ((Kept.refl W).alloc (.cells #[.int .i64 2, .int .i64 n, .int .i64 v, .int .i64 wt, .slice ca l.length cc] 83)).cell hc6
              have hrl8 : (r.length : Int) ≤ 8 := by have := hnum.2.2.1; simp at this; omega
              have hrl0 : (0 : Int) ≤ (r.length : Int) := by omega
              have i1 : (r.length : Int) + 1 - 1 = (r.length : Int) := by omega
              have i2 : (r.length : Int) < (r.length : Int) + 1 := by omega
              have i3 : ¬ (r.length : Int) + 1 = 0 := by omega
              have i4 : (r.length : Int) + 1 > 0 := by omega
              have hdk : 0 ≤ k0 := HM.out.ok.1.1
              have hdk7 : k0 ≤ 7 := HM.out.ok.1.2.1
              by_cases hnk : n ≤ k0
              · have HZ : Hid (checkP p = (j, 11)) := HN.out (by simp [rStep, hnk])
                clear HN HS
                go_wp2_with fail
                go_ret2
                rw [HZ.out]
                exact ⟨rfl, K.trans ((Kept.refl W).alloc _)⟩
              · have KA : Kept W (W.alloc (.cells #[.int .i64 2, .int .i64 n, .int .i64 v, .int .i64 wt, .slice ca l.length cc] 83)) := (Kept.refl W).alloc _
                have HM2 : Hid (LSt w.heap.size (W.alloc (.cells #[.int .i64 2, .int .i64 n, .int .i64 v, .int .i64 wt, .slice ca l.length cc] 83)) j ⟨(k0 :: r), st, steps⟩ (some ⟨b6, f6, none⟩) c6 (.slice a7 rf.length c7) rf) := HM.out.kept KA
                have HRS : Hid (rStep ⟨(k0 :: r), st, steps⟩ ⟨2, n, v, wt, l⟩ = some ⟨n :: (k0 :: r), st, steps + 1⟩) := by show _ = _; simp [rStep, hnk]
                have HZ : Hid (checkP p = rGo p.length (j + 1) ⟨n :: (k0 :: r), st, steps + 1⟩ (p.drop (j + 1))) := HS.out _ HRS.out
                have HB2 : Hid (Bnd (j + 1) ⟨n :: (k0 :: r), st, steps + 1⟩) := bnd_step HM.out.bd HM.out.ok.2.1 HK.out HRS.out
                have HO2 : Hid (StOk ⟨n :: (k0 :: r), st, steps + 1⟩) := (step_eq HM.out.ok HK.out).2 _ HRS.out
                have hsz : (W.alloc (.cells #[.int .i64 2, .int .i64 n, .int .i64 v, .int .i64 wt, .slice ca l.length cc] 83)).heap.size = W.heap.size + 1 := by simp
                have HLN : Hid ((r.length + 1) = ((k0 :: r) : List Int).reverse.length) := by show _ = _; simp
                have hll : ((k0 :: r) : List Int).reverse.length ≤ 1000000 := by simp; omega
                have HLT : Hid (∀ q, (Value.slice a7 rf.length c7).ownBlock = some q → q < W.heap.size + 1) := fun q hq => by
                  have := (World.ownsRow.lt HM2.out.fr q hq).2
                  omega
                clear HN HS
                go_wp2_with (at_builtin; first
                  | (refine wpList_append_int nInt _ (by rfl) _ _ rfl (W.heap.size + 1) v4 ((k0 :: r) : List Int).reverse n w4 (by rfl) (by rfl) w4.heap.size (by rfl) (by rfl) HR4.out hll (show W.heap.size + 1 ≤ w4.heap.size from hsz ▸ t4s.size) ?_; intro g5 c5 w5 R5 gr5 hg5; have K5 : Kept (W.alloc (.cells #[.int .i64 2, .int .i64 n, .int .i64 v, .int .i64 wt, .slice ca l.length cc] 83)) w5 := Turns.kept (S := fun k => v4.ownBlock = some k) (((Turns.refl _ w4).alloc _).trans (Turns.grown gr5 (fun k e => e))) t4s (fun i hi => by rw [hsz]; exact (World.ownsRow.lt HR4.out i hi).1); have HR5 : Hid (IRow 3 (W.heap.size + 1) w5 (.slice (some ⟨g5, 0, none⟩) (((k0 :: r) : List Int).reverse.length + 1) c5) (((k0 :: r) : List Int).reverse ++ [n])) := R5; clear R5)
                  | (refine wpList_copy_int _ (by rfl) _ _ rfl (W.alloc (.cells #[.int .i64 2, .int .i64 n, .int .i64 v, .int .i64 wt, .slice ca l.length cc] 83)) (by rfl) (W.heap.size + 1) hsz.symm (by rfl) (some ⟨b6, f6, none⟩) (r.length + 1) c6 ((k0 :: r) : List Int).reverse HLN.out (by rfl) HM2.out.l0 HM2.out.la.at hll ?_; intro v4 w4 R4 t4s; rw [hsz] at R4; have HR4 : Hid (IRow 3 (W.heap.size + 1) w4 v4 ((k0 :: r) : List Int).reverse) := R4; clear R4) | fail)
                go_roundg gg
                case rel =>
                  have hR5 := HR5.out
                  have hcp : (n :: (k0 :: r) : List Int).length ≤ c5 := by
                    obtain ⟨a9, c9, e9, h9⟩ := hR5.form
                    have := (Value.slice.inj e9).2.2
                    simp at h9
                    simp
                    omega
                  refine ⟨j + 1, ⟨n :: (k0 :: r), st, steps + 1⟩, some ⟨g5, 0, none⟩, c5, a7, c7, rf, _, rfl, ?_, rfl, by first | rfl | go_num, by go_num, by omega, ⟨?_, (fun e => by cases e), hcp, HM2.out.fr.kept K5, HFM.out, fun f hf => ⟨(HM2.out.fa f hf).1.kept K5, (HM2.out.fa f hf).2⟩, HO2.out, HB2.out⟩, HZ, (fun h => by omega), (K.trans KA).trans K5⟩
                  · simp
                  · rw [List.reverse_cons]
                    exact LAt.fresh hR5 HLT.out
                case measure => omega
          by_cases k3 : k = 3
          · subst k3
            cases rl with
            | nil =>
              have HZ : Hid (checkP p = (j, 11)) := HN.out (by simp [rStep])
              clear HN HS
              go_wp2_with fail
              go_ret2
              rw [HZ.out]
              exact ⟨rfl, K.trans ((Kept.refl W).alloc _)⟩
            | cons k0 r =>
              obtain ⟨b6, f6, ha6, hc6, _⟩ := HM.out.la r.length k0 (rev_last k0 r)
              subst ha6
              have kc := ((Kept.refl W).alloc (.cells #[.int .i64 3, .int .i64 n, .int .i64 v, .int .i64 wt, .slice ca l.length cc] 83)).cell hc6
              have hrl8 : (r.length : Int) ≤ 8 := by have := hnum.2.2.1; simp at this; omega
              have hrl0 : (0 : Int) ≤ (r.length : Int) := by omega
              have i1 : (r.length : Int) + 1 - 1 = (r.length : Int) := by omega
              have i2 : (r.length : Int) < (r.length : Int) + 1 := by omega
              have i3 : ¬ (r.length : Int) + 1 = 0 := by omega
              have i4 : (r.length : Int) + 1 > 0 := by omega
              have hdk : 0 ≤ k0 := HM.out.ok.1.1
              have hdk7 : k0 ≤ 7 := HM.out.ok.1.2.1
              by_cases hnk : k0 = n
              rotate_left
              · have hne : (k0 != n) = true := by simpa using hnk
                have HZ : Hid (checkP p = (j, 11)) := HN.out (by simp [rStep, hnk])
                clear HN HS
                go_wp2_with fail
                go_ret2
                rw [HZ.out]
                exact ⟨rfl, K.trans ((Kept.refl W).alloc _)⟩
              · subst hnk
                have KA : Kept W (W.alloc (.cells #[.int .i64 3, .int .i64 k0, .int .i64 v, .int .i64 wt, .slice ca l.length cc] 83)) := (Kept.refl W).alloc _
                have HM2 : Hid (LSt w.heap.size (W.alloc (.cells #[.int .i64 3, .int .i64 k0, .int .i64 v, .int .i64 wt, .slice ca l.length cc] 83)) j ⟨k0 :: r, st, steps⟩ (some ⟨b6, f6, none⟩) c6 (.slice a7 rf.length c7) rf) := HM.out.kept KA
                have HRS : Hid (rStep ⟨k0 :: r, st, steps⟩ ⟨3, k0, v, wt, l⟩ = some ⟨r, st, steps + 1⟩) := by show _ = _; simp [rStep]
                have HZ : Hid (checkP p = rGo p.length (j + 1) ⟨r, st, steps + 1⟩ (p.drop (j + 1))) := HS.out _ HRS.out
                have HB2 : Hid (Bnd (j + 1) ⟨r, st, steps + 1⟩) := bnd_step HM.out.bd HM.out.ok.2.1 HK.out HRS.out
                have HO2 : Hid (StOk ⟨r, st, steps + 1⟩) := (step_eq HM.out.ok HK.out).2 _ HRS.out
                have hsz : (W.alloc (.cells #[.int .i64 3, .int .i64 k0, .int .i64 v, .int .i64 wt, .slice ca l.length cc] 83)).heap.size = W.heap.size + 1 := by simp
                have HLN : Hid (r.length = r.reverse.length) := by show _ = _; simp
                have hll : r.reverse.length ≤ 1000000 := by simp; omega
                have c6b : (r.length : Int) ≤ (c6 : Int) := by have := HM.out.lc; simp at this; omega
                have HAI : Hid (AtI (W.alloc (.cells #[.int .i64 3, .int .i64 k0, .int .i64 v, .int .i64 wt, .slice ca l.length cc] 83)) (some ⟨b6, f6, none⟩) r.reverse) := fun q x hq => HM2.out.la.at q x (by
                  show (k0 :: r).reverse[q]? = _
                  have hql := (List.getElem?_eq_some_iff.1 hq).1
                  rw [List.reverse_cons, List.getElem?_append_left hql]
                  exact hq)
                have HLT : Hid (∀ q, (Value.slice a7 rf.length c7).ownBlock = some q → q < W.heap.size + 1) := fun q hq => by
                  have := (World.ownsRow.lt HM2.out.fr q hq).2
                  omega
                clear HN HS
                go_wp2_with (at_builtin; refine wpList_copy_int _ (by rfl) _ _ rfl (W.alloc (.cells #[.int .i64 3, .int .i64 k0, .int .i64 v, .int .i64 wt, .slice ca l.length cc] 83)) (by rfl) (W.heap.size + 1) hsz.symm (by rfl) (some ⟨b6, f6, none⟩) r.length c6 r.reverse HLN.out (by rfl) (fun e => by cases e) HAI.out hll ?_; intro v4 w4 R4 t4s; rw [hsz] at R4; have HR4 : Hid (IRow 3 (W.heap.size + 1) w4 v4 r.reverse) := R4; clear R4)
                go_roundg gg
                case rel =>
                  have hR4 := HR4.out
                  obtain ⟨a4, c4, hv4, hc4, h40⟩ : ∃ a4 c4, v4 = .slice a4 r.reverse.length c4 ∧ r.reverse.length ≤ c4 ∧ (a4 = none → c4 = 0) := by
                    rcases hR4.2 with ⟨h1, h2⟩ | ⟨g, cap, cur, h1, _, _, h3, _⟩
                    · exact ⟨none, 0, by rw [h1, h2], by omega, fun _ => rfl⟩
                    · exact ⟨_, _, h1, h3, fun e => by cases e⟩
                  subst hv4
                  refine ⟨j + 1, ⟨r, st, steps + 1⟩, a4, c4, a7, c7, rf, _, rfl, ?_, rfl, by first | rfl | go_num, by go_num, by omega, ⟨LAt.fresh hR4 HLT.out, h40, by simp at hc4; exact hc4, HM2.out.fr.kept t4s, HFM.out, fun f hf => ⟨(HM2.out.fa f hf).1.kept t4s, (HM2.out.fa f hf).2⟩, HO2.out, HB2.out⟩, HZ, (fun h => by omega), (K.trans KA).trans t4s⟩
                  simp
                case measure => omega
          have KA : Kept W (W.alloc (.cells #[.int .i64 k, .int .i64 n, .int .i64 v, .int .i64 wt, .slice ca l.length cc] 83)) := (Kept.refl W).alloc _
          have HM1 : Hid (LSt w.heap.size (W.alloc (.cells #[.int .i64 k, .int .i64 n, .int .i64 v, .int .i64 wt, .slice ca l.length cc] 83)) j ⟨rl, st, steps⟩ a6 c6 (.slice a7 rf.length c7) rf) := HM.out.kept KA
          by_cases hkw : k = 4 ∨ k = 5 ∨ k = 7
          · have hwa := rwaits_any k n v wt ca l.length cc l (W.alloc (.cells #[.int .i64 k, .int .i64 n, .int .i64 v, .int .i64 wt, .slice ca l.length cc] 83))
            cases hq : waitsD ⟨k, n, v, wt, l⟩ with
            | false =>
              rw [hq] at hwa
              rcases hkw with rfl | rfl | rfl
              · have HRS : Hid (rStep ⟨rl, st, steps⟩ ⟨4, n, v, wt, l⟩ = some ⟨rl, st, steps + 1⟩) := by show _ = _; unfold rStep; simp only; rw [if_neg k8, if_neg k9, if_neg k2, if_neg k3, if_neg (by rw [hq]; simp)]
                have HZ : Hid (checkP p = rGo p.length (j + 1) ⟨rl, st, steps + 1⟩ (p.drop (j + 1))) := HS.out _ HRS.out
                have HB2 : Hid (Bnd (j + 1) ⟨rl, st, steps + 1⟩) := bnd_step HM.out.bd HM.out.ok.2.1 HK.out HRS.out
                have HO2 : Hid (StOk ⟨rl, st, steps + 1⟩) := (step_eq HM.out.ok HK.out).2 _ HRS.out
                clear HN HS
                go_wp2_with fail
                refine hwa.mono ?_
                rintro e w2 ⟨rfl, t2⟩
                go_wp2_with fail
                go_roundg gg
                case rel => exact ⟨j + 1, ⟨rl, st, steps + 1⟩, a6, c6, a7, c7, rf, _, rfl, rfl, rfl, by first | rfl | go_num, by go_num, by omega, ⟨HM1.out.la.kept t2, HM1.out.l0, HM1.out.lc, HM1.out.fr.kept t2, HFM.out, fun f hf => ⟨(HM1.out.fa f hf).1.kept t2, (HM1.out.fa f hf).2⟩, HO2.out, HB2.out⟩, HZ, (fun h => by omega), (K.trans KA).trans t2⟩
                case measure => omega
              · have HRS : Hid (rStep ⟨rl, st, steps⟩ ⟨5, n, v, wt, l⟩ = some ⟨rl, st, steps + 1⟩) := by show _ = _; unfold rStep; simp only; rw [if_neg k8, if_neg k9, if_neg k2, if_neg k3, if_neg (by rw [hq]; simp)]
                have HZ : Hid (checkP p = rGo p.length (j + 1) ⟨rl, st, steps + 1⟩ (p.drop (j + 1))) := HS.out _ HRS.out
                have HB2 : Hid (Bnd (j + 1) ⟨rl, st, steps + 1⟩) := bnd_step HM.out.bd HM.out.ok.2.1 HK.out HRS.out
                have HO2 : Hid (StOk ⟨rl, st, steps + 1⟩) := (step_eq HM.out.ok HK.out).2 _ HRS.out
                clear HN HS
                go_wp2_with fail
                refine hwa.mono ?_
                rintro e w2 ⟨rfl, t2⟩
                go_wp2_with fail
                go_roundg gg
                case rel => exact ⟨j + 1, ⟨rl, st, steps + 1⟩, a6, c6, a7, c7, rf, _, rfl, rfl, rfl, by first | rfl | go_num, by go_num, by omega, ⟨HM1.out.la.kept t2, HM1.out.l0, HM1.out.lc, HM1.out.fr.kept t2, HFM.out, fun f hf => ⟨(HM1.out.fa f hf).1.kept t2, (HM1.out.fa f hf).2⟩, HO2.out, HB2.out⟩, HZ, (fun h => by omega), (K.trans KA).trans t2⟩
                case measure => omega
              · have HRS : Hid (rStep ⟨rl, st, steps⟩ ⟨7, n, v, wt, l⟩ = some ⟨rl, st, steps + 1⟩) := by show _ = _; unfold rStep; simp only; rw [if_neg k8, if_neg k9, if_neg k2, if_neg k3, if_neg (by rw [hq]; simp)]
                have HZ : Hid (checkP p = rGo p.length (j + 1) ⟨rl, st, steps + 1⟩ (p.drop (j + 1))) := HS.out _ HRS.out
                have HB2 : Hid (Bnd (j + 1) ⟨rl, st, steps + 1⟩) := bnd_step HM.out.bd HM.out.ok.2.1 HK.out HRS.out
                have HO2 : Hid (StOk ⟨rl, st, steps + 1⟩) := (step_eq HM.out.ok HK.out).2 _ HRS.out
                clear HN HS
                go_wp2_with fail
                refine hwa.mono ?_
                rintro e w2 ⟨rfl, t2⟩
                go_wp2_with fail
                go_roundg gg
                case rel => exact ⟨j + 1, ⟨rl, st, steps + 1⟩, a6, c6, a7, c7, rf, _, rfl, rfl, rfl, by first | rfl | go_num, by go_num, by omega, ⟨HM1.out.la.kept t2, HM1.out.l0, HM1.out.lc, HM1.out.fr.kept t2, HFM.out, fun f hf => ⟨(HM1.out.fa f hf).1.kept t2, (HM1.out.fa f hf).2⟩, HO2.out, HB2.out⟩, HZ, (fun h => by omega), (K.trans KA).trans t2⟩
                case measure => omega
            | true =>
              rw [hq] at hwa
              by_cases hr0 : rl = []
              · subst hr0
                rcases hkw with rfl | rfl | rfl
                · have HRS : Hid (rStep ⟨[], st, steps⟩ ⟨4, n, v, wt, l⟩ = some ⟨[], st, steps + 1⟩) := by show _ = _; unfold rStep; simp only; rw [if_neg k8, if_neg k9, if_neg k2, if_neg k3, if_neg (by simp)]
                  have HZ : Hid (checkP p = rGo p.length (j + 1) ⟨[], st, steps + 1⟩ (p.drop (j + 1))) := HS.out _ HRS.out
                  have HB2 : Hid (Bnd (j + 1) ⟨[], st, steps + 1⟩) := bnd_step HM.out.bd HM.out.ok.2.1 HK.out HRS.out
                  have HO2 : Hid (StOk ⟨[], st, steps + 1⟩) := (step_eq HM.out.ok HK.out).2 _ HRS.out
                  clear HN HS
                  go_wp2_with fail
                  refine hwa.mono ?_
                  rintro e w2 ⟨rfl, t2⟩
                  go_wp2_with fail
                  go_roundg gg
                  case rel => exact ⟨j + 1, ⟨[], st, steps + 1⟩, a6, c6, a7, c7, rf, _, rfl, rfl, rfl, by first | rfl | go_num, by go_num, by omega, ⟨HM1.out.la.kept t2, HM1.out.l0, HM1.out.lc, HM1.out.fr.kept t2, HFM.out, fun f hf => ⟨(HM1.out.fa f hf).1.kept t2, (HM1.out.fa f hf).2⟩, HO2.out, HB2.out⟩, HZ, (fun h => by omega), (K.trans KA).trans t2⟩
                  case measure => omega
                · have HRS : Hid (rStep ⟨[], st, steps⟩ ⟨5, n, v, wt, l⟩ = some ⟨[], st, steps + 1⟩) := by show _ = _; unfold rStep; simp only; rw [if_neg k8, if_neg k9, if_neg k2, if_neg k3, if_neg (by simp)]
                  have HZ : Hid (checkP p = rGo p.length (j + 1) ⟨[], st, steps + 1⟩ (p.drop (j + 1))) := HS.out _ HRS.out
                  have HB2 : Hid (Bnd (j + 1) ⟨[], st, steps + 1⟩) := bnd_step HM.out.bd HM.out.ok.2.1 HK.out HRS.out
                  have HO2 : Hid (StOk ⟨[], st, steps + 1⟩) := (step_eq HM.out.ok HK.out).2 _ HRS.out
                  clear HN HS
                  go_wp2_with fail
                  refine hwa.mono ?_
                  rintro e w2 ⟨rfl, t2⟩
                  go_wp2_with fail
                  go_roundg gg
                  case rel => exact ⟨j + 1, ⟨[], st, steps + 1⟩, a6, c6, a7, c7, rf, _, rfl, rfl, rfl, by first | rfl | go_num, by go_num, by omega, ⟨HM1.out.la.kept t2, HM1.out.l0, HM1.out.lc, HM1.out.fr.kept t2, HFM.out, fun f hf => ⟨(HM1.out.fa f hf).1.kept t2, (HM1.out.fa f hf).2⟩, HO2.out, HB2.out⟩, HZ, (fun h => by omega), (K.trans KA).trans t2⟩
                  case measure => omega
                · have HRS : Hid (rStep ⟨[], st, steps⟩ ⟨7, n, v, wt, l⟩ = some ⟨[], st, steps + 1⟩) := by show _ = _; unfold rStep; simp only; rw [if_neg k8, if_neg k9, if_neg k2, if_neg k3, if_neg (by simp)]
                  have HZ : Hid (checkP p = rGo p.length (j + 1) ⟨[], st, steps + 1⟩ (p.drop (j + 1))) := HS.out _ HRS.out
                  have HB2 : Hid (Bnd (j + 1) ⟨[], st, steps + 1⟩) := bnd_step HM.out.bd HM.out.ok.2.1 HK.out HRS.out
                  have HO2 : Hid (StOk ⟨[], st, steps + 1⟩) := (step_eq HM.out.ok HK.out).2 _ HRS.out
                  clear HN HS
                  go_wp2_with fail
                  refine hwa.mono ?_
                  rintro e w2 ⟨rfl, t2⟩
                  go_wp2_with fail
                  go_roundg gg
                  case rel => exact ⟨j + 1, ⟨[], st, steps + 1⟩, a6, c6, a7, c7, rf, _, rfl, rfl, rfl, by first | rfl | go_num, by go_num, by omega, ⟨HM1.out.la.kept t2, HM1.out.l0, HM1.out.lc, HM1.out.fr.kept t2, HFM.out, fun f hf => ⟨(HM1.out.fa f hf).1.kept t2, (HM1.out.fa f hf).2⟩, HO2.out, HB2.out⟩, HZ, (fun h => by omega), (K.trans KA).trans t2⟩
                  case measure => omega
              · have hlen0 : (rl.length : Int) > 0 := by
                  have : 0 < rl.length := List.length_pos_iff.2 hr0
                  omega
                have hlen1 : 0 < rl.length := by omega
                rcases hkw with rfl | rfl | rfl
                · have HZ : Hid (checkP p = (j, 11)) := HN.out (by unfold rStep; simp only; rw [if_neg k8, if_neg k9, if_neg k2, if_neg k3, if_pos ⟨hq, hr0⟩])
                  clear HN HS
                  go_wp2_with fail
                  refine hwa.mono ?_
                  rintro e w2 ⟨rfl, t2⟩
                  go_wp2_with fail
                  go_ret2
                  rw [HZ.out]
                  exact ⟨rfl, (K.trans KA).trans t2⟩
                · have HZ : Hid (checkP p = (j, 11)) := HN.out (by unfold rStep; simp only; rw [if_neg k8, if_neg k9, if_neg k2, if_neg k3, if_pos ⟨hq, hr0⟩])
                  clear HN HS
                  go_wp2_with fail
                  refine hwa.mono ?_
                  rintro e w2 ⟨rfl, t2⟩
                  go_wp2_with fail
                  go_ret2
                  rw [HZ.out]
                  exact ⟨rfl, (K.trans KA).trans t2⟩
                · have HZ : Hid (checkP p = (j, 11)) := HN.out (by unfold rStep; simp only; rw [if_neg k8, if_neg k9, if_neg k2, if_neg k3, if_pos ⟨hq, hr0⟩])
                  clear HN HS
                  go_wp2_with fail
                  refine hwa.mono ?_
                  rintro e w2 ⟨rfl, t2⟩
                  go_wp2_with fail
                  go_ret2
                  rw [HZ.out]
                  exact ⟨rfl, (K.trans KA).trans t2⟩
          have hk4 : ¬ k = 4 := fun e => hkw (.inl e)
          have hk5 : ¬ k = 5 := fun e => hkw (.inr (.inl e))
          have hk7 : ¬ k = 7 := fun e => hkw (.inr (.inr e))
          have hwf : waitsD ⟨k, n, v, wt, l⟩ = false := by
            have hkk := (taken_of HK.out).kind
            rcases kind_cases hkk with h | h | h | h | h | h | h | h | h <;> simp only at h <;> first | (subst h; simp [waitsD, shapeOf]; done) | omega
          have HRS : Hid (rStep ⟨rl, st, steps⟩ ⟨k, n, v, wt, l⟩ = some ⟨rl, st, steps + 1⟩) := by show _ = _; unfold rStep; simp only; rw [if_neg k8, if_neg k9, if_neg k2, if_neg k3, if_neg (by rw [hwf]; simp)]
          have HZ : Hid (checkP p = rGo p.length (j + 1) ⟨rl, st, steps + 1⟩ (p.drop (j + 1))) := HS.out _ HRS.out
          have HB2 : Hid (Bnd (j + 1) ⟨rl, st, steps + 1⟩) := bnd_step HM.out.bd HM.out.ok.2.1 HK.out HRS.out
          have HO2 : Hid (StOk ⟨rl, st, steps + 1⟩) := (step_eq HM.out.ok HK.out).2 _ HRS.out
          clear HN HS
          go_wp2_with fail
          go_roundg gg
          case rel => exact ⟨j + 1, ⟨rl, st, steps + 1⟩, a6, c6, a7, c7, rf, _, rfl, rfl, rfl, by first | rfl | go_num, by go_num, by omega, ⟨HM1.out.la, HM1.out.l0, HM1.out.lc, HM1.out.fr, HFM.out, fun f hf => ⟨(HM1.out.fa f hf).1, (HM1.out.fa f hf).2⟩, HO2.out, HB2.out⟩, HZ, (fun h => by omega), K.trans KA⟩
          case measure => omega
        · have b1 : ¬ (j : Int) < (p.length : Int) := by omega
          have HZ : Hid (checkP p = if st ≠ [] ∨ rl ≠ [] then (p.length - 1, 11) else if 512 < steps then (0, 4) else (0, 0)) := by show _ = _; rw [HE.out, List.drop_eq_nil_of_le (by omega), rGo]
          by_cases hst : st = []
          rotate_left
          · have hr1 : (rf.length : Int) > 0 := by
              have := HRF.out
              have h0 : 0 < st.length := List.length_pos_iff.2 hst
              omega
            have hr2 : 0 < rf.length := by omega
            have hpl : ((p.length - 1 : Nat) : Int) = (p.length : Int) - 1 := by
              by_cases hp0 : p.length = 0
              · exact absurd (HJ0.out (by omega)).1 hst
              · omega
            have HZ2 : Hid (checkP p = (p.length - 1, 11)) := by show _ = _; rw [HZ.out, if_pos (.inl hst)]
            clear HZ
            go_wp2_with fail
            go_ret2
            rw [HZ2.out]
            simp only
            rw [hpl]
            exact ⟨rfl, K⟩
          obtain rfl : rf = [] := List.eq_nil_of_length_eq_zero (by have := HRF.out; rw [hst] at this; simpa using this)
          by_cases hrl : rl = []
          rotate_left
          · have hr2 : (rl.length : Int) > 0 := by
              have h0 : 0 < rl.length := List.length_pos_iff.2 hrl
              omega
            have hr3 : 0 < rl.length := by omega
            have hpl : ((p.length - 1 : Nat) : Int) = (p.length : Int) - 1 := by
              by_cases hp0 : p.length = 0
              · exact absurd (HJ0.out (by omega)).2 hrl
              · omega
            have HZ2 : Hid (checkP p = (p.length - 1, 11)) := by show _ = _; rw [HZ.out, if_pos (.inr hrl)]
            clear HZ
            go_wp2_with fail
            go_ret2
            rw [HZ2.out]
            simp only
            rw [hpl]
            exact ⟨rfl, K⟩
          subst hrl
          subst hst
          by_cases h5 : 512 < steps
          · have HZ2 : Hid (checkP p = (0, 4)) := by show _ = _; rw [HZ.out, if_neg (by simp), if_pos h5]
            clear HZ
            go_wp2_with fail
            go_ret2
            rw [HZ2.out]
            exact ⟨rfl, K⟩
          · have HZ2 : Hid (checkP p = (0, 0)) := by show _ = _; rw [HZ.out, if_neg (by simp), if_neg h5]
            clear HZ
            go_wp2_with fail
            go_ret2
            rw [HZ2.out]
            exact ⟨rfl, K⟩
end Go.Proofs.YtlkbphogpbcjfaaGreatDoor
namespace Go.Proofs.YtlkbphogpbcjfaaGreatDoor
open Go.RowKit

set_option maxHeartbeats 4000000 in
set_option maxRecDepth 20000 in
theorem rcheckP_any (a : Option Addr) (c : Nat) (p : List OpD) (w : World) (hA : AtP w a p) :
    Calls Tryz.prog 27 #[.slice a p.length c] w fun e w' => e = .returned (.tuple #[.int .i64 (checkP p).1, .int .i64 (checkP p).2]) ∧ Kept w w' := by
  by_cases h48 : 48 < p.length
  · have b48 : (p.length : Int) > 48 := by omega
    have HZ : Hid (checkP p = (0, 18)) := by show _ = _; unfold checkP; rw [if_pos h48]
    clear hA
    go_enter Tryz.func27, Tryz.ntmps27
    go_wp2_with fail
    go_ret2
    rw [HZ.out]
    exact ⟨rfl, Kept.refl w⟩
  by_cases hea : (eachGo 0 p).2 = 0
  · exact rloop_any a c p w hA (by omega) (each_all p 0 hea)
  have HA : Hid (AtP w a p) := hA
  have HZ : Hid (checkP p = eachGo 0 p) := by show _ = _; unfold checkP; rw [if_neg h48, if_neg hea]
  have HNE : Hid ((eachGo 0 p).2 ≠ 0) := hea
  clear hA hea
  have b48 : ¬ (p.length : Int) > 48 := by omega
  go_enter Tryz.func27, Tryz.ntmps27
  go_wp2_with fail
  go_loopg [4] p.length (fun gk i wr => ∃ (j : Nat) (W : World), W = wr ∧ i = .int .i64 j ∧ j + gk = p.length ∧ Hid (eachGo 0 p = eachGo j (p.drop j)) ∧ Kept w W)
  case atStart => exact ⟨0, _, rfl, rfl, by omega, (by show _ = _; rw [List.drop_zero]), Kept.refl w⟩
  case round =>
    obtain ⟨j, W, hW, rfl, hj, HE, K⟩ := hrel
    subst hW
    by_cases hjp : j < p.length
    · obtain ⟨b, f, k, n, v, wt, l, ca, cc, rfl, hpj, g0, g1, g2, g3, g4, hcc, hat, hbl, hdr⟩ := (HA.out.kept K).get j hjp
      have b1 : (j : Int) < (p.length : Int) := by omega
      have b2 : (0 : Int) ≤ (j : Int) := by omega
      have hck := rcheck_any k n v wt ca l.length cc l W hat
      have HE2 : Hid (eachGo 0 p = if checkD ⟨k, n, v, wt, l⟩ = 0 then eachGo (j + 1) (p.drop (j + 1)) else (j, checkD ⟨k, n, v, wt, l⟩)) := by show _ = _; rw [HE.out, hdr, eachGo]
      obtain ⟨z, hz⟩ : ∃ z, checkD ⟨k, n, v, wt, l⟩ = z := ⟨_, rfl⟩
      rw [hz] at hck HE2
      obtain ⟨g3', rfl⟩ : ∃ g, gk = g + 1 := ⟨gk - 1, by omega⟩
      clear hpj hat hdr HE hz
      by_cases hz0 : z = 0
      · subst hz0
        have HE3 : Hid (eachGo 0 p = eachGo (j + 1) (p.drop (j + 1))) := by show _ = _; rw [HE2.out, if_pos rfl]
        clear HE2
        go_wp2_with fail
        refine hck.mono ?_
        rintro e w2 ⟨rfl, t2⟩
        go_wp2_with fail
        go_roundg g3'
        case rel => exact ⟨j + 1, _, rfl, by go_num, by omega, HE3, K.trans t2⟩
        case measure => omega
      · have hne : (z != 0) = true := by simpa using hz0
        have HE3 : Hid (checkP p = (j, z)) := by show _ = _; rw [HZ.out, HE2.out, if_neg hz0]
        clear HE2 hz0
        go_wp2_with fail
        refine hck.mono ?_
        rintro e w2 ⟨rfl, t2⟩
        go_wp2_with fail
        go_ret2
        rw [HE3.out]
        exact ⟨rfl, K.trans t2⟩
    · exfalso
      refine HNE.out ?_
      rw [HE.out, List.drop_eq_nil_of_le (by omega)]
      rfl
end Go.Proofs.YtlkbphogpbcjfaaGreatDoor
