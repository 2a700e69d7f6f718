/- What those ahead ask for; rta.Of of any set. -/
import Derived.Test.YtlkbphogpbcjfaaGreatDoorRtF
import Derived.Test.YtlkbphogpbcjfaaGreatDoorBlA
import Derived.Test.YtlkbphogpbcjfaaGreatDoorOrJ
namespace Go.Proofs.YtlkbphogpbcjfaaGreatDoor
open Go.RowKit Go.Sort

/-- Who goes ahead of x, by their numbers. -/
def hiN (n : Nat) (D : Nat → Int) (i : Nat) : List Nat := (List.range n).filter (fun j => befB D j i)
theorem hiN_map (n : Nat) (D : Nat → Int) (i : Nat) : hiD n D i = (hiN n D i).map (fun j : Nat => (j : Int)) := rfl
theorem hiN_lt {n : Nat} {D : Nat → Int} {i j : Nat} (h : j ∈ hiN n D i) : j < n := List.mem_range.1 (List.mem_filter.1 h).1
/-- What a task asks for. -/
def ldOf (ts : List TaskD) (j : Nat) : LoadD := match ts[j]? with
  | some t => ⟨t.period, min (costD t.prog) t.budget⟩
  | none => ⟨1, 0⟩
def ldsOf (ts : List TaskD) (x : Nat) : List LoadD := (hiN ts.length (dlT ts) x).map (ldOf ts)
theorem ldsOf_len (ts : List TaskD) (x : Nat) : (ldsOf ts x).length ≤ ts.length := by
  unfold ldsOf hiN
  rw [List.length_map]
  exact Nat.le_trans (List.length_filter_le _ _) (by simp)
set_option maxHeartbeats 4000000 in
set_option maxRecDepth 10000 in
theorem hloads_any (L : Int) (ca ta : Option Addr) (nc cc tc : Nat) (ts : List TaskD) (x : Nat) (hx : x < ts.length) (w : World) (hA : AtT w ta ts) (h12 : ts.length ≤ 12) (hpg : ∀ t ∈ ts, checkP t.prog = (0, 0)) :
    Calls Tryz.prog 18 #[.agg #[.int .i64 L, .slice ca nc cc, .slice ta ts.length tc], .int .i64 x] w (LdOut w (ldsOf ts x)) := by
  have HA : Hid (AtT w ta ts) := hA
  have HPG : Hid (∀ t ∈ ts, checkP t.prog = (0, 0)) := hpg
  have K0 := (Kept.refl w).alloc (.cells #[.int .i64 L, .slice ca nc cc, .slice ta ts.length tc] 36)
  have HB : Hid (Box w.heap.size (w.alloc (.cells #[.int .i64 L, .slice ca nc cc, .slice ta ts.length tc] 36)) 36 w.heap.size [.int .i64 L, .slice ca nc cc, .slice ta ts.length tc]) := box_new w.heap.size w 36 [.int .i64 L, .slice ca nc cc, .slice ta ts.length tc] (Nat.le_refl _) (by simp)
  have hhi := higher_in L ca nc cc ta ts.length tc (dlT ts) x hx (w.alloc (.cells #[.int .i64 L, .slice ca nc cc, .slice ta ts.length tc] 36)) ((att_d hA).kept K0) (by omega)
  rw [hiN_map, List.length_map] at hhi
  have HLL : Hid (ldsOf ts x = (hiN ts.length (dlT ts) x).map (ldOf ts)) := rfl
  have HLE : Hid (∀ j, j ∈ hiN ts.length (dlT ts) x → j < ts.length) := fun j h => hiN_lt h
  have hle : (hiN ts.length (dlT ts) x).length ≤ 12 := by
    have := ldsOf_len ts x
    unfold ldsOf at this
    rw [List.length_map] at this
    omega
  obtain ⟨hn, hhn⟩ : ∃ z, hiN ts.length (dlT ts) x = z := ⟨_, rfl⟩
  rw [hhn] at hhi HLL HLE hle
  rw [HLL.out]
  have HLN : Hid ((hn.map (ldOf ts)).length = hn.length) := by show _ = _; rw [List.length_map]
  clear hhn hA hpg HLL
  go_enter Tryz.func18, Tryz.ntmps18
  go_wp2_with fail
  refine hhi.mono ?_
  rintro e w1 ⟨va, vm, vc, rfl, rfl, A1, T1⟩
  have K1 := K0.trans T1
  have HB1 : Hid (Box w.heap.size w1 36 w.heap.size [.int .i64 L, .slice ca nc cc, .slice ta ts.length tc]) := HB.out.kept T1
  have HI : Hid (AtI w1 va (hn.map (fun j : Nat => (j : Int)))) := A1
  clear hhi A1 HB K0 T1
  go_wp2_with fail
  go_loopg [5, 7, 12] hn.length (fun gk v j7 i wr => ∃ (k : Nat) (v0 : Value) (W : World), W = wr ∧ v0 = v ∧ i = .int .i64 k ∧ k + gk = hn.length ∧ Hid (LdRow 46 w.heap.size W v0 ((hn.map (ldOf ts)).take k)) ∧ Hid (∀ q, v0.ownBlock = some q → w1.heap.size ≤ q) ∧ Hid (Kept w1 W))
  case atStart => exact ⟨0, _, _, rfl, rfl, rfl, by omega, LdRow.nil _ _ _, fun q hq => by simp [Value.ownBlock] at hq, Kept.refl _⟩
  case round =>
    obtain ⟨k, v0, W, hW, hv, rfl, hk, HR, HO, HK⟩ := hrel
    subst hW
    subst hv
    have KW := K1.trans HK.out
    by_cases hkn : k < hn.length
    · have b1 : (k : Int) < (hn.length : Int) := by omega
      have b2 : (0 : Int) ≤ (k : Int) := by omega
      obtain ⟨g, rfl⟩ : ∃ g, gk = g + 1 := ⟨gk - 1, by omega⟩
      obtain ⟨y, hy⟩ : ∃ y, hn[k]? = some y := ⟨_, List.getElem?_eq_getElem hkn⟩
      have hyn := HLE.out y (List.mem_of_getElem? hy)
      obtain ⟨vb, vf, rfl, ci⟩ := (HI.out.kept HK.out) k (y : Int) (by rw [List.getElem?_map, hy]; rfl)
      obtain ⟨b, f, nm, pd, dl, bu, pr, pa, pc, rfl, htj, d0, d1, d2, d3, d4, hpl, hpa, hbw, _⟩ := HA.out.get y hyn
      have b3 : (y : Int) < (ts.length : Int) := by omega
      have b4 : (0 : Int) ≤ (y : Int) := by omega
      have hnd := HPG.out _ (List.mem_of_getElem? htj)
      obtain ⟨nd, hndv⟩ : ∃ z, min (costD pr) bu = z := ⟨_, rfl⟩
      have HND : Hid (∀ wx, Kept w wx → Calls Tryz.prog 16 #[.agg #[.string (B nm), .int .i64 pd, .int .i64 dl, .int .i64 bu, .slice pa pr.length pc]] wx fun e w' => e = .returned (.int .i64 nd) ∧ Kept wx w') := by
        intro wx kx
        have h := need_any nm pd dl bu pr pa pc wx (hpa.kept kx) hnd
        rw [hndv] at h
        exact h
      have HTK : Hid ((hn.map (ldOf ts)).take (k + 1) = (hn.map (ldOf ts)).take k ++ [⟨pd, nd⟩]) := by
        show _ = _
        rw [List.take_add_one, List.getElem?_map, hy]
        simp [ldOf, htj, hndv]
      have hlen : ((hn.map (ldOf ts)).take k).length ≤ 1000000 := by rw [List.length_take]; omega
      have hml : min k (hn.map (ldOf ts)).length = k := by rw [HLN.out]; omega
      have hml2 : min k hn.length = k := by omega
      have bx := HB1.out.kept HK.out
      have q2 : W.cell? ⟨w.heap.size, 2, none⟩ = some (.slice (some ⟨b, f, none⟩) ts.length tc) := bx.cell 2 (by simp)
      have HCL : Hid (∀ wx, Kept w wx → wx.cell? ⟨b, f + y * 5, none⟩ = some (.string (B nm)) ∧ wx.cell? ⟨b, f + y * 5 + 1, none⟩ = some (.int .i64 pd) ∧ wx.cell? ⟨b, f + y * 5 + 2, none⟩ = some (.int .i64 dl) ∧ wx.cell? ⟨b, f + y * 5 + 3, none⟩ = some (.int .i64 bu) ∧ wx.cell? ⟨b, f + y * 5 + 4, none⟩ = some (.slice pa pr.length pc)) := fun wx kx => ⟨kx.cell d0, kx.cell d1, kx.cell d2, kx.cell d3, kx.cell d4⟩
      obtain ⟨c0, c1, c2, c3, c4⟩ := HCL.out W KW
      have KD : Kept w W.drew := KW.drew
      have HQ2 : Hid (∀ wx, Kept w1 wx → wx.cell? ⟨w.heap.size, 2, none⟩ = some (.slice (some ⟨b, f, none⟩) ts.length tc)) := fun wx kx => (HB1.out.kept kx).cell 2 (by simp)
      have KD1 : Hid (Kept w1 W.drew) := HK.out.drew
      have HRD : Hid (LdRow 46 w.heap.size W.drew v0 ((hn.map (ldOf ts)).take k)) := HR.out.kept ((Kept.refl W).drew)
      clear hy hyn htj d0 d1 d2 d3 d4 hpl hpa hbw hnd hndv bx HR
      go_wp2_with fail
      go_region_held3 (fun w' => w'.cell? ⟨w.heap.size, 2, none⟩ = some (.slice (some ⟨b, f, none⟩) ts.length tc) ∧ w'.cell? ⟨b, f + y * 5, none⟩ = some (.string (B nm)) ∧ w'.cell? ⟨b, f + y * 5 + 1, none⟩ = some (.int .i64 pd) ∧ w'.cell? ⟨b, f + y * 5 + 2, none⟩ = some (.int .i64 dl) ∧ w'.cell? ⟨b, f + y * 5 + 3, none⟩ = some (.int .i64 bu) ∧ w'.cell? ⟨b, f + y * 5 + 4, none⟩ = some (.slice pa pr.length pc)) (first | assumption | go_keep) (first | (go_at_call 16; refine (HND.out _ KD).mono ?_; rintro e w6 ⟨rfl, t6⟩; have K6 : Kept w w6 := KD.trans t6; have K61 : Kept w1 w6 := KD1.out.trans t6; have HR6 : LdRow 46 w.heap.size w6 v0 ((hn.map (ldOf ts)).take k) := HRD.out.kept t6; have z6 := And.intro (HQ2.out w6 K61) (HCL.out w6 K6)) | (refine step_append_ld lApi _ (by rfl) _ _ (by rfl) w.heap.size v0 ((hn.map (ldOf ts)).take k) ⟨pd, nd⟩ _ rfl w6 (by rfl) (by rfl) w6.heap.size (by rfl) (by rfl) HR6 hlen K6.size ?_; intro g5 c5 w5 R5 t5 hg5; have K51 : Kept w1 w5 := t5.kept K61 (fun i hi => HO.out i hi); have K5 : Kept w w5 := K1.trans K51; have z5 := And.intro (HQ2.out w5 K51) (HCL.out w5 K5)) | fail)
      all_goals go_wp2_with fail
      go_roundg g
      case rel =>
        have hge : Hid (∀ q, (Value.slice (some ⟨g5, 0, none⟩) (k + 1) c5).ownBlock = some q → w1.heap.size ≤ q) := by
          intro q hq
          simp only [Value.ownBlock, Option.some.injEq] at hq
          subst hq
          rcases hg5 with h | h
          · exact HO.out _ h
          · have := K61.size
            omega
        rw [← HTK.out, List.length_take, hml] at R5
        exact ⟨k + 1, .slice (some ⟨g5, 0, none⟩) (k + 1) c5, _, rfl, rfl, by go_num, by omega, R5, hge, K51⟩
      case measure => omega
    · have b1 : ¬ (k : Int) < (hn.length : Int) := by omega
      obtain ⟨xa, xc, rfl, hvc, A, _⟩ := HR.out.view
      rw [List.take_of_length_le (by rw [HLN.out]; omega)] at A
      have HV : Hid (AtL W xa (hn.map (ldOf ts))) := A
      have hml : ((hn.map (ldOf ts)).take k).length = hn.length := by rw [List.length_take, HLN.out]; omega
      clear A hvc HR
      go_wp2_with fail
      go_ret
      exact ⟨xa, xc, by rw [HLN.out]; rfl, HV.out, KW⟩
end Go.Proofs.YtlkbphogpbcjfaaGreatDoor
