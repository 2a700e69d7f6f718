/- SetNames, walked. -/
import Derived.Test.YtockpcoegdaipabDoorTkR
import Derived.Test.YtockpcoegdaipabDoorSkn
namespace Go.Proofs.YtockpcoegdaipabDoor
open Go.RowKit

def nmI (i : Nat) : List UInt8 := [UInt8.ofNat (97 + i), 120]
def nms (k : Nat) : List (List UInt8) := (List.range k).map nmI
theorem nms_succ (k : Nat) : nms (k + 1) = nms k ++ [nmI k] := by unfold nms; rw [List.range_succ, List.map_append]; rfl
theorem nms_len (k : Nat) : (nms k).length = k := by simp [nms]
theorem nms_get {k i : Nat} (h : i < k) : (nms k)[i]? = some (nmI i) := by unfold nms; rw [List.getElem?_map, List.getElem?_range h]; rfl
set_option maxRecDepth 100000 in
theorem pn1 : ∀ k : Fin 13, ∀ i : Fin 12, i.1 < k.1 → findGo (nmI i.1) 0 (mkT 5 (nms k.1)) = (i.1, true) := by decide +kernel
theorem pn2 : ∀ k : Fin 13, 0 < k.1 → checkS 0 [] (mkT 5 (nms k.1)) = (0, 0) := by decide +kernel
theorem pn3 : ∀ k : Fin 13, findGo [120] 0 (mkT 5 (nms k.1)) = (0, false) := by decide +kernel
theorem pn4 : ∀ k : Fin 13, ∀ x : Fin 12, ∀ y : Fin 12, x.1 < y.1 → y.1 < k.1 → checkS 0 [] (mkT 5 ((nms k.1).set y.1 (nmI x.1))) = (y.1, 6) := by decide +kernel
theorem pn5 : ∀ k : Fin 13, ∀ x : Fin 12, ∀ y : Fin 12, x.1 < y.1 → y.1 < k.1 → findGo (nmI x.1) 0 (mkT 5 ((nms k.1).set y.1 (nmI x.1))) = (x.1, true) := by decide +kernel
theorem conv2 (w : World) (j : Nat) (hj : j ≤ 20) : (convert 29 9 (.slice (some ⟨w.heap.size, 0, none⟩) 2 2)).run Tryd.prog (w.alloc (.cells #[.int .u8 (97 + (j : Int)), .int .u8 120] 5)) = .ok (.string (B (nmI j))) (w.alloc (.cells #[.int .u8 (97 + (j : Int)), .int .u8 120] 5)) := by
  refine run_convert_bytes_back (P := Tryd.prog) _ 29 9 5 ⟨w.heap.size, 0, none⟩ 2 (nmI j) Tryd.underlying29 Tryd.underlying5 Tryd.underlying9 ?_
  intro i hi
  rw [Addr.add_lit, Nat.zero_add, World.cell?_alloc_at _ _ _ _ rfl]
  match i, hi with
  | 0, _ =>
    simp [nmI]
    omega
  | 1, _ => rfl
theorem mk_ok (ns : List (List UInt8)) (P : Int) (h : ∀ n ∈ ns, n.length ≤ 1000) : TsOk (mkT P ns) := tw_ok (fun t ht => by
  simp only [mkT, List.mem_map] at ht
  obtain ⟨n, hn, rfl⟩ := ht
  exact ⟨h n hn, by simp, by simp [oRun]⟩)
theorem mk_len (ns : List (List UInt8)) (P : Int) : (mkT P ns).length = ns.length := by simp [mkT]
theorem nm_len {ns : List (List UInt8)} {k : Nat} (h : ns = nms k) : ∀ n ∈ ns, n.length ≤ 1000 := by
  intro n hn
  rw [h] at hn
  simp only [nms, List.mem_map] at hn
  obtain ⟨i, _, rfl⟩ := hn
  simp [nmI]

set_option maxHeartbeats 8000000 in
set_option maxRecDepth 20000 in
theorem names_law (n a b : Int) (hn0 : 0 ≤ n) (hn1 : n ≤ 255) (ha0 : 0 ≤ a) (ha1 : a ≤ 255) (hb0 : 0 ≤ b) (hb1 : b ≤ 255) (w : World) (hr : Rdy w) : Calls Tryd.prog 4 #[.int .u8 n, .int .u8 a, .int .u8 b] w fun e w' => e = .returned (.bool true) ∧ Kept w w' := by
  have HR : Hid (Rdy w) := hr
  clear hr
  obtain ⟨K, hK⟩ : ∃ K : Nat, 1 + n % 12 = (K : Int) := ⟨(1 + n % 12).toNat, by omega⟩
  have hK1 : 1 ≤ K := by omega
  have hK12 : K ≤ 12 := by omega
  go_enter Tryd.func4, Tryd.ntmps4
  go_wp2_with fail
  refine (sknown_true w HR.out).mono ?_
  rintro e w1 ⟨rfl, K1⟩
  have HB0 : Hid (Box w.heap.size (w1.alloc (.cells #[.int .i64 0, .slice none 0 0, .slice none 0 0] 26)) 26 w1.heap.size [.int .i64 0, .slice none 0 0, .slice none 0 0]) := box_new w.heap.size w1 26 [.int .i64 0, .slice none 0 0, .slice none 0 0] K1.size (by simp)
  have KA := K1.alloc (.cells #[.int .i64 0, .slice none 0 0, .slice none 0 0] 26)
  obtain ⟨sb, hsb⟩ : ∃ sb, w1.heap.size = sb := ⟨_, rfl⟩
  rw [hsb] at HB0
  go_wp2_with fail
  clear hK
  go_loopg [9] K (fun gk i wr => ∃ (j : Nat) (v : Value) (es : List (List UInt8 × Nat)), i = .int .i64 j ∧ j + gk = K ∧ Hid (Box w.heap.size wr 26 sb [.int .i64 0, .slice none 0 0, v]) ∧ Hid (TE w.heap.size wr v 5 es) ∧ Hid (es.map (·.1) = nms j) ∧ Hid (v.ownBlock ≠ some sb ∧ ∀ e ∈ es, e.2 ≠ sb) ∧ Kept w wr)
  case atStart => exact ⟨0, _, [], rfl, by omega, HB0, TE.nil _ _ _, (by show _ = _; rfl), ⟨by simp [Value.ownBlock], fun e he => by cases he⟩, KA⟩
  case round =>
    obtain ⟨j, v, es, rfl, hj, HB, HT, HN, HS, KK⟩ := hrel
    have hel : es.length = j := by have := congrArg List.length HN.out; simpa [nms_len] using this
    by_cases hjK : j < K
    · have b1 : (j : Int) < (K : Int) := by omega
      obtain ⟨g3', rfl⟩ : ∃ g, gk = g + 1 := ⟨gk - 1, by omega⟩
      have c2 : wr.cell? ⟨sb, 2, none⟩ = some v := HB.out.cell 2 (by simp)
      have hcv := conv2 wr j (by omega)
      have sblt := HB.out.lt.2
      have KW : Kept wr ((wr.alloc (.cells #[.int .u8 (97 + (j : Int)), .int .u8 120] 5)).alloc (.cells #[.int .i64 1, .int .i64 1, .int .i64 0, .int .i64 0, .slice none 0 0] 32)) := ((Kept.refl wr).alloc _).alloc _
      have KW0 : Kept w ((wr.alloc (.cells #[.int .u8 (97 + (j : Int)), .int .u8 120] 5)).alloc (.cells #[.int .i64 1, .int .i64 1, .int .i64 0, .int .i64 0, .slice none 0 0] 32)) := KK.trans KW
      have HT3 : Hid (TE w.heap.size ((wr.alloc (.cells #[.int .u8 (97 + (j : Int)), .int .u8 120] 5)).alloc (.cells #[.int .i64 1, .int .i64 1, .int .i64 0, .int .i64 0, .slice none 0 0] 32)) v 5 es) := HT.out.kept KW
      have HB3 : Hid (Box w.heap.size ((wr.alloc (.cells #[.int .u8 (97 + (j : Int)), .int .u8 120] 5)).alloc (.cells #[.int .i64 1, .int .i64 1, .int .i64 0, .int .i64 0, .slice none 0 0] 32)) 26 sb [.int .i64 0, .slice none 0 0, v]) := HB.out.kept KW
      have hszA : (wr.alloc (.cells #[.int .u8 (97 + (j : Int)), .int .u8 120] 5)).heap.size = wr.heap.size + 1 := by simp
      have hszB : ((wr.alloc (.cells #[.int .u8 (97 + (j : Int)), .int .u8 120] 5)).alloc (.cells #[.int .i64 1, .int .i64 1, .int .i64 0, .int .i64 0, .slice none 0 0] 32)).heap.size = wr.heap.size + 1 + 1 := by simp
      have HP3 : Hid (AtP ((wr.alloc (.cells #[.int .u8 (97 + (j : Int)), .int .u8 120] 5)).alloc (.cells #[.int .i64 1, .int .i64 1, .int .i64 0, .int .i64 0, .slice none 0 0] 32)) (some ⟨wr.heap.size + 1, 0, none⟩) [oRun 1] ∧ v.ownBlock ≠ some (wr.heap.size + 1) ∧ w.heap.size ≤ wr.heap.size + 1 ∧ wr.heap.size + 1 < ((wr.alloc (.cells #[.int .u8 (97 + (j : Int)), .int .u8 120] 5)).alloc (.cells #[.int .i64 1, .int .i64 1, .int .i64 0, .int .i64 0, .slice none 0 0] 32)).heap.size) := by
        refine ⟨?_, fun e => ?_, by have := KK.size; omega, by omega⟩
        · have h := lit_ops (wr.alloc (.cells #[.int .u8 (97 + (j : Int)), .int .u8 120] 5)) [oRun 1] (by simp [oRun]) #[.int .i64 1, .int .i64 1, .int .i64 0, .int .i64 0, .slice none 0 0] rfl
          rw [hszA] at h
          exact h
        · have := (World.ownsRow.lt HT.out.row _ e).2
          omega
      have hlen : es.length ≤ 1000000 := by omega
      go_wp2_with (at_builtin; refine wpList_append_task _ (by rfl) _ _ rfl w.heap.size v 5 es (nmI j) (wr.heap.size + 1) ((wr.alloc (.cells #[.int .u8 (97 + (j : Int)), .int .u8 120] 5)).alloc (.cells #[.int .i64 1, .int .i64 1, .int .i64 0, .int .i64 0, .slice none 0 0] 32)) _ rfl (by rfl) (by rfl) (wr.heap.size + 1 + 1) hszB.symm (by rfl) HT3.out HP3.out hlen KW0.size ?_; intro g5 c5 w5 R5 t5 hg5; have B5 : Box w.heap.size w5 26 sb [.int .i64 0, .slice none 0 0, v] := HB3.out.turns t5 (fun e => HS.out.1 e); have z2 : w5.cell? ⟨sb, 2, none⟩ = some v := B5.cell 2 (by simp); have z3 : w5.frozen? ⟨sb, 2, none⟩ = false := B5.frozen 2; have hgs : g5 ≠ sb := (by intro e; rcases hg5 with h | h; exact HS.out.1 (e ▸ h); omega); have HB5 : Hid (Box w.heap.size w5 26 sb [.int .i64 0, .slice none 0 0, v]) := B5; have HR5 : Hid (TE w.heap.size w5 (.slice (some ⟨g5, 0, none⟩) (es.length + 1) c5) 5 (es ++ [(nmI j, wr.heap.size + 1)])) := R5; have K5 : Kept w w5 := t5.kept KW0 (fun i hi => (World.ownsRow.lt HT3.out.row i hi).1); clear R5 B5)
      go_roundg g3'
      case rel =>
        have HR6 := HR5.out
        rw [hel] at HR6
        have tf := turn_set w5 sb 2 (.slice (some ⟨g5, 0, none⟩) (j + 1) c5)
        refine ⟨j + 1, _, _, by go_num, by omega, HB5.out.set 2 _, HR6.turns tf (fun q hq e => by simp [Value.ownBlock] at hq; omega) (fun e he h => ?_), ?_, ⟨?_, fun e he => ?_⟩, tf.kept K5 (fun i hi => by have := HB5.out.lt.1; omega)⟩
        · rcases List.mem_append.1 he with he | he
          · exact HS.out.2 e he h
          · simp at he; subst he; simp only at h; omega
        · show _ = _
          rw [List.map_append, HN.out, nms_succ]
          rfl
        · simp [Value.ownBlock]; omega
        · rcases List.mem_append.1 he with he | he
          · exact HS.out.2 e he
          · simp at he; subst he; simp only; omega
      case measure => omega
    · have b1 : ¬ (j : Int) < (K : Int) := by omega
      obtain rfl : j = K := by omega
      obtain ⟨g, c, rfl⟩ := own_form HT.out.row (fun e => by
        rcases HT.out.row.2 with ⟨_, h2⟩ | ⟨g, cap, cur, h2, _⟩
        · omega
        · rw [h2] at e; cases e)
      rw [hel] at HB HT
      have HTA : Hid (∀ w', Kept wr w' → AtT w' (some ⟨g, 0, none⟩) (mkT 5 (nms j))) := fun w' t => by
        have h := (HT.out.kept t).tasks hel.symm
        rw [HN.out] at h
        exact h
      have HNC : Hid (∀ (w' : World) (i : Nat), Kept wr w' → i < j → w'.cell? ⟨g, i * 5, none⟩ = some (.string (B (nmI i)))) := fun w' i t hi => by
        obtain ⟨b9, f9, e9, h9⟩ := HTA.out w' t i ⟨nmI i, 5, 5, 5, [oRun 1]⟩ (by unfold mkT; rw [List.getElem?_map, nms_get hi]; rfl)
        cases e9
        have := h9.nm
        rw [Nat.zero_add] at this
        exact this
      have hjj : (mkT 5 (nms j)).length = j := by rw [mk_len, nms_len]
      have HFI : Hid (∀ (w' : World) (i : Nat), Kept wr w' → i < j → Calls Tryd.prog 7 #[.agg #[.int .i64 0, .slice none 0 0, .slice (some ⟨g, 0, none⟩) j c], .string (B (nmI i))] w' fun e w'' => e = .returned (.tuple #[.int .i64 i, .bool true]) ∧ Kept w' w'') := fun w' i t hi => by
        have h := find_any 0 none (some ⟨g, 0, none⟩) 0 c 0 (mkT 5 (nms j)) (nmI i) w' (HTA.out w' t) (by omega)
        rw [pn1 ⟨j, by omega⟩ ⟨i, by omega⟩ hi, hjj] at h
        exact h
      have s0 : wr.cell? ⟨sb, 0, none⟩ = some (.int .i64 0) := HB.out.cell 0 (by simp)
      have s1 : wr.cell? ⟨sb, 1, none⟩ = some (.slice none 0 0) := HB.out.cell 1 (by simp)
      have s2 : wr.cell? ⟨sb, 2, none⟩ = some (.slice (some ⟨g, 0, none⟩) j c) := HB.out.cell 2 (by simp)
      have HC : Hid (wr.cell? ⟨sb, 0, none⟩ = some (.int .i64 0) ∧ wr.cell? ⟨sb, 1, none⟩ = some (.slice none 0 0) ∧ wr.cell? ⟨sb, 2, none⟩ = some (.slice (some ⟨g, 0, none⟩) j c)) := ⟨s0, s1, s2⟩
      clear s0 s1 s2
      go_wp2_with fail
      go_loopg [10] j (fun gk i wq => ∃ (i' : Nat) (W : World), W = wq ∧ i = .int .i64 i' ∧ i' + gk = j ∧ Kept wr W)
      case atStart => exact ⟨0, _, rfl, rfl, by omega, Kept.refl _⟩
      case round =>
        obtain ⟨i, W, hW, rfl, hi, KQ⟩ := hrel
        subst hW
        have s0 := KQ.cell HC.out.1
        have s1 := KQ.cell HC.out.2.1
        have s2 := KQ.cell HC.out.2.2
        by_cases hij : i < j
        · have b2 : (i : Int) < (j : Int) := by omega
          have b3 : (0 : Int) ≤ (i : Int) := by omega
          have y0 := HNC.out W i KQ hij
          obtain ⟨g3', rfl⟩ : ∃ g, gk = g + 1 := ⟨gk - 1, by omega⟩
          have hfi := HFI.out W.drew i KQ.drew hij
          go_wp2_with fail
          go_region_held3 (fun w' => w'.cell? ⟨sb, 0, none⟩ = some (.int .i64 0) ∧ w'.cell? ⟨sb, 1, none⟩ = some (.slice none 0 0) ∧ w'.cell? ⟨sb, 2, none⟩ = some (.slice (some ⟨g, 0, none⟩) j c) ∧ w'.cell? ⟨g, i * 5, none⟩ = some (.string (B (nmI i)))) (go_keep) (first | (go_at_call 7; refine hfi.mono ?_; rintro e w14 ⟨rfl, t14⟩; have K14 := ((Kept.refl W).drew).trans t14; have z0 := K14.cell s0; have z1 := K14.cell s1; have z2 := K14.cell s2; have z3 := K14.cell y0) | fail)
          go_wp2_with fail
          go_roundg g3'
          case rel => exact ⟨i + 1, _, rfl, by go_num, by omega, KQ.trans K14⟩
          case measure => omega
        · have b2 : ¬ (i : Int) < (j : Int) := by omega
          obtain rfl : i = j := by omega
          have hi0 : ¬ (i : Int) = 0 := by omega
          have hi1 : ((i : Int) == 0) = false := by simpa using hi0
          have hi2 : ¬ i = 0 := by omega
          obtain ⟨X, hX⟩ : ∃ X : Nat, a.tmod (i : Int) = (X : Int) := ⟨(a.tmod (i : Int)).toNat, by have := Int.tmod_nonneg (i : Int) ha0; omega⟩
          obtain ⟨Y, hY⟩ : ∃ Y : Nat, b.tmod (i : Int) = (Y : Int) := ⟨(b.tmod (i : Int)).toNat, by have := Int.tmod_nonneg (i : Int) hb0; omega⟩
          have hXi : X < i := by have := Int.tmod_lt_of_pos a (show (0 : Int) < (i : Int) by omega); omega
          have hYi : Y < i := by have := Int.tmod_lt_of_pos b (show (0 : Int) < (i : Int) by omega); omega
          have wX : IntKind.i64.wrap (X : Int) = X := by simp [IntKind.wrap, IntKind.bits, IntKind.signed]; omega
          have wY : IntKind.i64.wrap (Y : Int) = Y := by simp [IntKind.wrap, IntKind.bits, IntKind.signed]; omega
          have wa : IntKind.i64.wrap a = a := by simp [IntKind.wrap, IntKind.bits, IntKind.signed]; omega
          have wb : IntKind.i64.wrap b = b := by simp [IntKind.wrap, IntKind.bits, IntKind.signed]; omega
          have d0 := KQ.drew.cell HC.out.1
          have d1 := KQ.drew.cell HC.out.2.1
          have d2 := KQ.drew.cell HC.out.2.2
          have KW := KK.trans KQ.drew
          go_wp2_with fail
          go_region_held3 (fun _ => True) (go_keep) (fail)
          by_cases hxy : X ≥ Y
          · have b4 : (X : Int) ≥ (Y : Int) := by omega
            have hck := scheck_any 0 none (some ⟨g, 0, none⟩) 0 c [] (mkT 5 (nms i)) W.drew (HR.out.kept KW) (AtH.nil _ _) (HTA.out _ KQ.drew) (mk_ok _ _ (nm_len rfl)) (by omega) (by simp)
            rw [pn2 ⟨i, by omega⟩ (show 0 < i by omega), hjj, show ([] : List ChanD).length = 0 from rfl] at hck
            go_wp2_with fail
            refine hck.mono ?_
            rintro e w5 ⟨rfl, t5⟩
            have T5 := KQ.drew.trans t5
            have z0 := T5.cell HC.out.1
            have z1 := T5.cell HC.out.2.1
            have z2 := T5.cell HC.out.2.2
            have hf := find_any 0 none (some ⟨g, 0, none⟩) 0 c 0 (mkT 5 (nms i)) [120] w5 (HTA.out _ T5) (by omega)
            rw [pn3 ⟨i, by omega⟩, hjj] at hf
            go_wp2_with fail
            refine hf.mono ?_
            rintro e w6 ⟨rfl, t6⟩
            go_wp2_with fail
            go_ret
            exact ⟨rfl, (KK.trans T5).trans t6⟩
          · have b4 : ¬ (X : Int) ≥ (Y : Int) := by omega
            have b5 : (X : Int) < (i : Int) := by omega
            have b6 : (Y : Int) < (i : Int) := by omega
            have b7 : (0 : Int) ≤ (X : Int) := by omega
            have b8 : (0 : Int) ≤ (Y : Int) := by omega
            have K2 : Kept wr W.drew.drew := KQ.drew.drew
            have q2 := K2.cell HC.out.2.2
            have yX := HNC.out _ X K2 hXi
            have yY := HNC.out _ Y K2 hYi
            have HT2 := HT.out.kept K2
            have fY : W.drew.drew.frozen? ⟨g, Y * 5, none⟩ = false := by
              have h := HT2.row
              rw [hel] at h
              exact h.frozenAt (Y * 5)
            have n1 : ¬ X * 5 = Y * 5 := by omega
            have n2 : ¬ Y * 5 = X * 5 := by omega
            have n3 : ¬ X = Y := by omega
            have n4 : ¬ Y = X := by omega
            have n5 : ¬ g = sb := fun e => HS.out.1 (by rw [e]; rfl)
            have n6 : ¬ sb = g := fun e => n5 e.symm
            obtain ⟨eY, heY⟩ : ∃ e, es[Y]? = some e := ⟨_, List.getElem?_eq_getElem (by omega)⟩
            have HTS : Hid (TE w.heap.size ((W.setCell ⟨g, Y * 5, none⟩ (.string (B (nmI X)))).drew.drew) (.slice (some ⟨g, 0, none⟩) i c) 5 (es.set Y (nmI X, eY.2))) := HT2.set hel.symm heY (nmI X)
            have tf := turn_set W.drew.drew g (Y * 5) (.string (B (nmI X)))
            have HBS : Hid (Box w.heap.size ((W.setCell ⟨g, Y * 5, none⟩ (.string (B (nmI X)))).drew.drew) 26 sb [.int .i64 0, .slice none 0 0, .slice (some ⟨g, 0, none⟩) i c]) := (HB.out.kept K2).turns tf (fun e => n6 e)
            have KE : Kept w ((W.setCell ⟨g, Y * 5, none⟩ (.string (B (nmI X)))).drew.drew) := tf.kept (KK.trans K2) (fun q hq => by have := (World.ownsRow.lt HT2.row g rfl).1; omega)
            have HNS : Hid ((es.set Y (nmI X, eY.2)).map (·.1) = (nms i).set Y (nmI X)) := by show _ = _; rw [List.map_set, HN.out]
            have hsl : ((nms i).set Y (nmI X)).length = i := by rw [List.length_set, nms_len]
            have HTB : Hid (∀ w', Kept ((W.setCell ⟨g, Y * 5, none⟩ (.string (B (nmI X)))).drew.drew) w' → AtT w' (some ⟨g, 0, none⟩) (mkT 5 ((nms i).set Y (nmI X)))) := fun w' t => by
              have h := (HTS.out.kept t).tasks (by rw [List.length_set]; exact hel.symm)
              rw [HNS.out] at h
              exact h
            have hml : (mkT 5 ((nms i).set Y (nmI X))).length = i := by rw [mk_len, hsl]
            have hmo : TsOk (mkT 5 ((nms i).set Y (nmI X))) := mk_ok _ _ (fun n hn => by
              rcases List.mem_or_eq_of_mem_set hn with hn | hn
              · exact nm_len rfl n hn
              · subst hn; simp [nmI])
            have hck := scheck_any 0 none (some ⟨g, 0, none⟩) 0 c [] (mkT 5 ((nms i).set Y (nmI X))) _ (HR.out.kept KE) (AtH.nil _ _) (HTB.out _ (Kept.refl _)) hmo (by omega) (by simp)
            rw [pn4 ⟨i, by omega⟩ ⟨X, by omega⟩ ⟨Y, by omega⟩ (show X < Y by omega) (show Y < i by omega), hml, show ([] : List ChanD).length = 0 from rfl] at hck
            have v0 : (W.setCell ⟨g, Y * 5, none⟩ (.string (B (nmI X)))).drew.drew.cell? ⟨sb, 0, none⟩ = some (.int .i64 0) := HBS.out.cell 0 (by simp)
            have v1 : (W.setCell ⟨g, Y * 5, none⟩ (.string (B (nmI X)))).drew.drew.cell? ⟨sb, 1, none⟩ = some (.slice none 0 0) := HBS.out.cell 1 (by simp)
            have v2 : (W.setCell ⟨g, Y * 5, none⟩ (.string (B (nmI X)))).drew.drew.cell? ⟨sb, 2, none⟩ = some (.slice (some ⟨g, 0, none⟩) i c) := HBS.out.cell 2 (by simp)
            have v3 : (W.setCell ⟨g, Y * 5, none⟩ (.string (B (nmI X)))).drew.drew.cell? ⟨g, Y * 5, none⟩ = some (.string (B (nmI X))) := by
              obtain ⟨b9, f9, e9, h9⟩ := HTB.out _ (Kept.refl _) Y ⟨nmI X, 5, 5, 5, [oRun 1]⟩ (by unfold mkT; rw [List.getElem?_map, List.getElem?_set_self (by rw [nms_len]; omega)]; rfl)
              cases e9
              have := h9.nm
              rw [Nat.zero_add] at this
              exact this
            have kx : (W.setCell ⟨g, Y * 5, none⟩ (.string (B (nmI X)))).drew.drew.cell? ⟨g, X * 5, none⟩ = some (.string (B (nmI X))) := by
              obtain ⟨b9, f9, e9, h9⟩ := HTB.out _ (Kept.refl _) X ⟨nmI X, 5, 5, 5, [oRun 1]⟩ (by unfold mkT; rw [List.getElem?_map, List.getElem?_set_ne (by omega), nms_get hXi]; rfl)
              cases e9
              have := h9.nm
              rw [Nat.zero_add] at this
              exact this
            go_wp2_with fail
            go_region_held3 (fun w' => w'.cell? ⟨sb, 2, none⟩ = some (.slice (some ⟨g, 0, none⟩) i c) ∧ w'.cell? ⟨g, X * 5, none⟩ = some (.string (B (nmI X)))) (go_keep) (fail)
            go_wp2_with fail
            refine hck.mono ?_
            rintro e w5 ⟨rfl, t5⟩
            have z0 := t5.cell v0
            have z1 := t5.cell v1
            have z2 := t5.cell v2
            have z3 := t5.cell v3
            have hf := find_any 0 none (some ⟨g, 0, none⟩) 0 c 0 (mkT 5 ((nms i).set Y (nmI X))) (nmI X) w5.drew (HTB.out _ t5.drew) (by omega)
            rw [pn5 ⟨i, by omega⟩ ⟨X, by omega⟩ ⟨Y, by omega⟩ (show X < Y by omega) (show Y < i by omega), hml] at hf
            clear v0 v1 v2 v3 hck
            go_wp2_with fail
            go_region_held3 (fun w' => w'.cell? ⟨sb, 0, none⟩ = some (.int .i64 0) ∧ w'.cell? ⟨sb, 1, none⟩ = some (.slice none 0 0) ∧ w'.cell? ⟨sb, 2, none⟩ = some (.slice (some ⟨g, 0, none⟩) i c) ∧ w'.cell? ⟨g, Y * 5, none⟩ = some (.string (B (nmI X)))) (go_keep) (first | (go_at_call 7; refine hf.mono ?_; rintro e w14 ⟨rfl, t14⟩; have K14 := ((Kept.refl w5).drew).trans t14; have u0 := K14.cell z0; have u1 := K14.cell z1; have u2 := K14.cell z2; have u3 := K14.cell z3) | fail)
            go_wp2_with fail
            go_ret
            exact ⟨rfl, (KE.trans t5).trans K14⟩
end Go.Proofs.YtockpcoegdaipabDoor
