/- CeilUsers, walked. -/
import Derived.Test.YtembbhbbmkijcaaDoorTSr
import Derived.Test.YtembbhbbmkijcaaDoorBytO
import Derived.Test.YtembbhbbmkijcaaDoorTwo
namespace Go.Proofs.YtembbhbbmkijcaaDoor
open Go.RowKit Go.Sort

def bitU (Z : List Int) (i k : Nat) : Bool := !(bits BinOp.and IntKind.u8 ((Z.getD i 0) / 2 ^ k) 1 == 0)
theorem bit_fin : ∀ x : Fin 256, bits BinOp.and IntKind.u8 (x.1 : Int) 1 = 0 ∨ bits BinOp.and IntKind.u8 (x.1 : Int) 1 = 1 := by decide +kernel
theorem bit_two {z : Int} (h0 : 0 ≤ z) (h1 : z ≤ 255) (k : Nat) : bits BinOp.and IntKind.u8 (z / 2 ^ k) 1 = 0 ∨ bits BinOp.and IntKind.u8 (z / 2 ^ k) 1 = 1 := by
  have hp : (0 : Int) < 2 ^ k := Int.pow_pos (by omega)
  have g0 : 0 ≤ z / 2 ^ k := Int.ediv_nonneg h0 (by omega)
  have g1 : z / 2 ^ k ≤ z := Int.ediv_le_self _ h0
  obtain ⟨y, hy⟩ : ∃ y : Nat, z / 2 ^ k = (y : Int) := ⟨(z / 2 ^ k).toNat, by omega⟩
  rw [hy] at g0 g1 ⊢
  exact bit_fin ⟨y, by omega⟩
theorem bitU_get {Z : List Int} {i : Nat} {z : Int} (h : Z[i]? = some z) (k : Nat) : bitU Z i k = !(bits BinOp.and IntKind.u8 (z / 2 ^ k) 1 == 0) := by
  unfold bitU
  rw [List.getD_eq_getElem?_getD, h]
  rfl
theorem orow_new (B : Nat) (w : World) (qs : List OpD) (hqs : ∀ o ∈ qs, o.cases = []) (cells : Array Value) (hcells : cells = (flatO qs (nils qs)).toArray) (hB : B ≤ w.heap.size) (hl : qs.length ≤ 1000) (n : Nat) (hn : n = qs.length) : ORow B (w.alloc (.cells cells 31)) (.slice (some ⟨w.heap.size, 0, none⟩) n n) qs (nils qs) := by
  subst hn
  have hnl : (nils qs).length = qs.length := by simp [nils]
  refine ⟨hnl, ?_, ?_⟩
  · have := World.ownsRow_lit (base := B) (e := 31) (size := 5) w cells qs.length hB (by unfold maxLen; omega) (by rw [hcells]; simp [flatO_len _ _ hnl])
    rw [hcells] at this ⊢
    simpa using this
  · intro j o s hj hs
    have hs2 : s = .slice none 0 0 := by
      unfold nils at hs
      rw [List.getElem?_map, hj] at hs
      exact (Option.some.inj hs).symm
    rw [hs2, hqs o (List.mem_of_getElem? hj)]
    exact ⟨CRow.nil _ _ _, fun q hq => by simp [Value.ownBlock] at hq⟩
theorem name_text (W : World) (u : UInt8) : (convert 22 9 (.slice (some ⟨W.heap.size, 0, none⟩) 1 1)).run Tryd.prog (W.alloc (.cells #[.int .u8 (u.toNat : Int)] 5)) = .ok (.string (B [u])) (W.alloc (.cells #[.int .u8 (u.toNat : Int)] 5)) := by
  refine run_convert_bytes_back (P := Tryd.prog) _ 22 9 5 ⟨W.heap.size, 0, none⟩ 1 [u] Tryd.underlying22 Tryd.underlying5 Tryd.underlying9 ?_
  intro j hj
  obtain rfl : j = 0 := by simp at hj; omega
  rw [Addr.add_lit, Nat.zero_add, World.cell?_alloc_at _ _ _ _ rfl]
  rfl
theorem name_at (W : World) (i : Nat) (hi : i < 12) : (convert 22 9 (.slice (some ⟨W.heap.size, 0, none⟩) 1 1)).run Tryd.prog (W.alloc (.cells #[.int .u8 (97 + (i : Int))] 5)) = .ok (.string (B [UInt8.ofNat (97 + i)])) (W.alloc (.cells #[.int .u8 (97 + (i : Int))] 5)) := by
  have h := name_text W (UInt8.ofNat (97 + i))
  rw [show (((UInt8.ofNat (97 + i)).toNat : Nat) : Int) = 97 + (i : Int) by simp; omega] at h
  exact h
theorem wpList_append_tk (w : World) {ops : Array Oper} {rest : List Oper} {o : Oper} {a : Act} {Q : Exit → Act → World → Prop} (hgd : o.guard = none) (s x : Operand)
    (ho : o.op = .call { callee := .builtin .append, args := #[s, x], argTypes := #[25, 25] })
    (Bd ob : Nat) (v1 : Value) (ts : List TaskD) (pvs : List Value) (t : TaskD) (pa : Option Addr) (pc : Nat) (cells : Array Value) (hcells : cells = (tkW t (.slice pa t.prog.length pc)).toArray) (W : World) (hw1 : w = W.alloc (.cells cells 35)) (hs : a.eval s = v1) (nb : Nat) (hnb : nb = W.heap.size) (hx : a.eval x = .slice (some ⟨nb, 0, none⟩) 1 1)
    (h1 : TRow Bd ob W v1 ts pvs) (hp1 : t.prog.length ≤ pc) (hp2 : pa = none → pc = 0) (hp3 : ∀ w', Turns (ownB v1 ob) W w' → AtP w' pa t.prog) (hl : ts.length ≤ 1000000) (hB : Bd ≤ W.heap.size)
    (h : ∀ g cap w', TRow Bd ob w' (.slice (some ⟨g, 0, none⟩) (ts.length + 1) cap) (ts ++ [t]) (pvs ++ [.slice pa t.prog.length pc]) → Turns (fun k => v1.ownBlock = some k) W w' → (v1.ownBlock = some g ∨ W.heap.size < g) → wpList Tryd.prog ops Q rest (a.put o.dst (.slice (some ⟨g, 0, none⟩) (ts.length + 1) cap)) w') :
    wpList Tryd.prog ops Q (o :: rest) a w := by
  refine wpList_step fun K hK => ?_
  exact step_append_tk w hgd s x ho Bd ob v1 ts pvs t pa pc cells hcells W hw1 hs nb hnb hx h1 hp1 hp2 hp3 hl hB (fun g cap w' e1 e2 e3 => hK _ _ (h g cap w' e1 e2 e3))
set_option maxHeartbeats 8000000 in
set_option maxRecDepth 20000 in
theorem users_law (a : Option Addr) (Z : List Int) (c : Nat) (nn : Int) (hn0 : 0 ≤ nn) (hn1 : nn ≤ 255) (bb : Int) (hb0 : 0 ≤ bb) (hb1 : bb ≤ 255) (w : World) (hr : Rdy w) (hZ : AtB w a Z) (hz : ∀ z ∈ Z, 0 ≤ z ∧ z ≤ 255) :
    Calls Tryd.prog 3 #[.slice a Z.length c, .int .u8 nn, .int .u8 bb] w fun e w' => e = .returned (.bool true) ∧ Kept w w' := by
  have HR : Hid (Rdy w) := hr
  have HZ : Hid (AtB w a Z) := hZ
  have HZB : Hid (∀ z ∈ Z, 0 ≤ z ∧ z ≤ 255) := hz
  clear hr hZ hz
  obtain ⟨i3, hi3, hi30, hi31, hi38⟩ := info3
  have br : 1 ≤ 1 + nn % 20 ∧ 1 + nn % 20 ≤ 20 := by omega
  have bd : 1 ≤ 1 + bb % 30 ∧ 1 + bb % 30 ≤ 30 := by omega
  go_enter Tryd.func3, Tryd.ntmps3
  go_wp2_with fail
  refine (cknown_true w HR.out).mono ?_
  rintro e w1 ⟨rfl, K1⟩
  by_cases h1 : (Z.length : Int) < 1
  · go_wp2_with fail
    go_ret
    exact ⟨rfl, K1⟩
  by_cases h12 : (Z.length : Int) > 12
  · go_wp2_with fail
    go_ret
    exact ⟨rfl, K1⟩
  have KB : Kept w1 (w1.alloc (.cells #[.int .i64 8, .slice none 0 0, .slice none 0 0] 27)) := (Kept.refl w1).alloc _
  have HB : Hid (Box w.heap.size (w1.alloc (.cells #[.int .i64 8, .slice none 0 0, .slice none 0 0] 27)) 27 w1.heap.size [.int .i64 8, .slice none 0 0, .slice none 0 0]) := box_new w.heap.size w1 27 [.int .i64 8, .slice none 0 0, .slice none 0 0] K1.size (by simp)
  have hbs : w.heap.size ≤ (w1.alloc (.cells #[.int .i64 8, .slice none 0 0, .slice none 0 0] 27)).heap.size := (K1.trans KB).size
  go_wp2_with (refine wpList_make_full _ rfl _ _ 28 rfl w.heap.size 3 i3 _ 1 Tryd.underlying28 hi3 hi30 hi31 _ _ _ _ 8 rfl rfl rfl rfl (by rw [hi38]; omega) (by unfold maxLen; omega) hbs ?_; intro w2 ow2 gr2)
  generalize 1 + nn % 20 = r at *
  generalize 1 + bb % 30 = bg at *
  have hsz : (w1.alloc (.cells #[.int .i64 8, .slice none 0 0, .slice none 0 0] 27)).heap.size = w1.heap.size + 1 := by simp
  rw [hsz] at ow2
  obtain ⟨xb, hxb⟩ : ∃ x, w1.heap.size = x := ⟨_, rfl⟩
  rw [hxb] at ow2 HB ⊢
  have HI0 : Hid (IRow 3 w.heap.size w2 (.slice (some ⟨xb + 1, 0, none⟩) 8 8) (wantU (bitU Z) Z.length 0 0)) := by show IRow _ _ _ _ _; rw [wantU_zero]; exact irow_made ow2
  have KA : Kept (w1.alloc (.cells #[.int .i64 8, .slice none 0 0, .slice none 0 0] 27)) w2 := (Turns.grown (S := fun _ => False) gr2 (fun k e => by cases e)).kept (Kept.refl _) (fun i hi => hi.elim)
  have HB2 : Hid (Box w.heap.size w2 27 xb [.int .i64 8, .slice none 0 0, .slice none 0 0]) := HB.out.kept KA
  have K2 : Kept w w2 := (K1.trans KB).trans KA
  have HX : Hid (w.heap.size ≤ xb ∧ 1 ≤ r ∧ r ≤ 20 ∧ 1 ≤ bg ∧ bg ≤ 30) := ⟨by rw [← hxb]; exact K1.size, br.1, br.2, bd.1, bd.2⟩
  clear ow2 gr2 HB KA KB hbs hsz hxb br bd K1
  go_wp2_with fail
  go_loopg [11] Z.length (fun gk is wr => ∃ (i : Nat) (W : World) (v : Value) (pvs : List Value), W = wr ∧ is = .int .i64 i ∧ i + gk = Z.length ∧ Hid (TRow w.heap.size (xb + 1) W v (tasksU (bitU Z) r bg i) pvs) ∧ Hid (Box w.heap.size W 27 xb [.int .i64 8, .slice none 0 0, v]) ∧ Hid (IRow 3 w.heap.size W (.slice (some ⟨xb + 1, 0, none⟩) 8 8) (wantU (bitU Z) Z.length i 0)) ∧ Hid (v.ownBlock ≠ some xb ∧ v.ownBlock ≠ some (xb + 1)) ∧ Kept w W)
  case atStart => exact ⟨0, _, _, _, rfl, rfl, by omega, TRow.nil _ _ _, HB2, HI0, (by show _ ∧ _; simp [Value.ownBlock]), K2⟩
  case round =>
    obtain ⟨i, W, v, pvs, hW, rfl, hi, HT, HB, HI, HV, K⟩ := hrel
    subst hW
    by_cases hin : i < Z.length
    · have b1 : (i : Int) < (Z.length : Int) := by omega
      have b2 : (0 : Int) ≤ (i : Int) := by omega
      obtain ⟨gm, rfl⟩ : ∃ g, gk = g + 1 := ⟨gk - 1, by omega⟩
      obtain ⟨z, hz⟩ : ∃ z, Z[i]? = some z := ⟨_, List.getElem?_eq_getElem hin⟩
      obtain ⟨hz0, hz1⟩ := HZB.out z (List.mem_of_getElem? hz)
      obtain ⟨b, f, rfl, cz⟩ := HZ.out i z hz
      have KW : Kept W (W.alloc (.cells #[.int .i64 1, .int .i64 1, .int .i64 0, .int .i64 0, .slice none 0 0] 31)) := (Kept.refl W).alloc _
      have HP0 : Hid (∃ svs, ORow W.heap.size (W.alloc (.cells #[.int .i64 1, .int .i64 1, .int .i64 0, .int .i64 0, .slice none 0 0] 31)) (.slice (some ⟨W.heap.size, 0, none⟩) 1 1) (progU (bitU Z i) r 0) svs) := ⟨_, orow_new W.heap.size W [oRun 1] (by simp [oRun]) #[.int .i64 1, .int .i64 1, .int .i64 0, .int .i64 0, .slice none 0 0] rfl (Nat.le_refl _) (by simp) 1 rfl⟩
      have HXW : Hid (xb + 1 < W.heap.size) := (World.ownsRow.lt HI.out (xb + 1) rfl).2
      have HVW : Hid (∀ q, v.ownBlock = some q → w.heap.size ≤ q ∧ q < W.heap.size) := fun q hq => World.ownsRow.lt HT.out.row q hq
      have HI1 : Hid (IRow 3 w.heap.size (W.alloc (.cells #[.int .i64 1, .int .i64 1, .int .i64 0, .int .i64 0, .slice none 0 0] 31)) (.slice (some ⟨xb + 1, 0, none⟩) 8 8) (wantU (bitU Z) Z.length i 0)) := HI.out.kept KW
      have HT1 : Hid (Turns (fun q => q = xb + 1) W (W.alloc (.cells #[.int .i64 1, .int .i64 1, .int .i64 0, .int .i64 0, .slice none 0 0] 31))) := KW.turns.mono (fun _ _ h => h.elim)
      go_wp2_with fail
      generalize (W.alloc (.cells #[.int .i64 1, .int .i64 1, .int .i64 0, .int .i64 0, .slice none 0 0] 31)) = WP at *
      go_loopg [12, 13] 8 (fun gk ps ks wr => ∃ (k : Nat) (W2 : World) (pv : Value), W2 = wr ∧ pv = ps ∧ ks = .int .i64 k ∧ k + gk = 8 ∧ Hid (∃ svs, ORow W.heap.size W2 pv (progU (bitU Z i) r k) svs) ∧ Hid (IRow 3 w.heap.size W2 (.slice (some ⟨xb + 1, 0, none⟩) 8 8) (wantU (bitU Z) Z.length i k)) ∧ Hid (Turns (fun q => q = xb + 1) W W2))
      case atStart => exact ⟨0, _, _, rfl, rfl, rfl, by omega, HP0, HI1, HT1⟩
      case round =>
        obtain ⟨k, W2, pv, hW, hpv, rfl, hk, HP, HI2, HT2⟩ := hrel
        subst hW
        subst hpv
        have K2 : Kept w W2 := HT2.out.kept K (fun q hq => by have := HX.out.1; omega)
        by_cases hk8 : k < 8
        · have b3 : (k : Int) < 8 := by omega
          have b4 : (0 : Int) ≤ (k : Int) := by omega
          obtain ⟨gi, rfl⟩ : ∃ g, gk = g + 1 := ⟨gk - 1, by omega⟩
          have c0 := K2.cell cz
          obtain ⟨svs, hp⟩ := HP.out
          obtain ⟨pa, pc, rfl, hpc1, hpc2, hpc3⟩ := hp.view
          have hpl : Hid (∀ q, (Value.slice pa (progU (bitU Z i) r k).length pc).ownBlock = some q → W.heap.size ≤ q) := fun q hq => (hp.lt q hq).1
          clear hp hpc3
          rcases bit_two hz0 hz1 k with hb | hb
          · have HF : Hid (bitU Z i k = false) := by show _ = _; rw [bitU_get hz, hb]; rfl
            have HP5 : Hid (∃ svs, ORow W.heap.size W2 (.slice pa (progU (bitU Z i) r k).length pc) (progU (bitU Z i) r (k + 1)) svs) := by
              have h := HP.out
              rw [progU_next, HF.out, if_neg (by simp), List.append_nil]
              exact h
            have HI5 : Hid (IRow 3 w.heap.size W2 (.slice (some ⟨xb + 1, 0, none⟩) 8 8) (wantU (bitU Z) Z.length i (k + 1))) := by show IRow _ _ _ _ _; rw [← wantU_same _ _ _ _ HF.out]; exact HI2.out
            clear HP HI2 svs
            go_wp2_with fail
            go_roundg gi
            case rel => exact ⟨k + 1, _, _, rfl, rfl, by go_num, by omega, HP5, HI5, HT2⟩
            case measure => omega
          · have HF : Hid (bitU Z i k = true) := by show _ = _; rw [bitU_get hz, hb]; rfl
            obtain ⟨cv, hcv⟩ : ∃ x, ceilV (fun j => (Z.length : Int) - (j : Int)) (fun j => bitU Z j k) i = x := ⟨_, rfl⟩
            obtain ⟨m, hm⟩ : ∃ x, max cv ((Z.length : Int) - (i : Int)) = x := ⟨_, rfl⟩
            have HSET : Hid ((wantU (bitU Z) Z.length i k).set k m = wantU (bitU Z) Z.length i (k + 1)) := by show _ = _; rw [← hm, ← hcv]; exact wantU_set _ _ _ _ HF.out
            have HGET : Hid ((wantU (bitU Z) Z.length i k)[k]? = some cv) := by show _ = _; rw [wantU_get hk8, hcv]
            have hll : (progU (bitU Z i) r k).length + (pieceU r k).length ≤ 1000000 := by have := progU_len (bitU Z i) r k; simp [pieceU]; omega
            have hsW : W.heap.size ≤ W2.heap.size := HT2.out.size
            clear hcv
            go_wp2_with (first | (at_builtin; refine wpList_append_lits _ (by rfl) _ _ rfl W.heap.size (.slice pa (progU (bitU Z i) r k).length pc) (progU (bitU Z i) r k) (pieceU r k) (by simp [pieceU, oLock, oRun, oUnl]) (by simp [pieceU]) _ rfl W2 (by rfl) (by rfl) W2.heap.size (by rfl) 3 (by rfl) (by rfl) HP.out hll hsW ?_; intro g5 c5 w5 R5 t5; have HR5 : Hid (∃ svs, ORow W.heap.size w5 (.slice (some ⟨g5, 0, none⟩) ((progU (bitU Z i) r k).length + 3) c5) (progU (bitU Z i) r k ++ pieceU r k) svs) := R5; have HT5 : Hid (Turns (fun q => q = xb + 1) W w5) := HT2.out.next t5 (fun q hq e => by have := hpl.out q e; omega); have HI5 : Hid (IRow 3 w.heap.size w5 (.slice (some ⟨xb + 1, 0, none⟩) 8 8) (wantU (bitU Z) Z.length i k)) := HI2.out.turns t5 (fun q hq e => by have h1 := hpl.out q e; have h2 := HXW.out; simp [Value.ownBlock] at hq; omega); have c1 := irow_cell HI5.out (wantU_len _ _ _ _) k cv HGET.out; have f1 := irow_frozen HI5.out (wantU_len _ _ _ _) k; clear R5 t5) | fail)
            go_roundg gi
            case rel =>
              have t := turn_set w5 (xb + 1) k (.int .i64 m)
              have h5 := irow_set HI5.out (wantU_len _ _ _ _) k m
              rw [HSET.out] at h5
              obtain ⟨sv5, h6⟩ := HR5.out
              refine ⟨k + 1, _, _, rfl, rfl, by go_num, by omega, ⟨sv5, ?_⟩, h5, HT5.out.trans t⟩
              rw [progU_next, HF.out, if_pos rfl]
              exact h6.turns t (fun q e => by have := HXW.out; omega)
            case measure => omega
        · have b3 : ¬ (k : Int) < 8 := by omega
          obtain rfl : k = 8 := by omega
          obtain ⟨svs, hp⟩ := HP.out
          obtain ⟨pa, pc, rfl, hpc1, hpc2, hpc3⟩ := hp.view
          have hi12 : i < 12 := by omega
          have hconv := name_at W2 i hi12
          obtain ⟨nmv, hnmv⟩ : ∃ x, [UInt8.ofNat (97 + i)] = x := ⟨_, rfl⟩
          rw [hnmv] at hconv
          have HTK : Hid (taskU (bitU Z) r bg i = ⟨nmv, 900, 100 + (i : Int), bg, progU (bitU Z i) r 8⟩) := by show _ = _; rw [← hnmv]; rfl
          clear hnmv
          have HTW : Hid (TRow w.heap.size (xb + 1) W2 v (tasksU (bitU Z) r bg i) pvs) := HT.out.other HT2.out HV.out.2
          have HTN : Hid (TRow w.heap.size (xb + 1) (W2.alloc (.cells #[.int .u8 (97 + (i : Int))] 5)) v (tasksU (bitU Z) r bg i) pvs) := HTW.out.kept ((Kept.refl _).alloc _)
          have HIN : Hid (IRow 3 w.heap.size W2 (.slice (some ⟨xb + 1, 0, none⟩) 8 8) (wantU (bitU Z) Z.length (i + 1) 0)) := by show IRow _ _ _ _ _; rw [← wantU_next]; exact HI2.out
          have HBN : Hid (Box w.heap.size W2 27 xb [.int .i64 8, .slice none 0 0, v]) := HB.out.turns HT2.out (by omega)
          have u2 : W2.cell? ⟨xb, 2, none⟩ = some v := HBN.out.cell 2 (by simp)
          have HP3 : Hid (∀ w', Turns (ownB v (xb + 1)) (W2.alloc (.cells #[.int .u8 (97 + (i : Int))] 5)) w' → AtP w' pa (progU (bitU Z i) r 8)) := by
            intro w' t
            have h := hp.turns (((Turns.refl (ownB v (xb + 1)) W2).alloc (.cells #[.int .u8 (97 + (i : Int))] 5)).trans t) (fun q e => by
              have h1 := HXW.out
              rcases e with e | e | e
              · have := (HVW.out q e).2; omega
              · omega
              · omega)
            obtain ⟨a', c', e, _, _, h2⟩ := h.view
            cases e
            exact h2
          have hll : (tasksU (bitU Z) r bg i).length ≤ 1000000 := by rw [tasksU_len]; omega
          have hs2 : w.heap.size ≤ (W2.alloc (.cells #[.int .u8 (97 + (i : Int))] 5)).heap.size := (K2.alloc _).size
          have KN : Kept w (W2.alloc (.cells #[.int .u8 (97 + (i : Int))] 5)) := K2.alloc _
          have hWs : W.heap.size ≤ W2.heap.size := HT2.out.size
          clear hp hpc3 svs
          go_wp2_with (first | (at_builtin; refine wpList_append_tk _ (by rfl) _ _ rfl w.heap.size (xb + 1) v (tasksU (bitU Z) r bg i) pvs ⟨nmv, 900, 100 + (i : Int), bg, progU (bitU Z i) r 8⟩ pa pc _ rfl (W2.alloc (.cells #[.int .u8 (97 + (i : Int))] 5)) (by rfl) (by rfl) (W2.heap.size + 1) (by simp) (by rfl) HTN.out hpc1 hpc2 HP3.out hll hs2 ?_; intro g5 c5 w5 R5 t5 hg5; have HR5 : Hid (TRow w.heap.size (xb + 1) w5 (.slice (some ⟨g5, 0, none⟩) ((tasksU (bitU Z) r bg i).length + 1) c5) (tasksU (bitU Z) r bg i ++ [(⟨nmv, 900, 100 + (i : Int), bg, progU (bitU Z i) r 8⟩ : TaskD)]) (pvs ++ [.slice pa (progU (bitU Z i) r 8).length pc])) := R5; have HT5 : Hid (Turns (fun k => v.ownBlock = some k) (W2.alloc (.cells #[.int .u8 (97 + (i : Int))] 5)) w5) := t5; have HG5 : Hid (v.ownBlock = some g5 ∨ (W2.alloc (.cells #[.int .u8 (97 + (i : Int))] 5)).heap.size < g5) := hg5; have HB5 : Hid (Box w.heap.size w5 27 xb [.int .i64 8, .slice none 0 0, v]) := (HBN.out.kept ((Kept.refl _).alloc _)).turns t5 HV.out.1; have f2 := HB5.out.frozen 2; have u5 : w5.cell? ⟨xb, 2, none⟩ = some v := HB5.out.cell 2 (by simp); clear R5 t5 hg5) | fail)
          go_roundg gm
          case rel =>
            have t6 := turn_set w5 xb 2 (.slice (some ⟨g5, 0, none⟩) ((tasksU (bitU Z) r bg i).length + 1) c5)
            have hz5 : (W2.alloc (.cells #[.int .u8 (97 + (i : Int))] 5)).heap.size = W2.heap.size + 1 := by simp
            have hx := HX.out.1
            have hxw := HXW.out
            have hne : g5 ≠ xb ∧ g5 ≠ xb + 1 := by
              rcases HG5.out with h | h
              · exact ⟨fun e => HV.out.1 (by rw [h, e]), fun e => HV.out.2 (by rw [h, e])⟩
              · rw [hz5] at h; omega
            have h5 := HR5.out
            rw [← HTK.out, ← tasksU_next] at h5
            refine ⟨i + 1, _, _, _, rfl, by go_num, by omega, TRow.res h5 (t6.mono (fun q _ e => by omega)) (fun q e => by simp [Value.ownBlock] at e; omega), HB5.out.set 2 _, ((HIN.out.kept ((Kept.refl _).alloc _)).turns HT5.out (fun q hq e => by simp [Value.ownBlock] at hq; subst hq; exact HV.out.2 e)).turns t6 (fun q hq e => by simp [Value.ownBlock] at hq; omega), by show _ ∧ _; simp [Value.ownBlock]; exact hne, t6.kept (HT5.out.kept KN (fun q e => (HVW.out q e).1)) (fun q e => by omega)⟩
          case measure => omega
    · have b1 : ¬ (i : Int) < (Z.length : Int) := by omega
      obtain rfl : i = Z.length := by omega
      obtain ⟨ta, tc, rfl, hta, _⟩ := HT.out.view
      have HTT : Hid (AtT W ta (tasksU (bitU Z) r bg Z.length)) := hta
      have hnl : 1 ≤ Z.length ∧ Z.length ≤ 12 := by omega
      have hok : TsOk (tasksU (bitU Z) r bg Z.length) := by
        intro t ht
        obtain ⟨j, hj, rfl⟩ := tasksU_mem ht
        refine ⟨by simp [taskU], by have := progU_len (bitU Z j) r 8; simp only [taskU]; omega, fun o ho => by rw [(progU_ck (bitU Z j) HX.out.2.1 HX.out.2.2.1 8 (by omega) o ho).2]; simp⟩
      have hpg : ∀ t ∈ tasksU (bitU Z) r bg Z.length, checkP t.prog = (0, 0) := by
        intro t ht
        obtain ⟨j, hj, rfl⟩ := tasksU_mem ht
        exact progU_check (bitU Z j) HX.out.2.1 HX.out.2.2.1
      have hbl : ∀ (j : Nat) (t : TaskD), (tasksU (bitU Z) r bg Z.length)[j]? = some t → Bal 3 0 0 t.prog ((fun j => progU (bitU Z j) r 8) j) := by
        intro j t hj
        have hj2 : j < Z.length := by have := (List.getElem?_eq_some_iff.1 hj).1; rwa [tasksU_len] at this
        rw [tasksU_get hj2] at hj
        cases hj
        exact progU_bal (bitU Z j) r 8
      have HOF : Hid (∀ wx, Kept W wx → Calls Tryd.prog 7 #[.agg #[.int .i64 8, .slice none 0 0, .slice ta Z.length tc]] wx fun e w' => ∃ g, e = .returned (.slice (some ⟨g, 0, none⟩) 8 8) ∧ AtI w' (some ⟨g, 0, none⟩) (wantU (bitU Z) Z.length Z.length 0) ∧ Kept wx w') := fun wx kx => by
        have h := of_any 8 none ta 0 0 tc _ wx (HTT.out.kept kx) hok (by rw [tasksU_len]; omega) (by rw [tasksU_len]; omega) (by decide)
        rw [tasksU_len, wantU_end] at h
        exact h
      have HSE : Hid (∀ (k : Nat) wx, k < 8 → Kept W wx → Calls Tryd.prog 8 #[.agg #[.int .i64 8, .slice none 0 0, .slice ta Z.length tc], .int .i64 k] wx fun e w' => ∃ g, e = .returned (.slice (some ⟨g, 0, none⟩) Z.length Z.length) ∧ (∀ j, j < Z.length → w'.cell? ⟨g, j, none⟩ = some (.int .i64 (if bitU Z j k = true then min r bg else 0))) ∧ Kept wx w') := fun k wx hk kx => by
        have h := sections_any 8 (k : Int) none ta 0 0 tc _ (fun j => progU (bitU Z j) r 8) wx (HR.out.kept (K.trans kx)) (HTT.out.kept kx) (by rw [tasksU_len]; omega) hpg hbl (by omega) (by omega)
        rw [tasksU_len] at h
        refine h.mono ?_
        rintro e w' ⟨g, rfl, A, T⟩
        refine ⟨g, rfl, fun j hj => ?_, T⟩
        obtain ⟨b, f, e, hc⟩ := A j (secV (k : Int) (fun j => progU (bitU Z j) r 8) (tasksU (bitU Z) r bg Z.length) j) (by simp [secD, tasksU_len, hj])
        cases e
        rw [Nat.zero_add, secU (bitU Z) HX.out.2.1 HX.out.2.2.1 HX.out.2.2.2.1 hj hk] at hc
        exact hc
      have HBW : Hid (Box w.heap.size W 27 xb [.int .i64 8, .slice none 0 0, .slice ta Z.length tc]) := by
        have h := HB.out
        rw [tasksU_len] at h
        exact h
      have s0 : W.cell? ⟨xb, 0, none⟩ = some (.int .i64 8) := HBW.out.cell 0 (by simp)
      have s1 : W.cell? ⟨xb, 1, none⟩ = some (.slice none 0 0) := HBW.out.cell 1 (by simp)
      have s2 : W.cell? ⟨xb, 2, none⟩ = some (.slice ta Z.length tc) := HBW.out.cell 2 (by simp)
      have HIW : Hid (AtI W (some ⟨xb + 1, 0, none⟩) (wantU (bitU Z) Z.length Z.length 0)) := irow_at HI.out (wantU_len _ _ _ _)
      clear hta hok hpg hbl HT HB HI HV HB2 HI0 K2
      go_wp2_with fail
      refine (HOF.out _ (Kept.refl _)).mono ?_
      rintro e w6 ⟨g6, rfl, B6, T6⟩
      have hin := ints_any (some ⟨g6, 0, none⟩) (some ⟨xb + 1, 0, none⟩) 8 8 _ _ w6 B6 (HIW.out.kept T6) (by rw [wantU_len]; decide) (by rw [wantU_len]; decide)
      rw [wantU_len, decide_eq_true (rfl : wantU (bitU Z) Z.length Z.length 0 = _)] at hin
      clear s0 s1 s2 B6 HIW
      go_wp2_with fail
      refine hin.mono ?_
      rintro e w7 ⟨rfl, T7⟩
      have K7 : Kept W w7 := T6.trans T7
      clear hin T6 T7 HOF
      go_wp2_with fail
      go_loopg [14] 8 (fun gk is wr => ∃ (k : Nat) (W3 : World), W3 = wr ∧ is = .int .i64 k ∧ k + gk = 8 ∧ Kept W W3)
      case atStart => exact ⟨0, _, rfl, rfl, by omega, K7⟩
      case round =>
        obtain ⟨k, W3, hW3, rfl, hk, K3⟩ := hrel
        subst hW3
        by_cases hk8 : k < 8
        · have b3 : (k : Int) < 8 := by omega
          have b4 : (0 : Int) ≤ (k : Int) := by omega
          obtain ⟨gm, rfl⟩ : ∃ g, gk = g + 1 := ⟨gk - 1, by omega⟩
          have HB3 := HBW.out.kept K3
          have s0 : W3.cell? ⟨xb, 0, none⟩ = some (.int .i64 8) := HB3.cell 0 (by simp)
          have s1 : W3.cell? ⟨xb, 1, none⟩ = some (.slice none 0 0) := HB3.cell 1 (by simp)
          have s2 : W3.cell? ⟨xb, 2, none⟩ = some (.slice ta Z.length tc) := HB3.cell 2 (by simp)
          clear HB3
          go_wp2_with fail
          refine (HSE.out k _ hk8 K3).mono ?_
          rintro e w8 ⟨g8, rfl, B8, T8⟩
          have HC8 : Hid (∀ j, j < Z.length → w8.cell? ⟨g8, j, none⟩ = some (.int .i64 (if bitU Z j k = true then min r bg else 0))) := B8
          have K8 : Kept W w8 := K3.trans T8
          clear s0 s1 s2 B8 T8
          go_wp2_with fail
          go_loopg [16] Z.length (fun gk is wr => ∃ (j : Nat) (W4 : World), W4 = wr ∧ is = .int .i64 j ∧ j + gk = Z.length ∧ Kept w8 W4)
          case atStart => exact ⟨0, _, rfl, rfl, by omega, Kept.refl _⟩
          case round =>
            obtain ⟨j, W4, hW4, rfl, hj, K4⟩ := hrel
            subst hW4
            by_cases hjn : j < Z.length
            · have b1 : (j : Int) < (Z.length : Int) := by omega
              have b2 : (0 : Int) ≤ (j : Int) := by omega
              obtain ⟨gi, rfl⟩ : ∃ g, gk = g + 1 := ⟨gk - 1, by omega⟩
              obtain ⟨z, hz⟩ : ∃ z, Z[j]? = some z := ⟨_, List.getElem?_eq_getElem hjn⟩
              obtain ⟨hz0, hz1⟩ := HZB.out z (List.mem_of_getElem? hz)
              obtain ⟨b, f, rfl, cz⟩ := HZ.out j z hz
              have c0 := ((K.trans K8).trans K4).cell cz
              have c1 := K4.cell (HC8.out j hjn)
              rcases bit_two hz0 hz1 k with hb | hb
              · have hf : bitU Z j k = false := by rw [bitU_get hz, hb]; rfl
                rw [hf, if_neg (by simp)] at c1
                clear hf
                go_wp2_with fail
                go_roundg gi
                case rel => exact ⟨j + 1, _, rfl, by go_num, by omega, K4⟩
                case measure => omega
              · have hf : bitU Z j k = true := by rw [bitU_get hz, hb]; rfl
                rw [hf, if_pos rfl] at c1
                obtain ⟨m, hm⟩ : ∃ m, min r bg = m := ⟨_, rfl⟩
                rw [hm] at c1
                clear hf
                go_wp2_with fail
                go_roundg gi
                case rel => exact ⟨j + 1, _, rfl, by go_num, by omega, K4⟩
                case measure => omega
            · have b1 : ¬ (j : Int) < (Z.length : Int) := by omega
              go_wp2_with fail
              go_roundg gm
              case rel => exact ⟨k + 1, _, rfl, by go_num, by omega, K8.trans K4⟩
              case measure => omega
        · have b1 : ¬ (k : Int) < 8 := by omega
          go_wp2_with fail
          go_ret
          exact ⟨rfl, K.trans K3⟩
end Go.Proofs.YtembbhbbmkijcaaDoor
