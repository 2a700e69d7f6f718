/- Programs of one lock; bytes that came in; tasks that are written; a row of tasks with one lock each, and how long each may be held up: plain mathematics. -/
import Derived.Test.YtcbpbidimocpjaaDoorKnB
import Derived.Test.YtcbpbidimocpjaaDoorTSo
import Derived.Test.YtcbpbidimocpjaaDoorApp2
namespace Go.Proofs.YtcbpbidimocpjaaDoor
open Go.RowKit Go.Sort

def oRun (r : Int) : OpD := ⟨1, r, 0, 0, []⟩
def oLock (k : Int) : OpD := ⟨2, k, 0, 0, []⟩
def oUnl (k : Int) : OpD := ⟨3, k, 0, 0, []⟩
theorem nrun {x : Int} (h0 : 1 ≤ x) (h1 : x ≤ 1000) : checkD (oRun x) = 0 := by
  unfold checkD oRun
  rw [if_pos (show isKindB (OpD.mk 1 x 0 0 []).kind = true from rfl), if_pos (by simp [takesB, shapeOf]; omega)]
  rfl
theorem run_run {m : Nat} {lp : List Nat} {r : Int} : takeM m lp (oRun r) = some (m, lp) := by
  unfold takeM oRun
  simp [waitsD]
/-- A run, then each lock that is had, with a run. -/
def pieceU (r : Int) (k : Nat) : List OpD := [oLock k, oRun r, oUnl k]
theorem piece_bal (r : Int) (k : Nat) : Bal 3 0 0 (pieceU r k) (pieceU r k) := by
  have hp : 0 < 2 ^ k := Nat.pow_pos (by omega)
  refine .one (m1 := 2 ^ k) (by simp [oLock]) (by simp [oLock]) ?_ (.one (m1 := 2 ^ k) (by simp [oRun]) (by simp [oRun]) run_run (.one (m1 := 0) (by simp [oUnl]) (by simp [oUnl]) ?_ (.nil _ _)))
  · unfold takeM oLock
    simp [hp]
  · unfold takeM oUnl
    simp
    omega
theorem lock_ck : ∀ k : Fin 8, checkD (oLock (k.1 : Int)) = 0 ∧ checkD (oUnl (k.1 : Int)) = 0 := by decide +kernel
theorem piece_sec (r x c : Int) (q k : Nat) : secGo (q : Int) x c (pieceU r k) = if q = k then max x r else x := by
  by_cases e : q = k
  · subst e
    simp [pieceU, secGo, oLock, oRun, oUnl]
  · have e2 : ¬ (k : Int) = (q : Int) := by omega
    simp [pieceU, secGo, oLock, oRun, oUnl, e, e2]
theorem count_lt (i : Nat) : ∀ n, i ≤ n → (List.range n).countP (fun j => decide (j < i)) = i
  | 0, h => by
    have : i = 0 := by omega
    subst this
    rfl
  | n + 1, h => by
    rw [List.range_succ, List.countP_append]
    by_cases e : i = n + 1
    · subst e
      have h2 : (List.range n).countP (fun j => decide (j < n + 1)) = n := by
        have := List.countP_eq_length (p := fun j => decide (j < n + 1)) (l := List.range n)
        rw [List.length_range] at this
        exact this.2 (fun a ha => by have := List.mem_range.1 ha; simp; omega)
      rw [h2]
      simp
    · rw [count_lt i n (by omega)]
      simp
      omega

open Go.ChangeShapes Go.WideShapes Go.ChangeAt Go.RowKit Go.Deep

/-- What a slice of bytes shows. -/
def AtB (w : World) (a : Option Addr) (Z : List Int) : Prop := ∀ (j : Nat) (x : Int), Z[j]? = some x → ∃ b f, a = some ⟨b, f, none⟩ ∧ w.cell? ⟨b, f + j, none⟩ = some (.int .u8 x)
theorem AtB.kept {w w' : World} {a : Option Addr} {Z : List Int} (h : AtB w a Z) (t : Kept w w') : AtB w' a Z := by
  intro j x hj
  obtain ⟨b, f, e, hc⟩ := h j x hj
  exact ⟨b, f, e, t.cell hc⟩
set_option maxRecDepth 100000 in
theorem bytes_open {H : Type} {enc : TypeId × Value → H} {w : World} {base b0 : Nat} {r : Reach} {held : Bool} {v : Value} {x : DataW H × List MemPlace} (hok : Value.okWide Tryd.prog w r b0 43 v) (h : ∃ fuel, DataW.trod enc Tryd.prog w base (fun _ => true) held fuel 43 v.cells.toList = some x) :
    ∃ (a : Option Addr) (Z : List Int) (c : Nat), v = .slice a Z.length c ∧ AtB w a Z ∧ ∀ z ∈ Z, 0 ≤ z ∧ z ≤ 255 := by
  obtain ⟨a, n, c, rfl⟩ := okWide_slice Tryd.underlying43 hok
  obtain ⟨fuel, hf⟩ := h
  rcases open_ints Tryd.underlying43 Tryd.underlying5 (by kernel_rfl) hf with ⟨hcs, _⟩ | ⟨y, l, c', zs, hcs, _, hl, hm, hz, _, hcell, hwz⟩
  · simp [Value.cells] at hcs
    obtain ⟨rfl, rfl, rfl⟩ := hcs
    exact ⟨none, [], 0, rfl, fun j x hj => by simp at hj, fun z hz => by cases hz⟩
  · simp [Value.cells] at hcs
    obtain ⟨rfl, rfl, rfl⟩ := hcs
    have hz' : zs.length = c := by simpa using hz
    have hlen : (zs.take n).length = n := by rw [List.length_take]; omega
    refine ⟨some y, zs.take n, c, by rw [hlen], ?_, ?_⟩
    · intro j x hj
      rw [List.getElem?_take] at hj
      split at hj
      · rename_i hjn
        have hjz : j < zs.length := by omega
        obtain ⟨b, f, rfl, hc⟩ := ints_at hcell (by omega)
        refine ⟨b, f, rfl, ?_⟩
        rw [hc j hjz, List.getD_eq_getElem?_getD, hj]
        rfl
      · cases hj
    · intro z hz2
      exact bounds_u8 (hwz z (List.mem_of_mem_take hz2))

theorem orow_new (B : Nat) (w : World) (qs : List OpD) (hqs : ∀ o ∈ qs, o.cases = []) (cells : Array Value) (hcells : cells = (flatO qs (nils qs)).toArray) (hB : B ≤ w.heap.size) (hl : qs.length ≤ 1000) (n : Nat) (hn : n = qs.length) : ORow B (w.alloc (.cells cells 46)) (.slice (some ⟨w.heap.size, 0, none⟩) n n) qs (nils qs) := by
  subst hn
  have hnl : (nils qs).length = qs.length := by simp [nils]
  refine ⟨hnl, ?_, ?_⟩
  · have := World.ownsRow_lit (base := B) (e := 46) (size := 5) w cells qs.length hB (by unfold maxLen; omega) (by rw [hcells]; simp [flatO_len _ _ hnl])
    rw [hcells] at this ⊢
    simpa using this
  · intro j o s hj hs
    have hs2 : s = .slice none 0 0 := by
      unfold nils at hs
      rw [List.getElem?_map, hj] at hs
      exact (Option.some.inj hs).symm
    rw [hs2, hqs o (List.mem_of_getElem? hj)]
    exact ⟨CRow.nil _ _ _, fun q hq => by simp [Value.ownBlock] at hq⟩
theorem name_text (W : World) (u : UInt8) : (convert 43 9 (.slice (some ⟨W.heap.size, 0, none⟩) 1 1)).run Tryd.prog (W.alloc (.cells #[.int .u8 (u.toNat : Int)] 5)) = .ok (.string (B [u])) (W.alloc (.cells #[.int .u8 (u.toNat : Int)] 5)) := by
  refine run_convert_bytes_back (P := Tryd.prog) _ 43 9 5 ⟨W.heap.size, 0, none⟩ 1 [u] Tryd.underlying43 Tryd.underlying5 Tryd.underlying9 ?_
  intro j hj
  obtain rfl : j = 0 := by simp at hj; omega
  rw [Addr.add_lit, Nat.zero_add, World.cell?_alloc_at _ _ _ _ rfl]
  rfl
theorem name_at (W : World) (i : Nat) (hi : i < 12) : (convert 43 9 (.slice (some ⟨W.heap.size, 0, none⟩) 1 1)).run Tryd.prog (W.alloc (.cells #[.int .u8 (97 + (i : Int))] 5)) = .ok (.string (B [UInt8.ofNat (97 + i)])) (W.alloc (.cells #[.int .u8 (97 + (i : Int))] 5)) := by
  have h := name_text W (UInt8.ofNat (97 + i))
  rw [show (((UInt8.ofNat (97 + i)).toNat : Nat) : Int) = 97 + (i : Int) by simp; omega] at h
  exact h
theorem wpList_append_tk (w : World) {ops : Array Oper} {rest : List Oper} {o : Oper} {a : Act} {Q : Exit → Act → World → Prop} (hgd : o.guard = none) (s x : Operand)
    (ho : o.op = .call { callee := .builtin .append, args := #[s, x], argTypes := #[39, 39] })
    (Bd ob : Nat) (v1 : Value) (ts : List TaskD) (pvs : List Value) (t : TaskD) (pa : Option Addr) (pc : Nat) (cells : Array Value) (hcells : cells = (tkW t (.slice pa t.prog.length pc)).toArray) (W : World) (hw1 : w = W.alloc (.cells cells 49)) (hs : a.eval s = v1) (nb : Nat) (hnb : nb = W.heap.size) (hx : a.eval x = .slice (some ⟨nb, 0, none⟩) 1 1)
    (h1 : TRow Bd ob W v1 ts pvs) (hp1 : t.prog.length ≤ pc) (hp2 : pa = none → pc = 0) (hp3 : ∀ w', Turns (ownB v1 ob) W w' → AtP w' pa t.prog) (hl : ts.length ≤ 1000000) (hB : Bd ≤ W.heap.size)
    (h : ∀ g cap w', TRow Bd ob w' (.slice (some ⟨g, 0, none⟩) (ts.length + 1) cap) (ts ++ [t]) (pvs ++ [.slice pa t.prog.length pc]) → Turns (fun k => v1.ownBlock = some k) W w' → (v1.ownBlock = some g ∨ W.heap.size < g) → wpList Tryd.prog ops Q rest (a.put o.dst (.slice (some ⟨g, 0, none⟩) (ts.length + 1) cap)) w') :
    wpList Tryd.prog ops Q (o :: rest) a w := by
  refine wpList_step fun K hK => ?_
  exact step_append_tk w hgd s x ho Bd ob v1 ts pvs t pa pc cells hcells W hw1 hs nb hnb hx h1 hp1 hp2 hp3 hl hB (fun g cap w' e1 e2 e3 => hK _ _ (h g cap w' e1 e2 e3))
/-- Task i of the row: one lock, held for r i. -/
def taskC (K : Nat → Nat) (r : Nat → Int) (i : Nat) : TaskD := ⟨[UInt8.ofNat (97 + i)], 900, 300 + (i : Int), 300, pieceU (r i) (K i)⟩
def tasksC (K : Nat → Nat) (r : Nat → Int) (n : Nat) : List TaskD := (List.range n).map (taskC K r)
theorem tasksC_len (K : Nat → Nat) (r : Nat → Int) (n : Nat) : (tasksC K r n).length = n := by simp [tasksC]
theorem tasksC_get {K : Nat → Nat} {r : Nat → Int} {n i : Nat} (h : i < n) : (tasksC K r n)[i]? = some (taskC K r i) := by simp [tasksC, h]
theorem tasksC_next (K : Nat → Nat) (r : Nat → Int) (n : Nat) : tasksC K r (n + 1) = tasksC K r n ++ [taskC K r n] := by simp [tasksC, List.range_succ]
theorem tasksC_mem {K : Nat → Nat} {r : Nat → Int} {n : Nat} {t : TaskD} (h : t ∈ tasksC K r n) : ∃ i, i < n ∧ t = taskC K r i := by
  simp only [tasksC, List.mem_map, List.mem_range] at h
  obtain ⟨i, hi, rfl⟩ := h
  exact ⟨i, hi, rfl⟩
theorem tasksC_dl {K : Nat → Nat} {r : Nat → Int} {n i : Nat} (h : i < n) : dlT (tasksC K r n) i = 300 + (i : Int) := by
  unfold dlT
  rw [tasksC_get h]
  rfl
theorem tasksC_rank {K : Nat → Nat} {r : Nat → Int} {n i : Nat} (h : i < n) : rank n (dlT (tasksC K r n)) i = i := by
  have h2 : (List.range n).countP (fun j => befB (dlT (tasksC K r n)) j i) = (List.range n).countP (fun j => decide (j < i)) := by
    refine List.countP_congr (fun j hj => ?_)
    have hj2 := List.mem_range.1 hj
    rw [befB_iff]
    unfold bef
    rw [tasksC_dl hj2, tasksC_dl h]
    simp only [decide_eq_true_eq]
    omega
  unfold rank
  exact h2.trans (count_lt i n (by omega))
theorem tasksC_pr {K : Nat → Nat} {r : Nat → Int} {n i : Nat} (h : i < n) : prE (tasksC K r n) i = (n : Int) - (i : Int) := by
  unfold prE
  rw [tasksC_len, tasksC_rank h]
theorem piece_check {r : Int} (h1 : 1 ≤ r) (h2 : r ≤ 256) {k : Nat} (hk : k < 8) : checkP (pieceU r k) = (0, 0) := by
  refine bal_check (piece_bal r k) (by simp [pieceU]) (fun o ho => ?_) (by simp [pieceU])
  simp only [pieceU, List.mem_cons, List.not_mem_nil, or_false] at ho
  rcases ho with rfl | rfl | rfl
  · exact (lock_ck ⟨k, hk⟩).1
  · exact nrun h1 (by omega)
  · exact (lock_ck ⟨k, hk⟩).2
theorem piece_cost {r : Int} (h1 : 1 ≤ r) (h2 : r ≤ 256) {k : Nat} (hk : k < 8) : costD (pieceU r k) = r := by
  rw [cost_len (piece_bal r k) (taken_prog (piece_check h1 h2 hk)).2.1]
  simp [pieceU, costF, oLock, oRun, oUnl]
theorem piece_has (r : Int) (k q : Nat) : (locksD (pieceU r k)).contains (q : Int) = decide (q = k) := by
  rw [Bool.eq_iff_iff, List.contains_iff_mem, locksD_mem]
  have hp : lockNs (pieceU r k) = [(k : Int)] := by simp [pieceU, lockNs, oLock, oRun, oUnl]
  rw [hp, List.mem_singleton, decide_eq_true_eq]
  omega
theorem tasksC_has {K : Nat → Nat} {r : Nat → Int} {n i q : Nat} (h : i < n) : hasK (tasksC K r n) q i = decide (q = K i) := by
  unfold hasK
  rw [tasksC_get h]
  exact piece_has (r i) (K i) q
theorem secC {K : Nat → Nat} {r : Nat → Int} (hK : ∀ i, K i < 4) (h1 : ∀ i, 1 ≤ r i ∧ r i ≤ 256) {n i q : Nat} (hi : i < n) : secV (q : Int) (fun j => pieceU (r j) (K j)) (tasksC K r n) i = if q = K i then r i else 0 := by
  unfold secV
  rw [tasksC_get hi]
  have hr := h1 i
  show min (secGo (q : Int) 0 0 (pieceU (r i) (K i))) (min (costD (pieceU (r i) (K i))) 300) = _
  rw [piece_cost hr.1 hr.2 (by have := hK i; omega), piece_sec]
  split <;> omega
theorem ceilV_ex {E : Nat → Int} {h : Nat → Bool} {x : Int} (hx : 0 < x) : ∀ n, x ≤ ceilV E h n ↔ ∃ j, j < n ∧ h j = true ∧ x ≤ E j
  | 0 => by simp [ceilV]; omega
  | n + 1 => by
    have ih := ceilV_ex (E := E) (h := h) hx n
    rw [ceilV]
    constructor
    · intro hh
      split at hh
      · rename_i hn
        by_cases e : x ≤ E n
        · exact ⟨n, by omega, hn, e⟩
        · obtain ⟨j, h1, h2, h3⟩ := ih.1 (by omega)
          exact ⟨j, by omega, h2, h3⟩
      · obtain ⟨j, h1, h2, h3⟩ := ih.1 hh
        exact ⟨j, by omega, h2, h3⟩
    · rintro ⟨j, h1, h2, h3⟩
      by_cases e : j = n
      · subst e
        rw [if_pos h2]
        omega
      · have := ih.2 ⟨j, by omega, h2, h3⟩
        split <;> omega
/-- Has one of the first j the lock of task k? -/
def grC (K : Nat → Nat) (k : Nat) : Nat → Bool
  | 0 => false
  | j + 1 => grC K k j || decide (K j = K k)
theorem grC_iff (K : Nat → Nat) (k : Nat) : ∀ j, grC K k j = true ↔ ∃ i, i < j ∧ K i = K k
  | 0 => by simp [grC]
  | j + 1 => by
    rw [grC, Bool.or_eq_true, grC_iff K k j, decide_eq_true_eq]
    constructor
    · rintro (⟨i, h1, h2⟩ | h)
      · exact ⟨i, by omega, h2⟩
      · exact ⟨j, by omega, h⟩
    · rintro ⟨i, h1, h2⟩
      by_cases e : i = j
      · subst e; exact .inr h2
      · exact .inl ⟨i, by omega, h2⟩
/-- What is wanted of task i, by the tasks below k. -/
def wantC (K : Nat → Nat) (r : Nat → Int) (i k : Nat) : Int := upK (fun k => decide (i < k) && grC K k (i + 1)) r 0 k
theorem wantC_zero (K : Nat → Nat) (r : Nat → Int) (i : Nat) : wantC K r i (i + 1) = 0 := by
  refine le_ext (fun x => ?_)
  unfold wantC
  rw [upK_le]
  constructor
  · exact fun h => h.1
  · refine fun h => ⟨h, fun k hk hc => ?_⟩
    simp only [Bool.and_eq_true, decide_eq_true_eq] at hc
    omega
theorem wantC_next (K : Nat → Nat) (r : Nat → Int) {i k : Nat} (h : i < k) : wantC K r i (k + 1) = if grC K k (i + 1) = true then max (wantC K r i k) (r k) else wantC K r i k := by
  unfold wantC
  rw [upK]
  simp [h]
theorem wantC_bd (K : Nat → Nat) {r : Nat → Int} (h1 : ∀ i, 1 ≤ r i ∧ r i ≤ 256) (i k : Nat) : 0 ≤ wantC K r i k ∧ wantC K r i k ≤ 256 := by
  unfold wantC
  exact ⟨upK_ge _ _ _ _, (upK_le _ _ _ _ _).2 ⟨by omega, fun k _ _ => (h1 k).2⟩⟩
theorem chain_eq {K : Nat → Nat} {r : Nat → Int} (hK : ∀ i, K i < 4) (h1 : ∀ i, 1 ≤ r i ∧ r i ≤ 256) {n i : Nat} (hi : i < n) :
    blkN n (prE (tasksC K r n)) (fun q => ceilV (prE (tasksC K r n)) (hasK (tasksC K r n) q) n) (fun q => secV (q : Int) (fun j => pieceU (r j) (K j)) (tasksC K r n)) i 4 = wantC K r i n := by
  refine le_ext (fun x => ?_)
  rw [blkN_le]
  unfold wantC
  rw [upK_le]
  have hpi := tasksC_pr (K := K) (r := r) hi
  constructor
  · rintro ⟨h0, h2⟩
    refine ⟨h0, fun k hk hc => ?_⟩
    simp only [Bool.and_eq_true, decide_eq_true_eq, grC_iff] at hc
    obtain ⟨hik, j, hj, hjk⟩ := hc
    have hpk := tasksC_pr (K := K) (r := r) hk
    have h3 := h2 (K k) k (hK k) hk (by rw [hpi, hpk]; omega) ((ceilV_ex (by rw [hpi]; omega) n).2 ⟨j, by omega, by rw [tasksC_has (by omega)]; simp [hjk], by rw [hpi, tasksC_pr (by omega)]; omega⟩)
    rw [secC hK h1 hk, if_pos rfl] at h3
    exact h3
  · rintro ⟨h0, h2⟩
    refine ⟨h0, fun q k hq hk hp hc => ?_⟩
    have hpk := tasksC_pr (K := K) (r := r) hk
    rw [hpi, hpk] at hp
    rw [secC hK h1 hk]
    split
    · rename_i e
      obtain ⟨j, hj, h3, h4⟩ := (ceilV_ex (by rw [hpi]; omega) n).1 hc
      rw [tasksC_has hj, decide_eq_true_eq] at h3
      rw [hpi, tasksC_pr hj] at h4
      refine h2 k hk ?_
      simp only [Bool.and_eq_true, decide_eq_true_eq, grC_iff]
      exact ⟨by omega, j, by omega, by omega⟩
    · exact h0
end Go.Proofs.YtcbpbidimocpjaaDoor
