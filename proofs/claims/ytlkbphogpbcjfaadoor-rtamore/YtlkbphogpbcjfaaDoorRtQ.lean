/- Loads made of bytes, two by two, as plain data. -/
import Derived.Test.YtlkbphogpbcjfaaDoorRtP
namespace Go.Proofs.YtlkbphogpbcjfaaDoor

/-- The loads of the first k pairs. -/
def prL (F : Int → Int → LoadD) (Z : List Int) (k : Nat) : List LoadD := (List.range k).map (fun j => F (Z.getD (2 * j) 0) (Z.getD (2 * j + 1) 0))
theorem prL_zero (F : Int → Int → LoadD) (Z : List Int) : prL F Z 0 = [] := rfl
theorem prL_len (F : Int → Int → LoadD) (Z : List Int) (k : Nat) : (prL F Z k).length = k := by simp [prL]
theorem prL_succ (F : Int → Int → LoadD) (Z : List Int) (k : Nat) : prL F Z (k + 1) = prL F Z k ++ [F (Z.getD (2 * k) 0) (Z.getD (2 * k + 1) 0)] := by
  unfold prL
  rw [List.range_succ, List.map_append]
  rfl
theorem getD_bd {Z : List Int} (hZ : ∀ z ∈ Z, 0 ≤ z ∧ z ≤ 255) (j : Nat) : 0 ≤ Z.getD j 0 ∧ Z.getD j 0 ≤ 255 := by
  rw [List.getD_eq_getElem?_getD]
  cases h : Z[j]? with
  | none => simp
  | some z => exact hZ z (List.mem_of_getElem? h)
theorem prL_mem {F : Int → Int → LoadD} {Z : List Int} {k : Nat} {P : LoadD → Prop} (hZ : ∀ z ∈ Z, 0 ≤ z ∧ z ≤ 255) (hF : ∀ x y, 0 ≤ x → x ≤ 255 → 0 ≤ y → y ≤ 255 → P (F x y)) : ∀ x ∈ prL F Z k, P x := by
  intro x hx
  obtain ⟨j, _, rfl⟩ := List.mem_map.1 hx
  have h1 := getD_bd hZ (2 * j)
  have h2 := getD_bd hZ (2 * j + 1)
  exact hF _ _ h1.1 h1.2 h2.1 h2.2
def ldA (x y : Int) : LoadD := ⟨1 + x, y⟩
def ldB (x y : Int) : LoadD := ⟨2 + x, y % 8⟩
theorem ldA_ok {Z : List Int} (hZ : ∀ z ∈ Z, 0 ≤ z ∧ z ≤ 255) (k : Nat) : ∀ x ∈ prL ldA Z k, 1 ≤ x.per ∧ 0 ≤ x.cost ∧ x.cost ≤ 255 :=
  prL_mem hZ (P := fun x => 1 ≤ x.per ∧ 0 ≤ x.cost ∧ x.cost ≤ 255) (fun x y h1 h2 h3 h4 => by simp only [ldA]; omega)
theorem ldB_ok {Z : List Int} (hZ : ∀ z ∈ Z, 0 ≤ z ∧ z ≤ 255) (k : Nat) : ∀ x ∈ prL ldB Z k, 1 ≤ x.per ∧ 0 ≤ x.cost ∧ x.cost ≤ 7 :=
  prL_mem hZ (P := fun x => 1 ≤ x.per ∧ 0 ≤ x.cost ∧ x.cost ≤ 7) (fun x y h1 h2 h3 h4 => by simp only [ldB]; omega)
/-- All costs, once. -/
def onceS (s : Int) (l : List LoadD) : Int := l.foldl (fun s x => s + x.cost) s
theorem onceS_app (s : Int) (l : List LoadD) (x : LoadD) : onceS s (l ++ [x]) = onceS s l + x.cost := by simp [onceS]
theorem sum_snoc (r s : Int) (l : List LoadD) (x : LoadD) : sumR r s (l ++ [x]) = sumR r s l + timesR r x.per * x.cost := by rw [sum_app]; rfl
/-- The shortest of all periods. -/
def leastP (s : Int) (l : List LoadD) : Int := l.foldl (fun s x => min s x.per) s
theorem leastP_app (s : Int) (l : List LoadD) (x : LoadD) : leastP s (l ++ [x]) = min (leastP s l) x.per := by simp [leastP]
theorem once_sum {r : Int} (hr : 0 < r) : ∀ (l : List LoadD) (s p : Int), r ≤ leastP p l → (∀ x ∈ l, 1 ≤ x.per ∧ 0 ≤ x.cost) → sumR r s l = onceS s l
  | [], s, p, _, _ => rfl
  | x :: l, s, p, h, hl => by
    have h1 : ∀ (l : List LoadD) (p : Int), leastP p l ≤ p := by
      intro l
      induction l with
      | nil => intro p; exact Int.le_refl _
      | cons y l ih => intro p; have := ih (min p y.per); simp only [leastP, List.foldl_cons] at this ⊢; omega
    have h2 : r ≤ leastP (min p x.per) l := h
    have h3 := h1 l (min p x.per)
    rw [sumR, times_one hr (by omega), Int.one_mul]
    exact once_sum hr l _ (min p x.per) h2 (fun y hy => hl y (List.mem_cons_of_mem _ hy))
theorem onceS_le (C : Int) : ∀ (l : List LoadD) (s : Int), (∀ x ∈ l, 1 ≤ x.per ∧ 0 ≤ x.cost ∧ x.cost ≤ C) → s ≤ onceS s l ∧ onceS s l ≤ s + l.length * C
  | [], s, _ => by simp [onceS]
  | x :: l, s, h => by
    have hx := h x (List.mem_cons_self ..)
    have ih := onceS_le C l (s + x.cost) (fun y hy => h y (List.mem_cons_of_mem _ hy))
    have h3 : ((l.length + 1 : Nat) : Int) * C = l.length * C + C := by rw [Int.natCast_add, Int.add_mul]; simp
    rw [List.length_cons, h3]
    simp only [onceS, List.foldl_cons] at ih ⊢
    omega
end Go.Proofs.YtlkbphogpbcjfaaDoor
