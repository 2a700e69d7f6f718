/- Rows of texts: what a slice shows, rows of the call's own, append; the library's variables. -/
import Derived.Test.YtiiddfahpddffaaDoorAsk
import Derived.Test.YtiiddfahpddffaaDoorOpT
namespace Go.Proofs.YtiiddfahpddffaaDoor
open Go.RowKit

/-- A row of the table of the Kinds, cell by cell. -/
def shV (s : ShapeD) : List Value := [.string (B s.word), .bool s.hasN, .bool s.hasV, .bool s.waits, .bool s.picks, .int .i64 s.least, .int .i64 s.most]
/-- What the library's variables and the table of the Kinds hold. -/
structure Rdy (w : World) : Prop where
  m : ∃ m, w.cell? ⟨2, 0, none⟩ = some (.int .i64 m)
  tab : Lib.TabIs Tryd.prog w "internal/strconv.uint64pow10" .u64 Lib.pow10Tab
  er : ∃ tp p, w.var? Tryd.prog "strconv.ErrRange" = some #[.iface tp p]
  sh : ∀ k, k ≤ 9 → ∀ i v, (shV (shapeOf k))[i]? = some v → w.cell? ⟨0, k * 7 + i, none⟩ = some v

theorem gTab : Tryd.prog.globalNamed "internal/strconv.uint64pow10" = some 1 := by kernel_rfl
theorem gErr : Tryd.prog.globalNamed "strconv.ErrRange" = some 6 := by kernel_rfl
theorem var_lt {w : World} {n : String} {g : Nat} {cs : Array Value} (hg : Tryd.prog.globalNamed n = some g) (h : w.var? Tryd.prog n = some cs) : g < w.heap.size := by
  by_cases hl : g < w.heap.size
  · exact hl
  · have : w.heap[g]? = none := Array.getElem?_eq_none (by omega)
    simp [World.var?, hg, this] at h
theorem Rdy.kept {w w' : World} (h : Rdy w) (k : Kept w w') : Rdy w' := by
  refine ⟨?_, ?_, ?_, fun j hj i v hv => k.cell (h.sh j hj i v hv)⟩
  · obtain ⟨m, hm⟩ := h.m
    exact ⟨m, k.cell hm⟩
  · exact var?_below k gTab (var_lt gTab h.tab) h.tab
  · obtain ⟨tp, p, hv⟩ := h.er
    exact ⟨tp, p, var?_below k gErr (var_lt gErr hv) hv⟩

def strV (l : List UInt8) : Value := .string (B l)

/-- What a slice of n texts shows. -/
def At (w : World) (a : Option Addr) (n : Nat) (l : List (List UInt8)) : Prop := l.length = n ∧ ∀ j, j < n → ∃ b f, a = some ⟨b, f, none⟩ ∧ w.cell? ⟨b, f + j, none⟩ = some (.string (B (l.getD j [])))
theorem At.kept {w w' : World} {a : Option Addr} {n : Nat} {l : List (List UInt8)} (h : At w a n l) (t : Kept w w') : At w' a n l := by
  refine ⟨h.1, fun j hj => ?_⟩
  obtain ⟨b, f, e, hc⟩ := h.2 j hj
  exact ⟨b, f, e, t.cell hc⟩
theorem At.none (w : World) : At w none 0 [] := ⟨rfl, fun j hj => by omega⟩

/-- A row of texts that the call owns. -/
def StrRow (base : Nat) (w : World) (v : Value) (l : List (List UInt8)) : Prop := w.ownsRow base 9 1 v l.length (l.map strV)
theorem StrRow.at {base : Nat} {w : World} {v : Value} {l : List (List UInt8)} (h : StrRow base w v l) : ∃ a c, v = .slice a l.length c ∧ At w a l.length l := by
  rcases h.2 with ⟨h1, h2⟩ | ⟨g, cap, cur, h1, _⟩
  · refine ⟨Option.none, 0, by rw [h1, h2], rfl, ?_⟩
    intro i hi; omega
  · refine ⟨some ⟨g, 0, Option.none⟩, cap, h1, rfl, ?_⟩
    intro j hj
    refine ⟨g, 0, rfl, ?_⟩
    have h' := h
    unfold StrRow at h'
    rw [h1] at h'
    rw [Nat.zero_add, h'.cellAt j (by omega), List.getElem?_map]
    simp [hj, strV]
theorem StrRow.nil (base : Nat) (w : World) : StrRow base w (.slice Option.none 0 0) [] := World.ownsRow_nil _ _ _ _
theorem own_kept {w w' : World} {base : Nat} {e : TypeId} {size : Nat} {v : Value} {n : Nat} {xs : List Value} (h : w.ownsRow base e size v n xs) (t : Kept w w') : w'.ownsRow base e size v n xs := by
  refine ⟨h.1, ?_⟩
  rcases h.2 with hn | ⟨g, cap, cur, rfl, hb, hgg, rest⟩
  · exact .inl hn
  · refine .inr ⟨g, cap, cur, rfl, hb, ?_, rest⟩
    rw [t.5 g (Array.getElem?_eq_some_iff.1 hgg).1]
    exact hgg
theorem StrRow.kept {base : Nat} {w w' : World} {v : Value} {l : List (List UInt8)} (h : StrRow base w v l) (t : Kept w w') : StrRow base w' v l := own_kept h t
theorem strs_ones (l : List (List UInt8)) : ∀ u ∈ l.map strV, u.oneCell' = true := by
  intro u hu
  simp only [List.mem_map] at hu
  obtain ⟨e, _, rfl⟩ := hu
  rfl
theorem drewN_add (w : World) (a b : Nat) : (w.drewN a).drewN b = w.drewN (a + b) := by simp [World.drewN, Nat.add_assoc]
theorem le_alloc {b0 : Nat} {w : World} (o : Obj) (h : b0 ≤ w.heap.size) : b0 ≤ (w.alloc o).heap.size := by
  have : (w.alloc o).heap.size = w.heap.size + 1 := by simp
  omega
theorem own_form {w : World} {base : Nat} {e : TypeId} {size : Nat} {v : Value} {n : Nat} {xs : List Value} (h : w.ownsRow base e size v n xs) (hv : v ≠ .slice Option.none 0 0) : ∃ g cap, v = .slice (some ⟨g, 0, Option.none⟩) n cap := by
  rcases h.2 with ⟨h1, _⟩ | ⟨g, cap, cur, h1, _⟩
  · exact absurd h1 hv
  · exact ⟨g, cap, h1⟩

theorem info9 : (Tryd.prog.info? 9).map (fun i => (i.zero, i.size, i.bytes)) = some (some (.string ⟨#[]⟩), 1, 16) := by kernel_rfl

theorem below_grown {base : Nat} {w w' : World} {v : Value} {n : Nat} {e : TypeId} {size : Nat} {xs : List Value} (hg : w.grownBy w' v.ownBlock) (hv : w.ownsRow base e size v n xs) (hB : base ≤ w.heap.size) : Below base w w' :=
  ⟨hg.os, hg.tape, hg.output, hg.size, fun k hk => hg.block k (by omega) (fun e => by have := (hv.lt k e.symm).1; omega)⟩

/-- One text behind a row of texts. -/
theorem wpList_append_str (w : World) {ops : Array Oper} {rest : List Oper} {o : Oper} {a : Act} {Q : Exit → Act → World → Prop} (hw : Region.wanted o (yielded ops a.tmps) = true) (s x : Operand)
    (ho : o.op = .call { callee := .builtin .append, args := #[s, x], argTypes := #[57, 57] })
    (base : Nat) (v1 : Value) (l1 : List (List UInt8)) (t : List UInt8) (tx : ByteArray) (htx : tx = B t) (W : World) (hw1 : w = W.alloc (.cells #[.string tx] 9)) (hs : a.eval s = v1) (nb : Nat) (hnb : nb = W.heap.size) (hx : a.eval x = .slice (some ⟨nb, 0, none⟩) 1 1) (h1 : StrRow base W v1 l1) (hl : l1.length ≤ 1000000) (hB : base ≤ W.heap.size)
    (h : ∀ g cap w', StrRow base w' (.slice (some ⟨g, 0, none⟩) (l1.length + 1) cap) (l1 ++ [t]) → Below base W w' → wpList Tryd.prog ops Q rest (a.put o.dst (.slice (some ⟨g, 0, none⟩) (l1.length + 1) cap)) w') :
    wpList Tryd.prog ops Q (o :: rest) a w := by
  subst hw1
  subst hnb
  subst htx
  refine wpList_step fun K hK => ?_
  rw [if_pos hw]
  obtain ⟨i, hi, hz0, hz1, hz2⟩ := info_parts info9
  have hc : ∀ j u, ([t].map strV)[j]? = some u → (W.alloc (.cells #[.string (B t)] 9)).cell? (Addr.add ⟨W.heap.size, 0, none⟩ j) = some u := by
    intro j u hu
    rw [Addr.add_lit, Nat.zero_add, World.cell?_alloc_at _ _ _ _ rfl]
    simpa [strV] using hu
  have h1' : (W.alloc (.cells #[.string (B t)] 9)).ownsRow base 9 1 v1 l1.length (l1.map strV) := World.ownsRow.alloc h1 _
  have hB' := le_alloc (.cells #[.string (B t)] 9) hB
  obtain ⟨v', w', hr, k1, k2, k3, k4⟩ := run_append_own_at (P := Tryd.prog) (W.alloc (.cells #[.string (B t)] 9)) base 57 o.type 9 i _ 1 16 Tryd.underlying57 hi hz0 hz1 hz2 rfl (by omega) _ l1.length (l1.map strV) h1' ⟨W.heap.size, 0, none⟩ 1 1 ([t].map strV) (by simp) hc (strs_ones [t]) (by unfold maxLen; omega) (by omega) hB'
  obtain ⟨g, cap, rfl⟩ := own_form k1 (fun e => by have := k3.1 e; have := this.2; omega)
  unfold Oper.wp
  simp [execOp, ho, resolve, invoke, builtin, hs, hx, hr, Result.andThen]
  refine hK _ _ (h g cap w' ?_ ?_)
  · unfold StrRow
    rw [List.length_append, List.map_append]
    exact k1
  · exact ((Below.refl _ W).alloc hB _).trans (below_grown k2 h1' hB')

/-- Texts that stand as they are written. -/
theorem lit_strs (w : World) (l : List (List UInt8)) (o : Array Value) (ho : o = (l.map strV).toArray) : At (w.alloc (.cells o 9)) (some ⟨w.heap.size, 0, none⟩) l.length l := by
  subst ho
  refine ⟨rfl, fun j hj => ⟨_, 0, rfl, ?_⟩⟩
  rw [Nat.zero_add, World.cell?_alloc_at _ _ _ _ rfl]
  simp [hj, strV]
end Go.Proofs.YtiiddfahpddffaaDoor
