/- What the round of HeapPlays keeps. -/
import Derived.Test.YthlnbnklhajilaaBoth
namespace Go.Proofs.Ythlnbnklhajilaa
open Go.RowKit Hp

structure ActD where
  op : Int
  id : Int
  prio : Int
  seq : Int

/-- Two heaps, one of them the reference's, that share no block. -/
def DjR (hb : Nat) (rv : Value) (ab mb : Nat) (lv : Value) : Prop := ∀ k, Foot hb rv ab k → ¬ FootR mb lv k

/-- The heap and the reference's heap tell the same. -/
structure Both (B : Nat) (w0 w : World) (hb : Nat) (rv : Value) (ab ac : Nat) (mb : Nat) (lv : Value) (most : Nat) (row l : List Ent) : Prop where
  hp : HP B w hb rv ab ac most row
  ord : Ord row
  rp : RP B w mb lv most l
  al : Alikes row l
  dj : DjR hb rv ab mb lv
  tu : Turns (fun _ => False) w0 w

theorem Both.turns {B : Nat} {w0 w w' : World} {hb : Nat} {rv : Value} {ab ac mb : Nat} {lv : Value} {most : Nat} {row l : List Ent} (h : Both B w0 w hb rv ab ac mb lv most row l) (t : Turns (fun _ => False) w w') : Both B w0 w' hb rv ab ac mb lv most row l :=
  ⟨h.hp.turns t (fun _ h => h.elim), h.ord, h.rp.turns t (fun _ h => h.elim), h.al, h.dj, h.tu.trans t⟩

/-- The four cells of an Act that the round has laid. -/
structure ActAt (w : World) (g : Nat) (a : ActD) : Prop where
  c1 : w.cell? ⟨g, 1, none⟩ = some (.int .i64 a.id)
  c2 : w.cell? ⟨g, 2, none⟩ = some (.int .i64 a.prio)
  c3 : w.cell? ⟨g, 3, none⟩ = some (.int .i64 a.seq)

theorem ActAt.turns {w w' : World} {g : Nat} {a : ActD} {S : Nat → Prop} (h : ActAt w g a) (t : Turns S w w') (hS : ¬ S g) : ActAt w' g a :=
  ⟨t.cell h.c1 (cell_lt h.c1) hS, t.cell h.c2 (cell_lt h.c2) hS, t.cell h.c3 (cell_lt h.c3) hS⟩

/-- Whatever block lies behind both heaps. -/
theorem Both.far {B : Nat} {w0 w : World} {hb : Nat} {rv : Value} {ab ac mb : Nat} {lv : Value} {most : Nat} {row l : List Ent} (h : Both B w0 w hb rv ab ac mb lv most row l) {g : Nat} (hg : w.heap.size ≤ g) : ¬ Foot hb rv ab g ∧ ¬ FootR mb lv g := by
  refine ⟨fun hf => ?_, fun hf => ?_⟩
  · have := (h.hp.foot g hf).2; omega
  · have := (h.rp.foot g hf).2; omega

theorem dj_own {B : Nat} {w : World} {hb : Nat} {rv rv' : Value} {ab mb most : Nat} {lv : Value} {l : List Ent} (d : DjR hb rv ab mb lv) (r : RP B w mb lv most l) (o : rv'.ownBlock = rv.ownBlock ∨ ∀ k, rv'.ownBlock = some k → w.heap.size ≤ k) : DjR hb rv' ab mb lv := by
  intro k hk hf
  rcases hk with hk | hk | hk
  · exact d k (.inl hk) hf
  · exact d k (.inr (.inl hk)) hf
  · rcases o with o | o
    · exact d k (.inr (.inr (by rw [← o]; exact hk))) hf
    · have := o k hk
      have := (r.foot k hf).2
      omega

theorem Both.heap {B : Nat} {w0 w w' : World} {hb : Nat} {rv rv' : Value} {ab ac mb : Nat} {lv : Value} {most : Nat} {row row' l : List Ent} (h : Both B w0 w hb rv ab ac mb lv most row l) (hB : w0.heap.size ≤ B) (o : HeapOut B w w' hb rv rv' ab ac most row') :
    RP B w' mb lv most l ∧ DjR hb rv' ab mb lv ∧ Turns (fun _ => False) w0 w' :=
  ⟨h.rp.turns o.tu h.dj, dj_own h.dj h.rp o.own, h.hp.frame hB h.tu o.tu⟩

theorem both_next {B : Nat} {w0 w w4 w5 : World} {hb : Nat} {rv rv4 : Value} {ab ac mb : Nat} {lv lv5 : Value} {most : Nat} {row row4 l l5 : List Ent} (h : Both B w0 w hb rv ab ac mb lv most row l) (hB : w0.heap.size ≤ B) (o4 : HeapOut B w w4 hb rv rv4 ab ac most row4) (o5 : RefOut B w4 w5 mb lv lv5 most l5) (al : Alikes row4 l5) :
    Both B w0 w5 hb rv4 ab ac mb lv5 most row4 l5 := by
  obtain ⟨r4, d4, t4⟩ := h.heap hB o4
  have hmb : ¬ Foot hb rv4 ab mb := fun hf => d4 mb hf (.inl rfl)
  refine ⟨o4.hp.turns o5.tu (fun k e hf => hmb (by rw [← e]; exact hf)), o4.ord, o5.rp, al, ?_, t4.next o5.tu (fun k hk e => by have := (r4.foot mb (.inl rfl)).1; omega)⟩
  intro k hk hf
  rcases hf with rfl | hf
  · exact hmb hk
  · rcases o5.own with o | o
    · exact d4 k hk (.inr (by rw [← o]; exact hf))
    · have := o k hf
      have := (o4.hp.foot k hk).2
      omega

/-- Behind the twin: the twin in the heap's place, whatever is done to the heap. -/
theorem both_twin {B : Nat} {w0 w w4 w5 w6 : World} {hb hb' : Nat} {rv rv' rv5 rv6 : Value} {ab ac ab' ac' mb : Nat} {lv : Value} {most : Nat} {row row5 row6 l : List Ent} (h : Both B w0 w hb rv ab ac mb lv most row l) (hB : w0.heap.size ≤ B) (t : TwinOut B w w4 hb' ab' ac' most rv' row)
    (o5 : HeapOut B w4 w5 hb rv rv5 ab ac most row5) (o6 : HeapOut B w5 w6 hb rv5 rv6 ab ac most row6) : Both B w0 w6 hb' rv' ab' ac' mb lv most row l := by
  have h4 := h.turns t.tu
  obtain ⟨r5, d5, t5⟩ := h4.heap hB o5
  have f4 := h.hp.foot
  have n4 : ∀ k, Foot hb rv ab k → ¬ Foot hb' rv' ab' k := by
    intro k hk hf
    have := (f4 k hk).2
    have := t.lo k hf
    omega
  have p5 := t.hp.turns o5.tu n4
  have n5 : ∀ k, Foot hb rv5 ab k → ¬ Foot hb' rv' ab' k := by
    intro k hk hf
    rcases hk with hk | hk | hk
    · exact n4 k (.inl hk) hf
    · exact n4 k (.inr (.inl hk)) hf
    · rcases o5.own with o | o
      · exact n4 k (.inr (.inr (by rw [← o]; exact hk))) hf
      · have := o k hk
        have := (t.hp.foot k hf).2
        omega
  have p6 := p5.turns o6.tu n5
  have r6 := r5.turns o6.tu d5
  refine ⟨p6, h.ord, r6, h.al, ?_, o5.hp.frame hB t5 o6.tu⟩
  intro k hk hf
  have := t.lo k hk
  have := (h.rp.foot k hf).2
  omega

/-- The one that goes first is told alike. -/
theorem top_same {B : Nat} {w0 w : World} {hb : Nat} {rv : Value} {ab ac mb : Nat} {lv : Value} {most : Nat} {row l : List Ent} (h : Both B w0 w hb rv ab ac mb lv most row l) (hn : 0 < row.length) {b : Ent} (hb1 : b ∈ l) (hb2 : ∀ x, x ∈ l → ahd x b = false) : b = at' row 0 := by
  have h1 : at' row 0 ∈ row := at_mem hn
  have h2 : b ∈ row := (h.al b).2 hb1
  obtain ⟨i, hi, he⟩ := mem_at h2
  have e1 := ord_head row h.ord i hi
  rw [← he] at e1
  have e2 := hb2 _ ((h.al _).1 h1)
  by_cases hid : b.id = (at' row 0).id
  · exact good_uniq h.hp.good b h2 _ h1 hid
  · rcases ahd_total hid with e | e
    · rw [e1] at e; cases e
    · rw [e2] at e; cases e

theorem len_same {B : Nat} {w0 w : World} {hb : Nat} {rv : Value} {ab ac mb : Nat} {lv : Value} {most : Nat} {row l : List Ent} (h : Both B w0 w hb rv ab ac mb lv most row l) : row.length = l.length :=
  ((List.perm_ext_iff_of_nodup (good_nodup h.hp.good) (good_nodup h.rp.good)).2 h.al).length_eq

theorem has_same {B : Nat} {w0 w : World} {hb : Nat} {rv : Value} {ab ac mb : Nat} {lv : Value} {most : Nat} {row l : List Ent} (h : Both B w0 w hb rv ab ac mb lv most row l) (id : Int) : hasB most row id = decide (0 ≤ findL l id) := by
  cases hk : knB most id
  · have : ¬ 0 ≤ findL l id := by
      rcases findL_cases l id with ⟨hf, _⟩ | ⟨i, hi, he, _, _⟩
      · omega
      · have h1 := h.rp.good.lo i hi
        have h2 := h.rp.good.hi i hi
        rw [he] at h1 h2
        simp [knB] at hk
        omega
    simp [hasB, hk, this]
  · obtain ⟨k, hid, hkn, _⟩ := kn_nat hk
    rcases findL_cases l id with ⟨hf, hn⟩ | ⟨i, hi, he, hf, _⟩
    · have hp : place row id.toNat = 0 := by
        apply place_zero
        intro x hx e
        exact find_no hn x ((h.al x).1 hx) (by rw [e]; omega)
      simp [hasB, hp, hf]
    · have hm := (h.al _).2 (at_mem hi)
      have h0 := h.rp.good.lo i hi
      have hp := place_mem hm h0
      rw [he] at hp
      simp [hasB, hk, hp, hf]

theorem order_same {B : Nat} {w0 w : World} {hb : Nat} {rv : Value} {ab ac mb : Nat} {lv : Value} {most : Nat} {row l T : List Ent} (h : Both B w0 w hb rv ab ac mb lv most row l) (s : SortedOf l T) : drn row.length row = T :=
  drain_is h.hp.good h.ord s.ord s.nd (fun x => by rw [s.mem x]; exact h.al x)

/-- What Top tells of S. -/
def TopRel (S : List Ent) (x : Int) (ok : Bool) : Prop := (S = [] ∧ x = 0 ∧ ok = false) ∨ ∃ b, b ∈ S ∧ (∀ y, y ∈ S → ahd y b = false) ∧ x = b.id ∧ ok = true

theorem top_all {B : Nat} {w : World} {hb ab ac most : Nat} {rv : Value} {row : List Ent} (h : HP B w hb rv ab ac most row) (o : Ord row) :
    Calls Try.prog 18 #[.pointer (some ⟨hb, 0, none⟩)] w fun e w' => ∃ x ok, e = .returned (.tuple #[.int .i64 x, .bool ok]) ∧ w' = w ∧ TopRel row x ok := by
  by_cases hz : row = []
  · subst hz
    refine (top_none h).mono ?_
    rintro e w' ⟨rfl, rfl⟩
    exact ⟨0, false, rfl, rfl, .inl ⟨rfl, rfl, rfl⟩⟩
  · have hpos : 0 < row.length := List.length_pos_iff.2 hz
    refine (top_some h hpos).mono ?_
    rintro e w' ⟨rfl, rfl⟩
    refine ⟨_, true, rfl, rfl, .inr ⟨at' row 0, at_mem hpos, ?_, rfl, rfl⟩⟩
    intro y hy
    obtain ⟨i, hi, rfl⟩ := mem_at hy
    exact ord_head row o i hi

theorem rtop_all {B : Nat} {w : World} {mb most : Nat} {lv : Value} {l : List Ent} (h : RP B w mb lv most l) :
    Calls Try.prog 19 #[.pointer (some ⟨mb, 0, none⟩)] w fun e w' => ∃ x ok, e = .returned (.tuple #[.int .i64 x, .bool ok]) ∧ Turns (fun _ => False) w w' ∧ TopRel l x ok := by
  by_cases hz : l = []
  · subst hz
    refine (rtop_none h).mono ?_
    rintro e w' ⟨rfl, rfl⟩
    exact ⟨0, false, rfl, Turns.refl _ _, .inl ⟨rfl, rfl, rfl⟩⟩
  · have hpos : 0 < l.length := List.length_pos_iff.2 hz
    refine (rtop_some h hpos).mono ?_
    rintro e w' ⟨b, rfl, h1, h2, t⟩
    exact ⟨_, true, rfl, t, .inr ⟨b, h1, h2, rfl, rfl⟩⟩

theorem toprel_same {B : Nat} {w0 w : World} {hb : Nat} {rv : Value} {ab ac mb : Nat} {lv : Value} {most : Nat} {row l : List Ent} (h : Both B w0 w hb rv ab ac mb lv most row l) {x y : Int} {p q : Bool} (a : TopRel row x p) (b : TopRel l y q) : x = y ∧ p = q := by
  rcases a with ⟨e, rfl, rfl⟩ | ⟨b1, h1, h2, rfl, rfl⟩ <;> rcases b with ⟨e', rfl, rfl⟩ | ⟨b2, h3, h4, rfl, rfl⟩
  · exact ⟨rfl, rfl⟩
  · subst e; have := (h.al b2).2 h3; cases this
  · subst e'; have := (h.al b1).1 h1; cases this
  · have e1 := h4 b1 ((h.al b1).1 h1)
    have e2 := h2 b2 ((h.al b2).2 h3)
    refine ⟨?_, rfl⟩
    by_cases hid : b1.id = b2.id
    · exact hid
    · rcases ahd_total hid with e | e
      · rw [e1] at e; cases e
      · rw [e2] at e; cases e

theorem lenL {B : Nat} {w0 w : World} {hb : Nat} {rv : Value} {ab ac mb : Nat} {lv : Value} {most : Nat} {row l : List Ent} (h : Both B w0 w hb rv ab ac mb lv most row l) :
    Calls Try.prog 20 #[.pointer (some ⟨hb, 0, none⟩)] w fun e w' => e = .returned (.int .i64 l.length) ∧ w' = w := by
  have := len_hp h.hp
  rw [len_same h] at this
  exact this
theorem hasL {B : Nat} {w0 w : World} {hb : Nat} {rv : Value} {ab ac mb : Nat} {lv : Value} {most : Nat} {row l : List Ent} (h : Both B w0 w hb rv ab ac mb lv most row l) (id : Int) (q : Bool) (hq : decide (0 ≤ findL l id) = q) :
    Calls Try.prog 21 #[.pointer (some ⟨hb, 0, none⟩), .int .i64 id] w fun e w' => e = .returned (.bool q) ∧ w' = w := by
  have := has_any id h.hp
  rw [has_same h, hq] at this
  exact this
theorem rhasL {B : Nat} {w : World} {mb most : Nat} {lv : Value} {l : List Ent} (h : RP B w mb lv most l) (id : Int) (q : Bool) (hq : decide (0 ≤ findL l id) = q) :
    Calls Try.prog 22 #[.pointer (some ⟨mb, 0, none⟩), .int .i64 id] w fun e w' => e = .returned (.bool q) ∧ w' = w := by
  have := rhas_any id h
  rw [hq] at this
  exact this
theorem intsL {B C : Nat} {va vb : Value} {L : List Int} {w : World} (ha : IntRow B w va L) (hb : IntRow C w vb L) (hn : L.length ≤ 1000000) :
    Calls Try.prog 23 #[va, vb] w fun e w' => e = .returned (.bool true) ∧ Turns (fun _ => False) w w' := by
  refine (ints_any ha hb hn).mono ?_
  rw [decide_eq_true rfl]
  exact fun _ _ h => h
end Go.Proofs.Ythlnbnklhajilaa
