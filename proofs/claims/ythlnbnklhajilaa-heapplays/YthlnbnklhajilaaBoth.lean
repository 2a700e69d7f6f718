/- Put, Set and Remove of the heap and of the reference's heap, told alike: the answer, and who is there then. -/
import Derived.Test.YthlnbnklhajilaaRefOrder
namespace Go.Proofs.Ythlnbnklhajilaa
open Go.RowKit Hp

def Alikes (S T : List Ent) : Prop := ∀ x, x ∈ S ↔ x ∈ T
theorem Alikes.refl (S : List Ent) : Alikes S S := fun _ => Iff.rfl

def PutRel (most : Nat) (S S' : List Ent) (e : Ent) (r : Int) : Prop :=
  (knB most e.id = false ∧ r = 1 ∧ Alikes S' S) ∨ (knB most e.id = true ∧ (∃ x, x ∈ S ∧ x.id = e.id) ∧ r = 6 ∧ Alikes S' S) ∨
  (knB most e.id = true ∧ (∀ x, x ∈ S → x.id ≠ e.id) ∧ r = 0 ∧ ∀ x, x ∈ S' ↔ x ∈ S ∨ x = e)
def SetRel (most : Nat) (S S' : List Ent) (id prio : Int) (r : Int) : Prop :=
  (knB most id = false ∧ r = 1 ∧ Alikes S' S) ∨ (knB most id = true ∧ (∀ x, x ∈ S → x.id ≠ id) ∧ r = 8 ∧ Alikes S' S) ∨
  (knB most id = true ∧ ∃ y, y ∈ S ∧ y.id = id ∧ r = 0 ∧ ∀ x, x ∈ S' ↔ x = ⟨id, prio, y.seq⟩ ∨ (x ∈ S ∧ x.id ≠ id))
def RemRel (most : Nat) (S S' : List Ent) (id : Int) (r : Int) : Prop :=
  (knB most id = false ∧ r = 1 ∧ Alikes S' S) ∨ (knB most id = true ∧ (∀ x, x ∈ S → x.id ≠ id) ∧ r = 8 ∧ Alikes S' S) ∨
  (knB most id = true ∧ (∃ y, y ∈ S ∧ y.id = id) ∧ r = 0 ∧ ∀ x, x ∈ S' ↔ x ∈ S ∧ x.id ≠ id)

theorem put_same {most : Nat} {S S' T T' : List Ent} {e : Ent} {r q : Int} (h : Alikes S T) (a : PutRel most S S' e r) (b : PutRel most T T' e q) : r = q ∧ Alikes S' T' := by
  rcases a with ⟨k, rfl, ha⟩ | ⟨k, ⟨y, hy, hyi⟩, rfl, ha⟩ | ⟨k, hn, rfl, ha⟩ <;> rcases b with ⟨k', rfl, hb⟩ | ⟨k', ⟨z, hz, hzi⟩, rfl, hb⟩ | ⟨k', hm, rfl, hb⟩
  all_goals (try (rw [k] at k'; cases k'))
  · exact ⟨rfl, fun x => by rw [ha x, hb x, h x]⟩
  · exact ⟨rfl, fun x => by rw [ha x, hb x, h x]⟩
  · exact absurd hyi (hm y ((h y).1 hy))
  · exact absurd hzi (hn z ((h z).2 hz))
  · exact ⟨rfl, fun x => by rw [ha x, hb x, h x]⟩

theorem set_same {most : Nat} {S S' T T' : List Ent} {id prio : Int} {r q : Int} (u : Uniq S) (h : Alikes S T) (a : SetRel most S S' id prio r) (b : SetRel most T T' id prio q) : r = q ∧ Alikes S' T' := by
  rcases a with ⟨k, rfl, ha⟩ | ⟨k, hn, rfl, ha⟩ | ⟨k, y, hy, hyi, rfl, ha⟩ <;> rcases b with ⟨k', rfl, hb⟩ | ⟨k', hm, rfl, hb⟩ | ⟨k', z, hz, hzi, rfl, hb⟩
  all_goals (try (rw [k] at k'; cases k'))
  · exact ⟨rfl, fun x => by rw [ha x, hb x, h x]⟩
  · exact ⟨rfl, fun x => by rw [ha x, hb x, h x]⟩
  · exact absurd hzi (hn z ((h z).2 hz))
  · exact absurd hyi (hm y ((h y).1 hy))
  · have : y = z := u y hy z ((h z).2 hz) (by rw [hyi, hzi])
    subst this
    exact ⟨rfl, fun x => by rw [ha x, hb x, h x]⟩

theorem rem_same {most : Nat} {S S' T T' : List Ent} {id : Int} {r q : Int} (h : Alikes S T) (a : RemRel most S S' id r) (b : RemRel most T T' id q) : r = q ∧ Alikes S' T' := by
  rcases a with ⟨k, rfl, ha⟩ | ⟨k, hn, rfl, ha⟩ | ⟨k, ⟨y, hy, hyi⟩, rfl, ha⟩ <;> rcases b with ⟨k', rfl, hb⟩ | ⟨k', hm, rfl, hb⟩ | ⟨k', ⟨z, hz, hzi⟩, rfl, hb⟩
  all_goals (try (rw [k] at k'; cases k'))
  · exact ⟨rfl, fun x => by rw [ha x, hb x, h x]⟩
  · exact ⟨rfl, fun x => by rw [ha x, hb x, h x]⟩
  · exact absurd hzi (hn z ((h z).2 hz))
  · exact absurd hyi (hm y ((h y).1 hy))
  · exact ⟨rfl, fun x => by rw [ha x, hb x, h x]⟩

/-- Behind a call on a heap. -/
structure HeapOut (B : Nat) (w w' : World) (hb : Nat) (rv rv' : Value) (ab ac most : Nat) (row' : List Ent) : Prop where
  hp : HP B w' hb rv' ab ac most row'
  ord : Ord row'
  tu : Turns (Foot hb rv ab) w w'
  own : rv'.ownBlock = rv.ownBlock ∨ ∀ k, rv'.ownBlock = some k → w.heap.size ≤ k

theorem heap_same {B : Nat} {w : World} {hb ab ac most : Nat} {rv : Value} {row : List Ent} (h : HP B w hb rv ab ac most row) (o : Ord row) : HeapOut B w w hb rv rv ab ac most row := ⟨h, o, Turns.refl _ _, .inl rfl⟩

theorem kn_nat {most : Nat} {id : Int} (h : knB most id = true) : ∃ k : Nat, id = (k : Int) ∧ id.toNat = k ∧ k < most := by
  obtain ⟨k1, k2⟩ : 0 ≤ id ∧ id < (most : Int) := by simpa [knB] using h
  exact ⟨id.toNat, by omega, rfl, by omega⟩

theorem put_all {B : Nat} {w : World} {hb ab ac most : Nat} {rv : Value} {row : List Ent} (id prio seq : Int) (h : HP B w hb rv ab ac most row) (o : Ord row) (hB : B ≤ w.heap.size) :
    Calls Try.prog 11 #[.pointer (some ⟨hb, 0, none⟩), .int .i64 id, .int .i64 prio, .int .i64 seq] w fun e w' => ∃ r, e = .returned (.int .i64 r) ∧ ∃ rv' row', HeapOut B w w' hb rv rv' ab ac most row' ∧ PutRel most row row' ⟨id, prio, seq⟩ r := by
  cases hk : knB most id
  · refine (put_arg id prio seq h hk).mono ?_
    rintro e w' ⟨rfl, rfl⟩
    exact ⟨1, rfl, rv, row, heap_same h o, .inl ⟨hk, rfl, Alikes.refl _⟩⟩
  · obtain ⟨k, hid, hkn, _⟩ := kn_nat hk
    rcases place_cases row id.toNat with ⟨hp, hn⟩ | ⟨i, hi, he, hp⟩
    · refine (put_ok id prio seq h hk hp hB).mono ?_
      rintro e w' ⟨rfl, rv', h', t', own'⟩
      refine ⟨0, rfl, rv', putR row ⟨id, prio, seq⟩, ⟨h', putR_ord o _, t', own'⟩, .inr (.inr ⟨hk, ?_, rfl, putR_mem row _⟩)⟩
      intro x hx
      obtain ⟨j, hj, rfl⟩ := mem_at hx
      have := hn j hj
      show _ ≠ id
      omega
    · refine (put_twice id prio seq h hk (by rw [hp]; omega)).mono ?_
      rintro e w' ⟨rfl, rfl⟩
      exact ⟨6, rfl, rv, row, heap_same h o, .inr (.inl ⟨hk, ⟨at' row i, at_mem hi, by show _ = id; omega⟩, rfl, Alikes.refl _⟩)⟩

theorem set_all {B : Nat} {w : World} {hb ab ac most : Nat} {rv : Value} {row : List Ent} (id prio : Int) (h : HP B w hb rv ab ac most row) (o : Ord row) :
    Calls Try.prog 13 #[.pointer (some ⟨hb, 0, none⟩), .int .i64 id, .int .i64 prio] w fun e w' => ∃ r, e = .returned (.int .i64 r) ∧ ∃ rv' row', HeapOut B w w' hb rv rv' ab ac most row' ∧ SetRel most row row' id prio r := by
  cases hk : knB most id
  · refine (set_arg id prio h hk).mono ?_
    rintro e w' ⟨rfl, rfl⟩
    exact ⟨1, rfl, rv, row, heap_same h o, .inl ⟨hk, rfl, Alikes.refl _⟩⟩
  · obtain ⟨k, hid, hkn, _⟩ := kn_nat hk
    rcases place_cases row id.toNat with ⟨hp, hn⟩ | ⟨i, hi, he, hp⟩
    · refine (set_none id prio h hk hp).mono ?_
      rintro e w' ⟨rfl, rfl⟩
      refine ⟨8, rfl, rv, row, heap_same h o, .inr (.inl ⟨hk, ?_, rfl, Alikes.refl _⟩)⟩
      intro x hx
      obtain ⟨j, hj, rfl⟩ := mem_at hx
      have := hn j hj
      omega
    · refine (set_ok id prio i h hk hp hi).mono ?_
      rintro e w' ⟨rfl, h', t'⟩
      have hid' : (at' row i).id = id := by omega
      refine ⟨0, rfl, rv, setR row i prio, ⟨h', setR_ord o i prio hi, t', .inl rfl⟩, .inr (.inr ⟨hk, at' row i, at_mem hi, hid', rfl, ?_⟩)⟩
      intro x
      rw [setR_mem h.good i prio hi, hid']

theorem rem_all {B : Nat} {w : World} {hb ab ac most : Nat} {rv : Value} {row : List Ent} (id : Int) (h : HP B w hb rv ab ac most row) (o : Ord row) :
    Calls Try.prog 15 #[.pointer (some ⟨hb, 0, none⟩), .int .i64 id] w fun e w' => ∃ r, e = .returned (.int .i64 r) ∧ ∃ rv' row', HeapOut B w w' hb rv rv' ab ac most row' ∧ RemRel most row row' id r := by
  cases hk : knB most id
  · refine (remove_arg id h hk).mono ?_
    rintro e w' ⟨rfl, rfl⟩
    exact ⟨1, rfl, rv, row, heap_same h o, .inl ⟨hk, rfl, Alikes.refl _⟩⟩
  · obtain ⟨k, hid, hkn, _⟩ := kn_nat hk
    rcases place_cases row id.toNat with ⟨hp, hn⟩ | ⟨i, hi, he, hp⟩
    · refine (remove_none id h hk hp).mono ?_
      rintro e w' ⟨rfl, rfl⟩
      refine ⟨8, rfl, rv, row, heap_same h o, .inr (.inl ⟨hk, ?_, rfl, Alikes.refl _⟩)⟩
      intro x hx
      obtain ⟨j, hj, rfl⟩ := mem_at hx
      have := hn j hj
      omega
    · have hid' : (at' row i).id = id := by omega
      refine (remove_ok id i h hk hp hi hid').mono ?_
      rintro e w' ⟨rfl, rv', h', t', own'⟩
      refine ⟨0, rfl, rv', remR row i, ⟨h', remR_ord o i hi, t', .inl own'⟩, .inr (.inr ⟨hk, ⟨at' row i, at_mem hi, hid'⟩, rfl, ?_⟩)⟩
      intro x
      have hp' := remR_perm row i hi
      have hnd := hp'.nodup_iff.1 (good_nodup h.good)
      rw [List.nodup_cons] at hnd
      have hm := hp'.mem_iff (a := x)
      rw [List.mem_cons] at hm
      constructor
      · intro hx
        have hxr := hm.2 (.inr hx)
        refine ⟨hxr, fun e => hnd.1 ?_⟩
        have : x = at' row i := good_uniq h.good x hxr _ (at_mem hi) (by rw [e, hid'])
        rw [← this]; exact hx
      · rintro ⟨hx, hne⟩
        rcases hm.1 hx with rfl | hx'
        · exact absurd hid' hne
        · exact hx'

/-- Behind a call on the reference's heap. -/
structure RefOut (B : Nat) (w w' : World) (mb : Nat) (lv lv' : Value) (most : Nat) (l' : List Ent) : Prop where
  rp : RP B w' mb lv' most l'
  tu : Turns (fun k => k = mb) w w'
  own : lv'.ownBlock = lv.ownBlock ∨ ∀ k, lv'.ownBlock = some k → w.heap.size ≤ k

theorem ref_same {B : Nat} {w : World} {mb most : Nat} {lv : Value} {l : List Ent} (h : RP B w mb lv most l) : RefOut B w w mb lv lv most l := ⟨h, Turns.refl _ _, .inl rfl⟩

theorem find_no {l : List Ent} {id : Int} (h : ∀ i, i < l.length → (at' l i).id ≠ id) : ∀ x, x ∈ l → x.id ≠ id := by
  intro x hx
  obtain ⟨j, hj, rfl⟩ := mem_at hx
  exact h j hj

theorem rput_all {B : Nat} {w : World} {mb most : Nat} {lv : Value} {l : List Ent} (id prio seq : Int) (h : RP B w mb lv most l) (hB : B ≤ w.heap.size) :
    Calls Try.prog 12 #[.pointer (some ⟨mb, 0, none⟩), .int .i64 id, .int .i64 prio, .int .i64 seq] w fun e w' => ∃ r, e = .returned (.int .i64 r) ∧ ∃ lv' l', RefOut B w w' mb lv lv' most l' ∧ PutRel most l l' ⟨id, prio, seq⟩ r := by
  cases hk : knB most id
  · refine (rput_arg id prio seq h hk).mono ?_
    rintro e w' ⟨rfl, rfl⟩
    exact ⟨1, rfl, lv, l, ref_same h, .inl ⟨hk, rfl, Alikes.refl _⟩⟩
  · rcases findL_cases l id with ⟨hf, hn⟩ | ⟨i, hi, he, hf, _⟩
    · refine (rput_ok id prio seq h hk hf hB).mono ?_
      rintro e w' ⟨rfl, lv', h', t', own'⟩
      exact ⟨0, rfl, lv', _, ⟨h', t', .inr own'⟩, .inr (.inr ⟨hk, find_no hn, rfl, fun x => by simp⟩)⟩
    · refine (rput_twice id prio seq h hk (by rw [hf]; omega)).mono ?_
      rintro e w' ⟨rfl, rfl⟩
      exact ⟨6, rfl, lv, l, ref_same h, .inr (.inl ⟨hk, ⟨at' l i, at_mem hi, he⟩, rfl, Alikes.refl _⟩)⟩

theorem setPrio_mem {most : Nat} {l : List Ent} (g : Hp.Good most l) (k : Nat) (v : Int) (hk : k < l.length) (x : Ent) : x ∈ setPrio l k v ↔ x = ⟨(at' l k).id, v, (at' l k).seq⟩ ∨ (x ∈ l ∧ x.id ≠ (at' l k).id) := by
  rw [← (setR_perm l k v hk).mem_iff]
  exact setR_mem g k v hk x

theorem rset_all {B : Nat} {w : World} {mb most : Nat} {lv : Value} {l : List Ent} (id prio : Int) (h : RP B w mb lv most l) (hB : B ≤ w.heap.size) :
    Calls Try.prog 14 #[.pointer (some ⟨mb, 0, none⟩), .int .i64 id, .int .i64 prio] w fun e w' => ∃ r, e = .returned (.int .i64 r) ∧ ∃ lv' l', RefOut B w w' mb lv lv' most l' ∧ SetRel most l l' id prio r := by
  cases hk : knB most id
  · refine (rset_arg id prio h hk).mono ?_
    rintro e w' ⟨rfl, rfl⟩
    exact ⟨1, rfl, lv, l, ref_same h, .inl ⟨hk, rfl, Alikes.refl _⟩⟩
  · rcases findL_cases l id with ⟨hf, hn⟩ | ⟨i, hi, he, hf, _⟩
    · refine (rset_none id prio h hk hf).mono ?_
      rintro e w' ⟨rfl, rfl⟩
      exact ⟨8, rfl, lv, l, ref_same h, .inr (.inl ⟨hk, find_no hn, rfl, Alikes.refl _⟩)⟩
    · refine (rset_ok id prio i h hk hf hi hB).mono ?_
      rintro e w' ⟨rfl, lv', h', t', own'⟩
      refine ⟨0, rfl, lv', _, ⟨h', t', .inr own'⟩, .inr (.inr ⟨hk, at' l i, at_mem hi, he, rfl, ?_⟩)⟩
      intro x
      rw [setPrio_mem h.good i prio hi, he]

theorem rrem_all {B : Nat} {w : World} {mb most : Nat} {lv : Value} {l : List Ent} (id : Int) (h : RP B w mb lv most l) (hB : B ≤ w.heap.size) :
    Calls Try.prog 16 #[.pointer (some ⟨mb, 0, none⟩), .int .i64 id] w fun e w' => ∃ r, e = .returned (.int .i64 r) ∧ ∃ lv' l', RefOut B w w' mb lv lv' most l' ∧ RemRel most l l' id r := by
  cases hk : knB most id
  · refine (rrem_arg id h hk).mono ?_
    rintro e w' ⟨rfl, rfl⟩
    exact ⟨1, rfl, lv, l, ref_same h, .inl ⟨hk, rfl, Alikes.refl _⟩⟩
  · rcases findL_cases l id with ⟨hf, hn⟩ | ⟨i, hi, he, hf, _⟩
    · refine (rrem_none id h hk hf).mono ?_
      rintro e w' ⟨rfl, rfl⟩
      exact ⟨8, rfl, lv, l, ref_same h, .inr (.inl ⟨hk, find_no hn, rfl, Alikes.refl _⟩)⟩
    · refine (rrem_ok id i h hk hf hi hB).mono ?_
      rintro e w' ⟨rfl, lv', h', t', own'⟩
      refine ⟨0, rfl, lv', _, ⟨h', t', .inr own'⟩, .inr (.inr ⟨hk, ⟨at' l i, at_mem hi, he⟩, rfl, ?_⟩)⟩
      intro x
      rw [cutAt_mem h.good i hi, he]
end Go.Proofs.Ythlnbnklhajilaa
