/- unroll. -/
import Derived.Test.YtembbhbbmkijcaaDoorCop
import Derived.Test.YtembbhbbmkijcaaDoorMat
import Derived.Test.YtembbhbbmkijcaaDoorTim2
namespace Go.Proofs.YtembbhbbmkijcaaDoor
open Go.RowKit

theorem fwd_bal {d m m' : Nat} {b g : List OpD} (h : Bal d m m' b g) : ∀ (D : Int) (i : Nat) (r : List OpD), 1 ≤ D → fwdGo D i (b ++ r) = fwdGo D (i + b.length) r := by
  induction h with
  | nil => intro D i r _; simp
  | @one d m m1 m' o p f h8 h9 _ _ ih =>
    intro D i r hD
    rw [List.cons_append, fwdGo, show dK o = 0 by unfold dK; rw [if_neg h8, if_neg h9], if_neg (by omega), Int.add_zero, ih D (i + 1) r hD]
    congr 1
    simp
    omega
  | @loop d m m' o e b g p f h8 h9 _ _ ihb ihp =>
    intro D i r hD
    rw [List.cons_append, fwdGo, show dK o = 1 by unfold dK; rw [if_pos h8], if_neg (by omega), List.append_assoc, ihb (D + 1) (i + 1) _ (by omega), List.cons_append, fwdGo, show dK e = -1 by unfold dK; rw [if_neg (by omega), if_pos h9], if_neg (by omega), show D + 1 + -1 = D by omega, ihp D _ r hD]
    congr 1
    simp
    omega
theorem match_bal {d m m' : Nat} {p b g q : List OpD} {o e : OpD} {j : Nat} (hb : Bal d m m' b g) (h8 : o.kind = 8) (h9 : e.kind = 9) (hd : p.drop j = o :: (b ++ e :: q)) : matchD p (j : Int) = ((j + 1 + b.length : Nat) : Int) := by
  have hj : j < p.length := by
    rcases Nat.lt_or_ge j p.length with h | h
    · exact h
    · rw [List.drop_eq_nil_of_le h] at hd; cases hd
  have hpj : p[j]? = some o := by
    rw [List.getElem?_eq_getElem hj]
    rw [List.drop_eq_getElem_cons hj] at hd
    rw [(List.cons.inj hd).1]
  unfold matchD
  rw [if_neg (by omega), show (j : Int).toNat = j from rfl, hpj]
  simp only
  rw [if_pos h8, hd, fwdGo, show dK o = 1 by unfold dK; rw [if_pos h8], if_neg (by omega), fwd_bal hb _ _ _ (by omega), fwdGo, show dK e = -1 by unfold dK; rw [if_neg (by omega), if_pos h9], if_pos (by omega)]
theorem wrap_at (q : Nat) (h : q ≤ 1000000) : ∀ z : Int, z = (q : Int) → IntKind.i64.wrap z = z := by
  intro z hz
  simp [IntKind.wrap, IntKind.bits, IntKind.signed]
  omega
theorem rep_succ (n : Nat) (g : List OpD) : rep (n + 1) g = rep n g ++ g := by
  unfold rep
  rw [List.replicate_succ', List.flatten_append]
  simp
theorem rep_one (g : List OpD) : rep 1 g = g := by simp [rep]
theorem rep_len (n : Nat) (g : List OpD) : (rep n g).length = n * g.length := by
  unfold rep
  simp
theorem op_few {o : OpD} (h : checkD o = 0) : o.cases.length ≤ 1000000 := by
  have ht := taken_of h
  rcases kind_cases ht.kind with hk | hk | hk | hk | hk | hk | hk | hk | hk
  all_goals
    first
    | (have := ht.many (by rw [hk]; rfl)
       omega)
    | (have hz := ht.takes
       rw [hk] at hz
       simp [takesB, shapeOf] at hz
       simp [hz])
/-- What there is in the midst of the rounds: done has i rounds more; only blocks of S have turned since w3. -/
structure Rd (w w3 wr : World) (S : Nat → Prop) (vj : Value) (p : List OpD) : Prop where
  row : ∃ svs, ORow w.heap.size wr vj p svs
  own : ∀ q, vj.ownBlock = some q → S q
  trn : Turns S w3 wr
theorem Rd.next {w w3 wr w5 : World} {S : Nat → Prop} {vj v : Value} {p p' : List OpD} (h : Rd w w3 wr S vj p) (hS : ∀ q, w3.heap.size ≤ q → S q) (r : ∃ svs, ORow w.heap.size w5 v p' svs) (ho : v.ownBlock = vj.ownBlock ∨ ∀ q, v.ownBlock = some q → wr.heap.size ≤ q) (t : Turns (fun k => vj.ownBlock = some k) wr w5) : Rd w w3 w5 S v p' := by
  refine ⟨r, fun q hq => ?_, h.trn.next t (fun i _ hi => h.own i hi)⟩
  rcases ho with ho | ho
  · rw [ho] at hq; exact h.own q hq
  · have := ho q hq
    have := h.trn.size
    exact hS q (by omega)
theorem Rd.src {w w3 wr : World} {S : Nat → Prop} {vj : Value} {p : List OpD} (h : Rd w w3 wr S vj p) {a : Option Addr} {r : List OpD} (hs : ∀ w', Turns S w3 w' → AtP w' a r) : ∀ w', Turns (fun k => vj.ownBlock = some k) wr w' → AtP w' a r := fun w' t => hs w' (h.trn.next t (fun i _ hi => h.own i hi))

theorem bal_nil {d m m' : Nat} {f : List OpD} (h : Bal d m m' [] f) : f = [] ∧ m = m' := by cases h; exact ⟨rfl, rfl⟩
theorem bal_cons {d m m' : Nat} {o : OpD} {p f : List OpD} (h : Bal d m m' (o :: p) f) : (o.kind ≠ 8 ∧ o.kind ≠ 9 ∧ ∃ m1 f', f = o :: f' ∧ Bal d m1 m' p f') ∨ (o.kind = 8 ∧ ∃ d' b g e q f', d = d' + 1 ∧ p = b ++ e :: q ∧ e.kind = 9 ∧ f = rep o.n.toNat g ++ f' ∧ Bal d' m m b g ∧ Bal d m m' q f') := by
  cases h with
  | one h8 h9 ht hp => exact .inl ⟨h8, h9, _, _, rfl, hp⟩
  | loop h8 h9 hb hp => exact .inr ⟨h8, _, _, _, _, _, _, rfl, rfl, h9, rfl, hb, hp⟩

set_option maxHeartbeats 8000000 in
set_option maxRecDepth 10000 in
theorem unroll_step (d m m' : Nat) (p f : List OpD) (a : Option Addr) (c : Nat) (w : World) (hbal : Bal d m m' p f) (hA : AtP w a p) (hcap : p.length ≤ c) (hc : ∀ o ∈ p, checkD o = 0) (hp : p.length ≤ 1000) (hf : f.length ≤ 100000)
    (ih : ∀ (d' m m' : Nat) (p f : List OpD) (a : Option Addr) (c : Nat) (w : World), d = d' + 1 → Bal d' m m' p f → AtP w a p → p.length ≤ c → (∀ o ∈ p, checkD o = 0) → p.length ≤ 1000 → f.length ≤ 100000 →
      Calls Tryd.prog 34 #[.slice a p.length c] w fun e w' => ∃ v, e = .returned v ∧ (∃ svs, ORow w.heap.size w' v f svs) ∧ Kept w w') :
    Calls Tryd.prog 34 #[.slice a p.length c] w fun e w' => ∃ v, e = .returned v ∧ (∃ svs, ORow w.heap.size w' v f svs) ∧ Kept w w' := by
  have HA : Hid (AtP w a p) := hA
  have HC : Hid (∀ o ∈ p, checkD o = 0) := hc
  have HIH : Hid (∀ (d' m m' : Nat) (p f : List OpD) (a : Option Addr) (c : Nat) (w : World), d = d' + 1 → Bal d' m m' p f → AtP w a p → p.length ≤ c → (∀ o ∈ p, checkD o = 0) → p.length ≤ 1000 → f.length ≤ 100000 → Calls Tryd.prog 34 #[.slice a p.length c] w fun e w' => ∃ v, e = .returned v ∧ (∃ svs, ORow w.heap.size w' v f svs) ∧ Kept w w') := ih
  have M0 : Hid (∃ svs, ORow w.heap.size w (.slice none 0 0) [] svs) := ⟨[], ORow.nil _ _⟩
  have HB0 : Hid (∃ mj f2, Bal d mj m' (p.drop 0) f2 ∧ f = [] ++ f2) := ⟨m, f, by rw [List.drop_zero]; exact hbal, rfl⟩
  clear hA hc hbal ih
  go_enter Tryd.func34, Tryd.ntmps34
  go_wp2_with fail
  go_loopg [3, 4] p.length (fun gk x3 i wr => ∃ (j : Nat) (vd : Value) (F1 : List OpD), vd = x3 ∧ i = .int .i64 j ∧ p.length ≤ j + gk ∧ Hid (∃ mj f2, Bal d mj m' (p.drop j) f2 ∧ f = F1 ++ f2) ∧ Hid (∃ svs, ORow w.heap.size wr vd F1 svs) ∧ Kept w wr)
  case atStart => exact ⟨0, _, [], rfl, rfl, by omega, HB0, M0, Kept.refl w⟩
  case round =>
    obtain ⟨j, vd, F1, hx3, rfl, hj, HB, HM, K⟩ := hrel
    subst hx3
    obtain ⟨wo, rfl⟩ : ∃ z, z = wr := ⟨wr, rfl⟩
    by_cases hjp : j < p.length
    · obtain ⟨b, f0, k, n, v, wt, l, ca, cc, rfl, hpj, g0, g1, g2, g3, g4, hcc, hat, hbl, hdr⟩ := HA.out.get j hjp
      have c0 := K.cell g0
      have c1 := K.cell g1
      have b1 : (j : Int) < (p.length : Int) := by omega
      have b2 : (0 : Int) ≤ (j : Int) := by omega
      have b3 : (j : Int) ≤ (j : Int) + 1 := by omega
      have b4 : (j : Int) + 1 ≤ (c : Int) := by omega
      have b5 : (j : Int) ≤ (c : Int) := by omega
      have b6 : (j : Int) + 1 ≤ (p.length : Int) := by omega
      have hjc : ¬ j = c := by omega
      have HCK : Hid (checkD ⟨k, n, v, wt, l⟩ = 0) := HC.out _ (List.mem_of_getElem? hpj)
      obtain ⟨mj, f2, hb2, hff⟩ := HB.out
      rw [hdr] at hb2
      have HD : Hid (p.drop j = ⟨k, n, v, wt, l⟩ :: p.drop (j + 1)) := hdr
      have HPJ : Hid (p[j]? = some ⟨k, n, v, wt, l⟩) := hpj
      obtain ⟨g3', rfl⟩ : ∃ g, gk = g + 1 := ⟨gk - 1, by omega⟩
      have hbw : b < w.heap.size := hbl
      clear hpj hdr hat g2 g3 g4 hcc HB
      rcases bal_cons hb2 with ⟨h8, h9, m1, f', hf2, hb3⟩ | ⟨h8, d', bb, gg, ee, qq, f', hdd, hpp, h9, hf2, hbb, hb3⟩
      · simp only at h8
        have k8 : (k == 8) = false := beq_eq_false_iff_ne.2 h8
        have HB2 : Hid (∃ mj f2, Bal d mj m' (p.drop (j + 1)) f2 ∧ f = (F1 ++ [⟨k, n, v, wt, l⟩]) ++ f2) := ⟨m1, f', hb3, by rw [hff, hf2]; simp⟩
        have hlen : F1.length + 1 ≤ 1000000 := by
          have := congrArg List.length hff
          rw [hf2] at this
          simp at this
          omega
        have HSRC : Hid (∀ w', Turns (fun q => w.heap.size ≤ q) wo w' → AtP w' (some ⟨b, f0 + j * 5, none⟩) [⟨k, n, v, wt, l⟩]) := by
          intro w' t'
          have k' : Kept w w' := t'.kept K (fun i hi => hi)
          have h := ((HA.out.kept k').drop j).take 1
          rw [HD.out] at h
          exact h
        have HR0 : Hid (Rd w wo wo (fun q => w.heap.size ≤ q) vd (F1 ++ rep 0 [⟨k, n, v, wt, l⟩])) := ⟨by simpa [rep] using HM.out, fun q hq => by obtain ⟨svs, h⟩ := HM.out; exact (h.lt q hq).1, Turns.refl _ _⟩
        have HSS : Hid (∀ q, wo.heap.size ≤ q → w.heap.size ≤ q) := fun q hq => by have := K.size; omega
        clear hb2 hb3 hf2 hff h8 h9
        go_wp2_with fail
        go_loopg [3, 41] 1 (fun gk2 y3 cnt wr => ∃ (i : Nat) (vz : Value), vz = y3 ∧ cnt = .int .i64 i ∧ i + gk2 = 1 ∧ Hid (Rd w wo wr (fun q => w.heap.size ≤ q) vz (F1 ++ rep i [⟨k, n, v, wt, l⟩])))
        case atStart => exact ⟨0, vd, rfl, rfl, by omega, HR0⟩
        case round =>
          obtain ⟨i, vz, hy3, rfl, hi, HZ⟩ := hrel
          subst hy3
          have hii : i = 0 ∨ i = 1 := by omega
          rcases hii with rfl | rfl
          · have hco := copies_any w.heap.size vz (F1 ++ rep 0 [⟨k, n, v, wt, l⟩]) (some ⟨b, f0 + j * 5, none⟩) (c - j) [⟨k, n, v, wt, l⟩] wr HZ.out.row (HZ.out.src HSRC.out) (fun o ho => by rw [List.mem_singleton.1 ho]; exact op_few HCK.out) (by simp [rep]; omega) (by have := HZ.out.trn.size; have := K.size; omega)
            rw [show ([⟨k, n, v, wt, l⟩] : List OpD).length = 1 from rfl] at hco
            go_wp2_with fail
            refine hco.mono ?_
            rintro e w5 ⟨v5, rfl, r5, o5, t5⟩
            have M5 : Hid (Rd w wo w5 (fun q => w.heap.size ≤ q) v5 (F1 ++ rep 1 [⟨k, n, v, wt, l⟩])) := by
              rw [rep_succ, ← List.append_assoc]
              exact HZ.out.next HSS.out r5 o5 t5
            go_wp2_with fail
            go_roundg 0
            case rel => exact ⟨1, v5, rfl, by go_num, by omega, M5⟩
            case measure => omega
          · have HM2 : Hid (∃ svs, ORow w.heap.size wr vz (F1 ++ [⟨k, n, v, wt, l⟩]) svs) := by
              have := HZ.out.row
              rw [rep_one] at this
              exact this
            have K2 : Kept w wr := HZ.out.trn.kept K (fun i hi => hi)
            go_wp2_with fail
            go_roundg g3'
            case rel => exact ⟨j + 1, vz, F1 ++ [⟨k, n, v, wt, l⟩], rfl, by go_num, by omega, HB2, HM2, K2⟩
            case measure => omega
      · simp only at h8
        subst h8
        obtain ⟨hn1, hn2⟩ := loop_n HCK.out
        obtain ⟨R, hR⟩ : ∃ R : Nat, n = (R : Int) := ⟨n.toNat, by omega⟩
        subst hR
        have hR1 : 1 ≤ R := by omega
        have hR32 : R ≤ 32 := by omega
        rw [show ((R : Int)).toNat = R from rfl] at hf2
        have hpl : p.length = j + 1 + bb.length + 1 + qq.length := by
          have h := congrArg List.length hpp
          simp at h
          omega
        have HMA : Hid (matchD p (j : Int) = ((j + 1 + bb.length : Nat) : Int)) := match_bal hbb rfl h9 (by rw [HD.out, hpp])
        have HDQ : Hid (p.drop (j + 1 + bb.length + 1) = qq) := by
          show _ = _
          rw [show j + 1 + bb.length + 1 = (j + 1) + (bb.length + 1) by omega, ← List.drop_drop, hpp]
          simp
        have HB2 : Hid (∃ mj f2, Bal d mj m' (p.drop (j + 1 + bb.length + 1)) f2 ∧ f = (F1 ++ rep R gg) ++ f2) := ⟨mj, f', by rw [HDQ.out]; exact hb3, by rw [hff, hf2]; simp⟩
        have hlen : F1.length + R * gg.length ≤ 100000 := by
          have h := congrArg List.length hff
          rw [hf2] at h
          simp only [List.length_append, rep_len] at h
          omega
        have hgl : gg.length ≤ R * gg.length := Nat.le_mul_of_pos_left _ hR1
        have hmem : ∀ o ∈ bb, checkD o = 0 := fun o ho => HC.out o (List.mem_of_mem_drop (i := j + 1) (by rw [hpp]; simp [ho]))
        have HGC : Hid (∀ o ∈ gg, o.cases.length ≤ 1000000) := fun o ho => op_few (hmem o (bal_mem hbb o ho).1)
        have hATb : AtP wo (some ⟨b, f0 + (j + 1) * 5, none⟩) bb := by
          have h := ((HA.out.kept K).drop (j + 1)).take bb.length
          rw [hpp, List.take_left' rfl] at h
          exact h
        have hih := HIH.out d' mj mj bb gg (some ⟨b, f0 + (j + 1) * 5, none⟩) (c - (j + 1)) wo.drew hdd hbb (hATb.kept ((Kept.refl wo).drew)) (by omega) hmem (by omega) (by omega)
        have hma := match_any (some ⟨b, f0, none⟩) c p (j : Int) wo (HA.out.kept K) (by omega) (by omega)
        rw [HMA.out] at hma
        obtain ⟨en, hen⟩ : ∃ en, j + 1 + bb.length = en := ⟨_, rfl⟩
        rw [hen] at hma HB2
        have hsub : en - (j + 1) = bb.length := by omega
        have e1 : (j : Int) + 1 ≤ (en : Int) := by omega
        have e2 : (en : Int) ≤ (c : Int) := by omega
        have e3 : (en : Int) < (p.length : Int) := by omega
        have e4 : (en : Int) ≤ (p.length : Int) := by omega
        have hjc2 : ¬ j + 1 = c := by omega
        have e0 : (0 : Int) ≤ (j : Int) + 1 := by omega
        have hjc3 : ¬ c = j + 1 := by omega
        have hwj : ∀ z : Int, z = (j : Int) + 1 → IntKind.i64.wrap z = z := wrap_at (j + 1) (by omega)
        have HEN : Hid (p.length ≤ en + 1 + g3' ∧ en + 1 ≤ p.length) := ⟨by omega, by omega⟩
        have HLEN : Hid (F1.length + R * gg.length ≤ 100000) := hlen
        have HGL : Hid (gg.length ≤ R * gg.length) := hgl
        clear hb2 hb3 hf2 hff hpp h9 hbb hmem hATb hdd hen hlen hgl hpl hn1 hn2
        go_wp2_with fail
        refine hma.mono ?_
        rintro e w4 ⟨rfl, hw4⟩
        subst w4
        go_wp2_with fail
        go_region_held3 (fun w' => w'.cell? ⟨b, f0 + j * 5 + 1, none⟩ = some (.int .i64 (R : Int))) (go_keep) (first | (go_at_call 34; refine hih.mono ?_; rintro e w3 ⟨rv, rfl, R3, t3⟩; have c31 := t3.cell (p := ⟨b, f0 + j * 5 + 1, none⟩) c1) | fail)
        obtain ⟨svsR, hR3⟩ := R3
        rw [show wo.drew.heap.size = wo.heap.size from rfl] at hR3
        obtain ⟨ra, rc, hrv, hrc, _, _⟩ := hR3.view
        subst hrv
        have KO : Kept wo w3 := ((Kept.refl wo).drew).trans t3
        have K3 : Kept w w3 := K.trans KO
        have HSZ : Hid (w.heap.size ≤ wo.heap.size ∧ wo.heap.size ≤ w3.heap.size) := ⟨K.size, KO.size⟩
        have HSRC : Hid (∀ w', Turns (fun q => w.heap.size ≤ q ∧ (q < wo.heap.size ∨ w3.heap.size ≤ q)) w3 w' → AtP w' ra gg) := by
          intro w' t'
          obtain ⟨a9, c9, e9, _, _, h9⟩ := (hR3.turns t' (fun q hq h => by omega)).view
          rw [(Value.slice.inj e9).1]
          exact h9
        have HSS : Hid (∀ q, w3.heap.size ≤ q → (w.heap.size ≤ q ∧ (q < wo.heap.size ∨ w3.heap.size ≤ q))) := fun q hq => by have := HSZ.out; omega
        have HR0 : Hid (Rd w w3 w3 (fun q => w.heap.size ≤ q ∧ (q < wo.heap.size ∨ w3.heap.size ≤ q)) vd (F1 ++ rep 0 gg)) := by
          obtain ⟨svs, h⟩ := HM.out
          refine ⟨⟨svs, ?_⟩, fun q hq => ?_, Turns.refl _ _⟩
          · have := h.kept KO
            simpa [rep] using this
          · have := h.lt q hq
            exact ⟨this.1, .inl this.2⟩
        have HLB : Hid (∀ i, i < R → (F1 ++ rep i gg).length + gg.length ≤ 1000000) := by
          intro i hi
          have h1 : (i + 1) * gg.length ≤ R * gg.length := Nat.mul_le_mul_right _ hi
          have h2 := HLEN.out
          rw [Nat.succ_mul] at h1
          rw [List.length_append, rep_len]
          omega
        clear hR3 hih hma t3 hwj
        go_wp2_with fail
        go_loopg [3, 41] R (fun gk2 y3 cnt wz => ∃ (i : Nat) (vz : Value), vz = y3 ∧ cnt = .int .i64 i ∧ i + gk2 = R ∧ Hid (Rd w w3 wz (fun q => w.heap.size ≤ q ∧ (q < wo.heap.size ∨ w3.heap.size ≤ q)) vz (F1 ++ rep i gg)))
        case atStart => exact ⟨0, vd, rfl, rfl, by omega, HR0⟩
        case round =>
          obtain ⟨i, vz, hy3, rfl, hi, HZ⟩ := hrel
          subst hy3
          by_cases hiR : i < R
          · have r1 : (i : Int) < (R : Int) := by omega
            obtain ⟨g4', rfl⟩ : ∃ g, gk = g + 1 := ⟨gk - 1, by omega⟩
            have hco := copies_any w.heap.size vz (F1 ++ rep i gg) ra rc gg wr HZ.out.row (HZ.out.src HSRC.out) HGC.out (HLB.out i hiR) (by have := HZ.out.trn.size; have := HSZ.out; omega)
            go_wp2_with fail
            refine hco.mono ?_
            rintro e w5 ⟨v5, rfl, r5, o5, t5⟩
            have M5 : Hid (Rd w w3 w5 (fun q => w.heap.size ≤ q ∧ (q < wo.heap.size ∨ w3.heap.size ≤ q)) v5 (F1 ++ rep (i + 1) gg)) := by
              rw [rep_succ, ← List.append_assoc]
              exact HZ.out.next HSS.out r5 o5 t5
            go_wp2_with fail
            go_roundg g4'
            case rel => exact ⟨i + 1, v5, rfl, by go_num, by omega, M5⟩
            case measure => omega
          · have r1 : ¬ (i : Int) < (R : Int) := by omega
            obtain rfl : i = R := by omega
            have K2 : Kept w wr := HZ.out.trn.kept K3 (fun i hi => hi.1)
            have HM2 : Hid (∃ svs, ORow w.heap.size wr vz (F1 ++ rep i gg) svs) := HZ.out.row
            go_wp2_with fail
            go_roundg g3'
            case rel => exact ⟨en + 1, vz, F1 ++ rep i gg, rfl, by go_num, by have := HEN.out; omega, HB2, HM2, K2⟩
            case measure => omega
    · have b1 : ¬ (j : Int) < (p.length : Int) := by omega
      obtain ⟨mj, f2, hb2, hff⟩ := HB.out
      rw [List.drop_eq_nil_of_le (by omega)] at hb2
      obtain ⟨rfl, _⟩ := bal_nil hb2
      rw [List.append_nil] at hff
      go_wp2_with fail
      go_ret
      exact ⟨_, rfl, HM.out, K⟩
theorem unroll_any : ∀ (d m m' : Nat) (p f : List OpD) (a : Option Addr) (c : Nat) (w : World), Bal d m m' p f → AtP w a p → p.length ≤ c → (∀ o ∈ p, checkD o = 0) → p.length ≤ 1000 → f.length ≤ 100000 →
    Calls Tryd.prog 34 #[.slice a p.length c] w fun e w' => ∃ v, e = .returned v ∧ (∃ svs, ORow w.heap.size w' v f svs) ∧ Kept w w'
  | 0, m, m', p, f, a, c, w, h1, h2, h3, h4, h5, h6 => unroll_step 0 m m' p f a c w h1 h2 h3 h4 h5 h6 (fun d' _ _ _ _ _ _ _ e => by omega)
  | d + 1, m, m', p, f, a, c, w, h1, h2, h3, h4, h5, h6 => unroll_step (d + 1) m m' p f a c w h1 h2 h3 h4 h5 h6 (fun d' m2 m3 p2 f2 a2 c2 w2 e k1 k2 k3 k4 k5 k6 => by
    obtain rfl : d' = d := by omega
    exact unroll_any d' m2 m3 p2 f2 a2 c2 w2 k1 k2 k3 k4 k5 k6)
end Go.Proofs.YtembbhbbmkijcaaDoor
