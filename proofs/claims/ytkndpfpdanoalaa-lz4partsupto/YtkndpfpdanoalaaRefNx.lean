/-
  The document's own sequence at a place. Conditions: as it says.
-/
import Derived.Test.YtkndpfpdanoalaaRefCt
import Derived.Laws.ResultCell
import Derived.Deep.RegionWith
namespace Go.Proofs.Ytkndpfpdanoalaa
open Go.RowKit
set_option linter.unusedVariables false
/-- a part: whatever it is where there is an error -/
def partV (a b c d e f : Int) : Value := .agg #[.int .i64 a, .int .i64 b, .int .i64 c, .int .i64 d, .int .i64 e, .int .i64 f]
def NextIs (i : Nat) (p : Lz.Part) (w : World) (e : Ending) (w' : World) : Prop :=
  ∃ a b c d l f : Int, e = .returned (.tuple #[partV a b c d l f, .int .i64 (p.code : Int), .int .i64 (p.place : Int)]) ∧ (p.code = 0 → a = (i : Int) ∧ b = (p.frm : Int) ∧ c = (p.many : Int) ∧ d = (p.off : Int) ∧ l = (p.len : Int) ∧ f = (p.nxt : Int)) ∧ Below w.heap.size w w'
theorem next_err {i : Nat} {p : Lz.Part} {w w' : World} {e : Ending} (a b c d l f : Int) (code place : Nat) (hp : p.code = code ∧ p.place = place) (hq : p.code = code ∧ p.place = place) (h0 : code ≠ 0) (he : e = .returned (.tuple #[partV a b c d l f, .int .i64 (code : Int), .int .i64 (place : Int)])) (hb : Below w.heap.size w w') : NextIs i p w e w' :=
  ⟨a, b, c, d, l, f, by rw [hp.1, hp.2]; exact he, fun h => absurd (hp.1.symm.trans h) h0, hb⟩
theorem next_fine {i : Nat} {p : Lz.Part} {w w' : World} {e : Ending} (frm many off len nxt : Nat) (hp : p = ⟨0, 0, frm, many, off, len, nxt⟩) (he : e = .returned (.tuple #[partV (i : Int) (frm : Int) (many : Int) (off : Int) (len : Int) (nxt : Int), .int .i64 0, .int .i64 0])) (hb : Below w.heap.size w w') : NextIs i p w e w' := by
  subst hp
  exact ⟨_, _, _, _, _, _, he, fun _ => ⟨rfl, rfl, rfl, rfl, rfl, rfl⟩, hb⟩
set_option maxRecDepth 100000 in
set_option maxHeartbeats 4000000 in
theorem refNext_any (s : ByteArray) (i said ahead most : Nat) (w : World) (hs : s.size ≤ 140737488355328) (hi : i ≤ s.size) (hsm : said ≤ most) (hsi : said ≤ 256 * i) (hm : most ≤ 9223372036854775807) (ha : ahead ≤ 140737488355328) :
    Calls Try.prog 25 #[.string s, .int .i64 (i : Int), .int .i64 (said : Int), .int .i64 (ahead : Int), .int .i64 (most : Int)] w (NextIs i (Lz.next (Sums.bl s) i said ahead most) w) := by
  have hsl := Sums.bl_length s
  obtain ⟨p, hp⟩ : ∃ p, Lz.next (Sums.bl s) i said ahead most = p := ⟨_, rfl⟩
  rw [hp]
  by_cases hend : s.size ≤ i
  · have hI : (s.size : Int) ≤ (i : Int) := by omega
    rw [Lz.next, if_pos (by rw [hsl]; exact hend), hsl] at hp
    have HP := Hid.mk' hp
    clear hp hsl
    go_enter Try.func25, Try.ntmps25
    go_wp2
    exact bodyPost_ret (v := .tuple #[partV ((i : Int)) (0) (0) (0) (0) (0), .int .i64 30, .int .i64 (s.size : Int)]) (by simp [results, Try.results25, partV, go_sem]) rfl (next_err ((i : Int)) (0) (0) (0) (0) (0) 30 s.size (by rw [← HP.out]; exact ⟨rfl, rfl⟩) (by rw [← HP.out]; exact ⟨rfl, rfl⟩) (by decide) rfl (((Below.refl _ _).alloc (Nat.le_refl _) _).alloc (by simp) _))
  have hlt : i < s.size := by omega
  have hI : ¬ (s.size : Int) ≤ (i : Int) := by omega
  obtain ⟨b, hb⟩ : ∃ b, b = (Sums.bl s).getD i 0 := ⟨_, rfl⟩
  have hb256 : b < 256 := byte_lt s i b hb
  have hidx := idx_any s i b hlt hb
  rw [Lz.next, if_neg (by rw [hsl]; omega), ← hb] at hp
  obtain ⟨h, hh⟩ : ∃ h, b / 16 = h := ⟨_, rfl⟩
  obtain ⟨l, hl⟩ : ∃ l, b % 16 = l := ⟨_, rfl⟩
  obtain ⟨rm, hrm⟩ : ∃ rm, most - said = rm := ⟨_, rfl⟩
  obtain ⟨i1, hi1⟩ : ∃ i1, i + 1 = i1 := ⟨_, rfl⟩
  rw [hh, hl, hrm, hi1] at hp
  have hhI : (b : Int) / 16 = (h : Int) := by omega
  have hlI : (b : Int) % 16 = (l : Int) := by omega
  have hrmI : (most : Int) - (said : Int) = (rm : Int) := by omega
  have hi1I : (i : Int) + 1 = (i1 : Int) := by omega
  obtain ⟨f1, hf1⟩ : ∃ f1, (h == 15) = f1 := ⟨_, rfl⟩
  have hf1I : ((h : Int) == 15) = f1 := by rw [eqb_lit h 15 (15 : Int) rfl]; exact hf1
  rw [hf1] at hp
  obtain ⟨c, hc⟩ : ∃ c, Lz.counted (Sums.bl s) i1 h f1 rm = c := ⟨_, rfl⟩
  have HC1 := Hid.mk' (fun w => refCounted_any s i1 h f1 rm w hs (by omega) (by omega) (by omega))
  rw [hc] at hp HC1
  obtain ⟨e1, n, j⟩ := c
  have hok : e1 = 0 → h ≤ n ∧ n ≤ rm ∧ i1 ≤ j ∧ j ≤ s.size ∧ n ≤ h + 255 * (j - i1) := by
    intro h0
    subst h0
    have := Lz.counted_ok (Sums.bl s) (Sums.bl_byt s) i1 h f1 rm n j (by omega) hc
    rw [hsl] at this
    exact this
  simp only at HC1
  have HB := Hid.mk' hb
  have HH := Hid.mk' (And.intro hh hl)
  have HF := Hid.mk' hf1
  have HCC := Hid.mk' hc
  have hib : i1 ≤ 140737488355329 := by omega
  have hll : l < 16 := by omega
  have hrmb : rm ≤ 9223372036854775807 := by omega
  have HRM := Hid.mk' hrm
  have HI1 := Hid.mk' hi1
  clear hb hh hl hf1 hc hrm hi1
  by_cases h41 : e1 = 41
  · subst h41
    rw [Lz.nextB, if_pos rfl] at hp
    have HP := Hid.mk' hp
    clear hp hok
    go_enter Try.func25, Try.ntmps25
    go_wp2_with (first | (go_at_call 37; refine (HC1.out _).mono ?_; rintro e w' ⟨rfl, rfl⟩) | fail)
    exact bodyPost_ret (v := .tuple #[partV ((i : Int)) (0) (0) (0) (0) (0), .int .i64 41, .int .i64 (i : Int)]) (by simp [results, Try.results25, partV, go_sem]) rfl (next_err ((i : Int)) (0) (0) (0) (0) (0) 41 i (by rw [← HP.out]; exact ⟨rfl, rfl⟩) (by rw [← HP.out]; exact ⟨rfl, rfl⟩) (by decide) rfl (((Below.refl _ _).alloc (Nat.le_refl _) _).alloc (by simp) _))
  have h41I : ((e1 : Int) == 41) = false := by simp; omega
  by_cases h0 : e1 = 0
  · subst h0
    obtain ⟨o1, o2, o3, o4, o5⟩ := hok rfl
    clear hok
    have hn1 : n ≤ 36028797018964000 := by omega
    by_cases hsh : s.size < j + n
    · rw [nb_short _ _ _ _ _ _ _ _ (by rw [hsl]; exact hsh), hsl] at hp
      have HP := Hid.mk' hp
      have hd : (s.size : Int) - (j : Int) < (n : Int) := by omega
      clear hp hsl
      go_enter Try.func25, Try.ntmps25
      go_wp2_with (first | (go_at_call 37; refine (HC1.out _).mono ?_; rintro e w' ⟨rfl, rfl⟩) | fail)
      exact bodyPost_ret (v := .tuple #[partV ((i : Int)) (0) (0) (0) (0) (0), .int .i64 30, .int .i64 (s.size : Int)]) (by simp [results, Try.results25, partV, go_sem]) rfl (next_err ((i : Int)) (0) (0) (0) (0) (0) 30 s.size (by rw [← HP.out]; exact ⟨rfl, rfl⟩) (by rw [← HP.out]; exact ⟨rfl, rfl⟩) (by decide) rfl (((Below.refl _ _).alloc (Nat.le_refl _) _).alloc (by simp) _))
    have hd : ¬ (s.size : Int) - (j : Int) < (n : Int) := by omega
    obtain ⟨q, hq⟩ : ∃ q, j + n = q := ⟨_, rfl⟩
    have hqI : (j : Int) + (n : Int) = (q : Int) := by omega
    by_cases hla : q = s.size
    · subst hla
      rw [nb_last _ _ _ _ _ _ _ _ (by rw [hsl, hq]), hq] at hp
      have HP := Hid.mk' hp
      clear hp hsl hq
      go_enter Try.func25, Try.ntmps25
      go_wp2_with (first | (go_at_call 37; refine (HC1.out _).mono ?_; rintro e w' ⟨rfl, rfl⟩) | fail)
      exact bodyPost_ret (v := .tuple #[partV ((i : Int)) ((j : Int)) ((n : Int)) (0) (0) ((s.size : Int)), .int .i64 0, .int .i64 0]) (by simp [results, Try.results25, partV, go_sem]) rfl (next_fine j n 0 0 s.size HP.out.symm rfl (((Below.refl _ _).alloc (Nat.le_refl _) _).alloc (by simp) _))
    have hlaI : ((q : Int) == (s.size : Int)) = false := by simp; omega
    by_cases hone : q + 1 = s.size
    · rw [nb_one _ _ _ _ _ _ _ _ (by rw [hsl, hq]; exact hone), hsl] at hp
      have honeI : (q : Int) + 1 = (s.size : Int) := by omega
      have HP := Hid.mk' hp
      clear hp hsl hq hone
      go_enter Try.func25, Try.ntmps25
      go_wp2_with (first | (go_at_call 37; refine (HC1.out _).mono ?_; rintro e w' ⟨rfl, rfl⟩) | fail)
      exact bodyPost_ret (v := .tuple #[partV ((i : Int)) ((j : Int)) ((n : Int)) (0) (0) ((q : Int)), .int .i64 30, .int .i64 (s.size : Int)]) (by simp [results, Try.results25, partV, go_sem]) rfl (next_err ((i : Int)) ((j : Int)) ((n : Int)) (0) (0) ((q : Int)) 30 s.size (by rw [← HP.out]; exact ⟨rfl, rfl⟩) (by rw [← HP.out]; exact ⟨rfl, rfl⟩) (by decide) rfl (((Below.refl _ _).alloc (Nat.le_refl _) _).alloc (by simp) _))
    obtain ⟨q1, hq1⟩ : ∃ q1, q + 1 = q1 := ⟨_, rfl⟩
    have hq1I : (q : Int) + 1 = (q1 : Int) := by omega
    have hone' : ((q1 : Int) == (s.size : Int)) = false := by simp; omega
    obtain ⟨x, hx⟩ : ∃ x, x = (Sums.bl s).getD q 0 := ⟨_, rfl⟩
    obtain ⟨y, hy⟩ : ∃ y, y = (Sums.bl s).getD q1 0 := ⟨_, rfl⟩
    have hx256 : x < 256 := byte_lt s q x hx
    have hy256 : y < 256 := byte_lt s q1 y hy
    have hidx2 := idx_any s q x (by omega) hx
    have hidy := idx_any s q1 y (by omega) hy
    obtain ⟨o, ho⟩ : ∃ o, x + 256 * y = o := ⟨_, rfl⟩
    have hoI : (x : Int) + 256 * (y : Int) = (o : Int) := by omega
    have hof : Lz.offAt (Sums.bl s) q = o := by rw [Lz.offAt, hq1, ← hx, ← hy]; exact ho
    have hob : o ≤ 65535 := by omega
    have HOF := Hid.mk' hof
    clear hx hy ho hof
    by_cases hbad : o = 0 ∨ ahead + said + n < o
    · rw [nb_off _ _ _ _ _ _ _ _ (by rw [hsl, hq]; omega) (by rw [hq, HOF.out]; exact hbad), hq] at hp
      have HP := Hid.mk' hp
      clear hp hsl hq hq1
      by_cases ho0 : o = 0
      · subst ho0
        go_enter Try.func25, Try.ntmps25
        go_wp2_with (first | (go_at_call 37; refine (HC1.out _).mono ?_; rintro e w' ⟨rfl, rfl⟩) | fail)
        go_region
        go_wp2
        go_region
        go_wp2
        exact bodyPost_ret (v := .tuple #[partV ((i : Int)) ((j : Int)) ((n : Int)) (0) (0) ((q : Int)), .int .i64 40, .int .i64 (q : Int)]) (by simp [results, Try.results25, partV, go_sem]) rfl (next_err ((i : Int)) ((j : Int)) ((n : Int)) (0) (0) ((q : Int)) 40 q (by rw [← HP.out]; exact ⟨rfl, rfl⟩) (by rw [← HP.out]; exact ⟨rfl, rfl⟩) (by decide) rfl ((((Below.refl _ _).alloc (Nat.le_refl _) _).alloc (by simp) _).drewN' 2))
      · have ho0I : ((o : Int) == 0) = false := by simp; exact ho0
        have hfar : (ahead : Int) + (said : Int) + (n : Int) < (o : Int) := by omega
        go_enter Try.func25, Try.ntmps25
        go_wp2_with (first | (go_at_call 37; refine (HC1.out _).mono ?_; rintro e w' ⟨rfl, rfl⟩) | fail)
        go_region
        go_wp2
        go_region
        go_wp2
        exact bodyPost_ret (v := .tuple #[partV ((i : Int)) ((j : Int)) ((n : Int)) ((o : Int)) (0) ((q : Int)), .int .i64 40, .int .i64 (q : Int)]) (by simp [results, Try.results25, partV, go_sem]) rfl (next_err ((i : Int)) ((j : Int)) ((n : Int)) ((o : Int)) (0) ((q : Int)) 40 q (by rw [← HP.out]; exact ⟨rfl, rfl⟩) (by rw [← HP.out]; exact ⟨rfl, rfl⟩) (by decide) rfl ((((Below.refl _ _).alloc (Nat.le_refl _) _).alloc (by simp) _).drewN' 2))
    rw [nb_copy _ _ _ _ _ _ _ _ (by rw [hsl, hq]; omega) (by rw [hq, HOF.out]; exact hbad), hq, HOF.out] at hp
    have ho0I : ((o : Int) == 0) = false := by simp; omega
    have hfar : ¬ (ahead : Int) + (said : Int) + (n : Int) < (o : Int) := by omega
    obtain ⟨q2, hq2⟩ : ∃ q2, q + 2 = q2 := ⟨_, rfl⟩
    have hq2I : (q : Int) + 2 = (q2 : Int) := by omega
    obtain ⟨l4, hl4⟩ : ∃ l4, l + 4 = l4 := ⟨_, rfl⟩
    have hl4I : (l : Int) + 4 = (l4 : Int) := by omega
    obtain ⟨rn, hrn⟩ : ∃ rn, rm - n = rn := ⟨_, rfl⟩
    have hrnI : (rm : Int) - (n : Int) = (rn : Int) := by omega
    obtain ⟨f2, hf2⟩ : ∃ f2, (l == 15) = f2 := ⟨_, rfl⟩
    have hf2I : ((l : Int) == 15) = f2 := by rw [eqb_lit l 15 (15 : Int) rfl]; exact hf2
    rw [hq2, hl4, hf2, HRM.out, hrn] at hp
    obtain ⟨c2, hc2⟩ : ∃ c2, Lz.counted (Sums.bl s) q2 l4 f2 rn = c2 := ⟨_, rfl⟩
    have HC2 := Hid.mk' (fun w => refCounted_any s q2 l4 f2 rn w hs (by omega) (by omega) (by omega))
    rw [hc2] at hp HC2
    obtain ⟨e2, m, k⟩ := c2
    simp only at HC2
    have hbad' := Hid.mk' hbad
    clear hq hq1 hq2 hl4 hf2 hc2 hrn hsl hbad
    have hq2b : q2 ≤ 140737488355330 := by omega
    by_cases k41 : e2 = 41
    · subst k41
      rw [Lz.nextC, if_pos rfl] at hp
      have HP := Hid.mk' hp
      clear hp
      go_enter Try.func25, Try.ntmps25
      go_wp2_with (first | (go_at_call_of 37 q2; refine (HC2.out _).mono ?_; rintro e w' ⟨rfl, rfl⟩) | (go_at_call 37; refine (HC1.out _).mono ?_; rintro e w' ⟨rfl, rfl⟩) | fail)
      go_region
      go_wp2_with (first | (go_at_call_of 37 q2; refine (HC2.out _).mono ?_; rintro e w' ⟨rfl, rfl⟩) | (go_at_call 37; refine (HC1.out _).mono ?_; rintro e w' ⟨rfl, rfl⟩) | fail)
      exact bodyPost_ret (v := .tuple #[partV ((i : Int)) ((j : Int)) ((n : Int)) ((o : Int)) (0) ((q : Int)), .int .i64 41, .int .i64 (i : Int)]) (by simp [results, Try.results25, partV, go_sem]) rfl (next_err ((i : Int)) ((j : Int)) ((n : Int)) ((o : Int)) (0) ((q : Int)) 41 i (by rw [← HP.out]; exact ⟨rfl, rfl⟩) (by rw [← HP.out]; exact ⟨rfl, rfl⟩) (by decide) rfl ((((Below.refl _ _).alloc (Nat.le_refl _) _).alloc (by simp) _).drewN' 1))
    have k41I : ((e2 : Int) == 41) = false := by simp; omega
    by_cases k0 : e2 = 0
    · subst k0
      rw [Lz.nextC, if_neg (by simp), if_neg (by simp)] at hp
      have HP := Hid.mk' hp
      clear hp
      go_enter Try.func25, Try.ntmps25
      go_wp2_with (first | (go_at_call_of 37 q2; refine (HC2.out _).mono ?_; rintro e w' ⟨rfl, rfl⟩) | (go_at_call 37; refine (HC1.out _).mono ?_; rintro e w' ⟨rfl, rfl⟩) | fail)
      go_region
      go_wp2_with (first | (go_at_call_of 37 q2; refine (HC2.out _).mono ?_; rintro e w' ⟨rfl, rfl⟩) | (go_at_call 37; refine (HC1.out _).mono ?_; rintro e w' ⟨rfl, rfl⟩) | fail)
      exact bodyPost_ret (v := .tuple #[partV ((i : Int)) ((j : Int)) ((n : Int)) ((o : Int)) ((m : Int)) ((k : Int)), .int .i64 0, .int .i64 0]) (by simp [results, Try.results25, partV, go_sem]) rfl (next_fine j n o m k HP.out.symm rfl ((((Below.refl _ _).alloc (Nat.le_refl _) _).alloc (by simp) _).drewN' 1))
    · rw [Lz.nextC, if_neg k41, if_pos k0] at hp
      have HP := Hid.mk' hp
      have k0I : ((e2 : Int) == 0) = false := by simp; exact k0
      clear hp
      go_enter Try.func25, Try.ntmps25
      go_wp2_with (first | (go_at_call_of 37 q2; refine (HC2.out _).mono ?_; rintro e w' ⟨rfl, rfl⟩) | (go_at_call 37; refine (HC1.out _).mono ?_; rintro e w' ⟨rfl, rfl⟩) | fail)
      go_region
      go_wp2_with (first | (go_at_call_of 37 q2; refine (HC2.out _).mono ?_; rintro e w' ⟨rfl, rfl⟩) | (go_at_call 37; refine (HC1.out _).mono ?_; rintro e w' ⟨rfl, rfl⟩) | fail)
      exact bodyPost_ret (v := .tuple #[partV ((i : Int)) ((j : Int)) ((n : Int)) ((o : Int)) (0) ((q : Int)), .int .i64 30, .int .i64 (s.size : Int)]) (by simp [results, Try.results25, partV, go_sem]) rfl (next_err ((i : Int)) ((j : Int)) ((n : Int)) ((o : Int)) (0) ((q : Int)) 30 s.size (by rw [← HP.out]; exact ⟨rfl, Sums.bl_length s⟩) (by rw [← HP.out]; exact ⟨rfl, Sums.bl_length s⟩) (by decide) rfl ((((Below.refl _ _).alloc (Nat.le_refl _) _).alloc (by simp) _).drewN' 1))
  · rw [Lz.nextB, if_neg h41, if_pos h0, hsl] at hp
    have HP := Hid.mk' hp
    have h0I : ((e1 : Int) == 0) = false := by simp; exact h0
    clear hp hok hsl
    go_enter Try.func25, Try.ntmps25
    go_wp2_with (first | (go_at_call 37; refine (HC1.out _).mono ?_; rintro e w' ⟨rfl, rfl⟩) | fail)
    exact bodyPost_ret (v := .tuple #[partV ((i : Int)) (0) (0) (0) (0) (0), .int .i64 30, .int .i64 (s.size : Int)]) (by simp [results, Try.results25, partV, go_sem]) rfl (next_err ((i : Int)) (0) (0) (0) (0) (0) 30 s.size (by rw [← HP.out]; exact ⟨rfl, rfl⟩) (by rw [← HP.out]; exact ⟨rfl, rfl⟩) (by decide) rfl (((Below.refl _ _).alloc (Nat.le_refl _) _).alloc (by simp) _))
end Go.Proofs.Ytkndpfpdanoalaa
