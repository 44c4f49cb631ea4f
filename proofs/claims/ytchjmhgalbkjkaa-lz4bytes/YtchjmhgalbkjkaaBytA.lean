/-
  What the parts of a packed text are, and what its room changes. Plain facts.
-/
import Derived.Test.YtchjmhgalbkjkaaPrtB
import Derived.Test.YtchjmhgalbkjkaaLzG
import Derived.Test.YtchjmhgalbkjkaaLzF
import Derived.Test.YtchjmhgalbkjkaaExp
namespace Go.Proofs.Ytchjmhgalbkjkaa
open Go.RowKit
set_option linter.unusedVariables false
abbrev bigM : Nat := 9223372036854775807
def totP (l : List Pt) : Nat := l.foldl (fun n x => n + x.2.1.size + x.2.2.2) 0
def endP (l : List Pt) : Nat := l.foldl (fun _ x => x.1 + Lz.sz x.2.1.size x.2.2.2) 0
def lasP (l : List Pt) : Bool := l.foldl (fun _ x => x.2.2.2 == 0) false
theorem totP_snoc (l : List Pt) (x : Pt) : totP (l ++ [x]) = totP l + x.2.1.size + x.2.2.2 := by simp [totP]
theorem endP_snoc (l : List Pt) (x : Pt) : endP (l ++ [x]) = x.1 + Lz.sz x.2.1.size x.2.2.2 := by simp [endP]
theorem lasP_snoc (l : List Pt) (x : Pt) : lasP (l ++ [x]) = (x.2.2.2 == 0) := by simp [lasP]
theorem ext_many (s : ByteArray) (x : Lz.Sq) (h : x.frm + x.many ≤ s.size) : (toPt s x).2.1.size = x.many := by
  show (s.extract x.frm (x.frm + x.many)).size = x.many
  rw [ext_size s _ _ (by omega) h]
  omega
theorem in_pre {α : Type} {l : List α} {x : α} (hx : x ∈ l) : ∃ p q, l = p ++ x :: q := List.append_of_mem hx
theorem walk_in (s : ByteArray) (m : Nat) (pre : List Lz.Sq) (h : pre <+: (allOf s 0 m).1) : ∀ x ∈ pre, x.frm + x.many ≤ s.size := by
  intro x hx
  obtain ⟨p, q, rfl⟩ := in_pre hx
  have h1 : p ++ [x] <+: (allOf s 0 m).1 := List.IsPrefix.trans ⟨q, by simp⟩ h
  have := (Lz.walk_pre (Sums.bl s) (Sums.bl_byt s) 0 m _ p x h1).2.2.1
  rw [Sums.bl_length] at this
  exact this
theorem tot_map (s : ByteArray) : ∀ (l : List Lz.Sq) (n : Nat), (∀ x ∈ l, x.frm + x.many ≤ s.size) → (l.map (toPt s)).foldl (fun n x => n + x.2.1.size + x.2.2.2) n = n + Lz.total l
  | [], n, _ => by simp [Lz.total]
  | x :: l, n, h => by
    rw [List.map_cons, List.foldl_cons, tot_map s l _ (fun y hy => h y (by simp [hy])), ext_many s x (h x (by simp)), Lz.total]
    show n + x.many + x.len + _ = _
    omega
theorem end_map (s : ByteArray) : ∀ (l : List Lz.Sq) (n : Nat), (∀ x ∈ l, x.frm + x.many ≤ s.size) → (l.map (toPt s)).foldl (fun _ x => x.1 + Lz.sz x.2.1.size x.2.2.2) n = l.foldl (fun _ x => x.token + Lz.sz x.many x.len) n
  | [], n, _ => rfl
  | x :: l, n, h => by
    rw [List.map_cons, List.foldl_cons, List.foldl_cons, end_map s l _ (fun y hy => h y (by simp [hy])), ext_many s x (h x (by simp))]
    rfl
theorem las_map (s : ByteArray) : ∀ (l : List Lz.Sq) (b : Bool), (l.map (toPt s)).foldl (fun _ x => x.2.2.2 == 0) b = l.foldl (fun _ x => x.len == 0) b
  | [], b => rfl
  | x :: l, b => by
    rw [List.map_cons, List.foldl_cons, List.foldl_cons, las_map s l]
    rfl
theorem pre_map {α β : Type} (f : α → β) (L : List α) (pre : List β) (x : β) (h : pre ++ [x] <+: L.map f) : ∃ p y, pre = p.map f ∧ x = f y ∧ p ++ [y] <+: L := by
  obtain ⟨t, ht⟩ := h
  obtain ⟨a, b, hL, ha, hb⟩ := List.map_eq_append_iff.1 ht.symm
  obtain ⟨p, c, rfl, hp, hc⟩ := List.map_eq_append_iff.1 ha
  obtain ⟨y, rfl, hy⟩ : ∃ y, c = [y] ∧ f y = x := by
    cases c with
    | nil => simp at hc
    | cons y c =>
      cases c with
      | nil => simp at hc; exact ⟨y, rfl, hc⟩
      | cons z c => simp at hc
  exact ⟨p, y, hp.symm, hy.symm, ⟨b, hL.symm⟩⟩
/-- what each part is -/
theorem pt_step (s : ByteArray) (pre : List Pt) (x : Pt) (h : pre ++ [x] <+: ptL s) : x.1 = endP pre ∧ lasP pre = false ∧ x.1 + Lz.sz x.2.1.size x.2.2.2 ≤ s.size ∧ (x.2.2.2 = 0 ∧ x.2.2.1 = 0 ∨ 4 ≤ x.2.2.2 ∧ 1 ≤ x.2.2.1 ∧ x.2.2.1 ≤ 65535 ∧ x.2.2.1 ≤ totP pre + x.2.1.size) ∧ totP pre + x.2.1.size + x.2.2.2 ≤ 256 * s.size := by
  obtain ⟨p, y, rfl, rfl, hp⟩ := pre_map (toPt s) _ pre x h
  have hin := walk_in s bigM p ((List.prefix_append p [y]).trans hp)
  have hF := Lz.walk_pre (Sums.bl s) (Sums.bl_byt s) 0 bigM _ p y hp
  have hW := Lz.walk_f (Sums.bl s) (Sums.bl_byt s) 0 bigM (s.size + 1) 0 0
  obtain ⟨t, ht⟩ := hp
  have hA := hW.at_ p y t (by rw [← List.append_cons] at ht; exact ht.symm)
  have hlen := Sums.bl_length s
  unfold Lz.Fine at hF
  rw [hlen] at hF hA
  have hm := ext_many s y hF.2.2.1
  unfold totP endP lasP
  rw [tot_map s p 0 hin, end_map s p 0 hin, las_map s p false, hm]
  refine ⟨hA.1, hA.2.1, hA.2.2.1, ?_, ?_⟩
  · rcases hF.1 with ⟨a, b⟩ | ⟨a, b, c⟩
    · exact .inl ⟨a, b⟩
    · exact .inr ⟨hA.2.2.2 a, b, hF.2.1, by show y.off ≤ _; omega⟩
  · have := hF.2.2.2.2
    show _ + y.len ≤ _
    omega
/-- what Expand answers, by the parts -/
structure ByF (s : ByteArray) (m : Nat) : Prop where
  cd : (allOf s 0 m).2.1 = 0 ∨ (allOf s 0 m).2.1 = 30 ∨ (allOf s 0 m).2.1 = 40 ∨ (allOf s 0 m).2.1 = 41
  ok : (allOf s 0 m).2.1 = 0 → lasP (ptL s) = true ∧ endP (ptL s) = s.size ∧ (sofar s ⟨#[]⟩ (allOf s 0 m).1).length = totP (ptL s) ∧ totP (ptL s) ≤ m
  sh : (allOf s 0 m).2.1 = 30 → (allOf s 0 m).2.2 = s.size ∧ lasP (ptL s) = false
  of : (allOf s 0 m).2.1 = 40 → endP (ptL s) < (allOf s 0 m).2.2 ∧ (allOf s 0 m).2.2 + 2 ≤ s.size ∧ lasP (ptL s) = false
  mo : (allOf s 0 m).2.1 = 41 → (allOf s 0 m).2.2 < s.size ∧ (lasP (ptL s) = true → m < totP (ptL s)) ∧ ∀ n, n = totP (ptL s) → n ≤ bigM → ((allOf s 0 n).2.1 = 0 ↔ lasP (ptL s) = true)
theorem sofar_len (s : ByteArray) (m : Nat) (h : ∀ x ∈ (allOf s 0 m).1, x.frm + x.many ≤ s.size) : (sofar s ⟨#[]⟩ (allOf s 0 m).1).length = Lz.total (allOf s 0 m).1 := by
  obtain ⟨t, h1, h2⟩ := Lz.says_pre (Sums.bl s) (Sums.bl_byt s) 0 m (s.size + 1) (Sums.bl ⟨#[]⟩) _ (allOf s 0 m).1 rfl (List.prefix_refl _)
  have e1 : sofar s ⟨#[]⟩ (allOf s 0 m).1 = t := by
    show List.drop 0 _ = t
    rw [List.drop_zero, h1]
    rfl
  rw [e1, h2]
theorem by_f (s : ByteArray) (m : Nat) (hm : m ≤ bigM) : ByF s m := by
  have hW := Lz.walk_f (Sums.bl s) (Sums.bl_byt s) 0 m (s.size + 1) 0 0
  have hB := Lz.walk_f (Sums.bl s) (Sums.bl_byt s) 0 bigM (s.size + 1) 0 0
  have hin := walk_in s bigM _ (List.prefix_refl _)
  have hlen := Sums.bl_length s
  have hT : totP (ptL s) = Lz.total (allOf s 0 bigM).1 := by
    show ((allOf s 0 bigM).1.map (toPt s)).foldl _ 0 = _
    rw [tot_map s _ 0 hin]
    omega
  have hE : endP (ptL s) = (allOf s 0 bigM).1.foldl (fun _ x => x.token + Lz.sz x.many x.len) 0 := end_map s _ 0 hin
  have hL : lasP (ptL s) = (allOf s 0 bigM).1.foldl (fun _ x => x.len == 0) false := las_map s _ false
  have hlb : lasP (ptL s) = true ↔ (allOf s 0 bigM).2.1 = 0 := by
    rw [hL]
    constructor
    · intro h
      by_cases e : (allOf s 0 bigM).2.1 = 0
      · exact e
      · rw [hB.no e] at h; cases h
    · intro h
      exact (hB.ok h).2.1
  have same : ∀ n, n ≤ bigM → (allOf s 0 n).2.1 ≠ 41 → allOf s 0 bigM = allOf s 0 n := fun n hn h => Lz.walk_more (Sums.bl s) 0 n bigM hn _ _ _ h
  have hok := hW.ok
  have hsh := hW.sh
  have hof := hW.of
  have hmo := hW.mo
  rw [hlen] at hok hsh hof hmo
  refine ⟨hW.cd, fun h => ?_, fun h => ?_, fun h => ?_, fun h => ?_⟩
  · have e := same m hm (by omega)
    have h2 := hok h
    refine ⟨by rw [hL, e]; exact h2.2.1, by rw [hE, e]; exact h2.2.2, ?_, ?_⟩
    · rw [hT, e]
      exact sofar_len s m (by rw [← e]; exact hin)
    · rw [hT, e]
      have hl : (allOf s 0 m).1 ≠ [] := by
        intro e2
        have := h2.2.1
        rw [e2] at this
        cases this
      obtain ⟨p, y, hp⟩ : ∃ p y, (allOf s 0 m).1 = p ++ [y] := ⟨_, _, (List.dropLast_concat_getLast hl).symm⟩
      have := (Lz.walk_pre (Sums.bl s) (Sums.bl_byt s) 0 m (s.size + 1) p y (by rw [← hp]; exact List.prefix_refl _)).2.2.2.1
      rw [hp, Lz.total_append]
      simp only [Lz.total]
      omega
  · have e := same m hm (by omega)
    exact ⟨hsh h, by rw [hL, e]; exact hW.no (show (allOf s 0 m).2.1 ≠ 0 by omega)⟩
  · have e := same m hm (by omega)
    have h2 := hof h
    exact ⟨by rw [hE, e]; exact h2.1, h2.2, by rw [hL, e]; exact hW.no (show (allOf s 0 m).2.1 ≠ 0 by omega)⟩
  · refine ⟨hmo h, fun hl => ?_, fun n hn hnb => ?_⟩
    · have : m < 0 + Lz.total (allOf s 0 bigM).1 := Lz.walk_less (Sums.bl s) 0 m bigM hm (s.size + 1) 0 0 h (hlb.1 hl)
      rw [hT]
      omega
    · rw [hlb]
      constructor
      · intro h0
        rw [same n hnb (by omega)]
        exact h0
      · intro h0
        by_cases e : (allOf s 0 n).2.1 = 41
        · have : n < 0 + Lz.total (allOf s 0 bigM).1 := Lz.walk_less (Sums.bl s) 0 n bigM hnb (s.size + 1) 0 0 e h0
          rw [hT] at hn
          omega
        · rw [← same n hnb e]
          exact h0
abbrev tup (T : ByteArray) (e p : Nat) : Value := .tuple #[.string T, .int .i64 (e : Int), .int .i64 (p : Int)]
theorem expR_nat (s : ByteArray) (m : Nat) : expR ⟨#[]⟩ s (m : Int) = tup (if (allOf s 0 m).2.1 = 0 then nums (sofar s ⟨#[]⟩ (allOf s 0 m).1) else ⟨#[]⟩) (allOf s 0 m).2.1 (if (allOf s 0 m).2.1 = 0 then 0 else (allOf s 0 m).2.2) := by
  unfold expR
  rw [if_neg (by omega), Int.toNat_natCast]
  have e0 : (⟨#[]⟩ : ByteArray).size = 0 := rfl
  rw [e0]
  by_cases h : (allOf s 0 m).2.1 = 0
  · simp only [h, if_true]
    rfl
  · simp only [h, if_false]
/-- what Expand answers, and what must be so of the parts -/
structure ExpBy (s : ByteArray) (m : Nat) (T : ByteArray) (e p : Nat) : Prop where
  le : p ≤ s.size
  by_ : (e = 0 ∧ p = 0 ∧ T.size = totP (ptL s) ∧ totP (ptL s) ≤ m ∧ lasP (ptL s) = true ∧ endP (ptL s) = s.size ∧ ∀ m2, m ≤ m2 → m2 ≤ bigM → expR ⟨#[]⟩ s (m2 : Int) = tup T 0 0)
    ∨ (e = 30 ∧ T = ⟨#[]⟩ ∧ p = s.size ∧ lasP (ptL s) = false)
    ∨ (e = 40 ∧ T = ⟨#[]⟩ ∧ endP (ptL s) < p ∧ p + 2 ≤ s.size ∧ lasP (ptL s) = false)
    ∨ (e = 41 ∧ T = ⟨#[]⟩ ∧ p < s.size ∧ (lasP (ptL s) = true → m < totP (ptL s)) ∧ (totP (ptL s) ≤ bigM → ∃ T2 e2 p2, expR ⟨#[]⟩ s ((totP (ptL s) : Nat) : Int) = tup T2 e2 p2 ∧ (e2 = 0 ↔ lasP (ptL s) = true) ∧ (lasP (ptL s) = true → T2.size = totP (ptL s))))
theorem exp_by (s : ByteArray) (m : Nat) (hm : m ≤ bigM) : ∃ T e p, expR ⟨#[]⟩ s (m : Int) = tup T e p ∧ ExpBy s m T e p := by
  have hB := by_f s m hm
  rw [expR_nat]
  rcases hB.cd with h | h | h | h
  · refine ⟨_, _, _, rfl, ?_, .inl ⟨h, if_pos h, ?_, ?_⟩⟩
    · rw [if_pos h]; omega
    · rw [if_pos h, nums_size]
      exact (hB.ok h).2.2.1
    · refine ⟨(hB.ok h).2.2.2, (hB.ok h).1, (hB.ok h).2.1, fun m2 h1 h2 => ?_⟩
      have e : allOf s 0 m2 = allOf s 0 m := Lz.walk_more (Sums.bl s) 0 m m2 h1 _ _ _ (show (allOf s 0 m).2.1 ≠ 41 by omega)
      rw [expR_nat, e]
      simp only [h, if_true]
  · refine ⟨_, _, _, rfl, ?_, .inr (.inl ⟨h, if_neg (by omega), ?_, (hB.sh h).2⟩)⟩
    · rw [if_neg (by omega)]; have := (hB.sh h).1; omega
    · rw [if_neg (by omega)]; exact (hB.sh h).1
  · refine ⟨_, _, _, rfl, ?_, .inr (.inr (.inl ⟨h, if_neg (by omega), ?_, ?_, (hB.of h).2.2⟩))⟩
    · rw [if_neg (by omega)]; have := (hB.of h).2.1; omega
    · rw [if_neg (by omega)]; exact (hB.of h).1
    · rw [if_neg (by omega)]; exact (hB.of h).2.1
  · refine ⟨_, _, _, rfl, ?_, .inr (.inr (.inr ⟨h, if_neg (by omega), ?_, (hB.mo h).2.1, fun hn => ?_⟩))⟩
    · rw [if_neg (by omega)]; have := (hB.mo h).1; omega
    · rw [if_neg (by omega)]; exact (hB.mo h).1
    · have hq := (hB.mo h).2.2 _ rfl hn
      refine ⟨_, _, _, expR_nat s _, hq, fun hl => ?_⟩
      have h0 := hq.2 hl
      rw [if_pos h0, nums_size]
      exact ((by_f s _ hn).ok h0).2.2.1
end Go.Proofs.Ytchjmhgalbkjkaa
