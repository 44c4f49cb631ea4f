/-
  What Compile makes, and what Find and Count do with it. Conditions: as each says.
-/
import Derived.Test.YtecoiifmeajicaaDoorFin
import Derived.RangeFuncNested
import Derived.RangeFuncBound
import Derived.RangeFuncCalls
import Derived.RangeFuncLeaves
import Derived.Shelf.Abstract
import Derived.OwnWalkIn
import Derived.TacticsInMore
import Derived.LoopNIn
import Derived.LoopIn
namespace Go.Proofs.YtecoiifmeajicaaDoor
open Go.RowKit
set_option linter.unusedVariables false
/-- the blocks of a set are as they were -/
def KeepsB (D : Nat → Prop) (W W' : World) : Prop := ∀ k, D k → W'.heap[k]? = W.heap[k]?
theorem KeepsB.t {D : Nat → Prop} {A B C : World} (h : KeepsB D A B) (k : KeepsB D B C) : KeepsB D A C := fun i hi => (k i hi).trans (h i hi)
theorem KeepsB.of_below {D : Nat → Prop} {N : Nat} {W W' : World} (hb : Below N W W') (hD : ∀ k, D k → k < N) : KeepsB D W W' := fun k hk => hb.block k (hD k hk)
theorem cell_blk {W W' : World} {X o : Nat} {v : Value} (e : W'.heap[X]? = W.heap[X]?) (h : W.cell? ⟨X, o, none⟩ = some v) : W'.cell? ⟨X, o, none⟩ = some v := (World.cell?_of_block (a := ⟨X, o, none⟩) e).trans h
theorem thaw_blk {W W' : World} {X : Nat} (e : W'.heap[X]? = W.heap[X]?) (h : Thaw X W) : Thaw X W' := fun o => by
  have := h o
  unfold World.frozen? at this ⊢
  rw [e]
  exact this
theorem HorT.blk {X : Nat} {fold : Bool} {q : ByteArray} {G : Nat} {J : Nat → Nat} {W W' : World} (h : HorT X fold q G J W) (e : W'.heap[X]? = W.heap[X]?) : HorT X fold q G J W' :=
  ⟨cell_blk e h.c0, cell_blk e h.c1, cell_blk e h.c2, cell_blk e h.c3, fun b hb => cell_blk e (h.cj b hb), thaw_blk e h.fz⟩
theorem ShfT.blk {X m : Nat} {J : Nat → Nat} {W W' : World} (h : ShfT X m J W) (e : W'.heap[X]? = W.heap[X]?) : ShfT X m J W' := ⟨cell_blk e h.c0, fun b hb => cell_blk e (h.cj b hb), thaw_blk e h.fz⟩
theorem WidT.blk {X m : Nat} {J : Nat → Nat} {W W' : World} (h : WidT X m J W) (e : W'.heap[X]? = W.heap[X]?) : WidT X m J W' := ⟨cell_blk e h.c0, fun b hb => cell_blk e (h.cj b hb), thaw_blk e h.fz⟩
theorem tab_blk {W W' : World} (e : W'.heap[0]? = W.heap[0]?) (h : Tab W) : Tab W' := fun i hi => cell_blk e (h i hi)
/-- a function value that looks for a pattern, as long as the blocks of D are as they are -/
structure Looks (v : Value) (fold : Bool) (p : ByteArray) (D : Nat → Prop) (W : World) : Prop where
  is : ∃ (F : FuncId) (g : Nat), v = .func (.func F) #[.pointer (some ⟨g, 0, none⟩)] #[] ∧ (∀ args w, (callFunc F args).run Tryd.prog w = .ok (.enter F args) w) ∧
    ∀ W', KeepsB D W W' → ∀ (s : ByteArray) (a : Nat), s.size ≤ 1125899906842624 → a + p.size ≤ s.size →
      Calls Tryd.prog F #[.pointer (some ⟨g, 0, none⟩), .string s, .int .i64 (a : Int)] W' fun e w' => e = .returned (.int .i64 (Lit.fndL fold p s a)) ∧ Below W'.heap.size W' w'
theorem Looks.keeps {v : Value} {fold : Bool} {p : ByteArray} {D D2 : Nat → Prop} {W W1 : World} (h : Looks v fold p D W) (hb : KeepsB D W W1) (hD : ∀ k, D k → D2 k) : Looks v fold p D2 W1 := by
  obtain ⟨F, g, h1, h2, h3⟩ := h.is
  exact ⟨F, g, h1, h2, fun W' hb' => h3 W' (hb.t (fun k hk => hb' k (hD k hk)))⟩
theorem Looks.ndl {v : Value} {fold : Bool} {p : ByteArray} {D : Nat → Prop} {W : World} (h : Looks v fold (Lit.ndl fold p) D W) : Looks v fold p D W := by
  obtain ⟨F, g, h1, h2, h3⟩ := h.is
  refine ⟨F, g, h1, h2, fun W' hb' s a hs ha => ?_⟩
  have := h3 W' hb' s a hs (by rw [Lit.ndl_size]; exact ha)
  rw [Lit.fndL_ndl] at this
  exact this
theorem lt_of_cell {w : World} {b o : Nat} {v : Value} (h : w.cell? ⟨b, o, none⟩ = some v) : b < w.heap.size := World.block_lt_of_cell? w ⟨b, o, none⟩ h
theorem looks_single (g : Nat) (fold : Bool) (q : ByteArray) (w : World) (hq : q.size = 1) (hn : Nrm fold q) (c0 : w.cell? ⟨g, 0, none⟩ = some (.int .u8 ((Swar.bt q 0 : Nat) : Int))) (c1 : w.cell? ⟨g, 1, none⟩ = some (.int .u8 ((Lit.fm2 fold (Swar.bt q 0) : Nat) : Int))) (ht : Tab w) :
    Looks (.func (.func 39) #[.pointer (some ⟨g, 0, none⟩)] #[]) fold q (fun k => k = 0 ∨ k = g) w :=
  ⟨_, g, rfl, enters_of Tryd.func39 (by kernel_rfl) rfl, fun W' hb s a hs ha => singleLook_any g fold q s a W' hq hn hs (by omega) (cell_blk (hb g (.inr rfl)) c0) (cell_blk (hb g (.inr rfl)) c1) (tab_blk (hb 0 (.inl rfl)) ht)⟩
theorem looks_pair (g : Nat) (fold : Bool) (q : ByteArray) (G : Nat) (w : World) (hq : q.size = G + 1) (hG : 1 ≤ G) (hGl : G ≤ 256) (hn : Nrm fold q) (c0 : w.cell? ⟨g, 0, none⟩ = some (.string q)) (c1 : w.cell? ⟨g, 1, none⟩ = some (.bool fold)) (c2 : w.cell? ⟨g, 2, none⟩ = some (.int .u64 ((Swar.spreadL (Swar.bt q 0) : Nat) : Int))) (c3 : w.cell? ⟨g, 3, none⟩ = some (.int .u64 ((Swar.spreadL (Swar.bt q G) : Nat) : Int))) (ht : Tab w) :
    Looks (.func (.func 41) #[.pointer (some ⟨g, 0, none⟩)] #[]) fold q (fun k => k = 0 ∨ k = g) w :=
  ⟨_, g, rfl, enters_of Tryd.func41 (by kernel_rfl) rfl, fun W' hb s a hs ha => pairLook_any g fold q s G a W' hq hG hGl hn hs ha (cell_blk (hb g (.inr rfl)) c0) (cell_blk (hb g (.inr rfl)) c1) (cell_blk (hb g (.inr rfl)) c2) (cell_blk (hb g (.inr rfl)) c3) (tab_blk (hb 0 (.inl rfl)) ht)⟩
theorem looks_hor (g : Nat) (fold : Bool) (q : ByteArray) (G : Nat) (w : World) (hq : q.size = G + 1) (hGl : G ≤ 256) (hn : Nrm fold q) (hT : HorT g fold q G (Lit.jmT fold q G) w) :
    Looks (.func (.func 43) #[.pointer (some ⟨g, 0, none⟩)] #[]) fold q (fun k => k = 0 ∨ k = g) w :=
  ⟨_, g, rfl, enters_of Tryd.func43 (by kernel_rfl) rfl, fun W' hb s a hs ha => horLook_any g fold q s G a W' hq hGl hn hs ha (hT.blk (hb g (.inr rfl)))⟩
theorem looks_shf (g : Nat) (fold : Bool) (q : ByteArray) (G : Nat) (w : World) (hq : q.size = G + 1) (hGl : G < 64) (hT : ShfT g q.size (Lit.hsT fold q q.size) w) :
    Looks (.func (.func 45) #[.pointer (some ⟨g, 0, none⟩)] #[]) fold q (fun k => k = 0 ∨ k = g) w :=
  ⟨_, g, rfl, enters_of Tryd.func45 (by kernel_rfl) rfl, fun W' hb s a hs ha => shfLook_any g fold q s G a W' hq hGl hs ha (hT.blk (hb g (.inr rfl)))⟩
theorem looks_wid (g : Nat) (fold : Bool) (q : ByteArray) (G : Nat) (w : World) (hq : q.size = G + 1) (hGl : G < 256) (hT : WidT g q.size (hwT fold q q.size) w) :
    Looks (.func (.func 47) #[.pointer (some ⟨g, 0, none⟩)] #[]) fold q (fun k => k = 0 ∨ k = g) w :=
  ⟨_, g, rfl, enters_of Tryd.func47 (by kernel_rfl) rfl, fun W' hb s a hs ha => widLook_any g fold q s G a W' hq hGl hs ha (lt_of_cell (hT.blk (hb g (.inr rfl))).c0) (hT.blk (hb g (.inr rfl)))⟩
/-- a kernel that suits patterns of that length -/
def Fits (k : Int) (n : Nat) : Prop := (k = 1 ∧ n = 1) ∨ (k = 2 ∧ 2 ≤ n) ∨ k = 3 ∨ (k = 4 ∧ n ≤ 64) ∨ k = 5
set_option maxHeartbeats 2000000 in
theorem lookBy_any (k : Int) (fold : Bool) (q : ByteArray) (G : Nat) (w : World) (hq : q.size = G + 1) (hGl : G < 256) (hn : Nrm fold q) (hk : Fits k q.size) (ht : Tab w) :
    Calls Tryd.prog 32 #[.int .i64 k, .agg #[.string q, .bool fold]] w fun e w' => ∃ v g, e = .returned v ∧ Looks v fold q (fun k => k = 0 ∨ k = g) w' ∧ w.heap.size ≤ g ∧ g < w'.heap.size ∧ Below w.heap.size w w' := by
  have HB0 : Hid (Below w.heap.size w (w.alloc (.cells #[.string q, .bool fold] 56))) := (Below.refl _ _).alloc (Nat.le_refl _) _
  have HT0 := Hid.mk' (ht.below HB0.out)
  have HT := Hid.mk' ht
  have HN := Hid.mk' hn
  clear ht hn
  rcases hk with ⟨rfl, h⟩ | ⟨rfl, h⟩ | rfl | ⟨rfl, h⟩ | rfl
  · go_enter Tryd.func32, Tryd.ntmps32
    go_wp2_with (go_at_call 38; refine (newSingle_any fold q _ h).mono ?_; rintro e w1 ⟨g, rfl, h1, h2, h3, h4⟩; have HH := Hid.mk' (And.intro h1 (And.intro h2 (And.intro h3 h4))); clear h1 h2 h3 h4)
    go_ret
    obtain ⟨h1, h2, h3, h4⟩ := HH.out
    exact ⟨_, g, rfl, looks_single g fold q w1 h HN.out h3 h4 (HT0.out.below h2), by simp at h1; omega, lt_of_cell h3, HB0.out.trans (h2.mono (by simp))⟩
  · go_enter Tryd.func32, Tryd.ntmps32
    go_wp2_with (go_at_call 40; refine (newPair_any fold q G _ hq (by omega)).mono ?_; rintro e w1 ⟨g, rfl, h1, h2, h3, h4, h5, h6⟩; have HH := Hid.mk' (And.intro h1 (And.intro h2 (And.intro h3 (And.intro h4 (And.intro h5 h6))))); clear h1 h2 h3 h4 h5 h6)
    go_ret
    obtain ⟨h1, h2, h3, h4, h5, h6⟩ := HH.out
    exact ⟨_, g, rfl, looks_pair g fold q G w1 hq (by omega) (by omega) HN.out h3 h4 h5 h6 (HT0.out.below h2), by simp at h1; omega, lt_of_cell h3, HB0.out.trans (h2.mono (by simp))⟩
  · go_enter Tryd.func32, Tryd.ntmps32
    go_wp2_with (go_at_call 42; refine (newHorspool_any fold q G _ hq (by omega) HN.out).mono ?_; rintro e w1 ⟨g, rfl, h1, h2, h3⟩; have HH := Hid.mk' (And.intro h1 (And.intro h2 h3)); clear h1 h2 h3)
    go_ret
    obtain ⟨h1, h2, h3⟩ := HH.out
    exact ⟨_, g, rfl, looks_hor g fold q G w1 hq (by omega) HN.out h3, by simp at h1; omega, lt_of_cell h3.c0, HB0.out.trans (h2.mono (by simp))⟩
  · go_enter Tryd.func32, Tryd.ntmps32
    go_wp2_with (go_at_call 44; refine (newShift_any fold q _ h HN.out).mono ?_; rintro e w1 ⟨g, rfl, h1, h2, h3⟩; have HH := Hid.mk' (And.intro h1 (And.intro h2 h3)); clear h1 h2 h3)
    go_ret
    obtain ⟨h1, h2, h3⟩ := HH.out
    exact ⟨_, g, rfl, looks_shf g fold q G w1 hq (by omega) h3, by simp at h1; omega, lt_of_cell h3.c0, HB0.out.trans (h2.mono (by simp))⟩
  · go_enter Tryd.func32, Tryd.ntmps32
    go_wp2_with (go_at_call 46; refine (newWide_any fold q _ (by omega) HN.out).mono ?_; rintro e w1 ⟨g, rfl, h1, h2, h3⟩; have HH := Hid.mk' (And.intro h1 (And.intro h2 h3)); clear h1 h2 h3)
    go_ret
    obtain ⟨h1, h2, h3⟩ := HH.out
    exact ⟨_, g, rfl, looks_wid g fold q G w1 hq hGl h3, by simp at h1; omega, lt_of_cell h3.c0, HB0.out.trans (h2.mono (by simp))⟩
/-- a Finder, as long as the blocks of D are as they are -/
structure Fnd (g : Nat) (fold : Bool) (p : ByteArray) (k : Int) (D : Nat → Prop) (W : World) : Prop where
  c0 : W.cell? ⟨g, 0, none⟩ = some (.int .i64 k)
  c1 : W.cell? ⟨g, 1, none⟩ = some (.int .i64 (p.size : Int))
  c2 : ∃ v, W.cell? ⟨g, 2, none⟩ = some v ∧ Looks v fold p D W
  pz : 1 ≤ p.size ∧ p.size ≤ 256
  dg : D g
theorem Fnd.lt {g : Nat} {fold : Bool} {p : ByteArray} {k : Int} {D : Nat → Prop} {W : World} (h : Fnd g fold p k D W) : g < W.heap.size := lt_of_cell h.c0
theorem Fnd.keeps {g : Nat} {fold : Bool} {p : ByteArray} {k : Int} {D : Nat → Prop} {W W' : World} (h : Fnd g fold p k D W) (hb : KeepsB D W W') : Fnd g fold p k D W' := by
  obtain ⟨v, h1, h2⟩ := h.c2
  exact ⟨cell_blk (hb g h.dg) h.c0, cell_blk (hb g h.dg) h.c1, ⟨v, cell_blk (hb g h.dg) h1, h2.keeps hb (fun _ h => h)⟩, h.pz, h.dg⟩
/-- the kernel that is meant -/
def kk (k : Int) (n : Nat) (fold : Bool) : Int := if k = 0 then ((chs n fold : Nat) : Int) else k
theorem fits_of (k : Int) (n : Nat) (h : suitsB k n = true) : Fits k n := by
  unfold suitsB at h
  unfold Fits
  by_cases k1 : k = 1
  · rw [if_pos k1] at h; simp at h; omega
  · rw [if_neg k1] at h
    by_cases k2 : k = 2
    · rw [if_pos k2] at h; simp at h; omega
    · rw [if_neg k2] at h
      by_cases k4 : k = 4
      · rw [if_pos k4] at h; simp at h; omega
      · rw [if_neg k4] at h; simp at h; omega
theorem suits_chs (n : Nat) (fold : Bool) (h : isP n = true) : suitsB ((chs n fold : Nat) : Int) n = true := by
  have hn : 1 ≤ n ∧ n ≤ 256 := of_decide_eq_true h
  unfold chs
  rw [if_neg (by rw [h]; decide)]
  by_cases n1 : n = 1
  · rw [if_pos n1]; subst n1; rfl
  · rw [if_neg n1]
    cases fold with
    | true =>
      rw [if_pos rfl]
      by_cases n2 : n ≤ 64
      · rw [if_pos n2]; unfold suitsB; simp; exact n2
      · rw [if_neg n2]; unfold suitsB; simp
    | false =>
      rw [if_neg (by decide)]
      by_cases n2 : n < 8
      · rw [if_pos n2]; unfold suitsB; simp; omega
      · rw [if_neg n2]; unfold suitsB; simp
set_option maxHeartbeats 1000000 in
theorem compile_no (p : ByteArray) (fold : Bool) (k : Int) (w : World) (hp : p.size ≤ 1125899906842624) (h : isP p.size = false) :
    Calls Tryd.prog 10 #[.string p, .bool fold, .int .i64 k] w fun e w' => e = .returned (.tuple #[.pointer none, .int .i64 60]) ∧ w' = w := by
  have HP := isPattern_any p w hp
  rw [h] at HP
  have HPH := Hid.mk' HP
  clear HP h
  go_enter Tryd.func10, Tryd.ntmps10
  go_wp2_with (go_at_call 30; refine HPH.out.mono ?_; rintro e w' ⟨rfl, rfl⟩)
  go_ret2
  exact ⟨rfl, rfl⟩
set_option maxHeartbeats 1000000 in
theorem compile_bad (p : ByteArray) (fold : Bool) (k : Int) (w : World) (hp : p.size ≤ 1125899906842624) (h : isP p.size = true) (hs : suitsB (kk k p.size fold) p.size = false) :
    Calls Tryd.prog 10 #[.string p, .bool fold, .int .i64 k] w fun e w' => e = .returned (.tuple #[.pointer none, .int .i64 61]) ∧ w' = w := by
  have HP := isPattern_any p w hp
  rw [h] at HP
  have HPH := Hid.mk' HP
  have hk0 : k ≠ 0 := by
    intro e
    subst e
    unfold kk at hs
    rw [if_pos rfl, suits_chs _ _ h] at hs
    cases hs
  unfold kk at hs
  rw [if_neg hk0] at hs
  have b0 : (k == 0) = false := beq_eq_false_iff_ne.2 hk0
  have HS := suits_any k p.size w hp
  rw [hs] at HS
  have HSH := Hid.mk' HS
  clear HP h HS hs hk0
  go_enter Tryd.func10, Tryd.ntmps10
  go_wp2_with (first | (go_at_call 30; refine HPH.out.mono ?_; rintro e w' ⟨rfl, rfl⟩) | (go_at_call 31; refine HSH.out.mono ?_; rintro e w' ⟨rfl, rfl⟩))
  go_ret2
  exact ⟨rfl, rfl⟩
theorem fin_build (k n : Int) (F : FuncId) (g : Nat) (w : World) : (Instr.build 59 #[(0, .int .i64 k), (1, .int .i64 n), (2, .func (.func F) #[.pointer (some ⟨g, 0, none⟩)] #[])]).run Tryd.prog w = .ok (.agg #[.int .i64 k, .int .i64 n, .func (.func F) #[.pointer (some ⟨g, 0, none⟩)] #[]]) w := run_build w 59 _ _ (by kernel_rfl)
set_option maxHeartbeats 2000000 in
theorem compile_ok (p : ByteArray) (fold : Bool) (k : Int) (w : World) (h : isP p.size = true) (hs : suitsB (kk k p.size fold) p.size = true) (ht : Tab w) :
    Calls Tryd.prog 10 #[.string p, .bool fold, .int .i64 k] w fun e w' => ∃ (g : Nat) (D : Nat → Prop), e = .returned (.tuple #[.pointer (some ⟨g, 0, none⟩), .int .i64 0]) ∧ Fnd g fold p (kk k p.size fold) D w' ∧ (∀ k, D k → (k = 0 ∨ w.heap.size ≤ k) ∧ k < w'.heap.size) ∧ Below w.heap.size w w' := by
  have hn : 1 ≤ p.size ∧ p.size ≤ 256 := of_decide_eq_true h
  have HPH := Hid.mk' (isPattern_any p w (by omega))
  rw [h] at HPH
  have HSH := Hid.mk' (suits_any (kk k p.size fold) p.size w (by omega))
  rw [hs] at HSH
  have HF := Hid.mk' (fits_of _ _ hs)
  have HNN := Hid.mk' (newNeedle_any p fold w (by omega))
  have HLB := Hid.mk' (fun w' (hb : Below w.heap.size w w') => lookBy_any (kk k p.size fold) fold (Lit.ndl fold p) (p.size - 1) w' (by rw [Lit.ndl_size]; omega) (by omega) (nrm_ndl fold p) (by rw [Lit.ndl_size]; exact HF.out) (ht.below hb))
  have HCH := Hid.mk' (choose_any p fold w (by omega))
  have hfin : ∀ (v : Value) (w2 : World) (g : Nat), Looks v fold (Lit.ndl fold p) (fun k => k = 0 ∨ k = g) w2 → 0 < w2.heap.size → g < w2.heap.size → Fnd w2.heap.size fold p (kk k p.size fold) (fun k => k = 0 ∨ k = g ∨ k = w2.heap.size) (w2.alloc (.cells #[.int .i64 (kk k p.size fold), .int .i64 (p.size : Int), v] 59)) := fun v w2 g hl h0 hg =>
    ⟨by simp [go_sem], by simp [go_sem], ⟨v, by simp [go_sem], hl.ndl.keeps (KeepsB.of_below (N := w2.heap.size) ((Below.refl _ _).alloc (Nat.le_refl _) _) (fun k hk => by rcases hk with rfl | rfl <;> omega)) (fun k hk => by rcases hk with h | h; exact .inl h; exact .inr (.inl h))⟩, hn, .inr (.inr rfl)⟩
  have h0w : 0 < w.heap.size := lt_of_cell (ht 0 (by omega))
  have HFIN := Hid.mk' hfin
  clear h hs ht hfin
  by_cases hk0 : k = 0
  · subst hk0
    have hkk : ((chs p.size fold : Nat) : Int) = kk 0 p.size fold := by unfold kk; rw [if_pos rfl]
    rw [hkk] at HCH
    clear hkk
    generalize kk 0 p.size fold = K at *
    go_enter Tryd.func10, Tryd.ntmps10
    go_wp2_with fail
    refine HPH.out.mono ?_
    rintro e w' ⟨rfl, rfl⟩
    go_wp2_with fail
    refine HCH.out.mono ?_
    rintro e w' ⟨rfl, rfl⟩
    go_wp2_with fail
    refine HSH.out.mono ?_
    rintro e w' ⟨rfl, rfl⟩
    go_wp2_with fail
    refine HNN.out.mono ?_
    rintro e w1 ⟨rfl, hb1⟩
    have HB1 := Hid.mk' hb1
    clear hb1
    go_wp2_with fail
    refine (HLB.out w1 HB1.out).mono ?_
    rintro e w2 ⟨v, x, rfl, hl, hx1, hx2, hb2⟩
    have HL := Hid.mk' hl
    have HB2 := Hid.mk' hb2
    obtain ⟨F, g, rfl, _⟩ := hl.is
    have HX := Hid.mk' (HFIN.out _ _ x HL.out (by have := hb2.size; have := HB1.out.size; omega) hx2)
    have hbd := fun k n w => fin_build k n F g w
    have HX1 := Hid.mk' (And.intro hx1 hx2)
    clear hl hb2 hx1 hx2
    go_wp2_with fail
    go_ret2
    exact ⟨_, _, rfl, HX.out, fun k hk => by
      have h1 := HB1.out.size
      have h2 := HB2.out.size
      have h3 := HX1.out.1
      have h4 := HX1.out.2
      rw [World.size_alloc]
      rcases hk with rfl | rfl | rfl <;> omega, (HB1.out.trans (HB2.out.mono HB1.out.size)).alloc (Nat.le_trans HB1.out.size HB2.out.size) _⟩
  · have b0 : (k == 0) = false := beq_eq_false_iff_ne.2 hk0
    have hkk : kk k p.size fold = k := by unfold kk; rw [if_neg hk0]
    rw [hkk] at HSH HLB HFIN
    rw [hkk]
    clear hkk HF hk0
    go_enter Tryd.func10, Tryd.ntmps10
    go_wp2_with fail
    refine HPH.out.mono ?_
    rintro e w' ⟨rfl, rfl⟩
    go_wp2_with fail
    refine HSH.out.mono ?_
    rintro e w' ⟨rfl, rfl⟩
    go_wp2_with fail
    refine HNN.out.mono ?_
    rintro e w1 ⟨rfl, hb1⟩
    have HB1 := Hid.mk' hb1
    clear hb1
    go_wp2_with fail
    refine (HLB.out w1 HB1.out).mono ?_
    rintro e w2 ⟨v, x, rfl, hl, hx1, hx2, hb2⟩
    have HL := Hid.mk' hl
    have HB2 := Hid.mk' hb2
    obtain ⟨F, g, rfl, _⟩ := hl.is
    have HX := Hid.mk' (HFIN.out _ _ x HL.out (by have := hb2.size; have := HB1.out.size; omega) hx2)
    have hbd := fun k n w => fin_build k n F g w
    have HX1 := Hid.mk' (And.intro hx1 hx2)
    clear hl hb2 hx1 hx2
    go_wp2_with fail
    go_ret2
    exact ⟨_, _, rfl, HX.out, fun k hk => by
      have h1 := HB1.out.size
      have h2 := HB2.out.size
      have h3 := HX1.out.1
      have h4 := HX1.out.2
      rw [World.size_alloc]
      rcases hk with rfl | rfl | rfl <;> omega, (HB1.out.trans (HB2.out.mono HB1.out.size)).alloc (Nat.le_trans HB1.out.size HB2.out.size) _⟩
theorem kernel_any (g : Nat) (fold : Bool) (p : ByteArray) (k : Int) (w : World) (D : Nat → Prop) (h : Fnd g fold p k D w) :
    Calls Tryd.prog 14 #[.pointer (some ⟨g, 0, none⟩)] w fun e w' => e = .returned (.int .i64 k) ∧ w' = w := by
  have c0 := h.c0
  clear h
  go_enter Tryd.func14, Tryd.ntmps14
  go_wp2_with fail
  go_ret
  exact ⟨rfl, rfl⟩
set_option maxHeartbeats 1000000 in
theorem find_any (g : Nat) (fold : Bool) (p s : ByteArray) (k f : Int) (w : World) (D : Nat → Prop) (h : Fnd g fold p k D w) (hs : s.size ≤ 1125899906842624) (hl : -9223372036854775808 ≤ f) (hh : f ≤ 9223372036854775807) :
    Calls Tryd.prog 17 #[.pointer (some ⟨g, 0, none⟩), .string s, .int .i64 f] w fun e w' => e = .returned (.int .i64 (Lit.fndL fold p s f.toNat)) ∧ Below w.heap.size w w' := by
  obtain ⟨v, c2, hL⟩ := h.c2
  have c1 := h.c1
  have hpz := h.pz
  have hmx := max_zero f
  obtain ⟨a, ha⟩ : ∃ a, f.toNat = a := ⟨_, rfl⟩
  rw [ha] at hmx
  rw [ha]
  have hal : a ≤ 9223372036854775807 := by omega
  clear h ha
  by_cases hr : a + p.size ≤ s.size
  · have hd : decide ((s.size : Int) - (p.size : Int) < (a : Int)) = false := decide_eq_false (by omega)
    have hd2 : ¬ (s.size : Int) - (p.size : Int) < (a : Int) := by omega
    obtain ⟨F, G, rfl, hent, hcall⟩ := hL.is
    have HCA := Hid.mk' (hcall w (fun _ _ => rfl) s a hs hr)
    clear hL hcall
    go_enter Tryd.func17, Tryd.ntmps17
    go_wp2_with fail
    refine HCA.out.mono ?_
    rintro e w1 ⟨rfl, hb1⟩
    have HB1 := Hid.mk' hb1
    clear hb1
    go_wp2_with fail
    go_ret
    exact ⟨rfl, HB1.out⟩
  · have hd : decide ((s.size : Int) - (p.size : Int) < (a : Int)) = true := decide_eq_true (by omega)
    have hd2 : (s.size : Int) - (p.size : Int) < (a : Int) := by omega
    have HF := Hid.mk' (Lit.fndL_out fold p s a (by omega))
    go_enter Tryd.func17, Tryd.ntmps17
    go_wp2_with fail
    go_ret
    exact ⟨by rw [HF.out]; rfl, Below.refl _ _⟩
end Go.Proofs.YtecoiifmeajicaaDoor
