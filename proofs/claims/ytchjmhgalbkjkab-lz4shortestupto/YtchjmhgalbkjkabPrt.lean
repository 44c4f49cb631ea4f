/-
  lz4.Parts: what hands a sequence over. Conditions: as each says.
-/
import Derived.Test.YtchjmhgalbkjkabWlkC
import Derived.Test.YtchjmhgalbkjkabCloneS
import Derived.Test.YtchjmhgalbkjkabRng
import Derived.Test.YtchjmhgalbkjkabLzD
import Derived.OrdersIn
import Derived.Shelf.Abstract
import Derived.OwnWalkIn
import Derived.TacticsInMore
namespace Go.Proofs.Ytchjmhgalbkjkab
open Go.RowKit Go.Shelf
set_option linter.unusedVariables false
set_option linter.unusedSimpArgs false
section
variable {F : Fence} {n : Nat} {P : Program} {ops : Array Oper} {Q : Exit → Act → World → Prop}
theorem set_getD (L : Array Bool) (i k : Nat) (d : Bool) (hi : i < L.size) : (L.setIfInBounds i true).getD k d = if k = i then true else L.getD k d := by
  simp only [Array.getD_eq_getD_getElem?, Array.getElem?_setIfInBounds]
  by_cases h : i = k
  · subst h
    simp [hi]
  · rw [if_neg h, if_neg (Ne.symm h)]
theorem tfB {b c : Bool} (h : b = false → c = false) (hc : c = true) : b = true := by
  cases b with
  | true => rfl
  | false => rw [h rfl] at hc; cases hc
/-- a region that draws its order, by what holds of what is done -/
theorem any_inv (Inv : Array Bool → Act → World → Prop) (hsz : ∀ L a w, Inv L a w → L.size = ops.size)
    (step : ∀ L a w, Inv L a w → ∀ i, i < ops.size → L.getD i true = false → i ∈ Region.ready .any ops L → wpOpIn F n P ops Q i (Inv (L.setIfInBounds i true)) a w)
    (fin : ∀ L a w, Inv L a w → Region.ready .any ops L = [] → Q .normal a w) :
    ∀ (fuel : Nat) (L : Array Bool) (a : Act) (w : World), Inv L a w → L.toList.count false ≤ fuel → wpAnyIn F n P .any ops Q fuel L a w
  | 0, L, a, w, h, hc => by
    have hr : Region.ready .any ops L = [] := by
      unfold Region.ready
      rw [List.filter_eq_nil_iff]
      intro i hi
      have hi2 : i < ops.size := by simpa using hi
      have hlt : i < L.size := by rw [hsz L a w h]; exact hi2
      have : L[i] = true := by
        cases e : L[i] with
        | true => rfl
        | false =>
          have hm : false ∈ L.toList := by
            rw [← e]
            exact Array.getElem_mem_toList ..
          have := List.count_pos_iff.2 hm
          omega
      simp [Array.getD, hlt, this]
    exact ⟨hr, fin L a w h hr⟩
  | fuel + 1, L, a, w, h, hc => by
    refine ⟨fun hr => fin L a w h hr, fun i hi => ?_⟩
    have hi2 := hi
    unfold Region.ready at hi2
    rw [List.mem_filter] at hi2
    obtain ⟨h1, h2⟩ := hi2
    have hlt : i < ops.size := by simpa using h1
    have hf : L.getD i true = false := by
      simp at h2
      rw [Array.getD_eq_getD_getElem?]
      exact h2.1
    refine wpOpIn_mono (fun a' w' h' => any_inv Inv hsz step fin fuel _ a' w' h' ?_) (step L a w h i hlt hf hi)
    have hls : i < L.size := by rw [hsz L a w h]; exact hlt
    have hfe : L[i] = false := by simpa [Array.getD, hls] using hf
    have hset : (L.setIfInBounds i true).toList = L.toList.set i true := by simp
    rw [hset]
    have hls2 : i < L.toList.length := by rw [Array.length_toList]; exact hls
    have hget : L.toList[i]'hls2 = false := by rw [Array.getElem_toList]; exact hfe
    have hpos : 0 < L.toList.count false := List.count_pos_iff.2 (by rw [← hget]; exact List.getElem_mem _)
    rw [List.count_set hls2, hget, show ((false : Bool) == false) = true from rfl, show ((true : Bool) == false) = false from rfl, if_pos rfl, if_neg (by decide)]
    omega
end
/-- the frame, by what its slots hold -/
def FR (x0 p1 p2 : Value) (f : Nat → Value) : Act := { tmps := #[x0, p1, p2, (f 3), (f 4), (f 5), (f 6), (f 7), (f 8), (f 9), (f 10), (f 11), (f 12), (f 13), (f 14), (f 15)], defers := [] }
def upd (f : Nat → Value) (k : Nat) (v : Value) : Nat → Value := fun j => if j = k then v else f j
/-- what the operations answer -/
def valP (l B tok off len : Nat) (T : ByteArray) : Nat → Value
  | 0 => .func (.yield l) #[] #[]
  | 1 => .pointer (some ⟨B, 0, none⟩)
  | 2 => .int .i64 (tok : Int)
  | 3 => .pointer (some ⟨B, 1, none⟩)
  | 4 => .string T
  | 5 => .string T
  | 6 => .pointer (some ⟨B, 2, none⟩)
  | 7 => .int .i64 (off : Int)
  | 8 => .pointer (some ⟨B, 3, none⟩)
  | 9 => .int .i64 (len : Int)
  | _ => .agg #[.string T, .int .i64 (off : Int), .int .i64 (len : Int)]
def depsP : List (Nat × Nat) := [(2, 1), (4, 3), (5, 4), (7, 6), (9, 8), (10, 5), (10, 7), (10, 9), (11, 0), (11, 2), (11, 10), (12, 11)]
structure InvP (x0 p1 p2 : Value) (vl : Nat → Value) (G : World → Prop) (Post : Value → World → Prop) (L : Array Bool) (a : Act) (w : World) : Prop where
  size : L.size = 13
  ex : ∃ f, a = FR x0 p1 p2 f ∧ (∀ k, k ≤ 10 → L.getD k false = true → f (k + 4) = vl k) ∧ (L.getD 11 false = true → Post (f 15) w) ∧ (L.getD 12 false = true → f 3 = f 15)
  ahead : L.getD 11 false = true → ∀ k, k ≤ 10 → L.getD k false = true
  grown : L.getD 11 false = false → G w
  last : L.getD 12 false = true → L.getD 11 false = true
  closed : ∀ p, p ∈ depsP → L.getD p.1 false = true → L.getD p.2 false = true
theorem InvP.step {x0 p1 p2 : Value} {vl : Nat → Value} {G : World → Prop} {Post : Value → World → Prop} {L : Array Bool} {f : Nat → Value} {w : World} (h : InvP x0 p1 p2 vl G Post L (FR x0 p1 p2 f) w) (hf : ∀ k, k ≤ 10 → L.getD k false = true → f (k + 4) = vl k) (i : Nat) (hi : i ≤ 10) (h0 : L.getD i true = false) (w' : World) (hG : G w') (hd : ∀ p, p ∈ depsP → p.1 = i → L.getD p.2 false = true) : InvP x0 p1 p2 vl G Post (L.setIfInBounds i true) (FR x0 p1 p2 (upd f (i + 4) (vl i))) w' := by
  have hsz := h.size
  have hlt : i < L.size := by omega
  have hi0 : L.getD i false = false := by
    simp only [Array.getD, dif_pos hlt] at h0 ⊢
    exact h0
  have h11 : L.getD 11 false = false := by
    cases e : L.getD 11 false with
    | false => rfl
    | true =>
      have := h.ahead e i hi
      rw [hi0] at this
      cases this
  have h12 : L.getD 12 false = false := by
    cases e : L.getD 12 false with
    | false => rfl
    | true =>
      have := h.last e
      rw [h11] at this
      cases this
  refine ⟨by simpa using hsz, ⟨_, rfl, fun k hk hl => ?_, fun hl => ?_, fun hl => ?_⟩, fun hl => ?_, fun _ => hG, fun hl => ?_, fun p hp hl => ?_⟩
  · rw [set_getD L i k false hlt] at hl
    unfold upd
    by_cases e : k = i
    · subst e
      rw [if_pos rfl]
    · rw [if_neg (by omega)]
      rw [if_neg e] at hl
      exact hf k hk hl
  · rw [set_getD L i 11 false hlt, if_neg (by omega), h11] at hl
    cases hl
  · rw [set_getD L i 12 false hlt, if_neg (by omega), h12] at hl
    cases hl
  · rw [set_getD L i 11 false hlt, if_neg (by omega), h11] at hl
    cases hl
  · rw [set_getD L i 12 false hlt, if_neg (by omega), h12] at hl
    cases hl
  · rw [set_getD L i p.1 false hlt] at hl
    rw [set_getD L i p.2 false hlt]
    by_cases e2 : p.2 = i
    · rw [if_pos e2]
    · rw [if_neg e2]
      by_cases e : p.1 = i
      · exact hd p hp e
      · rw [if_neg e] at hl
        exact h.closed p hp hl
theorem getD_of? (L : Array Bool) (k : Nat) : L[k]?.getD false = L.getD k false := (Array.getD_eq_getD_getElem? ..).symm
def encP (s : ByteArray) (x : Lz.Sq) : Array Value := #[.int .i64 (x.token : Int), .agg #[.string (s.extract x.frm (x.frm + x.many)), .int .i64 (x.off : Int), .int .i64 (x.len : Int)]]
set_option maxRecDepth 100000 in
set_option maxHeartbeats 2000000 in
theorem hand_in (n : Nat) (yt : TypeId) (l yb : Nat) (s : ByteArray) (x : Lz.Sq) (w : World) (Post : Value → World → Prop) (hs : (s.extract x.frm (x.frm + x.many)).size ≤ 140737488355328)
    (hyb : w.heap[yb]? = some (.cells #[.func (.yield l) #[] #[]] yt (0, 0)))
    (hY : ∀ w2, Below w.heap.size w w2 → YieldAt Fence.wide (n - 1) Try.prog l (encP s x) w2 fun e w' => ∃ v, e = .returned v ∧ Post v w') :
    CallsIn Fence.wide n Try.prog 28 #[sqv s x, .pointer (some ⟨yb, 0, none⟩)] w fun e w' => ∃ v, e = .returned v ∧ Post v w' := by
  obtain ⟨tok, frm, many, off, len⟩ := x
  obtain ⟨T, hT⟩ : ∃ T, s.extract frm (frm + many) = T := ⟨_, rfl⟩
  unfold sqv
  simp only [encP, hT] at hY hs ⊢
  have hlt := (Array.getElem?_eq_some_iff.1 hyb).1
  have HY := Hid.mk' hY
  clear hY
  refine callsIn_of_wp Try.func28 rfl trivial ?_ rfl
  simp only [Try.ntmps28, List.size_toArray, List.length_cons, List.length_nil, Nat.reduceAdd, Nat.reduceSub, Array.replicate_succ, Array.replicate_zero, List.push_toArray, List.append_toArray, List.nil_append, List.cons_append]
  gi_wp2
  obtain ⟨w1, hw1⟩ : ∃ w1, w.alloc (.cells #[.int .i64 (tok : Int), .string T, .int .i64 (off : Int), .int .i64 (len : Int)] 67) = w1 := ⟨_, rfl⟩
  rw [hw1]
  have hB : w1.heap[w.heap.size]? = some (.cells #[.int .i64 (tok : Int), .string T, .int .i64 (off : Int), .int .i64 (len : Int)] 67 (0, 0)) := by rw [← hw1]; exact World.alloc_heap_new w _
  have hb1 : Below w.heap.size w w1 := by rw [← hw1]; exact (Below.refl _ _).alloc (Nat.le_refl _) _
  have hz1 : w1.heap.size = w.heap.size + 1 := by rw [← hw1]; simp
  refine wpIn_region_any (by kernel_rfl) ?_
  refine any_inv (InvP (.agg #[.int .i64 (tok : Int), .string T, .int .i64 (off : Int), .int .i64 (len : Int)]) (.pointer (some ⟨yb, 0, none⟩)) (.pointer (some ⟨w.heap.size, 0, none⟩)) (valP l w.heap.size tok off len T) (fun X => Below w1.heap.size w1 X) Post) ?_ ?_ ?_ _ _ _ _ ?_ ?_
  · intro L a X h
    exact h.size
  · intro L a X h i hi h0 hr
    obtain ⟨f, rfl, hv, hp, hq⟩ := h.ex
    have cases13 : i = 0 ∨ i = 1 ∨ i = 2 ∨ i = 3 ∨ i = 4 ∨ i = 5 ∨ i = 6 ∨ i = 7 ∨ i = 8 ∨ i = 9 ∨ i = 10 ∨ i = 11 ∨ i = 12 := by
      have : i < 13 := hi
      omega
    have G : i ≤ 10 → Below w1.heap.size w1 X := fun h10 => by
      refine h.grown ?_
      cases e : L.getD 11 false with
      | false => rfl
      | true =>
        have h1 := h.ahead e i h10
        have hlt : i < L.size := by rw [h.size]; omega
        simp only [Array.getD, dif_pos hlt] at h0 h1
        rw [h1] at h0
        cases h0
    have hcell : ∀ (k : Nat) (v : Value), Below w1.heap.size w1 X → (#[Value.int .i64 (tok : Int), .string T, .int .i64 (off : Int), .int .i64 (len : Int)] : Array Value)[k]? = some v → X.cell? ⟨w.heap.size, k, none⟩ = some v := by
      intro k v g hk
      have h1 := g.block w.heap.size (by omega)
      simp [World.cell?, h1, hB, hk]
    rcases cases13 with rfl | rfl | rfl | rfl | rfl | rfl | rfl | rfl | rfl | rfl | rfl | rfl | rfl
    · have g := G (by omega)
      have c : X.cell? ⟨yb, 0, none⟩ = some (.func (.yield l) #[] #[]) := by
        have h1 := g.block yb (by omega)
        have h2 := hb1.block yb hlt
        simp [World.cell?, h1, h2, hyb]
      have hst := h.step hv 0 (by omega) h0 X g (by simp [depsP])
      simp [wpOpIn, Region.wanted, Oper.wpIn, Oper.semAt_none, execOp, Oper.uponIn, FR, go_sem, c]
      exact hst
    · have g := G (by omega)
      have hr2 := (List.mem_filter.1 hr).2
      clear hr
      simp [Region.binds] at hr2
      simp only [← Array.getD_eq_getD_getElem?] at hr2
      have hst := fun (Y : World) (gY : Below w1.heap.size w1 Y) => h.step hv 1 (by omega) h0 Y gY (by simp [depsP])
      simp [wpOpIn, Region.wanted, Oper.wpIn, Oper.semAt_none, execOp, Oper.uponIn, FR, go_sem]
      exact hst X g
    · have g := G (by omega)
      have hr2 := (List.mem_filter.1 hr).2
      clear hr
      simp [Region.binds] at hr2
      simp only [← Array.getD_eq_getD_getElem?] at hr2
      have hst := fun (Y : World) (gY : Below w1.heap.size w1 Y) => h.step hv 2 (by omega) h0 Y gY (by simp [depsP]; simp only [← Array.getD_eq_getD_getElem?, hr2])
      have e1 : f 5 = .pointer (some ⟨w.heap.size, 0, none⟩) := hv 1 (by omega) hr2.2
      have c := hcell 0 _ g rfl
      simp [wpOpIn, Region.wanted, Oper.wpIn, Oper.semAt_none, execOp, Oper.uponIn, FR, go_sem, e1, c]
      have := hst X g
      simp only [FR, upd, e1] at this
      exact this
    · have g := G (by omega)
      have hr2 := (List.mem_filter.1 hr).2
      clear hr
      simp [Region.binds] at hr2
      simp only [← Array.getD_eq_getD_getElem?] at hr2
      have hst := fun (Y : World) (gY : Below w1.heap.size w1 Y) => h.step hv 3 (by omega) h0 Y gY (by simp [depsP])
      simp [wpOpIn, Region.wanted, Oper.wpIn, Oper.semAt_none, execOp, Oper.uponIn, FR, go_sem]
      exact hst X g
    · have g := G (by omega)
      have hr2 := (List.mem_filter.1 hr).2
      clear hr
      simp [Region.binds] at hr2
      simp only [← Array.getD_eq_getD_getElem?] at hr2
      have hst := fun (Y : World) (gY : Below w1.heap.size w1 Y) => h.step hv 4 (by omega) h0 Y gY (by simp [depsP]; simp only [← Array.getD_eq_getD_getElem?, hr2])
      have e1 : f 7 = .pointer (some ⟨w.heap.size, 1, none⟩) := hv 3 (by omega) hr2.2
      have c := hcell 1 _ g rfl
      simp [wpOpIn, Region.wanted, Oper.wpIn, Oper.semAt_none, execOp, Oper.uponIn, FR, go_sem, e1, c]
      have := hst X g
      simp only [FR, upd, e1] at this
      exact this
    · have g := G (by omega)
      have hr2 := (List.mem_filter.1 hr).2
      clear hr
      simp [Region.binds] at hr2
      simp only [← Array.getD_eq_getD_getElem?] at hr2
      have hst := fun (Y : World) (gY : Below w1.heap.size w1 Y) => h.step hv 5 (by omega) h0 Y gY (by simp [depsP]; simp only [← Array.getD_eq_getD_getElem?, hr2])
      have e1 : f 8 = .string T := hv 4 (by omega) hr2.2
      simp [wpOpIn, Region.wanted, Oper.wpIn, Oper.semAt_none, execOp, Oper.uponIn, FR, go_sem, e1]
      refine ⟨trivial, fun h => (by cases h), ?_⟩
      refine CallsIn.mono (callsIn_wide.2 (clone_any T X (by omega))) ?_
      rintro e Y ⟨rfl, hb⟩
      have := hst Y (g.trans (hb.mono g.size))
      simp only [FR, upd, e1] at this
      exact this
    · have g := G (by omega)
      have hr2 := (List.mem_filter.1 hr).2
      clear hr
      simp [Region.binds] at hr2
      simp only [← Array.getD_eq_getD_getElem?] at hr2
      have hst := fun (Y : World) (gY : Below w1.heap.size w1 Y) => h.step hv 6 (by omega) h0 Y gY (by simp [depsP])
      simp [wpOpIn, Region.wanted, Oper.wpIn, Oper.semAt_none, execOp, Oper.uponIn, FR, go_sem]
      exact hst X g
    · have g := G (by omega)
      have hr2 := (List.mem_filter.1 hr).2
      clear hr
      simp [Region.binds] at hr2
      simp only [← Array.getD_eq_getD_getElem?] at hr2
      have hst := fun (Y : World) (gY : Below w1.heap.size w1 Y) => h.step hv 7 (by omega) h0 Y gY (by simp [depsP]; simp only [← Array.getD_eq_getD_getElem?, hr2])
      have e1 : f 10 = .pointer (some ⟨w.heap.size, 2, none⟩) := hv 6 (by omega) hr2.2
      have c := hcell 2 _ g rfl
      simp [wpOpIn, Region.wanted, Oper.wpIn, Oper.semAt_none, execOp, Oper.uponIn, FR, go_sem, e1, c]
      have := hst X g
      simp only [FR, upd, e1] at this
      exact this
    · have g := G (by omega)
      have hr2 := (List.mem_filter.1 hr).2
      clear hr
      simp [Region.binds] at hr2
      simp only [← Array.getD_eq_getD_getElem?] at hr2
      have hst := fun (Y : World) (gY : Below w1.heap.size w1 Y) => h.step hv 8 (by omega) h0 Y gY (by simp [depsP])
      simp [wpOpIn, Region.wanted, Oper.wpIn, Oper.semAt_none, execOp, Oper.uponIn, FR, go_sem]
      exact hst X g
    · have g := G (by omega)
      have hr2 := (List.mem_filter.1 hr).2
      clear hr
      simp [Region.binds] at hr2
      simp only [← Array.getD_eq_getD_getElem?] at hr2
      have hst := fun (Y : World) (gY : Below w1.heap.size w1 Y) => h.step hv 9 (by omega) h0 Y gY (by simp [depsP]; simp only [← Array.getD_eq_getD_getElem?, hr2])
      have e1 : f 12 = .pointer (some ⟨w.heap.size, 3, none⟩) := hv 8 (by omega) hr2.2
      have c := hcell 3 _ g rfl
      simp [wpOpIn, Region.wanted, Oper.wpIn, Oper.semAt_none, execOp, Oper.uponIn, FR, go_sem, e1, c]
      have := hst X g
      simp only [FR, upd, e1] at this
      exact this
    · have g := G (by omega)
      have hr2 := (List.mem_filter.1 hr).2
      clear hr
      simp [Region.binds] at hr2
      simp only [← Array.getD_eq_getD_getElem?] at hr2
      have hst := fun (Y : World) (gY : Below w1.heap.size w1 Y) => h.step hv 10 (by omega) h0 Y gY (by simp [depsP]; simp only [← Array.getD_eq_getD_getElem?, hr2, and_self])
      have e1 : f 9 = .string T := hv 5 (by omega) hr2.2.1
      have e2 : f 11 = .int .i64 (off : Int) := hv 7 (by omega) hr2.2.2.1
      have e3 : f 13 = .int .i64 (len : Int) := hv 9 (by omega) hr2.2.2.2
      simp [wpOpIn, Region.wanted, Oper.wpIn, Oper.semAt_none, execOp, Oper.uponIn, FR, go_sem, e1, e2, e3]
      have := hst X g
      simp only [FR, upd, e1, e2, e3] at this
      exact this
    · have hr2 := (List.mem_filter.1 hr).2
      clear hr
      simp [Region.binds] at hr2
      simp only [← Array.getD_eq_getD_getElem?] at hr2
      have hsz := h.size
      have l11 : L.getD 11 false = false := by
        have h1 := hr2.1
        simp only [Array.getD, dif_pos (show 11 < L.size by omega)] at h1 ⊢
        exact h1
      have l12 : L.getD 12 false = false := by
        cases e : L.getD 12 false with
        | false => rfl
        | true =>
          have := h.last e
          rw [l11] at this
          cases this
      have g := h.grown l11
      have e1 : f 4 = .func (.yield l) #[] #[] := hv 0 (by omega) hr2.2.1
      have e2 : f 6 = .int .i64 (tok : Int) := hv 2 (by omega) hr2.2.2.1
      have e3 : f 14 = .agg #[.string T, .int .i64 (off : Int), .int .i64 (len : Int)] := hv 10 (by omega) hr2.2.2.2.1
      have all : ∀ k, k ≤ 10 → L.getD k false = true := by
        have c := h.closed
        simp only [depsP, List.mem_cons, List.not_mem_nil, or_false, forall_eq_or_imp, forall_eq] at c
        obtain ⟨c1, c2, c3, c4, c5, c6, c7, c8, _⟩ := c
        have l10 := hr2.2.2.2.1
        have l5 := c6 l10
        have l7 := c7 l10
        have l9 := c8 l10
        have l4 := c3 l5
        intro k hk
        have : k = 0 ∨ k = 1 ∨ k = 2 ∨ k = 3 ∨ k = 4 ∨ k = 5 ∨ k = 6 ∨ k = 7 ∨ k = 8 ∨ k = 9 ∨ k = 10 := by omega
        rcases this with rfl | rfl | rfl | rfl | rfl | rfl | rfl | rfl | rfl | rfl | rfl
        · exact hr2.2.1
        · exact c1 hr2.2.2.1
        · exact hr2.2.2.1
        · exact c2 l4
        · exact l4
        · exact l5
        · exact c4 l7
        · exact l7
        · exact c5 l9
        · exact l9
        · exact l10
      obtain ⟨fn, tmps, assign, body, hy, hR⟩ := HY.out X (hb1.trans (g.mono (by omega)))
      simp [wpOpIn, Region.wanted, Oper.wpIn, Oper.semAt_none, execOp, Oper.uponIn, FR, go_sem, e1, e2, e3, hy]
      refine ⟨fun h => (by cases h), hR.mono ?_⟩
      rintro e Y ⟨v, rfl, hpost⟩
      have hl11 : (11 : Nat) < L.size := by omega
      refine ⟨by simpa using hsz, ⟨upd f 15 v, by simp [FR, upd, e1, e2, e3], fun k hk hl => ?_, fun hl => ?_, fun hl => ?_⟩, fun hl k hk => ?_, fun hl => ?_, fun hl => ?_, fun p hp hl => ?_⟩
      · unfold upd
        rw [if_neg (by omega)]
        exact hv k hk (all k hk)
      · exact hpost
      · rw [set_getD L 11 12 false hl11, if_neg (by omega), l12] at hl
        cases hl
      · rw [set_getD L 11 k false hl11, if_neg (by omega)]
        exact all k hk
      · rw [set_getD L 11 11 false hl11, if_pos rfl] at hl
        cases hl
      · rw [set_getD L 11 11 false hl11, if_pos rfl]
      · rw [set_getD L 11 p.1 false hl11] at hl
        rw [set_getD L 11 p.2 false hl11]
        by_cases e2 : p.2 = 11
        · rw [if_pos e2]
        · rw [if_neg e2]
          refine all _ ?_
          simp [depsP] at hp
          rcases hp with rfl | rfl | rfl | rfl | rfl | rfl | rfl | rfl | rfl | rfl | rfl | rfl <;> first | omega | exact absurd rfl e2
    · have hr2 := (List.mem_filter.1 hr).2
      clear hr
      simp [Region.binds] at hr2
      simp only [← Array.getD_eq_getD_getElem?] at hr2
      have hsz := h.size
      have l11 := hr2.2.1
      simp [wpOpIn, Region.wanted, Oper.wpIn, Oper.semAt_none, execOp, Oper.uponIn, FR, go_sem]
      have hl12 : (12 : Nat) < L.size := by omega
      refine ⟨by simpa using hsz, ⟨upd f 3 (f 15), by simp [FR, upd], fun k hk hl => ?_, fun hl => ?_, fun hl => ?_⟩, fun hl k hk => ?_, fun hl => ?_, fun hl => ?_, fun p hp hl => ?_⟩
      · rw [set_getD L 12 k false hl12, if_neg (by omega)] at hl
        unfold upd
        rw [if_neg (by omega)]
        exact hv k hk hl
      · unfold upd
        rw [if_neg (by omega)]
        exact hp l11
      · simp [upd]
      · rw [set_getD L 12 k false hl12, if_neg (by omega)]
        exact h.ahead l11 k hk
      · rw [set_getD L 12 11 false hl12, if_neg (by omega), l11] at hl
        cases hl
      · rw [set_getD L 12 11 false hl12, if_neg (by omega)]
        exact l11
      · rw [set_getD L 12 p.1 false hl12] at hl
        rw [set_getD L 12 p.2 false hl12]
        by_cases e2 : p.2 = 12
        · rw [if_pos e2]
        · rw [if_neg e2]
          by_cases e : p.1 = 12
          · simp [depsP] at hp
            rcases hp with rfl | rfl | rfl | rfl | rfl | rfl | rfl | rfl | rfl | rfl | rfl | rfl <;> first | exact l11 | exact absurd e (by decide)
          · rw [if_neg e] at hl
            exact h.closed p ‹_› hl
  · intro L a X h hr
    have hsz := h.size
    obtain ⟨f, rfl, hv, hp, hq⟩ := h.ex
    have TF : ∀ k, k < 13 → L.getD k true = L.getD k false := by
      intro k hk
      simp only [Array.getD, dif_pos (show k < L.size by omega)]
    have R := List.filter_eq_nil_iff.1 hr
    clear hr
    have l0 := R 0 (by simp)
    simp [Region.binds] at l0
    simp only [← Array.getD_eq_getD_getElem?, TF 0 (by omega)] at l0
    have l1 := R 1 (by simp)
    simp [Region.binds] at l1
    simp only [← Array.getD_eq_getD_getElem?, TF 1 (by omega)] at l1
    have l2 := R 2 (by simp)
    simp [Region.binds] at l2
    simp only [← Array.getD_eq_getD_getElem?, TF 2 (by omega)] at l2
    have l3 := R 3 (by simp)
    simp [Region.binds] at l3
    simp only [← Array.getD_eq_getD_getElem?, TF 3 (by omega)] at l3
    have l4 := R 4 (by simp)
    simp [Region.binds] at l4
    simp only [← Array.getD_eq_getD_getElem?, TF 4 (by omega)] at l4
    have l5 := R 5 (by simp)
    simp [Region.binds] at l5
    simp only [← Array.getD_eq_getD_getElem?, TF 5 (by omega)] at l5
    have l6 := R 6 (by simp)
    simp [Region.binds] at l6
    simp only [← Array.getD_eq_getD_getElem?, TF 6 (by omega)] at l6
    have l7 := R 7 (by simp)
    simp [Region.binds] at l7
    simp only [← Array.getD_eq_getD_getElem?, TF 7 (by omega)] at l7
    have l8 := R 8 (by simp)
    simp [Region.binds] at l8
    simp only [← Array.getD_eq_getD_getElem?, TF 8 (by omega)] at l8
    have l9 := R 9 (by simp)
    simp [Region.binds] at l9
    simp only [← Array.getD_eq_getD_getElem?, TF 9 (by omega)] at l9
    have l10 := R 10 (by simp)
    simp [Region.binds] at l10
    simp only [← Array.getD_eq_getD_getElem?, TF 10 (by omega)] at l10
    have l11 := R 11 (by simp)
    simp [Region.binds] at l11
    simp only [← Array.getD_eq_getD_getElem?, TF 11 (by omega)] at l11
    have l12 := R 12 (by simp)
    simp [Region.binds] at l12
    simp only [← Array.getD_eq_getD_getElem?, TF 12 (by omega)] at l12
    have m2 := tfB l2 l1
    have m4 := tfB l4 l3
    have m5 := tfB l5 m4
    have m7 := tfB l7 l6
    have m9 := tfB l9 l8
    have m10 := tfB (fun h => l10 h m5 m7) m9
    have m11 := tfB (fun h => l11 h l0 m2 m10) m5
    have m12 := tfB (fun h => l12 h m11 l0 l1 m2 l3 m4 m5 l6 m7 l8 m9 m10) m11
    rename_i Q' K hK
    refine hK _ _ ?_
    have hpost := hp m11
    have heq := hq m12
    clear R TF l0 l1 l2 l3 l4 l5 l6 l7 l8 l9 l10 l11 l12 m2 m4 m5 m7 m9 m10 m11 m12 hv hp hq h
    simp only [FR, heq]
    gi_wp2
    go_ret
    exact ⟨_, rfl, hpost⟩
  · have h0 : ∀ k, (Array.replicate 13 false).getD k false = false := by
      intro k
      simp only [Array.getD]
      split <;> simp
    refine ⟨by simp, ⟨fun k => if k = 3 then .bool false else undef, rfl, fun k _ h => ?_, fun h => ?_, fun h => ?_⟩, fun h => ?_, fun _ => ?_, fun h => ?_, fun p _ h2 => ?_⟩
    · cases (h0 k).symm.trans h
    · cases (h0 11).symm.trans h
    · cases (h0 12).symm.trans h
    · cases (h0 11).symm.trans h
    · exact (Below.refl w1.heap.size w1).drewN' 1
    · cases (h0 12).symm.trans h
    · cases (h0 _).symm.trans h2
  · decide
end Go.Proofs.Ytchjmhgalbkjkab
