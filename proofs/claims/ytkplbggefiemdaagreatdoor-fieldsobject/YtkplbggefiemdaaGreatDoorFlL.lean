/-
  fields: a line that is no object is gone through: a function that hands its fields over. Conditions: as each says.
-/
import Derived.Test.YtkplbggefiemdaaGreatDoorFmA
import Derived.Test.YtkplbggefiemdaaGreatDoorRngN
import Derived.Sort.BigQuietIn
import Derived.Shelf.Abstract
import Derived.OwnWalkIn
import Derived.TacticsInMore
import Derived.LoopNIn
import Derived.LoopIn
import Derived.Lib.MinMax
namespace Go.Proofs.YtkplbggefiemdaaGreatDoor
open Go.RowKit Go.Shelf
set_option linter.unusedVariables false
set_option linter.unusedSimpArgs false
attribute [local go_sem] Oper.semAt_some
theorem room_any {F : Fence} (hd : F.depth = none) (k : Nat) : F.room k := fun d h => by rw [hd] at h; cases h
theorem yield_depth {m : Nat} (m' : Nat) {P : Program} {l : Nat} {args : Array Value} {W : World} {R : Ending → World → Prop} (h : YieldAt Fence.wide m P l args W R) : YieldAt Fence.wide m' P l args W R := by
  obtain ⟨fn, tmps, assign, body, hy, hR⟩ := h
  exact ⟨fn, tmps, assign, body, hy, hR.1, fun c cs _ => hR.2 c cs (room_any rfl _)⟩
theorem calls_depth {n : Nat} (m : Nat) {P : Program} {f : FuncId} {args : Array Value} {W : World} {R : Ending → World → Prop} (h : CallsIn Fence.wide n P f args W R) : CallsIn Fence.wide m P f args W R := callsIn_wide.2 (callsIn_wide.1 h)
/-- the fields of a line that is no object -/
def wkF : Nat → List Nat → List (List Nat × List Nat)
  | 0, _ => []
  | n + 1, l => if l.isEmpty = true then [] else if (nameF (l.take (rwS nmB l)) && hasO 61 (l.drop (rwS nmB l))) = true then (l.take (rwS nmB l), (cvF ((l.drop (rwS nmB l)).drop 1)).1) :: wkF n (cvF ((l.drop (rwS nmB l)).drop 1)).2 else wkF n ((l.drop (rwS nmB l)).drop 1)
def wkL (l : List Nat) : List (List Nat × List Nat) := wkF (l.length + 1) l
def encP (x : List Nat × List Nat) : Array Value := #[.string (nums x.1), .string (nums x.2)]
theorem dep {q : Nat} : Fence.wide.depth.isSome = true → 1 ≤ q := fun h => by cases h
/-- rows of texts, of functions, of values stay -/
def KpT (W W' : World) : Prop := ∀ (k : Nat) (cs : Array Value) (t : TypeId) (fz : Nat × Nat), (t = 9 ∨ t = 55 ∨ t = 41) → W.heap[k]? = some (Obj.cells cs t fz) → W'.heap[k]? = some (Obj.cells cs t fz)
theorem KpT.refl (W : World) : KpT W W := fun _ _ _ _ _ h => h
theorem KpT.t {A B C : World} (h : KpT A B) (k : KpT B C) : KpT A C := fun i cs t fz ht hi => k i cs t fz ht (h i cs t fz ht hi)
theorem KpT.of {W W' : World} (h : Below W.heap.size W W') : KpT W W' := fun k cs t fz _ hk => (h.block k (Array.getElem?_eq_some_iff.1 hk).1).trans hk
theorem ByB.kp {L : List Nat} {b : Nat} {w w' : World} (h : ByB L b w) (hk : KpT w w') : ByB L b w' := by
  obtain ⟨c, s, h1, h2, h3⟩ := h
  exact ⟨c, s, h1, hk _ _ _ _ (.inr (.inl rfl)) h2, hk _ _ _ _ (.inl rfl) h3⟩
theorem cq_len : ∀ (n : Nat) (l m : List Nat), l.length ≤ n → ∀ a r, cqF l m = some (a, r) → r.length < l.length
  | _, [], m, _, a, r, h => by rw [cqF] at h; cases h
  | _, [x], m, _, a, r, h => by
    rw [cqF] at h
    split at h
    · cases h; simp
    · cases h
  | 0, x :: y :: t, m, hn, a, r, h => by simp at hn
  | 1, x :: y :: t, m, hn, a, r, h => by simp at hn
  | n + 2, x :: y :: t, m, hn, a, r, h => by
    simp only [List.length_cons] at hn ⊢
    rw [cqF] at h
    split at h
    · cases h; simp
    · split at h
      · split at h
        · have := cq_len n t _ (by omega) a r h; omega
        · have := cq_len n t _ (by omega) a r h; omega
      · have := cq_len (n + 1) (y :: t) _ (by simp; omega) a r h
        simp at this; omega
theorem cv_len (l : List Nat) : (cvF l).2.length ≤ l.length := by
  unfold cvF
  split
  · cases h : cqF (l.drop 1) [] with
    | none => simp [bareF]
    | some r => have := cq_len (l.drop 1).length (l.drop 1) [] (Nat.le_refl _) r.1 r.2 h; rw [List.length_drop] at this; simp only; omega
  · simp [bareF]
/-- does a text begin with a mark? -/
theorem hasEq (S : ByteArray) (w : World) : Calls Tryz.prog 82 #[.string S, .string ⟨#[61]⟩] w fun e w' => e = .returned (.bool (hasO 61 (Sums.bl S))) ∧ w' = w := by
  refine Calls.mono (Any.strings_HasPrefix YtkplbggefiemdaaGreatDoor.lays99 S ⟨#[61]⟩ w) ?_
  rintro e w' ⟨rfl, hw⟩
  refine ⟨congrArg (fun b => Ending.returned (.bool b)) ?_, hw⟩
  unfold Sums.bl
  cases S.data.toList with
  | nil => rfl
  | cons b l =>
    rw [List.map_cons]
    simp only [Lib.hasPrefix, hasO, List.isPrefixOf, Bool.and_true]
    rw [Bool.eq_iff_iff]
    simp only [beq_iff_eq]
    constructor
    · rintro rfl; rfl
    · intro e
      exact (UInt8.toNat_inj.1 (by rw [e]; rfl))
theorem wk_nil (n : Nat) : wkF n [] = [] := by cases n <;> rfl
theorem wk_skip (n : Nat) (l : List Nat) (k : Nat) (h0 : l ≠ []) (hk : rwS nmB l = k) (h : (nameF (l.take k) && hasO 61 (l.drop k)) = false) : wkF (n + 1) l = wkF n ((l.drop k).drop 1) := by
  rw [wkF, if_neg (by simpa using h0), hk, if_neg (by rw [h]; decide)]
theorem wk_take (n : Nat) (l : List Nat) (k : Nat) (h0 : l ≠ []) (hk : rwS nmB l = k) (h : (nameF (l.take k) && hasO 61 (l.drop k)) = true) : wkF (n + 1) l = (l.take k, (cvF ((l.drop k).drop 1)).1) :: wkF n (cvF ((l.drop k).drop 1)).2 := by
  rw [wkF, if_neg (by simpa using h0), hk, if_pos h]
def strS : Value → Nat
  | .string s => s.size
  | _ => 0
set_option maxRecDepth 100000 in
set_option maxHeartbeats 16000000 in
theorem walk_inN (q l : Nat) (S : ByteArray) (hS : S.size ≤ 140737488351232) (J Jx : List (List Nat × List Nat) → World → Prop) (V : World)
    (hJb : ∀ pre X Y, J pre X → Below X.heap.size X Y → J pre Y)
    (hY : ∀ m pre x X, J pre X → pre ++ [x] <+: wkL (Sums.bl S) → YieldAt Fence.wide m Tryz.prog l (encP x) X fun e Y =>
      (e = .returned (.bool true) ∧ J (pre ++ [x]) Y ∧ KpT X Y) ∨ (e = .returned (.bool false) ∧ Jx (pre ++ [x]) Y))
    (h0 : J [] V) :
    CallsIn Fence.wide q Tryz.prog 52 #[.string S, .func (.yield l) #[] #[]] V fun e Y => (∃ v, e = .returned v) ∧
      ((∃ ys, ys = wkL (Sums.bl S) ∧ J ys Y) ∨ (∃ pre, pre <+: wkL (Sums.bl S) ∧ Jx pre Y)) := by
  have hSI : (S.size : Int) ≤ 140737488351232 := by omega
  obtain ⟨WL, hWL⟩ : ∃ WL, wkL (Sums.bl S) = WL := ⟨_, rfl⟩
  have HWL : Hid (WL = wkF (S.size + 1) (Sums.bl S)) := Hid.mk' (by rw [← hWL]; unfold wkL; rw [Sums.bl_length])
  rw [hWL] at hY ⊢
  have HJB := Hid.mk' hJb
  have HY := Hid.mk' hY
  have H0 := Hid.mk' h0
  clear hJb hY h0 hWL
  refine callsIn_of_wp Tryz.func52 rfl trivial ?_ rfl
  simp only [Tryz.ntmps52, List.size_toArray, List.length_cons, List.length_nil, Nat.reduceAdd, Nat.reduceSub, Array.replicate_succ, Array.replicate_zero, List.push_toArray, List.append_toArray, List.nil_append, List.cons_append]
  gi_wp2
  refine ⟨trivial, dep, (callsIn_wide.2 (isNameByte_new V)).mono ?_⟩
  rintro e V1 ⟨rfl, hby, hb⟩
  have HJ1 : Hid (J [] V1) := Hid.mk' (HJB.out _ _ _ H0.out hb)
  have HBY1 := Hid.mk' hby
  clear hb hby H0
  obtain ⟨Bx, hBx⟩ : ∃ Bx, V.heap.size + 1 = Bx := ⟨_, rfl⟩
  rw [hBx] at HBY1 ⊢
  clear hBx
  unfold nmV
  gi_wp2
  gi_loopw [5] (fun rv wr => ∃ (R : ByteArray) (n : Nat) (dn : List (List Nat × List Nat)), rv = .string R ∧ R.size ≤ S.size ∧ R.size < n ∧ Hid (WL = dn ++ wkF n (Sums.bl R)) ∧ Hid (J dn wr) ∧ Hid (ByB nmL Bx wr)) (fun rv _ => strS rv)
  case atStart => exact ⟨S, S.size + 1, [], rfl, by omega, by omega, HWL, HJ1, HBY1⟩
  case round =>
    obtain ⟨R, n1, dn, rfl, hR, hn1, HE, HJ, HBY⟩ := hrel
    rename World => wr
    clear HJ1 HBY1 HWL
    by_cases h0 : R.size = 0
    · have hl : Sums.bl R = [] := List.eq_nil_of_length_eq_zero (by rw [Sums.bl_length]; exact h0)
      have hse : R = ByteArray.empty := Sums.bl_inj (hl.trans rfl)
      have HE2 : Hid (dn = WL) := Hid.mk' (by rw [HE.out, hl, wk_nil, List.append_nil])
      subst hse
      clear hl h0 HE
      gi_wp2
      go_end0
      exact ⟨⟨_, rfl⟩, .inl ⟨dn, HE2.out, HJ.out⟩⟩
    · obtain ⟨n, rfl⟩ : ∃ n, n1 = n + 1 := ⟨n1 - 1, by omega⟩
      have hti : R.toList.isEmpty = false := by
        rw [ByteArray.toList_eq]
        cases hd : R.data.toList with
        | nil =>
          have : R.size = 0 := by
            show R.data.size = 0
            rw [← Array.length_toList, hd]
            rfl
          omega
        | cons a b => rfl
      have htn : ¬ R.toList = [] := fun e => by rw [e] at hti; cases hti
      have hne : Sums.bl R ≠ [] := fun e => by have := Sums.bl_length R; rw [e] at this; simp at this; omega
      have HRS := Hid.mk' (rowSize_name R Bx wr (by omega) HBY.out)
      obtain ⟨k, hk⟩ : ∃ k, rwS nmB (Sums.bl R) = k := ⟨_, rfl⟩
      have hks : k ≤ R.size := by have := rwS_le nmB (Sums.bl R); rw [Sums.bl_length, hk] at this; exact this
      rw [hk] at HRS
      have hkI : (k : Int) ≤ (R.size : Int) := by omega
      have hRI : (R.size : Int) ≤ 140737488351232 := by omega
      have s1 := fun W => sl_to R k W hks
      have s2 := fun W => sl_on R k W hks
      have hbN : Sums.bl (R.extract 0 k) = (Sums.bl R).take k := Sums.bl_take R k
      have hbB : Sums.bl (R.extract k R.size) = (Sums.bl R).drop k := Sums.bl_drop R k
      obtain ⟨NM, hNM⟩ : ∃ NM, R.extract 0 k = NM := ⟨_, rfl⟩
      obtain ⟨BH, hBH⟩ : ∃ BH, R.extract k R.size = BH := ⟨_, rfl⟩
      rw [hNM] at s1 hbN
      rw [hBH] at s2 hbB
      have HNM := Hid.mk' hNM
      have HBH := Hid.mk' hBH
      have hNs : NM.size ≤ 281474976710656 := by have := Sums.bl_length NM; rw [hbN, List.length_take, Sums.bl_length] at this; omega
      have hBs : BH.size = R.size - k := by have := Sums.bl_length BH; rw [hbB, List.length_drop, Sums.bl_length] at this; omega
      have HNA := Hid.mk' (fun X => fname_any NM X hNs)
      have HEQ := Hid.mk' (fun X => hasEq BH X)
      obtain ⟨p, hp⟩ : ∃ p, nameF (Sums.bl NM) = p := ⟨_, rfl⟩
      obtain ⟨h, hh⟩ : ∃ h, hasO 61 (Sums.bl BH) = h := ⟨_, rfl⟩
      rw [hp] at HNA
      rw [hh] at HEQ
      obtain ⟨R2, hR2⟩ : ∃ R2, BH.extract (min 1 BH.size) BH.size = R2 := ⟨_, rfl⟩
      have hbR2 : Sums.bl R2 = (Sums.bl BH).drop 1 := by
        rw [← hR2, Sums.bl_drop]
        by_cases hz : BH.size = 0
        · rw [hz, List.drop_eq_nil_of_le (by rw [Sums.bl_length]; omega), List.drop_eq_nil_of_le (by rw [Sums.bl_length]; omega)]
        · rw [show min 1 BH.size = 1 by omega]
      have hR2s : R2.size ≤ R.size - 1 := by have := Sums.bl_length R2; rw [hbR2, List.length_drop, Sums.bl_length] at this; omega
      have s3 := fun W => sl_on BH (min 1 BH.size) W (by omega)
      rw [hR2] at s3
      have HX : Hid (BH.extract (min 1 (BH.size : Int)).toNat BH.size = R2) := Hid.mk' (by rw [← hR2]; congr 1; omega)
      have hmc : ((min 1 BH.size : Nat) : Int) = min 1 (BH.size : Int) := by omega
      rw [hmc] at s3
      have HSK : Hid ((p && h) = false → WL = dn ++ wkF n (Sums.bl R2)) := Hid.mk' (fun hph => by
        rw [HE.out, wk_skip n _ k hne hk (by rw [← hbN, ← hbB, hp, hh]; exact hph), ← hbB, ← hbR2])
      have HTK : Hid ((p && h) = true → WL = dn ++ ((Sums.bl NM, (cvF (Sums.bl R2)).1) :: wkF n (cvF (Sums.bl R2)).2)) := Hid.mk' (fun hph => by
        rw [HE.out, wk_take n _ k hne hk (by rw [← hbN, ← hbB, hp, hh]; exact hph), ← hbB, ← hbR2, ← hbN])
      have HB1 : Hid (BH.size ≥ 1 → BH.extract 1 BH.size = R2) := Hid.mk' (fun hz => by rw [← hR2, show min 1 BH.size = 1 by omega])
      have HH1 : Hid (h = true → 1 ≤ BH.size) := Hid.mk' (fun e => by
        rw [e] at hh
        rcases Nat.lt_or_ge 0 BH.size with z | z
        · exact z
        · have : Sums.bl BH = [] := List.eq_nil_of_length_eq_zero (by rw [Sums.bl_length]; omega)
          rw [this] at hh
          cases hh)
      have HBS := Hid.mk' hBs
      clear hBs hmc hbR2 hbN hbB hNM hBH hp hh hR2 hk hne HE
      gi_wp2
      refine ⟨trivial, dep, (callsIn_wide.2 HRS.out).mono ?_⟩
      rintro e w2 ⟨rfl, nd, hw2⟩
      have HJ2 : Hid (J dn w2) := Hid.mk' (by rw [hw2]; exact HJB.out _ _ _ HJ.out ((Below.refl _ _).drewN' nd))
      have HBY2 : Hid (ByB nmL Bx w2) := Hid.mk' (by rw [hw2]; exact HBY.out)
      clear hw2 HRS HJ HBY
      gi_wp2
      gi_big_quiet_th (fail)
      have HJ3 : Hid (J dn (w2.drewN nq)) := HJB.out _ _ _ HJ2.out ((Below.refl _ _).drewN' nq)
      have HBY3 : Hid (ByB nmL Bx (w2.drewN nq)) := HBY2.out
      generalize w2.drewN nq = w3 at *
      clear HJ2 HBY2
      gi_wp2
      refine ⟨trivial, dep, (callsIn_wide.2 (HNA.out w3)).mono ?_⟩
      rintro e w4 ⟨rfl, hb4⟩
      have HJ4 : Hid (J dn w4) := HJB.out _ _ _ HJ3 hb4
      have HBY4 : Hid (ByB nmL Bx w4) := HBY3.kp (KpT.of hb4)
      clear hb4 HJ3 HBY3 HNA
      cases p
      · have HS2 : Hid (WL = dn ++ wkF n (Sums.bl R2)) := Hid.mk' (HSK.out rfl)
        clear HSK HTK HB1 HH1 HNM HBH
        gi_wp2
        refine ⟨trivial, ?_⟩
        gi_wp2
        go_roundw
        case rel => exact ⟨R2, n, dn, by first | rfl | exact congrArg Value.string HX.out, by omega, by omega, HS2, HJ4, HBY4⟩
        case measure =>
          have h8 : (BH.extract (min 1 (BH.size : Int)).toNat BH.size).size = R2.size := by rw [HX.out]
          simp only [strS]
          omega
      · gi_wp2
        refine ⟨trivial, dep, (callsIn_wide.2 (HEQ.out w4)).mono ?_⟩
        rintro e w5 ⟨rfl, hw5⟩
        have hw6 := hw5.symm
        subst hw6
        clear hw5 HEQ
        cases h
        · have HS2 : Hid (WL = dn ++ wkF n (Sums.bl R2)) := Hid.mk' (HSK.out rfl)
          clear HSK HTK HB1 HH1 HNM HBH
          gi_wp2
          go_roundw
          case rel => exact ⟨R2, n, dn, by first | rfl | exact congrArg Value.string HX.out, by omega, by omega, HS2, HJ4, HBY4⟩
          case measure =>
            have h8 : (BH.extract (min 1 (BH.size : Int)).toNat BH.size).size = R2.size := by rw [HX.out]
            simp only [strS]
            omega
        · have hb1 := HH1.out rfl
          have hb1I : (1 : Int) ≤ (BH.size : Int) := by omega
          have s4 : ∀ W, (Instr.slice 9 (.string BH) (some (.int .i64 1)) none none).run Tryz.prog W = .ok (.string R2) W := fun W => by
            have h4 := sl_on BH 1 W hb1
            rw [HB1.out hb1] at h4
            exact h4
          have HT2 := Hid.mk' (HTK.out rfl)
          have HCV := Hid.mk' (fun X => cutValue_any R2 X (by omega))
          clear HSK HTK HB1 HH1 HNM HBH s3
          gi_wp2
          refine ⟨trivial, dep, (callsIn_wide.2 (HCV.out w4)).mono ?_⟩
          rintro e w6 ⟨⟨A, B, hA, hB, rfl⟩, hb6⟩
          have HJ6 : Hid (J dn w6) := HJB.out _ _ _ HJ4.out hb6
          have HBY6 : Hid (ByB nmL Bx w6) := HBY4.out.kp (KpT.of hb6)
          have hBsz : B.size ≤ R2.size := by
            have h4 := cv_len (Sums.bl R2)
            rw [← hB, Sums.bl_length, Sums.bl_length] at h4
            exact h4
          have HT3 : Hid (WL = dn ++ ((Sums.bl NM, Sums.bl A) :: wkF n (Sums.bl B))) := Hid.mk' (by rw [hA, hB]; exact HT2.out)
          have hpre : dn ++ [(Sums.bl NM, Sums.bl A)] <+: WL := by
            rw [HT3.out]
            exact (List.prefix_append_right_inj _).2 ⟨_, rfl⟩
          have HPR := Hid.mk' hpre
          obtain ⟨fn, tmps, assign, body, hyy, hRR⟩ := HY.out (q - 1) dn (Sums.bl NM, Sums.bl A) w6 HJ6.out hpre
          dsimp only [encP] at hyy
          rw [nums_bl, nums_bl] at hyy
          clear hb6 hA hB hpre HT2 HCV HJ4 HBY4 HJ6
          gi_wp2
          refine ⟨dep, hRR.mono ?_⟩
          rintro e w7 (⟨rfl, hJ7, hk7⟩ | ⟨rfl, hJx7⟩)
          · have HJ7 := Hid.mk' hJ7
            have HBY7 : Hid (ByB nmL Bx w7) := HBY6.out.kp hk7
            have HT4 : Hid (WL = (dn ++ [(Sums.bl NM, Sums.bl A)]) ++ wkF n (Sums.bl B)) := Hid.mk' (by rw [HT3.out]; simp)
            clear hJ7 hk7 hyy HT3 HBY6 HPR
            gi_wp2
            go_roundw
            case rel => exact ⟨B, n, dn ++ [(Sums.bl NM, Sums.bl A)], rfl, by omega, by omega, HT4, HJ7, HBY7⟩
            case measure => simp only [strS]; omega
          · have HJX := Hid.mk' hJx7
            clear hJx7
            gi_wp2
            refine bodyPost_ret (results_none rfl _ _ _) rfl ?_
            exact ⟨⟨_, rfl⟩, .inr ⟨_, HPR.out, HJX.out⟩⟩
end Go.Proofs.YtkplbggefiemdaaGreatDoor
