/-
  An image in which one byte is turned, and the law BlockTurned where the mask is not 0. Conditions: as each says.
-/
import Derived.Test.YtlplbnlfajdcbaaGreatDoorMhE
import Derived.Lib.ConvBytes
import Derived.Laws.CopyRow
import Derived.Laws.BitsAllLaws
import Derived.Test.YtlplbnlfajdcbaaGreatDoorMhR
namespace Go.Proofs.YtlplbnlfajdcbaaGreatDoor
open Go.RowKit
set_option linter.unusedVariables false
set_option linter.unusedSimpArgs false
theorem ext_take (l : List Nat) (hl : ∀ z ∈ l, z < 256) (k : Nat) (hk : k ≤ l.length) : (nums l).extract 0 k = nums (l.take k) := by
  have h9 := ext_nums [] (l.take k) (l.drop k) (by simp) (fun z hz => hl z (List.mem_of_mem_take hz)) (fun z hz => hl z (List.mem_of_mem_drop hz))
  rw [List.nil_append, List.take_append_drop, List.length_nil, Nat.zero_add, List.length_take, Nat.min_eq_left hk] at h9
  exact h9
theorem ext_drop (l : List Nat) (hl : ∀ z ∈ l, z < 256) (k : Nat) (hk : k ≤ l.length) : (nums l).extract k l.length = nums (l.drop k) := by
  have h9 := ext_nums (l.take k) (l.drop k) [] (fun z hz => hl z (List.mem_of_mem_take hz)) (fun z hz => hl z (List.mem_of_mem_drop hz)) (by simp)
  rw [List.append_nil, List.take_append_drop, List.length_take, List.length_drop, Nat.min_eq_left hk, Nat.add_sub_cancel' hk] at h9
  exact h9
theorem nums_unfit (X A R : List Nat) (b b' : Nat) (hX : ∀ z ∈ X, z < 256) (h : smd X = A ++ b :: R) (hb' : b' < 256) (hne : b ≠ b') :
    (nums (A ++ b' :: R)).extract X.length (X.length + 4) ≠ nums (smL (Sums.bl ((nums (A ++ b' :: R)).extract 0 X.length))) := by
  have hall : ∀ z ∈ A ++ b :: R, z < 256 := by rw [← h]; exact smd_byt X hX
  have hall' : ∀ z ∈ A ++ b' :: R, z < 256 := by
    intro z hz
    rcases List.mem_append.1 hz with h1 | h1
    · exact hall z (List.mem_append_left _ h1)
    · rcases List.mem_cons.1 h1 with rfl | h1
      · exact hb'
      · exact hall z (List.mem_append_right _ (List.mem_cons_of_mem _ h1))
  have hlen : (A ++ b' :: R).length = X.length + 4 := by
    have e := congrArg List.length h
    rw [smd_len] at e
    simp at e ⊢
    omega
  have h1 := ext_drop _ hall' X.length (by omega)
  rw [hlen] at h1
  rw [h1, ext_take _ hall' X.length (by omega), bl_nums _ (fun z hz => hall' z (List.mem_of_mem_take hz))]
  intro e
  exact unfit X A R b b' hX h hb' hne (nums_inj (fun z hz => hall' z (List.mem_of_mem_drop hz)) (smL_byt _) e)
section
variable {a b c d e f g h i : Nat} {L : List Rec.Ln} {A R : List Nat} {x x' : Nat}
theorem turned_len (o : HdOf a b c d e f g h i L) (hI : imgH a b c d e f g h i L = A ++ x :: R) : (A ++ x' :: R).length = 77 + i := by
  have e := imgH_len o
  rw [hI] at e
  simp at e ⊢
  omega
theorem turned_byt (hI : imgH a b c d e f g h i L = A ++ x :: R) (hx : x' < 256) : ∀ z ∈ A ++ x' :: R, z < 256 := by
  have hall := imgH_byt a b c d e f g h i L
  rw [hI] at hall
  intro z hz
  rcases List.mem_append.1 hz with h1 | h1
  · exact hall z (List.mem_append_left _ h1)
  · rcases List.mem_cons.1 h1 with rfl | h1
    · exact hx
    · exact hall z (List.mem_append_right _ (List.mem_cons_of_mem _ h1))
/-- one byte of the head is turned -/
theorem turned_head (hI : imgH a b c d e f g h i L = A ++ x :: R) (hA : A.length < 73) : ∃ R1, smd (hdL [a, b, c, d, e, f, h, i] g) = A ++ x :: R1 ∧ R = R1 ++ smd (Sums.bl (pkL (payT L) g)) := by
  have hl : (smd (hdL [a, b, c, d, e, f, h, i] g)).length = 73 := by rw [smd_len, hdL_len _ _ rfl]
  have e1 : smd (hdL [a, b, c, d, e, f, h, i] g) = (A ++ x :: R).take 73 := by rw [← hI]; unfold imgH; rw [List.take_left' hl]
  have e2 : smd (Sums.bl (pkL (payT L) g)) = (A ++ x :: R).drop 73 := by rw [← hI]; unfold imgH; rw [List.drop_left' hl]
  refine ⟨R.take (73 - A.length - 1), ?_, ?_⟩
  · rw [e1, List.take_append, List.take_of_length_le (by omega), show 73 - A.length = (73 - A.length - 1) + 1 by omega, List.take_succ_cons]
    rfl
  · rw [e2, List.drop_append, List.drop_of_length_le (by omega), List.nil_append, show 73 - A.length = (73 - A.length - 1) + 1 by omega, List.drop_succ_cons]
    exact (List.take_append_drop _ R).symm
/-- one byte behind the head is turned -/
theorem turned_body (hI : imgH a b c d e f g h i L = A ++ x :: R) (hA : 73 ≤ A.length) : ∃ A2, A = smd (hdL [a, b, c, d, e, f, h, i] g) ++ A2 ∧ smd (Sums.bl (pkL (payT L) g)) = A2 ++ x :: R := by
  have hl : (smd (hdL [a, b, c, d, e, f, h, i] g)).length = 73 := by rw [smd_len, hdL_len _ _ rfl]
  have e1 : smd (hdL [a, b, c, d, e, f, h, i] g) = (A ++ x :: R).take 73 := by rw [← hI]; unfold imgH; rw [List.take_left' hl]
  have e2 : smd (Sums.bl (pkL (payT L) g)) = (A ++ x :: R).drop 73 := by rw [← hI]; unfold imgH; rw [List.drop_left' hl]
  refine ⟨A.drop 73, ?_, ?_⟩
  · rw [e1, List.take_append_of_le_length hA]
    exact (List.take_append_drop _ A).symm
  · rw [e2, List.drop_append_of_le_length hA]
theorem look_turned_head (o : HdOf a b c d e f g h i L) (hI : imgH a b c d e f g h i L = A ++ x :: R) (hx : x' < 256) (hne : x ≠ x') (hA : A.length < 73) :
    ∃ at_ code : Int, ∀ w, Tab w → Calls Tryz.prog 16 #[.string (nums (A ++ x' :: R))] w fun r w' => ∃ p, r = .returned (.tuple #[hdV 0 0 0 0 0 0 0 0 0, .iface 61 (.pointer (some ⟨p, 0, none⟩))]) ∧ w'.heap[p]? = some (.cells #[.int .i64 at_, .int .i64 code] 63 (0, 0)) ∧ w.heap.size ≤ p ∧ Below w.heap.size w w' := by
  obtain ⟨R1, h1, h2⟩ := turned_head hI hA
  have hlen := turned_len (x' := x') o hI
  have hby := turned_byt hI hx
  have hi := o.ok.i1
  have hm4 : (A ++ x :: R).take 4 = [68, 82, 71, 49] := by
    rw [← hI]
    unfold imgH
    unfold smd
    rw [hdL_eq _ _ rfl]
    rfl
  have hT4 : (nums (A ++ x' :: R)).extract 0 4 = nums ((A ++ x' :: R).take 4) := ext_take _ hby 4 (by omega)
  by_cases h4 : A.length < 4
  · have hbad : (nums (A ++ x' :: R)).extract 0 4 ≠ ⟨#[68, 82, 71, 49]⟩ := by
      rw [hT4]
      intro e
      have e2 := congrArg Sums.bl e
      rw [bl_nums _ (fun z hz => hby z (List.mem_of_mem_take hz)), show Sums.bl ⟨#[68, 82, 71, 49]⟩ = [68, 82, 71, 49] by decide +kernel, ← hm4] at e2
      have e3 := congrArg (fun l => l[A.length]?) e2
      simp only [List.getElem?_take, if_pos h4] at e3
      simp at e3
      exact hne e3.symm
    exact ⟨0, 50, fun w _ => look_magic _ (77 + i) w (by rw [nums_size, hlen]) (by omega) hbad⟩
  · have hok : (nums (A ++ x' :: R)).extract 0 4 = ⟨#[68, 82, 71, 49]⟩ := by
      rw [hT4, List.take_append_of_le_length (by omega)]
      rw [List.take_append_of_le_length (by omega)] at hm4
      rw [hm4]
      decide +kernel
    have hH : (nums (A ++ x' :: R)).extract 0 73 = nums (A ++ x' :: R1) := by
      rw [ext_take _ hby 73 (by omega)]
      congr 1
      rw [h2, show A ++ x' :: (R1 ++ smd (Sums.bl (pkL (payT L) g))) = (A ++ x' :: R1) ++ smd (Sums.bl (pkL (payT L) g)) by simp]
      refine List.take_left' ?_
      have e := congrArg List.length h1
      rw [smd_len, hdL_len _ _ rfl] at e
      simp at e ⊢
      omega
    have hun := nums_unfit (hdL [a, b, c, d, e, f, h, i] g) A R1 x x' (hdL_byt _ _) h1 hx hne
    rw [hdL_len _ _ rfl] at hun
    exact ⟨69, 54, fun w ht => look_sum _ (77 + i) w (by rw [nums_size, hlen]) (by omega) hok (by rw [hH]; exact hun) ht⟩
theorem look_turned_body (o : HdOf a b c d e f g h i L) (hI : imgH a b c d e f g h i L = A ++ x :: R) (hx : x' < 256) (hA : 73 ≤ A.length) (w : World) (ht : Tab w) :
    Calls Tryz.prog 16 #[.string (nums (A ++ x' :: R))] w fun r w' => r = .returned (.tuple #[hdV a b c d e f g h i, .nilIface]) ∧ Below w.heap.size w w' := by
  obtain ⟨A2, h1, h2⟩ := turned_body hI hA
  have hlen := turned_len (x' := x') o hI
  have hby := turned_byt hI hx
  have hi := o.ok.i1
  have h3 : A ++ x' :: R = smd (hdL [a, b, c, d, e, f, h, i] g) ++ (A2 ++ x' :: R) := by rw [h1, List.append_assoc]
  rw [h3] at hby hlen ⊢
  exact look_ok a b c d e f h i g _ (fun z hz => hby z (List.mem_append_right _ hz)) (by rw [List.length_append] at hlen; omega) w o.ok o.g2 ht
theorem open_turned (o : HdOf a b c d e f g h i L) (hI : imgH a b c d e f g h i L = A ++ x :: R) (hx : x' < 256) (hne : x ≠ x') :
    ∃ at_ code : Int, ∀ w, Tab w → ErT w → Calls Tryz.prog 18 #[.string (nums (A ++ x' :: R))] w fun r w' => ∃ p, r = .returned (.tuple #[hdV 0 0 0 0 0 0 0 0 0, .slice none 0 0, .iface 61 (.pointer (some ⟨p, 0, none⟩))]) ∧ w'.heap[p]? = some (.cells #[.int .i64 at_, .int .i64 code] 63 (0, 0)) ∧ w.heap.size ≤ p ∧ Below w.heap.size w w' := by
  by_cases hA : A.length < 73
  · obtain ⟨at_, code, hl⟩ := look_turned_head o hI hx hne hA
    exact ⟨at_, code, fun w ht _ => open_lookbad _ at_ code w ht hl⟩
  · obtain ⟨A2, h1, h2⟩ := turned_body hI (by omega)
    have hlen := turned_len (x' := x') o hI
    have hby := turned_byt hI hx
    have hi := o.ok.i1
    have hl : (smd (hdL [a, b, c, d, e, f, h, i] g)).length = 73 := by rw [smd_len, hdL_len _ _ rfl]
    have hB : (nums (A ++ x' :: R)).extract 73 (nums (A ++ x' :: R)).size = nums (A2 ++ x' :: R) := by
      rw [nums_size, ext_drop _ hby 73 (by omega)]
      congr 1
      rw [h1, List.append_assoc, List.drop_left' hl]
    have hun := nums_unfit (Sums.bl (pkL (payT L) g)) A2 R x x' (Sums.bl_byt _) h2 hx hne
    rw [Sums.bl_length, o.i] at hun
    have hsz : (nums (A2 ++ x' :: R)).size = i + 4 := by
      rw [nums_size]
      rw [h1, List.append_assoc, List.length_append, hl] at hlen
      omega
    refine ⟨73 + (i : Int), 54, fun w ht hg => open_linesbad _ a b c d e f g h i _ _ w ht hg hi (by rw [nums_size, hlen]) (fun W hW => look_turned_body o hI hx (by omega) W hW) (fun W hW hgW => ?_)⟩
    rw [hB]
    exact linesOf_bad _ i a b c d e f g h i W hsz (by omega) hun hW hgW
end
end Go.Proofs.YtlplbnlfajdcbaaGreatDoor


namespace Go.Proofs.YtlplbnlfajdcbaaGreatDoor
open Go.RowKit
set_option linter.unusedVariables false
/-- block g holds the bytes M from its head on, none of them frozen -/
def RowB (g : Nat) (M : List Nat) (w : World) : Prop := ∀ j, j < M.length → w.cell? ⟨g, j, none⟩ = some (.int .u8 ((M.getD j 0 : Nat) : Int)) ∧ w.frozen? ⟨g, j, none⟩ = false
theorem RowB.set {g : Nat} {M : List Nat} {w : World} (h : RowB g M w) (q b : Nat) (hq : q < M.length) : RowB g (M.set q b) (w.setCell ⟨g, q, none⟩ (.int .u8 (b : Int))) := by
  intro j hj
  rw [List.length_set] at hj
  have hj2 := h j hj
  refine ⟨?_, ?_⟩
  · by_cases e : q = j
    · subst e
      rw [List.getD_eq_getElem?_getD, List.getElem?_set_self hq]
      rw [World.cell?_setCell_same' _ _ _ (by rw [hj2.1]; rfl)]
      rfl
    · rw [World.cell?_setCell_other _ _ _ _ (fun x => e (by simpa using congrArg Addr.off x)), hj2.1, List.getD_eq_getElem?_getD, List.getD_eq_getElem?_getD, List.getElem?_set_ne e]
  · rw [World.frozen?_setCell]; exact hj2.2
theorem RowB.new (w : World) (s : ByteArray) : RowB w.heap.size (Sums.bl s) (Lib.bytesWorld w 5 s) := by
  intro j hj
  rw [Sums.bl_length] at hj
  have h2 : j < s.data.toList.length := by simpa using hj
  refine ⟨?_, ?_⟩
  · rw [Lib.bytesWorld_cell w 5 s j hj, Sums.bl_get s j hj, List.getD_eq_getElem?_getD, List.getElem?_eq_getElem h2]
    rfl
  · have hb : j < (Lib.bytesCells w 5 s).size := by
      unfold Lib.bytesCells
      simp
      omega
    simp only [World.frozen?, Lib.bytesWorld_at_new]
    simp
    omega
theorem below_newB {B : Nat} {w0 w : World} (h : Below B w0 w) (hB : B ≤ w.heap.size) (s : ByteArray) : Below B w0 (Lib.bytesWorld w 5 s) :=
  h.trans ⟨rfl, rfl, rfl, by rw [Lib.bytesWorld_size]; omega, fun k hk => Lib.bytesWorld_at_old w 5 s k (by omega)⟩
def rowS (M : List Nat) : ByteArray := strOfNums (M.map fun z => ((z : Nat) : Int))
theorem bl_rowS (M : List Nat) (h : ∀ z ∈ M, z < 256) : Sums.bl (rowS M) = M := bl_nums M h
theorem RowB.text {g : Nat} {M : List Nat} {w : World} (h : RowB g M w) (c : Nat) : (convert 52 9 (.slice (some ⟨g, 0, none⟩) M.length c)).run Tryz.prog w = .ok (.string (rowS M)) w := by
  refine run_convert_bytes_arg w 52 5 Tryz.underlying52 Tryz.underlying5 g 0 M.length c _ (by simp) (fun i hi => ?_) 9 Tryz.underlying9
  rw [Nat.zero_add, (h i hi).1]
  rw [List.getD_eq_getElem?_getD, List.getD_eq_getElem?_getD, List.getElem?_map, List.getElem?_eq_getElem hi]
  rfl
theorem RowB.drewN {g : Nat} {M : List Nat} {w : World} (h : RowB g M w) (n : Nat) : RowB g M (w.drewN n) := h
end Go.Proofs.YtlplbnlfajdcbaaGreatDoor

namespace Go.Proofs.YtlplbnlfajdcbaaGreatDoor
open Go.RowKit
set_option linter.unusedVariables false
set_option linter.unusedSimpArgs false
set_option maxHeartbeats 8000000 in
set_option maxRecDepth 100000 in
theorem turned_m (h0 h1 h2 h3 h4 h5 h6 h7 h8 : Int) (v1 : Value) (l : List Rec.Ln) (at_ : Int) (m : Nat) (w : World)
    (qh0 : -9223372036854775808 ≤ h0 ∧ h0 ≤ 9223372036854775807) (qh1 : -9223372036854775808 ≤ h1 ∧ h1 ≤ 9223372036854775807) (qh5 : -9223372036854775808 ≤ h5 ∧ h5 ≤ 9223372036854775807) (qh6 : -9223372036854775808 ≤ h6 ∧ h6 ≤ 9223372036854775807) (hv1 : LsAt v1 l w) (hl : l.length ≤ 1125899906842624) (hls : (∀ x ∈ l, -9223372036854775808 ≤ x.1 ∧ x.1 ≤ 9223372036854775807 ∧ x.2.size ≤ 140737488351232)) (hp0 : -9223372036854775808 ≤ at_) (hp1 : at_ ≤ 9223372036854775807) (hm0 : 1 ≤ m) (hm1 : m < 256) (hmI : ¬ (m : Int) = 0) (ht : Tab w) (hg : ErT w) :
    Calls Tryz.prog 6 #[.agg #[.int .i64 h0, .int .i64 h1, .int .i64 h2, .int .i64 h3, .int .i64 h4, .int .i64 h5, .int .i64 h6, .int .i64 h7, .int .i64 h8], v1, .int .i64 at_, .int .u8 (m : Int)] w fun e w' => e = .returned (.bool true) ∧ Below w.heap.size w w' := by
  obtain ⟨a, b, c, d, e, f, g, h, i, L, ho, hmd⟩ := madeB2 h0 h1 h2 h3 h4 h5 h6 h7 h8 v1 l hl hls qh0 qh1 qh5 qh6
  have ok := ho.ok
  have him : imgL a b f g L = imgH a b c d e f g h i L := imgH_of ho
  have hlen := imgH_len ho
  have hs1 : ∀ v W, LsAt v L W → Tab W → Calls Tryz.prog 12 #[.agg #[.int .i64 (a : Int), .int .i64 (b : Int), .int .i64 0, .int .i64 0, .int .i64 0, .int .i64 (f : Int), .int .i64 (g : Int), .int .i64 0, .int .i64 0], v] W fun r w' => r = .returned (.tuple #[.string (nums (imgH a b c d e f g h i L)), .nilIface]) ∧ Below W.heap.size W w' := fun v W hv hW => by
    have := seal_ok a b f g 0 0 0 0 0 v L W hv ho.fine ok.a1 ok.b1 ok.f1 ho.g2 hW
    rw [him] at this
    exact this
  have hlo : ∀ W, Tab W → Calls Tryz.prog 16 #[.string (nums (imgH a b c d e f g h i L))] W fun r w' => r = .returned (.tuple #[.agg #[.int .i64 (a : Int), .int .i64 (b : Int), .int .i64 (c : Int), .int .i64 (d : Int), .int .i64 (e : Int), .int .i64 (f : Int), .int .i64 (g : Int), .int .i64 (h : Int), .int .i64 (i : Int)], .nilIface]) ∧ Below W.heap.size W w' := fun W hW => look_ok a b c d e f h i g _ (smd_byt _ (Sums.bl_byt _)) (by rw [smd_len, Sums.bl_length, ho.i]; have := ok.i1; omega) W ok ho.g2 hW
  obtain ⟨n, hn⟩ : ∃ n, 77 + i = n := ⟨_, rfl⟩
  have hib := ok.i1
  obtain ⟨pl, hpl⟩ : ∃ pl, pkB at_ n = pl := ⟨_, rfl⟩
  have hpn : pl < n := by rw [← hpl]; exact pkB_lt at_ n (by omega)
  have hby := imgH_byt a b c d e f g h i L
  have hsb : Sums.bl (nums (imgH a b c d e f g h i L)) = imgH a b c d e f g h i L := bl_nums _ hby
  have hsz : (nums (imgH a b c d e f g h i L)).size = n := by rw [nums_size, hlen, hn]
  have hpk := fun W => pickB at_ n W hp0 hp1 (by omega) (by omega)
  rw [hpl] at hpk
  obtain ⟨A, R, x, hI, hAl⟩ : ∃ A R x, imgH a b c d e f g h i L = A ++ x :: R ∧ A.length = pl := by
    have hlt : pl < (imgH a b c d e f g h i L).length := by omega
    refine ⟨(imgH a b c d e f g h i L).take pl, (imgH a b c d e f g h i L).drop (pl + 1), (imgH a b c d e f g h i L)[pl], ?_, by rw [List.length_take]; omega⟩
    rw [← List.drop_eq_getElem_cons hlt, List.take_append_drop]
  have hx : x < 256 := hby x (by rw [hI]; simp)
  obtain ⟨x', hx'⟩ : ∃ x', x ^^^ m = x' := ⟨_, rfl⟩
  have hxb : x' < 256 := by rw [← hx']; exact Nat.xor_lt_two_pow (n := 8) hx (by omega)
  have hxne : x ≠ x' := by
    intro e9
    rw [← hx'] at e9
    have e8 : m = 0 := by
      have := congrArg (x ^^^ ·) e9
      simpa [← Nat.xor_assoc] using this.symm
    omega
  have hxor : bits .xor .u8 (x : Int) (m : Int) = (x' : Int) := by
    have := u8_xor_nat x m hx (by omega)
    rw [hx'] at this
    exact this
  have HPL : Hid (pl < (Sums.bl (nums (imgH a b c d e f g h i L))).length ∧ (Sums.bl (nums (imgH a b c d e f g h i L))).getD pl 0 = x ∧ nums (A ++ x' :: R) = rowS ((Sums.bl (nums (imgH a b c d e f g h i L))).set pl x')) := by
    unfold Hid
    rw [hsb]
    refine ⟨by omega, ?_, ?_⟩
    · rw [hI, ← hAl, List.getD_eq_getElem?_getD]
      simp
    · rw [hI, ← hAl, List.set_append_right _ _ (Nat.le_refl _), Nat.sub_self]
      rfl
  obtain ⟨oa, oc, hot⟩ := open_turned ho hI hxb hxne
  have hne := neq_head_same a b c d e f g h i
  have hnz := neq_head_same 0 0 0 0 0 0 0 0 0
  have hez : ∀ W, (binOp .eql 23 (.agg #[.int .i64 0, .int .i64 0, .int .i64 0, .int .i64 0, .int .i64 0, .int .i64 0, .int .i64 0, .int .i64 0, .int .i64 0]) (.agg #[.int .i64 0, .int .i64 0, .int .i64 0, .int .i64 0, .int .i64 0, .int .i64 0, .int .i64 0, .int .i64 0, .int .i64 0])).run Tryz.prog W = .ok (.bool true) W := fun W => (eql_headB 0 0 0 0 0 0 0 0 W).trans (by simp)
  obtain ⟨s, hs⟩ : ∃ s, nums (imgH a b c d e f g h i L) = s := ⟨_, rfl⟩
  obtain ⟨t, htt⟩ : ∃ t, nums (A ++ x' :: R) = t := ⟨_, rfl⟩
  rw [hs] at hs1 hlo hsz HPL
  have hlt1 : A.length < 73 → ∃ la lc : Int, ∀ W, Tab W → Calls Tryz.prog 16 #[.string t] W fun r w' => ∃ p, r = .returned (.tuple #[.agg #[.int .i64 0, .int .i64 0, .int .i64 0, .int .i64 0, .int .i64 0, .int .i64 0, .int .i64 0, .int .i64 0, .int .i64 0], .iface 61 (.pointer (some ⟨p, 0, none⟩))]) ∧ w'.heap[p]? = some (.cells #[.int .i64 la, .int .i64 lc] 63 (0, 0)) ∧ W.heap.size ≤ p ∧ Below W.heap.size W w' := fun hA => by rw [← htt]; exact look_turned_head ho hI hxb hxne hA
  have hlt2 : 73 ≤ A.length → ∀ W, Tab W → Calls Tryz.prog 16 #[.string t] W fun r w' => r = .returned (.tuple #[.agg #[.int .i64 (a : Int), .int .i64 (b : Int), .int .i64 (c : Int), .int .i64 (d : Int), .int .i64 (e : Int), .int .i64 (f : Int), .int .i64 (g : Int), .int .i64 (h : Int), .int .i64 (i : Int)], .nilIface]) ∧ Below W.heap.size W w' := fun hA W hW => by rw [← htt]; exact look_turned_body ho hI hxb hA W hW
  rw [htt] at hot HPL
  unfold hdV at hot
  rw [hAl] at hlt1 hlt2
  have n77 : ¬ (n : Int) < 77 := by omega
  have hnb : n ≤ 131679 := by omega
  have hpl0 : (0 : Int) ≤ (pl : Int) := by omega
  have hpl1 : (pl : Int) < (n : Int) := by omega
  have HS1 := Hid.mk' hs1
  have HLO := Hid.mk' hlo
  have HPK := Hid.mk' hpk
  have HOT := Hid.mk' hot
  have HMD := Hid.mk' hmd
  have HNE := Hid.mk' hne
  have HNZ := Hid.mk' hnz
  have HEZ := Hid.mk' hez
  have HKN := Hid.mk' (fun W (hW : Tab W) => known_any W hW)
  obtain ⟨B, hB⟩ : ∃ B, w.heap.size = B := ⟨_, rfl⟩
  obtain ⟨w0, hw0⟩ : ∃ w0, w.alloc (.cells #[.int .i64 h0, .int .i64 h1, .int .i64 h2, .int .i64 h3, .int .i64 h4, .int .i64 h5, .int .i64 h6, .int .i64 h7, .int .i64 h8] 23) = w0 := ⟨_, rfl⟩
  have HA : Hid (∀ X, Below w0.heap.size w0 X → X.heap[B]? = some (.cells #[.int .i64 h0, .int .i64 h1, .int .i64 h2, .int .i64 h3, .int .i64 h4, .int .i64 h5, .int .i64 h6, .int .i64 h7, .int .i64 h8] 23 (0, 0)) ∧ LsAt v1 l X ∧ Tab X ∧ Below w.heap.size w X ∧ ErT X) := by
    have z2 : w0.heap.size = B + 1 := by rw [← hw0, World.size_alloc, hB]
    have z3 : Below B w w0 := by
      rw [← hw0]
      exact (Below.refl B w).alloc (by omega) _
    have z4 : w0.heap[B]? = some (.cells #[.int .i64 h0, .int .i64 h1, .int .i64 h2, .int .i64 h3, .int .i64 h4, .int .i64 h5, .int .i64 h6, .int .i64 h7, .int .i64 h8] 23 (0, 0)) := by
      rw [← hw0, ← hB]
      exact heap_alloc_new _ _
    intro X hX
    have z6 : Below w.heap.size w X := by rw [hB]; exact z3.trans (hX.mono (by omega))
    exact ⟨(hX.block B (by omega)).trans z4, hv1.below z6, ht.below z6, z6, hg.below z6⟩
  clear hv1 hl hls qh0 qh1 qh5 qh6 ht hg hmd hs1 hlo hpk hot hne hnz hez him hlen ho ok hI hAl hsb hby hx hxb hxne hx' hs htt hpl hpn hn hp0 hp1 hib
  by_cases hA : pl < 73
  · obtain ⟨la, lc, hlt⟩ := hlt1 hA
    have HLT := Hid.mk' hlt
    have hge : ¬ (73 : Int) ≤ (pl : Int) := by omega
    clear hlt hlt1 hlt2 hA
    go_enter Tryz.func6, Tryz.ntmps6
    go_upto_region 2 with (go_at_call 9; refine (HKN.out w0 (HA.out w0 (Below.refl _ _)).2.2.1).mono ?_; rintro r w1 ⟨rfl, hb1⟩; have HB1 := Hid.mk' hb1; clear hb1)
    have p0 := cell_at (k := 0) (HA.out w1 HB1.out).1 rfl
    have p1 := cell_at (k := 1) (HA.out w1 HB1.out).1 rfl
    have p2 := cell_at (k := 2) (HA.out w1 HB1.out).1 rfl
    have p3 := cell_at (k := 3) (HA.out w1 HB1.out).1 rfl
    have p4 := cell_at (k := 4) (HA.out w1 HB1.out).1 rfl
    have p5 := cell_at (k := 5) (HA.out w1 HB1.out).1 rfl
    have p6 := cell_at (k := 6) (HA.out w1 HB1.out).1 rfl
    have p7 := cell_at (k := 7) (HA.out w1 HB1.out).1 rfl
    have p8 := cell_at (k := 8) (HA.out w1 HB1.out).1 rfl
    go_upto_region 3 with (go_at_call 21; refine (HMD.out w1 (HA.out w1 HB1.out).2.1).mono ?_; rintro r w2 ⟨n1, c1, rfl, hv2, hb2⟩; have HB2 := Hid.mk' (HB1.out.trans (hb2.mono HB1.out.size)); have HV2 := Hid.mk' hv2; clear hb2 hv2)
    clear p0 p1 p2 p3 p4 p5 p6 p7 p8
    obtain ⟨C, hC⟩ : ∃ C, w2.heap.size = C := ⟨_, rfl⟩
    obtain ⟨w3, hww3⟩ : ∃ w3, w2.alloc (.cells #[.int .i64 (a : Int), .int .i64 (b : Int), .int .i64 0, .int .i64 0, .int .i64 0, .int .i64 (f : Int), .int .i64 (g : Int), .int .i64 0, .int .i64 0] 23) = w3 := ⟨_, rfl⟩
    have HX1 : Hid (∀ X, Below w3.heap.size w3 X → X.heap[C]? = some (.cells #[.int .i64 (a : Int), .int .i64 (b : Int), .int .i64 0, .int .i64 0, .int .i64 0, .int .i64 (f : Int), .int .i64 (g : Int), .int .i64 0, .int .i64 0] 23 (0, 0)) ∧ Below w2.heap.size w2 X ∧ Below w0.heap.size w0 X) := by
      have z1 : w3.heap[C]? = some (.cells #[.int .i64 (a : Int), .int .i64 (b : Int), .int .i64 0, .int .i64 0, .int .i64 0, .int .i64 (f : Int), .int .i64 (g : Int), .int .i64 0, .int .i64 0] 23 (0, 0)) := by
        rw [← hww3, ← hC]
        exact heap_alloc_new _ _
      have z2 : Below w2.heap.size w2 w3 := by
        rw [← hww3]
        exact (Below.refl _ _).alloc (Nat.le_refl _) _
      intro X hX
      have z3 : Below w2.heap.size w2 X := z2.trans (hX.mono z2.size)
      exact ⟨(hX.block C (Array.getElem?_eq_some_iff.1 z1).1).trans z1, z3, HB2.out.trans (z3.mono HB2.out.size)⟩
    try rw [hww3]
    try rw [hC]
    clear hww3 hC
    have p0 := cell_at (k := 0) (HX1.out w3 (Below.refl _ _)).1 rfl
    have p1 := cell_at (k := 1) (HX1.out w3 (Below.refl _ _)).1 rfl
    have p2 := cell_at (k := 2) (HX1.out w3 (Below.refl _ _)).1 rfl
    have p3 := cell_at (k := 3) (HX1.out w3 (Below.refl _ _)).1 rfl
    have p4 := cell_at (k := 4) (HX1.out w3 (Below.refl _ _)).1 rfl
    have p5 := cell_at (k := 5) (HX1.out w3 (Below.refl _ _)).1 rfl
    have p6 := cell_at (k := 6) (HX1.out w3 (Below.refl _ _)).1 rfl
    have p7 := cell_at (k := 7) (HX1.out w3 (Below.refl _ _)).1 rfl
    have p8 := cell_at (k := 8) (HX1.out w3 (Below.refl _ _)).1 rfl
    go_upto_region 4 with (go_at_call 12; refine (HS1.out _ w3 (HV2.out.below (HX1.out w3 (Below.refl _ _)).2.1) (HA.out w3 (HX1.out w3 (Below.refl _ _)).2.2).2.2.1).mono ?_; rintro r w4 ⟨rfl, hb4⟩; have HB4 : Hid (Below w0.heap.size w0 w4) := (HX1.out w4 hb4).2.2; clear hb4)
    clear p0 p1 p2 p3 p4 p5 p6 p7 p8
    clear HV2 HX1 HB2 HB1
    go_upto_region 7 with (go_at_call 22; refine (HPK.out _).mono ?_; rintro r w' ⟨rfl, hw'⟩; have hw2 := hw'.symm; subst hw2; clear hw')
    go_wp2_with fail
    rw [Lib.run_convert_string_bytes w4 9 52 5 s Tryz.underlying9 Tryz.underlying52 Tryz.underlying5]
    have HB5 : Hid (Below w4.heap.size w4 (Lib.bytesWorld w4 5 s)) := below_newB (Below.refl _ _) (Nat.le_refl _) s
    have HR : Hid (RowB w4.heap.size (Sums.bl s) (Lib.bytesWorld w4 5 s)) := RowB.new w4 s
    have HZ5 : Hid ((Lib.bytesWorld w4 5 s).heap.size = w4.heap.size + 1) := Lib.bytesWorld_size w4 5 s
    have HB40 : Hid (w0.heap.size ≤ w4.heap.size) := HB4.out.size
    generalize Lib.bytesWorld w4 5 s = w5 at *
    generalize grownCap w4 s.size 0 5 = cp at *
    generalize w4.heap.size = G at *
    obtain ⟨c1', f1'⟩ := HR.out pl HPL.out.1
    rw [HPL.out.2.1] at c1'
    have HR6 : Hid (RowB G ((Sums.bl s).set pl x') (w5.setCell ⟨G, pl, none⟩ (.int .u8 (x' : Int)))) := HR.out.set pl x' HPL.out.1
    go_upto_region 11 with fail
    obtain ⟨w6, hw6⟩ : ∃ w6, w5.setCell ⟨G, pl, none⟩ (.int .u8 (x' : Int)) = w6 := ⟨_, rfl⟩
    have HB6 : Hid (Below w0.heap.size w0 w6) := by
      unfold Hid
      rw [← hw6]
      exact (HB4.out.trans (HB5.out.mono HB40.out)).setCell (by exact HB40.out) _
    have HT6 : Hid (∀ X, Below w6.heap.size w6 X → (convert 52 9 (.slice (some ⟨G, 0, none⟩) n cp)).run Tryz.prog X = .ok (.string t) X) := fun X hX => by
      have h6 : RowB G ((Sums.bl s).set pl x') w6 := by rw [← hw6]; exact HR6.out
      have hgl : G < w6.heap.size := by rw [← hw6]; have := HZ5.out; simp; omega
      have hX6 : RowB G ((Sums.bl s).set pl x') X := fun j hj => by
        have h7 := h6 j hj
        have hbk := hX.block G hgl
        exact ⟨(hX.cell (p := ⟨G, j, none⟩) hgl).trans h7.1, by
          have h8 := h7.2
          simp only [World.frozen?] at h8 ⊢
          rw [hbk]
          exact h8⟩
      have h9 := hX6.text cp
      rw [List.length_set, Sums.bl_length, hsz] at h9
      exact h9.trans (by rw [← HPL.out.2.2])
    try rw [hw6]
    clear hw6 HR HR6 HZ5 HB5 HB4 HB40 c1' f1'
    go_upto_region 12 with (go_at_call 16; refine (HLO.out w6 (HA.out w6 HB6.out).2.2.1).mono ?_; rintro r w7 ⟨rfl, hb7⟩; have HB7 := Hid.mk' (HB6.out.trans (hb7.mono HB6.out.size)); have HB7x := Hid.mk' hb7; clear hb7)
    obtain ⟨D, hD⟩ : ∃ D, w7.heap.size = D := ⟨_, rfl⟩
    obtain ⟨w8, hww8⟩ : ∃ w8, w7.alloc (.cells #[.int .i64 (a : Int), .int .i64 (b : Int), .int .i64 (c : Int), .int .i64 (d : Int), .int .i64 (e : Int), .int .i64 (f : Int), .int .i64 (g : Int), .int .i64 (h : Int), .int .i64 (i : Int)] 23) = w8 := ⟨_, rfl⟩
    have HX2 : Hid (∀ X, Below w8.heap.size w8 X → X.heap[D]? = some (.cells #[.int .i64 (a : Int), .int .i64 (b : Int), .int .i64 (c : Int), .int .i64 (d : Int), .int .i64 (e : Int), .int .i64 (f : Int), .int .i64 (g : Int), .int .i64 (h : Int), .int .i64 (i : Int)] 23 (0, 0)) ∧ Below w7.heap.size w7 X ∧ Below w6.heap.size w6 X) := by
      have z1 : w8.heap[D]? = some (.cells #[.int .i64 (a : Int), .int .i64 (b : Int), .int .i64 (c : Int), .int .i64 (d : Int), .int .i64 (e : Int), .int .i64 (f : Int), .int .i64 (g : Int), .int .i64 (h : Int), .int .i64 (i : Int)] 23 (0, 0)) := by
        rw [← hww8, ← hD]
        exact heap_alloc_new _ _
      have z2 : Below w7.heap.size w7 w8 := by
        rw [← hww8]
        exact (Below.refl _ _).alloc (Nat.le_refl _) _
      intro X hX
      have z3 : Below w7.heap.size w7 X := z2.trans (hX.mono z2.size)
      exact ⟨(hX.block D (Array.getElem?_eq_some_iff.1 z1).1).trans z1, z3, HB7x.out.trans (z3.mono HB7x.out.size)⟩
    try rw [hww8]
    try rw [hD]
    clear hww8 hD
    have hcv := HT6.out w8 (HX2.out w8 (Below.refl _ _)).2.2
    go_upto_region 13 with (go_at_call 16; refine (HLT.out w8 (HA.out w8 (HB6.out.trans ((HX2.out w8 (Below.refl _ _)).2.2.mono HB6.out.size))).2.2.1).mono ?_; rintro r w9 ⟨p9, rfl, _, _, hb9⟩; have HB9 := Hid.mk' hb9; clear hb9)
    clear hcv
    obtain ⟨E, hE⟩ : ∃ E, w9.heap.size = E := ⟨_, rfl⟩
    obtain ⟨w10, hww10⟩ : ∃ w10, w9.alloc (.cells #[.int .i64 0, .int .i64 0, .int .i64 0, .int .i64 0, .int .i64 0, .int .i64 0, .int .i64 0, .int .i64 0, .int .i64 0] 23) = w10 := ⟨_, rfl⟩
    have HX3 : Hid (∀ X, Below w10.heap.size w10 X → X.heap[E]? = some (.cells #[.int .i64 0, .int .i64 0, .int .i64 0, .int .i64 0, .int .i64 0, .int .i64 0, .int .i64 0, .int .i64 0, .int .i64 0] 23 (0, 0)) ∧ Below w9.heap.size w9 X ∧ Below w8.heap.size w8 X) := by
      have z1 : w10.heap[E]? = some (.cells #[.int .i64 0, .int .i64 0, .int .i64 0, .int .i64 0, .int .i64 0, .int .i64 0, .int .i64 0, .int .i64 0, .int .i64 0] 23 (0, 0)) := by
        rw [← hww10, ← hE]
        exact heap_alloc_new _ _
      have z2 : Below w9.heap.size w9 w10 := by
        rw [← hww10]
        exact (Below.refl _ _).alloc (Nat.le_refl _) _
      intro X hX
      have z3 : Below w9.heap.size w9 X := z2.trans (hX.mono z2.size)
      exact ⟨(hX.block E (Array.getElem?_eq_some_iff.1 z1).1).trans z1, z3, HB9.out.trans (z3.mono HB9.out.size)⟩
    try rw [hww10]
    try rw [hE]
    clear hww10 hE
    have hcv := HT6.out w10 (HX2.out w10 (HX3.out w10 (Below.refl _ _)).2.2).2.2
    have HB10 : Hid (Below w0.heap.size w0 w10) := HB6.out.trans ((HX2.out w10 (HX3.out w10 (Below.refl _ _)).2.2).2.2.mono HB6.out.size)
    go_upto_region 14 with (go_at_call 18; refine (HOT.out w10 (HA.out w10 HB10.out).2.2.1 (HA.out w10 HB10.out).2.2.2.2).mono ?_; rintro r w11 ⟨p11, rfl, _, _, hb11⟩; have HB11 := Hid.mk' hb11; clear hb11)
    clear hcv
    obtain ⟨F, hF⟩ : ∃ F, w11.heap.size = F := ⟨_, rfl⟩
    obtain ⟨w12, hww12⟩ : ∃ w12, w11.alloc (.cells #[.int .i64 0, .int .i64 0, .int .i64 0, .int .i64 0, .int .i64 0, .int .i64 0, .int .i64 0, .int .i64 0, .int .i64 0] 23) = w12 := ⟨_, rfl⟩
    have HX4 : Hid (∀ X, Below w12.heap.size w12 X → X.heap[F]? = some (.cells #[.int .i64 0, .int .i64 0, .int .i64 0, .int .i64 0, .int .i64 0, .int .i64 0, .int .i64 0, .int .i64 0, .int .i64 0] 23 (0, 0)) ∧ Below w11.heap.size w11 X ∧ Below w10.heap.size w10 X) := by
      have z1 : w12.heap[F]? = some (.cells #[.int .i64 0, .int .i64 0, .int .i64 0, .int .i64 0, .int .i64 0, .int .i64 0, .int .i64 0, .int .i64 0, .int .i64 0] 23 (0, 0)) := by
        rw [← hww12, ← hF]
        exact heap_alloc_new _ _
      have z2 : Below w11.heap.size w11 w12 := by
        rw [← hww12]
        exact (Below.refl _ _).alloc (Nat.le_refl _) _
      intro X hX
      have z3 : Below w11.heap.size w11 X := z2.trans (hX.mono z2.size)
      exact ⟨(hX.block F (Array.getElem?_eq_some_iff.1 z1).1).trans z1, z3, HB11.out.trans (z3.mono HB11.out.size)⟩
    try rw [hww12]
    try rw [hF]
    clear hww12 hF
    have p0 := cell_at (k := 0) (HX2.out w12 (HX3.out w12 (HX4.out w12 (Below.refl _ _)).2.2).2.2).1 rfl
    have p1 := cell_at (k := 1) (HX2.out w12 (HX3.out w12 (HX4.out w12 (Below.refl _ _)).2.2).2.2).1 rfl
    have p2 := cell_at (k := 2) (HX2.out w12 (HX3.out w12 (HX4.out w12 (Below.refl _ _)).2.2).2.2).1 rfl
    have p3 := cell_at (k := 3) (HX2.out w12 (HX3.out w12 (HX4.out w12 (Below.refl _ _)).2.2).2.2).1 rfl
    have p4 := cell_at (k := 4) (HX2.out w12 (HX3.out w12 (HX4.out w12 (Below.refl _ _)).2.2).2.2).1 rfl
    have p5 := cell_at (k := 5) (HX2.out w12 (HX3.out w12 (HX4.out w12 (Below.refl _ _)).2.2).2.2).1 rfl
    have p6 := cell_at (k := 6) (HX2.out w12 (HX3.out w12 (HX4.out w12 (Below.refl _ _)).2.2).2.2).1 rfl
    have p7 := cell_at (k := 7) (HX2.out w12 (HX3.out w12 (HX4.out w12 (Below.refl _ _)).2.2).2.2).1 rfl
    have p8 := cell_at (k := 8) (HX2.out w12 (HX3.out w12 (HX4.out w12 (Below.refl _ _)).2.2).2.2).1 rfl
    have q0 := cell_at (k := 0) (HX3.out w12 (HX4.out w12 (Below.refl _ _)).2.2).1 rfl
    have q1 := cell_at (k := 1) (HX3.out w12 (HX4.out w12 (Below.refl _ _)).2.2).1 rfl
    have q2 := cell_at (k := 2) (HX3.out w12 (HX4.out w12 (Below.refl _ _)).2.2).1 rfl
    have q3 := cell_at (k := 3) (HX3.out w12 (HX4.out w12 (Below.refl _ _)).2.2).1 rfl
    have q4 := cell_at (k := 4) (HX3.out w12 (HX4.out w12 (Below.refl _ _)).2.2).1 rfl
    have q5 := cell_at (k := 5) (HX3.out w12 (HX4.out w12 (Below.refl _ _)).2.2).1 rfl
    have q6 := cell_at (k := 6) (HX3.out w12 (HX4.out w12 (Below.refl _ _)).2.2).1 rfl
    have q7 := cell_at (k := 7) (HX3.out w12 (HX4.out w12 (Below.refl _ _)).2.2).1 rfl
    have q8 := cell_at (k := 8) (HX3.out w12 (HX4.out w12 (Below.refl _ _)).2.2).1 rfl
    have r0 := cell_at (k := 0) (HX4.out w12 (Below.refl _ _)).1 rfl
    have r1 := cell_at (k := 1) (HX4.out w12 (Below.refl _ _)).1 rfl
    have r2 := cell_at (k := 2) (HX4.out w12 (Below.refl _ _)).1 rfl
    have r3 := cell_at (k := 3) (HX4.out w12 (Below.refl _ _)).1 rfl
    have r4 := cell_at (k := 4) (HX4.out w12 (Below.refl _ _)).1 rfl
    have r5 := cell_at (k := 5) (HX4.out w12 (Below.refl _ _)).1 rfl
    have r6 := cell_at (k := 6) (HX4.out w12 (Below.refl _ _)).1 rfl
    have r7 := cell_at (k := 7) (HX4.out w12 (Below.refl _ _)).1 rfl
    have r8 := cell_at (k := 8) (HX4.out w12 (Below.refl _ _)).1 rfl
    have HBL := Hid.mk' (HA.out w12 (HB10.out.trans ((HX4.out w12 (Below.refl _ _)).2.2.mono HB10.out.size))).2.2.2.1
    have hne := HNE.out
    have hez := HEZ.out
    have hnz := HNZ.out
    go_wp2_with fail
    go_ret
    exact ⟨rfl, HBL.out⟩
  · have hlt := hlt2 (by omega)
    have HLT := Hid.mk' hlt
    have hge : (73 : Int) ≤ (pl : Int) := by omega
    clear hlt hlt1 hlt2 hA
    go_enter Tryz.func6, Tryz.ntmps6
    go_upto_region 2 with (go_at_call 9; refine (HKN.out w0 (HA.out w0 (Below.refl _ _)).2.2.1).mono ?_; rintro r w1 ⟨rfl, hb1⟩; have HB1 := Hid.mk' hb1; clear hb1)
    have p0 := cell_at (k := 0) (HA.out w1 HB1.out).1 rfl
    have p1 := cell_at (k := 1) (HA.out w1 HB1.out).1 rfl
    have p2 := cell_at (k := 2) (HA.out w1 HB1.out).1 rfl
    have p3 := cell_at (k := 3) (HA.out w1 HB1.out).1 rfl
    have p4 := cell_at (k := 4) (HA.out w1 HB1.out).1 rfl
    have p5 := cell_at (k := 5) (HA.out w1 HB1.out).1 rfl
    have p6 := cell_at (k := 6) (HA.out w1 HB1.out).1 rfl
    have p7 := cell_at (k := 7) (HA.out w1 HB1.out).1 rfl
    have p8 := cell_at (k := 8) (HA.out w1 HB1.out).1 rfl
    go_upto_region 3 with (go_at_call 21; refine (HMD.out w1 (HA.out w1 HB1.out).2.1).mono ?_; rintro r w2 ⟨n1, c1, rfl, hv2, hb2⟩; have HB2 := Hid.mk' (HB1.out.trans (hb2.mono HB1.out.size)); have HV2 := Hid.mk' hv2; clear hb2 hv2)
    clear p0 p1 p2 p3 p4 p5 p6 p7 p8
    obtain ⟨C, hC⟩ : ∃ C, w2.heap.size = C := ⟨_, rfl⟩
    obtain ⟨w3, hww3⟩ : ∃ w3, w2.alloc (.cells #[.int .i64 (a : Int), .int .i64 (b : Int), .int .i64 0, .int .i64 0, .int .i64 0, .int .i64 (f : Int), .int .i64 (g : Int), .int .i64 0, .int .i64 0] 23) = w3 := ⟨_, rfl⟩
    have HX1 : Hid (∀ X, Below w3.heap.size w3 X → X.heap[C]? = some (.cells #[.int .i64 (a : Int), .int .i64 (b : Int), .int .i64 0, .int .i64 0, .int .i64 0, .int .i64 (f : Int), .int .i64 (g : Int), .int .i64 0, .int .i64 0] 23 (0, 0)) ∧ Below w2.heap.size w2 X ∧ Below w0.heap.size w0 X) := by
      have z1 : w3.heap[C]? = some (.cells #[.int .i64 (a : Int), .int .i64 (b : Int), .int .i64 0, .int .i64 0, .int .i64 0, .int .i64 (f : Int), .int .i64 (g : Int), .int .i64 0, .int .i64 0] 23 (0, 0)) := by
        rw [← hww3, ← hC]
        exact heap_alloc_new _ _
      have z2 : Below w2.heap.size w2 w3 := by
        rw [← hww3]
        exact (Below.refl _ _).alloc (Nat.le_refl _) _
      intro X hX
      have z3 : Below w2.heap.size w2 X := z2.trans (hX.mono z2.size)
      exact ⟨(hX.block C (Array.getElem?_eq_some_iff.1 z1).1).trans z1, z3, HB2.out.trans (z3.mono HB2.out.size)⟩
    try rw [hww3]
    try rw [hC]
    clear hww3 hC
    have p0 := cell_at (k := 0) (HX1.out w3 (Below.refl _ _)).1 rfl
    have p1 := cell_at (k := 1) (HX1.out w3 (Below.refl _ _)).1 rfl
    have p2 := cell_at (k := 2) (HX1.out w3 (Below.refl _ _)).1 rfl
    have p3 := cell_at (k := 3) (HX1.out w3 (Below.refl _ _)).1 rfl
    have p4 := cell_at (k := 4) (HX1.out w3 (Below.refl _ _)).1 rfl
    have p5 := cell_at (k := 5) (HX1.out w3 (Below.refl _ _)).1 rfl
    have p6 := cell_at (k := 6) (HX1.out w3 (Below.refl _ _)).1 rfl
    have p7 := cell_at (k := 7) (HX1.out w3 (Below.refl _ _)).1 rfl
    have p8 := cell_at (k := 8) (HX1.out w3 (Below.refl _ _)).1 rfl
    go_upto_region 4 with (go_at_call 12; refine (HS1.out _ w3 (HV2.out.below (HX1.out w3 (Below.refl _ _)).2.1) (HA.out w3 (HX1.out w3 (Below.refl _ _)).2.2).2.2.1).mono ?_; rintro r w4 ⟨rfl, hb4⟩; have HB4 : Hid (Below w0.heap.size w0 w4) := (HX1.out w4 hb4).2.2; clear hb4)
    clear p0 p1 p2 p3 p4 p5 p6 p7 p8
    clear HV2 HX1 HB2 HB1
    go_upto_region 7 with (go_at_call 22; refine (HPK.out _).mono ?_; rintro r w' ⟨rfl, hw'⟩; have hw2 := hw'.symm; subst hw2; clear hw')
    go_wp2_with fail
    rw [Lib.run_convert_string_bytes w4 9 52 5 s Tryz.underlying9 Tryz.underlying52 Tryz.underlying5]
    have HB5 : Hid (Below w4.heap.size w4 (Lib.bytesWorld w4 5 s)) := below_newB (Below.refl _ _) (Nat.le_refl _) s
    have HR : Hid (RowB w4.heap.size (Sums.bl s) (Lib.bytesWorld w4 5 s)) := RowB.new w4 s
    have HZ5 : Hid ((Lib.bytesWorld w4 5 s).heap.size = w4.heap.size + 1) := Lib.bytesWorld_size w4 5 s
    have HB40 : Hid (w0.heap.size ≤ w4.heap.size) := HB4.out.size
    generalize Lib.bytesWorld w4 5 s = w5 at *
    generalize grownCap w4 s.size 0 5 = cp at *
    generalize w4.heap.size = G at *
    obtain ⟨c1', f1'⟩ := HR.out pl HPL.out.1
    rw [HPL.out.2.1] at c1'
    have HR6 : Hid (RowB G ((Sums.bl s).set pl x') (w5.setCell ⟨G, pl, none⟩ (.int .u8 (x' : Int)))) := HR.out.set pl x' HPL.out.1
    go_upto_region 11 with fail
    obtain ⟨w6, hw6⟩ : ∃ w6, w5.setCell ⟨G, pl, none⟩ (.int .u8 (x' : Int)) = w6 := ⟨_, rfl⟩
    have HB6 : Hid (Below w0.heap.size w0 w6) := by
      unfold Hid
      rw [← hw6]
      exact (HB4.out.trans (HB5.out.mono HB40.out)).setCell (by exact HB40.out) _
    have HT6 : Hid (∀ X, Below w6.heap.size w6 X → (convert 52 9 (.slice (some ⟨G, 0, none⟩) n cp)).run Tryz.prog X = .ok (.string t) X) := fun X hX => by
      have h6 : RowB G ((Sums.bl s).set pl x') w6 := by rw [← hw6]; exact HR6.out
      have hgl : G < w6.heap.size := by rw [← hw6]; have := HZ5.out; simp; omega
      have hX6 : RowB G ((Sums.bl s).set pl x') X := fun j hj => by
        have h7 := h6 j hj
        have hbk := hX.block G hgl
        exact ⟨(hX.cell (p := ⟨G, j, none⟩) hgl).trans h7.1, by
          have h8 := h7.2
          simp only [World.frozen?] at h8 ⊢
          rw [hbk]
          exact h8⟩
      have h9 := hX6.text cp
      rw [List.length_set, Sums.bl_length, hsz] at h9
      exact h9.trans (by rw [← HPL.out.2.2])
    try rw [hw6]
    clear hw6 HR HR6 HZ5 HB5 HB4 HB40 c1' f1'
    go_upto_region 12 with (go_at_call 16; refine (HLO.out w6 (HA.out w6 HB6.out).2.2.1).mono ?_; rintro r w7 ⟨rfl, hb7⟩; have HB7 := Hid.mk' (HB6.out.trans (hb7.mono HB6.out.size)); have HB7x := Hid.mk' hb7; clear hb7)
    obtain ⟨D, hD⟩ : ∃ D, w7.heap.size = D := ⟨_, rfl⟩
    obtain ⟨w8, hww8⟩ : ∃ w8, w7.alloc (.cells #[.int .i64 (a : Int), .int .i64 (b : Int), .int .i64 (c : Int), .int .i64 (d : Int), .int .i64 (e : Int), .int .i64 (f : Int), .int .i64 (g : Int), .int .i64 (h : Int), .int .i64 (i : Int)] 23) = w8 := ⟨_, rfl⟩
    have HX2 : Hid (∀ X, Below w8.heap.size w8 X → X.heap[D]? = some (.cells #[.int .i64 (a : Int), .int .i64 (b : Int), .int .i64 (c : Int), .int .i64 (d : Int), .int .i64 (e : Int), .int .i64 (f : Int), .int .i64 (g : Int), .int .i64 (h : Int), .int .i64 (i : Int)] 23 (0, 0)) ∧ Below w7.heap.size w7 X ∧ Below w6.heap.size w6 X) := by
      have z1 : w8.heap[D]? = some (.cells #[.int .i64 (a : Int), .int .i64 (b : Int), .int .i64 (c : Int), .int .i64 (d : Int), .int .i64 (e : Int), .int .i64 (f : Int), .int .i64 (g : Int), .int .i64 (h : Int), .int .i64 (i : Int)] 23 (0, 0)) := by
        rw [← hww8, ← hD]
        exact heap_alloc_new _ _
      have z2 : Below w7.heap.size w7 w8 := by
        rw [← hww8]
        exact (Below.refl _ _).alloc (Nat.le_refl _) _
      intro X hX
      have z3 : Below w7.heap.size w7 X := z2.trans (hX.mono z2.size)
      exact ⟨(hX.block D (Array.getElem?_eq_some_iff.1 z1).1).trans z1, z3, HB7x.out.trans (z3.mono HB7x.out.size)⟩
    try rw [hww8]
    try rw [hD]
    clear hww8 hD
    have hcv := HT6.out w8 (HX2.out w8 (Below.refl _ _)).2.2
    go_upto_region 13 with (go_at_call 16; refine (HLT.out w8 (HA.out w8 (HB6.out.trans ((HX2.out w8 (Below.refl _ _)).2.2.mono HB6.out.size))).2.2.1).mono ?_; rintro r w9 ⟨rfl, hb9⟩; have HB9 := Hid.mk' hb9; clear hb9)
    clear hcv
    obtain ⟨E, hE⟩ : ∃ E, w9.heap.size = E := ⟨_, rfl⟩
    obtain ⟨w10, hww10⟩ : ∃ w10, w9.alloc (.cells #[.int .i64 (a : Int), .int .i64 (b : Int), .int .i64 (c : Int), .int .i64 (d : Int), .int .i64 (e : Int), .int .i64 (f : Int), .int .i64 (g : Int), .int .i64 (h : Int), .int .i64 (i : Int)] 23) = w10 := ⟨_, rfl⟩
    have HX3 : Hid (∀ X, Below w10.heap.size w10 X → X.heap[E]? = some (.cells #[.int .i64 (a : Int), .int .i64 (b : Int), .int .i64 (c : Int), .int .i64 (d : Int), .int .i64 (e : Int), .int .i64 (f : Int), .int .i64 (g : Int), .int .i64 (h : Int), .int .i64 (i : Int)] 23 (0, 0)) ∧ Below w9.heap.size w9 X ∧ Below w8.heap.size w8 X) := by
      have z1 : w10.heap[E]? = some (.cells #[.int .i64 (a : Int), .int .i64 (b : Int), .int .i64 (c : Int), .int .i64 (d : Int), .int .i64 (e : Int), .int .i64 (f : Int), .int .i64 (g : Int), .int .i64 (h : Int), .int .i64 (i : Int)] 23 (0, 0)) := by
        rw [← hww10, ← hE]
        exact heap_alloc_new _ _
      have z2 : Below w9.heap.size w9 w10 := by
        rw [← hww10]
        exact (Below.refl _ _).alloc (Nat.le_refl _) _
      intro X hX
      have z3 : Below w9.heap.size w9 X := z2.trans (hX.mono z2.size)
      exact ⟨(hX.block E (Array.getElem?_eq_some_iff.1 z1).1).trans z1, z3, HB9.out.trans (z3.mono HB9.out.size)⟩
    try rw [hww10]
    try rw [hE]
    clear hww10 hE
    have hcv := HT6.out w10 (HX2.out w10 (HX3.out w10 (Below.refl _ _)).2.2).2.2
    have HB10 : Hid (Below w0.heap.size w0 w10) := HB6.out.trans ((HX2.out w10 (HX3.out w10 (Below.refl _ _)).2.2).2.2.mono HB6.out.size)
    go_upto_region 14 with (go_at_call 18; refine (HOT.out w10 (HA.out w10 HB10.out).2.2.1 (HA.out w10 HB10.out).2.2.2.2).mono ?_; rintro r w11 ⟨p11, rfl, _, _, hb11⟩; have HB11 := Hid.mk' hb11; clear hb11)
    clear hcv
    obtain ⟨F, hF⟩ : ∃ F, w11.heap.size = F := ⟨_, rfl⟩
    obtain ⟨w12, hww12⟩ : ∃ w12, w11.alloc (.cells #[.int .i64 0, .int .i64 0, .int .i64 0, .int .i64 0, .int .i64 0, .int .i64 0, .int .i64 0, .int .i64 0, .int .i64 0] 23) = w12 := ⟨_, rfl⟩
    have HX4 : Hid (∀ X, Below w12.heap.size w12 X → X.heap[F]? = some (.cells #[.int .i64 0, .int .i64 0, .int .i64 0, .int .i64 0, .int .i64 0, .int .i64 0, .int .i64 0, .int .i64 0, .int .i64 0] 23 (0, 0)) ∧ Below w11.heap.size w11 X ∧ Below w10.heap.size w10 X) := by
      have z1 : w12.heap[F]? = some (.cells #[.int .i64 0, .int .i64 0, .int .i64 0, .int .i64 0, .int .i64 0, .int .i64 0, .int .i64 0, .int .i64 0, .int .i64 0] 23 (0, 0)) := by
        rw [← hww12, ← hF]
        exact heap_alloc_new _ _
      have z2 : Below w11.heap.size w11 w12 := by
        rw [← hww12]
        exact (Below.refl _ _).alloc (Nat.le_refl _) _
      intro X hX
      have z3 : Below w11.heap.size w11 X := z2.trans (hX.mono z2.size)
      exact ⟨(hX.block F (Array.getElem?_eq_some_iff.1 z1).1).trans z1, z3, HB11.out.trans (z3.mono HB11.out.size)⟩
    try rw [hww12]
    try rw [hF]
    clear hww12 hF
    have p0 := cell_at (k := 0) (HX2.out w12 (HX3.out w12 (HX4.out w12 (Below.refl _ _)).2.2).2.2).1 rfl
    have p1 := cell_at (k := 1) (HX2.out w12 (HX3.out w12 (HX4.out w12 (Below.refl _ _)).2.2).2.2).1 rfl
    have p2 := cell_at (k := 2) (HX2.out w12 (HX3.out w12 (HX4.out w12 (Below.refl _ _)).2.2).2.2).1 rfl
    have p3 := cell_at (k := 3) (HX2.out w12 (HX3.out w12 (HX4.out w12 (Below.refl _ _)).2.2).2.2).1 rfl
    have p4 := cell_at (k := 4) (HX2.out w12 (HX3.out w12 (HX4.out w12 (Below.refl _ _)).2.2).2.2).1 rfl
    have p5 := cell_at (k := 5) (HX2.out w12 (HX3.out w12 (HX4.out w12 (Below.refl _ _)).2.2).2.2).1 rfl
    have p6 := cell_at (k := 6) (HX2.out w12 (HX3.out w12 (HX4.out w12 (Below.refl _ _)).2.2).2.2).1 rfl
    have p7 := cell_at (k := 7) (HX2.out w12 (HX3.out w12 (HX4.out w12 (Below.refl _ _)).2.2).2.2).1 rfl
    have p8 := cell_at (k := 8) (HX2.out w12 (HX3.out w12 (HX4.out w12 (Below.refl _ _)).2.2).2.2).1 rfl
    have q0 := cell_at (k := 0) (HX3.out w12 (HX4.out w12 (Below.refl _ _)).2.2).1 rfl
    have q1 := cell_at (k := 1) (HX3.out w12 (HX4.out w12 (Below.refl _ _)).2.2).1 rfl
    have q2 := cell_at (k := 2) (HX3.out w12 (HX4.out w12 (Below.refl _ _)).2.2).1 rfl
    have q3 := cell_at (k := 3) (HX3.out w12 (HX4.out w12 (Below.refl _ _)).2.2).1 rfl
    have q4 := cell_at (k := 4) (HX3.out w12 (HX4.out w12 (Below.refl _ _)).2.2).1 rfl
    have q5 := cell_at (k := 5) (HX3.out w12 (HX4.out w12 (Below.refl _ _)).2.2).1 rfl
    have q6 := cell_at (k := 6) (HX3.out w12 (HX4.out w12 (Below.refl _ _)).2.2).1 rfl
    have q7 := cell_at (k := 7) (HX3.out w12 (HX4.out w12 (Below.refl _ _)).2.2).1 rfl
    have q8 := cell_at (k := 8) (HX3.out w12 (HX4.out w12 (Below.refl _ _)).2.2).1 rfl
    have r0 := cell_at (k := 0) (HX4.out w12 (Below.refl _ _)).1 rfl
    have r1 := cell_at (k := 1) (HX4.out w12 (Below.refl _ _)).1 rfl
    have r2 := cell_at (k := 2) (HX4.out w12 (Below.refl _ _)).1 rfl
    have r3 := cell_at (k := 3) (HX4.out w12 (Below.refl _ _)).1 rfl
    have r4 := cell_at (k := 4) (HX4.out w12 (Below.refl _ _)).1 rfl
    have r5 := cell_at (k := 5) (HX4.out w12 (Below.refl _ _)).1 rfl
    have r6 := cell_at (k := 6) (HX4.out w12 (Below.refl _ _)).1 rfl
    have r7 := cell_at (k := 7) (HX4.out w12 (Below.refl _ _)).1 rfl
    have r8 := cell_at (k := 8) (HX4.out w12 (Below.refl _ _)).1 rfl
    have HBL := Hid.mk' (HA.out w12 (HB10.out.trans ((HX4.out w12 (Below.refl _ _)).2.2.mono HB10.out.size))).2.2.2.1
    have hne := HNE.out
    have hez := HEZ.out
    have hnz := HNZ.out
    go_wp2_with fail
    go_ret
    exact ⟨rfl, HBL.out⟩
end Go.Proofs.YtlplbnlfajdcbaaGreatDoor
