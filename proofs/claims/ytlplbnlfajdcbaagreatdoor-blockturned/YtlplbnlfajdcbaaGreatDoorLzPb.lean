/-
  lz4: what is unpacked, and how it is walked. Conditions: as each says.
-/
import Derived.Test.YtlplbnlfajdcbaaGreatDoorLzPa
namespace Go.Proofs.YtlplbnlfajdcbaaGreatDoor
open Go.RowKit
set_option linter.unusedVariables false
/-- the sequence at hand, as it lies in memory -/
def Box (B : Nat) (token : Nat) (lits : ByteArray) (off cnt : Nat) (w : World) : Prop :=
  w.heap[B]? = some (.cells #[.int .i64 (token : Int), .string lits, .int .i64 (off : Int), .int .i64 (cnt : Int)] 213 (0, 0))
def sqv (s : ByteArray) (x : Lz.Sq) : Value := .agg #[.int .i64 (x.token : Int), .string (s.extract x.frm (x.frm + x.many)), .int .i64 (x.off : Int), .int .i64 (x.len : Int)]
abbrev allOf (s : ByteArray) (ahead most : Nat) : List Lz.Sq × Nat × Nat := Lz.walk (Sums.bl s) ahead most (s.size + 1) 0 0
/-- so far has come pre; what is left begins at i -/
def Left (s : ByteArray) (ahead most : Nat) (pre : List Lz.Sq) (i said : Nat) : Prop :=
  i ≤ s.size ∧ said ≤ most ∧ said ≤ 256 * i ∧ ∃ f, s.size < i + f ∧ allOf s ahead most = (pre ++ (Lz.walk (Sums.bl s) ahead most f i said).1, (Lz.walk (Sums.bl s) ahead most f i said).2)
def J0 (s : ByteArray) (ahead most : Nat) (g : FuncId) (cap : Array Value) (B : Nat) (J : List Lz.Sq → World → Prop) (a : Act) (w : World) : Prop :=
  ∃ (pre : List Lz.Sq) (at_ said : Nat) (count low : Int) (fo : Bool) (t o c : Nat) (l : ByteArray) (f : Nat → Value), a = { tmps := #[.string s, .int .i64 (ahead : Int), .int .i64 (most : Int), .func (.func g) #[] cap, undef, undef, undef, undef, .int .i64 0, .int .i64 0, .pointer (some ⟨B, 0, none⟩), .int .i64 (at_ : Int), .int .i64 (said : Int), .int .i64 count, .int .i64 low, .bool fo, (f 16), (f 17), (f 18), (f 19), (f 20), (f 21), (f 22), (f 23), (f 24), (f 25), (f 26), (f 27), (f 28), (f 29), (f 30), (f 31), (f 32), (f 33), (f 34), (f 35), (f 36), (f 37), (f 38), (f 39), (f 40), (f 41), (f 42), (f 43), (f 44), (f 45), (f 46), (f 47), (f 48), (f 49), (f 50), (f 51), (f 52), (f 53), (f 54), (f 55), (f 56), (f 57), (f 58), (f 59), (f 60), (f 61), (f 62), (f 63), (f 64), (f 65), (f 66), (f 67), (f 68), (f 69), (f 70), (f 71), (f 72), (f 73), (f 74), (f 75), (f 76), (f 77), (f 78), (f 79), (f 80), (f 81), (f 82), (f 83), (f 84), (f 85), (f 86), (f 87), (f 88), (f 89), (f 90), (f 91), (f 92), (f 93), (f 94), (f 95), (f 96), (f 97), (f 98), (f 99), (f 100), (f 101), (f 102), (f 103), (f 104), (f 105), (f 106), (f 107), (f 108), (f 109), (f 110), (f 111), (f 112), (f 113), (f 114), (f 115), (f 116), (f 117), (f 118), (f 119), (f 120), (f 121), (f 122), (f 123), (f 124), (f 125), (f 126), (f 127), (f 128), (f 129), (f 130), (f 131), (f 132), (f 133), (f 134), (f 135), (f 136), (f 137), (f 138), (f 139)], defers := [] } ∧ Box B t l o c w ∧ J pre w ∧ Left s ahead most pre at_ said
def JA (s : ByteArray) (ahead most : Nat) (g : FuncId) (cap : Array Value) (B : Nat) (J : List Lz.Sq → World → Prop) (a : Act) (w : World) : Prop :=
  ∃ (pre : List Lz.Sq) (at_ said count low : Nat) (fo : Bool) (token : Nat) (f : Nat → Value), a = { tmps := #[.string s, .int .i64 (ahead : Int), .int .i64 (most : Int), .func (.func g) #[] cap, undef, undef, undef, undef, .int .i64 0, .int .i64 0, .pointer (some ⟨B, 0, none⟩), .int .i64 (at_ : Int), .int .i64 (said : Int), .int .i64 (count : Int), .int .i64 (low : Int), .bool fo, (f 16), (f 17), (f 18), (f 19), (f 20), (f 21), (f 22), (f 23), (f 24), (f 25), (f 26), (f 27), (f 28), (f 29), (f 30), (f 31), (f 32), (f 33), (f 34), (f 35), (f 36), (f 37), (f 38), (f 39), (f 40), (f 41), (f 42), (f 43), (f 44), (f 45), (f 46), (f 47), (f 48), (f 49), (f 50), (f 51), (f 52), (f 53), (f 54), (f 55), (f 56), (f 57), (f 58), (f 59), (f 60), (f 61), (f 62), (f 63), (f 64), (f 65), (f 66), (f 67), (f 68), (f 69), (f 70), (f 71), (f 72), (f 73), (f 74), (f 75), (f 76), (f 77), (f 78), (f 79), (f 80), (f 81), (f 82), (f 83), (f 84), (f 85), (f 86), (f 87), (f 88), (f 89), (f 90), (f 91), (f 92), (f 93), (f 94), (f 95), (f 96), (f 97), (f 98), (f 99), (f 100), (f 101), (f 102), (f 103), (f 104), (f 105), (f 106), (f 107), (f 108), (f 109), (f 110), (f 111), (f 112), (f 113), (f 114), (f 115), (f 116), (f 117), (f 118), (f 119), (f 120), (f 121), (f 122), (f 123), (f 124), (f 125), (f 126), (f 127), (f 128), (f 129), (f 130), (f 131), (f 132), (f 133), (f 134), (f 135), (f 136), (f 137), (f 138), (f 139)], defers := [] } ∧ Box B token ⟨#[]⟩ 0 0 w ∧ J pre w ∧ Left s ahead most pre token said ∧ low < 16 ∧ token < at_ ∧ at_ ≤ s.size ∧ said + count ≤ 256 * at_
    ∧ Lz.next (Sums.bl s) token said ahead most = Lz.nextB (Sums.bl s) token low said ahead most (Lz.counted (Sums.bl s) at_ count fo (most - said))
def JB (s : ByteArray) (ahead most : Nat) (g : FuncId) (cap : Array Value) (B : Nat) (J : List Lz.Sq → World → Prop) (a : Act) (w : World) : Prop :=
  ∃ (pre : List Lz.Sq) (at_ said0 many count : Nat) (low : Int) (fo : Bool) (token frm off : Nat) (f : Nat → Value), a = { tmps := #[.string s, .int .i64 (ahead : Int), .int .i64 (most : Int), .func (.func g) #[] cap, undef, undef, undef, undef, .int .i64 0, .int .i64 0, .pointer (some ⟨B, 0, none⟩), .int .i64 (at_ : Int), .int .i64 ((said0 + many : Nat) : Int), .int .i64 (count : Int), .int .i64 low, .bool fo, (f 16), (f 17), (f 18), (f 19), (f 20), (f 21), (f 22), (f 23), (f 24), (f 25), (f 26), (f 27), (f 28), (f 29), (f 30), (f 31), (f 32), (f 33), (f 34), (f 35), (f 36), (f 37), (f 38), (f 39), (f 40), (f 41), (f 42), (f 43), (f 44), (f 45), (f 46), (f 47), (f 48), (f 49), (f 50), (f 51), (f 52), (f 53), (f 54), (f 55), (f 56), (f 57), (f 58), (f 59), (f 60), (f 61), (f 62), (f 63), (f 64), (f 65), (f 66), (f 67), (f 68), (f 69), (f 70), (f 71), (f 72), (f 73), (f 74), (f 75), (f 76), (f 77), (f 78), (f 79), (f 80), (f 81), (f 82), (f 83), (f 84), (f 85), (f 86), (f 87), (f 88), (f 89), (f 90), (f 91), (f 92), (f 93), (f 94), (f 95), (f 96), (f 97), (f 98), (f 99), (f 100), (f 101), (f 102), (f 103), (f 104), (f 105), (f 106), (f 107), (f 108), (f 109), (f 110), (f 111), (f 112), (f 113), (f 114), (f 115), (f 116), (f 117), (f 118), (f 119), (f 120), (f 121), (f 122), (f 123), (f 124), (f 125), (f 126), (f 127), (f 128), (f 129), (f 130), (f 131), (f 132), (f 133), (f 134), (f 135), (f 136), (f 137), (f 138), (f 139)], defers := [] } ∧ Box B token (s.extract frm (frm + many)) off 0 w ∧ J pre w ∧ Left s ahead most pre token said0 ∧ 0 < off ∧ token < at_ ∧ at_ ≤ s.size ∧ said0 + many ≤ most ∧ said0 + many + count ≤ 256 * at_ ∧ 0 < count
    ∧ Lz.next (Sums.bl s) token said0 ahead most = Lz.nextC (Sums.bl s) token frm many off (Lz.counted (Sums.bl s) at_ count fo (most - said0 - many))
def J2 (s : ByteArray) (ahead most : Nat) (g : FuncId) (cap : Array Value) (B : Nat) (J : List Lz.Sq → World → Prop) (a : Act) (w : World) : Prop :=
  ∃ (pre : List Lz.Sq) (at_ said0 many count : Nat) (low : Int) (fo : Bool) (token frm off : Nat) (f : Nat → Value), a = { tmps := #[.string s, .int .i64 (ahead : Int), .int .i64 (most : Int), .func (.func g) #[] cap, undef, undef, undef, undef, .int .i64 0, .int .i64 0, .pointer (some ⟨B, 0, none⟩), .int .i64 (at_ : Int), .int .i64 ((said0 + many : Nat) : Int), .int .i64 (count : Int), .int .i64 low, .bool fo, (f 16), (f 17), (f 18), (f 19), (f 20), (f 21), (f 22), (f 23), (f 24), (f 25), (f 26), (f 27), (f 28), (f 29), (f 30), (f 31), (f 32), (f 33), (f 34), (f 35), (f 36), (f 37), (f 38), (f 39), (f 40), (f 41), (f 42), (f 43), (f 44), (f 45), (f 46), (f 47), (f 48), (f 49), (f 50), (f 51), (f 52), (f 53), (f 54), (f 55), (f 56), (f 57), (f 58), (f 59), (f 60), (f 61), (f 62), (f 63), (f 64), (f 65), (f 66), (f 67), (f 68), (f 69), (f 70), (f 71), (f 72), (f 73), (f 74), (f 75), (f 76), (f 77), (f 78), (f 79), (f 80), (f 81), (f 82), (f 83), (f 84), (f 85), (f 86), (f 87), (f 88), (f 89), (f 90), (f 91), (f 92), (f 93), (f 94), (f 95), (f 96), (f 97), (f 98), (f 99), (f 100), (f 101), (f 102), (f 103), (f 104), (f 105), (f 106), (f 107), (f 108), (f 109), (f 110), (f 111), (f 112), (f 113), (f 114), (f 115), (f 116), (f 117), (f 118), (f 119), (f 120), (f 121), (f 122), (f 123), (f 124), (f 125), (f 126), (f 127), (f 128), (f 129), (f 130), (f 131), (f 132), (f 133), (f 134), (f 135), (f 136), (f 137), (f 138), (f 139)], defers := [] } ∧ Box B token (s.extract frm (frm + many)) off 0 w ∧ J pre w ∧ Left s ahead most pre token said0 ∧ token < at_ ∧ at_ ≤ s.size ∧ said0 + many + count ≤ most ∧ said0 + many + count ≤ 256 * at_ ∧ 0 < count
    ∧ Lz.next (Sums.bl s) token said0 ahead most = ⟨0, 0, frm, many, off, count, at_⟩
theorem fill (u16 u17 u18 u19 u20 u21 u22 u23 u24 u25 u26 u27 u28 u29 u30 u31 u32 u33 u34 u35 u36 u37 u38 u39 u40 u41 u42 u43 u44 u45 u46 u47 u48 u49 u50 u51 u52 u53 u54 u55 u56 u57 u58 u59 u60 u61 u62 u63 u64 u65 u66 u67 u68 u69 u70 u71 u72 u73 u74 u75 u76 u77 u78 u79 u80 u81 u82 u83 u84 u85 u86 u87 u88 u89 u90 u91 u92 u93 u94 u95 u96 u97 u98 u99 u100 u101 u102 u103 u104 u105 u106 u107 u108 u109 u110 u111 u112 u113 u114 u115 u116 u117 u118 u119 u120 u121 u122 u123 u124 u125 u126 u127 u128 u129 u130 u131 u132 u133 u134 u135 u136 u137 u138 u139 : Value) : ∃ f : Nat → Value, [u16, u17, u18, u19, u20, u21, u22, u23, u24, u25, u26, u27, u28, u29, u30, u31, u32, u33, u34, u35, u36, u37, u38, u39, u40, u41, u42, u43, u44, u45, u46, u47, u48, u49, u50, u51, u52, u53, u54, u55, u56, u57, u58, u59, u60, u61, u62, u63, u64, u65, u66, u67, u68, u69, u70, u71, u72, u73, u74, u75, u76, u77, u78, u79, u80, u81, u82, u83, u84, u85, u86, u87, u88, u89, u90, u91, u92, u93, u94, u95, u96, u97, u98, u99, u100, u101, u102, u103, u104, u105, u106, u107, u108, u109, u110, u111, u112, u113, u114, u115, u116, u117, u118, u119, u120, u121, u122, u123, u124, u125, u126, u127, u128, u129, u130, u131, u132, u133, u134, u135, u136, u137, u138, u139] = [(f 16), (f 17), (f 18), (f 19), (f 20), (f 21), (f 22), (f 23), (f 24), (f 25), (f 26), (f 27), (f 28), (f 29), (f 30), (f 31), (f 32), (f 33), (f 34), (f 35), (f 36), (f 37), (f 38), (f 39), (f 40), (f 41), (f 42), (f 43), (f 44), (f 45), (f 46), (f 47), (f 48), (f 49), (f 50), (f 51), (f 52), (f 53), (f 54), (f 55), (f 56), (f 57), (f 58), (f 59), (f 60), (f 61), (f 62), (f 63), (f 64), (f 65), (f 66), (f 67), (f 68), (f 69), (f 70), (f 71), (f 72), (f 73), (f 74), (f 75), (f 76), (f 77), (f 78), (f 79), (f 80), (f 81), (f 82), (f 83), (f 84), (f 85), (f 86), (f 87), (f 88), (f 89), (f 90), (f 91), (f 92), (f 93), (f 94), (f 95), (f 96), (f 97), (f 98), (f 99), (f 100), (f 101), (f 102), (f 103), (f 104), (f 105), (f 106), (f 107), (f 108), (f 109), (f 110), (f 111), (f 112), (f 113), (f 114), (f 115), (f 116), (f 117), (f 118), (f 119), (f 120), (f 121), (f 122), (f 123), (f 124), (f 125), (f 126), (f 127), (f 128), (f 129), (f 130), (f 131), (f 132), (f 133), (f 134), (f 135), (f 136), (f 137), (f 138), (f 139)] := ⟨fun i => ([u16, u17, u18, u19, u20, u21, u22, u23, u24, u25, u26, u27, u28, u29, u30, u31, u32, u33, u34, u35, u36, u37, u38, u39, u40, u41, u42, u43, u44, u45, u46, u47, u48, u49, u50, u51, u52, u53, u54, u55, u56, u57, u58, u59, u60, u61, u62, u63, u64, u65, u66, u67, u68, u69, u70, u71, u72, u73, u74, u75, u76, u77, u78, u79, u80, u81, u82, u83, u84, u85, u86, u87, u88, u89, u90, u91, u92, u93, u94, u95, u96, u97, u98, u99, u100, u101, u102, u103, u104, u105, u106, u107, u108, u109, u110, u111, u112, u113, u114, u115, u116, u117, u118, u119, u120, u121, u122, u123, u124, u125, u126, u127, u128, u129, u130, u131, u132, u133, u134, u135, u136, u137, u138, u139] : List Value).getD (i - 16) undef, rfl⟩
theorem frame_fill (h : List Value) (u16 u17 u18 u19 u20 u21 u22 u23 u24 u25 u26 u27 u28 u29 u30 u31 u32 u33 u34 u35 u36 u37 u38 u39 u40 u41 u42 u43 u44 u45 u46 u47 u48 u49 u50 u51 u52 u53 u54 u55 u56 u57 u58 u59 u60 u61 u62 u63 u64 u65 u66 u67 u68 u69 u70 u71 u72 u73 u74 u75 u76 u77 u78 u79 u80 u81 u82 u83 u84 u85 u86 u87 u88 u89 u90 u91 u92 u93 u94 u95 u96 u97 u98 u99 u100 u101 u102 u103 u104 u105 u106 u107 u108 u109 u110 u111 u112 u113 u114 u115 u116 u117 u118 u119 u120 u121 u122 u123 u124 u125 u126 u127 u128 u129 u130 u131 u132 u133 u134 u135 u136 u137 u138 u139 : Value) : ∃ f : Nat → Value, ({ tmps := (h ++ [u16, u17, u18, u19, u20, u21, u22, u23, u24, u25, u26, u27, u28, u29, u30, u31, u32, u33, u34, u35, u36, u37, u38, u39, u40, u41, u42, u43, u44, u45, u46, u47, u48, u49, u50, u51, u52, u53, u54, u55, u56, u57, u58, u59, u60, u61, u62, u63, u64, u65, u66, u67, u68, u69, u70, u71, u72, u73, u74, u75, u76, u77, u78, u79, u80, u81, u82, u83, u84, u85, u86, u87, u88, u89, u90, u91, u92, u93, u94, u95, u96, u97, u98, u99, u100, u101, u102, u103, u104, u105, u106, u107, u108, u109, u110, u111, u112, u113, u114, u115, u116, u117, u118, u119, u120, u121, u122, u123, u124, u125, u126, u127, u128, u129, u130, u131, u132, u133, u134, u135, u136, u137, u138, u139]).toArray, defers := [] } : Act) = { tmps := (h ++ [(f 16), (f 17), (f 18), (f 19), (f 20), (f 21), (f 22), (f 23), (f 24), (f 25), (f 26), (f 27), (f 28), (f 29), (f 30), (f 31), (f 32), (f 33), (f 34), (f 35), (f 36), (f 37), (f 38), (f 39), (f 40), (f 41), (f 42), (f 43), (f 44), (f 45), (f 46), (f 47), (f 48), (f 49), (f 50), (f 51), (f 52), (f 53), (f 54), (f 55), (f 56), (f 57), (f 58), (f 59), (f 60), (f 61), (f 62), (f 63), (f 64), (f 65), (f 66), (f 67), (f 68), (f 69), (f 70), (f 71), (f 72), (f 73), (f 74), (f 75), (f 76), (f 77), (f 78), (f 79), (f 80), (f 81), (f 82), (f 83), (f 84), (f 85), (f 86), (f 87), (f 88), (f 89), (f 90), (f 91), (f 92), (f 93), (f 94), (f 95), (f 96), (f 97), (f 98), (f 99), (f 100), (f 101), (f 102), (f 103), (f 104), (f 105), (f 106), (f 107), (f 108), (f 109), (f 110), (f 111), (f 112), (f 113), (f 114), (f 115), (f 116), (f 117), (f 118), (f 119), (f 120), (f 121), (f 122), (f 123), (f 124), (f 125), (f 126), (f 127), (f 128), (f 129), (f 130), (f 131), (f 132), (f 133), (f 134), (f 135), (f 136), (f 137), (f 138), (f 139)]).toArray, defers := [] } := by
  obtain ⟨f, hf⟩ := fill u16 u17 u18 u19 u20 u21 u22 u23 u24 u25 u26 u27 u28 u29 u30 u31 u32 u33 u34 u35 u36 u37 u38 u39 u40 u41 u42 u43 u44 u45 u46 u47 u48 u49 u50 u51 u52 u53 u54 u55 u56 u57 u58 u59 u60 u61 u62 u63 u64 u65 u66 u67 u68 u69 u70 u71 u72 u73 u74 u75 u76 u77 u78 u79 u80 u81 u82 u83 u84 u85 u86 u87 u88 u89 u90 u91 u92 u93 u94 u95 u96 u97 u98 u99 u100 u101 u102 u103 u104 u105 u106 u107 u108 u109 u110 u111 u112 u113 u114 u115 u116 u117 u118 u119 u120 u121 u122 u123 u124 u125 u126 u127 u128 u129 u130 u131 u132 u133 u134 u135 u136 u137 u138 u139
  exact ⟨f, by rw [hf]⟩
theorem J0_mk (s : ByteArray) (ahead most : Nat) (g : FuncId) (cap : Array Value) (B : Nat) (J : List Lz.Sq → World → Prop) (w : World) (pre : List Lz.Sq) (at_ said : Nat) (count low : Int) (fo : Bool) (t o c : Nat) (l : ByteArray) {u16 u17 u18 u19 u20 u21 u22 u23 u24 u25 u26 u27 u28 u29 u30 u31 u32 u33 u34 u35 u36 u37 u38 u39 u40 u41 u42 u43 u44 u45 u46 u47 u48 u49 u50 u51 u52 u53 u54 u55 u56 u57 u58 u59 u60 u61 u62 u63 u64 u65 u66 u67 u68 u69 u70 u71 u72 u73 u74 u75 u76 u77 u78 u79 u80 u81 u82 u83 u84 u85 u86 u87 u88 u89 u90 u91 u92 u93 u94 u95 u96 u97 u98 u99 u100 u101 u102 u103 u104 u105 u106 u107 u108 u109 u110 u111 u112 u113 u114 u115 u116 u117 u118 u119 u120 u121 u122 u123 u124 u125 u126 u127 u128 u129 u130 u131 u132 u133 u134 u135 u136 u137 u138 u139 : Value} (hb : Box B t l o c w) (hJ : J pre w) (hL : Left s ahead most pre at_ said) :
    J0 s ahead most g cap B J { tmps := #[.string s, .int .i64 (ahead : Int), .int .i64 (most : Int), .func (.func g) #[] cap, undef, undef, undef, undef, .int .i64 0, .int .i64 0, .pointer (some ⟨B, 0, none⟩), .int .i64 (at_ : Int), .int .i64 (said : Int), .int .i64 count, .int .i64 low, .bool fo, u16, u17, u18, u19, u20, u21, u22, u23, u24, u25, u26, u27, u28, u29, u30, u31, u32, u33, u34, u35, u36, u37, u38, u39, u40, u41, u42, u43, u44, u45, u46, u47, u48, u49, u50, u51, u52, u53, u54, u55, u56, u57, u58, u59, u60, u61, u62, u63, u64, u65, u66, u67, u68, u69, u70, u71, u72, u73, u74, u75, u76, u77, u78, u79, u80, u81, u82, u83, u84, u85, u86, u87, u88, u89, u90, u91, u92, u93, u94, u95, u96, u97, u98, u99, u100, u101, u102, u103, u104, u105, u106, u107, u108, u109, u110, u111, u112, u113, u114, u115, u116, u117, u118, u119, u120, u121, u122, u123, u124, u125, u126, u127, u128, u129, u130, u131, u132, u133, u134, u135, u136, u137, u138, u139], defers := [] } w := by
  obtain ⟨f, hf⟩ := frame_fill [.string s, .int .i64 (ahead : Int), .int .i64 (most : Int), .func (.func g) #[] cap, undef, undef, undef, undef, .int .i64 0, .int .i64 0, .pointer (some ⟨B, 0, none⟩), .int .i64 (at_ : Int), .int .i64 (said : Int), .int .i64 count, .int .i64 low, .bool fo] u16 u17 u18 u19 u20 u21 u22 u23 u24 u25 u26 u27 u28 u29 u30 u31 u32 u33 u34 u35 u36 u37 u38 u39 u40 u41 u42 u43 u44 u45 u46 u47 u48 u49 u50 u51 u52 u53 u54 u55 u56 u57 u58 u59 u60 u61 u62 u63 u64 u65 u66 u67 u68 u69 u70 u71 u72 u73 u74 u75 u76 u77 u78 u79 u80 u81 u82 u83 u84 u85 u86 u87 u88 u89 u90 u91 u92 u93 u94 u95 u96 u97 u98 u99 u100 u101 u102 u103 u104 u105 u106 u107 u108 u109 u110 u111 u112 u113 u114 u115 u116 u117 u118 u119 u120 u121 u122 u123 u124 u125 u126 u127 u128 u129 u130 u131 u132 u133 u134 u135 u136 u137 u138 u139
  exact ⟨pre, at_, said, count, low, fo, t, o, c, l, f, hf, hb, hJ, hL⟩
theorem JA_mk (s : ByteArray) (ahead most : Nat) (g : FuncId) (cap : Array Value) (B : Nat) (J : List Lz.Sq → World → Prop) (w : World) (pre : List Lz.Sq) (at_ said count low : Nat) (fo : Bool) (token : Nat) {u16 u17 u18 u19 u20 u21 u22 u23 u24 u25 u26 u27 u28 u29 u30 u31 u32 u33 u34 u35 u36 u37 u38 u39 u40 u41 u42 u43 u44 u45 u46 u47 u48 u49 u50 u51 u52 u53 u54 u55 u56 u57 u58 u59 u60 u61 u62 u63 u64 u65 u66 u67 u68 u69 u70 u71 u72 u73 u74 u75 u76 u77 u78 u79 u80 u81 u82 u83 u84 u85 u86 u87 u88 u89 u90 u91 u92 u93 u94 u95 u96 u97 u98 u99 u100 u101 u102 u103 u104 u105 u106 u107 u108 u109 u110 u111 u112 u113 u114 u115 u116 u117 u118 u119 u120 u121 u122 u123 u124 u125 u126 u127 u128 u129 u130 u131 u132 u133 u134 u135 u136 u137 u138 u139 : Value} (hb : Box B token ⟨#[]⟩ 0 0 w) (hJ : J pre w) (hL : Left s ahead most pre token said) (h1 : low < 16) (h2 : token < at_) (h3 : at_ ≤ s.size) (h4 : said + count ≤ 256 * at_)
    (h5 : Lz.next (Sums.bl s) token said ahead most = Lz.nextB (Sums.bl s) token low said ahead most (Lz.counted (Sums.bl s) at_ count fo (most - said))) :
    JA s ahead most g cap B J { tmps := #[.string s, .int .i64 (ahead : Int), .int .i64 (most : Int), .func (.func g) #[] cap, undef, undef, undef, undef, .int .i64 0, .int .i64 0, .pointer (some ⟨B, 0, none⟩), .int .i64 (at_ : Int), .int .i64 (said : Int), .int .i64 (count : Int), .int .i64 (low : Int), .bool fo, u16, u17, u18, u19, u20, u21, u22, u23, u24, u25, u26, u27, u28, u29, u30, u31, u32, u33, u34, u35, u36, u37, u38, u39, u40, u41, u42, u43, u44, u45, u46, u47, u48, u49, u50, u51, u52, u53, u54, u55, u56, u57, u58, u59, u60, u61, u62, u63, u64, u65, u66, u67, u68, u69, u70, u71, u72, u73, u74, u75, u76, u77, u78, u79, u80, u81, u82, u83, u84, u85, u86, u87, u88, u89, u90, u91, u92, u93, u94, u95, u96, u97, u98, u99, u100, u101, u102, u103, u104, u105, u106, u107, u108, u109, u110, u111, u112, u113, u114, u115, u116, u117, u118, u119, u120, u121, u122, u123, u124, u125, u126, u127, u128, u129, u130, u131, u132, u133, u134, u135, u136, u137, u138, u139], defers := [] } w := by
  obtain ⟨f, hf⟩ := frame_fill [.string s, .int .i64 (ahead : Int), .int .i64 (most : Int), .func (.func g) #[] cap, undef, undef, undef, undef, .int .i64 0, .int .i64 0, .pointer (some ⟨B, 0, none⟩), .int .i64 (at_ : Int), .int .i64 (said : Int), .int .i64 (count : Int), .int .i64 (low : Int), .bool fo] u16 u17 u18 u19 u20 u21 u22 u23 u24 u25 u26 u27 u28 u29 u30 u31 u32 u33 u34 u35 u36 u37 u38 u39 u40 u41 u42 u43 u44 u45 u46 u47 u48 u49 u50 u51 u52 u53 u54 u55 u56 u57 u58 u59 u60 u61 u62 u63 u64 u65 u66 u67 u68 u69 u70 u71 u72 u73 u74 u75 u76 u77 u78 u79 u80 u81 u82 u83 u84 u85 u86 u87 u88 u89 u90 u91 u92 u93 u94 u95 u96 u97 u98 u99 u100 u101 u102 u103 u104 u105 u106 u107 u108 u109 u110 u111 u112 u113 u114 u115 u116 u117 u118 u119 u120 u121 u122 u123 u124 u125 u126 u127 u128 u129 u130 u131 u132 u133 u134 u135 u136 u137 u138 u139
  exact ⟨pre, at_, said, count, low, fo, token, f, hf, hb, hJ, hL, h1, h2, h3, h4, h5⟩
theorem JB_mk (s : ByteArray) (ahead most : Nat) (g : FuncId) (cap : Array Value) (B : Nat) (J : List Lz.Sq → World → Prop) (w : World) (pre : List Lz.Sq) (at_ said0 many count : Nat) (low : Int) (fo : Bool) (token frm off : Nat) {u16 u17 u18 u19 u20 u21 u22 u23 u24 u25 u26 u27 u28 u29 u30 u31 u32 u33 u34 u35 u36 u37 u38 u39 u40 u41 u42 u43 u44 u45 u46 u47 u48 u49 u50 u51 u52 u53 u54 u55 u56 u57 u58 u59 u60 u61 u62 u63 u64 u65 u66 u67 u68 u69 u70 u71 u72 u73 u74 u75 u76 u77 u78 u79 u80 u81 u82 u83 u84 u85 u86 u87 u88 u89 u90 u91 u92 u93 u94 u95 u96 u97 u98 u99 u100 u101 u102 u103 u104 u105 u106 u107 u108 u109 u110 u111 u112 u113 u114 u115 u116 u117 u118 u119 u120 u121 u122 u123 u124 u125 u126 u127 u128 u129 u130 u131 u132 u133 u134 u135 u136 u137 u138 u139 : Value} (hb : Box B token (s.extract frm (frm + many)) off 0 w) (hJ : J pre w) (hL : Left s ahead most pre token said0) (h1 : 0 < off) (h2 : token < at_) (h3 : at_ ≤ s.size) (h4 : said0 + many ≤ most) (h5 : said0 + many + count ≤ 256 * at_) (h6 : 0 < count)
    (h7 : Lz.next (Sums.bl s) token said0 ahead most = Lz.nextC (Sums.bl s) token frm many off (Lz.counted (Sums.bl s) at_ count fo (most - said0 - many))) :
    JB s ahead most g cap B J { tmps := #[.string s, .int .i64 (ahead : Int), .int .i64 (most : Int), .func (.func g) #[] cap, undef, undef, undef, undef, .int .i64 0, .int .i64 0, .pointer (some ⟨B, 0, none⟩), .int .i64 (at_ : Int), .int .i64 ((said0 + many : Nat) : Int), .int .i64 (count : Int), .int .i64 low, .bool fo, u16, u17, u18, u19, u20, u21, u22, u23, u24, u25, u26, u27, u28, u29, u30, u31, u32, u33, u34, u35, u36, u37, u38, u39, u40, u41, u42, u43, u44, u45, u46, u47, u48, u49, u50, u51, u52, u53, u54, u55, u56, u57, u58, u59, u60, u61, u62, u63, u64, u65, u66, u67, u68, u69, u70, u71, u72, u73, u74, u75, u76, u77, u78, u79, u80, u81, u82, u83, u84, u85, u86, u87, u88, u89, u90, u91, u92, u93, u94, u95, u96, u97, u98, u99, u100, u101, u102, u103, u104, u105, u106, u107, u108, u109, u110, u111, u112, u113, u114, u115, u116, u117, u118, u119, u120, u121, u122, u123, u124, u125, u126, u127, u128, u129, u130, u131, u132, u133, u134, u135, u136, u137, u138, u139], defers := [] } w := by
  obtain ⟨f, hf⟩ := frame_fill [.string s, .int .i64 (ahead : Int), .int .i64 (most : Int), .func (.func g) #[] cap, undef, undef, undef, undef, .int .i64 0, .int .i64 0, .pointer (some ⟨B, 0, none⟩), .int .i64 (at_ : Int), .int .i64 ((said0 + many : Nat) : Int), .int .i64 (count : Int), .int .i64 low, .bool fo] u16 u17 u18 u19 u20 u21 u22 u23 u24 u25 u26 u27 u28 u29 u30 u31 u32 u33 u34 u35 u36 u37 u38 u39 u40 u41 u42 u43 u44 u45 u46 u47 u48 u49 u50 u51 u52 u53 u54 u55 u56 u57 u58 u59 u60 u61 u62 u63 u64 u65 u66 u67 u68 u69 u70 u71 u72 u73 u74 u75 u76 u77 u78 u79 u80 u81 u82 u83 u84 u85 u86 u87 u88 u89 u90 u91 u92 u93 u94 u95 u96 u97 u98 u99 u100 u101 u102 u103 u104 u105 u106 u107 u108 u109 u110 u111 u112 u113 u114 u115 u116 u117 u118 u119 u120 u121 u122 u123 u124 u125 u126 u127 u128 u129 u130 u131 u132 u133 u134 u135 u136 u137 u138 u139
  exact ⟨pre, at_, said0, many, count, low, fo, token, frm, off, f, hf, hb, hJ, hL, h1, h2, h3, h4, h5, h6, h7⟩
theorem J2_mk (s : ByteArray) (ahead most : Nat) (g : FuncId) (cap : Array Value) (B : Nat) (J : List Lz.Sq → World → Prop) (w : World) (pre : List Lz.Sq) (at_ said0 many count : Nat) (low : Int) (fo : Bool) (token frm off : Nat) {u16 u17 u18 u19 u20 u21 u22 u23 u24 u25 u26 u27 u28 u29 u30 u31 u32 u33 u34 u35 u36 u37 u38 u39 u40 u41 u42 u43 u44 u45 u46 u47 u48 u49 u50 u51 u52 u53 u54 u55 u56 u57 u58 u59 u60 u61 u62 u63 u64 u65 u66 u67 u68 u69 u70 u71 u72 u73 u74 u75 u76 u77 u78 u79 u80 u81 u82 u83 u84 u85 u86 u87 u88 u89 u90 u91 u92 u93 u94 u95 u96 u97 u98 u99 u100 u101 u102 u103 u104 u105 u106 u107 u108 u109 u110 u111 u112 u113 u114 u115 u116 u117 u118 u119 u120 u121 u122 u123 u124 u125 u126 u127 u128 u129 u130 u131 u132 u133 u134 u135 u136 u137 u138 u139 : Value} (hb : Box B token (s.extract frm (frm + many)) off 0 w) (hJ : J pre w) (hL : Left s ahead most pre token said0) (h1 : token < at_) (h2 : at_ ≤ s.size) (h3 : said0 + many + count ≤ most) (h4 : said0 + many + count ≤ 256 * at_) (h5 : 0 < count)
    (h6 : Lz.next (Sums.bl s) token said0 ahead most = ⟨0, 0, frm, many, off, count, at_⟩) :
    J2 s ahead most g cap B J { tmps := #[.string s, .int .i64 (ahead : Int), .int .i64 (most : Int), .func (.func g) #[] cap, undef, undef, undef, undef, .int .i64 0, .int .i64 0, .pointer (some ⟨B, 0, none⟩), .int .i64 (at_ : Int), .int .i64 ((said0 + many : Nat) : Int), .int .i64 (count : Int), .int .i64 low, .bool fo, u16, u17, u18, u19, u20, u21, u22, u23, u24, u25, u26, u27, u28, u29, u30, u31, u32, u33, u34, u35, u36, u37, u38, u39, u40, u41, u42, u43, u44, u45, u46, u47, u48, u49, u50, u51, u52, u53, u54, u55, u56, u57, u58, u59, u60, u61, u62, u63, u64, u65, u66, u67, u68, u69, u70, u71, u72, u73, u74, u75, u76, u77, u78, u79, u80, u81, u82, u83, u84, u85, u86, u87, u88, u89, u90, u91, u92, u93, u94, u95, u96, u97, u98, u99, u100, u101, u102, u103, u104, u105, u106, u107, u108, u109, u110, u111, u112, u113, u114, u115, u116, u117, u118, u119, u120, u121, u122, u123, u124, u125, u126, u127, u128, u129, u130, u131, u132, u133, u134, u135, u136, u137, u138, u139], defers := [] } w := by
  obtain ⟨f, hf⟩ := frame_fill [.string s, .int .i64 (ahead : Int), .int .i64 (most : Int), .func (.func g) #[] cap, undef, undef, undef, undef, .int .i64 0, .int .i64 0, .pointer (some ⟨B, 0, none⟩), .int .i64 (at_ : Int), .int .i64 ((said0 + many : Nat) : Int), .int .i64 (count : Int), .int .i64 low, .bool fo] u16 u17 u18 u19 u20 u21 u22 u23 u24 u25 u26 u27 u28 u29 u30 u31 u32 u33 u34 u35 u36 u37 u38 u39 u40 u41 u42 u43 u44 u45 u46 u47 u48 u49 u50 u51 u52 u53 u54 u55 u56 u57 u58 u59 u60 u61 u62 u63 u64 u65 u66 u67 u68 u69 u70 u71 u72 u73 u74 u75 u76 u77 u78 u79 u80 u81 u82 u83 u84 u85 u86 u87 u88 u89 u90 u91 u92 u93 u94 u95 u96 u97 u98 u99 u100 u101 u102 u103 u104 u105 u106 u107 u108 u109 u110 u111 u112 u113 u114 u115 u116 u117 u118 u119 u120 u121 u122 u123 u124 u125 u126 u127 u128 u129 u130 u131 u132 u133 u134 u135 u136 u137 u138 u139
  exact ⟨pre, at_, said0, many, count, low, fo, token, frm, off, f, hf, hb, hJ, hL, h1, h2, h3, h4, h5, h6⟩
theorem left_err (s : ByteArray) (ahead most : Nat) (pre : List Lz.Sq) (i said : Nat) (h : Left s ahead most pre i said) (e : Nat) (pl : Nat) (p : Lz.Part) (hn : Lz.next (Sums.bl s) i said ahead most = p) (h1 : p.code = e) (h2 : p.place = pl) (hc : e ≠ 0) :
    allOf s ahead most = (pre, e, pl) := by
  obtain ⟨h1, h2, h3, f, hf, e⟩ := h
  obtain ⟨k, rfl⟩ : ∃ k, f = k + 1 := ⟨f - 1, by omega⟩
  subst hn
  subst h1
  subst h2
  rw [e, Lz.walk, if_pos hc]
  simp
theorem left_last (s : ByteArray) (ahead most : Nat) (pre : List Lz.Sq) (i said : Nat) (h : Left s ahead most pre i said) (frm many nxt : Nat) (hc : Lz.next (Sums.bl s) i said ahead most = ⟨0, 0, frm, many, 0, 0, nxt⟩) :
    allOf s ahead most = (pre ++ [⟨i, frm, many, 0, 0⟩], 0, 0) := by
  obtain ⟨h1, h2, h3, f, hf, e⟩ := h
  obtain ⟨k, rfl⟩ : ∃ k, f = k + 1 := ⟨f - 1, by omega⟩
  rw [e, Lz.walk, hc]
  simp [Lz.seqOf]
theorem left_next (s : ByteArray) (ahead most : Nat) (pre : List Lz.Sq) (i said : Nat) (h : Left s ahead most pre i said) (frm many off len nxt : Nat) (hc : Lz.next (Sums.bl s) i said ahead most = ⟨0, 0, frm, many, off, len, nxt⟩) (hl : 0 < len)
    (hi : i < nxt) (hn : nxt ≤ s.size) (hm : said + many + len ≤ most) (hb : said + many + len ≤ 256 * nxt) :
    pre ++ [⟨i, frm, many, off, len⟩] <+: (allOf s ahead most).1 ∧ Left s ahead most (pre ++ [⟨i, frm, many, off, len⟩]) nxt (said + many + len) := by
  obtain ⟨h1, h2, h3, f, hf, e⟩ := h
  obtain ⟨k, rfl⟩ : ∃ k, f = k + 1 := ⟨f - 1, by omega⟩
  have e2 : allOf s ahead most = (pre ++ [⟨i, frm, many, off, len⟩] ++ (Lz.walk (Sums.bl s) ahead most k nxt (said + many + len)).1, (Lz.walk (Sums.bl s) ahead most k nxt (said + many + len)).2) := by
    rw [e, Lz.walk, hc]
    simp [Lz.seqOf, show len ≠ 0 by omega]
  refine ⟨?_, hn, hm, hb, k, by omega, e2⟩
  rw [e2]
  exact List.prefix_append _ _
def m0 (s : ByteArray) (a : Act) (w : World) : Nat := 4 * (s.size - (intOf (a.tmps.getD 11 undef)).toNat)
def m1 (s : ByteArray) (a : Act) (w : World) : Nat := 4 * (s.size - (intOf (a.tmps.getD 11 undef)).toNat) + 2
def m2 (s : ByteArray) (a : Act) (w : World) : Nat := 4 * (s.size - (intOf (a.tmps.getD 11 undef)).toNat) + 1
/-- only block B may be another one -/
structure At (B : Nat) (w w' : World) : Prop where
  os : w'.os = w.os
  tape : w'.tape = w.tape
  output : w'.output = w.output
  size : w'.heap.size = w.heap.size
  block : ∀ k, k ≠ B → w'.heap[k]? = w.heap[k]?
theorem At.set {B : Nat} {w : World} (o : Nat) (v : Value) : At B w (w.setCell ⟨B, o, none⟩ v) :=
  ⟨rfl, rfl, rfl, by simp [World.setCell], fun k hk => by simp only [World.setCell, Array.getElem?_modify]; rw [if_neg (by omega)]⟩
theorem At.refl {B : Nat} {w : World} : At B w w := ⟨rfl, rfl, rfl, rfl, fun _ _ => rfl⟩
theorem At.drewN {B : Nat} {w : World} (n : Nat) : At B w (w.drewN n) := ⟨rfl, rfl, rfl, rfl, fun _ _ => rfl⟩
theorem At.trans {B : Nat} {a b c : World} (x : At B a b) (y : At B b c) : At B a c :=
  ⟨y.os.trans x.os, y.tape.trans x.tape, y.output.trans x.output, y.size.trans x.size, fun k hk => (y.block k hk).trans (x.block k hk)⟩
theorem Box.lt {B t o c : Nat} {l : ByteArray} {w : World} (h : Box B t l o c w) : B < w.heap.size := (Array.getElem?_eq_some_iff.1 h).1
theorem Box.drewN {B t o c : Nat} {l : ByteArray} {w : World} (h : Box B t l o c w) (n : Nat) : Box B t l o c (w.drewN n) := h
theorem Box.set3 {B t o c d : Nat} {l : ByteArray} {w : World} (h : Box B t l o c w) : Box B t l o d (w.setCell ⟨B, 3, none⟩ (.int .i64 (d : Int))) := by
  unfold Box at h ⊢
  simp [World.setCell, Array.getElem?_modify, h]
theorem Box.set2 {B t o c d : Nat} {l : ByteArray} {w : World} (h : Box B t l o c w) : Box B t l d c (w.setCell ⟨B, 2, none⟩ (.int .i64 (d : Int))) := by
  unfold Box at h ⊢
  simp [World.setCell, Array.getElem?_modify, h]
theorem Box.set1 {B t o c : Nat} {l l' : ByteArray} {w : World} (h : Box B t l o c w) : Box B t l' o c (w.setCell ⟨B, 1, none⟩ (.string l')) := by
  unfold Box at h ⊢
  simp [World.setCell, Array.getElem?_modify, h]
theorem Box.set0 {B t o c d : Nat} {l : ByteArray} {w : World} (h : Box B t l o c w) : Box B d l o c (w.setCell ⟨B, 0, none⟩ (.int .i64 (d : Int))) := by
  unfold Box at h ⊢
  simp [World.setCell, Array.getElem?_modify, h]
theorem Box.c0 {B t o c : Nat} {l : ByteArray} {w : World} (h : Box B t l o c w) : w.cell? ⟨B, 0, none⟩ = some (.int .i64 (t : Int)) := by unfold Box at h; simp [World.cell?, h]
theorem Box.c1 {B t o c : Nat} {l : ByteArray} {w : World} (h : Box B t l o c w) : w.cell? ⟨B, 1, none⟩ = some (.string l) := by unfold Box at h; simp [World.cell?, h]
theorem Box.c2 {B t o c : Nat} {l : ByteArray} {w : World} (h : Box B t l o c w) : w.cell? ⟨B, 2, none⟩ = some (.int .i64 (o : Int)) := by unfold Box at h; simp [World.cell?, h]
theorem Box.c3 {B t o c : Nat} {l : ByteArray} {w : World} (h : Box B t l o c w) : w.cell? ⟨B, 3, none⟩ = some (.int .i64 (c : Int)) := by unfold Box at h; simp [World.cell?, h]
theorem Box.fz {B t o c k : Nat} {l : ByteArray} {w : World} (h : Box B t l o c w) : w.frozen? ⟨B, k, none⟩ = false := by unfold Box at h; simp [World.frozen?, h]
structure Tk (s : ByteArray) (g : FuncId) (cap : Array Value) (B : Nat) (l : List Lz.Sq) (J Jx : List Lz.Sq → World → Prop) : Prop where
  ent : ∀ args w, (callFunc g args).run Tryz.prog w = .ok (.enter g args) w
  stay : ∀ pre W W', J pre W → At B W W' → J pre W'
  call : ∀ pre x W, J pre W → pre ++ [x] <+: l → (∃ t y o c, Box B t y o c W) → Calls Tryz.prog g (#[sqv s x] ++ cap) W fun e W' => (e = .returned (.bool true) ∧ J (pre ++ [x]) W' ∧ W'.heap[B]? = W.heap[B]?) ∨ (e = .returned (.bool false) ∧ Jx (pre ++ [x]) W')
def WR (s : ByteArray) (ahead most : Nat) (J Jx : List Lz.Sq → World → Prop) (e : Ending) (w' : World) : Prop :=
  (e = .returned (.tuple #[.int .i64 ((allOf s ahead most).2.1 : Int), .int .i64 ((allOf s ahead most).2.2 : Int)]) ∧ J (allOf s ahead most).1 w') ∨ (e = .returned (.tuple #[.int .i64 0, .int .i64 0]) ∧ ∃ pre, pre <+: (allOf s ahead most).1 ∧ Jx pre w')
theorem wr_err {s : ByteArray} {ahead most : Nat} {J Jx : List Lz.Sq → World → Prop} {w' : World} {pre : List Lz.Sq} {e p : Nat} (h : allOf s ahead most = (pre, e, p)) (hJ : J pre w') :
    WR s ahead most J Jx (.returned (.tuple #[.int .i64 (e : Int), .int .i64 (p : Int)])) w' := by
  refine .inl ⟨?_, ?_⟩ <;> rw [h]
  exact hJ
end Go.Proofs.YtlplbnlfajdcbaaGreatDoor

namespace Go.Proofs.YtlplbnlfajdcbaaGreatDoor
open Go.RowKit
set_option linter.unusedVariables false
theorem eqb_lit (c k : Nat) (z : Int) (h : z = (k : Int)) : ((c : Int) == z) = (c == k) := by
  subst h
  rw [Bool.eq_iff_iff]
  simp
  omega
theorem nb_short (bs : List Nat) (token low said ahead most i n : Nat) (h : bs.length < i + n) : Lz.nextB bs token low said ahead most (0, n, i) = ⟨30, bs.length, 0, 0, 0, 0, 0⟩ := by simp [Lz.nextB, h]
theorem nb_last (bs : List Nat) (token low said ahead most i n : Nat) (h : i + n = bs.length) : Lz.nextB bs token low said ahead most (0, n, i) = ⟨0, 0, i, n, 0, 0, i + n⟩ := by simp [Lz.nextB, h]
theorem nb_one (bs : List Nat) (token low said ahead most i n : Nat) (h : i + n + 1 = bs.length) : Lz.nextB bs token low said ahead most (0, n, i) = ⟨30, bs.length, 0, 0, 0, 0, 0⟩ := by simp [Lz.nextB, h, show ¬ bs.length < i + n by omega, show ¬ i + n = bs.length by omega]
theorem nb_off (bs : List Nat) (token low said ahead most i n : Nat) (h : i + n + 1 < bs.length) (ho : Lz.offAt bs (i + n) = 0 ∨ ahead + said + n < Lz.offAt bs (i + n)) : Lz.nextB bs token low said ahead most (0, n, i) = ⟨40, i + n, 0, 0, 0, 0, 0⟩ := by
  simp [Lz.nextB, show ¬ bs.length < i + n by omega, show ¬ i + n = bs.length by omega, show ¬ i + n + 1 = bs.length by omega, ho]
theorem nb_copy (bs : List Nat) (token low said ahead most i n : Nat) (h : i + n + 1 < bs.length) (ho : ¬ (Lz.offAt bs (i + n) = 0 ∨ ahead + said + n < Lz.offAt bs (i + n))) :
    Lz.nextB bs token low said ahead most (0, n, i) = Lz.nextC bs token i n (Lz.offAt bs (i + n)) (Lz.counted bs (i + n + 2) (low + 4) (low == 15) (most - said - n)) := by
  simp only [Lz.nextB, if_neg (show ¬ bs.length < i + n by omega), if_neg (show ¬ i + n = bs.length by omega), if_neg (show ¬ i + n + 1 = bs.length by omega), if_neg ho]
  rfl
set_option maxRecDepth 100000 in
set_option maxHeartbeats 4000000 in
theorem walk_any (s : ByteArray) (ahead most : Nat) (g : FuncId) (cap : Array Value) (J Jx : List Lz.Sq → World → Prop) (w : World) (hs : s.size ≤ 140737488355328) (hm : most ≤ 9223372036854775807) (ha : ahead ≤ 140737492549632)
    (K : Tk s g cap w.heap.size (allOf s ahead most).1 J Jx) (hJ0 : ∀ w', Below w.heap.size w w' → w'.heap.size = w.heap.size + 1 → J [] w') :
    Calls Tryz.prog 145 #[.string s, .int .i64 (ahead : Int), .int .i64 (most : Int), .func (.func g) #[] cap] w (WR s ahead most J Jx) := by
  go_enter Tryz.func145, Tryz.ntmps145
  go_wp2
  refine wp_scope_three (J0 s ahead most g cap w.heap.size J) (fun a w' => JA s ahead most g cap w.heap.size J a w' ∨ JB s ahead most g cap w.heap.size J a w') (J2 s ahead most g cap w.heap.size J) (m0 s) (m1 s) (m2 s) rfl rfl rfl ?_ ?_ ?_ ?_
  · rintro a w1 (⟨pre, at_, said, count, low, fo, token, f, rfl, hbox, hJ, hL, h1, h2, h3, h4, hn⟩ | ⟨pre, at_, said0, many, count, low, fo, token, frm, off, f, rfl, hbox, hJ, hL, h1, h2, h3, h4, h5, h6, hn⟩)
    · obtain ⟨B, hB⟩ : ∃ B, w.heap.size = B := ⟨_, rfl⟩
      rw [hB] at hbox K ⊢
      have c0 := hbox.c0
      have c1 := hbox.c1
      have c2 := hbox.c2
      have c3 := hbox.c3
      have f0 : w1.frozen? ⟨B, 0, none⟩ = false := hbox.fz
      have f1 : w1.frozen? ⟨B, 1, none⟩ = false := hbox.fz
      have f2 : w1.frozen? ⟨B, 2, none⟩ = false := hbox.fz
      have hent := K.ent
      have hsm := hL.2.1
      have HJ := Hid.mk' hJ
      have HB := Hid.mk' hbox
      have HL := Hid.mk' hL
      have HN := Hid.mk' hn
      have HK := Hid.mk' K
      clear hJ hbox hL hn hJ0 K
      by_cases hgt : most < said + count
      · have e1 := left_err s ahead most pre token said HL.out 41 token _ HN.out (by rw [Lz.counted_most _ _ _ _ _ (by omega)]; rfl) (by rw [Lz.counted_most _ _ _ _ _ (by omega)]; rfl) (by omega)
        have E1 := Hid.mk' e1
        clear e1
        have hg1 : (most : Int) - (said : Int) < (count : Int) := by omega
        go_wp2
        go_region
        go_wp2
        simp only [jump3]
        go_ret2
        exact wr_err E1.out (HK.out.stay _ _ _ HJ.out (At.drewN 1))
      · have hg1 : ¬ (most : Int) - (said : Int) < (count : Int) := by omega
        have hr : ¬ most - said < count := by omega
        cases fo with
        | true =>
          by_cases hend : s.size ≤ at_
          · have e1 := left_err s ahead most pre token said HL.out 30 s.size _ HN.out (by rw [Lz.counted_short _ _ _ _ hr (by rw [Sums.bl_length]; exact hend)]; rfl) (by rw [Lz.counted_short _ _ _ _ hr (by rw [Sums.bl_length]; exact hend)]; exact Sums.bl_length s) (by omega)
            have E1 := Hid.mk' e1
            obtain rfl : at_ = s.size := by omega
            clear e1
            go_wp2
            simp only [jump3]
            go_ret2
            exact wr_err E1.out HJ.out
          · have hlt : at_ < s.size := by omega
            obtain ⟨c, hc⟩ : ∃ c, c = (Sums.bl s).getD at_ 0 := ⟨_, rfl⟩
            have hc256 : c < 256 := byte_lt s at_ c hc
            have hidx := idx_any s at_ c hlt hc
            have hn := HN.out
            rw [Lz.counted_step _ _ _ _ hr (by rw [Sums.bl_length]; exact hlt), ← hc] at hn
            have HN2 := Hid.mk' hn
            clear hn hc
            go_wp2
            go_step3
            rw [eqb_lit c 255 (255 : Int) rfl]
            refine ⟨.inl (JA_mk s ahead most g cap B J _ pre (at_ + 1) said (count + c) low (c == 255) token HB.out HJ.out HL.out h1 (by omega) (by omega) (by omega) HN2.out), ?_⟩
            simp [m1, intOf]
            omega
        | false =>
          have hn := HN.out
          rw [Lz.counted_done _ _ _ _ hr] at hn
          obtain ⟨p, hp⟩ : ∃ p, at_ + count = p := ⟨_, rfl⟩
          have hpI : (at_ : Int) + (count : Int) = (p : Int) := by omega
          have hlen := Sums.bl_length s
          by_cases hsh : s.size < p
          · have e1 := left_err s ahead most pre token said HL.out 30 s.size _ hn (by rw [nb_short _ _ _ _ _ _ _ _ (by rw [hlen, hp]; exact hsh)]) (by rw [nb_short _ _ _ _ _ _ _ _ (by rw [hlen, hp]; exact hsh)]; exact hlen) (by omega)
            have E1 := Hid.mk' e1
            clear e1 hn HN hlen
            have hd : (s.size : Int) - (at_ : Int) < (count : Int) := by omega
            go_wp2
            simp only [jump3]
            go_ret2
            exact wr_err E1.out HJ.out
          · have hd : ¬ (s.size : Int) - (at_ : Int) < (count : Int) := by omega
            by_cases hla : p = s.size
            · have e1 := left_last s ahead most pre token said HL.out at_ count p (by rw [hn, nb_last _ _ _ _ _ _ _ _ (by rw [hlen, hp]; exact hla), hp])
              have E1 := Hid.mk' e1
              clear e1 hn HN hlen
              have hx : s.extract at_ s.size = s.extract at_ (at_ + count) := by rw [hp, hla]
              go_wp2
              skip
              refine (HK.out.call pre ⟨token, at_, count, 0, 0⟩ _ (HK.out.stay _ _ _ HJ.out (At.set 1 _)) (by rw [E1.out]; exact List.prefix_refl _) ⟨_, _, _, _, HB.out.set1⟩).mono ?_
              rintro e w2 (⟨rfl, hJ2, hblk⟩ | ⟨rfl, hJ2⟩)
              · go_wp2
                simp only [jump3]
                go_ret2
                exact wr_err E1.out hJ2
              · go_wp2
                simp only [jump3]
                go_ret2
                exact .inr ⟨rfl, _, by rw [E1.out]; exact List.prefix_refl _, hJ2⟩
            · have hap : at_ ≤ p := by omega
              have hps : p ≤ s.size := by omega
              by_cases hone : p + 1 = s.size
              · have e1 := left_err s ahead most pre token said HL.out 30 s.size _ hn (by rw [nb_one _ _ _ _ _ _ _ _ (by rw [hlen, hp]; exact hone)]) (by rw [nb_one _ _ _ _ _ _ _ _ (by rw [hlen, hp]; exact hone)]; exact hlen) (by omega)
                have E1 := Hid.mk' e1
                clear e1 hn HN hlen
                go_wp2
                simp only [jump3]
                go_ret2
                exact wr_err E1.out (HK.out.stay _ _ _ HJ.out (At.set 1 _))
              · obtain ⟨c, hc⟩ : ∃ c, c = (Sums.bl s).getD p 0 := ⟨_, rfl⟩
                obtain ⟨d, hd2⟩ : ∃ d, d = (Sums.bl s).getD (p + 1) 0 := ⟨_, rfl⟩
                have hc256 : c < 256 := byte_lt s p c hc
                have hd256 : d < 256 := byte_lt s (p + 1) d hd2
                have hidx := idx_any s p c (by omega) hc
                have hidy := idx_any s (p + 1) d (by omega) hd2
                obtain ⟨p1, hp1⟩ : ∃ p1, p + 1 = p1 := ⟨_, rfl⟩
                have hp1I : (p : Int) + 1 = (p1 : Int) := by omega
                rw [hp1] at hidy
                have hof : Lz.offAt (Sums.bl s) p = c + 256 * d := by rw [Lz.offAt, ← hc, ← hd2]
                obtain ⟨o, ho⟩ : ∃ o, c + 256 * d = o := ⟨_, rfl⟩
                have hor := or_two c d hc256 hd256
                rw [ho] at hor hof
                have HOF := Hid.mk' hof
                have HO := Hid.mk' ho
                have HN1 := Hid.mk' hn
                have HLN := Hid.mk' hlen
                have hob : o < 65536 := by omega
                obtain ⟨q, hq⟩ : ∃ q, said + count = q := ⟨_, rfl⟩
                have hqI : (said : Int) + (count : Int) = (q : Int) := by omega
                clear hc hd2 hof ho hn HN hlen
                have hbad40 : (o = 0 ∨ ahead + q < o) → Hid (allOf s ahead most = (pre, 40, p)) := fun hbad =>
                  left_err s ahead most pre token said HL.out 40 p _ HN1.out (by rw [nb_off _ _ _ _ _ _ _ _ (by rw [HLN.out, hp]; omega) (by rw [hp, HOF.out]; omega)]) (by rw [nb_off _ _ _ _ _ _ _ _ (by rw [HLN.out, hp]; omega) (by rw [hp, HOF.out]; omega)]; exact hp) (by omega)
                by_cases ho0 : o = 0
                · have E1 := hbad40 (.inl ho0)
                  clear hbad40 HOF HO
                  subst ho0
                  go_wp2
                  go_region
                  go_wp2
                  simp only [jump3]
                  go_ret2
                  exact wr_err E1.out (HK.out.stay _ _ _ HJ.out (((At.set 1 _).trans (At.drewN 1)).trans (At.set 2 _)))
                · by_cases hfar : ahead + q < o
                  · have E1 := hbad40 (.inr hfar)
                    clear hbad40
                    have hne : ((o : Int) == 0) = false := by simp; exact ho0
                    have hfarI : (ahead : Int) + (q : Int) < (o : Int) := by omega
                    go_wp2
                    go_region
                    go_wp2
                    simp only [jump3]
                    go_ret2
                    exact wr_err E1.out (HK.out.stay _ _ _ HJ.out (((At.set 1 _).trans (At.drewN 1)).trans (At.set 2 _)))
                  · clear hbad40
                    have hn := HN1.out
                    rw [nb_copy _ _ _ _ _ _ _ _ (by rw [HLN.out, hp]; omega) (by rw [hp, HOF.out]; omega), hp, HOF.out] at hn
                    have HN2 := Hid.mk' hn
                    clear hn HN1
                    have hne : ((o : Int) == 0) = false := by simp; exact ho0
                    have hfarI : ¬ (ahead : Int) + (q : Int) < (o : Int) := by omega
                    go_wp2
                    go_region
                    go_wp2
                    go_step3
                    rw [show (4 : Int) + (low : Int) = ((low + 4 : Nat) : Int) by omega, show (p : Int) + 2 = ((p + 2 : Nat) : Int) by omega, eqb_lit low 15 (15 : Int) rfl, ← hq]
                    refine ⟨.inr (JB_mk s ahead most g cap B J _ pre (p + 2) said count (low + 4) low (low == 15) token at_ o (by rw [hp]; exact (HB.out.set1.set2).drewN 1) (HK.out.stay _ _ _ HJ.out (((At.set 1 _).trans (At.set 2 _)).trans (At.drewN 1))) HL.out (by omega) (by omega) (by omega) (by omega) (by omega) (by omega) HN2.out), ?_⟩
                    simp [m1, intOf]
                    omega
    · obtain ⟨B, hB⟩ : ∃ B, w.heap.size = B := ⟨_, rfl⟩
      rw [hB] at hbox K ⊢
      have c0 := hbox.c0
      have c2 := hbox.c2
      have f0 : w1.frozen? ⟨B, 0, none⟩ = false := hbox.fz
      have HJ := Hid.mk' hJ
      have HB := Hid.mk' hbox
      have HL := Hid.mk' hL
      have HN := Hid.mk' hn
      have HK := Hid.mk' K
      clear hJ hbox hL hn hJ0 K
      by_cases hgt : most < said0 + many + count
      · have e1 := left_err s ahead most pre token said0 HL.out 41 token _ HN.out (by rw [Lz.counted_most _ _ _ _ _ (by omega)]; rfl) (by rw [Lz.counted_most _ _ _ _ _ (by omega)]; rfl) (by omega)
        have E1 := Hid.mk' e1
        clear e1
        have hg1 : (most : Int) - (((said0 + many : Nat)) : Int) < (count : Int) := by omega
        go_wp2
        go_region
        go_wp2
        simp only [jump3]
        go_ret2
        exact wr_err E1.out (HK.out.stay _ _ _ HJ.out (At.drewN 1))
      · have hg1 : ¬ (most : Int) - (((said0 + many : Nat)) : Int) < (count : Int) := by omega
        have hr : ¬ most - said0 - many < count := by omega
        cases fo with
        | false =>
          have hn := HN.out
          rw [Lz.counted_done _ _ _ _ hr] at hn
          have HN2 := Hid.mk' hn
          clear hn
          go_wp2
          go_step3
          refine ⟨J2_mk s ahead most g cap B J _ pre at_ said0 many count low false token frm off HB.out HJ.out HL.out h2 h3 (by omega) h5 h6 HN2.out, ?_⟩
          simp [m1, m2, intOf]
        | true =>
          by_cases hend : s.size ≤ at_
          · have e1 := left_err s ahead most pre token said0 HL.out 30 s.size _ HN.out (by rw [Lz.counted_short _ _ _ _ hr (by rw [Sums.bl_length]; exact hend)]; rfl) (by rw [Lz.counted_short _ _ _ _ hr (by rw [Sums.bl_length]; exact hend)]; exact Sums.bl_length s) (by omega)
            have E1 := Hid.mk' e1
            obtain rfl : at_ = s.size := by omega
            clear e1
            go_wp2
            simp only [jump3]
            go_ret2
            exact wr_err E1.out HJ.out
          · have hlt : at_ < s.size := by omega
            obtain ⟨c, hc⟩ : ∃ c, c = (Sums.bl s).getD at_ 0 := ⟨_, rfl⟩
            have hc256 : c < 256 := byte_lt s at_ c hc
            have hidx := idx_any s at_ c hlt hc
            have hn := HN.out
            rw [Lz.counted_step _ _ _ _ hr (by rw [Sums.bl_length]; exact hlt), ← hc] at hn
            have HN2 := Hid.mk' hn
            clear hn hc
            go_wp2
            go_step3
            rw [eqb_lit c 255 (255 : Int) rfl]
            refine ⟨.inr (JB_mk s ahead most g cap B J _ pre (at_ + 1) said0 many (count + c) low (c == 255) token frm off HB.out HJ.out HL.out h1 (by omega) (by omega) h4 (by omega) (by omega) HN2.out), ?_⟩
            simp [m1, intOf]
            omega
  · rintro a w1 ⟨pre, at_, said0, many, count, low, fo, token, frm, off, f, rfl, hbox, hJ, hL, h1, h2, h3, h4, h5, hn⟩
    obtain ⟨B, hB⟩ : ∃ B, w.heap.size = B := ⟨_, rfl⟩
    rw [hB] at hbox K ⊢
    have hent := K.ent
    have c0 := hbox.c0
    have c1 := hbox.c1
    have c2 := hbox.c2
    have c3 := hbox.c3
    have f3 : w1.frozen? ⟨B, 3, none⟩ = false := hbox.fz
    obtain ⟨hpre, hL2⟩ := left_next s ahead most pre token said0 hL frm many off count at_ hn h5 h1 h2 h3 h4
    have HH := Hid.mk' (And.intro hpre hL2)
    have HK := Hid.mk' K
    have HJ := Hid.mk' hJ
    have HB := Hid.mk' hbox
    clear hpre hL2 K hJ hbox hL hn hJ0
    go_wp2
    refine (HK.out.call pre ⟨token, frm, many, off, count⟩ _ (HK.out.stay _ _ _ HJ.out (At.set 3 _)) HH.out.1 ⟨_, _, _, _, HB.out.set3⟩).mono ?_
    rintro e w2 (⟨rfl, hJ2, hblk⟩ | ⟨rfl, hJ2⟩)
    · go_wp2
      go_step3
      rw [show ((said0 : Int) + (many : Int) + (count : Int)) = ((said0 + many + count : Nat) : Int) by omega]
      refine ⟨J0_mk s ahead most g cap B J w2 _ at_ _ count low fo token off count (s.extract frm (frm + many)) (hblk.trans HB.out.set3) hJ2 HH.out.2, ?_⟩
      simp [m0, m2, intOf]
    · go_wp2
      simp only [jump3]
      go_ret2
      exact .inr ⟨rfl, _, HH.out.1, hJ2⟩
  · rintro P1 a w1 ⟨pre, at_, said, count, low, fo, t, o, c, l, f, rfl, hbox, hJ, hL⟩
    obtain ⟨B, hB⟩ : ∃ B, w.heap.size = B := ⟨_, rfl⟩
    rw [hB] at hbox K P1 ⊢
    have c0 := hbox.c0
    have c1 := hbox.c1
    have c2 := hbox.c2
    have c3 := hbox.c3
    have f0 : w1.frozen? ⟨B, 0, none⟩ = false := hbox.fz
    have f1 : w1.frozen? ⟨B, 1, none⟩ = false := hbox.fz
    have f2 : w1.frozen? ⟨B, 2, none⟩ = false := hbox.fz
    have f3 : w1.frozen? ⟨B, 3, none⟩ = false := hbox.fz
    have hsm := hL.2.1
    have h3 := hL.1
    have h4 := hL.2.2.1
    have HJ := Hid.mk' hJ
    have HB := Hid.mk' hbox
    have HL := Hid.mk' hL
    have HK := Hid.mk' K
    have HP := Hid.mk' P1
    clear hJ hbox hL hJ0 K P1
    by_cases hend : s.size ≤ at_
    · have e1 := left_err s ahead most pre at_ said HL.out 30 s.size ⟨30, s.size, 0, 0, 0, 0, 0⟩ (by rw [Lz.next, if_pos (by rw [Sums.bl_length]; exact hend), Sums.bl_length]) rfl rfl (by omega)
      have E1 := Hid.mk' e1
      obtain rfl : at_ = s.size := by omega
      clear e1
      go_wp2
      simp only [jump3]
      go_ret2
      exact wr_err E1.out HJ.out
    · have hlt : at_ < s.size := by omega
      obtain ⟨b, hb⟩ : ∃ b, b = (Sums.bl s).getD at_ 0 := ⟨_, rfl⟩
      have hb256 : b < 256 := byte_lt s at_ b hb
      have hidx := idx_any s at_ b hlt hb
      have hn : Lz.next (Sums.bl s) at_ said ahead most = Lz.nextB (Sums.bl s) at_ (b % 16) said ahead most (Lz.counted (Sums.bl s) (at_ + 1) (b / 16) (b / 16 == 15) (most - said)) := by
        rw [Lz.next, if_neg (by rw [Sums.bl_length]; omega), ← hb]
      have HN := Hid.mk' hn
      have hlow := low_half b hb256
      clear hn hb
      go_wp2
      go_region
      go_wp2
      go_step3
      rename_i hK
      refine hK _ _ ?_
      rw [show (at_ : Int) + 1 = ((at_ + 1 : Nat) : Int) by omega, show (b : Int) / 16 = ((b / 16 : Nat) : Int) by omega, show (b : Int) % 16 = ((b % 16 : Nat) : Int) by omega, eqb_lit (b / 16) 15 (15 : Int) rfl]
      have hm : ∀ x y : Nat, x < 4 * (s.size - (at_ + 1)) + 2 → y = 4 * (s.size - at_) → x < y := by intro x y; omega
      refine wp_jump3_mono ?_ ?_ ?_ (HP.out _ _ (.inl (JA_mk s ahead most g cap B J _ pre (at_ + 1) said (b / 16) (b % 16) (b / 16 == 15) at_ (((((HB.out.set0 (d := at_)).set1 (l' := ⟨#[]⟩)).set2 (d := 0)).set3 (d := 0)).drewN 1) (HK.out.stay _ _ _ HJ.out (((((At.set 0 _).trans (At.set 1 _)).trans (At.set 2 _)).trans (At.set 3 _)).trans (At.drewN 1))) HL.out (by omega) (by omega) (by omega) (by omega) HN.out)))
      · exact fun _ _ h => ⟨h.1, hm _ _ h.2 (by simp [m0, intOf])⟩
      · exact fun _ _ h => ⟨h.1, hm _ _ h.2 (by simp [m0, intOf])⟩
      · exact fun _ _ h => ⟨h.1, hm _ _ h.2 (by simp [m0, intOf])⟩
  · intro P0
    have HJ0 := Hid.mk' (hJ0 (w.alloc (.cells #[.int .i64 0, .string ⟨#[]⟩, .int .i64 0, .int .i64 0] 213)) ((Below.refl _ _).alloc (Nat.le_refl _) _) (by simp))
    have HP := Hid.mk' P0
    clear hJ0 P0
    go_wp2
    go_step3
    rename_i hK
    refine hK _ _ ?_
    exact HP.out _ _ (J0_mk s ahead most g cap w.heap.size J _ [] 0 0 0 0 false 0 0 0 ⟨#[]⟩ (by show (w.heap.push _)[w.heap.size]? = _; simp) HJ0.out ⟨Nat.zero_le _, Nat.zero_le _, by omega, s.size + 1, by omega, rfl⟩)
end Go.Proofs.YtlplbnlfajdcbaaGreatDoor

namespace Go.Proofs.YtlplbnlfajdcbaaGreatDoor
open Go.RowKit
set_option linter.unusedVariables false
/-- what is said behind a text so far -/
def sofar (s bef : ByteArray) (pre : List Lz.Sq) : List Nat := (Lz.says (Sums.bl s) (Sums.bl bef) pre).drop bef.size
/-- what holds between two sequences: the row so far, and the two cells that the closure names -/
structure Sf (s bef : ByteArray) (base b1 b2 B : Nat) (w0 : World) (pre : List Lz.Sq) (w : World) : Prop where
  row : ∃ v, w.heap[b1]? = some (.cells #[v] 52 (0, 0)) ∧ w.ownsRow base 5 1 v (sofar s bef pre).length (byv (sofar s bef pre)) ∧ v.ownBlock ≠ some B
  txt : w.heap[b2]? = some (.cells #[.string bef] 9 (0, 0))
  bel : Below base w0 w
  siz : B < w.heap.size
theorem own_keptZ {w w' : World} {base n : Nat} {e : TypeId} {v : Value} {xs : List Value} (h : w.ownsRow base e 1 v n xs) (hb : ∀ k, v.ownBlock = some k → w'.heap[k]? = w.heap[k]?) : w'.ownsRow base e 1 v n xs := by
  refine ⟨h.1, ?_⟩
  rcases h.2 with h0 | ⟨g, cap, cur, rfl, h1, h2, h3⟩
  · exact .inl h0
  · exact .inr ⟨g, cap, cur, rfl, h1, by rw [hb g rfl]; exact h2, h3⟩
theorem Sf.stay {s bef : ByteArray} {base b1 b2 B : Nat} {w0 w w' : World} {pre : List Lz.Sq} (h : Sf s bef base b1 b2 B w0 pre w) (h1 : b1 ≠ B) (h2 : b2 ≠ B) (hB : base ≤ B) (a : At B w w') : Sf s bef base b1 b2 B w0 pre w' := by
  obtain ⟨v, hv, hr, hn⟩ := h.row
  refine ⟨⟨v, by rw [a.block _ h1]; exact hv, own_keptZ hr fun k hk => a.block k (fun e => hn (by rw [hk, e])), hn⟩, by rw [a.block _ h2]; exact h.txt, ?_, by rw [a.size]; exact h.siz⟩
  exact ⟨a.os.trans h.bel.os, a.tape.trans h.bel.tape, a.output.trans h.bel.output, by rw [a.size]; exact h.bel.size, fun k hk => (a.block k (by omega)).trans (h.bel.block k hk)⟩
theorem sofar_step (s bef : ByteArray) (ahead most : Nat) (pre : List Lz.Sq) (x : Lz.Sq) (h : pre ++ [x] <+: (allOf s ahead most).1) :
    Lz.Fine (Sums.bl s) ahead (sofar s bef pre).length most x ∧ Sums.bl bef ++ sofar s bef pre = Lz.says (Sums.bl s) (Sums.bl bef) pre ∧ sofar s bef (pre ++ [x]) = (Lz.grow x.off x.len (Sums.bl bef ++ (sofar s bef pre ++ ((Sums.bl s).drop x.frm).take x.many))).drop bef.size ∧ (sofar s bef (pre ++ [x])).length = (sofar s bef pre).length + x.many + x.len := by
  have hF := Lz.walk_pre (Sums.bl s) (Sums.bl_byt s) ahead most _ pre x h
  obtain ⟨t, h1, h2⟩ := Lz.says_pre (Sums.bl s) (Sums.bl_byt s) ahead most _ (Sums.bl bef) _ pre rfl ((List.prefix_append pre [x]).trans h)
  obtain ⟨t2, h3, h4⟩ := Lz.says_pre (Sums.bl s) (Sums.bl_byt s) ahead most _ (Sums.bl bef) _ _ rfl h
  have hb := Sums.bl_length bef
  have e1 : sofar s bef pre = t := by rw [sofar, h1, ← hb, drop_bef]
  have e2 : sofar s bef (pre ++ [x]) = t2 := by rw [sofar, h3, ← hb, drop_bef]
  refine ⟨by rw [e1, h2]; exact hF, by rw [e1, h1], ?_, ?_⟩
  · rw [sofar, Lz.says_snoc, Lz.say, ← List.append_assoc, e1, h1]
  · rw [e1, e2, h2, h4, Lz.total_append]
    simp [Lz.total]
    omega
theorem nb_cell {w : World} {b : Nat} {v : Value} {t : TypeId} (h : w.heap[b]? = some (.cells #[v] t (0, 0))) : w.cell? ⟨b, 0, none⟩ = some v := by simp [World.cell?, h]
theorem nb_bare {w : World} {b : Nat} {v : Value} {t : TypeId} (h : w.heap[b]? = some (.cells #[v] t (0, 0))) : w.frozen? ⟨b, 0, none⟩ = false := by simp [World.frozen?, h]
theorem ext_size (s : ByteArray) (i j : Nat) (h : i ≤ j) (hj : j ≤ s.size) : (s.extract i j).size = j - i := by
  rw [ByteArray.size_extract]
  omega
theorem bl_part (s : ByteArray) (i k : Nat) : Sums.bl (s.extract i (i + k)) = ((Sums.bl s).drop i).take k := by
  rw [Sums.bl_extract, List.drop_take]
  congr 1
  omega
/-- the row is in no block of another kind -/
theorem own_other {w : World} {base n : Nat} {v : Value} {xs : List Value} (h : w.ownsRow base 5 1 v n xs) {B : Nat} {cs : Array Value} {t : TypeId} {fz : Nat × Nat} (hB : w.heap[B]? = some (.cells cs t fz)) (ht : t ≠ 5) : v.ownBlock ≠ some B := by
  rcases h.2 with ⟨rfl, _⟩ | ⟨g, cap, cur, rfl, _, h2, _⟩
  · simp [Value.ownBlock]
  · intro e
    simp only [Value.ownBlock, Option.some.injEq] at e
    subst e
    rw [h2] at hB
    simp only [Option.some.injEq, Obj.cells.injEq] at hB
    exact ht hB.2.1.symm
theorem blk_setCell {w : World} {b k : Nat} (u : Value) (h : k ≠ b) : (w.setCell ⟨b, 0, none⟩ u).heap[k]? = w.heap[k]? := by
  simp only [World.setCell, Array.getElem?_modify]
  rw [if_neg (by omega)]
theorem blk_same {w : World} {b : Nat} {v u : Value} {t : TypeId} {fz : Nat × Nat} (h : w.heap[b]? = some (.cells #[v] t fz)) : (w.setCell ⟨b, 0, none⟩ u).heap[b]? = some (.cells #[u] t fz) := by
  simp [World.setCell, Array.getElem?_modify, h]
theorem below_set {base b : Nat} {w0 w : World} (h : Below base w0 w) (hb : base ≤ b) (u : Value) : Below base w0 (w.setCell ⟨b, 0, none⟩ u) :=
  ⟨h.os, h.tape, h.output, by simpa [World.setCell] using h.size, fun k hk => (blk_setCell u (by omega)).trans (h.block k hk)⟩
set_option maxRecDepth 100000 in
set_option maxHeartbeats 1000000 in
theorem take_any (s bef : ByteArray) (ahead most base b1 b2 B : Nat) (w0 : World) (pre : List Lz.Sq) (x : Lz.Sq) (w : World) (hF : Sf s bef base b1 b2 B w0 pre w) (hx : pre ++ [x] <+: (allOf s ahead most).1) (hbox : ∃ t y o c, Box B t y o c w)
    (ha : ahead = bef.size) (h1 : base ≤ b1) (h2 : base ≤ b2) (h12 : b1 ≠ b2) (h1B : b1 ≠ B) (h2B : b2 ≠ B) (hB : base ≤ B) (hbef : bef.size ≤ 140737492549632) (hsz : most ≤ 35184372088832 ∨ s.size ≤ 137438953472) :
    Calls Tryz.prog 146 #[sqv s x, .pointer (some ⟨b1, 0, none⟩), .pointer (some ⟨b2, 0, none⟩)] w fun e w' => (e = .returned (.bool true) ∧ Sf s bef base b1 b2 B w0 (pre ++ [x]) w') ∧ w'.heap[B]? = w.heap[B]? := by
  obtain ⟨i0, hi, hz0, hz1, hz2⟩ := info_parts infoB
  obtain ⟨hfine, hsay, hnext, hlen⟩ := sofar_step s bef ahead most pre x hx
  obtain ⟨v, hv, hown, hnB⟩ := hF.row
  obtain ⟨t0, y0, o0, k0, hbx⟩ := hbox
  have hbw : base ≤ w.heap.size := by have := hF.siz; omega
  have hlt1 : b1 < w.heap.size := (Array.getElem?_eq_some_iff.1 hv).1
  have hlt2 : b2 < w.heap.size := (Array.getElem?_eq_some_iff.1 hF.txt).1
  obtain ⟨bb, cc, rfl⟩ := own_shape hown
  generalize hL : sofar s bef pre = L at *
  have hal : ∀ o k, k < w.heap.size → (w.alloc o).heap[k]? = w.heap[k]? := fun o k hk => Below.heap_alloc w o k hk
  have c1 : ∀ o, (w.alloc o).cell? ⟨b1, 0, none⟩ = some (.slice bb L.length cc) := fun o => nb_cell ((hal o _ hlt1).trans hv)
  obtain ⟨xt, xf, xm, xo, xl⟩ := x
  simp only [Lz.Fine] at hfine hnext hlen
  have hex : (s.extract xf (xf + xm)).size = xm := by
    have := Sums.bl_length s
    rw [ext_size s _ _ (by omega) (by omega)]
    omega
  have hblp := bl_part s xf xm
  have hsl := Sums.bl_length s
  rw [hsl] at hfine
  obtain ⟨T, hT⟩ : ∃ T, s.extract xf (xf + xm) = T := ⟨_, rfl⟩
  rw [hT] at hex hblp
  obtain ⟨L1, hL1⟩ : ∃ L1, L1 = L ++ Sums.bl T := ⟨_, rfl⟩
  have hL1l : L1.length = L.length + xm := by rw [hL1, List.length_append, Sums.bl_length, hex]
  have HX : ∀ cs : Array Value, Hid (∀ (v1 : Value) (w1 : World), w1.ownsRow base 5 1 v1 (L.length + T.size) (byv L ++ Go.Lib.strCells T) → (w.alloc (.cells cs 213)).grownBy w1 (Value.slice bb L.length cc).ownBlock →
      w1.ownsRow base 5 1 v1 L1.length (byv L1) ∧ w1.heap[b1]? = some (.cells #[.slice bb L.length cc] 52 (0, 0)) ∧ w1.heap[b2]? = some (.cells #[.string bef] 9 (0, 0)) ∧ w1.heap[B]? = w.heap[B]? ∧ Below base w0 w1 ∧ w1.heap[w.heap.size]? = some (.cells cs 213 (0, 0)) ∧ w.heap.size < w1.heap.size) := by
    intro cs v1 w1 ho hg
    have hw : (w.alloc (.cells cs 213)).heap.size = w.heap.size + 1 := by simp
    have hoth : ∀ (k : Nat) (ds : Array Value) (t : TypeId) (fz : Nat × Nat), k < w.heap.size → w.heap[k]? = some (.cells ds t fz) → t ≠ 5 → w1.heap[k]? = some (.cells ds t fz) := by
      intro k ds t fz hk hh ht
      rw [hg.block k (by omega) (fun e => own_other hown hh ht e.symm), hal _ _ hk]
      exact hh
    have hnew : (w.alloc (.cells cs 213)).heap[w.heap.size]? = some (.cells cs 213 (0, 0)) := heap_alloc_new w _
    refine ⟨?_, hoth _ _ _ _ hlt1 hv (by decide), hoth _ _ _ _ hlt2 hF.txt (by decide), ?_, ?_, ?_, by have := hg.size; omega⟩
    · rw [hex, strc_byv, ← byv_append, ← hL1, ← hL1l] at ho
      exact ho
    · rw [hoth _ _ _ _ hF.siz hbx (by decide)]
      exact hbx.symm
    · exact (hF.bel.alloc hbw _).grown hg (by omega) (fun k hk => (hown.lt k hk).1)
    · rw [hg.block _ (by omega) ?_, hnew]
      intro e
      have := (hown.lt _ e.symm).2
      omega
  have HF := Hid.mk' hF
  have HOWN := Hid.mk' hown
  have hsm : L1.length + xl ≤ 70368744177664 := by omega
  have hlay : xl = 0 ∧ xo = 0 ∨ (0 < xl ∧ 0 < xo ∧ xo ≤ bef.size + L1.length) := by omega
  have hLm : L.length + T.size ≤ 140737488355328 := by omega
  have HLN := Hid.mk' hlen
  have HNX := Hid.mk' hnext
  have HSM := Hid.mk' hsm
  have HLA := Hid.mk' hlay
  have hoff : xo ≤ 65535 := by omega
  have HLL := Hid.mk' (And.intro hL1 hL1l)
  have HBP := Hid.mk' hblp
  clear hF hown hlen hnext hfine hsay hsz hsm hlay hal hblp hL1 hL1l
  go_enter Tryz.func146, Tryz.ntmps146
  unfold sqv
  simp only [hT]
  go_wp2_with (first | (at_builtin; refine Go.Lib.wpList_append_own_string _ rfl _ _ 52 9 rfl base 5 i0 Tryz.underlying52 Tryz.underlying9 hi hz0 hz1 hz2 _ _ _ rfl (by exact (own_keptZ HOWN.out fun k hk => Below.heap_alloc w _ k (HOWN.out.lt k hk).2)) _ rfl (by unfold maxLen; omega) hLm (by simp; omega) ?_; intro v1 w1 hown1 hgrow1 _; obtain ⟨q1, q2, q3, q4, q5, q6, q7⟩ := (HX _).out v1 w1 hown1 hgrow1; obtain ⟨bb1, cc1, rfl⟩ := own_shape q1; have d1 := nb_cell q2; have f1 := nb_bare q2; have e1 : ∀ u, (w1.setCell ⟨b1, 0, none⟩ u).cell? ⟨b2, 0, none⟩ = some (.string bef) := fun u => nb_cell ((blk_setCell u (Ne.symm h12)).trans q3); have e2 : ∀ u, (w1.setCell ⟨b1, 0, none⟩ u).cell? ⟨w.heap.size, 2, none⟩ = some (.int .i64 (xo : Int)) := fun u => (by simp only [World.cell?]; rw [blk_setCell u (by omega), q6]; rfl); have e3 : ∀ u, (w1.setCell ⟨b1, 0, none⟩ u).cell? ⟨w.heap.size, 3, none⟩ = some (.int .i64 (xl : Int)) := fun u => (by simp only [World.cell?]; rw [blk_setCell u (by omega), q6]; rfl); have e4 : ∀ u, (w1.setCell ⟨b1, 0, none⟩ u).cell? ⟨b1, 0, none⟩ = some u := fun u => nb_cell (blk_same q2); have HQ := Hid.mk' (And.intro q1 (And.intro q2 (And.intro q3 (And.intro q4 (And.intro q5 q7))))); clear hown1 hgrow1 q1 q2 q3 q4 q5 q6 q7) | (go_at_call 147; refine (lay_any base bef (.slice bb1 L1.length cc1) L1 xo xl _ (by exact (own_keptZ HQ.out.1 fun k hk => blk_setCell _ (fun e => own_other HQ.out.1 HQ.out.2.1 (by decide) (by rw [hk, e])))) (by simp only [World.setCell, Array.size_modify]; have := HQ.out.2.2.2.2.2; omega) HLA.out hoff hbef HSM.out).mono ?_; rintro e w3 ⟨v3, rfl, hown3, hap3⟩; obtain ⟨bb3, cc3, rfl⟩ := own_shape hown3; have q2 := hap3.keep b1 _ (blk_same HQ.out.2.1) (by intro _ _ h; simp at h); have d3 := nb_cell q2; have f3 := nb_bare q2; have HQ3 := Hid.mk' (And.intro hown3 (And.intro hap3 q2)); clear hown3 hap3 q2) | fail)
  go_ret
  have hM : sofar s bef (pre ++ [⟨xt, xf, xm, xo, xl⟩]) = (Lz.grow xo xl (Sums.bl bef ++ L1)).drop bef.size := by
    rw [HNX.out, HLL.out.1, HBP.out]
  have hMl : (sofar s bef (pre ++ [⟨xt, xf, xm, xo, xl⟩])).length = L1.length + xl := by rw [HLN.out, HLL.out.2]
  have hB3 : w3.heap[B]? = w.heap[B]? := by
    rw [HQ3.out.2.1.keep B _ ((blk_setCell _ (Ne.symm h1B)).trans (HQ.out.2.2.2.1.trans hbx)) (by intro _ _ h; simp at h)]
    exact hbx.symm
  have ht3 : w3.heap[b2]? = some (.cells #[.string bef] 9 (0, 0)) := HQ3.out.2.1.keep b2 _ ((blk_setCell _ (Ne.symm h12)).trans HQ.out.2.2.1) (by intro _ _ h; simp at h)
  refine ⟨⟨rfl, ⟨⟨_, blk_same HQ3.out.2.2, ?_, ?_⟩, (blk_setCell _ (Ne.symm h12)).trans ht3, ?_, ?_⟩⟩, (blk_setCell _ (Ne.symm h1B)).trans hB3⟩
  · rw [hMl, hM]
    exact own_keptZ HQ3.out.1 fun k hk => blk_setCell _ (fun e => own_other HQ3.out.1 HQ3.out.2.2 (by decide) (by rw [hk, e]))
  · exact own_other HQ3.out.1 (hB3.trans hbx) (by decide)
  · refine below_set ?_ h1 _
    exact (below_set HQ.out.2.2.2.2.1 h1 _).trans HQ3.out.2.1.below
  · have e1 := HQ3.out.2.1.below.size
    have e2 := HQ.out.2.2.2.2.2
    have e3 := HF.out.siz
    simp only [World.setCell, Array.size_modify] at e1 ⊢
    omega
theorem call_in {P : Program} {f : FuncId} {fn : Func} {c : Code} (hf : P.funcs[f]? = some fn) (hname : (fn.name == "runtime.NumGoroutine") = false) (hb : fn.body = some c) (args : Array Value) (w : World) : (callFunc f args).run P w = .ok (.enter f args) w := by
  have h1 : fn.name ≠ "runtime.NumGoroutine" := by simpa using hname
  simp [callFunc, hf, h1, hb]
theorem ent_take (args : Array Value) (w : World) : (callFunc 146 args).run Tryz.prog w = .ok (.enter 146 args) w :=
  call_in Tryz.func146 (by kernel_rfl) rfl args w
theorem says_nil (s bef : ByteArray) : sofar s bef [] = [] := by
  show (Sums.bl bef).drop bef.size = []
  rw [← Sums.bl_length, List.drop_length]
/-- the walk from a world in which the two cells were just laid -/
theorem walk_on (bef s : ByteArray) (most : Nat) (w : World) (hs : s.size ≤ 140737488355328) (hbef : bef.size ≤ 140737492549632) (hm : most ≤ 9223372036854775807) (hsz : most ≤ 35184372088832 ∨ s.size ≤ 137438953472) :
    Calls Tryz.prog 145 #[.string s, .int .i64 (bef.size : Int), .int .i64 (most : Int), .func (.func 146) #[] #[.pointer (some ⟨w.heap.size + 1, 0, none⟩), .pointer (some ⟨w.heap.size, 0, none⟩)]] ((w.alloc (.cells #[.string bef] 9)).alloc (.cells #[.slice none 0 0] 52)) fun e w' =>
      e = .returned (.tuple #[.int .i64 ((allOf s bef.size most).2.1 : Int), .int .i64 ((allOf s bef.size most).2.2 : Int)]) ∧ Sf s bef w.heap.size (w.heap.size + 1) w.heap.size (w.heap.size + 2) w (allOf s bef.size most).1 w' := by
  obtain ⟨W, hW⟩ : ∃ W, W = (w.alloc (.cells #[.string bef] 9)).alloc (.cells #[.slice none 0 0] 52) := ⟨_, rfl⟩
  rw [← hW]
  have hWs : W.heap.size = w.heap.size + 2 := by rw [hW]; simp
  have hb2 : W.heap[w.heap.size]? = some (.cells #[.string bef] 9 (0, 0)) := by
    rw [hW, Below.heap_alloc _ _ _ (by simp)]
    exact heap_alloc_new w _
  have hb1 : W.heap[w.heap.size + 1]? = some (.cells #[.slice none 0 0] 52 (0, 0)) := by
    have := heap_alloc_new (w.alloc (.cells #[.string bef] 9)) (.cells #[.slice none 0 0] 52)
    rw [hW]
    simpa using this
  have hbel : Below w.heap.size w W := by
    rw [hW]
    exact ((Below.refl _ _).alloc (Nat.le_refl _) _).alloc (by simp) _
  refine (walk_any s bef.size most 146 #[.pointer (some ⟨w.heap.size + 1, 0, none⟩), .pointer (some ⟨w.heap.size, 0, none⟩)] (Sf s bef w.heap.size (w.heap.size + 1) w.heap.size (w.heap.size + 2) w) (fun _ _ => False) W hs hm hbef ?_ ?_).mono ?_
  · rw [hWs]
    refine ⟨?_, ?_, ?_⟩
    · intro args w'
      exact ent_take args w'
    · intro pre W1 W2 h ha
      exact h.stay (by omega) (by omega) (by omega) ha
    · intro pre x W1 h hx hbox
      refine (take_any s bef bef.size most w.heap.size (w.heap.size + 1) w.heap.size (w.heap.size + 2) w pre x W1 h hx hbox rfl (by omega) (by omega) (by omega) (by omega) (by omega) (by omega) hbef hsz).mono ?_
      rintro e w' ⟨h1, h2⟩
      exact .inl ⟨h1.1, h1.2, h2⟩
  · intro w' hb hsz'
    refine ⟨⟨.slice none 0 0, ?_, ?_, by simp [Value.ownBlock]⟩, ?_, ?_, by omega⟩
    · rw [hb.block _ (by omega)]
      exact hb1
    · rw [says_nil]
      exact World.ownsRow_nil _ _ _ _
    · rw [hb.block _ (by omega)]
      exact hb2
    · exact hbel.trans ⟨hb.os, hb.tape, hb.output, hb.size, fun k hk => hb.block k (by omega)⟩
  · rintro e w' (⟨rfl, h⟩ | ⟨_, _, _, h⟩)
    · exact ⟨rfl, h⟩
    · exact h.elim
set_option maxRecDepth 100000 in
set_option maxHeartbeats 1000000 in
theorem expandOn_any (bef s : ByteArray) (most : Nat) (w : World) (hs : s.size ≤ 140737488355328) (hbef : bef.size ≤ 140737492549632) (hm : most ≤ 9223372036854775807) (hsz : most ≤ 35184372088832 ∨ s.size ≤ 137438953472) :
    Calls Tryz.prog 129 #[.string bef, .string s, .int .i64 (most : Int)] w fun e w' => e = .returned (.tuple #[.string (if (allOf s bef.size most).2.1 = 0 then nums (sofar s bef (allOf s bef.size most).1) else ⟨#[]⟩), .int .i64 ((allOf s bef.size most).2.1 : Int), .int .i64 (if (allOf s bef.size most).2.1 = 0 then 0 else ((allOf s bef.size most).2.2 : Int))]) ∧ Below w.heap.size w w' := by
  have HW := Hid.mk' (walk_on bef s most w hs hbef hm hsz)
  generalize hres : allOf s bef.size most = R at HW ⊢
  obtain ⟨l, code, place⟩ := R
  simp only at HW ⊢
  clear hres
  have h0 : ¬ (most : Int) < 0 := by omega
  by_cases hc : code = 0
  · subst hc
    go_enter Tryz.func129, Tryz.ntmps129
    go_wp2_with (first | (go_at_call 145; refine HW.out.mono ?_; rintro e w' ⟨rfl, hSf⟩; obtain ⟨v, hv, hown, _⟩ := hSf.row; obtain ⟨bb, cc, rfl⟩ := own_shape hown; have c1 := nb_cell hv; have hcv := conv_own w.heap.size _ _ w' _ rfl hown; have HB := Hid.mk' hSf.bel; clear hSf hown) | fail)
    go_ret3
    exact ⟨rfl, HB.out⟩
  · have hcI : ((code : Int) == 0) = false := by simp; exact hc
    simp only [if_neg hc]
    go_enter Tryz.func129, Tryz.ntmps129
    go_wp2_with (first | (go_at_call 145; refine HW.out.mono ?_; rintro e w' ⟨rfl, hSf⟩; have HB := Hid.mk' hSf.bel; clear hSf) | fail)
    go_ret3
    exact ⟨rfl, HB.out⟩
theorem expandOn_neg (bef s : ByteArray) (most : Int) (w : World) (hm : most < 0) :
    Calls Tryz.prog 129 #[.string bef, .string s, .int .i64 most] w fun e w' => e = .returned (.tuple #[.string ⟨#[]⟩, .int .i64 1, .int .i64 0]) ∧ Below w.heap.size w w' := by
  go_enter Tryz.func129, Tryz.ntmps129
  go_wp2
  go_ret3
  exact ⟨rfl, (Below.refl _ _).alloc (Nat.le_refl _) _⟩
/-- what ExpandOn answers -/
def expR (bef s : ByteArray) (most : Int) : Value :=
  if most < 0 then .tuple #[.string ⟨#[]⟩, .int .i64 1, .int .i64 0] else
  .tuple #[.string (if (allOf s bef.size most.toNat).2.1 = 0 then nums (sofar s bef (allOf s bef.size most.toNat).1) else ⟨#[]⟩), .int .i64 ((allOf s bef.size most.toNat).2.1 : Int), .int .i64 (if (allOf s bef.size most.toNat).2.1 = 0 then 0 else ((allOf s bef.size most.toNat).2.2 : Int))]
theorem expandOn_all (bef s : ByteArray) (most : Int) (w : World) (hs : s.size ≤ 140737488355328) (hbef : bef.size ≤ 140737492549632) (hm : most ≤ 9223372036854775807) (hsz : most ≤ 35184372088832 ∨ s.size ≤ 137438953472) :
    Calls Tryz.prog 129 #[.string bef, .string s, .int .i64 most] w fun e w' => e = .returned (expR bef s most) ∧ Below w.heap.size w w' := by
  by_cases h : most < 0
  · unfold expR
    rw [if_pos h]
    exact expandOn_neg bef s most w h
  · obtain ⟨m, rfl⟩ : ∃ m : Nat, most = (m : Int) := ⟨most.toNat, by omega⟩
    unfold expR
    rw [if_neg h, Int.toNat_natCast]
    exact expandOn_any bef s m w hs hbef (by omega) (by omega)
theorem expR_shape (bef s : ByteArray) (most : Int) : ∃ t e p, expR bef s most = .tuple #[.string t, .int .i64 e, .int .i64 p] := by
  unfold expR
  split
  · exact ⟨_, _, _, rfl⟩
  · exact ⟨_, _, _, rfl⟩
theorem expand_all (s : ByteArray) (most : Int) (w : World) (hs : s.size ≤ 140737488355328) (hm : most ≤ 9223372036854775807) (hsz : most ≤ 35184372088832 ∨ s.size ≤ 137438953472) :
    Calls Tryz.prog 103 #[.string s, .int .i64 most] w fun e w' => e = .returned (expR ⟨#[]⟩ s most) ∧ Below w.heap.size w w' := by
  obtain ⟨t, c, p, hR⟩ := expR_shape ⟨#[]⟩ s most
  have HC := Hid.mk' (expandOn_all ⟨#[]⟩ s most w hs (by decide) hm hsz)
  rw [hR] at HC ⊢
  go_enter Tryz.func103, Tryz.ntmps103
  go_wp2_with (first | (go_at_call 129; refine HC.out.mono ?_; rintro e w' ⟨rfl, hb⟩; have HB := Hid.mk' hb; clear hb) | fail)
  go_ret3
  exact ⟨rfl, HB.out⟩
end Go.Proofs.YtlplbnlfajdcbaaGreatDoor
