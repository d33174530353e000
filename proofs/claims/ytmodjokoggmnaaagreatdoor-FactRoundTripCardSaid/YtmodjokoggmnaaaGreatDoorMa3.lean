/-
  Contracts of Go's library, as the kit's shelf has them, laid at this program: each is the library's own theorem at this program's numbers.
  Conditions: as each says.
  The contract of hwlex.number: the numeral's value, or the error that the chapter names.
  Conditions: the text is not empty and has at most 65536 bytes; the variable strconv.ErrRange lies as the program's start lays it.
  The contract of hwlex.number: the numeral's value, or the error that the chapter names.
  Conditions: the text is not empty and has at most 65536 bytes; the variable strconv.ErrRange lies as the program's start lays it.
-/
import Derived.Shelf.Strings.Builder1
import Derived.Shelf.Small.Bits
import Derived.Shelf.Small.Strs
import Derived.Shelf.Small.Wraps
import Derived.Shelf.Strconv.Itoa0
import Derived.Shelf.Strconv.Itoa1
import Derived.Shelf.LaysM
import Derived.Shelf.Strconv.Itoa2
import Derived.Shelf.Strconv.Itoa3
import Derived.Shelf.Strconv.Itoa4
import Derived.Shelf.Strconv.Clone
import Derived.Shelf.Strconv.Lower
import Derived.Shelf.Strconv.RangeError
import Derived.Shelf.LaysC
import Derived.Shelf.Strconv.ToErrorRange
import Derived.Shelf.Strconv.ParseUint10b64
import Derived.Ground.MpProg
import Derived.Shelf.Pu.ParseUintPublic10
import Derived.Shelf.Pu.ErrVarParseUint
import Derived.Shelf.Strings.Search1
import Derived.Shelf.Strings.Search2
import Derived.Shelf.Strings.Search3
import Derived.Shelf.Strings.Count
import Derived.Shelf.Strings.Shaped
import Derived.Shelf.Strings.LastIndex
import Derived.Shelf.Strings.Prefix
import Derived.Test.YtmodjokoggmnaaaGreatDoorProg
import Derived.Test.YtmodjokoggmnaaaGreatDoorMa2
namespace Go.Proofs
open Go.Shelf
def Tryz.lays169_ren : Go.Shelf.Ren := ⟨fun | 169 => 37 | n => n, fun | 70 => 66 | 9 => 9 | 0 => 0 | 72 => 69 | 37 => 67 | 127 => 104 | 3 => 3 | 5 => 5 | n => n, fun | n => n⟩
theorem Tryz.lays169 : Go.Proofs.Lays.n169 Tryz.prog Tryz.lays169_ren := {
  mixed := by kernel_rfl
  f169 := Tryz.func37.trans (congrArg some (by kernel_rfl))
  t0 := Tryz.underlying0
  a0 := Tryz.isAgg0
  z0 := Tryz.sizeOf0
  v0 := Tryz.zeroValue0
  t3 := Tryz.underlying3
  a3 := Tryz.isAgg3
  z3 := Tryz.sizeOf3
  v3 := Tryz.zeroValue3
  t9 := Tryz.underlying9
  a9 := Tryz.isAgg9
  z9 := Tryz.sizeOf9
  v9 := Tryz.zeroValue9
  t37 := Tryz.underlying67
  a37 := Tryz.isAgg67
  z37 := Tryz.sizeOf67
  v37 := Tryz.zeroValue67
  t70 := Tryz.underlying66
  a70 := Tryz.isAgg66
  z70 := Tryz.sizeOf66
  v70 := Tryz.zeroValue66
  t72 := Tryz.underlying69
  a72 := Tryz.isAgg69
  z72 := Tryz.sizeOf69
  v72 := Tryz.zeroValue69
  t127 := Tryz.underlying104
  a127 := Tryz.isAgg104
  z127 := Tryz.sizeOf104
  v127 := Tryz.zeroValue104 }
theorem Tryz.Builder_Extra_169 : Builder.Extra Tryz.prog Tryz.lays169_ren := {
  sizeBuilder := by kernel_rfl
  liesBuilder := by kernel_rfl
  t5 := Tryz.underlying5
  a5 := Tryz.isAgg5
  z5 := Tryz.sizeOf5
  v5 := Tryz.zeroValue5
  infoByte := by kernel_rfl
  cellsByte := by kernel_rfl
  sizeByte := by kernel_rfl
  neB5 := by decide }
open Go.RowKit in
theorem Tryz.Builder_String_any (B b : Nat) (l : List UInt8) (w : World) (h : Lib.IsBuilder 69 5 B b (Lib.byteCells l) w) (hBw : B ≤ w.heap.size) :
    Calls Tryz.prog 37 #[.pointer (some ⟨b, 0, none⟩)] w fun e w' => e = .returned (.string ⟨l.toArray⟩) ∧ Below B w w' := Any.Builder_String_any Tryz.lays169 Tryz.Builder_Extra_169 B b l w h hBw
def Tryz.lays283_ren : Go.Shelf.Ren := ⟨fun | 283 => 127 | n => n, fun | 3 => 3 | 9 => 9 | 4 => 4 | n => n, fun | n => n⟩
theorem Tryz.lays283 : Go.Proofs.Lays.n283 Tryz.prog Tryz.lays283_ren := {
  mixed := by kernel_rfl
  f283 := Tryz.func127.trans (congrArg some (by kernel_rfl))
  t3 := Tryz.underlying3
  a3 := Tryz.isAgg3
  z3 := Tryz.sizeOf3
  v3 := Tryz.zeroValue3
  t4 := Tryz.underlying4
  a4 := Tryz.isAgg4
  z4 := Tryz.sizeOf4
  v4 := Tryz.zeroValue4
  t9 := Tryz.underlying9
  a9 := Tryz.isAgg9
  z9 := Tryz.sizeOf9
  v9 := Tryz.zeroValue9 }
open Go.Lib in
theorem Tryz.internal_strconv_small (i : Nat) (h : i < 100) (w : World) :
    Calls Tryz.prog 127 #[.int .i64 i] w fun e w' => e = .returned (.string ⟨(Lib.decDigits i).toArray⟩) ∧ w' = w := Any.internal_strconv_small Tryz.lays283 i h w
def Tryz.laysM284_ren : Go.Shelf.Ren := ⟨fun | 284 => 128 | 129 => 114 | 317 => 145 | 318 => 146 | n => n, fun | 53 => 50 | 3 => 3 | 212 => 155 | 0 => 0 | 4 => 4 | 46 => 140 | 5 => 5 | 9 => 9 | n => n, fun | 17 => 1 | n => n⟩
theorem Tryz.laysM284 : Go.Proofs.LaysM.n284 Tryz.prog Tryz.laysM284_ren := {
  mixed := by kernel_rfl
  f129 := Tryz.func114.trans (congrArg some (by kernel_rfl))
  f284 := Tryz.func128.trans (congrArg some (by kernel_rfl))
  f317 := Tryz.func145.trans (congrArg some (by kernel_rfl))
  f318 := Tryz.func146.trans (congrArg some (by kernel_rfl))
  t0 := Tryz.underlying0
  a0 := Tryz.isAgg0
  z0 := Tryz.sizeOf0
  v0 := Tryz.zeroValue0
  t3 := Tryz.underlying3
  a3 := Tryz.isAgg3
  z3 := Tryz.sizeOf3
  v3 := Tryz.zeroValue3
  t4 := Tryz.underlying4
  a4 := Tryz.isAgg4
  z4 := Tryz.sizeOf4
  v4 := Tryz.zeroValue4
  t5 := Tryz.underlying5
  a5 := Tryz.isAgg5
  z5 := Tryz.sizeOf5
  v5 := Tryz.zeroValue5
  t9 := Tryz.underlying9
  a9 := Tryz.isAgg9
  z9 := Tryz.sizeOf9
  v9 := Tryz.zeroValue9
  t46 := Tryz.underlying140
  a46 := Tryz.isAgg140
  z46 := Tryz.sizeOf140
  v46 := Tryz.zeroValue140
  t53 := Tryz.underlying50
  a53 := Tryz.isAgg50
  z53 := Tryz.sizeOf50
  v53 := Tryz.zeroValue50
  t212 := Tryz.underlying155
  a212 := Tryz.isAgg155
  z212 := Tryz.sizeOf155
  v212 := Tryz.zeroValue155
  g17 := by kernel_rfl
  i0 := by kernel_rfl
  i3 := by kernel_rfl
  i4 := by kernel_rfl
  i5 := by kernel_rfl
  i9 := by kernel_rfl
  i46 := by kernel_rfl
  i53 := by kernel_rfl
  i212 := by kernel_rfl
  m17 := by kernel_rfl }
open Go.Lib in
theorem Tryz.internal_strconv_numDigits (u : Nat) (h1 : 1 ≤ u) (h2 : u < 18446744073709551616) (w : World) (htab : Lib.TabIs Tryz.prog w "internal/strconv.uint64pow10" .u64 Lib.pow10Tab) :
    Calls Tryz.prog 128 #[.int .u64 u] w fun e w' => e = .returned (.int .i64 (Lib.nDigits u)) ∧ w' = w := Any.internal_strconv_numDigits Tryz.laysM284 u h1 h2 w htab
def Tryz.lays285_ren : Go.Shelf.Ren := ⟨fun | 285 => 129 | n => n, fun | 37 => 67 | 53 => 50 | 3 => 3 | 4 => 4 | 51 => 156 | 9 => 9 | 5 => 5 | 0 => 0 | n => n, fun | n => n⟩
theorem Tryz.lays285 : Go.Proofs.Lays.n285 Tryz.prog Tryz.lays285_ren := {
  mixed := by kernel_rfl
  f285 := Tryz.func129.trans (congrArg some (by kernel_rfl))
  t0 := Tryz.underlying0
  a0 := Tryz.isAgg0
  z0 := Tryz.sizeOf0
  v0 := Tryz.zeroValue0
  t3 := Tryz.underlying3
  a3 := Tryz.isAgg3
  z3 := Tryz.sizeOf3
  v3 := Tryz.zeroValue3
  t4 := Tryz.underlying4
  a4 := Tryz.isAgg4
  z4 := Tryz.sizeOf4
  v4 := Tryz.zeroValue4
  t5 := Tryz.underlying5
  a5 := Tryz.isAgg5
  z5 := Tryz.sizeOf5
  v5 := Tryz.zeroValue5
  t9 := Tryz.underlying9
  a9 := Tryz.isAgg9
  z9 := Tryz.sizeOf9
  v9 := Tryz.zeroValue9
  t37 := Tryz.underlying67
  a37 := Tryz.isAgg67
  z37 := Tryz.sizeOf67
  v37 := Tryz.zeroValue67
  t51 := Tryz.underlying156
  a51 := Tryz.isAgg156
  z51 := Tryz.sizeOf156
  v51 := Tryz.zeroValue156
  t53 := Tryz.underlying50
  a53 := Tryz.isAgg50
  z53 := Tryz.sizeOf50
  v53 := Tryz.zeroValue50 }
open Go.RowKit Go.Sort Go.Lib in
theorem Tryz.internal_strconv_formatBase10 (blk off cap : Nat) (u : Nat) (d : Array UInt8) (w : World) (hH : Holds (fun (b : UInt8) => Value.int .u8 (b.toNat : Int)) w blk off d) (hu : u < 10 ^ d.size) (hu64 : u < 18446744073709551616) (hsz : d.size < 4611686018427387904) :
    Calls Tryz.prog 129 #[.slice (some ⟨blk, off, none⟩) d.size cap, .int .u64 u] w fun e w' =>
      e = .returned (.tuple #[]) ∧ ∃ (n v' : Nat) (dk : Array UInt8), w' = (putRow (fun (b : UInt8) => Value.int .u8 (b.toNat : Int)) w blk off dk).drewN n ∧ FmtInv d.size u 0 v' dk := Any.internal_strconv_formatBase10 Tryz.lays285 blk off cap u d w hH hu hu64 hsz
def Tryz.laysM173_ren : Go.Shelf.Ren := ⟨fun | 173 => 68 | 246 => 104 | 283 => 127 | 284 => 128 | 285 => 129 | 286 => 130 | 129 => 114 | 317 => 145 | 318 => 146 | 319 => 147 | 320 => 148 | 337 => 167 | 338 => 168 | n => n, fun | 2 => 2 | 3 => 3 | 9 => 9 | 4 => 4 | 171 => 142 | 0 => 0 | 53 => 50 | 37 => 67 | 5 => 5 | 173 => 144 | 212 => 155 | 51 => 156 | 20 => 20 | 213 => 157 | 46 => 140 | 232 => 184 | 233 => 185 | n => n, fun | 17 => 1 | 18 => 4 | 19 => 5 | n => n⟩
theorem Tryz.laysM173 : Go.Proofs.LaysM.n173 Tryz.prog Tryz.laysM173_ren := {
  mixed := by kernel_rfl
  f129 := Tryz.func114.trans (congrArg some (by kernel_rfl))
  f173 := Tryz.func68.trans (congrArg some (by kernel_rfl))
  f246 := Tryz.func104.trans (congrArg some (by kernel_rfl))
  f283 := Tryz.func127.trans (congrArg some (by kernel_rfl))
  f284 := Tryz.func128.trans (congrArg some (by kernel_rfl))
  f285 := Tryz.func129.trans (congrArg some (by kernel_rfl))
  f286 := Tryz.func130.trans (congrArg some (by kernel_rfl))
  f317 := Tryz.func145.trans (congrArg some (by kernel_rfl))
  f318 := Tryz.func146.trans (congrArg some (by kernel_rfl))
  f319 := Tryz.func147.trans (congrArg some (by kernel_rfl))
  f320 := Tryz.func148.trans (congrArg some (by kernel_rfl))
  f337 := Tryz.func167.trans (congrArg some (by kernel_rfl))
  f338 := Tryz.func168.trans (congrArg some (by kernel_rfl))
  t0 := Tryz.underlying0
  a0 := Tryz.isAgg0
  z0 := Tryz.sizeOf0
  v0 := Tryz.zeroValue0
  t2 := Tryz.underlying2
  a2 := Tryz.isAgg2
  z2 := Tryz.sizeOf2
  v2 := Tryz.zeroValue2
  t3 := Tryz.underlying3
  a3 := Tryz.isAgg3
  z3 := Tryz.sizeOf3
  v3 := Tryz.zeroValue3
  t4 := Tryz.underlying4
  a4 := Tryz.isAgg4
  z4 := Tryz.sizeOf4
  v4 := Tryz.zeroValue4
  t5 := Tryz.underlying5
  a5 := Tryz.isAgg5
  z5 := Tryz.sizeOf5
  v5 := Tryz.zeroValue5
  t9 := Tryz.underlying9
  a9 := Tryz.isAgg9
  z9 := Tryz.sizeOf9
  v9 := Tryz.zeroValue9
  t20 := Tryz.underlying20
  a20 := Tryz.isAgg20
  z20 := Tryz.sizeOf20
  v20 := Tryz.zeroValue20
  t37 := Tryz.underlying67
  a37 := Tryz.isAgg67
  z37 := Tryz.sizeOf67
  v37 := Tryz.zeroValue67
  t46 := Tryz.underlying140
  a46 := Tryz.isAgg140
  z46 := Tryz.sizeOf140
  v46 := Tryz.zeroValue140
  t51 := Tryz.underlying156
  a51 := Tryz.isAgg156
  z51 := Tryz.sizeOf156
  v51 := Tryz.zeroValue156
  t53 := Tryz.underlying50
  a53 := Tryz.isAgg50
  z53 := Tryz.sizeOf50
  v53 := Tryz.zeroValue50
  t171 := Tryz.underlying142
  a171 := Tryz.isAgg142
  z171 := Tryz.sizeOf142
  v171 := Tryz.zeroValue142
  t173 := Tryz.underlying144
  a173 := Tryz.isAgg144
  z173 := Tryz.sizeOf144
  v173 := Tryz.zeroValue144
  t212 := Tryz.underlying155
  a212 := Tryz.isAgg155
  z212 := Tryz.sizeOf155
  v212 := Tryz.zeroValue155
  t213 := Tryz.underlying157
  a213 := Tryz.isAgg157
  z213 := Tryz.sizeOf157
  t232 := Tryz.underlying184
  a232 := Tryz.isAgg184
  z232 := Tryz.sizeOf184
  v232 := Tryz.zeroValue184
  t233 := Tryz.underlying185
  a233 := Tryz.isAgg185
  z233 := Tryz.sizeOf185
  v233 := Tryz.zeroValue185
  g17 := by kernel_rfl
  g18 := by kernel_rfl
  g19 := by kernel_rfl
  i0 := by kernel_rfl
  i2 := by kernel_rfl
  i3 := by kernel_rfl
  i4 := by kernel_rfl
  i5 := by kernel_rfl
  i9 := by kernel_rfl
  i20 := by kernel_rfl
  i37 := by kernel_rfl
  i46 := by kernel_rfl
  i51 := by kernel_rfl
  i53 := by kernel_rfl
  i171 := by kernel_rfl
  i173 := by kernel_rfl
  i212 := by kernel_rfl
  i232 := by kernel_rfl
  i233 := by kernel_rfl
  m17 := by kernel_rfl
  m18 := by kernel_rfl
  m19 := by kernel_rfl }
open Go.RowKit Go.Sort Go.Lib in
theorem Tryz.strconv_FormatInt_10 (n : Int) (h0 : -9223372036854775808 ≤ n) (h1 : n ≤ 9223372036854775807) (w : World) (htab : Lib.TabIs Tryz.prog w "internal/strconv.uint64pow10" .u64 Lib.pow10Tab) :
    Calls Tryz.prog 68 #[.int .i64 n, .int .i64 10] w fun e w' => e = .returned (.string ⟨(Lib.itoa n).toArray⟩) ∧ ∃ k os, w' = grow (w.drewN k) os := Any.strconv_FormatInt_10 Tryz.laysM173 n h0 h1 w htab
end Go.Proofs


namespace Go.Proofs.YtmodjokoggmnaaaGreatDoor

open Go.RowKit Go.Shelf

theorem sfx_snoc (r : List UInt8) (c : UInt8) : sfx (r ++ [c]) = shiftOf c := by simp [sfx]
theorem body_snoc (r : List UInt8) (c : UInt8) : body (r ++ [c]) = if shiftOf c = 0 then r ++ [c] else r := by simp [body, sfx_snoc]
/-- A cut of a text. -/
theorem cut_eq (l : List UInt8) (i j : Nat) : (⟨l.toArray⟩ : ByteArray).extract i j = ⟨((l.take j).drop i).toArray⟩ := by
  apply ByteArray.ext
  simp [ByteArray.data_extract, List.drop_take]
theorem cut_to' (l : List UInt8) (j : Nat) : (⟨l.toArray⟩ : ByteArray).extract 0 j = ⟨(l.take j).toArray⟩ := by rw [cut_eq]; rfl
theorem cut_from' (l : List UInt8) (i j : Nat) (h : l.length ≤ j) : (⟨l.toArray⟩ : ByteArray).extract i j = ⟨(l.drop i).toArray⟩ := by rw [cut_eq, List.take_of_length_le h]
theorem at_eq (l : List UInt8) (k : Nat) (h : k < (⟨l.toArray⟩ : ByteArray).size) (h' : k < l.length) : (⟨l.toArray⟩ : ByteArray)[k]'h = l[k]'h' := rfl
theorem ba_size (l : List UInt8) : (⟨l.toArray⟩ : ByteArray).size = l.length := by rw [Lib.size_eq]

theorem ret_two {a b a' b' : Value} (h : a = a') (h2 : b = b') : Ending.returned (.tuple #[a, b]) = .returned (.tuple #[a', b']) := by rw [h, h2]

theorem cutSuffix_any (l : List UInt8) (w : World) (hne : l ≠ []) (hl : l.length ≤ 65536) :
    Calls Tryz.prog 110 #[.string ⟨l.toArray⟩] w fun e w' => e = .returned (.tuple #[.string ⟨(body l).toArray⟩, .int .i64 (sfx l)]) ∧ w = w' := by
  obtain ⟨r, c, rfl⟩ : ∃ r c, l = r ++ [c] := ⟨l.dropLast, l.getLast hne, (List.dropLast_concat_getLast hne).symm⟩
  have HB := Lib.hid (body_snoc r c)
  have HS := Lib.hid (sfx_snoc r c)
  have hrl : r.length + 1 ≤ 65536 := by simpa using hl
  have hsz : r.length < (⟨(r ++ [c]).toArray⟩ : ByteArray).size := by rw [ba_size]; simp
  have hx : (⟨(r ++ [c]).toArray⟩ : ByteArray)[r.length]'hsz = c := by rw [at_eq _ _ _ (by simp)]; simp
  have hc : ∀ n : Int, (((((⟨(r ++ [c]).toArray⟩ : ByteArray)[r.length]'hsz).toNat : Int)) == n) = ((c.toNat : Int) == n) := fun n => by rw [hx]
  have hu : ∀ m : UInt8, c.toNat = m.toNat → c = m := fun m h => UInt8.toNat_inj.1 h
  clear hl hne
  by_cases h1 : c.toNat = 75
  · have f1 : (((((⟨(r ++ [c]).toArray⟩ : ByteArray)[r.length]'hsz).toNat : Int)) == 75) = true := by rw [hc]; simp; omega
    have HE : Hid (shiftOf c = 10) := by rw [hu 75 h1]; rfl
    clear hc hx hu
    go_enter Tryz.func110, Tryz.ntmps110
    go_wp2
    go_ret2
    exact ⟨ret_two (congrArg Value.string (by rw [HB.out, HE.out, if_neg (by omega), cut_to', List.take_left])) (by rw [HS.out, HE.out]; rfl), rfl⟩
  by_cases h2 : c.toNat = 77
  · have f1 : (((((⟨(r ++ [c]).toArray⟩ : ByteArray)[r.length]'hsz).toNat : Int)) == 75) = false := by rw [hc]; simp; omega
    have f2 : (((((⟨(r ++ [c]).toArray⟩ : ByteArray)[r.length]'hsz).toNat : Int)) == 77) = true := by rw [hc]; simp; omega
    have HE : Hid (shiftOf c = 20) := by rw [hu 77 h2]; rfl
    clear hc hx hu
    go_enter Tryz.func110, Tryz.ntmps110
    go_wp2
    go_ret2
    exact ⟨ret_two (congrArg Value.string (by rw [HB.out, HE.out, if_neg (by omega), cut_to', List.take_left])) (by rw [HS.out, HE.out]; rfl), rfl⟩
  by_cases h3 : c.toNat = 71
  · have f1 : (((((⟨(r ++ [c]).toArray⟩ : ByteArray)[r.length]'hsz).toNat : Int)) == 75) = false := by rw [hc]; simp; omega
    have f2 : (((((⟨(r ++ [c]).toArray⟩ : ByteArray)[r.length]'hsz).toNat : Int)) == 77) = false := by rw [hc]; simp; omega
    have f3 : (((((⟨(r ++ [c]).toArray⟩ : ByteArray)[r.length]'hsz).toNat : Int)) == 71) = true := by rw [hc]; simp; omega
    have HE : Hid (shiftOf c = 30) := by rw [hu 71 h3]; rfl
    clear hc hx hu
    go_enter Tryz.func110, Tryz.ntmps110
    go_wp2
    go_ret2
    exact ⟨ret_two (congrArg Value.string (by rw [HB.out, HE.out, if_neg (by omega), cut_to', List.take_left])) (by rw [HS.out, HE.out]; rfl), rfl⟩
  · have f1 : (((((⟨(r ++ [c]).toArray⟩ : ByteArray)[r.length]'hsz).toNat : Int)) == 75) = false := by rw [hc]; simp; omega
    have f2 : (((((⟨(r ++ [c]).toArray⟩ : ByteArray)[r.length]'hsz).toNat : Int)) == 77) = false := by rw [hc]; simp; omega
    have f3 : (((((⟨(r ++ [c]).toArray⟩ : ByteArray)[r.length]'hsz).toNat : Int)) == 71) = false := by rw [hc]; simp; omega
    have HE : Hid (shiftOf c = 0) := by
      unfold Hid shiftOf
      rw [if_neg (fun h => h1 (by rw [h]; rfl)), if_neg (fun h => h2 (by rw [h]; rfl)), if_neg (fun h => h3 (by rw [h]; rfl))]
    clear hc hx hu
    go_enter Tryz.func110, Tryz.ntmps110
    go_wp2
    go_ret2
    exact ⟨ret_two (congrArg Value.string (by rw [HB.out, HE.out, if_pos rfl])) (by rw [HS.out, HE.out]; rfl), rfl⟩
theorem all_take (p : UInt8 → Bool) (l : List UInt8) (k : Nat) (h : k < l.length) : (l.take (k + 1)).all p = ((l.take k).all p && p l[k]) := by
  rw [List.take_succ_eq_append_getElem h, List.all_append]; simp
theorem all_stop (p : UInt8 → Bool) (l : List UInt8) (k : Nat) (h : k < l.length) (hp : p l[k] = false) : l.all p = false := by
  rw [List.all_eq_false]; exact ⟨l[k], List.getElem_mem h, by simp [hp]⟩
theorem allDigits_any (l : List UInt8) (base : Nat) (hb : base = 10 ∨ base = 16) (w : World) (hl : l.length ≤ 65536) :
    Calls Tryz.prog 112 #[.string ⟨l.toArray⟩, .int .i64 base] w fun e w' => e = .returned (.bool (l.all (okDig base))) ∧ w = w' := by
  go_enter Tryz.func112, Tryz.ntmps112
  go_wp2
  go_loop [8] (fun i => ∃ k : Nat, k ≤ l.length ∧ i = .int .i64 k ∧ Hid ((l.take k).all (okDig base) = true)) (fun i => l.length - (intOf i).toNat)
  case atStart => exact ⟨0, Nat.zero_le _, rfl, rfl⟩
  case round =>
    obtain ⟨k, hk, rfl, HA⟩ := hrel
    by_cases hlt : k < l.length
    · have hbd := byte_bd l[k]
      have HT := Lib.hid (all_take (okDig base) l k hlt)
      have HZ : Hid (okDig base l[k] = false → l.all (okDig base) = false) := Lib.hid (all_stop (okDig base) l k hlt)
      have HO : Hid (okDig base l[k] = (digI (l[k].toNat : Int) || (!((base : Int) == 10) && hexI (l[k].toNat : Int)))) := by
        unfold Hid okDig isDig isHex
        rcases hb with rfl | rfl <;> simp
      have hx : ({ data := l.toArray } : ByteArray)[k] = l[k] := rfl
      cases h1 : digI (l[k].toNat : Int)
      · cases h3 : ((base : Int) == 10)
        · cases h2 : hexI (l[k].toNat : Int)
          · have HQ : Hid (l.all (okDig base) = false) := Lib.hid (HZ.out (by rw [HO.out, h1, h2]; simp))
            go_wp2_with (first | (go_at_call 79; refine (isDigit_any _ _ hbd.1 hbd.2).mono ?_; rintro e w' ⟨rfl, rfl⟩) | (go_at_call 136; refine (isHexLetter_any _ _ hbd.1 hbd.2).mono ?_; rintro e w' ⟨rfl, rfl⟩))
            go_ret
            exact ⟨ret_bool HQ.out.symm, rfl⟩
          · have HQ : Hid (okDig base l[k] = true) := Lib.hid (by rw [HO.out, h1, h2, h3]; rfl)
            go_wp2_with (first | (go_at_call 79; refine (isDigit_any _ _ hbd.1 hbd.2).mono ?_; rintro e w' ⟨rfl, rfl⟩) | (go_at_call 136; refine (isHexLetter_any _ _ hbd.1 hbd.2).mono ?_; rintro e w' ⟨rfl, rfl⟩))
            go_round
            case rel => exact ⟨k + 1, by omega, by go_num, Lib.hid (by rw [HT.out, HA.out, HQ.out]; rfl)⟩
            case measure => simp [intOf]; omega
        · have HQ : Hid (l.all (okDig base) = false) := Lib.hid (HZ.out (by rw [HO.out, h1, h3]; rfl))
          go_wp2_with (first | (go_at_call 79; refine (isDigit_any _ _ hbd.1 hbd.2).mono ?_; rintro e w' ⟨rfl, rfl⟩) | (go_at_call 136; refine (isHexLetter_any _ _ hbd.1 hbd.2).mono ?_; rintro e w' ⟨rfl, rfl⟩))
          go_ret
          exact ⟨ret_bool HQ.out.symm, rfl⟩
      · have HQ : Hid (okDig base l[k] = true) := Lib.hid (by rw [HO.out, h1]; rfl)
        go_wp2_with (first | (go_at_call 79; refine (isDigit_any _ _ hbd.1 hbd.2).mono ?_; rintro e w' ⟨rfl, rfl⟩) | (go_at_call 136; refine (isHexLetter_any _ _ hbd.1 hbd.2).mono ?_; rintro e w' ⟨rfl, rfl⟩))
        go_round
        case rel => exact ⟨k + 1, by omega, by go_num, Lib.hid (by rw [HT.out, HA.out, HQ.out]; rfl)⟩
        case measure => simp [intOf]; omega
    · have HE : Hid (l.all (okDig base) = true) := by
        have h := HA.out
        rw [List.take_of_length_le (by omega)] at h; exact h
      go_wp2
      go_ret
      exact ⟨ret_bool HE.out.symm, rfl⟩
end Go.Proofs.YtmodjokoggmnaaaGreatDoor


namespace Go.Proofs.YtmodjokoggmnaaaGreatDoor

open Go.RowKit Go.Shelf

def numV : Num → Nat
  | .val v => v
  | _ => 0
def numE : Num → Nat
  | .val _ => 0
  | .big => 6
  | .bad => 50
theorem bitLen_shl (v sh : Nat) (hv : v < 18446744073709551616) (hs : sh ≤ 30) : (64 < Lib.bitLen v + sh) ↔ ¬ v * 2 ^ sh < 18446744073709551616 := by
  have e64 : (18446744073709551616 : Nat) = 2 ^ (64 - sh) * 2 ^ sh := by rw [← Nat.pow_add, show 64 - sh + sh = 64 by omega]
  constructor
  · intro h hlt
    rw [e64] at hlt
    have h1 : v < 2 ^ (64 - sh) := Nat.lt_of_mul_lt_mul_right hlt
    have := Lib.bitLen_le v (64 - sh) (by omega) h1
    omega
  · intro h
    apply Nat.lt_of_not_le
    intro hle
    apply h
    have hv0 : v ≠ 0 := by
      intro h0; apply h; rw [h0]; omega
    obtain ⟨_, _, h3⟩ := Lib.bitLenAux_bounds 64 v (by omega) hv0
    have h3' : v < 2 ^ Lib.bitLen v := h3
    have h4 : 2 ^ Lib.bitLen v ≤ 2 ^ (64 - sh) := Nat.pow_le_pow_right (by omega) (by omega)
    rw [e64]
    exact Nat.mul_lt_mul_of_pos_right (by omega) (Nat.pow_pos (by omega))
theorem wrap_pow (v sh : Nat) (h : v * 2 ^ sh < 18446744073709551616) : IntKind.u64.wrap ((v : Int) * 2 ^ sh) = (numV (Num.val (v * 2 ^ sh)) : Int) := by
  have e : (v : Int) * 2 ^ sh = ((v * 2 ^ sh : Nat) : Int) := by simp [Int.natCast_mul, Int.natCast_pow]
  rw [e, IntKind.wrap_u64]
  show _ = ((v * 2 ^ sh : Nat) : Int)
  generalize v * 2 ^ sh = m at *
  omega
theorem sfx_cases (l : List UInt8) : sfx l = 0 ∨ sfx l = 10 ∨ sfx l = 20 ∨ sfx l = 30 := by
  unfold sfx
  split
  · unfold shiftOf; (repeat' split) <;> omega
  · omega
theorem body_len (l : List UInt8) : (body l).length ≤ l.length := by
  unfold body; split
  · exact Nat.le_refl _
  · simp
theorem hexed_eq (b : List UInt8) : Lib.hasPrefix b [48, 120] = hexed b := by
  unfold hexed Lib.hasPrefix
  split
  · rfl
  · rename_i h
    match b, h with
    | [], _ => rfl
    | [c], _ => simp [List.isPrefixOf]
    | c :: d :: r, h =>
      have : ¬ (c = 48 ∧ d = 120) := fun ⟨h1, h2⟩ => h r (by rw [h1, h2])
      simp only [List.isPrefixOf, Bool.and_true]
      rw [Bool.and_eq_false_iff]
      by_cases h1 : c = 48
      · exact .inr (by simp; exact fun h2 => this ⟨h1, h2.symm⟩)
      · exact .inl (by simp; exact fun h2 => h1 h2.symm)
theorem digits_bad1 (base sh : Nat) (d : List UInt8) (h : d = []) : digits base sh d = .bad := by rw [digits, if_pos (.inl h)]
theorem digits_bad2 (base sh : Nat) (d : List UInt8) (h : d.all (okDig base) = false) : digits base sh d = .bad := by rw [digits, if_pos (.inr h)]
theorem digits_val (base sh : Nat) (d : List UInt8) (h : ¬ d = []) (h2 : d.all (okDig base) = true) (h3 : value base d * 2 ^ sh < 18446744073709551616) : digits base sh d = .val (value base d * 2 ^ sh) := by
  rw [digits, if_neg (by simp [h, h2]), if_pos h3]
theorem digits_big (base sh : Nat) (d : List UInt8) (h : ¬ d = []) (h2 : d.all (okDig base) = true) (h3 : ¬ value base d * 2 ^ sh < 18446744073709551616) : digits base sh d = .big := by
  rw [digits, if_neg (by simp [h, h2]), if_neg h3]
theorem cutP (b : List UInt8) (w : World) : Calls Tryz.prog 111 #[.string ⟨b.toArray⟩, .string ⟨#[48, 120]⟩] w fun e w' => e = .returned (.tuple #[.string ⟨(if hexed b = true then b.drop 2 else b).toArray⟩, .bool (hexed b)]) ∧ w = w' :=
  (Tryz.strings_CutPrefix ⟨b.toArray⟩ ⟨#[48, 120]⟩ w).mono fun e w' ⟨he, hw⟩ => ⟨by
    rw [he, Lib.trimPrefix]
    show Ending.returned (.tuple #[.string ⟨(if Lib.hasPrefix b [48, 120] = true then b.drop 2 else b).toArray⟩, .bool (Lib.hasPrefix b [48, 120])]) = _
    rw [hexed_eq], hw.symm⟩

set_option maxHeartbeats 2000000 in
theorem number_any (l : List UInt8) (w : World) (hne : l ≠ []) (hl : l.length ≤ 65536) (hG : Glob w) :
    Calls Tryz.prog 81 #[.string ⟨l.toArray⟩] w fun e w' => e = .returned (.tuple #[.int .u64 (numV (num l)), .int .i64 (numE (num l))]) ∧ Below w.heap.size w w' := by
  have hcs := cutSuffix_any l w hne hl
  have hnum : num l = if hexed (body l) = true then digits 16 (sfx l) ((body l).drop 2) else match body l with | 48 :: _ :: _ => .bad | _ => digits 10 (sfx l) (body l) := rfl
  have hbl := body_len l
  have hsc := sfx_cases l
  generalize body l = b at *
  generalize sfx l = sh at *
  generalize num l = nn at *
  have HC := Lib.hid hcs
  have HP := Lib.hid (cutP b w)
  clear hcs hne
  by_cases hx : hexed b = true
  · rw [if_pos hx] at hnum HP
    rw [hx] at HP
    obtain ⟨d, hd⟩ : ∃ d, d = b.drop 2 := ⟨_, rfl⟩
    have hdl : d.length ≤ 65536 := by rw [hd]; simp; omega
    rw [← hd] at hnum HP
    clear hd hbl hl
    clear hx
    by_cases hd0 : d = []
    · have HN := Lib.hid (hnum.trans (digits_bad1 16 sh d hd0))
      subst hd0
      clear hnum
      go_enter Tryz.func81, Tryz.ntmps81
      go_wp2_with fail
      refine HC.out.mono ?_
      rintro e w' ⟨rfl, rfl⟩
      go_wp2_with fail
      refine HP.out.mono ?_
      rintro e w' ⟨rfl, rfl⟩
      go_wp2
      go_ret2
      exact ⟨by rw [HN.out]; rfl, Below.refl _ _⟩
    have hem : d.isEmpty = false := by cases d with | nil => exact absurd rfl hd0 | cons _ _ => rfl
    cases ha : d.all (okDig 16)
    · have HN := Lib.hid (hnum.trans (digits_bad2 16 sh d ha))
      have HA := allDigits_any d 16 (by omega) w hdl
      rw [ha] at HA
      replace HA := Lib.hid HA
      clear hnum ha
      go_enter Tryz.func81, Tryz.ntmps81
      go_wp2_with fail
      refine HC.out.mono ?_
      rintro e w' ⟨rfl, rfl⟩
      go_wp2_with fail
      refine HP.out.mono ?_
      rintro e w' ⟨rfl, rfl⟩
      go_wp2_with fail
      refine HA.out.mono ?_
      rintro e w' ⟨rfl, rfl⟩
      go_wp2
      go_ret2
      exact ⟨by rw [HN.out]; rfl, Below.refl _ _⟩
    have HA := allDigits_any d 16 (by omega) w hdl
    rw [ha] at HA
    replace HA := Lib.hid HA
    by_cases hv : value 16 d < 18446744073709551616
    · have HU := Lib.hid (parseUint_ok 16 (by omega) d hd0 (by omega) ha hv w)
      have hbs := bitLen_shl (value 16 d) sh hv (by omega)
      by_cases hs : value 16 d * 2 ^ sh < 18446744073709551616
      · have HN := Lib.hid (hnum.trans (digits_val 16 sh d hd0 ha hs))
        have hbl : Lib.bitLen (value 16 d) + sh ≤ 64 := Nat.le_of_not_lt fun h => hbs.1 h hs
        generalize value 16 d = v at *
        have hv1 : (v : Int) ≤ 18446744073709551615 := by omega
        have HL := Lib.hid fun W => Tryz.bits_Len64 v W (by omega) hv1
        have HS := Lib.hid hs
        clear hnum ha hv hs hbs hv1
        go_enter Tryz.func81, Tryz.ntmps81
        go_wp2_with fail
        refine HC.out.mono ?_
        rintro e w' ⟨rfl, rfl⟩
        go_wp2_with fail
        refine HP.out.mono ?_
        rintro e w' ⟨rfl, rfl⟩
        go_wp2_with fail
        refine HA.out.mono ?_
        rintro e w' ⟨rfl, rfl⟩
        go_wp2_with fail
        refine HU.out.mono ?_
        rintro e w1 ⟨rfl, hb1⟩
        have HB := Lib.hid hb1
        clear hb1
        go_wp2_with fail
        refine (HL.out _).mono ?_
        rintro e w2 ⟨rfl, rfl⟩
        rw [Int.toNat_natCast]
        generalize Lib.bitLen v = n at *
        go_wp2
        go_ret2
        refine ⟨ret_two (congrArg (Value.int .u64) ?_) (by rw [HN.out]; rfl), HB.out⟩
        rw [HN.out]
        exact wrap_pow v sh HS.out
      · have HN := Lib.hid (hnum.trans (digits_big 16 sh d hd0 ha hs))
        have hbl : 64 < Lib.bitLen (value 16 d) + sh := hbs.2 hs
        generalize value 16 d = v at *
        have hv1 : (v : Int) ≤ 18446744073709551615 := by omega
        have HL := Lib.hid fun W => Tryz.bits_Len64 v W (by omega) hv1
        have hn64 := Lib.bitLen_le v 64 (by omega) (by omega)
        clear hnum ha hv hs hbs hv1
        go_enter Tryz.func81, Tryz.ntmps81
        go_wp2_with fail
        refine HC.out.mono ?_
        rintro e w' ⟨rfl, rfl⟩
        go_wp2_with fail
        refine HP.out.mono ?_
        rintro e w' ⟨rfl, rfl⟩
        go_wp2_with fail
        refine HA.out.mono ?_
        rintro e w' ⟨rfl, rfl⟩
        go_wp2_with fail
        refine HU.out.mono ?_
        rintro e w1 ⟨rfl, hb1⟩
        have HB := Lib.hid hb1
        clear hb1
        go_wp2_with fail
        refine (HL.out _).mono ?_
        rintro e w2 ⟨rfl, rfl⟩
        rw [Int.toNat_natCast]
        generalize Lib.bitLen v = n at *
        go_wp2
        go_ret2
        exact ⟨by rw [HN.out]; rfl, HB.out⟩
    · have HU := Lib.hid (parseUint_big 16 (by omega) d hd0 (by omega) ha hv w hG)
      have HN := Lib.hid (hnum.trans (digits_big 16 sh d hd0 ha (fun h => hv (Nat.lt_of_le_of_lt (Nat.le_mul_of_pos_right _ (Nat.pow_pos (by omega))) h))))
      clear hnum ha hv
      go_enter Tryz.func81, Tryz.ntmps81
      go_wp2_with fail
      refine HC.out.mono ?_
      rintro e w' ⟨rfl, rfl⟩
      go_wp2_with fail
      refine HP.out.mono ?_
      rintro e w' ⟨rfl, rfl⟩
      go_wp2_with fail
      refine HA.out.mono ?_
      rintro e w' ⟨rfl, rfl⟩
      go_wp2_with fail
      refine HU.out.mono ?_
      rintro e w1 ⟨N, rfl, hb1⟩
      have HB := Lib.hid hb1
      clear hb1
      go_wp2
      go_ret2
      exact ⟨by rw [HN.out]; rfl, HB.out⟩
  · have hx' : hexed b = false := by simpa using hx
    rw [if_neg hx] at hnum HP
    rw [hx'] at HP
    clear hx hx'
    by_cases hz : ∃ c r, b = 48 :: c :: r
    · obtain ⟨c, r, rfl⟩ := hz
      have HN := Lib.hid hnum
      clear hnum
      have hbl2 : r.length + 2 ≤ 65536 := by simp at hbl; omega
      go_enter Tryz.func81, Tryz.ntmps81
      go_wp2_with fail
      refine HC.out.mono ?_
      rintro e w' ⟨rfl, rfl⟩
      go_wp2_with fail
      refine HP.out.mono ?_
      rintro e w' ⟨rfl, rfl⟩
      go_wp2
      all_goals (go_ret2; exact ⟨by rw [HN.out]; rfl, Below.refl _ _⟩)
    have hdl : b.length ≤ 65536 := by omega
    have hnum' : nn = digits 10 sh b := by
      rw [hnum]; split
      · exact absurd ⟨_, _, rfl⟩ hz
      · rfl
    clear hnum hbl hl
    have hnum := hnum'
    clear hnum'
    rcases Nat.lt_or_ge 1 b.length with hq1 | hq1
    · have hsz : 0 < (⟨b.toArray⟩ : ByteArray).size := by rw [ba_size]; omega
      have hq2 : ((((⟨b.toArray⟩ : ByteArray)[0]'hsz).toNat : Int) == 48) = false := by
        rw [at_eq b 0 hsz (by omega)]
        match b, hq1, hz with
        | c :: d :: r, _, hz =>
          have hc : c ≠ 48 := fun h => hz ⟨d, r, by rw [h]⟩
          have : c.toNat ≠ 48 := fun h => hc (UInt8.toNat_inj.1 h)
          simp; omega
      clear hz
      generalize b = d at *
      by_cases hd0 : d = []
      · have HN := Lib.hid (hnum.trans (digits_bad1 10 sh d hd0))
        subst hd0
        clear hnum
        go_enter Tryz.func81, Tryz.ntmps81
        go_wp2_with fail
        refine HC.out.mono ?_
        rintro e w' ⟨rfl, rfl⟩
        go_wp2_with fail
        refine HP.out.mono ?_
        rintro e w' ⟨rfl, rfl⟩
        go_wp2
        go_ret2
        exact ⟨by rw [HN.out]; rfl, Below.refl _ _⟩
      have hem : d.isEmpty = false := by cases d with | nil => exact absurd rfl hd0 | cons _ _ => rfl
      cases ha : d.all (okDig 10)
      · have HN := Lib.hid (hnum.trans (digits_bad2 10 sh d ha))
        have HA := allDigits_any d 10 (by omega) w hdl
        rw [ha] at HA
        replace HA := Lib.hid HA
        clear hnum ha
        go_enter Tryz.func81, Tryz.ntmps81
        go_wp2_with fail
        refine HC.out.mono ?_
        rintro e w' ⟨rfl, rfl⟩
        go_wp2_with fail
        refine HP.out.mono ?_
        rintro e w' ⟨rfl, rfl⟩
        go_wp2_with fail
        refine HA.out.mono ?_
        rintro e w' ⟨rfl, rfl⟩
        go_wp2
        go_ret2
        exact ⟨by rw [HN.out]; rfl, Below.refl _ _⟩
      have HA := allDigits_any d 10 (by omega) w hdl
      rw [ha] at HA
      replace HA := Lib.hid HA
      by_cases hv : value 10 d < 18446744073709551616
      · have HU := Lib.hid (parseUint_ok 10 (by omega) d hd0 (by omega) ha hv w)
        have hbs := bitLen_shl (value 10 d) sh hv (by omega)
        by_cases hs : value 10 d * 2 ^ sh < 18446744073709551616
        · have HN := Lib.hid (hnum.trans (digits_val 10 sh d hd0 ha hs))
          have hbl : Lib.bitLen (value 10 d) + sh ≤ 64 := Nat.le_of_not_lt fun h => hbs.1 h hs
          generalize value 10 d = v at *
          have hv1 : (v : Int) ≤ 18446744073709551615 := by omega
          have HL := Lib.hid fun W => Tryz.bits_Len64 v W (by omega) hv1
          have HS := Lib.hid hs
          clear hnum ha hv hs hbs hv1
          go_enter Tryz.func81, Tryz.ntmps81
          go_wp2_with fail
          refine HC.out.mono ?_
          rintro e w' ⟨rfl, rfl⟩
          go_wp2_with fail
          refine HP.out.mono ?_
          rintro e w' ⟨rfl, rfl⟩
          go_wp2_with fail
          refine HA.out.mono ?_
          rintro e w' ⟨rfl, rfl⟩
          go_wp2_with fail
          refine HU.out.mono ?_
          rintro e w1 ⟨rfl, hb1⟩
          have HB := Lib.hid hb1
          clear hb1
          go_wp2_with fail
          refine (HL.out _).mono ?_
          rintro e w2 ⟨rfl, rfl⟩
          rw [Int.toNat_natCast]
          generalize Lib.bitLen v = n at *
          go_wp2
          go_ret2
          refine ⟨ret_two (congrArg (Value.int .u64) ?_) (by rw [HN.out]; rfl), HB.out⟩
          rw [HN.out]
          exact wrap_pow v sh HS.out
        · have HN := Lib.hid (hnum.trans (digits_big 10 sh d hd0 ha hs))
          have hbl : 64 < Lib.bitLen (value 10 d) + sh := hbs.2 hs
          generalize value 10 d = v at *
          have hv1 : (v : Int) ≤ 18446744073709551615 := by omega
          have HL := Lib.hid fun W => Tryz.bits_Len64 v W (by omega) hv1
          have hn64 := Lib.bitLen_le v 64 (by omega) (by omega)
          clear hnum ha hv hs hbs hv1
          go_enter Tryz.func81, Tryz.ntmps81
          go_wp2_with fail
          refine HC.out.mono ?_
          rintro e w' ⟨rfl, rfl⟩
          go_wp2_with fail
          refine HP.out.mono ?_
          rintro e w' ⟨rfl, rfl⟩
          go_wp2_with fail
          refine HA.out.mono ?_
          rintro e w' ⟨rfl, rfl⟩
          go_wp2_with fail
          refine HU.out.mono ?_
          rintro e w1 ⟨rfl, hb1⟩
          have HB := Lib.hid hb1
          clear hb1
          go_wp2_with fail
          refine (HL.out _).mono ?_
          rintro e w2 ⟨rfl, rfl⟩
          rw [Int.toNat_natCast]
          generalize Lib.bitLen v = n at *
          go_wp2
          go_ret2
          exact ⟨by rw [HN.out]; rfl, HB.out⟩
      · have HU := Lib.hid (parseUint_big 10 (by omega) d hd0 (by omega) ha hv w hG)
        have HN := Lib.hid (hnum.trans (digits_big 10 sh d hd0 ha (fun h => hv (Nat.lt_of_le_of_lt (Nat.le_mul_of_pos_right _ (Nat.pow_pos (by omega))) h))))
        clear hnum ha hv
        go_enter Tryz.func81, Tryz.ntmps81
        go_wp2_with fail
        refine HC.out.mono ?_
        rintro e w' ⟨rfl, rfl⟩
        go_wp2_with fail
        refine HP.out.mono ?_
        rintro e w' ⟨rfl, rfl⟩
        go_wp2_with fail
        refine HA.out.mono ?_
        rintro e w' ⟨rfl, rfl⟩
        go_wp2_with fail
        refine HU.out.mono ?_
        rintro e w1 ⟨N, rfl, hb1⟩
        have HB := Lib.hid hb1
        clear hb1
        go_wp2
        go_ret2
        exact ⟨by rw [HN.out]; rfl, HB.out⟩
    · clear hz
      generalize b = d at *
      by_cases hd0 : d = []
      · have HN := Lib.hid (hnum.trans (digits_bad1 10 sh d hd0))
        subst hd0
        clear hnum
        go_enter Tryz.func81, Tryz.ntmps81
        go_wp2_with fail
        refine HC.out.mono ?_
        rintro e w' ⟨rfl, rfl⟩
        go_wp2_with fail
        refine HP.out.mono ?_
        rintro e w' ⟨rfl, rfl⟩
        go_wp2
        go_ret2
        exact ⟨by rw [HN.out]; rfl, Below.refl _ _⟩
      have hem : d.isEmpty = false := by cases d with | nil => exact absurd rfl hd0 | cons _ _ => rfl
      cases ha : d.all (okDig 10)
      · have HN := Lib.hid (hnum.trans (digits_bad2 10 sh d ha))
        have HA := allDigits_any d 10 (by omega) w hdl
        rw [ha] at HA
        replace HA := Lib.hid HA
        clear hnum ha
        go_enter Tryz.func81, Tryz.ntmps81
        go_wp2_with fail
        refine HC.out.mono ?_
        rintro e w' ⟨rfl, rfl⟩
        go_wp2_with fail
        refine HP.out.mono ?_
        rintro e w' ⟨rfl, rfl⟩
        go_wp2_with fail
        refine HA.out.mono ?_
        rintro e w' ⟨rfl, rfl⟩
        go_wp2
        go_ret2
        exact ⟨by rw [HN.out]; rfl, Below.refl _ _⟩
      have HA := allDigits_any d 10 (by omega) w hdl
      rw [ha] at HA
      replace HA := Lib.hid HA
      by_cases hv : value 10 d < 18446744073709551616
      · have HU := Lib.hid (parseUint_ok 10 (by omega) d hd0 (by omega) ha hv w)
        have hbs := bitLen_shl (value 10 d) sh hv (by omega)
        by_cases hs : value 10 d * 2 ^ sh < 18446744073709551616
        · have HN := Lib.hid (hnum.trans (digits_val 10 sh d hd0 ha hs))
          have hbl : Lib.bitLen (value 10 d) + sh ≤ 64 := Nat.le_of_not_lt fun h => hbs.1 h hs
          generalize value 10 d = v at *
          have hv1 : (v : Int) ≤ 18446744073709551615 := by omega
          have HL := Lib.hid fun W => Tryz.bits_Len64 v W (by omega) hv1
          have HS := Lib.hid hs
          clear hnum ha hv hs hbs hv1
          go_enter Tryz.func81, Tryz.ntmps81
          go_wp2_with fail
          refine HC.out.mono ?_
          rintro e w' ⟨rfl, rfl⟩
          go_wp2_with fail
          refine HP.out.mono ?_
          rintro e w' ⟨rfl, rfl⟩
          go_wp2_with fail
          refine HA.out.mono ?_
          rintro e w' ⟨rfl, rfl⟩
          go_wp2_with fail
          refine HU.out.mono ?_
          rintro e w1 ⟨rfl, hb1⟩
          have HB := Lib.hid hb1
          clear hb1
          go_wp2_with fail
          refine (HL.out _).mono ?_
          rintro e w2 ⟨rfl, rfl⟩
          rw [Int.toNat_natCast]
          generalize Lib.bitLen v = n at *
          go_wp2
          go_ret2
          refine ⟨ret_two (congrArg (Value.int .u64) ?_) (by rw [HN.out]; rfl), HB.out⟩
          rw [HN.out]
          exact wrap_pow v sh HS.out
        · have HN := Lib.hid (hnum.trans (digits_big 10 sh d hd0 ha hs))
          have hbl : 64 < Lib.bitLen (value 10 d) + sh := hbs.2 hs
          generalize value 10 d = v at *
          have hv1 : (v : Int) ≤ 18446744073709551615 := by omega
          have HL := Lib.hid fun W => Tryz.bits_Len64 v W (by omega) hv1
          have hn64 := Lib.bitLen_le v 64 (by omega) (by omega)
          clear hnum ha hv hs hbs hv1
          go_enter Tryz.func81, Tryz.ntmps81
          go_wp2_with fail
          refine HC.out.mono ?_
          rintro e w' ⟨rfl, rfl⟩
          go_wp2_with fail
          refine HP.out.mono ?_
          rintro e w' ⟨rfl, rfl⟩
          go_wp2_with fail
          refine HA.out.mono ?_
          rintro e w' ⟨rfl, rfl⟩
          go_wp2_with fail
          refine HU.out.mono ?_
          rintro e w1 ⟨rfl, hb1⟩
          have HB := Lib.hid hb1
          clear hb1
          go_wp2_with fail
          refine (HL.out _).mono ?_
          rintro e w2 ⟨rfl, rfl⟩
          rw [Int.toNat_natCast]
          generalize Lib.bitLen v = n at *
          go_wp2
          go_ret2
          exact ⟨by rw [HN.out]; rfl, HB.out⟩
      · have HU := Lib.hid (parseUint_big 10 (by omega) d hd0 (by omega) ha hv w hG)
        have HN := Lib.hid (hnum.trans (digits_big 10 sh d hd0 ha (fun h => hv (Nat.lt_of_le_of_lt (Nat.le_mul_of_pos_right _ (Nat.pow_pos (by omega))) h))))
        clear hnum ha hv
        go_enter Tryz.func81, Tryz.ntmps81
        go_wp2_with fail
        refine HC.out.mono ?_
        rintro e w' ⟨rfl, rfl⟩
        go_wp2_with fail
        refine HP.out.mono ?_
        rintro e w' ⟨rfl, rfl⟩
        go_wp2_with fail
        refine HA.out.mono ?_
        rintro e w' ⟨rfl, rfl⟩
        go_wp2_with fail
        refine HU.out.mono ?_
        rintro e w1 ⟨N, rfl, hb1⟩
        have HB := Lib.hid hb1
        clear hb1
        go_wp2
        go_ret2
        exact ⟨by rw [HN.out]; rfl, HB.out⟩
end Go.Proofs.YtmodjokoggmnaaaGreatDoor
