/-
  Contracts of Go's library, as the kit's shelf has them, laid at this program: each is the library's own theorem at this program's numbers.
  Conditions: as each says.
  The assembler's methods number and comma; registers' and operations' words.
  Conditions: the tokens end with one of kind 0, and no other has that kind.
  What the scanner's tokens are; where a text ends; the tokens of a text with one of kind 0 behind them.
  Conditions: the text has at most 65536 bytes.
-/
import Derived.Shelf.Strings.Builder1
import Derived.Shelf.Small.Strs
import Derived.Shelf.Small.Wraps
import Derived.Shelf.Strconv.Itoa0
import Derived.Shelf.Strconv.Itoa1
import Derived.Shelf.LaysM
import Derived.Shelf.Strconv.Itoa2
import Derived.Shelf.Strconv.Itoa3
import Derived.Shelf.Strconv.Clone
import Derived.Shelf.Strconv.Lower
import Derived.Shelf.Strconv.RangeError
import Derived.Shelf.LaysC
import Derived.Shelf.Strconv.ToErrorRange
import Derived.Shelf.Strconv.ParseUint10b64
import Derived.Ground.MpProg
import Derived.Shelf.Pu.ParseUintPublic10
import Derived.Shelf.Pu.ErrVarParseUint
import Derived.Shelf.Strings.Search1
import Derived.Shelf.Strings.Search2
import Derived.Shelf.Strings.Search3
import Derived.Shelf.Strings.Count
import Derived.Shelf.Strings.Shaped
import Derived.Shelf.Strings.LastIndex
import Derived.Shelf.Strings.Prefix
import Derived.Test.YtcmohijjpnebpaaGreatDoorProg
import Derived.Test.YtcmohijjpnebpaaGreatDoorMa14
import Derived.Test.YtcmohijjpnebpaaGreatDoorMa3
import Derived.Deep.MidRow
import Derived.Test.YtcmohijjpnebpaaGreatDoorMa6
import Derived.Test.YtcmohijjpnebpaaGreatDoorMa7
namespace Go.Proofs
open Go.Shelf
def Tryz.laysM171_ren : Go.Shelf.Ren := ⟨fun | 171 => 64 | 243 => 91 | 246 => 118 | 283 => 114 | 284 => 115 | 285 => 116 | 286 => 117 | 129 => 112 | 317 => 136 | 318 => 137 | 319 => 138 | 320 => 139 | 337 => 156 | 338 => 157 | n => n, fun | 3 => 3 | 9 => 9 | 2 => 2 | 4 => 4 | 171 => 156 | 0 => 0 | 53 => 45 | 37 => 23 | 5 => 5 | 173 => 158 | 212 => 171 | 51 => 59 | 20 => 20 | 213 => 172 | 46 => 56 | 232 => 191 | 233 => 192 | n => n, fun | 17 => 2 | 18 => 5 | 19 => 6 | n => n⟩
theorem Tryz.laysM171 : Go.Proofs.LaysM.n171 Tryz.prog Tryz.laysM171_ren := {
  mixed := by kernel_rfl
  f129 := Tryz.func112.trans (congrArg some (by kernel_rfl))
  f171 := Tryz.func64.trans (congrArg some (by kernel_rfl))
  f243 := Tryz.func91.trans (congrArg some (by kernel_rfl))
  f246 := Tryz.func118.trans (congrArg some (by kernel_rfl))
  f283 := Tryz.func114.trans (congrArg some (by kernel_rfl))
  f284 := Tryz.func115.trans (congrArg some (by kernel_rfl))
  f285 := Tryz.func116.trans (congrArg some (by kernel_rfl))
  f286 := Tryz.func117.trans (congrArg some (by kernel_rfl))
  f317 := Tryz.func136.trans (congrArg some (by kernel_rfl))
  f318 := Tryz.func137.trans (congrArg some (by kernel_rfl))
  f319 := Tryz.func138.trans (congrArg some (by kernel_rfl))
  f320 := Tryz.func139.trans (congrArg some (by kernel_rfl))
  f337 := Tryz.func156.trans (congrArg some (by kernel_rfl))
  f338 := Tryz.func157.trans (congrArg some (by kernel_rfl))
  t0 := Tryz.underlying0
  a0 := Tryz.isAgg0
  z0 := Tryz.sizeOf0
  v0 := Tryz.zeroValue0
  t2 := Tryz.underlying2
  a2 := Tryz.isAgg2
  z2 := Tryz.sizeOf2
  v2 := Tryz.zeroValue2
  t3 := Tryz.underlying3
  a3 := Tryz.isAgg3
  z3 := Tryz.sizeOf3
  v3 := Tryz.zeroValue3
  t4 := Tryz.underlying4
  a4 := Tryz.isAgg4
  z4 := Tryz.sizeOf4
  v4 := Tryz.zeroValue4
  t5 := Tryz.underlying5
  a5 := Tryz.isAgg5
  z5 := Tryz.sizeOf5
  v5 := Tryz.zeroValue5
  t9 := Tryz.underlying9
  a9 := Tryz.isAgg9
  z9 := Tryz.sizeOf9
  v9 := Tryz.zeroValue9
  t20 := Tryz.underlying20
  a20 := Tryz.isAgg20
  z20 := Tryz.sizeOf20
  v20 := Tryz.zeroValue20
  t37 := Tryz.underlying23
  a37 := Tryz.isAgg23
  z37 := Tryz.sizeOf23
  v37 := Tryz.zeroValue23
  t46 := Tryz.underlying56
  a46 := Tryz.isAgg56
  z46 := Tryz.sizeOf56
  v46 := Tryz.zeroValue56
  t51 := Tryz.underlying59
  a51 := Tryz.isAgg59
  z51 := Tryz.sizeOf59
  v51 := Tryz.zeroValue59
  t53 := Tryz.underlying45
  a53 := Tryz.isAgg45
  z53 := Tryz.sizeOf45
  v53 := Tryz.zeroValue45
  t171 := Tryz.underlying156
  a171 := Tryz.isAgg156
  z171 := Tryz.sizeOf156
  v171 := Tryz.zeroValue156
  t173 := Tryz.underlying158
  a173 := Tryz.isAgg158
  z173 := Tryz.sizeOf158
  v173 := Tryz.zeroValue158
  t212 := Tryz.underlying171
  a212 := Tryz.isAgg171
  z212 := Tryz.sizeOf171
  v212 := Tryz.zeroValue171
  t213 := Tryz.underlying172
  a213 := Tryz.isAgg172
  z213 := Tryz.sizeOf172
  t232 := Tryz.underlying191
  a232 := Tryz.isAgg191
  z232 := Tryz.sizeOf191
  v232 := Tryz.zeroValue191
  t233 := Tryz.underlying192
  a233 := Tryz.isAgg192
  z233 := Tryz.sizeOf192
  v233 := Tryz.zeroValue192
  g17 := by kernel_rfl
  g18 := by kernel_rfl
  g19 := by kernel_rfl
  i0 := by kernel_rfl
  i2 := by kernel_rfl
  i3 := by kernel_rfl
  i4 := by kernel_rfl
  i5 := by kernel_rfl
  i9 := by kernel_rfl
  i20 := by kernel_rfl
  i37 := by kernel_rfl
  i46 := by kernel_rfl
  i51 := by kernel_rfl
  i53 := by kernel_rfl
  i171 := by kernel_rfl
  i173 := by kernel_rfl
  i212 := by kernel_rfl
  i232 := by kernel_rfl
  i233 := by kernel_rfl
  m17 := by kernel_rfl
  m18 := by kernel_rfl
  m19 := by kernel_rfl }
open Go.RowKit Go.Sort Go.Lib in
theorem Tryz.strconv_Itoa (n : Int) (h0 : -9223372036854775808 ≤ n) (h1 : n ≤ 9223372036854775807) (w : World) (htab : Lib.TabIs Tryz.prog w "internal/strconv.uint64pow10" .u64 Lib.pow10Tab) :
    Calls Tryz.prog 64 #[.int .i64 n] w fun e w' => e = .returned (.string ⟨(Lib.itoa n).toArray⟩) ∧ ∃ k os, w' = grow (w.drewN k) os := Any.strconv_Itoa Tryz.laysM171 n h0 h1 w htab
def Tryz.lays171_ren : Go.Shelf.Ren := ⟨fun | 171 => 64 | 243 => 91 | 246 => 118 | 283 => 114 | 284 => 115 | 285 => 116 | 286 => 117 | 129 => 112 | 317 => 136 | 318 => 137 | 319 => 138 | 320 => 139 | 337 => 156 | 338 => 157 | n => n, fun | 3 => 3 | 9 => 9 | 2 => 2 | 4 => 4 | 171 => 156 | 0 => 0 | 53 => 45 | 37 => 23 | 5 => 5 | 173 => 158 | 212 => 171 | 51 => 59 | 20 => 20 | 213 => 172 | 46 => 56 | 232 => 191 | 233 => 192 | n => n, fun | 17 => 2 | 18 => 5 | 19 => 6 | n => n⟩
theorem Tryz.lays171 : Go.Proofs.Lays.n171 Tryz.prog Tryz.lays171_ren := {
  mixed := by kernel_rfl
  f129 := Tryz.func112.trans (congrArg some (by kernel_rfl))
  f171 := Tryz.func64.trans (congrArg some (by kernel_rfl))
  f243 := Tryz.func91.trans (congrArg some (by kernel_rfl))
  f246 := Tryz.func118.trans (congrArg some (by kernel_rfl))
  f283 := Tryz.func114.trans (congrArg some (by kernel_rfl))
  f284 := Tryz.func115.trans (congrArg some (by kernel_rfl))
  f285 := Tryz.func116.trans (congrArg some (by kernel_rfl))
  f286 := Tryz.func117.trans (congrArg some (by kernel_rfl))
  f317 := Tryz.func136.trans (congrArg some (by kernel_rfl))
  f318 := Tryz.func137.trans (congrArg some (by kernel_rfl))
  f319 := Tryz.func138.trans (congrArg some (by kernel_rfl))
  f320 := Tryz.func139.trans (congrArg some (by kernel_rfl))
  f337 := Tryz.func156.trans (congrArg some (by kernel_rfl))
  f338 := Tryz.func157.trans (congrArg some (by kernel_rfl))
  t0 := Tryz.underlying0
  a0 := Tryz.isAgg0
  z0 := Tryz.sizeOf0
  v0 := Tryz.zeroValue0
  t2 := Tryz.underlying2
  a2 := Tryz.isAgg2
  z2 := Tryz.sizeOf2
  v2 := Tryz.zeroValue2
  t3 := Tryz.underlying3
  a3 := Tryz.isAgg3
  z3 := Tryz.sizeOf3
  v3 := Tryz.zeroValue3
  t4 := Tryz.underlying4
  a4 := Tryz.isAgg4
  z4 := Tryz.sizeOf4
  v4 := Tryz.zeroValue4
  t5 := Tryz.underlying5
  a5 := Tryz.isAgg5
  z5 := Tryz.sizeOf5
  v5 := Tryz.zeroValue5
  t9 := Tryz.underlying9
  a9 := Tryz.isAgg9
  z9 := Tryz.sizeOf9
  v9 := Tryz.zeroValue9
  t20 := Tryz.underlying20
  a20 := Tryz.isAgg20
  z20 := Tryz.sizeOf20
  v20 := Tryz.zeroValue20
  t37 := Tryz.underlying23
  a37 := Tryz.isAgg23
  z37 := Tryz.sizeOf23
  v37 := Tryz.zeroValue23
  t46 := Tryz.underlying56
  a46 := Tryz.isAgg56
  z46 := Tryz.sizeOf56
  v46 := Tryz.zeroValue56
  t51 := Tryz.underlying59
  a51 := Tryz.isAgg59
  z51 := Tryz.sizeOf59
  v51 := Tryz.zeroValue59
  t53 := Tryz.underlying45
  a53 := Tryz.isAgg45
  z53 := Tryz.sizeOf45
  v53 := Tryz.zeroValue45
  t171 := Tryz.underlying156
  a171 := Tryz.isAgg156
  z171 := Tryz.sizeOf156
  v171 := Tryz.zeroValue156
  t173 := Tryz.underlying158
  a173 := Tryz.isAgg158
  z173 := Tryz.sizeOf158
  v173 := Tryz.zeroValue158
  t212 := Tryz.underlying171
  a212 := Tryz.isAgg171
  z212 := Tryz.sizeOf171
  v212 := Tryz.zeroValue171
  t213 := Tryz.underlying172
  a213 := Tryz.isAgg172
  z213 := Tryz.sizeOf172
  t232 := Tryz.underlying191
  a232 := Tryz.isAgg191
  z232 := Tryz.sizeOf191
  v232 := Tryz.zeroValue191
  t233 := Tryz.underlying192
  a233 := Tryz.isAgg192
  z233 := Tryz.sizeOf192
  v233 := Tryz.zeroValue192
  g17 := by kernel_rfl
  g18 := by kernel_rfl
  g19 := by kernel_rfl }
open Go.RowKit Go.Sort Go.Lib in
theorem Tryz.strconv_Itoa_small (i : Nat) (hi : i < 100) (w : World) :
    Calls Tryz.prog 64 #[.int .i64 i] w fun e w' => e = .returned (.string ⟨(Lib.decDigits i).toArray⟩) ∧ w' = w := Any.strconv_Itoa_small Tryz.lays171 i hi w
def Tryz.lays138_ren : Go.Shelf.Ren := ⟨fun | 138 => 70 | 195 => 97 | 218 => 98 | 143 => 99 | 219 => 126 | 217 => 107 | 225 => 145 | 224 => 146 | 267 => 147 | 266 => 131 | 314 => 161 | n => n, fun | 9 => 9 | 3 => 3 | 4 => 4 | 5 => 5 | 0 => 0 | 46 => 56 | 146 => 185 | 51 => 59 | n => n, fun | 1 => 1 | n => n⟩
theorem Tryz.lays138 : Go.Proofs.Lays.n138 Tryz.prog Tryz.lays138_ren := {
  mixed := by kernel_rfl
  f138 := Tryz.func70.trans (congrArg some (by kernel_rfl))
  f143 := Tryz.func99.trans (congrArg some (by kernel_rfl))
  f195 := Tryz.func97.trans (congrArg some (by kernel_rfl))
  f217 := Tryz.func107.trans (congrArg some (by kernel_rfl))
  f218 := Tryz.func98.trans (congrArg some (by kernel_rfl))
  f219 := Tryz.func126.trans (congrArg some (by kernel_rfl))
  f224 := Tryz.func146.trans (congrArg some (by kernel_rfl))
  f225 := Tryz.func145.trans (congrArg some (by kernel_rfl))
  f266 := Tryz.func131.trans (congrArg some (by kernel_rfl))
  f267 := Tryz.func147.trans (congrArg some (by kernel_rfl))
  f314 := Tryz.func161.trans (congrArg some (by kernel_rfl))
  t0 := Tryz.underlying0
  a0 := Tryz.isAgg0
  z0 := Tryz.sizeOf0
  v0 := Tryz.zeroValue0
  t3 := Tryz.underlying3
  a3 := Tryz.isAgg3
  z3 := Tryz.sizeOf3
  v3 := Tryz.zeroValue3
  t4 := Tryz.underlying4
  a4 := Tryz.isAgg4
  z4 := Tryz.sizeOf4
  v4 := Tryz.zeroValue4
  t5 := Tryz.underlying5
  a5 := Tryz.isAgg5
  z5 := Tryz.sizeOf5
  v5 := Tryz.zeroValue5
  t9 := Tryz.underlying9
  a9 := Tryz.isAgg9
  z9 := Tryz.sizeOf9
  v9 := Tryz.zeroValue9
  t46 := Tryz.underlying56
  a46 := Tryz.isAgg56
  z46 := Tryz.sizeOf56
  v46 := Tryz.zeroValue56
  t51 := Tryz.underlying59
  a51 := Tryz.isAgg59
  z51 := Tryz.sizeOf59
  v51 := Tryz.zeroValue59
  t146 := Tryz.underlying185
  a146 := Tryz.isAgg185
  z146 := Tryz.sizeOf185
  v146 := Tryz.zeroValue185
  g1 := by kernel_rfl }
open Go.RowKit Go.Lib in
theorem Tryz.strings_Count_one (s : ByteArray) (c : UInt8) (w : World) :
    Calls Tryz.prog 70 #[.string s, .string ⟨#[c]⟩] w fun e w' => e = .returned (.int .i64 (Lib.countByte s.data.toList c)) ∧ w' = w := Any.strings_Count_one Tryz.lays138 s c w
def Tryz.lays149_ren : Go.Shelf.Ren := ⟨fun | 149 => 71 | 222 => 100 | n => n, fun | 9 => 9 | 5 => 5 | 3 => 3 | 4 => 4 | n => n, fun | n => n⟩
theorem Tryz.lays149 : Go.Proofs.Lays.n149 Tryz.prog Tryz.lays149_ren := {
  mixed := by kernel_rfl
  f149 := Tryz.func71.trans (congrArg some (by kernel_rfl))
  f222 := Tryz.func100.trans (congrArg some (by kernel_rfl))
  t3 := Tryz.underlying3
  a3 := Tryz.isAgg3
  z3 := Tryz.sizeOf3
  v3 := Tryz.zeroValue3
  t4 := Tryz.underlying4
  a4 := Tryz.isAgg4
  z4 := Tryz.sizeOf4
  v4 := Tryz.zeroValue4
  t5 := Tryz.underlying5
  a5 := Tryz.isAgg5
  z5 := Tryz.sizeOf5
  v5 := Tryz.zeroValue5
  t9 := Tryz.underlying9
  a9 := Tryz.isAgg9
  z9 := Tryz.sizeOf9
  v9 := Tryz.zeroValue9 }
open Go.RowKit Go.Lib in
theorem Tryz.strings_LastIndexByte (s : ByteArray) (c : Int) (hs : s.size < 4611686018427387904) (w : World) :
    Calls Tryz.prog 71 #[.string s, .int .u8 c] w fun e w' => e = .returned (.int .i64 (Lib.lastIndexByte s c)) ∧ w' = w := Any.strings_LastIndexByte Tryz.lays149 s c hs w
end Go.Proofs


namespace Go.Proofs.YtcmohijjpnebpaaGreatDoor

open Go.RowKit

set_option maxRecDepth 50000 in
set_option maxHeartbeats 1000000 in
theorem anumber_any (base p : Nat) (O : Nat → Prop) (s : ASt) (g : Int) (w : World) (h : St base p O w s) :
    Calls Tryz.prog 159 #[.pointer (some ⟨p, 0, none⟩), .int .u64 g] w (MEnd base p O w s (fun v => .int .u64 v) (aNumber g s)) := by
  have HTK := Lib.hid (atake_any base p O s 2 w h (by decide))
  have HD : Hid (aNumber g s = (aTake 2 s).bind fun t s1 => if g < t.value then thrAt t 6 else .ok t.value s1) := Lib.hid rfl
  have HBB := Lib.hid h.lo
  generalize aNumber g s = q at *
  generalize aTake 2 s = r at *
  clear h
  rcases r with ⟨t, s1⟩ | ⟨l, c, x⟩
  · have HTH := Lib.hid fun W => throw_any t 6 W
    by_cases hg : g < t.value
    · have HQ : Hid (q = thrAt t 6) := Lib.hid (by rw [HD.out]; show (if g < t.value then _ else _) = _; rw [if_pos hg])
      have f1 : decide (g < t.value) = true := by simp [hg]
      clear HD
      obtain ⟨tk, tt, tv, tl, tc⟩ := t
      simp only [GTok.tval] at *
      go_enter Tryz.func159, Tryz.ntmps159
      go_wp2_with fail
      go_fit HTK.out
      rintro e w1 ⟨he, hmu, O1, hst1, hf1⟩
      simp only [GTok.tval] at he
      subst he
      have HF := Lib.hid (hf1.bel HBB.out.1 HBB.out.2.2)
      have HL1 := Lib.hid hst1.lo
      clear hmu hst1 hf1
      go_wp2_with fail
      go_fit (HTH.out _)
      rintro e w2 ⟨rfl, hb2⟩
      have HB2 := Lib.hid (HF.out.trans ((bel_alloc (Below.refl _ w1) hb2).mono HL1.out.2.2))
      clear hb2
      go_wp2
      refine ⟨rfl, ?_⟩
      rw [HQ.out]
      exact ⟨rfl, HB2.out⟩
    · have HQ : Hid (q = .ok t.value s1) := Lib.hid (by rw [HD.out]; show (if g < t.value then _ else _) = _; rw [if_neg hg])
      have f1 : decide (g < t.value) = false := by simp [hg]
      clear HD
      obtain ⟨tk, tt, tv, tl, tc⟩ := t
      simp only [GTok.tval] at *
      go_enter Tryz.func159, Tryz.ntmps159
      go_wp2_with fail
      go_fit HTK.out
      rintro e w1 ⟨he, hmu, O1, hst1, hf1⟩
      simp only [GTok.tval] at he
      subst he
      have HST := Lib.hid hst1
      have HF := Lib.hid hf1
      have HM := Lib.hid hmu
      clear hst1 hf1 hmu
      go_wp2
      go_ret
      rw [HQ.out]
      exact ⟨rfl, HM.out, O1, HST.out.lit _, HF.out.lit _⟩
  · have HQ : Hid (q = .thr l c x) := Lib.hid HD.out
    go_enter Tryz.func159, Tryz.ntmps159
    go_wp2_with fail
    go_fit HTK.out
    rintro e w1 ⟨rfl, hb1⟩
    have HB1 := Lib.hid hb1
    clear hb1
    go_wp2
    refine ⟨rfl, ?_⟩
    rw [HQ.out]
    exact ⟨rfl, HB1.out⟩
set_option maxRecDepth 50000 in
set_option maxHeartbeats 1000000 in
theorem comma_any (base p : Nat) (O : Nat → Prop) (s : ASt) (i : Nat) (w : World) (h : St base p O w s) :
    Calls Tryz.prog 141 #[.pointer (some ⟨p, 0, none⟩), .int .i64 i] w (MEnd base p O w s (fun _ => .tuple #[]) (aComma i s)) := by
  have HS := Lib.hid h
  have HMK := Lib.hid (amark_any base p O s [44] w h)
  have HD : Hid (aComma i s = if 0 < i then aMark [44] s else .ok () s) := Lib.hid rfl
  generalize aComma i s = q at *
  generalize aMark [44] s = r at *
  clear h
  by_cases hi : 0 < i
  · have HQ : Hid (q = r) := Lib.hid (by rw [HD.out, if_pos hi])
    have f1 : decide ((0 : Int) < i) = true := by simp; omega
    rcases r with ⟨u, s1⟩ | ⟨l, c, x⟩
    · go_enter Tryz.func141, Tryz.ntmps141
      go_wp2_with fail
      go_fit HMK.out
      rintro e w1 ⟨rfl, hmu, O1, hst1, hf1⟩
      have HST := Lib.hid hst1
      have HF := Lib.hid hf1
      have HM := Lib.hid hmu
      clear hst1 hf1 hmu
      go_wp2
      go_end0
      rw [HQ.out]
      exact ⟨rfl, HM.out, O1, HST.out, HF.out⟩
    · go_enter Tryz.func141, Tryz.ntmps141
      go_wp2_with fail
      go_fit HMK.out
      rintro e w1 ⟨rfl, hb1⟩
      have HB1 := Lib.hid hb1
      clear hb1
      go_wp2
      refine ⟨rfl, ?_⟩
      rw [HQ.out]
      exact ⟨rfl, HB1.out⟩
  · have HQ : Hid (q = .ok () s) := Lib.hid (by rw [HD.out, if_neg hi])
    obtain rfl : i = 0 := by omega
    go_enter Tryz.func141, Tryz.ntmps141
    go_wp2
    go_end0
    rw [HQ.out]
    exact ⟨rfl, Nat.le_refl _, O, HS.out, Fr.refl _ _⟩
theorem regW_eq {n : Nat} (h : n < 16) : regW n = 114 :: Lib.decDigits n := by
  have : ∀ n : Fin 16, regW n = 114 :: Lib.decDigits n := by decide +kernel
  exact this ⟨n, h⟩
theorem regW_len {n : Nat} (h : n < 16) : (Lib.decDigits n).length ≤ 2 := by
  have : ∀ n : Fin 16, (Lib.decDigits n).length ≤ 2 := by decide +kernel
  exact this ⟨n, h⟩
theorem registerWord_any (n : Nat) (hn : n < 16) (w : World) : Calls Tryz.prog 65 #[.int .i64 n] w fun e w' => e = .returned (.string ⟨(regW n).toArray⟩) ∧ w = w' := by
  have HI := Lib.hid (Tryz.strconv_Itoa_small n (by omega) w)
  have HE := Lib.hid (regW_eq hn)
  have hl := regW_len hn
  generalize Lib.decDigits n = d at *
  generalize regW n = r at *
  have hsz : (⟨d.toArray⟩ : ByteArray).size = d.length := by rw [ByteArray.size]; simp
  go_enter Tryz.func65, Tryz.ntmps65
  go_wp2_with fail
  go_fit HI.out
  rintro e w1 ⟨rfl, hww⟩
  obtain rfl : w = w1 := hww.symm
  go_wp2
  go_ret
  refine ⟨?_, rfl⟩
  rw [HE.out]
  show Ending.returned (.string (⟨#[114]⟩ ++ ⟨d.toArray⟩)) = _
  congr 2
set_option maxRecDepth 50000 in
set_option maxHeartbeats 1000000 in
theorem register_any (s : List UInt8) (w : World) : Calls Tryz.prog 122 #[.string ⟨s.toArray⟩] w fun e w' => e = .returned (.tuple #[.int .i64 ((regNo s).getD 0 : Nat), .bool (regNo s).isSome]) ∧ Below w.heap.size w w' := by
  have HD : Hid (regNo s = firstN (fun n => decide (regW n = s)) 0 16) := Lib.hid rfl
  generalize regNo s = q at *
  have HR := Lib.hid fun (n : Nat) (hn : n < 16) W => registerWord_any n hn W
  go_enter Tryz.func122, Tryz.ntmps122
  go_wp2
  go_loopw [5] (fun vi wr => ∃ k : Nat, vi = .int .i64 k ∧ k ≤ 16 ∧ Hid (q = firstN (fun n => decide (regW n = s)) k (16 - k)) ∧ Hid (Below w.heap.size w wr)) (fun vi _ => 16 - (intOf vi).toNat)
  case atStart => exact ⟨0, rfl, by omega, HD, Lib.hid (Below.refl _ _)⟩
  case round =>
    obtain ⟨k, rfl, hk, HT, HB⟩ := hrel
    by_cases hlt : k < 16
    · have hs := firstN_step (f := fun n => decide (regW n = s)) hlt
      have HQ : Hid (q = if decide (regW k = s) then some k else firstN (fun n => decide (regW n = s)) (k + 1) (16 - (k + 1))) := Lib.hid (by rw [HT.out, hs])
      have HW := Lib.hid fun W => HR.out k hlt W
      have f0 : decide ((k : Int) < 16) = true := by simp; omega
      clear hs HT HD
      generalize hrw : regW k = rw at *
      by_cases he : rw = s
      · have f1 : (rw == s) = true := by simp [he]
        have HE : Hid (q = some k) := Lib.hid (by rw [HQ.out, if_pos (by simp [he])])
        have HH := Lib.hid he
        clear he
        go_wp2_with fail
        go_fit (HW.out _)
        rintro e w2 ⟨rfl, hww⟩
        obtain rfl := hww
        go_wp2
        refine bodyPost_ret (v := .tuple #[.int .i64 k, .bool true]) (by simp [results, Tryz.results122, go_sem]) rfl ?_
        rw [HE.out]
        exact ⟨rfl, HB.out⟩
      · have f1 : (rw == s) = false := by simp [he]
        have HE : Hid (q = firstN (fun n => decide (regW n = s)) (k + 1) (16 - (k + 1))) := Lib.hid (by rw [HQ.out, if_neg (by simp [he])])
        go_wp2_with fail
        go_fit (HW.out _)
        rintro e w2 ⟨rfl, hww⟩
        obtain rfl := hww
        go_wp2
        go_round
        case rel => exact ⟨k + 1, by go_num, by omega, HE, HB⟩
        case measure => simp [intOf]; omega
    · obtain rfl : k = 16 := by omega
      have HE : Hid (q = none) := Lib.hid (by rw [HT.out]; rfl)
      go_wp2
      refine bodyPost_ret (v := .tuple #[.int .i64 0, .bool false]) (by simp [results, Tryz.results122, go_sem]) rfl ?_
      rw [HE.out]
      exact ⟨rfl, HB.out⟩
end Go.Proofs.YtcmohijjpnebpaaGreatDoor


namespace Go.Proofs.YtcmohijjpnebpaaGreatDoor

open Go.RowKit Go.Shelf

theorem below_of_own {w w1 w2 : World} {q : Option Nat} (h : Below w.heap.size w w1) (h2 : w1.grownBy w2 q) (hq : ∀ g, q = some g → w.heap.size ≤ g) : Below w.heap.size w w2 := h.grown h2 h.size hq
theorem OwnG.base {α : Type} {enc : α → List Value} {T : TypeId} {k : Nat} {w : World} {b b' : Nat} {v : Value} {l : List α} (h : OwnG enc T k w b v l) (hb : b' ≤ b) : OwnG enc T k w b' v l := by
  refine ⟨h.1, ?_⟩
  rcases h.2 with hh | ⟨g, c, cur, e1, hbs, rest⟩
  · exact .inl hh
  · exact .inr ⟨g, c, cur, e1, by omega, rest⟩
theorem GTok.len5 (t : GTok) : t.cells.length = 5 := rfl
theorem elt_tok : Elt 42 47 5 48 := Elt.of (.agg #[.int .i64 0, .string ⟨#[]⟩, .int .u64 0, .int .i64 0, .int .i64 0]) Tryz.underlying42 (by kernel_rfl) rfl (by decide)
theorem GRow.lit {α : Type} {enc : α → List Value} {k : Nat} (hk : ∀ x, (enc x).length = k) (w : World) (T : TypeId) (xs : List α) (cs : Array Value) (hcs : cs.toList = gcells enc xs) (hm : xs.length ≤ maxLen) :
    GRow enc k (w.alloc (.cells cs T)) (w.alloc (.cells cs T)).heap.size (some ⟨w.heap.size, 0, none⟩) xs := by
  obtain ⟨A, cap, e, _, _, hr⟩ := (OwnG.lit (T := T) hk w w.heap.size xs cs hcs (Nat.le_refl _) hm).row hk
  cases e; exact hr
theorem gb_lit {p : Option Nat} {w w1 : World} (h : w.grownBy w1 p) (o : Obj) : w.grownBy (w1.alloc o) p :=
  ⟨h.os, h.tape, h.output, by have := h.size; simp; omega, fun k hk hne => (Below.heap_alloc w1 o k (by have := h.size; omega)).trans (h.block k hk hne)⟩
def TokB (n : Nat) (kd : Nat) (tx : List UInt8) (v : Nat) : Prop := (kd = 1 ∨ kd = 2 ∨ kd = 3 ∨ kd = 4) ∧ v < 18446744073709551616 ∧ tx.length ≤ n
theorem digits_lt {b s : Nat} {l : List UInt8} {v : Nat} (h : digits b s l = .val v) : v < 18446744073709551616 := by
  unfold digits at h
  split at h
  · cases h
  · split at h
    · injection h with h; omega
    · cases h
theorem num_lt {l : List UInt8} {v : Nat} (h : num l = .val v) : v < 18446744073709551616 := by
  unfold num at h
  simp only at h
  split at h
  · exact digits_lt h
  · split at h
    · cases h
    · exact digits_lt h
theorem first_tokB {l : List UInt8} {kd v n : Nat} {tx : List UInt8} (h : first l = .tok kd tx v n) : TokB l.length kd tx v := by
  cases l with
  | nil => cases h
  | cons c r =>
    unfold first at h
    simp only at h
    split at h
    · split at h
      · cases h
      · cases h
      · rename_i hv
        injection h with h1 h2 h3 h4
        subst h1 h2 h3
        exact ⟨.inr (.inl rfl), num_lt hv, by simp⟩
    · split at h
      · injection h with h1 h2 h3 h4
        subst h1 h2 h3
        exact ⟨.inl rfl, by omega, by rw [List.length_take]; omega⟩
      · split at h
        · unfold quoted at h
          split at h
          · injection h with h1 h2 h3 h4
            subst h1 h2 h3
            exact ⟨.inr (.inr (.inl rfl)), by omega, by rw [List.length_take]; simp; omega⟩
          · cases h
        · unfold marked at h
          split at h
          · injection h with h1 h2 h3 h4
            subst h1 h2 h3
            exact ⟨.inr (.inr (.inr rfl)), by omega, by rw [List.length_take]; omega⟩
          · split at h
            · injection h with h1 h2 h3 h4
              subst h1 h2 h3
              exact ⟨.inr (.inr (.inr rfl)), by omega, by rw [List.length_take]; omega⟩
            · cases h
theorem step_tokB {l : List UInt8} {kd v n : Nat} {tx : List UInt8} (h : step l = .tok kd tx v n) : TokB l.length kd tx v := by
  cases l with
  | nil => cases h
  | cons c r =>
    unfold step at h
    simp only at h
    split at h
    · cases h
    · split at h
      · cases h
      · exact first_tokB h
theorem lex_tokB : ∀ (l : List UInt8) (k : Nat) (p : Nat × Nat) (ts : List Tok), lex k p l = .ok ts → ∀ t ∈ ts, TokB l.length t.kind t.text t.value
  | [], k, p, ts, h => by
    rw [lex_nil] at h
    injection h with h
    subst h
    intro t ht
    cases ht
  | c :: r, k + 1, p, ts, h => by
    rw [lex] at h
    intro t ht
    obtain ⟨h1, h2, h3⟩ := lex_tokB r k _ ts h t ht
    exact ⟨h1, h2, by simp; omega⟩
  | c :: r, 0, p, ts, h => by
    rw [lex] at h
    cases hs : step (c :: r) with
    | skip n =>
      rw [hs] at h
      intro t ht
      obtain ⟨h1, h2, h3⟩ := lex_tokB r _ _ ts h t ht
      exact ⟨h1, h2, by simp; omega⟩
    | tok kd tx v n =>
      rw [hs] at h
      simp only at h
      cases hl : lex (n - 1) (adv1 p c) r with
      | ok us =>
        rw [hl] at h
        injection h with h
        subst h
        intro t ht
        rcases List.mem_cons.1 ht with rfl | ht
        · exact step_tokB hs
        · obtain ⟨h1, h2, h3⟩ := lex_tokB r _ _ us hl t ht
          exact ⟨h1, h2, by simp; omega⟩
      | no x y e => rw [hl] at h; cases h
    | err e => rw [hs] at h; cases h
theorem scan_tokB {l : List UInt8} {ts : List Tok} (h : scan l = .ok ts) : l.length ≤ 65536 ∧ ∀ t ∈ ts, TokW t.g := by
  unfold scan at h
  split at h
  · cases h
  · refine ⟨by omega, fun t ht => ?_⟩
    obtain ⟨h1, h2, h3⟩ := lex_tokB l 0 _ ts h t ht
    refine ⟨?_, ?_, ?_, ?_⟩
    · show (t.kind : Int) = 1 ∨ (t.kind : Int) = 2 ∨ (t.kind : Int) = 3 ∨ (t.kind : Int) = 4
      omega
    · show (0 : Int) ≤ (t.value : Int)
      omega
    · show (t.value : Int) ≤ 18446744073709551615
      omega
    · show t.text.length ≤ 65536
      omega
theorem first_err {l : List UInt8} {e : Nat} (h : first l = .err e) : e = 50 ∨ e = 6 := by
  cases l with
  | nil => injection h with h; omega
  | cons c r =>
    unfold first at h
    simp only at h
    split at h
    · split at h
      · injection h with h; omega
      · injection h with h; omega
      · cases h
    · split at h
      · cases h
      · split at h
        · unfold quoted at h
          split at h
          · cases h
          · injection h with h; omega
        · unfold marked at h
          split at h
          · cases h
          · split at h
            · cases h
            · injection h with h; omega
theorem lex_err : ∀ (l : List UInt8) (k : Nat) (p : Nat × Nat) (x y e : Nat), lex k p l = .no x y e → e = 50 ∨ e = 6
  | [], k, p, x, y, e, h => by rw [lex_nil] at h; cases h
  | c :: r, k + 1, p, x, y, e, h => by
    rw [lex] at h
    exact lex_err r k _ x y e h
  | c :: r, 0, p, x, y, e, h => by
    rw [lex] at h
    cases hs : step (c :: r) with
    | skip n => rw [hs] at h; exact lex_err r _ _ x y e h
    | tok kd tx v n =>
      rw [hs] at h
      simp only at h
      cases hl : lex (n - 1) (adv1 p c) r with
      | ok us => rw [hl] at h; cases h
      | no x' y' e' =>
        rw [hl] at h
        injection h with h1 h2 h3
        subst h3
        exact lex_err r _ _ x' y' e' hl
    | err e' =>
      rw [hs] at h
      injection h with h1 h2 h3
      subst h3
      unfold step at hs
      simp only at hs
      split at hs
      · cases hs
      · split at hs
        · cases hs
        · exact first_err hs
theorem scan_err {l : List UInt8} {x y e : Nat} (h : scan l = .no x y e) : e = 15 ∨ e = 50 ∨ e = 6 := by
  unfold scan at h
  split at h
  · injection h with h1 h2 h3; omega
  · exact .inr (lex_err l 0 _ x y e h)
/-- The token behind the last. -/
def endTok (l : List UInt8) : GTok := ⟨0, [], 0, (adv (1, 1) l).1, (adv (1, 1) l).2⟩
theorem ends_of : ∀ (gs : List GTok) (e : GTok), (∀ g ∈ gs, TokW g) → e.kind = 0 → e.text = [] → TEnds (gs ++ [e])
  | [], e, _, h1, h2 => ⟨h1, h2⟩
  | [g], e, h, h1, h2 => ⟨h g (by simp), h1, h2⟩
  | g :: g2 :: gs, e, h, h1, h2 => ⟨h g (by simp), ends_of (g2 :: gs) e (fun x hx => h x (List.mem_cons_of_mem _ hx)) h1 h2⟩
theorem scan_ends {l : List UInt8} {ts : List Tok} (h : scan l = .ok ts) : TEnds (ts.map Tok.g ++ [endTok l]) :=
  ends_of _ _ (fun g hg => by
    obtain ⟨t, ht, rfl⟩ := List.mem_map.1 hg
    exact (scan_tokB h).2 t ht) rfl rfl
theorem adv_end (l : List UInt8) : ∀ k, k ≤ l.length → ((adv (1, 1) (l.take k)).1 : Int) = 1 + ((l.take k).count 10 : Nat) ∧ ((adv (1, 1) (l.take k)).2 : Int) = k - Lib.lastIdx ⟨l.toArray⟩ 10 k
  | 0, _ => by simp [adv, Lib.lastIdx]
  | k + 1, hk => by
    obtain ⟨h1, h2⟩ := adv_end l k (by omega)
    have hlt : k < l.length := by omega
    rw [adv_step hlt, List.take_succ_eq_append_getElem hlt, List.count_append]
    have e2 : Lib.lastIdx ⟨l.toArray⟩ 10 (k + 1) = if ((l[k]).toNat : Int) = 10 then (k : Int) else Lib.lastIdx ⟨l.toArray⟩ 10 k := by
      show (if (((⟨l.toArray⟩ : ByteArray).data[k]!).toNat : Int) = 10 then (k : Int) else Lib.lastIdx ⟨l.toArray⟩ 10 k) = _
      have e3 : (⟨l.toArray⟩ : ByteArray).data[k]! = l[k] := by simp [hlt]
      rw [e3]
    rw [e2]
    generalize adv (1, 1) (l.take k) = q at *
    obtain ⟨x, y⟩ := q
    unfold adv1
    by_cases hc : l[k] = 10
    · have hn : ((l[k]).toNat : Int) = 10 := by rw [hc]; rfl
      rw [if_pos hc, if_pos hn, hc]
      simp at h1 h2 ⊢
      omega
    · have hn : ¬ ((l[k]).toNat : Int) = 10 := fun e => hc (UInt8.toNat_inj.1 (by show (l[k]).toNat = 10; omega))
      rw [if_neg hc, if_neg hn]
      have h0 : [l[k]].count 10 = 0 := by simp [hc]
      rw [h0]
      simp at h1 h2 ⊢
      omega
theorem lex_count : ∀ (l : List UInt8) (k : Nat) (p : Nat × Nat) (ts : List Tok), lex k p l = .ok ts → ts.length ≤ l.length
  | [], k, p, ts, h => by
    rw [lex_nil] at h
    injection h with h
    subst h
    simp
  | c :: r, k + 1, p, ts, h => by
    rw [lex] at h
    have := lex_count r k _ ts h
    simp; omega
  | c :: r, 0, p, ts, h => by
    rw [lex] at h
    cases hs : step (c :: r) with
    | skip n =>
      rw [hs] at h
      have := lex_count r _ _ ts h
      simp; omega
    | tok kd tx v n =>
      rw [hs] at h
      simp only at h
      cases hl : lex (n - 1) (adv1 p c) r with
      | ok us =>
        rw [hl] at h
        injection h with h
        subst h
        have := lex_count r _ _ us hl
        simp; omega
      | no x y e => rw [hl] at h; cases h
    | err e => rw [hs] at h; cases h
theorem scan_count {l : List UInt8} {ts : List Tok} (h : scan l = .ok ts) : ts.length ≤ 65536 := by
  have h0 := (scan_tokB h).1
  unfold scan at h
  rw [if_neg (by omega)] at h
  have := lex_count l 0 _ ts h
  omega
theorem endPos_any (l : List UInt8) (w : World) (hl : l.length ≤ 65536) :
    Calls Tryz.prog 44 #[.string ⟨l.toArray⟩] w fun e w' => e = .returned (.agg #[.int .i64 (endTok l).line, .int .i64 (endTok l).col]) ∧ Below w.heap.size w w' := by
  have hsz : (⟨l.toArray⟩ : ByteArray).size = l.length := ba_size l
  have H1 := Lib.hid (Tryz.strings_Count_one ⟨l.toArray⟩ 10)
  have H2 := Lib.hid (Tryz.strings_LastIndexByte ⟨l.toArray⟩ 10 (by rw [hsz]; omega))
  obtain ⟨a1, a2⟩ := adv_end l l.length (Nat.le_refl _)
  rw [List.take_length] at a1 a2
  have hbd := adv_bd l (1, 1) (by omega) (by omega)
  have e1 : (Lib.countByte (⟨l.toArray⟩ : ByteArray).data.toList 10 : Int) = (adv (1, 1) l).1 - 1 := by
    show ((l.count 10 : Nat) : Int) = _
    omega
  have e2 : Lib.lastIndexByte ⟨l.toArray⟩ 10 = (l.length : Int) - (adv (1, 1) l).2 := by
    unfold Lib.lastIndexByte
    rw [hsz]
    omega
  rw [e1] at H1
  rw [e2] at H2
  have HE : Hid (endTok l = ⟨0, [], 0, (adv (1, 1) l).1, (adv (1, 1) l).2⟩) := Lib.hid rfl
  clear a1 a2 e1 e2
  have hx : (adv (1, 1) l).1 ≤ 65537 := by simp at hbd; omega
  have hy : (adv (1, 1) l).2 ≤ 65537 := by simp at hbd; omega
  generalize (adv (1, 1) l).1 = x at *
  generalize (adv (1, 1) l).2 = y at *
  have w1 : wrap64 (1 + ((x : Int) - 1)) = x := by unfold wrap64; omega
  have w2 : wrap64 ((l.length : Int) - ((l.length : Int) - (y : Int))) = y := by unfold wrap64; omega
  generalize hc1 : (x : Int) - 1 = c1 at *
  generalize hc2 : (l.length : Int) - (y : Int) = c2 at *
  have W1 := Lib.hid w1
  have W2 := Lib.hid w2
  clear hc1 hc2 hbd w1 w2
  go_enter Tryz.func44, Tryz.ntmps44
  go_wp2_with fail
  refine (H1.out _).mono ?_
  rintro e w1 ⟨rfl, rfl⟩
  go_wp2_with fail
  refine (H2.out _).mono ?_
  rintro e w1 ⟨rfl, rfl⟩
  go_wp2
  have q1 : wrap64 (1 + c1) = x := W1.out
  have q2 : wrap64 ((l.length : Int) - c2) = y := W2.out
  exact bodyPost_ret (v := .agg #[.int .i64 (wrap64 (1 + c1)), .int .i64 (wrap64 ((l.length : Int) - c2))]) (by simp [results, Tryz.results44, go_sem]) rfl ⟨by rw [HE.out, q1, q2], bel_lit (Below.refl _ _) _⟩
end Go.Proofs.YtcmohijjpnebpaaGreatDoor
