/-
  The law IsaImmediates returns true, whatever the number.
  Conditions: the listed variables lie as the program's start lays them.
  What the row's listed variables give the walk of IsaImmediates: the table of powers of ten besides.
  Conditions: none.
-/
import Derived.Test.YtcmohijjpnebpaaGreatDoorMb14
import Derived.Test.YtcmohijjpnebpaaGreatDoorMb15
import Derived.Test.YtcmohijjpnebpaaGreatDoorMb21
import Derived.Test.YtcmohijjpnebpaaGreatDoorMb24
import Derived.Test.YtcmohijjpnebpaaGreatDoorMb7
import Derived.Lib.LaidTab
namespace Go.Proofs.YtcmohijjpnebpaaGreatDoor
open Go.RowKit Go.Shelf

def GlobP (w : World) : Prop := GlobI w ∧ Pow w
theorem GlobP.next {w w' : World} (h : GlobP w) (hb : Below w.heap.size w w') : GlobP w' := ⟨h.1.next hb, h.2.next hb⟩

/-- One number, formatted. -/
theorem format_num (x : Nat) (hx : x < 18446744073709551616) (ty : TypeId) (w : World) (hP : Pow w) :
    Calls Tryz.prog 25 #[.slice (some ⟨w.heap.size, 0, none⟩) 1 1] (w.alloc (.cells #[.int .i64 2, .string ⟨#[]⟩, .int .u64 (x : Int), .int .i64 0, .int .i64 0] ty)) fun e w' => e = .returned (.string ⟨(decL x).toArray⟩) ∧ Below w.heap.size w w' := by
  have hb : Below w.heap.size w (w.alloc (.cells #[.int .i64 2, .string ⟨#[]⟩, .int .u64 (x : Int), .int .i64 0, .int .i64 0] ty)) := bel_lit (Below.refl _ w) _
  have hrow : TRow (w.alloc (.cells #[.int .i64 2, .string ⟨#[]⟩, .int .u64 (x : Int), .int .i64 0, .int .i64 0] ty)) (w.alloc (.cells #[.int .i64 2, .string ⟨#[]⟩, .int .u64 (x : Int), .int .i64 0, .int .i64 0] ty)).heap.size (some ⟨w.heap.size, 0, none⟩) [⟨2, [], x, 0, 0⟩] := fun _ => by
    refine ⟨w.heap.size, 0, rfl, by simp, fun i h j u hu => ?_⟩
    obtain rfl : i = 0 := by simp at h; omega
    have hh := heap_alloc_new w (.cells #[.int .i64 2, .string ⟨#[]⟩, .int .u64 (x : Int), .int .i64 0, .int .i64 0] ty)
    rw [show 0 + (0 * 5 + j) = j by omega, Lib.cell_of_heap hh]
    simpa [GTok.cells] using hu
  have h := format_any [⟨2, [], x, 0, 0⟩] (some ⟨w.heap.size, 0, none⟩) 1 _ hrow ⟨by simp, by intro t ht; simp at ht; subst ht; simp; omega⟩ (hP.next hb)
  have he : fmtL [⟨2, [], (x : Int), 0, 0⟩] = decL x := by simp [fmtL, wf, joinT, tailT, txt]
  rw [he] at h
  refine h.mono ?_
  rintro e w' ⟨rfl, h2⟩
  exact ⟨rfl, bel_next hb h2⟩
theorem text_put (sg : Bool) (S : List UInt8) : ((⟨#[108, 105, 32, 114, 51, 44, 32]⟩ : ByteArray) ++ (if sg then ⟨#[45]⟩ else ⟨#[]⟩) ++ ⟨S.toArray⟩ ++ ⟨#[59]⟩ : ByteArray) = ⟨(imT sg S).toArray⟩ := by
  apply ByteArray.ext
  cases sg <;> simp [ByteArray.data_append, imT]
theorem asm_ok9 (sg : Bool) (S : List UInt8) (x : Nat) (h : Numl S x) (hx : x ≤ if sg then 2147483648 else 2147483647) (W : World) (hG : GlobP W) :
    Calls Tryz.prog 20 #[.string ⟨(imT sg S).toArray⟩] W fun e w' => ∃ g c, e = .returned (.tuple #[.slice (some ⟨g, 0, none⟩) 1 c, .agg #[.int .i64 0, .int .i64 0], .int .i64 0]) ∧ 1 ≤ c ∧ W.heap.size ≤ g ∧ g < w'.heap.size ∧ (w'.cell? ⟨g, 0, none⟩ = some (.int .i64 1) ∧ w'.cell? ⟨g, 1, none⟩ = some (.int .i64 3) ∧ w'.cell? ⟨g, 2, none⟩ = some (.int .i64 0) ∧ w'.cell? ⟨g, 3, none⟩ = some (.int .i64 0) ∧ w'.cell? ⟨g, 4, none⟩ = some (.int .i32 (if sg then -x else x))) ∧ Below W.heap.size W w' := by
  obtain ⟨s, hs, hp⟩ := imm_ok h sg hx
  have hl := h.len
  have ha := asm_any (imT sg S) W (by unfold imT maxLen; cases sg <;> simp <;> omega) hG.1.1 hG.1.2
  rw [hs] at ha
  refine ha.mono ?_
  intro e w' hE
  obtain ⟨pv, rfl, hown, hb⟩ := hE
  rw [hp] at hown
  obtain ⟨A1, c1, hv, hcap1, _, hrow⟩ := hown.row GIns.len
  subst hv
  obtain ⟨g, c9, ev9⟩ : ∃ g c9, Value.slice A1 1 c1 = .slice (some ⟨g, 0, none⟩) 1 c9 := by
    rcases hown.2 with ⟨_, h0⟩ | ⟨g, cap, cur, e, _⟩
    · simp at h0
    · exact ⟨g, cap, e⟩
  injection ev9 with ea _ ec
  subst ea ec
  have hg1 := (hown.lt g rfl).1
  have hg2 := (hown.lt g rfl).2
  obtain ⟨b0, o0, e0, hb0, x0, x1, x2, x3, x4⟩ := hrow.ins (k := 0) (by simp)
  cases e0
  exact ⟨g, c1, rfl, hcap1, hg1, hg2, ⟨x0, x1, x2, x3, x4⟩, hb⟩
theorem asm_big9 (sg : Bool) (S : List UInt8) (x : Nat) (h : Numl S x) (hx : (if sg then 2147483648 else 2147483647) < x) (W : World) (hG : GlobP W) :
    Calls Tryz.prog 20 #[.string ⟨(imT sg S).toArray⟩] W fun e w' => e = .returned (.tuple #[.slice none 0 0, .agg #[.int .i64 1, .int .i64 (if sg then 9 else 8)], .int .i64 6]) ∧ Below W.heap.size W w' := by
  have hl := h.len
  have ha := asm_any (imT sg S) W (by unfold imT maxLen; cases sg <;> simp <;> omega) hG.1.1 hG.1.2
  rw [imm_big h sg hx] at ha
  refine ha.mono ?_
  intro e w' hE
  obtain ⟨rfl, hb⟩ := hE
  refine ⟨?_, hb⟩
  cases sg <;> rfl
-- WALKS
set_option maxRecDepth 50000 in
set_option maxHeartbeats 2000000 in
theorem pos_dec (v : Int) (x : Nat) (hvx : v = x) (hx : x < 9223372036854775808) (w : World) (hG : GlobP w) :
    Calls Tryz.prog 9 #[.int .i64 v, .bool false] w fun e w' => e = .returned (.bool true) ∧ Below w.heap.size w w' := by
  have HG := Lib.hid hG
  have HAW := Lib.hid fun W hW => awake9 W hW
  have hx1 : x < 18446744073709551616 := by omega
  have HF := Lib.hid fun ty => format_num x hx1 ty w hG.2
  have hv0 : ¬ v < 0 := by omega
  have hcv : IntKind.u64.wrap v = (x : Int) := by rw [IntKind.wrap_u64]; omega
  have HVX := Lib.hid hvx
  have HNU := Lib.hid (numl_dec x hx1)
  have hcat : ((⟨#[108, 105, 32, 114, 51, 44, 32]⟩ : ByteArray) ++ ⟨#[]⟩ ++ ⟨(decL x).toArray⟩ ++ ⟨#[59]⟩ : ByteArray) = ⟨(imT false (decL x)).toArray⟩ := text_put false (decL x)
  clear hG hvx
  go_enter Tryz.func9, Tryz.ntmps9
  go_wp2_with fail
  go_fit (HF.out _)
  rintro e w1 ⟨rfl, hb1⟩
  have HB1 := Lib.hid hb1
  clear hb1 HF
  have hSl : (decL x).length ≤ 20 := (isDec x hx1).len
  generalize decL x = S at *
  by_cases hbig : 2147483647 < x
  · have HAS := Lib.hid fun W hW => asm_big9 false _ x HNU.out (by simpa using hbig) W hW
    have hr1 : 2147483648 ≤ v := by have := HVX.out; omega
    clear hbig
    go_wp2_with fail
    go_fit (HAS.out _ (HG.out.next HB1.out))
    rintro e w2 ⟨rfl, hb2⟩
    have HB2 := Lib.hid (bel_next HB1.out hb2)
    clear hb2 HAS
    go_wp2_with fail
    go_fit (HAW.out _ (HG.out.next (bel_lit HB2.out _)).1)
    rintro e w3 ⟨rfl, hb3⟩
    have HB3 := Lib.hid (bel_next (bel_lit HB2.out _) hb3)
    clear hb3
    go_wp2
    go_ret
    exact ⟨rfl, HB3.out⟩
  · have HAS := Lib.hid fun W hW => asm_ok9 false _ x HNU.out (by simp; omega) W hW
    have hr0 : ¬ v < -2147483648 := by have := HVX.out; omega
    have hr1 : ¬ 2147483648 ≤ v := by have := HVX.out; omega
    have hcv9 : IntKind.i32.wrap v = v := IntWalk.i32_in _ (by omega)
    have HVY : Hid ((if false then -(x : Int) else (x : Int)) = v) := Lib.hid (by have := HVX.out; simp; omega)
    clear hbig
    go_wp2_with fail
    go_fit (HAS.out _ (HG.out.next HB1.out))
    rintro e w2 ⟨g, c, rfl, hc1, hgw, hgl, ⟨x0, x1, x2, x3, x4⟩, hb2⟩
    rw [HVY.out] at x4
    have HB2 := Lib.hid (bel_next HB1.out hb2)
    clear hb2 HAS hgw
    go_wp2_with fail
    go_fit (HAW.out _ (HG.out.next (bel_lit HB2.out _)).1)
    rintro e w3 ⟨rfl, hb3⟩
    have HB3 := Lib.hid (bel_next (bel_lit HB2.out _) hb3)
    clear hb3
    go_wp2
    go_ret
    exact ⟨rfl, HB3.out⟩
set_option maxRecDepth 50000 in
set_option maxHeartbeats 2000000 in
theorem neg_dec (v : Int) (x : Nat) (hvx : v = -(x : Int)) (h0 : 0 < x) (hx : x ≤ 9223372036854775808) (w : World) (hG : GlobP w) :
    Calls Tryz.prog 9 #[.int .i64 v, .bool false] w fun e w' => e = .returned (.bool true) ∧ Below w.heap.size w w' := by
  have HG := Lib.hid hG
  have HAW := Lib.hid fun W hW => awake9 W hW
  have hx1 : x < 18446744073709551616 := by omega
  have HF := Lib.hid fun ty => format_num x hx1 ty w hG.2
  have hv0 : v < 0 := by omega
  have hv1 : -9223372036854775808 ≤ v := by omega
  have hcv : IntKind.u64.wrap (-(v + 1)) = -(v + 1) := by rw [IntKind.wrap_u64]; omega
  have hcw : IntKind.u64.wrap (-(v + 1) + 1) = (x : Int) := by rw [IntKind.wrap_u64]; omega
  have hw1 : wrap64 (v + 1) = v + 1 := IntWalk.wrap64_in _ (by omega)
  have hw2 : wrap64 (-(v + 1)) = -(v + 1) := IntWalk.wrap64_in _ (by omega)
  have HVX := Lib.hid hvx
  have HNU := Lib.hid (numl_dec x hx1)
  have hcat : ((⟨#[108, 105, 32, 114, 51, 44, 32]⟩ : ByteArray) ++ ⟨#[45]⟩ ++ ⟨(decL x).toArray⟩ ++ ⟨#[59]⟩ : ByteArray) = ⟨(imT true (decL x)).toArray⟩ := text_put true (decL x)
  clear hG hvx
  go_enter Tryz.func9, Tryz.ntmps9
  go_wp2_with fail
  go_fit (HF.out _)
  rintro e w1 ⟨rfl, hb1⟩
  have HB1 := Lib.hid hb1
  clear hb1 HF
  have hSl : (decL x).length ≤ 20 := (isDec x hx1).len
  generalize decL x = S at *
  by_cases hbig : 2147483648 < x
  · have HAS := Lib.hid fun W hW => asm_big9 true _ x HNU.out (by simpa using hbig) W hW
    have hr0 : v < -2147483648 := by have := HVX.out; omega
    clear hbig
    go_wp2_with fail
    go_fit (HAS.out _ (HG.out.next HB1.out))
    rintro e w2 ⟨rfl, hb2⟩
    have HB2 := Lib.hid (bel_next HB1.out hb2)
    clear hb2 HAS
    go_wp2_with fail
    go_fit (HAW.out _ (HG.out.next (bel_lit HB2.out _)).1)
    rintro e w3 ⟨rfl, hb3⟩
    have HB3 := Lib.hid (bel_next (bel_lit HB2.out _) hb3)
    clear hb3
    go_wp2
    go_ret
    exact ⟨rfl, HB3.out⟩
  · have HAS := Lib.hid fun W hW => asm_ok9 true _ x HNU.out (by simp; omega) W hW
    have hr0 : ¬ v < -2147483648 := by have := HVX.out; omega
    have hr1 : ¬ 2147483648 ≤ v := by have := HVX.out; omega
    have hcv9 : IntKind.i32.wrap v = v := IntWalk.i32_in _ (by omega)
    have HVY : Hid ((if true then -(x : Int) else (x : Int)) = v) := Lib.hid (by have := HVX.out; simp; omega)
    clear hbig
    go_wp2_with fail
    go_fit (HAS.out _ (HG.out.next HB1.out))
    rintro e w2 ⟨g, c, rfl, hc1, hgw, hgl, ⟨x0, x1, x2, x3, x4⟩, hb2⟩
    rw [HVY.out] at x4
    have HB2 := Lib.hid (bel_next HB1.out hb2)
    clear hb2 HAS hgw
    go_wp2_with fail
    go_fit (HAW.out _ (HG.out.next (bel_lit HB2.out _)).1)
    rintro e w3 ⟨rfl, hb3⟩
    have HB3 := Lib.hid (bel_next (bel_lit HB2.out _) hb3)
    clear hb3
    go_wp2
    go_ret
    exact ⟨rfl, HB3.out⟩
set_option maxRecDepth 50000 in
set_option maxHeartbeats 2000000 in
theorem pos_hex (v : Int) (x : Nat) (hvx : v = x) (hx : x < 9223372036854775808) (w : World) (hG : GlobP w) :
    Calls Tryz.prog 9 #[.int .i64 v, .bool true] w fun e w' => e = .returned (.bool true) ∧ Below w.heap.size w w' := by
  have HG := Lib.hid hG
  have HAW := Lib.hid fun W hW => awake9 W hW
  have hx1 : x < 18446744073709551616 := by omega
  have HF := Lib.hid fun ty => format_num x hx1 ty w hG.2
  have hv0 : ¬ v < 0 := by omega
  have hcv : IntKind.u64.wrap v = (x : Int) := by rw [IntKind.wrap_u64]; omega
  have HVX := Lib.hid hvx
  clear hG hvx
  go_enter Tryz.func9, Tryz.ntmps9
  go_wp2_with fail
  go_fit (HF.out _)
  rintro e w1 ⟨rfl, hb1⟩
  have HB1 := Lib.hid hb1
  clear hb1 HF
  have HLN := Lib.hid (isHezL x hx1).2.2.2
  have HNE := Lib.hid (isHezL x hx1).1
  have HH := Lib.hid hx1
  clear hx
  go_wp2
  go_loop [7, 8] (fun vs vy => ∃ (l : List UInt8) (u : Int), vs = .string ⟨l.toArray⟩ ∧ vy = .int .u64 u ∧ l.length ≤ 16 ∧ Hid (∃ n : Nat, u = (n : Int) ∧ n < 18446744073709551616 ∧ HezInv x n l)) (fun vs vy => (intOf vy).toNat + sEz vs)
  case atStart => exact ⟨[], x, rfl, rfl, by simp, Lib.hid ⟨x, rfl, HH.out, by
      rcases Nat.eq_zero_or_pos x with h0 | h0
      · exact .inr (.inr ⟨h0, rfl, h0⟩)
      · exact .inl ⟨h0, by rw [List.append_nil]⟩⟩⟩
  case round =>
    obtain ⟨l, u, rfl, rfl, hll, HI⟩ := hrel
    obtain ⟨n, hn, hn1, hinv⟩ := HI.out
    by_cases hu : 0 < u
    · have hm : n % 16 < 16 := Nat.mod_lt _ (by omega)
      have hrun := hcz_run (n % 16) hm
      have hub : u < 18446744073709551616 := by omega
      have hcat := cons_cat (hcz (n % 16)) l
      have hand : bits .and .u64 u 15 = ((n % 16 : Nat) : Int) := by rw [hn]; exact and15z n hn1
      have hq : ((n % 16 : Nat) : Int) = u % 16 := by omega
      rw [hq] at hand hrun
      have hu0 : 0 ≤ u := by omega
      have hmb : u % 16 < 16 := by omega
      have hmb0 : 0 ≤ u % 16 := by omega
      have hwrap : IntKind.u64.wrap (u % 16 + 1) = u % 16 + 1 := by rw [IntKind.wrap_u64]; omega
      have h16 : u / 16 < u := by omega
      have hlen : l.length + 1 ≤ 16 := by
        have hle := HLN.out
        rcases hinv with ⟨h0, h1⟩ | ⟨h0, _⟩ | ⟨h0, _⟩
        · have := congrArg List.length h1
          have hp := List.length_pos_iff.2 (isHezL n hn1).1
          rw [List.length_append] at this; omega
        · omega
        · omega
      have HN : Hid (∃ m : Nat, u / 16 = (m : Int) ∧ m < 18446744073709551616 ∧ HezInv x m (hcz (n % 16) :: l)) := Lib.hid ⟨n / 16, by omega, by omega, by
        rcases hinv with ⟨h0, h1⟩ | ⟨h0, _⟩ | ⟨h0, _⟩
        · by_cases h16 : n < 16
          · right; left
            refine ⟨by omega, ?_⟩
            rw [← h1, hezL_lt h16, show n % 16 = n by omega]; rfl
          · left
            refine ⟨by omega, ?_⟩
            rw [← h1, hezL_ge h16]; simp
        · omega
        · omega⟩
      generalize hcz (n % 16) = c at *
      clear hn hinv HI hq hm HVX
      go_wp2
      go_round
      case rel => exact ⟨c :: l, u / 16, rfl, rfl, by simpa using hlen, HN⟩
      case measure => rw [sEz_cons]; simp [intOf]; omega
    · have hu0 : u = 0 := by omega
      subst hu0
      have hn0 : n = 0 := by omega
      subst hn0
      by_cases hl0 : l = []
      · subst hl0
        have hext : (⟨#[48, 49, 50, 51, 52, 53, 54, 55, 56, 57, 97, 98, 99, 100, 101, 102]⟩ : ByteArray).extract 0 1 ++ ⟨#[]⟩ = ⟨([48] : List UInt8).toArray⟩ := by
          apply ByteArray.ext
          rfl
        have hx0 : x = 0 := by
          rcases hinv with ⟨h0, _⟩ | ⟨_, h0⟩ | ⟨_, _, h0⟩
          · omega
          · exact absurd h0.symm HNE.out
          · exact h0
        have HN : Hid (∃ m : Nat, (0 : Int) = (m : Int) ∧ m < 18446744073709551616 ∧ HezInv x m [48]) := Lib.hid ⟨0, rfl, by omega, .inr (.inl ⟨rfl, by rw [hx0, hezL_lt (by omega)]; rfl⟩)⟩
        clear hn hinv HI hx0 HVX
        have hand : bits .and .u64 0 15 = 0 := by have := and15z 0 (by omega); simpa using this
        go_wp2
        go_round
        case rel => exact ⟨[48], 0, rfl, rfl, by simp, HN⟩
        case measure => rw [sEz_cons 48 [], sEz_nil]; simp [intOf]
      · have hex' : l = hezL x := by
          rcases hinv with ⟨h0, _⟩ | ⟨_, h0⟩ | ⟨_, h0, _⟩
          · omega
          · exact h0
          · exact absurd h0 hl0
        have hemp : l.isEmpty = false := by cases l with | nil => exact absurd rfl hl0 | cons _ _ => rfl
        have hcat2 : (⟨#[48, 120]⟩ ++ ⟨l.toArray⟩ : ByteArray) = ⟨(48 :: 120 :: l).toArray⟩ := by
          apply ByteArray.ext
          simp [ByteArray.data_append]
        have HNU0 := Lib.hid (numl_hex x HH.out)
        rw [← hex'] at HNU0
        obtain ⟨S, hS⟩ : ∃ S, S = 48 :: 120 :: l := ⟨_, rfl⟩
        have hSl : S.length ≤ 20 := by rw [hS]; simp; omega
        have hSl2 : l.length ≤ 16 := hll
        rw [← hS] at hcat2 HNU0
        have HNU : Hid (Numl S x) := HNU0
        have hcat : ((⟨#[108, 105, 32, 114, 51, 44, 32]⟩ : ByteArray) ++ ⟨#[]⟩ ++ ⟨S.toArray⟩ ++ ⟨#[59]⟩ : ByteArray) = ⟨(imT false S).toArray⟩ := text_put false S
        clear hn hinv HI hex' hS HLN HNE HNU0
        by_cases hbig : 2147483647 < x
        · have HAS := Lib.hid fun W hW => asm_big9 false _ x HNU.out (by simpa using hbig) W hW
          have hr1 : 2147483648 ≤ v := by have := HVX.out; omega
          clear hbig
          go_wp2_with fail
          go_fit (HAS.out _ (HG.out.next HB1.out))
          rintro e w2 ⟨rfl, hb2⟩
          have HB2 := Lib.hid (bel_next HB1.out hb2)
          clear hb2 HAS
          go_wp2_with fail
          go_fit (HAW.out _ (HG.out.next (bel_lit HB2.out _)).1)
          rintro e w3 ⟨rfl, hb3⟩
          have HB3 := Lib.hid (bel_next (bel_lit HB2.out _) hb3)
          clear hb3
          go_wp2
          go_ret
          exact ⟨rfl, HB3.out⟩
        · have HAS := Lib.hid fun W hW => asm_ok9 false _ x HNU.out (by simp; omega) W hW
          have hr0 : ¬ v < -2147483648 := by have := HVX.out; omega
          have hr1 : ¬ 2147483648 ≤ v := by have := HVX.out; omega
          have hcv9 : IntKind.i32.wrap v = v := IntWalk.i32_in _ (by omega)
          have HVY : Hid ((if false then -(x : Int) else (x : Int)) = v) := Lib.hid (by have := HVX.out; simp; omega)
          clear hbig
          go_wp2_with fail
          go_fit (HAS.out _ (HG.out.next HB1.out))
          rintro e w2 ⟨g, c, rfl, hc1, hgw, hgl, ⟨x0, x1, x2, x3, x4⟩, hb2⟩
          rw [HVY.out] at x4
          have HB2 := Lib.hid (bel_next HB1.out hb2)
          clear hb2 HAS hgw
          go_wp2_with fail
          go_fit (HAW.out _ (HG.out.next (bel_lit HB2.out _)).1)
          rintro e w3 ⟨rfl, hb3⟩
          have HB3 := Lib.hid (bel_next (bel_lit HB2.out _) hb3)
          clear hb3
          go_wp2
          go_ret
          exact ⟨rfl, HB3.out⟩
set_option maxRecDepth 50000 in
set_option maxHeartbeats 2000000 in
theorem neg_hex (v : Int) (x : Nat) (hvx : v = -(x : Int)) (h0 : 0 < x) (hx : x ≤ 9223372036854775808) (w : World) (hG : GlobP w) :
    Calls Tryz.prog 9 #[.int .i64 v, .bool true] w fun e w' => e = .returned (.bool true) ∧ Below w.heap.size w w' := by
  have HG := Lib.hid hG
  have HAW := Lib.hid fun W hW => awake9 W hW
  have hx1 : x < 18446744073709551616 := by omega
  have HF := Lib.hid fun ty => format_num x hx1 ty w hG.2
  have hv0 : v < 0 := by omega
  have hv1 : -9223372036854775808 ≤ v := by omega
  have hcv : IntKind.u64.wrap (-(v + 1)) = -(v + 1) := by rw [IntKind.wrap_u64]; omega
  have hcw : IntKind.u64.wrap (-(v + 1) + 1) = (x : Int) := by rw [IntKind.wrap_u64]; omega
  have hw1 : wrap64 (v + 1) = v + 1 := IntWalk.wrap64_in _ (by omega)
  have hw2 : wrap64 (-(v + 1)) = -(v + 1) := IntWalk.wrap64_in _ (by omega)
  have HVX := Lib.hid hvx
  clear hG hvx
  go_enter Tryz.func9, Tryz.ntmps9
  go_wp2_with fail
  go_fit (HF.out _)
  rintro e w1 ⟨rfl, hb1⟩
  have HB1 := Lib.hid hb1
  clear hb1 HF
  have HLN := Lib.hid (isHezL x hx1).2.2.2
  have HNE := Lib.hid (isHezL x hx1).1
  have HH := Lib.hid hx1
  clear hx
  go_wp2
  go_loop [7, 8] (fun vs vy => ∃ (l : List UInt8) (u : Int), vs = .string ⟨l.toArray⟩ ∧ vy = .int .u64 u ∧ l.length ≤ 16 ∧ Hid (∃ n : Nat, u = (n : Int) ∧ n < 18446744073709551616 ∧ HezInv x n l)) (fun vs vy => (intOf vy).toNat + sEz vs)
  case atStart => exact ⟨[], x, rfl, rfl, by simp, Lib.hid ⟨x, rfl, HH.out, by
      rcases Nat.eq_zero_or_pos x with h0 | h0
      · exact .inr (.inr ⟨h0, rfl, h0⟩)
      · exact .inl ⟨h0, by rw [List.append_nil]⟩⟩⟩
  case round =>
    obtain ⟨l, u, rfl, rfl, hll, HI⟩ := hrel
    obtain ⟨n, hn, hn1, hinv⟩ := HI.out
    by_cases hu : 0 < u
    · have hm : n % 16 < 16 := Nat.mod_lt _ (by omega)
      have hrun := hcz_run (n % 16) hm
      have hub : u < 18446744073709551616 := by omega
      have hcat := cons_cat (hcz (n % 16)) l
      have hand : bits .and .u64 u 15 = ((n % 16 : Nat) : Int) := by rw [hn]; exact and15z n hn1
      have hq : ((n % 16 : Nat) : Int) = u % 16 := by omega
      rw [hq] at hand hrun
      have hu0 : 0 ≤ u := by omega
      have hmb : u % 16 < 16 := by omega
      have hmb0 : 0 ≤ u % 16 := by omega
      have hwrap : IntKind.u64.wrap (u % 16 + 1) = u % 16 + 1 := by rw [IntKind.wrap_u64]; omega
      have h16 : u / 16 < u := by omega
      have hlen : l.length + 1 ≤ 16 := by
        have hle := HLN.out
        rcases hinv with ⟨h0, h1⟩ | ⟨h0, _⟩ | ⟨h0, _⟩
        · have := congrArg List.length h1
          have hp := List.length_pos_iff.2 (isHezL n hn1).1
          rw [List.length_append] at this; omega
        · omega
        · omega
      have HN : Hid (∃ m : Nat, u / 16 = (m : Int) ∧ m < 18446744073709551616 ∧ HezInv x m (hcz (n % 16) :: l)) := Lib.hid ⟨n / 16, by omega, by omega, by
        rcases hinv with ⟨h0, h1⟩ | ⟨h0, _⟩ | ⟨h0, _⟩
        · by_cases h16 : n < 16
          · right; left
            refine ⟨by omega, ?_⟩
            rw [← h1, hezL_lt h16, show n % 16 = n by omega]; rfl
          · left
            refine ⟨by omega, ?_⟩
            rw [← h1, hezL_ge h16]; simp
        · omega
        · omega⟩
      generalize hcz (n % 16) = c at *
      clear hn hinv HI hq hm HVX
      go_wp2
      go_round
      case rel => exact ⟨c :: l, u / 16, rfl, rfl, by simpa using hlen, HN⟩
      case measure => rw [sEz_cons]; simp [intOf]; omega
    · have hu0 : u = 0 := by omega
      subst hu0
      have hn0 : n = 0 := by omega
      subst hn0
      by_cases hl0 : l = []
      · subst hl0
        have hext : (⟨#[48, 49, 50, 51, 52, 53, 54, 55, 56, 57, 97, 98, 99, 100, 101, 102]⟩ : ByteArray).extract 0 1 ++ ⟨#[]⟩ = ⟨([48] : List UInt8).toArray⟩ := by
          apply ByteArray.ext
          rfl
        have hx0 : x = 0 := by
          rcases hinv with ⟨h0, _⟩ | ⟨_, h0⟩ | ⟨_, _, h0⟩
          · omega
          · exact absurd h0.symm HNE.out
          · exact h0
        have HN : Hid (∃ m : Nat, (0 : Int) = (m : Int) ∧ m < 18446744073709551616 ∧ HezInv x m [48]) := Lib.hid ⟨0, rfl, by omega, .inr (.inl ⟨rfl, by rw [hx0, hezL_lt (by omega)]; rfl⟩)⟩
        clear hn hinv HI hx0 HVX
        have hand : bits .and .u64 0 15 = 0 := by have := and15z 0 (by omega); simpa using this
        go_wp2
        go_round
        case rel => exact ⟨[48], 0, rfl, rfl, by simp, HN⟩
        case measure => rw [sEz_cons 48 [], sEz_nil]; simp [intOf]
      · have hex' : l = hezL x := by
          rcases hinv with ⟨h0, _⟩ | ⟨_, h0⟩ | ⟨_, h0, _⟩
          · omega
          · exact h0
          · exact absurd h0 hl0
        have hemp : l.isEmpty = false := by cases l with | nil => exact absurd rfl hl0 | cons _ _ => rfl
        have hcat2 : (⟨#[48, 120]⟩ ++ ⟨l.toArray⟩ : ByteArray) = ⟨(48 :: 120 :: l).toArray⟩ := by
          apply ByteArray.ext
          simp [ByteArray.data_append]
        have HNU0 := Lib.hid (numl_hex x HH.out)
        rw [← hex'] at HNU0
        obtain ⟨S, hS⟩ : ∃ S, S = 48 :: 120 :: l := ⟨_, rfl⟩
        have hSl : S.length ≤ 20 := by rw [hS]; simp; omega
        have hSl2 : l.length ≤ 16 := hll
        rw [← hS] at hcat2 HNU0
        have HNU : Hid (Numl S x) := HNU0
        have hcat : ((⟨#[108, 105, 32, 114, 51, 44, 32]⟩ : ByteArray) ++ ⟨#[45]⟩ ++ ⟨S.toArray⟩ ++ ⟨#[59]⟩ : ByteArray) = ⟨(imT true S).toArray⟩ := text_put true S
        clear hn hinv HI hex' hS HLN HNE HNU0
        by_cases hbig : 2147483648 < x
        · have HAS := Lib.hid fun W hW => asm_big9 true _ x HNU.out (by simpa using hbig) W hW
          have hr0 : v < -2147483648 := by have := HVX.out; omega
          clear hbig
          go_wp2_with fail
          go_fit (HAS.out _ (HG.out.next HB1.out))
          rintro e w2 ⟨rfl, hb2⟩
          have HB2 := Lib.hid (bel_next HB1.out hb2)
          clear hb2 HAS
          go_wp2_with fail
          go_fit (HAW.out _ (HG.out.next (bel_lit HB2.out _)).1)
          rintro e w3 ⟨rfl, hb3⟩
          have HB3 := Lib.hid (bel_next (bel_lit HB2.out _) hb3)
          clear hb3
          go_wp2
          go_ret
          exact ⟨rfl, HB3.out⟩
        · have HAS := Lib.hid fun W hW => asm_ok9 true _ x HNU.out (by simp; omega) W hW
          have hr0 : ¬ v < -2147483648 := by have := HVX.out; omega
          have hr1 : ¬ 2147483648 ≤ v := by have := HVX.out; omega
          have hcv9 : IntKind.i32.wrap v = v := IntWalk.i32_in _ (by omega)
          have HVY : Hid ((if true then -(x : Int) else (x : Int)) = v) := Lib.hid (by have := HVX.out; simp; omega)
          clear hbig
          go_wp2_with fail
          go_fit (HAS.out _ (HG.out.next HB1.out))
          rintro e w2 ⟨g, c, rfl, hc1, hgw, hgl, ⟨x0, x1, x2, x3, x4⟩, hb2⟩
          rw [HVY.out] at x4
          have HB2 := Lib.hid (bel_next HB1.out hb2)
          clear hb2 HAS hgw
          go_wp2_with fail
          go_fit (HAW.out _ (HG.out.next (bel_lit HB2.out _)).1)
          rintro e w3 ⟨rfl, hb3⟩
          have HB3 := Lib.hid (bel_next (bel_lit HB2.out _) hb3)
          clear hb3
          go_wp2
          go_ret
          exact ⟨rfl, HB3.out⟩
/-- The law, whatever the number. -/
theorem immediates_any (v : Int) (hex : Bool) (hv : -9223372036854775808 ≤ v ∧ v < 9223372036854775808) (w : World) (hG : GlobP w) :
    Calls Tryz.prog 9 #[.int .i64 v, .bool hex] w fun e w' => e = .returned (.bool true) ∧ Below w.heap.size w w' := by
  by_cases h0 : v < 0
  · obtain ⟨x, hx⟩ : ∃ x : Nat, v = -(x : Int) := ⟨(-v).toNat, by omega⟩
    cases hex
    · exact neg_dec v x hx (by omega) (by omega) w hG
    · exact neg_hex v x hx (by omega) (by omega) w hG
  · obtain ⟨x, hx⟩ : ∃ x : Nat, v = (x : Int) := ⟨v.toNat, by omega⟩
    cases hex
    · exact pos_dec v x hx (by omega) w hG
    · exact pos_hex v x hx (by omega) w hG
end Go.Proofs.YtcmohijjpnebpaaGreatDoor


namespace Go.Proofs.YtcmohijjpnebpaaGreatDoor
open Go.ChangeShapes Go.WideShapes Go.ChangeAt Go.RowKit

theorem tPow9 : (Tryz.prog.globals[2]?).map (·.type) = some 171 := by kernel_rfl
theorem laidPow9 {H : Type} : (Rows.laid_internal_strconv_uint64pow10 : DataW H) = Lib.tabData .u64 Lib.pow10Tab := rfl
theorem globp_of_laid {W : World} (h : laidMetH Tryz.prog Rows.isaImmediatesRow.laid W) : GlobP W := by
  refine ⟨globi_of_laid h, ?_⟩
  rw [MakeChecks.laidMetH_plain _ _ _ (by kernel_rfl)] at h
  obtain ⟨ps, ⟨g0, t0, cs0, f0, p0, q0, hg0, ht0, hv0, hd0, ⟨g1, t1, cs1, f1, p1, q1, hg1, ht1, hv1, hd1, ⟨g2, t2, cs2, f2, p2, q2, hg2, ht2, hv2, hd2, ⟨g3, t3, cs3, f3, p3, q3, hg3, ht3, hv3, hd3, _⟩, _⟩, _⟩, _⟩, _, _⟩ := h
  obtain rfl := Option.some.inj (gPow.symm.trans hg2)
  obtain rfl := Option.some.inj (tPow9.symm.trans ht2)
  unfold Pow Lib.TabIs
  rw [laidPow9] at hd2
  rw [hv2, ← Lib.cells_of_tab Tryz.underlying171 Tryz.underlying45 (by kernel_rfl) (by kernel_rfl) hd2]
end Go.Proofs.YtcmohijjpnebpaaGreatDoor
