/-
  The walk of the law LexSpacing: any white space and comments between tokens change nothing but the positions.
  Conditions: the variable strconv.ErrRange lies as the program's start lays it.
-/
import Derived.Test.YthpcfidcpaikgaaDoorRgt
import Derived.Test.YthpcfidcpaikgaaDoorNxt
namespace Go.Proofs.YthpcfidcpaikgaaDoor
open Go.RowKit Go.Shelf

def gapsC : Array Value := #[.string ⟨#[32]⟩, .string ⟨#[10]⟩, .string ⟨#[9, 13, 10]⟩, .string ⟨#[32, 35, 32, 97, 32, 99, 111, 109, 109, 101, 110, 116, 32, 34, 32, 123, 32, 10]⟩, .string ⟨#[35, 10, 35, 10]⟩, .string ⟨#[32, 32, 9]⟩]
theorem gapsC_at (r : Nat) (h : r < 6) : gapsC[r]? = some (.string ⟨(gapL r).toArray⟩) := by
  obtain rfl | rfl | rfl | rfl | rfl | rfl : r = 0 ∨ r = 1 ∨ r = 2 ∨ r = 3 ∨ r = 4 ∨ r = 5 := by omega
  all_goals rfl
/-- What stands in memory: the numbers (their counter at k), the gaps. -/
structure SMid (w wr : World) (a : Option Addr) (len cap k : Nat) : Prop where
  bel : Below w.heap.size w wr
  num : wr.heap[w.heap.size]? = some (.cells #[.slice a len cap, .int .i64 k] 39 (0, 0))
  gap : wr.heap[w.heap.size + 1]? = some (.cells gapsC 9 (0, 0))
theorem SMid.lt {w wr : World} {a : Option Addr} {len cap k : Nat} (h : SMid w wr a len cap k) : w.heap.size + 1 < wr.heap.size := by
  rcases Nat.lt_or_ge (w.heap.size + 1) wr.heap.size with h1 | h1
  · exact h1
  · have := h.gap; rw [Array.getElem?_eq_none h1] at this; cases this
theorem SMid.next {w wr w2 : World} {a : Option Addr} {len cap k : Nat} (h : SMid w wr a len cap k) (hb : Below wr.heap.size wr w2) : SMid w w2 a len cap k := by
  have hl := h.lt
  exact ⟨bel_next h.bel hb, (hb.block _ (by omega)).trans h.num, (hb.block _ hl).trans h.gap⟩
theorem SMid.step {w wr : World} {a : Option Addr} {len cap k : Nat} (h : SMid w wr a len cap k) (m : Nat) : SMid w ((wr.drewN m).setCell ⟨w.heap.size, 1, none⟩ (.int .i64 ((k : Int) + 1))) a len cap (k + 1) := by
  have hd : ∀ g : Nat, (wr.drewN m).heap[g]? = wr.heap[g]? := fun g => by rw [World.heap_drewN]
  refine ⟨(h.bel.trans (bel_drewN _ _ _)).setCell (Nat.le_refl _) _, ?_, ?_⟩
  · exact two_set1 ((hd _).trans h.num) _
  · rw [Below.heap_setCell _ _ _ _ (by show w.heap.size + 1 ≠ w.heap.size; omega)]
    exact (hd _).trans h.gap
theorem SMid.cell {w wr : World} {a : Option Addr} {len cap k : Nat} (h : SMid w wr a len cap k) (r : Nat) (hr : r < 6) : wr.cell? ⟨w.heap.size + 1, r, none⟩ = some (.string ⟨(gapL r).toArray⟩) := by
  rw [World.cell?, h.gap]
  exact gapsC_at r hr
theorem SMid.start (w : World) (a : Option Addr) (len cap : Nat) : SMid w ((w.alloc (.cells #[.slice a len cap, .int .i64 0] 39)).alloc (.cells gapsC 9)) a len cap 0 := by
  refine ⟨((Below.refl _ _).alloc (Nat.le_refl _) _).alloc (by simp) _, (Below.heap_alloc _ _ _ (by simp)).trans (heap_alloc_new w _), ?_⟩
  have := heap_alloc_new (w.alloc (.cells #[.slice a len cap, .int .i64 0] 39)) (.cells gapsC 9)
  have e : (w.alloc (.cells #[.slice a len cap, .int .i64 0] 39)).heap.size = w.heap.size + 1 := by simp
  rw [e] at this; exact this
theorem gapsC_eq : gapsC = #[.string ⟨#[32]⟩, .string ⟨#[10]⟩, .string ⟨#[9, 13, 10]⟩, .string ⟨#[32, 35, 32, 97, 32, 99, 111, 109, 109, 101, 110, 116, 32, 34, 32, 123, 32, 10]⟩, .string ⟨#[35, 10, 35, 10]⟩, .string ⟨#[32, 32, 9]⟩] := rfl
def endL : List UInt8 := [35, 32, 116, 104, 101, 32, 101, 110, 100]
theorem cat_end (T : List UInt8) : (⟨T.toArray⟩ ++ ⟨#[35, 32, 116, 104, 101, 32, 101, 110, 100]⟩ : ByteArray) = ⟨(T ++ endL).toArray⟩ := by
  apply ByteArray.ext; simp [ByteArray.data_append, endL]
set_option maxRecDepth 50000 in
set_option maxHeartbeats 1000000 in
theorem lexSpacing_walk (a : Option Addr) (len cap : Nat) (ts : List GTok) (a1 : Option Addr) (len1 cap1 : Nat) (zs : List Int) (w : World) (h : IsToks w a len cap ts) (hi : IRow w w.heap.size a1 len1 cap1 zs) (hG : Glob w) :
    Calls Tryd.prog 6 #[.slice a len cap, .slice a1 len1 cap1] w fun e w' => e = .returned (.bool true) ∧ Below w.heap.size w w' := by
  have HAW := Lib.hid awake_any
  have HG := Lib.hid hG
  have HR := Lib.hid h.row
  have HI := Lib.hid hi
  have HRT := Lib.hid (right_any a len cap ts w h)
  have HV := Lib.hid fun t ht => u64_bd (h.wf t ht).value
  obtain ⟨rfl, hle, hmx, _, _, _⟩ := h
  have hmx2 := hmx
  unfold maxLen at hmx2
  clear hG hmx hi
  go_enter Tryd.func6, Tryd.ntmps6
  go_wp2_with fail
  refine HRT.out.mono ?_
  rintro e w1 ⟨ok, rfl, hok, hb1⟩
  have HB1 := Lib.hid hb1
  have hs1 := hb1.size
  clear hb1
  cases ok
  · clear hok
    go_wp2_with fail
    refine (HAW.out _ (HG.out.next HB1.out)).mono ?_
    rintro e w2 ⟨rfl, hb2⟩
    go_wp2
    go_ret
    exact ⟨rfl, bel_next HB1.out hb2⟩
  · have HD := Lib.hid (hok rfl)
    have hn100 : ts.length ≤ 100 := HD.out.1
    clear hok
    have HI1 := Lib.hid (HI.out.below (Nat.le_refl _) HB1.out)
    have HS0 := Lib.hid (SMid.start w1 a1 len1 cap1)
    rw [gapsC_eq] at HS0
    go_wp2_with fail
    refine (next_any w1.heap.size w.heap.size a1 len1 cap1 zs 0 6 _ HS0.out.num (HI1.out.below hs1 HS0.out.bel) (by omega) (by omega) (by omega)).mono ?_
    rintro e w2 ⟨r, hr, rfl, m, hw2⟩
    have HS1 : Hid (SMid w1 w2 a1 len1 cap1 1) := Lib.hid (by rw [hw2]; exact HS0.out.step m)
    clear HS0 hw2
    have hcell := HS1.out.cell r hr
    have hgl := gap_len r hr
    have HSP := Lib.hid (SpInv.start r hr)
    generalize gapL r = T0 at *
    have hrI : (0 : Int) ≤ (r : Int) := by omega
    have hrJ : (r : Int) < 6 := by omega
    go_wp2
    clear hcell hrI hrJ
    go_loopw [7, 8] (fun vt vi wr => ∃ (k : Nat) (T : List UInt8), vi = .int .i64 k ∧ k ≤ ts.length ∧ vt = .string ⟨T.toArray⟩ ∧ T.length ≤ 18 + k * 220 ∧ Hid (SpInv T (ts.take k)) ∧ Hid (SMid w1 wr a1 len1 cap1 (k + 1))) (fun _ vi _ => ts.length - (intOf vi).toNat)
    case atStart => exact ⟨0, T0, rfl, Nat.zero_le _, rfl, by omega, HSP, HS1⟩
    case round =>
      clear HS1 HSP hgl hr
      obtain ⟨k, T, rfl, hk, rfl, hTl, HSP, HS⟩ := hrel
      have HBR := Lib.hid (bel_next HB1.out HS.out.bel)
      rcases Nat.lt_or_ge k ts.length with hlt | hge
      · obtain ⟨b1, o1, rfl, hb1, x0, x1, x2, x3, x4⟩ := (HR.out.below (Nat.le_refl _) HBR.out).cells5 hlt
        have hwt := HD.out.2 ts[k] (List.getElem_mem hlt)
        have hvt := HV.out ts[k] (List.getElem_mem hlt)
        have htl := txt_len2 ts[k] hwt.2 hvt.1 hvt.2
        have HTX := Lib.hid fun W => text_any ts[k] W (by omega) hvt.1 hvt.2
        have HGO := Lib.hid fun r2 hr2 => HSP.out.go ts[k] hwt.1 hvt.1 hvt.2 r2 hr2
        have HTK : Hid (ts.take (k + 1) = ts.take k ++ [ts[k]]) := Lib.hid (List.take_succ_eq_append_getElem hlt)
        rw [← HTK.out] at HGO
        have HWF := Lib.hid hwt.1
        clear HTK
        generalize ts[k] = t at *
        obtain ⟨kd, tx, v, ln, cl⟩ := t
        unfold GTok.val at HTX
        simp only at x0 x1 x2 x3 x4 HTX
        have hzb : b1 < wr.heap.size := by have := HBR.out.size; omega
        clear hwt hvt
        go_wp2_with fail
        refine (HTX.out _).mono ?_
        rintro e w3 ⟨xs, rfl, hxs, hb3⟩
        obtain rfl := hxs HWF.out
        have HS3 := Lib.hid (HS.out.next hb3)
        have HB3 := Lib.hid (bel_next HB1.out HS3.out.bel)
        clear hb3 hxs x0 x1 x2 x3 x4 HTX
        generalize txt ⟨kd, tx, v, ln, cl⟩ = tt at *
        have hc1 := cat2 T tt
        go_wp2_with fail
        refine (next_any w1.heap.size w.heap.size a1 len1 cap1 zs (k + 1) 6 _ HS3.out.num (HI.out.below (Nat.le_refl _) HB3.out) (by omega) (by omega) (by omega)).mono ?_
        rintro e w4 ⟨r, hr, rfl, m2, hw4⟩
        have HS4 : Hid (SMid w1 w4 a1 len1 cap1 (k + 1 + 1)) := Lib.hid (by rw [hw4]; exact HS3.out.step m2)
        clear hw4 HS3
        have hcell := HS4.out.cell r hr
        have hgl := gap_len r hr
        have HSP2 := Lib.hid (HGO.out r hr)
        generalize gapL r = T0 at *
        have hrI : (0 : Int) ≤ (r : Int) := by omega
        have hrJ : (r : Int) < 6 := by omega
        have hc2 := cat2 (T ++ tt) T0
        go_wp2
        go_roundw
        case rel => exact ⟨k + 1, T ++ tt ++ T0, by go_num, by omega, by rw [List.append_assoc], by simp; omega, HSP2, HS4⟩
        case measure => simp [intOf]; omega
      · have HTK : Hid (ts.take k = ts) := Lib.hid (List.take_of_length_le hge)
        rw [HTK.out] at HSP
        obtain ⟨us, hus, hbe⟩ := HSP.out.fin (1, 1)
        have hsc : scan (T ++ endL) = .ok us := by
          rw [scan, if_neg (by simp [endL]; omega)]; exact hus
        have HSC := Lib.hid fun W hW => scan_ok (T ++ endL) us hsc W hW (by unfold maxLen; simp [endL]; omega)
        have HLK := Lib.hid (bare_like hbe).2
        have HLN := Lib.hid (bare_like hbe).1
        have hce := cat_end T
        clear hus hbe hsc HTK
        generalize T ++ endL = fl at *
        go_wp2_with fail
        refine (HSC.out _ (HG.out.next HBR.out)).mono ?_
        rintro e w3 ⟨A3, c3, rfl, hc3, hr3, hb3⟩
        have HB3 := Lib.hid (bel_next HBR.out hb3)
        have HR3 := Lib.hid hr3
        have hs3 := HB3.out.size
        clear hb3 hr3 hc3 hce
        go_wp2_with fail
        have HB4 := Lib.hid (bel_lit HB3.out (.cells #[.int .i64 0, .int .i64 0] 25))
        have HR4 := Lib.hid (HR3.out.below (Nat.le_refl _) ((Below.refl _ _).alloc (Nat.le_refl _) (.cells #[.int .i64 0, .int .i64 0] 25)))
        have HUL : Hid (us.length = (us.map Tok.g).length) := Lib.hid (by simp)
        rw [HUL.out]
        refine (same_like ts (us.map Tok.g) a A3 cap c3 _ ((HR.out.below (Nat.le_refl _) HB4.out).wide HB4.out.size) (HR4.out.wide (by simp)) (by omega) HLN.out HLK.out).mono ?_
        rintro e w5 ⟨rfl, hb5⟩
        have HB5 := Lib.hid (bel_next HB4.out hb5)
        clear hb5
        go_wp2_with fail
        refine (HAW.out _ (HG.out.next HB5.out)).mono ?_
        rintro e w6 ⟨rfl, hb6⟩
        go_wp2
        go_ret
        exact ⟨rfl, bel_next HB5.out hb6⟩
end Go.Proofs.YthpcfidcpaikgaaDoor
