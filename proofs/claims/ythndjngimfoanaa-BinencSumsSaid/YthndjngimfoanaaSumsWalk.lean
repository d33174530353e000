/-
  The walk of the law BinencSums: it returns true and turns nothing that was there.
  Conditions: the first argument reads as a list of 16-bit words.
-/
import Derived.Test.YthndjngimfoanaaTwo
import Derived.Test.YthndjngimfoanaaRound
namespace Go.Proofs.Ythndjngimfoanaa
open Go.RowKit
set_option linter.unusedVariables false

theorem word_bytes (x : Nat) (hx : x ≤ 65535) : (#[Value.int .u8 ((x : Int) / 256), .int .u8 ((x : Int) % 256)] : Array Value) = (vals [UInt8.ofNat (x / 256), UInt8.ofNat x]).toArray := by
  unfold vals
  simp only [List.map_cons, List.map_nil]
  rw [UInt8.toNat_ofNat', UInt8.toNat_ofNat', show ((x / 256 % 2 ^ 8 : Nat) : Int) = (x : Int) / 256 by omega, show ((x % 2 ^ 8 : Nat) : Int) = (x : Int) % 256 by omega]
theorem wBytes_take (ws : List Nat) (j : Nat) (h : j < ws.length) : wBytes (ws.take (j + 1)) = wBytes (ws.take j) ++ [UInt8.ofNat (ws.getD j 0 / 256), UInt8.ofNat (ws.getD j 0)] := by
  rw [List.take_succ_eq_append_getElem h, wBytes_snoc, List.getD_eq_getElem?_getD, List.getElem?_eq_getElem h]; rfl
theorem getD_mem (ws : List Nat) (j : Nat) (hw : ∀ x ∈ ws, x ≤ 65535) : ws.getD j 0 ≤ 65535 := by
  rw [List.getD_eq_getElem?_getD]
  rcases Nat.lt_or_ge j ws.length with h | h
  · rw [List.getElem?_eq_getElem h]; exact hw _ (List.getElem_mem h)
  · rw [List.getElem?_eq_none h]; simp

set_option maxRecDepth 100000 in
set_option maxHeartbeats 1600000 in
theorem sums_walk (A : Option Addr) (n c odd : Nat) (by_ : Int) (ws : List Nat) (w : World) (hlen : ws.length = n) (hw : ∀ x ∈ ws, x ≤ 65535) (h : Row w w.heap.size A n (fun j => .int .u16 ((ws.getD j 0 : Nat) : Int))) (hodd : odd < 256) :
    Calls Try.prog 12 #[.slice A n c, .int .u8 (odd : Int), .int .i64 by_] w fun e w' => e = .returned (.bool true) ∧ Below w.heap.size w w' := by
  have HH := Lib.hid h
  have HLN := Lib.hid hlen
  have HW := Lib.hid hw
  clear h hlen hw
  by_cases hbig : 500 < n
  · have HA := Lib.hid (awake_any w)
    go_enter Try.func12, Try.ntmps12
    go_wp2_with fail
    refine HA.out.mono ?_
    rintro e w1 ⟨rfl, hb⟩
    have HB := Lib.hid hb
    clear hb
    go_wp2
    go_ret
    exact ⟨rfl, HB.out⟩
  · obtain ⟨k, hk⟩ : ∃ k : Nat, by_ % ((n : Int) + 1) = (k : Int) := ⟨(by_ % ((n : Int) + 1)).toNat, by have := Int.emod_nonneg by_ (show (n : Int) + 1 ≠ 0 by omega); omega⟩
    have hkn : k ≤ n := by have := Int.emod_lt_of_pos by_ (show 0 < (n : Int) + 1 by omega); omega
    have hpl := place_any by_ ((n : Int) + 1) w (by omega) (by omega)
    rw [hk] at hpl
    have HPL := Lib.hid hpl
    clear hpl hk
    obtain ⟨rs, hrs⟩ : ∃ rs, rs = ws.drop k ++ ws.take k := ⟨_, rfl⟩
    have hrl : rs.length = n := by rw [hrs, List.length_append, List.length_drop, List.length_take, HLN.out]; omega
    have HRS := Lib.hid hrs
    have HRL := Lib.hid hrl
    clear hrs hrl
    go_enter Try.func12, Try.ntmps12
    go_wp2_with fail
    refine HPL.out.mono ?_
    rintro e w1 ⟨rfl, rfl⟩
    clear HPL
    go_wp2_with fail
    go_loopw [8, 9, 10] (fun u v i wr => ∃ j : Nat, j ≤ n ∧ i = .int .i64 (j : Int) ∧ Hid (Two w wr u v (wBytes (ws.take j)) (wBytes (rs.take j)))) (fun _ _ i _ => n - (intOf i).toNat)
    case atStart => exact ⟨0, by omega, rfl, Lib.hid (Two.start w)⟩
    case round =>
      obtain ⟨j, hj, rfl, HT⟩ := hrel
      by_cases hjn : j < n
      · obtain ⟨b, off, rfl, hb, hc⟩ := (HH.out.below HT.out.2.2.2) (by omega)
        obtain ⟨q, hq⟩ : ∃ q, q = (j + k) % n := ⟨_, rfl⟩
        have hqn : q < n := by rw [hq]; exact Nat.mod_lt _ (by omega)
        have hq1 : ((j : Int) + (k : Int)) % (n : Int) = (q : Int) := by rw [hq, Int.natCast_emod, Int.natCast_add]
        have HQ := Lib.hid hq
        have hc1 := hc j hjn
        have hc2 := hc q hqn
        have hx1 := getD_mem ws j HW.out
        have hx2 := getD_mem ws q HW.out
        have HG := Lib.hid (show rs.getD j 0 = ws.getD q 0 by rw [HRS.out, getD_rotate ws k j (by rw [HLN.out]; omega) (by rw [HLN.out]; omega), HLN.out, ← hq])
        clear hc hq
        have HT1 := Lib.hid (wBytes_take ws j (by rw [HLN.out]; exact hjn))
        have HT2 := Lib.hid (wBytes_take rs j (by rw [HRL.out]; exact hjn))
        obtain ⟨x, hx⟩ : ∃ x, x = ws.getD j 0 := ⟨_, rfl⟩
        obtain ⟨y, hy⟩ : ∃ y, y = ws.getD q 0 := ⟨_, rfl⟩
        rw [HG.out] at HT2
        simp only [← hx, ← hy] at hc1 hc2 hx1 hx2 HT1 HT2
        obtain ⟨u1, w1, hrun1, ht1⟩ := HT.out.left [UInt8.ofNat (x / 256), UInt8.ofNat x] _ 2 (word_bytes x hx1) rfl (by rw [length_wBytes, List.length_take]; omega)
        obtain ⟨v2, w2, hrun2, ht2⟩ := ht1.right [UInt8.ofNat (y / 256), UInt8.ofNat y] _ 2 (word_bytes y hx2) rfl (by rw [length_wBytes, List.length_take]; omega)
        rw [← HT1.out, ← HT2.out] at ht2
        have HR1 := Lib.hid hrun1
        have HR2 := Lib.hid hrun2
        have HTT := Lib.hid ht2
        clear hx hy hrun1 hrun2 ht1 ht2 HG HT1 HT2
        go_wp2_with (at_builtin; (first | refine wpList_app_run HR1.out rfl rfl rfl rfl rfl ?_ | refine wpList_app_run HR2.out rfl rfl rfl rfl rfl ?_))
        go_roundw
        case rel => exact ⟨j + 1, by omega, by go_num, HTT⟩
        case measure => simp [intOf]; omega
      · obtain rfl : n = j := by omega
        rename_i u v
        have hT := HT.out
        rw [List.take_of_length_le (by rw [HLN.out]; exact Nat.le_refl _), List.take_of_length_le (by rw [HRL.out]; exact Nat.le_refl _)] at hT
        obtain ⟨h1, h2, _, h4⟩ := hT
        obtain ⟨Au, cu, eu, _, _, hbu⟩ := h1.form
        obtain ⟨Av, cv, ev, _, _, hbv⟩ := h2.form
        rw [length_wBytes, HLN.out] at eu hbu
        rw [length_wBytes, HRL.out] at ev hbv
        subst eu ev
        have HBU := Lib.hid hbu
        have HBV := Lib.hid hbv
        have HBW := Lib.hid h4
        obtain ⟨s, hs⟩ : ∃ s, s = sumOf (wBytes ws) := ⟨_, rfl⟩
        have hs1 : s = 65535 - norm ws.sum := by rw [hs]; exact sumOf_words ws HW.out
        have hs2 : s ≤ 65535 := by omega
        have hsr : sumOf (wBytes rs) = s := by
          rw [sumOf_words rs (by intro x hx; rw [HRS.out] at hx; rcases List.mem_append.1 hx with hx | hx; exact HW.out x (List.mem_of_mem_drop hx); exact HW.out x (List.mem_of_mem_take hx)), HRS.out, sum_rotate, hs1]
        have C1 := Lib.hid (sum_any Au (2 * n) cu _ _ wr HBU.out (by omega))
        rw [← hs] at C1
        obtain ⟨v3, w3, hrun3, hg3⟩ := Grow.start cu HBU.out (by omega)
        obtain ⟨v4, w4, hrun4, hg4⟩ := hg3.pushes [UInt8.ofNat odd] #[.int .u8 (odd : Int)] 1 (by unfold vals; simp only [List.map_cons, List.map_nil]; rw [ofNat_lt odd hodd]) rfl (by rw [length_wBytes, HLN.out]; omega)
        obtain ⟨v5, w5, hrun5, hg5⟩ := Grow.start cu (HBU.out.below hg4.2) (by omega)
        obtain ⟨v6, w6, hrun6, hg6⟩ := hg5.pushes [UInt8.ofNat (s / 256), UInt8.ofNat s] _ 2 (word_bytes s hs2) rfl (by rw [length_wBytes, HLN.out]; omega)
        have e6 : wBytes ws ++ [UInt8.ofNat (s / 256), UInt8.ofNat s] = wBytes (ws ++ [65535 - norm ws.sum]) := by rw [wBytes_snoc, hs1]
        rw [e6] at hg6
        obtain ⟨A6, c6, eq6, _, hb6⟩ := hg6.form
        rw [length_wBytes, List.length_append, HLN.out] at eq6 hb6
        obtain ⟨A4, c4, eq4, _, hb4⟩ := hg4.form
        rw [List.length_append, length_wBytes, HLN.out] at eq4 hb4
        simp only [List.length_cons, List.length_nil, Nat.zero_add] at eq4 hb4 eq6 hb6
        subst eq4 eq6
        have C6 := Lib.hid (sum_any A6 (2 * (n + 1)) c6 _ _ w6 hb6 (by omega))
        rw [sumOf_own ws HW.out] at C6
        have hf46 : Fut w4 w6 := hg6.2
        have hf : Fut wr w6 := Fut.trans hg4.2 hf46
        have C7 := Lib.hid (sum_any Av (2 * n) cv _ _ w6 (HBV.out.below hf) (by omega))
        rw [hsr] at C7
        have hb46 := hb4.below hf46
        have C8 := Lib.hid (sum_any A4 (2 * n + 1) c4 _ _ w6 hb46 (by omega))
        obtain ⟨v7, w7, hrun7, hg7⟩ := Grow.start c4 hb46 (by omega)
        obtain ⟨v8, w8, hrun8, hg8⟩ := hg7.pushes [0] #[.int .u8 0] 1 (by simp [vals]) rfl (by rw [List.length_append, length_wBytes, HLN.out]; simp; omega)
        obtain ⟨A8, c8, eq8, _, hb8⟩ := hg8.form
        rw [List.length_append, List.length_append, length_wBytes, HLN.out] at eq8 hb8
        simp only [List.length_cons, List.length_nil, Nat.zero_add] at eq8 hb8
        subst eq8
        have C9 := Lib.hid (sum_any A8 (2 * n + 1 + 1) c8 _ _ w8 hb8 (by omega))
        rw [sumOf_zero _ (by rw [List.length_append, length_wBytes]; simp)] at C9
        have HA := Lib.hid (awake_any w8)
        have HF8 := Lib.hid (Fut.trans HBW.out (Fut.trans hf hg8.2))
        have HR3 := Lib.hid hrun3
        have HR4 := Lib.hid hrun4
        have HR5 := Lib.hid hrun5
        have HR6 := Lib.hid hrun6
        have HR7 := Lib.hid hrun7
        have HR8 := Lib.hid hrun8
        clear h1 h2 h4 hbu hbv hs hs1 hsr hrun3 hrun4 hrun5 hrun6 hrun7 hrun8 hg3 hg4 hg5 hg6 hg7 hg8 e6 hb6 hb4 hb8 hb46 hf46 hf
        go_wp2_with fail
        refine C1.out.mono ?_
        rintro e w9 ⟨rfl, rfl⟩
        clear C1
        go_wp2_with (at_builtin; (first | refine wpList_app_run HR3.out rfl rfl rfl rfl rfl ?_ | refine wpList_app_run HR4.out rfl rfl rfl rfl rfl ?_ | refine wpList_app_run HR5.out rfl rfl rfl rfl rfl ?_ | refine wpList_app_run HR6.out rfl rfl rfl rfl rfl ?_))
        refine C6.out.mono ?_
        rintro e w9 ⟨rfl, rfl⟩
        clear C6 HR3 HR4 HR5 HR6
        go_wp2_with fail
        refine C7.out.mono ?_
        rintro e w9 ⟨rfl, rfl⟩
        clear C7
        go_wp2_with fail
        refine C8.out.mono ?_
        rintro e w9 ⟨rfl, rfl⟩
        clear C8
        go_wp2_with (at_builtin; (first | refine wpList_app_want HR7.out (by rfl) rfl rfl rfl rfl ?_ | refine wpList_app_want HR8.out (by rfl) rfl rfl rfl rfl ?_))
        refine C9.out.mono ?_
        rintro e w9 ⟨rfl, rfl⟩
        clear C9 HR7 HR8
        go_wp2_with fail
        refine HA.out.mono ?_
        rintro e w9 ⟨rfl, hb9⟩
        have HF9 := Lib.hid (Fut.trans HF8.out hb9)
        clear hb9
        go_wp2
        go_ret
        exact ⟨rfl, HF9.out⟩

end Go.Proofs.Ythndjngimfoanaa
