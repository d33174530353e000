/-
  The contracts of Bytes (the program's and the reference's): both return the same bytes, offset and error; what is returned lies in new memory; nothing that was there turns. And of the reference's AppendBytes.
  Conditions: the argument reads as a list of bytes of at most 2^32 elements.
-/
import Derived.Test.YthndjngimfoanaaVard
import Derived.Test.YthndjngimfoanaaStr
namespace Go.Proofs.Ythndjngimfoanaa
open Go.RowKit

/-- The slice value v holds the bytes l. -/
def SliceIs (w : World) (v : Value) (l : List UInt8) : Prop := ∃ A m cap, v = .slice A m cap ∧ m ≤ cap ∧ Byt w w.heap.size A m l
theorem SliceIs.nil (w : World) : SliceIs w (.slice none 0 0) [] := ⟨none, 0, 0, rfl, Nat.le_refl _, Byt.nil⟩
theorem SliceIs.later {w w' : World} {v : Value} {l : List UInt8} (h : SliceIs w v l) (hf : Fut w w') : SliceIs w' v l := by
  obtain ⟨A, m, cap, e, hc, hb⟩ := h
  exact ⟨A, m, cap, e, hc, (hb.below hf).wide hf.size⟩

/-- Bytes, offset behind them, error. -/
def bysR (l : List UInt8) (off limit : Int) : List UInt8 × Nat × Int :=
  if limit < 0 ∨ off < 0 ∨ (l.length : Int) < off then ([], 0, 6)
  else if (uvR l off).2.2 ≠ 0 then ([], 0, (uvR l off).2.2)
  else if limit < (uvR l off).1 then ([], 0, 15)
  else if l.length - (uvR l off).2.1 < (uvR l off).1 then ([], 0, 52)
  else ((l.take ((uvR l off).2.1 + (uvR l off).1)).drop (uvR l off).2.1, (uvR l off).2.1 + (uvR l off).1, 0)

theorem uvD_next (l : List UInt8) (o : Nat) : ∀ (f k acc : Nat), (uvD l o f k acc).2.2 = 0 → o + k < (uvD l o f k acc).2.1 ∧ (uvD l o f k acc).2.1 ≤ l.length
  | 0, k, acc => by simp [uvD]
  | f + 1, k, acc => by
    by_cases h1 : l.length ≤ o + k
    · rw [uvD_end rfl rfl h1]; simp
    · by_cases h2 : k = 9 ∧ 1 < bt l (o + k)
      · rw [uvD_range rfl rfl (by omega) rfl h2.1 h2.2]; simp
      · by_cases h3 : 0 < k ∧ bt l (o + k) = 0
        · rw [uvD_canon rfl rfl (by omega) rfl h2 h3.1 h3.2]; simp
        · by_cases h4 : bt l (o + k) < 128
          · rw [uvD_last rfl rfl (by omega) rfl h2 h3 h4]
            intro _
            show o + k < o + k + 1 ∧ o + k + 1 ≤ _
            omega
          · rw [uvD_more rfl rfl (by omega) rfl h2 h3 h4]
            intro h
            have := uvD_next l o f (k + 1) _ h
            omega
theorem uvR_next (l : List UInt8) (off : Int) (h : (uvR l off).2.2 = 0) : 0 ≤ off ∧ off < (uvR l off).2.1 ∧ (uvR l off).2.1 ≤ l.length := by
  unfold uvR at h ⊢
  split at h
  · simp at h
  · rename_i hr
    rw [if_neg hr]
    have := uvD_next l off.toNat 10 0 0 h
    omega

section
variable {l : List UInt8} {off limit : Int} {u nx n : Nat} {er : Int}
theorem bysR_low (h : limit < 0) : bysR l off limit = ([], 0, 6) := by unfold bysR; rw [if_pos (.inl h)]
theorem bysR_err (hl : ¬ limit < 0) (hR : (u, nx, er) = uvR l off) (he : er ≠ 0) : bysR l off limit = ([], 0, er) := by
  unfold bysR; rw [← hR]
  by_cases hr : off < 0 ∨ (l.length : Int) < off
  · have h6 : uvR l off = (0, 0, 6) := by unfold uvR; rw [if_pos hr]
    rw [h6] at hR
    injection hR with _ hR
    injection hR with _ hR
    rw [if_pos (.inr hr), hR]
  · rw [if_neg (by omega), if_pos he]
theorem bysR_limit (hl : ¬ limit < 0) (hR : (u, nx, 0) = uvR l off) (h : limit < u) : bysR l off limit = ([], 0, 15) := by
  have hn := uvR_next l off (by rw [← hR])
  unfold bysR; rw [← hR]; rw [← hR] at hn
  simp only at hn
  rw [if_neg (by omega), if_neg (by simp), if_pos h]
theorem bysR_short (hl : ¬ limit < 0) (hR : (u, nx, 0) = uvR l off) (h : ¬ limit < u) (hs : l.length - nx < u) : bysR l off limit = ([], 0, 52) := by
  have hn := uvR_next l off (by rw [← hR])
  unfold bysR; rw [← hR]; rw [← hR] at hn
  simp only at hn
  rw [if_neg (by omega), if_neg (by simp), if_neg h, if_pos hs]
theorem bysR_ok (hl : ¬ limit < 0) (hR : (u, nx, 0) = uvR l off) (h : ¬ limit < u) (hs : ¬ l.length - nx < u) : bysR l off limit = ((l.take (nx + u)).drop nx, nx + u, 0) := by
  have hn := uvR_next l off (by rw [← hR])
  unfold bysR; rw [← hR]; rw [← hR] at hn
  simp only at hn
  rw [if_neg (by omega), if_neg (by simp), if_neg h, if_neg hs]
end

def BysPost (w : World) (l : List UInt8) (off limit : Int) (e : Ending) (w' : World) : Prop :=
  ∃ v, e = .returned (.tuple #[v, .int .i64 ((bysR l off limit).2.1 : Nat), .int .i64 (bysR l off limit).2.2]) ∧ SliceIs w' v (bysR l off limit).1 ∧ Fut w w'
theorem BysPost.bad {w : World} {l : List UInt8} {off limit er : Int} (h : bysR l off limit = ([], 0, er)) : BysPost w l off limit (.returned (.tuple #[.slice none 0 0, .int .i64 0, .int .i64 er])) w := by
  unfold BysPost; rw [h]; exact ⟨_, rfl, SliceIs.nil w, Fut.refl w⟩

theorem ret_sl {k : IntKind} {v x : Value} {a b : Int} (h : a = b) : Ending.returned (.tuple #[v, .int k a, x]) = .returned (.tuple #[v, .int k b, x]) := by rw [h]

set_option maxRecDepth 20000 in
set_option maxHeartbeats 1600000 in
theorem bytes_any (A : Option Addr) (n c B : Nat) (off limit : Int) (l : List UInt8) (w : World) (h : Byt w B A n l) (hB : B ≤ w.heap.size) (hn : n ≤ 4294967296) (hnc : n ≤ c) (hlim : Hid (limit ≤ 9223372036854775807)) :
    Calls Try.prog 31 #[.slice A n c, .int .i64 off, .int .i64 limit] w (BysPost w l off limit) := by
  by_cases hl : limit < 0
  · have HX := Lib.hid (BysPost.bad (w := w) (bysR_low (l := l) (off := off) hl))
    clear h
    go_enter Try.func31, Try.ntmps31
    go_wp2
    go_ret3
    exact HX.out
  · have hw : IntKind.u64.wrap limit = limit := by rw [IntKind.wrap_u64]; have := hlim.out; omega
    have hc := uvarint_any A n c B off l w h hn
    have hf := uvR_facts l off
    have hx := uvR_next l off
    obtain ⟨R, hR⟩ : ∃ R, R = uvR l off := ⟨_, rfl⟩
    rw [← hR] at hc hf hx
    obtain ⟨u, nx, er⟩ := R
    simp only at hc hf hx
    have HC := Lib.hid hc
    have HR := Lib.hid hR
    have HH := Lib.hid h
    have HL := Lib.hid h.1
    by_cases he : er = 0
    · subst he
      obtain ⟨_, hx1, hx2⟩ := hx rfl
      rw [h.1] at hx2
      by_cases h1 : limit < u
      · have HX := Lib.hid (BysPost.bad (w := w) (bysR_limit hl HR.out h1))
        have h1' : decide (limit < (u : Int)) = true := by simpa using h1
        clear h hc hf hx hR
        go_enter Try.func31, Try.ntmps31
        go_wp2_with fail
        refine HC.out.mono ?_
        rintro e w1 ⟨rfl, rfl⟩
        go_wp2
        go_ret3
        exact HX.out
      · have h1' : decide (limit < (u : Int)) = false := by simpa using h1
        by_cases h2 : n - nx < u
        · have HX := Lib.hid (BysPost.bad (w := w) (bysR_short hl HR.out h1 (by rw [HL.out]; exact h2)))
          have h2' : (n : Int) - (nx : Int) < (u : Int) := by omega
          clear h hc hf hx hR
          go_enter Try.func31, Try.ntmps31
          go_wp2_with fail
          refine HC.out.mono ?_
          rintro e w1 ⟨rfl, rfl⟩
          go_wp2
          go_ret3
          exact HX.out
        · have HX := Lib.hid (bysR_ok hl HR.out h1 (by rw [HL.out]; exact h2))
          have h2' : ¬ (n : Int) - (nx : Int) < (u : Int) := by omega
          have hu : u ≤ 4294967296 := by omega
          have hcut := cut_both A n c nx (nx + u) (by omega) (by omega)
          rw [show nx + u - nx = u by omega, show ((nx + u : Nat) : Int) = (nx : Int) + (u : Int) by omega] at hcut
          have hby := h.cut (j := nx) (k := nx + u) (cap := c) (by omega) (by omega) hnc
          rw [show nx + u - nx = u by omega] at hby
          have HBY := Lib.hid hby
          obtain ⟨D, hD⟩ : ∃ D, D = cutA A c nx := ⟨_, rfl⟩
          rw [← hD] at hcut HBY
          have HJ := Lib.hid (join_one D u (c - nx) _ B w HBY.out hB (by omega))
          clear h hc hf hx hR hD hby
          go_enter Try.func31, Try.ntmps31
          go_wp2_with fail
          refine HC.out.mono ?_
          rintro e w1 ⟨rfl, rfl⟩
          go_wp2_with fail
          refine HJ.out.mono ?_
          rintro e w2 ⟨rfl, hr, hb⟩
          have HR2 := Lib.hid hr
          have HB2 := Lib.hid hb
          clear hr hb
          go_wp2
          go_ret3
          unfold BysPost
          rw [HX.out]
          exact ⟨_, ret_sl (Int.natCast_add nx u).symm, ⟨_, _, _, rfl, Nat.le_refl _, HR2.out.byt' HR2.out.lt HBY.out.1⟩, HB2.out⟩
    · have HX := Lib.hid (BysPost.bad (w := w) (bysR_err hl HR.out he))
      have he' : (er != 0) = true := by simpa using he
      clear h hc hf hx hR
      go_enter Try.func31, Try.ntmps31
      go_wp2_with fail
      refine HC.out.mono ?_
      rintro e w1 ⟨rfl, rfl⟩
      go_wp2
      go_ret3
      exact HX.out

set_option maxRecDepth 20000 in
set_option maxHeartbeats 1600000 in
theorem bytesRef_any (A : Option Addr) (n c B : Nat) (off limit : Int) (l : List UInt8) (w : World) (h : Byt w B A n l) (hn : n ≤ 4294967296) (hnc : n ≤ c) (hlim : Hid (limit ≤ 9223372036854775807)) :
    Calls Try.prog 32 #[.slice A n c, .int .i64 off, .int .i64 limit] w (BysPost w l off limit) := by
  by_cases hl : limit < 0
  · have HX := Lib.hid (BysPost.bad (w := w) (bysR_low (l := l) (off := off) hl))
    have hld : decide (limit < 0) = true := by simpa using hl
    clear h
    by_cases ha : off < 0
    · have had : decide (off < 0) = true := by simpa using ha
      go_enter Try.func32, Try.ntmps32
      go_wp2
      go_ret3
      exact HX.out
    · have had : decide (off < 0) = false := by simpa using ha
      by_cases hb : (n : Int) < off
      · have hbd : decide ((n : Int) < off) = true := by simpa using hb
        go_enter Try.func32, Try.ntmps32
        go_wp2
        go_ret3
        exact HX.out
      · have hbd : decide ((n : Int) < off) = false := by simpa using hb
        go_enter Try.func32, Try.ntmps32
        go_wp2
        go_ret3
        exact HX.out
  · have hw : IntKind.u64.wrap limit = limit := by rw [IntKind.wrap_u64]; have := hlim.out; omega
    have hld : decide (limit < 0) = false := by simpa using hl
    by_cases hr : off < 0 ∨ (n : Int) < off
    · have h6 : bysR l off limit = ([], 0, 6) := by unfold bysR; rw [if_pos (by rw [h.1]; exact .inr hr)]
      have HX := Lib.hid (BysPost.bad (w := w) h6)
      clear h h6
      rcases hr with hr | hr
      · have had : decide (off < 0) = true := by simpa using hr
        go_enter Try.func32, Try.ntmps32
        go_wp2
        go_ret3
        exact HX.out
      · have had : decide (off < 0) = false := by simp; omega
        have hbd : decide ((n : Int) < off) = true := by simpa using hr
        go_enter Try.func32, Try.ntmps32
        go_wp2
        go_ret3
        exact HX.out
    · obtain ⟨o, rfl⟩ : ∃ o : Nat, off = (o : Int) := ⟨off.toNat, by omega⟩
      have ho : o ≤ n := by omega
      have had : decide ((o : Int) < 0) = false := by simp
      have hbd : decide (n < o) = false := by simpa using ho
      clear hr
      have hc := uvarintRef_any A n c B (o : Int) l w h hn
      have hf := uvR_facts l (o : Int)
      have hx := uvR_next l (o : Int)
      obtain ⟨R, hR⟩ : ∃ R, R = uvR l (o : Int) := ⟨_, rfl⟩
      rw [← hR] at hc hf hx
      obtain ⟨u, nx, er⟩ := R
      simp only at hc hf hx
      have HC := Lib.hid hc
      have HR := Lib.hid hR
      have HL := Lib.hid h.1
      by_cases he : er = 0
      · subst he
        obtain ⟨_, hx1, hx2⟩ := hx rfl
        rw [h.1] at hx2
        by_cases h1 : limit < u
        · have HX := Lib.hid (BysPost.bad (w := w) (bysR_limit hl HR.out h1))
          have h1' : decide (limit < (u : Int)) = true := by simpa using h1
          clear h hc hf hx hR
          go_enter Try.func32, Try.ntmps32
          go_wp2_with fail
          refine HC.out.mono ?_
          rintro e w1 ⟨rfl, rfl⟩
          go_wp2
          go_ret3
          exact HX.out
        · have h1' : decide (limit < (u : Int)) = false := by simpa using h1
          by_cases h2 : n - nx < u
          · have HX := Lib.hid (BysPost.bad (w := w) (bysR_short hl HR.out h1 (by rw [HL.out]; exact h2)))
            have h2' : (n : Int) - (nx : Int) < (u : Int) := by omega
            clear h hc hf hx hR
            go_enter Try.func32, Try.ntmps32
            go_wp2_with fail
            refine HC.out.mono ?_
            rintro e w1 ⟨rfl, rfl⟩
            go_wp2
            go_ret3
            exact HX.out
          · have HX := Lib.hid (bysR_ok hl HR.out h1 (by rw [HL.out]; exact h2))
            have h2' : ¬ (n : Int) - (nx : Int) < (u : Int) := by omega
            have hu : u ≤ 4294967296 := by omega
            have hcut := cut_both A n c nx (nx + u) (by omega) (by omega)
            rw [show nx + u - nx = u by omega, show ((nx + u : Nat) : Int) = (nx : Int) + (u : Int) by omega] at hcut
            have hby := h.cut (j := nx) (k := nx + u) (cap := c) (by omega) (by omega) hnc
            rw [show nx + u - nx = u by omega] at hby
            obtain ⟨D, hD⟩ : ∃ D, D = cutA A c nx := ⟨_, rfl⟩
            rw [← hD] at hcut hby
            obtain ⟨v1, w1, hrun1, hg1⟩ := Grow.start (c - nx) hby (by omega)
            have HR1 := Lib.hid hrun1
            have HG1 := Lib.hid hg1
            clear h hc hf hx hR hD hby hrun1 hg1
            go_enter Try.func32, Try.ntmps32
            go_wp2_with fail
            refine HC.out.mono ?_
            rintro e w2 ⟨rfl, rfl⟩
            go_wp2_with (at_builtin; refine wpList_app_run HR1.out rfl rfl rfl rfl rfl ?_)
            go_ret3
            unfold BysPost
            rw [HX.out]
            obtain ⟨A3, c3, e3, hc3, hb3⟩ := HG1.out.form
            exact ⟨_, ret_sl (Int.natCast_add nx u).symm, ⟨_, _, _, e3, hc3, hb3⟩, HG1.out.2⟩
      · have HX := Lib.hid (BysPost.bad (w := w) (bysR_err hl HR.out he))
        have he' : (er != 0) = true := by simpa using he
        clear h hc hf hx hR
        go_enter Try.func32, Try.ntmps32
        go_wp2_with fail
        refine HC.out.mono ?_
        rintro e w1 ⟨rfl, rfl⟩
        go_wp2
        go_ret3
        exact HX.out

set_option maxRecDepth 20000 in
set_option maxHeartbeats 800000 in
theorem appBRef_any (A : Option Addr) (n c B : Nat) (l : List UInt8) (A2 : Option Addr) (n2 c2 : Nat) (l2 : List UInt8) (w : World) (h : Byt w B A n l) (h2 : Byt w B A2 n2 l2) (hB : B ≤ w.heap.size) (hn : n ≤ 4294967296) (hn2 : n2 ≤ 4294967296) :
    Calls Try.prog 34 #[.slice A n c, .slice A2 n2 c2] w fun e w' => ∃ t, e = .returned t ∧ Grow w w' t (l ++ uvar n2 ++ l2) := by
  have HC := Lib.hid (appURef_any A n c B n2 l w h hn (by omega))
  have HH2 := Lib.hid h2
  have hlen : (l ++ uvar n2).length ≤ n + 10 := by rw [List.length_append, h.1]; have := uvar_len n2; omega
  have HLN := Lib.hid hlen
  clear h h2 hlen
  go_enter Try.func34, Try.ntmps34
  go_wp2_with fail
  refine HC.out.mono ?_
  rintro e w1 ⟨t, rfl, hG⟩
  obtain ⟨v2, w2, hrun2, ho, hb, hz⟩ := hG.1.app c2 (HH2.out.below (hG.2.mono hB)) hG.2 hG.2.size (by have := HLN.out; omega)
  have HR2 := Lib.hid hrun2
  have HG2 := Lib.hid (show Grow w w2 v2 (l ++ uvar n2 ++ l2) from ⟨ho, hb⟩)
  clear hrun2 ho hb hG
  go_wp2_with (at_builtin; refine wpList_app_run HR2.out rfl rfl rfl rfl rfl ?_)
  go_ret
  exact ⟨_, rfl, HG2.out⟩

end Go.Proofs.Ythndjngimfoanaa
