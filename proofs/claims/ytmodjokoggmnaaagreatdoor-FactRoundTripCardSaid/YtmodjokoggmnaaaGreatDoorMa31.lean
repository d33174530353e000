/-
  Plain facts on the tokens of a text: where each stands, and that the text from one token to the next holds that token alone.
  Conditions: none.
  The walk of the law LexExact: Scan and IsName equal the reference.
  Conditions: the variable strconv.ErrRange lies as the program's start lays it.
  The reference's Open; its parser of facts as plain functions.
  Conditions: the text has at most 65536 bytes.
-/
import Derived.Test.YtmodjokoggmnaaaGreatDoorMa6
import Derived.Test.YtmodjokoggmnaaaGreatDoorMa30
import Derived.Test.YtmodjokoggmnaaaGreatDoorMa9
import Derived.Test.YtmodjokoggmnaaaGreatDoorMa26
namespace Go.Proofs.YtmodjokoggmnaaaGreatDoor

/-- A text without tokens has none wherever it begins. -/
theorem lex_blank : ∀ (N : Nat) (l : List UInt8) (q : Nat × Nat), l.length ≤ N → lex 0 q l = .ok [] → ∀ r, lex 0 r l = .ok [] := by
  intro N
  induction N with
  | zero =>
    intro l q hl h r
    have h0 : l = [] := List.eq_nil_of_length_eq_zero (by omega)
    rw [h0, lex_nil]
  | succ N ih =>
    intro l q hl h r
    by_cases hne : l = []
    · rw [hne, lex_nil]
    cases hs : step l with
    | err e => rw [lex_er q hne hs] at h; cases h
    | skip n =>
      have hn := step_n l hne (by rw [hs]; simp)
      rw [hs] at hn
      simp only [Act1.n] at hn
      rw [lex_sk q hne hs] at h
      rw [lex_sk r hne hs]
      exact ih (l.drop n) _ (by rw [List.length_drop]; omega) h _
    | tok kd tx v n =>
      rw [lex_tk q hne hs] at h
      obtain ⟨us, _, h2⟩ := cons_ok h
      cases h2
/-- The first token of a text. -/
theorem lex_split : ∀ (N : Nat) (l : List UInt8) (q : Nat × Nat) (t : Tok) (ts : List Tok), l.length ≤ N → lex 0 q l = .ok (t :: ts) →
    ∃ a n, 1 ≤ n ∧ a + n ≤ l.length ∧ adv q (l.take a) = (t.line, t.col) ∧ step (l.drop a) = .tok t.kind t.text t.value n ∧ (∀ r, lex 0 r (l.take a) = .ok []) ∧ lex 0 (adv q (l.take (a + n))) (l.drop (a + n)) = .ok ts := by
  intro N
  induction N with
  | zero =>
    intro l q t ts hl h
    have h0 : l = [] := List.eq_nil_of_length_eq_zero (by omega)
    rw [h0, lex_nil] at h; cases h
  | succ N ih =>
    intro l q t ts hl h
    by_cases hne : l = []
    · rw [hne, lex_nil] at h; cases h
    cases hs : step l with
    | err e => rw [lex_er q hne hs] at h; cases h
    | skip n =>
      have hn := step_n l hne (by rw [hs]; simp)
      rw [hs] at hn
      simp only [Act1.n] at hn
      rw [lex_sk q hne hs] at h
      obtain ⟨a, m, hm, ham, hp, hst, hbl, hrest⟩ := ih (l.drop n) _ t ts (by rw [List.length_drop]; omega) h
      rw [List.length_drop] at ham
      refine ⟨n + a, m, hm, by omega, by rw [← adv_split]; exact hp, by rw [← List.drop_drop]; exact hst, fun r => ?_, ?_⟩
      · have hs' : step (l.take (n + a)) = .skip n := by rw [step_take l (n + a) (by rw [hs]; simp) (by omega) (by rw [hs]; simp [Act1.n])]; exact hs
        rw [lex_sk r (take_ne (by omega) hne) hs', ← take_drop_add]
        exact hbl _
      · rw [Nat.add_assoc, ← adv_split, ← List.drop_drop]; exact hrest
    | tok kd tx v n =>
      have hn := step_n l hne (by rw [hs]; simp)
      rw [hs] at hn
      simp only [Act1.n] at hn
      rw [lex_tk q hne hs] at h
      obtain ⟨us, h1, h2⟩ := cons_ok h
      injection h2 with h3 h4
      subst h3 h4
      exact ⟨0, n, hn.1, by omega, rfl, hs, fun r => by rw [List.take_zero, lex_nil], by rw [Nat.zero_add]; exact h1⟩
/-- A token and what has none behind it. -/
theorem lex_one {l : List UInt8} {kd v n m : Nat} {tx : List UInt8} (hs : step l = .tok kd tx v n) (hn : n ≤ m) (h1 : 1 ≤ n) (hl : l ≠ []) (hb : ∀ r, lex 0 r ((l.drop n).take (m - n)) = .ok []) (q : Nat × Nat) :
    lex 0 q (l.take m) = .ok [⟨kd, tx, v, q.1, q.2⟩] := by
  have hs' : step (l.take m) = .tok kd tx v n := by rw [step_take l m (by rw [hs]; simp) (by omega) (by rw [hs]; simpa [Act1.n] using hn)]; exact hs
  have e : (l.take m).drop n = (l.drop n).take (m - n) := by rw [List.drop_take]
  rw [lex_tk q (take_ne (by omega) hl) hs', e, hb]; rfl

/-- The offsets of a text's tokens: each stands at its position; the text up to the next (or the end) holds it alone. -/
def Stands (l : List UInt8) (off : Nat) : List Tok → List Nat → Prop
  | [], [] => ∀ r, lex 0 r (l.drop off) = .ok []
  | t :: ts, a :: asx => off ≤ a ∧ a < l.length ∧ adv (1, 1) (l.take a) = (t.line, t.col) ∧ (∀ r, lex 0 r ((l.drop off).take (a - off)) = .ok []) ∧ True ∧
      (∃ n, 1 ≤ n ∧ a + n ≤ l.length ∧ step (l.drop a) = .tok t.kind t.text t.value n ∧ Stands l (a + n) ts asx)
  | _, _ => False
theorem stands (l : List UInt8) : ∀ (ts : List Tok) (off : Nat), off ≤ l.length → lex 0 (adv (1, 1) (l.take off)) (l.drop off) = .ok ts → ∃ asx, Stands l off ts asx := by
  intro ts
  induction ts with
  | nil => intro off _ h; exact ⟨[], lex_blank _ _ _ (Nat.le_refl _) h⟩
  | cons t ts ih =>
    intro off ho h
    obtain ⟨a, n, hn, han, hp, hs, hb, hr⟩ := lex_split _ _ _ t ts (Nat.le_refl _) h
    rw [List.length_drop] at han
    rw [adv_split] at hp hr
    rw [List.drop_drop] at hs hr
    rw [← Nat.add_assoc] at hr
    obtain ⟨asx, has⟩ := ih (off + a + n) (by omega) hr
    exact ⟨(off + a) :: asx, by omega, by omega, hp, by rw [show off + a - off = a by omega]; exact hb, trivial, n, hn, by omega, hs, has⟩
/-- Where what follows the offsets begins. -/
def nextOf (l : List UInt8) (asx : List Nat) : Nat := match asx with | [] => l.length | a :: _ => a
theorem stands_len {l : List UInt8} : ∀ {ts : List Tok} {asx : List Nat} {off : Nat}, Stands l off ts asx → ts.length = asx.length := by
  intro ts
  induction ts with
  | nil => intro asx off h; cases asx with | nil => rfl | cons a asx => exact absurd h (by simp [Stands])
  | cons t ts ih =>
    intro asx off h
    cases asx with
    | nil => exact absurd h (by simp [Stands])
    | cons a asx => obtain ⟨_, _, _, _, _, n, _, _, _, h2⟩ := h; rw [List.length_cons, List.length_cons, ih h2]
theorem stands_count {l : List UInt8} : ∀ {ts : List Tok} {asx : List Nat} {off : Nat}, Stands l off ts asx → ts.length + off ≤ l.length ∨ ts = [] := by
  intro ts
  induction ts with
  | nil => intro asx off _; exact .inr rfl
  | cons t ts ih =>
    intro asx off h
    cases asx with
    | nil => exact absurd h (by simp [Stands])
    | cons a asx =>
      obtain ⟨h1, h2, _, _, _, n, hn, han, _, hS⟩ := h
      left
      rcases ih hS with h3 | h3
      · rw [List.length_cons]; omega
      · subst h3; simp; omega
/-- The text before the first token holds none. -/
theorem stands_blank {l : List UInt8} {ts : List Tok} {asx : List Nat} {off : Nat} (h : Stands l off ts asx) (r : Nat × Nat) : lex 0 r ((l.drop off).take (nextOf l asx - off)) = .ok [] := by
  cases ts with
  | nil =>
    cases asx with
    | nil => rw [List.take_of_length_le (by simp [nextOf])]; exact h r
    | cons a asx => exact absurd h (by simp [Stands])
  | cons t ts =>
    cases asx with
    | nil => exact absurd h (by simp [Stands])
    | cons a asx => exact h.2.2.2.1 r
theorem stands_next {l : List UInt8} {ts : List Tok} {asx : List Nat} {off : Nat} (h : Stands l off ts asx) (ho : off ≤ l.length) : off ≤ nextOf l asx ∧ nextOf l asx ≤ l.length := by
  cases ts with
  | nil =>
    cases asx with
    | nil => exact ⟨ho, Nat.le_refl _⟩
    | cons a asx => exact absurd h (by simp [Stands])
  | cons t ts =>
    cases asx with
    | nil => exact absurd h (by simp [Stands])
    | cons a asx => exact ⟨h.1, by have := h.2.1; simp [nextOf]; omega⟩
/-- Token i: its offset, its position, and what the text up to the next one holds. -/
theorem stands_at {l : List UInt8} : ∀ {ts : List Tok} {asx : List Nat} {off : Nat}, Stands l off ts asx → ∀ (i : Nat) (h1 : i < ts.length) (h2 : i < asx.length),
    asx[i] < nextOf l (asx.drop (i + 1)) ∧ nextOf l (asx.drop (i + 1)) ≤ l.length ∧ adv (1, 1) (l.take asx[i]) = ((ts[i]).line, (ts[i]).col) ∧
      ∀ q, lex 0 q ((l.take (nextOf l (asx.drop (i + 1)))).drop asx[i]) = .ok [⟨(ts[i]).kind, (ts[i]).text, (ts[i]).value, q.1, q.2⟩] := by
  intro ts
  induction ts with
  | nil => intro asx off _ i h1; simp at h1
  | cons t ts ih =>
    intro asx off h i h1 h2
    cases asx with
    | nil => simp at h2
    | cons a asx =>
      obtain ⟨ho, ha, hp, hb, _, n, hn, han, hs, hS⟩ := h
      cases i with
      | zero =>
        have hnx := stands_next hS han
        refine ⟨by simp; omega, by simpa using hnx.2, hp, fun q => ?_⟩
        have hbl := stands_blank hS
        simp only [List.drop_succ_cons, List.drop_zero, List.getElem_cons_zero]
        rw [List.drop_take]
        refine lex_one hs (by omega) hn (drop_ne ha) (fun r => ?_) q
        rw [List.drop_drop, show nextOf l asx - a - n = nextOf l asx - (a + n) by omega]
        exact hbl r
      | succ i =>
        have := ih hS i (by simpa using h1) (by simpa using h2)
        simpa using this
end Go.Proofs.YtmodjokoggmnaaaGreatDoor


namespace Go.Proofs.YtmodjokoggmnaaaGreatDoor

open Go.RowKit Go.Shelf

set_option maxHeartbeats 1000000 in
theorem rscan_big (l : List UInt8) (w : World) (hb : 65536 < l.length) (hl : l.length ≤ maxLen) :
    Calls Tryz.prog 55 #[.string ⟨l.toArray⟩] w fun e w' => e = .returned (.tuple #[.slice none 0 0, .agg #[.int .i64 0, .int .i64 0], .int .i64 15]) ∧ Below w.heap.size w w' := by
  unfold maxLen at hl
  have hsz : (⟨l.toArray⟩ : ByteArray).size = l.length := ba_size l
  go_enter Tryz.func55, Tryz.ntmps55
  go_wp2
  refine bodyPost_ret (v := .tuple #[.slice none 0 0, .agg #[.int .i64 0, .int .i64 0], .int .i64 15]) (by simp [results, Tryz.results55, go_sem]) rfl ?_
  exact ⟨rfl, (Below.refl _ _).alloc (Nat.le_refl _) _⟩
theorem rscan_ok (l : List UInt8) (ts : List Tok) (h : scan l = .ok ts) (w : World) :
    Calls Tryz.prog 55 #[.string ⟨l.toArray⟩] w fun e w' => ∃ A cap, e = .returned (.tuple #[.slice A ts.length cap, .agg #[.int .i64 0, .int .i64 0], .int .i64 0]) ∧ ts.length ≤ cap ∧ TRow w' w'.heap.size A (ts.map Tok.g) ∧ Below w.heap.size w w' := by
  have hl : l.length ≤ 65536 := by
    rcases Nat.lt_or_ge 65536 l.length with h1 | h1
    · rw [scan, if_pos h1] at h; cases h
    · exact h1
  rw [scan, if_neg (by omega)] at h
  refine (rscan_any l w hl).mono fun e w' hh => ?_
  rw [h] at hh
  obtain ⟨v, he, hown, hb⟩ := hh
  obtain ⟨A, cap, hv, hc, hr⟩ := hown.row
  rw [List.length_map] at hv hc
  exact ⟨A, cap, by rw [he, hv], hc, hr, hb⟩
theorem rscan_no (l : List UInt8) (x y er : Nat) (h : scan l = .no x y er) (w : World) (hl : l.length ≤ maxLen) :
    Calls Tryz.prog 55 #[.string ⟨l.toArray⟩] w fun e w' => e = .returned (.tuple #[.slice none 0 0, .agg #[.int .i64 x, .int .i64 y], .int .i64 er]) ∧ Below w.heap.size w w' := by
  rcases Nat.lt_or_ge 65536 l.length with h1 | h1
  · rw [scan, if_pos h1] at h
    injection h with h2 h3 h4
    subst h2 h3 h4
    exact rscan_big l w h1 hl
  · rw [scan, if_neg (by omega)] at h
    refine (rscan_any l w h1).mono fun e w' hh => ?_
    rw [h] at hh
    exact hh
theorem scan_len {l : List UInt8} {ts : List Tok} (h : scan l = .ok ts) : ts.length ≤ 65536 := by
  have hl : l.length ≤ 65536 := by
    rcases Nat.lt_or_ge 65536 l.length with h1 | h1
    · rw [scan, if_pos h1] at h; cases h
    · exact h1
  rw [scan, if_neg (by omega)] at h
  obtain ⟨os, hs⟩ := stands l ts 0 (Nat.zero_le _) (by simpa [adv] using h)
  rcases stands_count hs with h2 | h2
  · omega
  · rw [h2]; simp

end Go.Proofs.YtmodjokoggmnaaaGreatDoor


namespace Go.Proofs.YtmodjokoggmnaaaGreatDoor
open Go.RowKit Go.Shelf

def openG (l : List UInt8) : List GTok := match scan l with | .ok toks => toks.map Tok.g | .no _ _ _ => []
def openS (l : List UInt8) : RS := match scan l with | .ok _ => ⟨0, 0, 0, 0⟩ | .no x y e => ⟨0, x, y, e⟩
def OpenEnd (l : List UInt8) (w : World) (e : Ending) (w' : World) : Prop := ∃ p, e = .returned (.pointer (some ⟨p, 0, none⟩)) ∧ w.heap.size ≤ p ∧ RPS w' p l (openG l) (openS l) ∧ Below w.heap.size w w'
set_option maxRecDepth 50000 in
set_option maxHeartbeats 1000000 in
theorem rOpen_any (l : List UInt8) (w : World) (hl : l.length ≤ 65536) :
    Calls Tryz.prog 24 #[.string ⟨l.toArray⟩] w (OpenEnd l w) := by
  cases hsc : scan l with
  | no x y er =>
    have HS := Lib.hid (rscan_no l x y er hsc w (by unfold maxLen; omega))
    have HG : Hid (openG l = []) := Lib.hid (by unfold openG; rw [hsc])
    have HO : Hid (openS l = ⟨0, x, y, er⟩) := Lib.hid (by unfold openS; rw [hsc])
    generalize (er : Int) = ei at *
    generalize (x : Int) = xi at *
    generalize (y : Int) = yi at *
    clear hsc
    go_enter Tryz.func24, Tryz.ntmps24
    go_wp2_with fail
    go_fit HS.out
    rintro e w1 ⟨rfl, hb1⟩
    have hs1 := hb1.size
    have HB := Lib.hid (bel_lit (bel_lit hb1 (.cells #[.int .i64 xi, .int .i64 yi] 26)) (.cells #[.string ⟨l.toArray⟩, .slice none 0 0, .int .i64 0, .int .i64 xi, .int .i64 yi, .int .i64 ei] 62))
    have HR : Hid (RPS ((w1.alloc (.cells #[.int .i64 xi, .int .i64 yi] 26)).alloc (.cells #[.string ⟨l.toArray⟩, .slice none 0 0, .int .i64 0, .int .i64 xi, .int .i64 yi, .int .i64 ei] 62)) (w1.heap.size + 1) l [] ⟨0, xi, yi, ei⟩) := Lib.hid ⟨none, 0, by have h := heap_alloc_new (w1.alloc (.cells #[.int .i64 xi, .int .i64 yi] 26)) (.cells #[.string ⟨l.toArray⟩, .slice none 0 0, .int .i64 0, .int .i64 xi, .int .i64 yi, .int .i64 ei] 62); simpa using h, GRow.nil⟩
    clear hb1 HS
    go_wp2
    go_ret
    exact ⟨w1.heap.size + 1, rfl, by omega, by rw [HG.out, HO.out]; exact HR.out, HB.out⟩
  | ok toks =>
    have HS := Lib.hid (rscan_ok l toks hsc w)
    have HG : Hid (openG l = toks.map Tok.g) := Lib.hid (by unfold openG; rw [hsc])
    have HO : Hid (openS l = ⟨0, 0, 0, 0⟩) := Lib.hid (by unfold openS; rw [hsc])
    clear hsc
    go_enter Tryz.func24, Tryz.ntmps24
    go_wp2_with fail
    go_fit HS.out
    rintro e w1 ⟨A, cap, rfl, hcap, hrow, hb1⟩
    have hs1 := hb1.size
    have hln : (toks.map Tok.g).length = toks.length := by simp
    have HB := Lib.hid (bel_lit (bel_lit hb1 (.cells #[.int .i64 0, .int .i64 0] 26)) (.cells #[.string ⟨l.toArray⟩, .slice A toks.length cap, .int .i64 0, .int .i64 0, .int .i64 0, .int .i64 0] 62))
    have HR : Hid (RPS ((w1.alloc (.cells #[.int .i64 0, .int .i64 0] 26)).alloc (.cells #[.string ⟨l.toArray⟩, .slice A toks.length cap, .int .i64 0, .int .i64 0, .int .i64 0, .int .i64 0] 62)) (w1.heap.size + 1) l (toks.map Tok.g) ⟨0, 0, 0, 0⟩) := Lib.hid ⟨A, cap, by
        have h := heap_alloc_new (w1.alloc (.cells #[.int .i64 0, .int .i64 0] 26)) (.cells #[.string ⟨l.toArray⟩, .slice A toks.length cap, .int .i64 0, .int .i64 0, .int .i64 0, .int .i64 0] 62)
        rw [hln]
        simpa using h, by
        have h2 : GRow GTok.cells 5 w1 w1.heap.size A (toks.map Tok.g) := fun hn => by
          obtain ⟨b, off, e, hb, hc⟩ := hrow hn
          exact ⟨b, off, e, hb, hc⟩
        exact ((h2.keep (w' := (w1.alloc (.cells #[.int .i64 0, .int .i64 0] 26)).alloc (.cells #[.string ⟨l.toArray⟩, .slice A toks.length cap, .int .i64 0, .int .i64 0, .int .i64 0, .int .i64 0] 62)) fun g hg => (Below.heap_alloc _ _ g (by simp; omega)).trans (Below.heap_alloc _ _ g hg)).wide (by omega))⟩
    clear hb1 HS hrow hln
    go_wp2
    go_ret
    exact ⟨w1.heap.size + 1, rfl, by omega, by rw [HG.out, HO.out]; exact HR.out, HB.out⟩
/-- The loop over a fact's arguments. -/
def rArgsR (l : List UInt8) (gs : List GTok) : Nat → RS → List GVal → RS × List GVal
  | 0, s, a => (s, a)
  | n + 1, s, a =>
    if s.e ≠ 0 then (s, a) else
    let s1 := if 8 ≤ a.length ∧ peekR gs s 4 [45] = true then failR l gs s s.i 15 else s
    let s3 := if 8 ≤ a.length then failR l gs (argR l gs s1).2 s.i 15 else (argR l gs s1).2
    if peekR gs s3 4 [44] then rArgsR l gs n (takeR gs s3 4 [44]) (a ++ [(argR l gs s1).1]) else (s3, a ++ [(argR l gs s1).1])
/-- The loop over the facts. -/
def rFactsR (l : List UInt8) (gs : List GTok) : Nat → RS → List GFact → RS × List GFact
  | 0, s, o => (s, o)
  | n + 1, s, o =>
    if s.e = 0 ∧ doneR gs s = false then
      let s1 := nameR l gs s 1
      let s2 := if 8192 ≤ o.length then failR l gs s1 (s1.i - 1) 15 else s1
      let r := rArgsR l gs (gs.length + 1) (needR l gs s2 4 [40]) []
      rFactsR l gs n (needR l gs (needR l gs r.1 4 [41]) 4 [46]) (o ++ [⟨(anyT gs s 1).text, r.2⟩])
    else (s, o)
end Go.Proofs.YtmodjokoggmnaaaGreatDoor
