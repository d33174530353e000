/-
  The walk of the law LexExact: Scan and IsName equal the reference.
  Conditions: the variable strconv.ErrRange lies as the program's start lays it.
  The reference's Open; its parser of facts as plain functions.
  Conditions: the text has at most 65536 bytes.
  Two strictly ascending lists of facts with the same members are one list.
  Conditions: none.
-/
import Derived.Test.YtmodjokoggmnaaaGreatDoorMa30
import Derived.Test.YtmodjokoggmnaaaGreatDoorMa9
import Derived.Test.YtmodjokoggmnaaaGreatDoorMa26
import Derived.Test.YtmodjokoggmnaaaGreatDoorMa17
namespace Go.Proofs.YtmodjokoggmnaaaGreatDoor

open Go.RowKit Go.Shelf

set_option maxHeartbeats 1000000 in
theorem rscan_big (l : List UInt8) (w : World) (hb : 65536 < l.length) (hl : l.length ≤ maxLen) :
    Calls Tryz.prog 55 #[.string ⟨l.toArray⟩] w fun e w' => e = .returned (.tuple #[.slice none 0 0, .agg #[.int .i64 0, .int .i64 0], .int .i64 15]) ∧ Below w.heap.size w w' := by
  unfold maxLen at hl
  have hsz : (⟨l.toArray⟩ : ByteArray).size = l.length := ba_size l
  go_enter Tryz.func55, Tryz.ntmps55
  go_wp2
  refine bodyPost_ret (v := .tuple #[.slice none 0 0, .agg #[.int .i64 0, .int .i64 0], .int .i64 15]) (by simp [results, Tryz.results55, go_sem]) rfl ?_
  exact ⟨rfl, (Below.refl _ _).alloc (Nat.le_refl _) _⟩
theorem rscan_ok (l : List UInt8) (ts : List Tok) (h : scan l = .ok ts) (w : World) :
    Calls Tryz.prog 55 #[.string ⟨l.toArray⟩] w fun e w' => ∃ A cap, e = .returned (.tuple #[.slice A ts.length cap, .agg #[.int .i64 0, .int .i64 0], .int .i64 0]) ∧ ts.length ≤ cap ∧ TRow w' w'.heap.size A (ts.map Tok.g) ∧ Below w.heap.size w w' := by
  have hl : l.length ≤ 65536 := by
    rcases Nat.lt_or_ge 65536 l.length with h1 | h1
    · rw [scan, if_pos h1] at h; cases h
    · exact h1
  rw [scan, if_neg (by omega)] at h
  refine (rscan_any l w hl).mono fun e w' hh => ?_
  rw [h] at hh
  obtain ⟨v, he, hown, hb⟩ := hh
  obtain ⟨A, cap, hv, hc, hr⟩ := hown.row
  rw [List.length_map] at hv hc
  exact ⟨A, cap, by rw [he, hv], hc, hr, hb⟩
theorem rscan_no (l : List UInt8) (x y er : Nat) (h : scan l = .no x y er) (w : World) (hl : l.length ≤ maxLen) :
    Calls Tryz.prog 55 #[.string ⟨l.toArray⟩] w fun e w' => e = .returned (.tuple #[.slice none 0 0, .agg #[.int .i64 x, .int .i64 y], .int .i64 er]) ∧ Below w.heap.size w w' := by
  rcases Nat.lt_or_ge 65536 l.length with h1 | h1
  · rw [scan, if_pos h1] at h
    injection h with h2 h3 h4
    subst h2 h3 h4
    exact rscan_big l w h1 hl
  · rw [scan, if_neg (by omega)] at h
    refine (rscan_any l w h1).mono fun e w' hh => ?_
    rw [h] at hh
    exact hh
theorem scan_len {l : List UInt8} {ts : List Tok} (h : scan l = .ok ts) : ts.length ≤ 65536 := by
  have hl : l.length ≤ 65536 := by
    rcases Nat.lt_or_ge 65536 l.length with h1 | h1
    · rw [scan, if_pos h1] at h; cases h
    · exact h1
  rw [scan, if_neg (by omega)] at h
  obtain ⟨os, hs⟩ := stands l ts 0 (Nat.zero_le _) (by simpa [adv] using h)
  rcases stands_count hs with h2 | h2
  · omega
  · rw [h2]; simp

end Go.Proofs.YtmodjokoggmnaaaGreatDoor


namespace Go.Proofs.YtmodjokoggmnaaaGreatDoor
open Go.RowKit Go.Shelf

def openG (l : List UInt8) : List GTok := match scan l with | .ok toks => toks.map Tok.g | .no _ _ _ => []
def openS (l : List UInt8) : RS := match scan l with | .ok _ => ⟨0, 0, 0, 0⟩ | .no x y e => ⟨0, x, y, e⟩
def OpenEnd (l : List UInt8) (w : World) (e : Ending) (w' : World) : Prop := ∃ p, e = .returned (.pointer (some ⟨p, 0, none⟩)) ∧ w.heap.size ≤ p ∧ RPS w' p l (openG l) (openS l) ∧ Below w.heap.size w w'
set_option maxRecDepth 50000 in
set_option maxHeartbeats 1000000 in
theorem rOpen_any (l : List UInt8) (w : World) (hl : l.length ≤ 65536) :
    Calls Tryz.prog 24 #[.string ⟨l.toArray⟩] w (OpenEnd l w) := by
  cases hsc : scan l with
  | no x y er =>
    have HS := Lib.hid (rscan_no l x y er hsc w (by unfold maxLen; omega))
    have HG : Hid (openG l = []) := Lib.hid (by unfold openG; rw [hsc])
    have HO : Hid (openS l = ⟨0, x, y, er⟩) := Lib.hid (by unfold openS; rw [hsc])
    generalize (er : Int) = ei at *
    generalize (x : Int) = xi at *
    generalize (y : Int) = yi at *
    clear hsc
    go_enter Tryz.func24, Tryz.ntmps24
    go_wp2_with fail
    go_fit HS.out
    rintro e w1 ⟨rfl, hb1⟩
    have hs1 := hb1.size
    have HB := Lib.hid (bel_lit (bel_lit hb1 (.cells #[.int .i64 xi, .int .i64 yi] 26)) (.cells #[.string ⟨l.toArray⟩, .slice none 0 0, .int .i64 0, .int .i64 xi, .int .i64 yi, .int .i64 ei] 62))
    have HR : Hid (RPS ((w1.alloc (.cells #[.int .i64 xi, .int .i64 yi] 26)).alloc (.cells #[.string ⟨l.toArray⟩, .slice none 0 0, .int .i64 0, .int .i64 xi, .int .i64 yi, .int .i64 ei] 62)) (w1.heap.size + 1) l [] ⟨0, xi, yi, ei⟩) := Lib.hid ⟨none, 0, by have h := heap_alloc_new (w1.alloc (.cells #[.int .i64 xi, .int .i64 yi] 26)) (.cells #[.string ⟨l.toArray⟩, .slice none 0 0, .int .i64 0, .int .i64 xi, .int .i64 yi, .int .i64 ei] 62); simpa using h, GRow.nil⟩
    clear hb1 HS
    go_wp2
    go_ret
    exact ⟨w1.heap.size + 1, rfl, by omega, by rw [HG.out, HO.out]; exact HR.out, HB.out⟩
  | ok toks =>
    have HS := Lib.hid (rscan_ok l toks hsc w)
    have HG : Hid (openG l = toks.map Tok.g) := Lib.hid (by unfold openG; rw [hsc])
    have HO : Hid (openS l = ⟨0, 0, 0, 0⟩) := Lib.hid (by unfold openS; rw [hsc])
    clear hsc
    go_enter Tryz.func24, Tryz.ntmps24
    go_wp2_with fail
    go_fit HS.out
    rintro e w1 ⟨A, cap, rfl, hcap, hrow, hb1⟩
    have hs1 := hb1.size
    have hln : (toks.map Tok.g).length = toks.length := by simp
    have HB := Lib.hid (bel_lit (bel_lit hb1 (.cells #[.int .i64 0, .int .i64 0] 26)) (.cells #[.string ⟨l.toArray⟩, .slice A toks.length cap, .int .i64 0, .int .i64 0, .int .i64 0, .int .i64 0] 62))
    have HR : Hid (RPS ((w1.alloc (.cells #[.int .i64 0, .int .i64 0] 26)).alloc (.cells #[.string ⟨l.toArray⟩, .slice A toks.length cap, .int .i64 0, .int .i64 0, .int .i64 0, .int .i64 0] 62)) (w1.heap.size + 1) l (toks.map Tok.g) ⟨0, 0, 0, 0⟩) := Lib.hid ⟨A, cap, by
        have h := heap_alloc_new (w1.alloc (.cells #[.int .i64 0, .int .i64 0] 26)) (.cells #[.string ⟨l.toArray⟩, .slice A toks.length cap, .int .i64 0, .int .i64 0, .int .i64 0, .int .i64 0] 62)
        rw [hln]
        simpa using h, by
        have h2 : GRow GTok.cells 5 w1 w1.heap.size A (toks.map Tok.g) := fun hn => by
          obtain ⟨b, off, e, hb, hc⟩ := hrow hn
          exact ⟨b, off, e, hb, hc⟩
        exact ((h2.keep (w' := (w1.alloc (.cells #[.int .i64 0, .int .i64 0] 26)).alloc (.cells #[.string ⟨l.toArray⟩, .slice A toks.length cap, .int .i64 0, .int .i64 0, .int .i64 0, .int .i64 0] 62)) fun g hg => (Below.heap_alloc _ _ g (by simp; omega)).trans (Below.heap_alloc _ _ g hg)).wide (by omega))⟩
    clear hb1 HS hrow hln
    go_wp2
    go_ret
    exact ⟨w1.heap.size + 1, rfl, by omega, by rw [HG.out, HO.out]; exact HR.out, HB.out⟩
/-- The loop over a fact's arguments. -/
def rArgsR (l : List UInt8) (gs : List GTok) : Nat → RS → List GVal → RS × List GVal
  | 0, s, a => (s, a)
  | n + 1, s, a =>
    if s.e ≠ 0 then (s, a) else
    let s1 := if 8 ≤ a.length ∧ peekR gs s 4 [45] = true then failR l gs s s.i 15 else s
    let s3 := if 8 ≤ a.length then failR l gs (argR l gs s1).2 s.i 15 else (argR l gs s1).2
    if peekR gs s3 4 [44] then rArgsR l gs n (takeR gs s3 4 [44]) (a ++ [(argR l gs s1).1]) else (s3, a ++ [(argR l gs s1).1])
/-- The loop over the facts. -/
def rFactsR (l : List UInt8) (gs : List GTok) : Nat → RS → List GFact → RS × List GFact
  | 0, s, o => (s, o)
  | n + 1, s, o =>
    if s.e = 0 ∧ doneR gs s = false then
      let s1 := nameR l gs s 1
      let s2 := if 8192 ≤ o.length then failR l gs s1 (s1.i - 1) 15 else s1
      let r := rArgsR l gs (gs.length + 1) (needR l gs s2 4 [40]) []
      rFactsR l gs n (needR l gs (needR l gs r.1 4 [41]) 4 [46]) (o ++ [⟨(anyT gs s 1).text, r.2⟩])
    else (s, o)
end Go.Proofs.YtmodjokoggmnaaaGreatDoor


namespace Go.Proofs.YtmodjokoggmnaaaGreatDoor

theorem strict_irrefl {x : GFact} {r : List GFact} (h : StrictF (x :: r)) : x ∉ r := fun hx => by
  have := (List.pairwise_cons.1 h).1 x hx
  rw [ord_fact.self] at this
  omega
theorem strict_ext : ∀ a b : List GFact, StrictF a → StrictF b → (∀ f, f ∈ a ↔ f ∈ b) → a = b
  | [], [], _, _, _ => rfl
  | [], y :: t, _, _, h => absurd ((h y).2 List.mem_cons_self) (by simp)
  | x :: r, [], _, _, h => absurd ((h x).1 List.mem_cons_self) (by simp)
  | x :: r, y :: t, h1, h2, h => by
    have hxy : x = y := by
      rcases List.mem_cons.1 ((h x).1 List.mem_cons_self) with e | hx
      · exact e
      · rcases List.mem_cons.1 ((h y).2 List.mem_cons_self) with e | hy
        · exact e.symm
        · have l1 := (List.pairwise_cons.1 h1).1 y hy
          have l2 := (List.pairwise_cons.1 h2).1 x hx
          have := ord_fact.n x y
          omega
    subst hxy
    have ht : r = t := strict_ext r t (List.pairwise_cons.1 h1).2 (List.pairwise_cons.1 h2).2 fun f => by
      constructor
      · intro hf
        rcases List.mem_cons.1 ((h f).1 (List.mem_cons_of_mem _ hf)) with e | hf'
        · subst e; exact absurd hf (strict_irrefl h1)
        · exact hf'
      · intro hf
        rcases List.mem_cons.1 ((h f).2 (List.mem_cons_of_mem _ hf)) with e | hf'
        · subst e; exact absurd hf (strict_irrefl h2)
        · exact hf'
    rw [ht]
theorem strict_count {a : List GFact} (h : StrictF a) : a.Nodup := h.imp fun {x y} hxy e => by
  subst e
  rw [ord_fact.self] at hxy
  omega
end Go.Proofs.YtmodjokoggmnaaaGreatDoor
