/-
  The contract of the law's right: what it accepts is well formed, few and short. And what follows of such tokens' texts.
  Conditions: as each says.
-/
import Derived.Test.YthpcfidcpaikgaaDoorLfm
import Derived.Test.YthpcfidcpaikgaaDoorGap
namespace Go.Proofs.YthpcfidcpaikgaaDoor
open Go.RowKit Go.Shelf

def Right (ts : List GTok) : Prop := ts.length ≤ 100 ∧ ∀ t ∈ ts, wf t = true ∧ t.text.length ≤ 200
def RightEnd (ts : List GTok) (w : World) (e : Ending) (w' : World) : Prop := ∃ ok : Bool, e = .returned (.bool ok) ∧ (ok = true → Right ts) ∧ Below w.heap.size w w'
set_option maxRecDepth 50000 in
set_option maxHeartbeats 1000000 in
theorem right_any (a : Option Addr) (len cap : Nat) (ts : List GTok) (w : World) (h : IsToks w a len cap ts) :
    Calls Tryd.prog 15 #[.slice a len cap] w (RightEnd ts w) := by
  obtain ⟨rfl, hle, hmx, hrow, hwf, hsh⟩ := h
  have HR := Lib.hid hrow
  have HSH := Lib.hid hsh
  have HV := Lib.hid fun t ht => u64_bd (hwf t ht).value
  have hmx2 := hmx
  unfold maxLen at hmx2
  clear hrow hwf hsh hmx
  rcases Nat.lt_or_ge 100 ts.length with hbig | hsm
  · go_enter Tryd.func15, Tryd.ntmps15
    go_wp2
    go_ret
    exact ⟨false, rfl, fun h => (by cases h), Below.refl _ _⟩
  · go_enter Tryd.func15, Tryd.ntmps15
    go_wp2
    go_loopw [3] (fun vi wr => ∃ k : Nat, vi = .int .i64 k ∧ k ≤ ts.length ∧ Hid (∀ t ∈ ts.take k, wf t = true ∧ t.text.length ≤ 200) ∧ Hid (Below w.heap.size w wr)) (fun vi _ => ts.length - (intOf vi).toNat)
    case atStart => exact ⟨0, rfl, Nat.zero_le _, Lib.hid (fun t ht => (by cases ht)), Lib.hid (Below.refl _ _)⟩
    case round =>
      obtain ⟨k, rfl, hk, HK, HW⟩ := hrel
      rcases Nat.lt_or_ge k ts.length with hlt | hge
      · obtain ⟨b1, o1, rfl, hb1, x0, x1, x2, x3, x4⟩ := (HR.out.below (Nat.le_refl _) HW.out).cells5 hlt
        have HTS : Hid (wf ts[k] = true ∧ ts[k].text.length ≤ 200 → ∀ t ∈ ts.take (k + 1), wf t = true ∧ t.text.length ≤ 200) := Lib.hid fun h t ht => by
          rw [List.take_succ_eq_append_getElem hlt, List.mem_append] at ht
          rcases ht with ht | ht
          · exact HK.out t ht
          · rw [List.mem_singleton] at ht; subst ht; exact h
        have hsh := HSH.out ts[k] (List.getElem_mem hlt)
        have hv := HV.out ts[k] (List.getElem_mem hlt)
        have HTX := Lib.hid fun W => text_any ts[k] W hsh hv.1 hv.2
        generalize ts[k] = t at *
        obtain ⟨kd, tx, v, ln, cl⟩ := t
        unfold GTok.val at HTX
        simp only at x0 x1 x2 x3 x4 hsh HTX
        have hsz : (⟨tx.toArray⟩ : ByteArray).size = tx.length := ba_size tx
        have hzb : b1 < wr.heap.size := by have := HW.out.size; omega
        go_wp2_with fail
        refine (HTX.out _).mono ?_
        rintro e w2 ⟨xs, rfl, _, hb2⟩
        have y1 := (hb2.cell (p := ⟨b1, o1 + k * 5 + 1, none⟩) hzb).trans x1
        have HBW := Lib.hid (bel_next HW.out hb2)
        clear hb2 x0 x1 x2 x3 x4 hv
        cases hw : wf ⟨kd, tx, v, ln, cl⟩
        · go_wp2
          go_ret
          exact ⟨false, rfl, fun h => (by cases h), HBW.out⟩
        · rcases Nat.lt_or_ge 200 tx.length with hl | hl
          · clear hw
            go_wp2
            go_ret
            exact ⟨false, rfl, fun h => (by cases h), HBW.out⟩
          · have HT := Lib.hid (HTS.out ⟨hw, hl⟩)
            clear hw
            go_wp2
            go_roundw
            case rel => exact ⟨k + 1, by go_num, by omega, HT, HBW⟩
            case measure => simp [intOf]; omega
      · have HD : Hid (Right ts) := Lib.hid ⟨hsm, by have := HK.out; rwa [List.take_of_length_le hge] at this⟩
        go_wp2
        go_ret
        exact ⟨true, rfl, fun _ => HD.out, HW.out⟩
theorem txt_len2 (t : GTok) (h : t.text.length ≤ 200) (h0 : 0 ≤ t.value) (h1 : t.value < 18446744073709551616) : (txt t).length ≤ 202 := by
  unfold txt
  split
  · have := (isDec t.value.toNat (by omega)).len; omega
  · split
    · simp; omega
    · omega
theorem tail_len2 : ∀ (ts : List GTok), (∀ t ∈ ts, t.text.length ≤ 200 ∧ 0 ≤ t.value ∧ t.value < 18446744073709551616) → (tailT ts).length ≤ ts.length * 203 := by
  intro ts
  induction ts with
  | nil => intro _; simp [tailT]
  | cons t r ih =>
    intro h
    obtain ⟨h1, h2, h3⟩ := h t List.mem_cons_self
    have := ih fun x hx => h x (List.mem_cons_of_mem _ hx)
    have := txt_len2 t h1 h2 h3
    have e : tailT (t :: r) = 32 :: (txt t ++ tailT r) := by simp [tailT]
    rw [e]; simp; omega
theorem join_len2 (ts : List GTok) (h : ∀ t ∈ ts, t.text.length ≤ 200 ∧ 0 ≤ t.value ∧ t.value < 18446744073709551616) : (joinT ts).length ≤ ts.length * 203 := by
  cases ts with
  | nil => simp [joinT]
  | cons t r =>
    obtain ⟨h1, h2, h3⟩ := h t List.mem_cons_self
    have := tail_len2 r fun x hx => h x (List.mem_cons_of_mem _ hx)
    have := txt_len2 t h1 h2 h3
    show (txt t ++ tailT r).length ≤ _
    simp; omega
theorem bare_like {us : List Tok} {ts : List GTok} (h : bareEq us ts) : ts.length = (us.map Tok.g).length ∧ ∀ i (h1 : i < ts.length) (h2 : i < (us.map Tok.g).length), (ts[i]).like (us.map Tok.g)[i] := by
  have hl : us.length = ts.length := by have := congrArg List.length h; simpa using this
  refine ⟨by simp [hl], fun i h1 h2 => ?_⟩
  have h3 : (us.map (fun u => u.g.bare))[i]? = (ts.map GTok.bare)[i]? := by rw [h]
  rw [List.getElem?_map, List.getElem?_map, List.getElem?_eq_getElem (by omega), List.getElem?_eq_getElem h1] at h3
  simp only [Option.map_some, Option.some.injEq, GTok.bare, Prod.mk.injEq] at h3
  simp only [List.getElem_map]
  exact ⟨h3.1.symm, h3.2.1.symm, h3.2.2.symm⟩
theorem bare_few {us : List Tok} {ts : List GTok} (h : bareEq us ts) (hf : Few ts) : Few (us.map Tok.g) := by
  obtain ⟨hl, hk⟩ := bare_like h
  refine ⟨by rw [← hl]; exact hf.1, fun t ht => ?_⟩
  obtain ⟨i, hi, rfl⟩ := List.mem_iff_getElem.1 ht
  have h1 : i < ts.length := by omega
  obtain ⟨_, e2, e3⟩ := hk i h1 hi
  have := hf.2 ts[i] (List.getElem_mem h1)
  rw [e2, e3] at this
  exact this
theorem bare_fmt {us : List Tok} {ts : List GTok} (h : bareEq us ts) : fmtL (us.map Tok.g) = fmtL ts := by
  refine fmtL_same _ _ ?_
  rw [List.map_map]
  exact h
theorem Right.few {ts : List GTok} (h : Right ts) (hv : ∀ t ∈ ts, 0 ≤ t.value ∧ t.value < 18446744073709551616) : Few ts := ⟨by have := h.1; omega, fun t ht => ⟨by have := (h.2 t ht).2; omega, hv t ht⟩⟩
theorem Right.scan {ts : List GTok} (h : Right ts) (hv : ∀ t ∈ ts, 0 ≤ t.value ∧ t.value < 18446744073709551616) : ∃ us, scan (fmtL ts) = .ok us ∧ bareEq us ts ∧ (fmtL ts).length ≤ 65536 := by
  have ha : ts.all wf = true := List.all_eq_true.2 fun t ht => (h.2 t ht).1
  have e : fmtL ts = joinT ts := by unfold fmtL; rw [if_pos ha]
  have hl := join_len2 ts fun t ht => ⟨(h.2 t ht).2, hv t ht⟩
  have h1 := h.1
  obtain ⟨us, hus, hb⟩ := lex_join ts (fun t ht => ⟨(h.2 t ht).1, hv t ht⟩) (1, 1)
  refine ⟨us, ?_, hb, by rw [e]; omega⟩
  rw [e, Go.Proofs.YthpcfidcpaikgaaDoor.scan, if_neg (by omega), hus]
end Go.Proofs.YthpcfidcpaikgaaDoor
