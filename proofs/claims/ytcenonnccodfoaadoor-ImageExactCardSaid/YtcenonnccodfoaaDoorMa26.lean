/-
  Modules that come in as an argument: data of any length; the law ImageExact over them.
  Conditions: none beyond what each theorem says.
  A slice of modules that comes in as an argument, as the library opens it, reads as plain data.
  Conditions: none beyond the frame's.
-/
import Derived.Test.YtcenonnccodfoaaDoorMa25
import Derived.Test.YtcenonnccodfoaaDoorMa19
import Derived.OpenShut
import Derived.ChangeSlices
namespace Go.Proofs.YtcenonnccodfoaaDoor
open Go.RowKit

/-- The module s, asx it lies in memory, is m; no bound but the language's. -/
structure MHold0 (w : World) (B : Nat) (s : SMod) (m : GMod) : Prop where
  name : s.name = m.name
  kind : s.kind = m.kind
  width : s.width = m.width
  entry : s.entry = m.entry
  row : Byt w B s.A s.n m.data
  few : m.data.length ≤ 9223372036854775807
theorem MHold0.n {w : World} {B : Nat} {s : SMod} {m : GMod} (h : MHold0 w B s m) : s.n = m.data.length := h.row.1.symm
structure MRow0 (w : World) (B : Nat) (A : Option Addr) (ss : List SMod) (ms : List GMod) : Prop where
  row : GRow SMod.cells 5 w B A ss
  len : ss.length = ms.length
  each : ∀ i (h1 : i < ss.length) (h2 : i < ms.length), MHold0 w B ss[i] ms[i]
theorem MRow0.small {w : World} {B : Nat} {A : Option Addr} {ss : List SMod} {ms : List GMod} (h : MRow0 w B A ss ms) (hd : ∀ m ∈ ms, m.data.length ≤ 2000) : MRow w B A ss ms :=
  ⟨h.row, h.len, fun i h1 h2 => ⟨(h.each i h1 h2).name, (h.each i h1 h2).kind, (h.each i h1 h2).width, (h.each i h1 h2).entry, (h.each i h1 h2).row, by have := hd _ (List.getElem_mem h2); omega⟩⟩
set_option maxRecDepth 20000 in
set_option maxHeartbeats 1000000 in
theorem few_any0 (ms : List GMod) (ss : List SMod) (A : Option Addr) (c : Nat) (w : World) (hb : MRow0 w w.heap.size A ss ms) (hn : ms.length ≤ 1000000) :
    Calls Tryd.prog 10 #[.slice A ms.length c] w fun e w' => e = .returned (.bool (fewM ms)) ∧ w' = w := by
  have HB := Lib.hid hb
  have hlen := hb.len
  clear hb
  go_enter Tryd.func10, Tryd.ntmps10
  rcases Nat.lt_or_ge 70 ms.length with h70 | h70
  · have HR : Hid (fewM ms = false) := Lib.hid (by simp [fewM]; omega)
    go_wp2
    go_ret
    exact ⟨congrArg (fun b => Ending.returned (Value.bool b)) HR.out.symm, rfl⟩
  · go_wp2
    go_loop [3, 4] (fun v3 v4 => ∃ k n : Nat, v3 = .int .i64 n ∧ v4 = .int .i64 k ∧ k ≤ ms.length ∧ n ≤ 140000 ∧ Hid ((ms.take k).all smallM = true) ∧ Hid (n = sumM (ms.take k))) (fun _ v4 => ms.length - (intOf v4).toNat)
    case atStart => exact ⟨0, 0, rfl, rfl, Nat.zero_le _, by omega, Lib.hid rfl, Lib.hid rfl⟩
    case round =>
      obtain ⟨k, n, rfl, rfl, hk, hn14, HT, HN⟩ := hrel
      rcases Nat.lt_or_ge k ms.length with hlt | hge
      · have hls : k < ss.length := by omega
        obtain ⟨b1, o1, rfl, hb1, z0, z1, z2, z3, z4⟩ := HB.out.row.mod5 hls
        have hold := HB.out.each k hls hlt
        have hn1 := hold.name
        have hn2 := hold.n
        rw [hn1] at z0
        rw [hn2] at z4
        have hfw := hold.few
        have HALL := Lib.hid fun h => all_snoc (p := smallM) hlt HT.out h
        have HSU := Lib.hid (sumM_snoc hlt)
        have HBAD : Hid (smallM ms[k] = false → fewM ms = false) := Lib.hid fun h => by
          have : ms.all smallM = false := by
            rw [List.all_eq_false]
            exact ⟨ms[k], List.getElem_mem hlt, by simp [h]⟩
          simp [fewM, this]
        have HLE : Hid (smallM ms[k] = true → sumM (ms.take (k + 1)) ≤ 140000) := Lib.hid fun h => by
          have h1 := sumM_le (HALL.out h)
          rw [List.length_take] at h1
          omega
        generalize ms[k] = y at *
        clear hold hn1 hn2 z1 z2 z3
        by_cases hq : y.name.length ≤ 60
        · by_cases hv : y.data.length ≤ 2000
          · have HS : Hid (smallM y = true) := Lib.hid (by simp [smallM, hq, hv])
            have HS1 := Lib.hid (HALL.out HS.out)
            have HS2 := Lib.hid (HLE.out HS.out)
            have HS3 : Hid (n + y.data.length = sumM (ms.take (k + 1))) := Lib.hid (by rw [HSU.out, ← HN.out])
            go_wp2
            go_round
            case rel => exact ⟨k + 1, n + y.data.length, by go_num, by go_num, by omega, by rw [HS3.out]; exact HS2.out, HS1, HS3⟩
            case measure => simp [intOf]; omega
          · have HR := Lib.hid (HBAD.out (by simp [smallM]; omega))
            go_wp2
            go_ret
            exact ⟨congrArg (fun b => Ending.returned (Value.bool b)) HR.out.symm, rfl⟩
        · have HR := Lib.hid (HBAD.out (by simp [smallM]; omega))
          go_wp2
          go_ret
          exact ⟨congrArg (fun b => Ending.returned (Value.bool b)) HR.out.symm, rfl⟩
      · have HR : Hid (fewM ms = decide ((n : Int) ≤ 5000)) := Lib.hid (by
          have h1 := HT.out
          have h2 := HN.out
          rw [List.take_of_length_le hge] at h1 h2
          subst h2
          simp [fewM, h1, h70]
          omega)
        go_wp2
        go_ret
        exact ⟨congrArg (fun b => Ending.returned (Value.bool b)) HR.out.symm, rfl⟩
set_option maxRecDepth 20000 in
theorem few_all0 (ms : List GMod) (ss : List SMod) (A : Option Addr) (c : Nat) (w : World) (hb : MRow0 w w.heap.size A ss ms) :
    Calls Tryd.prog 10 #[.slice A ms.length c] w fun e w' => e = .returned (.bool (fewM ms)) ∧ w' = w := by
  by_cases h : ms.length ≤ 1000000
  · exact few_any0 ms ss A c w hb h
  have HR : Hid (fewM ms = false) := Lib.hid (by simp [fewM]; omega)
  have f0 : decide ((70 : Int) < (ms.length : Int)) = true := by simp; omega
  have g0 : decide (70 < ms.length) = true := by simp; omega
  clear hb h
  go_enter Tryd.func10, Tryd.ntmps10
  go_wp2
  go_ret
  exact ⟨congrArg (fun b => Ending.returned (Value.bool b)) HR.out.symm, rfl⟩
set_option maxRecDepth 50000 in
theorem lexact_any0 (A : Option Addr) (cap : Nat) (ss : List SMod) (ms : List GMod) (B : Option Addr) (nb cb : Nat) (bl nm : List UInt8) (wd : Int) (w : World) (hm : MRow0 w w.heap.size A ss ms) (hcap : ms.length ≤ cap) (hb : Byt w w.heap.size B nb bl) (hc : nb ≤ cb) (hnm : nm.length ≤ maxLen) :
    Calls Tryd.prog 3 #[.slice A ms.length cap, .slice B nb cb, .string ⟨nm.toArray⟩, .int .i64 wd] w fun e w' => e = .returned (.bool true) ∧ Below w.heap.size w w' := by
  cases hfew : fewM ms
  case true => exact lexact_any A cap ss ms B nb cb bl nm wd w (hm.small (few_names hfew).2.2) hcap hb hc hnm
  have HAW0 := Lib.hid (awake_any w)
  have HFW := Lib.hid (few_all0 ms ss A cap w hm)
  rw [hfew] at HFW
  clear hm hb hfew
  have hnot : ∀ (x : Bool) (w : World), (Op.unary .not (.bool x)).run Tryd.prog w = .ok (.bool (!x)) w := fun _ _ => rfl
  go_enter Tryd.func3, Tryd.ntmps3
  go_wp2_with fail
  go_fit HFW.out
  rintro e w1 ⟨rfl, hww⟩
  obtain rfl : w = w1 := hww.symm
  clear HFW
  go_wp2_with fail
  go_fit HAW0.out
  rintro e w5 ⟨rfl, hb5⟩
  have HN := Lib.hid hb5
  clear hb5
  go_wp2
  go_ret
  exact ⟨rfl, HN.out⟩
end Go.Proofs.YtcenonnccodfoaaDoor


namespace Go.Proofs.YtcenonnccodfoaaDoor
open Go.ChangeShapes Go.WideShapes Go.RowKit

structure IsMods (w : World) (a : Option Addr) (len cap : Nat) (ss : List SMod) (ms : List GMod) : Prop where
  count : ms.length = len
  le : len ≤ cap
  row : MRow0 w w.heap.size a ss ms
instance : Inhabited (SMod × GMod) := ⟨(⟨[], 0, 0, 0, none, 0, 0⟩, ⟨[], 0, 0, 0, []⟩)⟩
section
variable {H : Type} {enc : TypeId × Value → H} {W : World} {base : Nat} {held : Bool}
theorem field_byt {n : Nat} {cs : List Value} {x : DataW H × List MemPlace} (h : DataW.trod enc Tryd.prog W base (fun _ => true) held n 23 cs = some x) : ∃ a len cap l, cs = [.slice a len cap] ∧ IsBytes W a len cap l := by
  rcases open_ints Tryd.underlying23 Tryd.underlying5 (by kernel_rfl) h with ⟨hcs, _⟩ | ⟨x, l, c, zs, hcs, _, hl, hm, hz, _, hcell, hwz⟩
  · obtain ⟨l, hl⟩ := rowByt (w := W) (a := none) (len := 0) (cap := 0) (zs := []) (.inl ⟨rfl, rfl, rfl, rfl⟩)
    exact ⟨none, 0, 0, l, hcs, hl⟩
  · obtain ⟨r, hr⟩ := rowByt (w := W) (a := some x) (len := l) (cap := c) (zs := zs) (.inr ⟨_, rfl, hl, hm, by simpa using hz, hcell, hwz⟩)
    exact ⟨some x, l, c, r, hcs, hr⟩
set_option maxRecDepth 50000 in
theorem mod_open {n : Nat} {cs : List Value} {x : DataW H × List MemPlace} (h : DataW.trod enc Tryd.prog W base (fun _ => true) held n 41 cs = some x) : ∃ (s : SMod) (m : GMod), cs = s.cells ∧ MHold0 W W.heap.size s m := by
  obtain ⟨ys, m, _, hxy, hlen, hyl, hf⟩ := DataW.trod_struct Tryd.underlying41 h
  have c0 : Tryd.prog.cellsOf 41 = 5 := by kernel_rfl
  rw [c0] at hlen
  match cs, hlen with
  | [v0, v1, v2, v3, v4], _ =>
    have n0 : Tryd.prog.cellsOf 9 = 1 := by kernel_rfl
    have n1 : Tryd.prog.cellsOf 3 = 1 := by kernel_rfl
    have n2 : Tryd.prog.cellsOf 23 = 1 := by kernel_rfl
    have h0 := hf 0 _ rfl
    have h1 := hf 1 _ rfl
    have h2 := hf 2 _ rfl
    have h3 := hf 3 _ rfl
    have h4 := hf 4 _ rfl
    have yl : ys.length = 5 := hyl
    match ys, yl with
    | [y0, y1, y2, y3, y4], _ =>
      simp [n0] at h0
      simp [n1] at h1
      simp [n1] at h2
      simp [n1] at h3
      simp [n2] at h4
      obtain ⟨s, hs, _, _⟩ := DataW.trod_string Tryd.underlying9 h0
      obtain ⟨k, hk, _, _⟩ := DataW.trod_int Tryd.underlying3 h1
      obtain ⟨wd, hwd, _, _⟩ := DataW.trod_int Tryd.underlying3 h2
      obtain ⟨en, hen, _, _⟩ := DataW.trod_int Tryd.underlying3 h3
      obtain ⟨a, l, c, r, hcs, hr, hle, hmx⟩ := field_byt h4
      simp at hs hk hwd hen hcs
      subst hs hk hwd hen hcs
      obtain ⟨⟨sl⟩⟩ := s
      refine ⟨⟨sl, k, wd, en, a, l, c⟩, ⟨sl, k, wd, en, r⟩, rfl, rfl, rfl, rfl, rfl, hr, ?_⟩
      have := hr.1
      unfold maxLen at hmx
      show r.length ≤ _
      omega
set_option maxRecDepth 50000 in
theorem IsMods_open {a : Option Addr} {len cap : Nat} {d : DataW H} {p : List MemPlace} (h : DataW.Trod enc Tryd.prog W base (fun _ => true) held 22 (.slice a len cap) d p) (_ : ∀ n ∈ d.weights Tryd.prog 22, n ≤ reachBytes) : ∃ ss ms, IsMods W a len cap ss ms := by
  obtain ⟨fuel, hf⟩ := h
  rcases Go.Deep.open_slice Tryd.underlying22 hf with ⟨hcs, _⟩ | ⟨x, l, c, m, n, D, Pl, hcs, _, hl, hm, hmm, hxd, hx⟩
  · simp [Value.cells] at hcs
    obtain ⟨rfl, rfl, rfl⟩ := hcs
    exact ⟨[], [], ⟨rfl, Nat.le_refl _, ⟨GRow.nil, rfl, fun i h1 => by simp at h1⟩⟩⟩
  · simp [Value.cells] at hcs
    obtain ⟨rfl, rfl, rfl⟩ := hcs
    have c0 : Tryd.prog.cellsOf 41 = 5 := by kernel_rfl
    rw [c0] at hx
    have hlm : len ≤ m := by rw [hmm]; split <;> omega
    have each : ∀ i, i < len → ∃ t : SMod × GMod, MHold0 W W.heap.size t.1 t.2 ∧ ∀ j, j < 5 → W.cell? ((x.add (i * 5)).add j) = t.1.cells[j]? := fun i hi => by
      obtain ⟨cs', hc, ht⟩ := hx i (by omega)
      obtain ⟨s, f, rfl, hw⟩ := mod_open ht
      obtain ⟨_, _, hat⟩ := World.cells?_some hc
      exact ⟨(s, f), hw, fun j hj => hat j hj⟩
    obtain ⟨g, hgx⟩ := Go.Deep.choose_lt each
    refine ⟨(List.range len).map fun i => (g i).1, (List.range len).map fun i => (g i).2, ⟨by simp, hl, ⟨fun h0 => ?_, by simp, fun i h1 _ => ?_⟩⟩⟩
    · simp at h0
      obtain ⟨b, off, spot⟩ := x
      have hc0 := (hgx 0 h0).2 0 (by omega)
      have hspot : spot = none := by simpa [Addr.add] using World.cell?_spot (hc0.trans rfl)
      subst hspot
      have hlt := World.block_lt_of_cell? W _ (hc0.trans rfl)
      refine ⟨b, off, rfl, by simpa [Addr.add] using hlt, fun i hi j u hu => ?_⟩
      simp at hi
      have hj : j < 5 := by
        rcases Nat.lt_or_ge j 5 with h1 | h1
        · exact h1
        · rw [List.getElem?_eq_none (by simp [SMod.cells]; omega)] at hu; cases hu
      have e : ((⟨b, off, none⟩ : Addr).add (i * 5)).add j = ⟨b, off + (i * 5 + j), none⟩ := by rw [Go.WideShapes.add_plain, Go.WideShapes.add_plain, Nat.add_assoc]
      have := (hgx i hi).2 j hj
      rw [e] at this
      simp at hu
      rw [this, hu]
    · have hi : i < len := by simpa using h1
      have := (hgx i hi).1
      simpa using this
end
end Go.Proofs.YtcenonnccodfoaaDoor
