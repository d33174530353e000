/-
  The contract of hwlex.Scan: it returns the tokens that the plain mathematics gives, in new memory, or the position and the number of the first error.
  Conditions: the variable strconv.ErrRange lies as the program's start lays it.
  Scan's contract in the two forms that its callers take, and the contract of the law's sanity check: it returns true.
  Conditions: the variable strconv.ErrRange lies as the program's start lays it.
  Plain facts on scanning a part of a text, a text and a further one behind a newline, and on positions.
  Conditions: none.
-/
import Derived.Test.YtahhmgoffdggpaaGreatDoorMb5
import Derived.WalkMore
import Derived.RegionTactic
import Derived.ChangeAlike
import Derived.Deep.DeepCutAuto
namespace Go.Proofs.YtahhmgoffdggpaaGreatDoor

open Go.RowKit Go.Shelf

/-- What the invariant of Scan's loop says: k bytes are read, the position is pl, k - ls + 1, v holds the tokens ts. -/
structure SInv (l : List UInt8) (w : World) (k pl ls : Nat) (v : Value) (wr : World) (ts : List Tok) : Prop where
  own : OwnT wr (w.heap.size + 1) v (ts.map Tok.g)
  len : ts.length ≤ k
  hls : ls ≤ k
  hpl : pl ≤ k + 1
  lexed : lex 0 (1, 1) l = (lex 0 (pl, k - ls + 1) (l.drop k)).app ts
  bel : Below w.heap.size w wr
  res : wr.heap[w.heap.size]? = some (.cells #[.int .i64 0, .int .i64 0] 35 (0, 0))
section

variable {l : List UInt8} {w wr : World} {k pl ls : Nat} {v : Value} {ts : List Tok}

theorem SInv.nl (h : SInv l w k pl ls v wr ts) (hk : k < l.length) (hc : l[k] = 10) : SInv l w (k + 1) (pl + 1) (k + 1) v wr ts := by
  refine ⟨h.own, by have := h.len; omega, Nat.le_refl _, by have := h.hpl; omega, ?_, h.bel, h.res⟩
  rw [h.lexed, lex_skipped _ 1 hk (by omega) (step_sp hk (by rw [hc]; rfl)), drop_cons hk, hc]
  simp [adv, adv1]
theorem SInv.sp (h : SInv l w k pl ls v wr ts) (hk : k < l.length) (hc : isSp l[k] = true) (hn : l[k] ≠ 10) : SInv l w (k + 1) pl ls v wr ts := by
  have h1 := h.hls
  refine ⟨h.own, by have := h.len; omega, by omega, by have := h.hpl; omega, ?_, h.bel, h.res⟩
  have e : adv (pl, k - ls + 1) ((l.drop k).take 1) = (pl, k - ls + 1 + 1) := by
    rw [drop_cons hk]; show adv1 _ _ = _; simp [adv1, hn]
  rw [h.lexed, lex_skipped _ 1 hk (by omega) (step_sp hk hc), e, show k + 1 - ls + 1 = k - ls + 1 + 1 by omega]
theorem SInv.cm (h : SInv l w k pl ls v wr ts) (hk : k < l.length) (hc : l[k] = 35) : SInv l w (k + run notNl (l.drop k)) pl ls v wr ts := by
  have h1 := h.hls
  have hr : 1 ≤ run notNl (l.drop k) := by rw [drop_cons hk, run_cons_pos (by rw [hc]; rfl)]; omega
  have hle := @run_le notNl (l.drop k)
  refine ⟨h.own, by have := h.len; omega, by omega, by have := h.hpl; omega, ?_, h.bel, h.res⟩
  rw [h.lexed, lex_skipped _ _ hk hr (step_comment hk hc), adv_plain _ (fun c hc => by have := run_all c hc; simpa [notNl] using this), List.length_take, Nat.min_eq_left hle]
  simp [show k + run notNl (l.drop k) - ls = k - ls + run notNl (l.drop k) by omega, Nat.add_right_comm]
theorem SInv.tok (h : SInv l w k pl ls v wr ts) (hk : k < l.length) (hs : isSp l[k] = false) (h35 : l[k] ≠ 35) {kd n tv : Nat} {tx : List UInt8} (hf : first (l.drop k) = .tok kd tx tv n) {w2 : World} {v2 : Value}
    (hown : OwnT w2 (w.heap.size + 1) v2 ((ts ++ [(⟨kd, tx, tv, pl, k - ls + 1⟩ : Tok)]).map Tok.g)) (hb : Below w.heap.size w w2) (hres : w2.heap[w.heap.size]? = wr.heap[w.heap.size]?) :
    SInv l w (k + n) pl ls v2 w2 (ts ++ [⟨kd, tx, tv, pl, k - ls + 1⟩]) := by
  obtain ⟨hn1, hn2, hnl⟩ := first_len hf
  have h1 := h.hls
  refine ⟨hown, by have := h.len; rw [List.length_append]; simp; omega, by omega, by have := h.hpl; omega, ?_, hb, hres.trans h.res⟩
  rw [h.lexed, lex_token _ kd tx tv n hk hn1 ((step_first hk hs h35).trans hf), app_cons, adv_plain _ hnl, List.length_take, Nat.min_eq_left hn2]
  simp [show k + n - ls = k - ls + n by omega, Nat.add_right_comm]
theorem SInv.push (h : SInv l w k pl ls v wr ts) (hk : k < l.length) (hs : isSp l[k] = false) (h35 : l[k] ≠ 35) {kd n tv : Nat} {tx : List UInt8} (hf : first (l.drop k) = .tok kd tx tv n) {w1 w2 : World} {v2 : Value} {c o1 o2 : Obj}
    (hb : Below (wr.alloc c).heap.size (wr.alloc c) w1) (hown : OwnT w2 (w.heap.size + 1) v2 (ts.map Tok.g ++ [⟨kd, tx, tv, pl, (k : Int) - ls + 1⟩])) (hg : ((w1.alloc o1).alloc o2).grownBy w2 v.ownBlock) :
    SInv l w (k + n) pl ls v2 w2 (ts ++ [⟨kd, tx, tv, pl, k - ls + 1⟩]) := by
  have h1 := h.hls
  have hsz : w.heap.size < wr.heap.size := by
    rcases Nat.lt_or_ge w.heap.size wr.heap.size with h1 | h1
    · exact h1
    · have := h.res; rw [Array.getElem?_eq_none h1] at this; cases this
  have hbw : Below wr.heap.size wr (wr.alloc c) := (Below.refl _ _).alloc (Nat.le_refl _) _
  have hz := hb.size
  have hz' : wr.heap.size + 1 ≤ w1.heap.size := by simpa using hz
  have hbW : Below wr.heap.size wr ((w1.alloc o1).alloc o2) := ((hbw.trans (hb.mono (by simp))).alloc (by omega) _).alloc (by simp; omega) _
  have hblk : ∀ b, v.ownBlock = some b → w.heap.size + 1 ≤ b := fun b hb => (World.ownsRow.lt h.own b hb).1
  refine h.tok hk hs h35 hf ?_ ?_ ?_
  · rw [List.map_append]
    have e : ((⟨kd, tx, tv, pl, k - ls + 1⟩ : Tok)).g = ⟨kd, tx, tv, pl, (k : Int) - ls + 1⟩ := by
      simp only [Tok.g]; congr 1; omega
    show OwnT w2 _ v2 (_ ++ [Tok.g _])
    rw [e]; exact hown
  · exact (h.bel.trans (hbW.mono (by omega))).grown hg (by simp; omega) (fun b hb => by have := hblk b hb; omega)
  · exact (hg.block w.heap.size (by simp; omega) (fun e => by have := hblk _ e.symm; omega)).trans (hbW.block w.heap.size hsz)
theorem SInv.err (h : SInv l w k pl ls v wr ts) (hk : k < l.length) (hs : isSp l[k] = false) (h35 : l[k] ≠ 35) {e : Nat} (hf : first (l.drop k) = .err e) : lex 0 (1, 1) l = .no pl (k - ls + 1) e := by
  rw [h.lexed, lex_error _ e hk ((step_first hk hs h35).trans hf)]; rfl
theorem SInv.fin (h : SInv l w l.length pl ls v wr ts) : lex 0 (1, 1) l = .ok ts := by
  rw [h.lexed, List.drop_length, lex_nil]; simp [Res.app]
theorem SInv.start (l : List UInt8) (w : World) : SInv l w 0 1 0 (.slice none 0 0) (w.alloc (.cells #[.int .i64 0, .int .i64 0] 35)) [] :=
  ⟨OwnT.nil _ _, Nat.le_refl _, Nat.le_refl _, by omega, by rw [app_nil]; rfl, (Below.refl _ _).alloc (Nat.le_refl _) _, heap_alloc_new w _⟩
end

theorem firstR_tok {l : List UInt8} (h : (firstR l).e = 0) : first l = .tok (firstR l).kind (firstR l).text (firstR l).value (firstR l).n := by
  unfold firstR at h ⊢
  cases l with
  | nil => simp at h
  | cons c r =>
    simp only at h ⊢
    by_cases hd : isDig c = true
    · rw [if_pos hd] at h ⊢
      simp only [first, if_pos hd]
      cases hm : num (List.take (run isWB (c :: r)) (c :: r)) with
      | bad => rw [hm] at h; simp [numE] at h
      | big => rw [hm] at h; simp [numE] at h
      | val v => rfl
    · rw [if_neg hd] at h ⊢
      cases hf : first (c :: r) with
      | tok k t v n => rfl
      | err e =>
        rw [hf] at h
        simp only [ofAct] at h
        subst h
        exact absurd hf (first_noerr0 _)
      | skip n => exact absurd hf first_noskip
theorem firstR_err {l : List UInt8} (h : (firstR l).e ≠ 0) : first l = .err (firstR l).e := by
  unfold firstR at h ⊢
  cases l with
  | nil => rfl
  | cons c r =>
    simp only at h ⊢
    by_cases hd : isDig c = true
    · rw [if_pos hd] at h ⊢
      simp only [first, if_pos hd]
      cases hm : num (List.take (run isWB (c :: r)) (c :: r)) with
      | bad => rfl
      | big => rfl
      | val v => rw [hm] at h; simp [numE] at h
    · rw [if_neg hd] at h ⊢
      cases hf : first (c :: r) with
      | tok k t v n => rw [hf] at h; simp [ofAct] at h
      | err e => rfl
      | skip n => exact absurd hf first_noskip

theorem lit_cells (W : World) (t : GTok) (N : Nat) (hN : N = W.heap.size) : ∀ (j : Nat) (u : Value), t.cells[j]? = some u → (W.alloc (.cells #[.int .i64 t.kind, .string ⟨t.text.toArray⟩, .int .u64 t.value, .int .i64 t.line, .int .i64 t.col] 80)).cell? ⟨N, j, none⟩ = some u := by
  subst hN
  intro j u hu
  match j, hu with
  | 0, hu => simpa [GTok.cells] using hu
  | 1, hu => simpa [GTok.cells] using hu
  | 2, hu => simpa [GTok.cells] using hu
  | 3, hu => simpa [GTok.cells] using hu
  | 4, hu => simpa [GTok.cells] using hu
  | j + 5, hu => simp [GTok.cells] at hu
theorem first_drop (d : List UInt8) (hne : d ≠ []) (w : World) (hl : d.length ≤ 65536) (hG : Glob w) :
    Calls Tryz.prog 51 #[.string ⟨d.toArray⟩] w fun e w' => e = .returned (frV (firstR d)) ∧ Below w.heap.size w w' := by
  obtain ⟨c, r, rfl⟩ := List.exists_cons_of_ne_nil hne
  exact first_any c r w hl hG

/-- What Scan returns for a result. -/
def ScanEnd (r : Res) (w : World) (e : Ending) (w' : World) : Prop :=
  match r with
  | .ok ts => ∃ v, e = .returned (.tuple #[v, .agg #[.int .i64 0, .int .i64 0], .int .i64 0]) ∧ OwnT w' (w.heap.size + 1) v (ts.map Tok.g) ∧ Below w.heap.size w w'
  | .no line col er => e = .returned (.tuple #[.slice none 0 0, .agg #[.int .i64 line, .int .i64 col], .int .i64 er]) ∧ Below w.heap.size w w'

set_option maxRecDepth 50000 in
set_option maxHeartbeats 2000000 in
theorem scan_any (l : List UInt8) (w : World) (hG : Glob w) (hl : l.length ≤ maxLen) :
    Calls Tryz.prog 33 #[.string ⟨l.toArray⟩] w (ScanEnd (scan l) w) := by
  unfold maxLen at hl
  rcases Nat.lt_or_ge 65536 l.length with hbig | hsm
  · have HR : Hid (scan l = .no 0 0 15) := by unfold Hid scan; rw [if_pos hbig]
    go_enter Tryz.func33, Tryz.ntmps33
    go_wp2
    go_step3
    go_wp2
    rw [Exit.noGoto_ret]
    refine bodyPost_ret (v := .tuple #[.slice none 0 0, .agg #[.int .i64 0, .int .i64 0], .int .i64 15]) (by simp [results, Tryz.results33, go_sem]) rfl ?_
    rw [HR.out]
    exact ⟨rfl, (Below.refl _ _).alloc (Nat.le_refl _) _⟩
  · have HR : Hid (scan l = lex 0 (1, 1) l) := by unfold Hid scan; rw [if_neg (by omega)]
    rw [HR.out]
    clear HR
    have HI := SInv.start l w
    go_enter Tryz.func33, Tryz.ntmps33
    go_wp2
    go_step3
    go_wp2
    go_step3
    go_wp2
    go_loopw [5, 6, 7, 8] (fun v vl vs va wr => ∃ (k pl ls : Nat) (ts : List Tok), vl = .int .i64 pl ∧ vs = .int .i64 ls ∧ va = .int .i64 k ∧ k ≤ l.length ∧ SInv l w k pl ls v wr ts)
      (fun _ _ _ va _ => l.length - (intOf va).toNat)
    case atStart => exact ⟨0, 1, 0, [], rfl, rfl, rfl, Nat.zero_le _, HI⟩
    case round =>
      obtain ⟨k, pl, ls, ts, rfl, rfl, rfl, hk, HI⟩ := hrel
      have hls := HI.hls
      have hpl := HI.hpl
      have hsz : (⟨l.toArray⟩ : ByteArray).size = l.length := ba_size l
      rcases Nat.lt_or_ge k l.length with hlt | hge
      · have hx : (⟨l.toArray⟩ : ByteArray)[k]'(by rw [hsz]; exact hlt) = l[k] := rfl
        have hu : ∀ m : UInt8, l[k].toNat = m.toNat → l[k] = m := fun m h => UInt8.toNat_inj.1 h
        have hsp : isSp l[k] = decide ((l[k].toNat : Int) = 32 ∨ (l[k].toNat : Int) = 9 ∨ (l[k].toNat : Int) = 10 ∨ (l[k].toNat : Int) = 13) := rfl
        by_cases h10 : l[k].toNat = 10
        · have H := Lib.hid (HI.nl hlt (hu 10 h10))
          have f10 : ((l[k].toNat : Int) == 10) = true := by simp; omega
          clear HI hu hsp h10
          go_wp2
          go_roundw
          case rel => exact ⟨k + 1, pl + 1, k + 1, ts, by go_num, by go_num, by go_num, by omega, H.out⟩
          case measure => simp [intOf]; omega
        by_cases h32 : l[k].toNat = 32
        · have H := Lib.hid (HI.sp hlt (by rw [hsp]; simp; omega) (fun h => h10 (by rw [h]; rfl)))
          have f10 : ((l[k].toNat : Int) == 10) = false := by simp; omega
          have f32 : ((l[k].toNat : Int) == 32) = true := by simp; omega
          clear HI hu hsp h10 h32
          go_wp2
          go_roundw
          case rel => exact ⟨k + 1, pl, ls, ts, by go_num, by go_num, by go_num, by omega, H.out⟩
          case measure => simp [intOf]; omega
        by_cases h9 : l[k].toNat = 9
        · have H := Lib.hid (HI.sp hlt (by rw [hsp]; simp; omega) (fun h => h10 (by rw [h]; rfl)))
          have f10 : ((l[k].toNat : Int) == 10) = false := by simp; omega
          have f32 : ((l[k].toNat : Int) == 32) = false := by simp; omega
          have f9 : ((l[k].toNat : Int) == 9) = true := by simp; omega
          clear HI hu hsp h10 h9
          go_wp2
          go_roundw
          case rel => exact ⟨k + 1, pl, ls, ts, by go_num, by go_num, by go_num, by omega, H.out⟩
          case measure => simp [intOf]; omega
        by_cases h13 : l[k].toNat = 13
        · have H := Lib.hid (HI.sp hlt (by rw [hsp]; simp; omega) (fun h => h10 (by rw [h]; rfl)))
          have f10 : ((l[k].toNat : Int) == 10) = false := by simp; omega
          have f32 : ((l[k].toNat : Int) == 32) = false := by simp; omega
          have f9 : ((l[k].toNat : Int) == 9) = false := by simp; omega
          have f13 : ((l[k].toNat : Int) == 13) = true := by simp; omega
          clear HI hu hsp h10 h13
          go_wp2
          go_roundw
          case rel => exact ⟨k + 1, pl, ls, ts, by go_num, by go_num, by go_num, by omega, H.out⟩
          case measure => simp [intOf]; omega
        by_cases h35 : l[k].toNat = 35
        · have H := Lib.hid (HI.cm hlt (hu 35 h35))
          have f10 : ((l[k].toNat : Int) == 10) = false := by simp; omega
          have f32 : ((l[k].toNat : Int) == 32) = false := by simp; omega
          have f9 : ((l[k].toNat : Int) == 9) = false := by simp; omega
          have f13 : ((l[k].toNat : Int) == 13) = false := by simp; omega
          have f35 : ((l[k].toNat : Int) == 35) = true := by simp; omega
          have HC := Lib.hid fun W => commentLen_any (l.drop k) W
          have hr1 := @run_le notNl (l.drop k)
          have hr2 : 1 ≤ run notNl (l.drop k) := by rw [drop_cons hlt, run_cons_pos (by rw [hu 35 h35]; rfl)]; omega
          rw [List.length_drop] at hr1
          have hcut := cut_from' l k l.length (Nat.le_refl _)
          generalize run notNl (l.drop k) = m at *
          clear HI hu hsp h10 h35
          go_wp2_with (go_at_call 50; refine (HC.out _).mono ?_; rintro e w' ⟨rfl, rfl⟩)
          go_roundw
          case rel => exact ⟨k + m, pl, ls, ts, by go_num, by go_num, by go_num, by omega, H.out⟩
          case measure => simp [intOf]; omega
        have hsp0 : isSp l[k] = false := by rw [hsp]; simp; omega
        have h35' : l[k] ≠ 35 := fun h => h35 (by rw [h]; rfl)
        have f10 : ((l[k].toNat : Int) == 10) = false := by simp; omega
        have f32 : ((l[k].toNat : Int) == 32) = false := by simp; omega
        have f9 : ((l[k].toNat : Int) == 9) = false := by simp; omega
        have f13 : ((l[k].toNat : Int) == 13) = false := by simp; omega
        have f35 : ((l[k].toNat : Int) == 35) = false := by simp; omega
        have hd0 : (l.drop k).length ≤ 65536 := by rw [List.length_drop]; omega
        have hcut := cut_from' l k l.length (Nat.le_refl _)
        have hbw : Below wr.heap.size wr (wr.alloc (.cells #[.int .i64 (pl : Int), .int .i64 ((k : Int) - ls + 1)] 35)) := (Below.refl _ _).alloc (Nat.le_refl _) _
        have hwsz : w.heap.size < wr.heap.size := by
          rcases Nat.lt_or_ge w.heap.size wr.heap.size with h1 | h1
          · exact h1
          · have := HI.res; rw [Array.getElem?_eq_none h1] at this; cases this
        have HC := Lib.hid (first_drop (l.drop k) (drop_ne hlt) _ hd0 ((hG.next HI.bel).next hbw))
        have c0 : wr.cell? ⟨w.heap.size, 0, none⟩ = some (.int .i64 0) := by simp [World.cell?, HI.res]
        have c1 : wr.cell? ⟨w.heap.size, 1, none⟩ = some (.int .i64 0) := by simp [World.cell?, HI.res]
        have z0 : ∀ j, wr.frozen? ⟨w.heap.size, j, none⟩ = false := fun j => by simp [World.frozen?, HI.res]
        by_cases he : (firstR (l.drop k)).e = 0
        · have hft := firstR_tok he
          generalize firstR (l.drop k) = f at *
          have fe : ((f.e : Int) != 0) = false := by simp; omega
          have HFT := Lib.hid hft
          have HH := Lib.hid HI
          clear HI hu hsp hft h10 h32 h9 h13 h35 hd0 he
          go_wp2_with fail
          refine HC.out.mono ?_
          rintro e w1 ⟨rfl, hb1⟩
          have hz1 : wr.heap.size + 1 ≤ w1.heap.size := by have := hb1.size; simpa using this
          have p0 : w1.cell? ⟨wr.heap.size, 0, none⟩ = some (.int .i64 (pl : Int)) := (hb1.cell (p := ⟨wr.heap.size, 0, none⟩) (by simp)).trans (by simp)
          have p1 : w1.cell? ⟨wr.heap.size, 1, none⟩ = some (.int .i64 ((k : Int) - ls + 1)) := (hb1.cell (p := ⟨wr.heap.size, 1, none⟩) (by simp)).trans (by simp)
          have hz2 : wr.heap.size < w1.heap.size := by omega
          have HB := Lib.hid hb1
          clear hb1 c0 c1 z0 hbw
          have hownW := Lib.hid ((((HH.out.own.alloc _).below (Nat.le_refl _) HB.out).alloc (.cells #[.int .i64 (f.kind : Int), .string ⟨f.text.toArray⟩, .int .u64 (f.value : Int), .int .i64 (pl : Int), .int .i64 ((k : Int) - ls + 1)] 80)).alloc (.cells #[.int .i64 (f.kind : Int), .string ⟨f.text.toArray⟩, .int .u64 (f.value : Int), .int .i64 (pl : Int), .int .i64 ((k : Int) - ls + 1)] 80))
          have HP := Lib.hid fun (v2 : Value) (w2 : World) => HH.out.push hlt hsp0 h35' HFT.out HB.out (o1 := .cells #[.int .i64 (f.kind : Int), .string ⟨f.text.toArray⟩, .int .u64 (f.value : Int), .int .i64 (pl : Int), .int .i64 ((k : Int) - ls + 1)] 80) (o2 := .cells #[.int .i64 (f.kind : Int), .string ⟨f.text.toArray⟩, .int .u64 (f.value : Int), .int .i64 (pl : Int), .int .i64 ((k : Int) - ls + 1)] 80) (v2 := v2) (w2 := w2)
          have HT : Hid (ts.length ≤ 1000000) := Lib.hid (by have := HH.out.len; omega)
          have hfn := first_len HFT.out
          have hfn1 : f.n ≤ l.length - k := by have := hfn.2.1; rwa [List.length_drop] at this
          have hfn0 := hfn.1
          clear hfn hsp0 h35'
          simp only [frV]
          go_wp2_with (at_builtin; refine wpList_push (w.heap.size + 1) u5 (ts.map Tok.g) (w1.heap.size + 1) ⟨f.kind, f.text, f.value, pl, (k : Int) - ls + 1⟩ 1 hownW.out (lit_cells (w1.alloc _) _ _ (by simp)) (by rw [List.length_map]; exact HT.out) (by simp; omega) rfl _ _ rfl rfl rfl ?_)
          intro v2 w2 hown2 hg2
          have HQ := Lib.hid (HP.out v2 w2 hown2 hg2)
          clear hown2 hg2
          go_wp2
          go_roundw
          case rel => exact ⟨k + f.n, pl, ls, _, by go_num, by go_num, by go_num, by omega, HQ.out⟩
          case measure => simp [intOf]; omega
        · have hft := firstR_err he
          have HE := Lib.hid (HI.err hlt hsp0 h35' hft)
          generalize firstR (l.drop k) = f at *
          have fe : ((f.e : Int) != 0) = true := by simp; omega
          have HH := Lib.hid HI
          clear HI hu hsp hft h10 h32 h9 h13 h35 hsp0 h35' hd0 he
          go_wp2_with fail
          refine HC.out.mono ?_
          rintro e w1 ⟨rfl, hb1⟩
          have hz1 : wr.heap.size + 1 ≤ w1.heap.size := by have := hb1.size; simpa using this
          have p0 : w1.cell? ⟨wr.heap.size, 0, none⟩ = some (.int .i64 (pl : Int)) := (hb1.cell (p := ⟨wr.heap.size, 0, none⟩) (by simp)).trans (by simp)
          have p1 : w1.cell? ⟨wr.heap.size, 1, none⟩ = some (.int .i64 ((k : Int) - ls + 1)) := (hb1.cell (p := ⟨wr.heap.size, 1, none⟩) (by simp)).trans (by simp)
          have q0 : w1.cell? ⟨w.heap.size, 0, none⟩ = some (.int .i64 0) := (hb1.cell (p := ⟨w.heap.size, 0, none⟩) (by simp; omega)).trans ((hbw.cell (p := ⟨w.heap.size, 0, none⟩) hwsz).trans c0)
          have q1 : w1.cell? ⟨w.heap.size, 1, none⟩ = some (.int .i64 0) := (hb1.cell (p := ⟨w.heap.size, 1, none⟩) (by simp; omega)).trans ((hbw.cell (p := ⟨w.heap.size, 1, none⟩) hwsz).trans c1)
          have qz : ∀ j, w1.frozen? ⟨w.heap.size, j, none⟩ = false := fun j => (hb1.frozen (p := ⟨w.heap.size, j, none⟩) (by simp; omega)).trans ((hbw.frozen (p := ⟨w.heap.size, j, none⟩) hwsz).trans (z0 j))
          have hz2 : wr.heap.size < w1.heap.size := by omega
          have hz3 : w.heap.size < w1.heap.size := by omega
          have HB := Lib.hid hb1
          clear hb1 c0 c1 z0 hbw
          simp only [frV]
          go_wp2
          go_region
          all_goals go_wp2
          rw [Exit.noGoto_ret]
          refine bodyPost_ret (v := .tuple #[.slice none 0 0, .agg #[.int .i64 (pl : Int), .int .i64 ((k : Int) - ls + 1)], .int .i64 (f.e : Int)]) (by simp [results, Tryz.results33, go_sem, q0, q1, hz3]) rfl ?_
          rw [HE.out, show ((k : Int) - ls + 1) = ((k - ls + 1 : Nat) : Int) by omega]
          have hbw : Below wr.heap.size wr w1 := ((Below.refl _ _).alloc (Nat.le_refl _) _).trans (HB.out.mono (by simp))
          exact ⟨rfl, ((((HH.out.bel.trans (hbw.mono (by omega))).setCell (Nat.le_refl _) _).setCell (Nat.le_refl _) _).alloc (by simp; omega) _).drew⟩
      · have hkl : k = l.length := by omega
        subst hkl
        have HF := Lib.hid HI.fin
        have c0 : wr.cell? ⟨w.heap.size, 0, none⟩ = some (.int .i64 0) := by simp [World.cell?, HI.res]
        have c1 : wr.cell? ⟨w.heap.size, 1, none⟩ = some (.int .i64 0) := by simp [World.cell?, HI.res]
        have z0 : ∀ j, wr.frozen? ⟨w.heap.size, j, none⟩ = false := fun j => by simp [World.frozen?, HI.res]
        have HH := Lib.hid HI
        clear HI
        go_wp2
        rw [Exit.noGoto_ret]
        refine bodyPost_ret (v := .tuple #[u5, .agg #[.int .i64 0, .int .i64 0], .int .i64 0]) (by simp [results, Tryz.results33, go_sem, c0, c1]) rfl ?_
        rw [HF.out]
        refine ⟨u5, rfl, HH.out.own.keep fun g hg _ => ?_, (HH.out.bel.setCell (Nat.le_refl _) _).setCell (Nat.le_refl _) _⟩
        rw [Below.heap_setCell _ _ _ _ (by show g ≠ w.heap.size; omega), Below.heap_setCell _ _ _ _ (by show g ≠ w.heap.size; omega)]
end Go.Proofs.YtahhmgoffdggpaaGreatDoor


namespace Go.Proofs.YtahhmgoffdggpaaGreatDoor

open Go.RowKit Go.Shelf

theorem scan_ok (l : List UInt8) (ts : List Tok) (h : scan l = .ok ts) (w : World) (hG : Glob w) (hl : l.length ≤ maxLen) :
    Calls Tryz.prog 33 #[.string ⟨l.toArray⟩] w fun e w' => ∃ A cap, e = .returned (.tuple #[.slice A ts.length cap, .agg #[.int .i64 0, .int .i64 0], .int .i64 0]) ∧ ts.length ≤ cap ∧ TRow w' w'.heap.size A (ts.map Tok.g) ∧ Below w.heap.size w w' :=
  (scan_any l w hG hl).mono fun e w' hh => by
    rw [h] at hh
    obtain ⟨v, he, hown, hb⟩ := hh
    obtain ⟨A, cap, hv, hc, hr⟩ := hown.row
    rw [List.length_map] at hv hc
    exact ⟨A, cap, by rw [he, hv], hc, hr, hb⟩
theorem scan_no (l : List UInt8) (line col er : Nat) (h : scan l = .no line col er) (w : World) (hG : Glob w) (hl : l.length ≤ maxLen) :
    Calls Tryz.prog 33 #[.string ⟨l.toArray⟩] w fun e w' => e = .returned (.tuple #[.slice none 0 0, .agg #[.int .i64 line, .int .i64 col], .int .i64 er]) ∧ Below w.heap.size w w' :=
  (scan_any l w hG hl).mono fun e w' hh => by rw [h] at hh; exact hh

def awk1 : List Tok := [⟨1, [99, 111, 114, 101], 0, 1, 1⟩, ⟨2, [], 16384, 1, 6⟩, ⟨4, [59], 0, 1, 11⟩]
theorem awk1_eq : scan [99, 111, 114, 101, 32, 48, 120, 49, 48, 75, 59] = .ok awk1 := by decide +kernel
theorem awk2_eq : scan [49, 50, 97] = .no 1 1 50 := by decide +kernel

end Go.Proofs.YtahhmgoffdggpaaGreatDoor


namespace Go.Proofs.YtahhmgoffdggpaaGreatDoor

section

variable {p : UInt8 → Bool}

theorem run_take_min (l : List UInt8) : ∀ m, run p (l.take m) = min m (run p l) := by
  induction l with
  | nil => intro m; simp [run]
  | cons c r ih =>
    intro m
    cases m with
    | zero => simp [run]
    | succ m =>
      rw [List.take_succ_cons]
      cases hc : p c with
      | true => rw [run_cons_pos hc, run_cons_pos hc, ih]; omega
      | false => rw [run_cons_neg hc, run_cons_neg hc]; simp
theorem run_app (l m : List UInt8) (g : UInt8) (h : p g = false) : run p (l ++ g :: m) = run p l := by
  induction l with
  | nil => rw [List.nil_append, run_cons_neg h]; rfl
  | cons c r ih =>
    rw [List.cons_append]
    cases hc : p c with
    | true => rw [run_cons_pos hc, run_cons_pos hc, ih]
    | false => rw [run_cons_neg hc, run_cons_neg hc]
end

/-- How many bytes a step takes. -/
def Act1.n : Act1 → Nat
  | .skip n => n
  | .tok _ _ _ n => n
  | .err _ => 0
theorem quoted_take (r : List UInt8) (m : Nat) (h : run isStr r + 2 ≤ m + 1) (hq : ∃ s, r.drop (run isStr r) = 34 :: s) : quoted (r.take m) = quoted r := by
  obtain ⟨s, hs⟩ := hq
  have e : run isStr (r.take m) = run isStr r := by rw [run_take_min]; omega
  unfold quoted
  rw [e, List.drop_take, hs, show m - run isStr r = (m - run isStr r - 1) + 1 by omega, List.take_succ_cons, List.take_take, Nat.min_eq_left (by omega)]
  rfl
theorem first_take (l : List UInt8) (m k v n : Nat) (t : List UInt8) (h : first l = .tok k t v n) (hm : n ≤ m) : first (l.take m) = .tok k t v n := by
  obtain ⟨hn1, hn2, _⟩ := first_len h
  cases l with
  | nil => simp [first] at h
  | cons c r =>
    obtain ⟨m, rfl⟩ : ∃ j, m = j + 1 := ⟨m - 1, by omega⟩
    rw [List.take_succ_cons]
    by_cases hd : isDig c = true
    · have e : run isWB (c :: r.take m) = min (m + 1) (run isWB (c :: r)) := by rw [← List.take_succ_cons, run_take_min]
      have e2 : (c :: r.take m).take (run isWB (c :: r)) = (c :: r).take (min (run isWB (c :: r)) (m + 1)) := by rw [← List.take_succ_cons, List.take_take]
      simp only [first, if_pos hd] at h ⊢
      have hn : run isWB (c :: r) ≤ m + 1 := by
        split at h
        · cases h
        · cases h
        · injection h with _ _ _ h4; omega
      rw [e, Nat.min_eq_right hn, e2, Nat.min_eq_left hn]; exact h
    · by_cases hw : isWB c = true
      · have e : run isWB (c :: r.take m) = min (m + 1) (run isWB (c :: r)) := by rw [← List.take_succ_cons, run_take_min]
        have e2 : (c :: r.take m).take (run isWB (c :: r)) = (c :: r).take (min (run isWB (c :: r)) (m + 1)) := by rw [← List.take_succ_cons, List.take_take]
        simp only [first, if_neg hd, if_pos hw] at h ⊢
        have hn : run isWB (c :: r) ≤ m + 1 := by injection h with _ _ _ h4; omega
        rw [e, Nat.min_eq_right hn, e2, Nat.min_eq_left hn]; exact h
      · by_cases hq : c = 34
        · simp only [first, if_neg hd, if_neg hw, if_pos hq] at h ⊢
          obtain ⟨_, _, hn, _, hs⟩ := quoted_tok h
          rw [quoted_take r m (by omega) hs]; exact h
        · simp only [first, if_neg hd, if_neg hw, if_neg hq] at h ⊢
          unfold marked at h ⊢
          rw [← List.take_succ_cons, List.take_take, List.take_take, List.length_take]
          by_cases h2 : 1 < (c :: r).length ∧ punct ((c :: r).take 2) = true
          · rw [if_pos h2] at h
            injection h with h1' h2' h3' h4'
            subst h4'
            rw [if_pos ⟨by have := h2.1; omega, by rw [Nat.min_eq_left (by omega)]; exact h2.2⟩, Nat.min_eq_left (by omega)]
            rw [h1', h2', h3']
          · rw [if_neg h2] at h
            by_cases h1 : punct ((c :: r).take 1) = true
            · rw [if_pos h1] at h
              rw [if_neg, Nat.min_eq_left (show 1 ≤ m + 1 by omega), if_pos h1]
              · exact h
              · rintro ⟨ha, hb⟩
                apply h2
                rw [Nat.min_eq_left (by omega)] at hb
                exact ⟨by omega, hb⟩
            · rw [if_neg h1] at h; cases h
theorem step_take (l : List UInt8) (m : Nat) (he : ∀ e, step l ≠ .err e) (h1 : 1 ≤ m) (hm : (step l).n ≤ m) : step (l.take m) = step l := by
  cases l with
  | nil => simp [step] at he
  | cons c r =>
    obtain ⟨m, rfl⟩ : ∃ j, m = j + 1 := ⟨m - 1, by omega⟩
    rw [List.take_succ_cons]
    by_cases hs : isSp c = true
    · simp [step, hs]
    · by_cases h35 : c = 35
      · simp only [step, if_neg hs, if_pos h35, Act1.n] at hm ⊢
        rw [← List.take_succ_cons, run_take_min, Nat.min_eq_right hm]
      · simp only [step, if_neg hs, if_neg h35] at hm he ⊢
        cases hf : first (c :: r) with
        | tok k t v n =>
          rw [hf] at hm
          have := first_take (c :: r) (m + 1) k v n t hf hm
          rw [List.take_succ_cons] at this; exact this
        | err e => exact absurd hf (he e)
        | skip n => exact absurd hf first_noskip
theorem quoted_app (r m : List UInt8) (g : UInt8) (hg : isStr g = false) (hg2 : g ≠ 34) : quoted (r ++ g :: m) = quoted r := by
  have hle := @run_le isStr r
  unfold quoted
  rw [run_app r m g hg, List.drop_append_of_le_length hle, List.take_append_of_le_length hle]
  cases hd : r.drop (run isStr r) with
  | nil =>
    rw [List.nil_append]
    split
    · rename_i heq; exact absurd (List.cons.inj heq).1 hg2
    · rfl
  | cons x s =>
    rw [List.cons_append]
    by_cases hx : x = 34
    · subst hx; rfl
    · split
      · rename_i heq; exact absurd (List.cons.inj heq).1 hx
      · split
        · rename_i heq; exact absurd (List.cons.inj heq).1 hx
        · rfl
theorem marked_app (l m : List UInt8) (g : UInt8) (hl : l ≠ []) (hg : g ≠ 61 ∧ g ≠ 46 ∧ g ≠ 62) : marked (l ++ g :: m) = marked l := by
  obtain ⟨c, r, rfl⟩ := List.exists_cons_of_ne_nil hl
  unfold marked
  cases r with
  | nil =>
    have hp : punct [c, g] = false := by
      cases h : punct [c, g] with
      | false => rfl
      | true =>
        unfold punct at h
        simp [marks2] at h
        rcases h with h | h | h | h | h <;> first | exact absurd h.2 hg.1 | exact absurd h.2 hg.2.1 | exact absurd h.2 hg.2.2
    have e2 : List.take 2 ([c] ++ g :: m) = [c, g] := rfl
    have e1 : List.take 1 ([c] ++ g :: m) = [c] := rfl
    have e3 : List.take 1 [c] = [c] := rfl
    rw [e2, hp, if_neg (by simp), e1, if_neg (show ¬ (1 < [c].length ∧ _) by simp), e3]
  | cons d s =>
    have e2 : List.take 2 ((c :: d :: s) ++ g :: m) = List.take 2 (c :: d :: s) := rfl
    have e1 : List.take 1 ((c :: d :: s) ++ g :: m) = List.take 1 (c :: d :: s) := rfl
    rw [e2, e1]
    by_cases h2 : punct (List.take 2 (c :: d :: s)) = true
    · rw [if_pos ⟨by simp, h2⟩, if_pos ⟨by simp, h2⟩]
    · simp
/-- A byte that ends every token. -/
structure Ends (g : UInt8) : Prop where
  wb : isWB g = false
  str : isStr g = false ∨ isSp g = true ∨ g = 35
  q : g ≠ 34
  m : g ≠ 61 ∧ g ≠ 46 ∧ g ≠ 62
theorem step_nl (l m : List UInt8) (hl : l ≠ []) : step (l ++ 10 :: m) = step l := by
  obtain ⟨c, r, rfl⟩ := List.exists_cons_of_ne_nil hl
  rw [List.cons_append]
  by_cases hs : isSp c = true
  · simp [step, hs]
  · by_cases h35 : c = 35
    · simp only [step, if_neg hs, if_pos h35]
      rw [← List.cons_append, run_app (c :: r) m 10 rfl]
    · simp only [step, if_neg hs, if_neg h35]
      have hr : run isWB (c :: (r ++ 10 :: m)) = run isWB (c :: r) := by rw [← List.cons_append, run_app (c :: r) m 10 rfl]
      have ht : (c :: (r ++ 10 :: m)).take (run isWB (c :: r)) = (c :: r).take (run isWB (c :: r)) := by
        rw [← List.cons_append, List.take_append_of_le_length run_le]
      simp only [first, hr, ht]
      rw [quoted_app r m 10 rfl (by decide), ← List.cons_append, marked_app (c :: r) m 10 (by simp) (by decide)]

theorem step_n (l : List UInt8) (hl : l ≠ []) (he : ∀ e, step l ≠ .err e) : 1 ≤ (step l).n ∧ (step l).n ≤ l.length := by
  obtain ⟨c, r, rfl⟩ := List.exists_cons_of_ne_nil hl
  by_cases hs : isSp c = true
  · simp [step, hs, Act1.n]
  · by_cases h35 : c = 35
    · simp only [step, if_neg hs, if_pos h35, Act1.n]
      refine ⟨?_, run_le⟩
      rw [run_cons_pos (by rw [h35]; rfl)]; omega
    · simp only [step, if_neg hs, if_neg h35] at he ⊢
      cases hf : first (c :: r) with
      | tok k t v n => obtain ⟨h1, h2, _⟩ := first_len hf; exact ⟨h1, h2⟩
      | err e => exact absurd hf (he e)
      | skip n => exact absurd hf first_noskip
theorem lex_sk {l : List UInt8} (p : Nat × Nat) {n : Nat} (hl : l ≠ []) (h : step l = .skip n) : lex 0 p l = lex 0 (adv p (l.take n)) (l.drop n) := by
  have hn := step_n l hl (by rw [h]; simp)
  rw [h] at hn
  rw [lex_go p hl, h]; simp only []; rw [show n - 1 + 1 = n by have := hn.1; simp [Act1.n] at this; omega]
theorem lex_tk {l : List UInt8} (p : Nat × Nat) {k v n : Nat} {t : List UInt8} (hl : l ≠ []) (h : step l = .tok k t v n) : lex 0 p l = (lex 0 (adv p (l.take n)) (l.drop n)).cons ⟨k, t, v, p.1, p.2⟩ := by
  have hn := step_n l hl (by rw [h]; simp)
  rw [h] at hn
  rw [lex_go p hl, h]; simp only []; rw [show n - 1 + 1 = n by have := hn.1; simp [Act1.n] at this; omega]
theorem lex_er {l : List UInt8} (p : Nat × Nat) {e : Nat} (hl : l ≠ []) (h : step l = .err e) : lex 0 p l = .no p.1 p.2 e := by rw [lex_go p hl, h]

theorem cons_ok {r : Res} {t : Tok} {ts : List Tok} (h : r.cons t = .ok ts) : ∃ us, r = .ok us ∧ ts = t :: us := by
  cases r with
  | ok us => simp [Res.cons] at h; exact ⟨us, rfl, h.symm⟩
  | no a b c => simp [Res.cons] at h
theorem cons_no {r : Res} {t : Tok} {a b c : Nat} (h : r.cons t = .no a b c) : r = .no a b c := by
  cases r with
  | ok us => simp [Res.cons] at h
  | no a b c => simpa [Res.cons] using h
theorem take_drop_add (l : List UInt8) (n k : Nat) : (l.drop n).take k = (l.take (n + k)).drop n := by rw [List.drop_take]; congr 1; omega
theorem adv_split (q : Nat × Nat) (l : List UInt8) (n k : Nat) : adv (adv q (l.take n)) ((l.drop n).take k) = adv q (l.take (n + k)) := by
  rw [← adv_append]; congr 1
  rw [take_drop_add]
  have h := List.take_append_drop n (l.take (n + k))
  rw [List.take_take, Nat.min_eq_left (by omega)] at h
  exact h

theorem take_ne {l : List UInt8} {m : Nat} (hm : 1 ≤ m) (hl : l ≠ []) : l.take m ≠ [] := by
  obtain ⟨c, r, rfl⟩ := List.exists_cons_of_ne_nil hl
  obtain ⟨j, rfl⟩ : ∃ j, m = j + 1 := ⟨m - 1, by omega⟩
  rw [List.take_succ_cons]; exact List.cons_ne_nil _ _
/-- Where the first error stands: what is before it has none. -/
theorem lex_err_at : ∀ (N : Nat) (l : List UInt8) (q : Nat × Nat) (a b e : Nat), l.length ≤ N → lex 0 q l = .no a b e →
    ∃ k, k < l.length ∧ adv q (l.take k) = (a, b) ∧ step (l.drop k) = .err e ∧ ∃ ts, lex 0 q (l.take k) = .ok ts := by
  intro N
  induction N with
  | zero =>
            intro l q a b e hl h
            have h0 : l = [] := List.eq_nil_of_length_eq_zero (by omega)
            rw [h0, lex_nil] at h; cases h
  | succ N ih =>
    intro l q a b e hl h
    by_cases hne : l = []
    · rw [hne, lex_nil] at h; cases h
    cases hs : step l with
    | err e' =>
      rw [lex_er q hne hs] at h
      injection h with h1 h2 h3
      subst h3
      refine ⟨0, List.length_pos_iff.2 hne, ?_, hs, [], ?_⟩
      · show q = (a, b); rw [← h1, ← h2]
      · rw [List.take_zero, lex_nil]
    | skip n =>
      have hn := step_n l hne (by rw [hs]; simp)
      rw [hs] at hn
      simp only [Act1.n] at hn
      rw [lex_sk q hne hs] at h
      obtain ⟨k, hk, hp, hst, ts, hts⟩ := ih (l.drop n) _ a b e (by rw [List.length_drop]; omega) h
      rw [List.length_drop] at hk
      refine ⟨n + k, by omega, by rw [← adv_split]; exact hp, by rw [← List.drop_drop]; exact hst, ts, ?_⟩
      have hs' : step (l.take (n + k)) = .skip n := by rw [step_take l (n + k) (by rw [hs]; simp) (by omega) (by rw [hs]; simp [Act1.n])]; exact hs
      rw [lex_sk q (take_ne (by omega) hne) hs', List.take_take, Nat.min_eq_left (by omega), ← take_drop_add]; exact hts
    | tok kd tx v n =>
      have hn := step_n l hne (by rw [hs]; simp)
      rw [hs] at hn
      simp only [Act1.n] at hn
      rw [lex_tk q hne hs] at h
      obtain ⟨k, hk, hp, hst, ts, hts⟩ := ih (l.drop n) _ a b e (by rw [List.length_drop]; omega) (cons_no h)
      rw [List.length_drop] at hk
      refine ⟨n + k, by omega, by rw [← adv_split]; exact hp, by rw [← List.drop_drop]; exact hst, ⟨kd, tx, v, q.1, q.2⟩ :: ts, ?_⟩
      have hs' : step (l.take (n + k)) = .tok kd tx v n := by rw [step_take l (n + k) (by rw [hs]; simp) (by omega) (by rw [hs]; simp [Act1.n])]; exact hs
      rw [lex_tk q (take_ne (by omega) hne) hs', List.take_take, Nat.min_eq_left (by omega), ← take_drop_add, hts]; rfl
end Go.Proofs.YtahhmgoffdggpaaGreatDoor
