import Derived.Test.YtfbbllokpikbiabGrC
import Derived.WalkMore
import Derived.Scope
import Derived.Deep.LoopGhost
namespace Go.Proofs.Ytfbbllokpikbiab
open Go.RowKit
attribute [local go_sem] Oper.semAt_some run_store_nf run_store_f
/-- What the closure stands on. -/
structure RE (W : World) (bc lo hi mb n to_ : Nat) (g : List Eg) : Prop where
  c0 : W.cell? ⟨bc, 0, none⟩ = some (.map (some mb))
  c1 : W.cell? ⟨bc + 1, 0, none⟩ = some (.int .i64 (to_ : Int))
  c3 : W.cell? ⟨bc + 3, 0, none⟩ = some (.slice (some ⟨bc + 2, 0, none⟩) n n)
  c4 : W.cell? ⟨bc + 4, 0, none⟩ = some (.func (.func 40) #[] #[.pointer (some ⟨bc, 0, none⟩), .pointer (some ⟨bc + 1, 0, none⟩), .pointer (some ⟨bc + 3, 0, none⟩), .pointer (some ⟨bc + 4, 0, none⟩)])
  l : LR W lo hi mb g
  h : hi ≤ bc
theorem RE.keep {W W' : World} {bc lo hi mb n to_ : Nat} {g : List Eg} (h : RE W bc lo hi mb n to_ g) (k : Keeps (fun i => i = bc + 2) W W') : RE W' bc lo hi mb n to_ g :=
  ⟨k.cell h.c0 (fun e => by have e : bc = bc + 2 := e; omega), k.cell h.c1 (fun e => by have e : bc + 1 = bc + 2 := e; omega), k.cell h.c3 (fun e => by have e : bc + 3 = bc + 2 := e; omega), k.cell h.c4 (fun e => by have e : bc + 4 = bc + 2 := e; omega), h.l.keep k (fun b _ hb e => by have e : b = bc + 2 := e; have := h.h; omega), h.h⟩
/-- Marks. -/
def mks (M : Nat → Bool) : Nat → Value := fun i => .bool (M i)
/-- What the closure leaves. -/
def RwP (bc n to_ : Nat) (g : List Eg) (node : Nat) (M : Nat → Bool) (w : World) (e : Ending) (w' : World) : Prop := ∃ (b : Bool) (M' : Nat → Bool), e = .returned (.bool b) ∧ Wkd g to_ node M b M' ∧ FB w' (bc + 2) n (mks M') ∧ Keeps (fun i => i = bc + 2) w w'
/-- The closure's promise, so many calls deep. -/
def RWd (bc lo hi mb n to_ : Nat) (g : List Eg) (d : Nat) : Prop := ∀ (w : World) (M : Nat → Bool) (node : Nat), RE w bc lo hi mb n to_ g → FB w (bc + 2) n (mks M) → um M n ≤ d → node < n →
  Calls Try.prog 40 #[.int .i64 (node : Int), .pointer (some ⟨bc, 0, none⟩), .pointer (some ⟨bc + 1, 0, none⟩), .pointer (some ⟨bc + 3, 0, none⟩), .pointer (some ⟨bc + 4, 0, none⟩)] w (RwP bc n to_ g node M w)
set_option maxHeartbeats 600000 in
set_option maxRecDepth 100000 in
theorem rw_any {bc lo hi mb n to_ : Nat} {g : List Eg} {d : Nat} (hb : Bln g n) (hn : n ≤ 4096) (hlen : g.length ≤ 4398046511104) (ih : ∀ d', d = d' + 1 → RWd bc lo hi mb n to_ g d') : RWd bc lo hi mb n to_ g d := by
  intro w M node hE hM hd hnode
  obtain ⟨la, lc, hlk, hPM, hob⟩ := hE.l.q w (fun _ _ _ => rfl) node (by omega)
  have c0 := hE.c0
  have HE : Hid (RE w bc lo hi mb n to_ g) := hE
  have HM : Hid (FB w (bc + 2) n (mks M)) := hM
  have HPM : Hid (PM w la (ldN g node)) := hPM
  have HOB : Hid (∀ b off, la = some ⟨b, off, none⟩ → b ≠ bc + 2) := fun b off e q => by
    have := (hob b off e).2
    have := hE.h
    omega
  have HB : Hid (Bln g n) := hb
  have HIH : Hid (∀ d', d = d' + 1 → RWd bc lo hi mb n to_ g d') := ih
  have hLL := ldN_len g node
  have HP : Hid (∀ b M' w', Wkd g to_ node M b M' → FB w' (bc + 2) n (mks M') → Keeps (fun i => i = bc + 2) w w' → RwP bc n to_ g node M w (.returned (.bool b)) w') := fun b M' w' h1 h2 h3 => ⟨b, M', rfl, h1, h2, h3⟩
  have HS : Hid (Wki g to_ node M M 0) := Wki.start g to_ node M
  clear hE hM hPM hob hb ih
  generalize hN : (ldN g node).length = N at *
  have HN : Hid ((ldN g node).length = N) := hN
  clear hN
  go_enter Try.func40, Try.ntmps40
  go_wp2_with fail
  go_loopw [13] (fun iv Wr => ∃ (i : Nat) (M' : Nat → Bool), iv = .int .i64 (i : Int) ∧ i ≤ N ∧ Wki g to_ node M M' i ∧ FB Wr (bc + 2) n (mks M') ∧ Keeps (fun i => i = bc + 2) w Wr) (fun iv _ => N - (intOf iv).toNat)
  case atStart => exact ⟨0, M, rfl, Nat.zero_le _, HS.out, HM.out, Keeps.refl _ _⟩
  case round =>
    obtain ⟨i, M', rfl, hiN, hk, hf, kr⟩ := hrel
    have HK : Hid (Wki g to_ node M M' i) := hk
    have HF : Hid (FB wr (bc + 2) n (mks M')) := hf
    clear hk hf
    by_cases hlt : i < N
    · have j1 : decide ((i : Int) < (N : Int)) = true := decide_eq_true (by omega)
      have j2 : decide (i < N) = true := decide_eq_true hlt
      have j3 : (i : Int) < (N : Int) := by omega
      have j4 : (0 : Int) ≤ (i : Int) := by omega
      have hwi : IntKind.i64.wrap ((i : Int) + 1) = (i : Int) + 1 := by rw [IntKind.wrap_i64]; omega
      have hiL : i < (ldN g node).length := by rw [HN.out]; exact hlt
      obtain ⟨b, off, rfl, hc⟩ := HPM.out i hiL
      have hnb := HOB.out b off rfl
      have x0 := kr.cell hc hnb
      have hE2 := HE.out.keep kr
      have c1 := hE2.c1
      have c3 := hE2.c3
      have HE2 : Hid (RE wr bc lo hi mb n to_ g) := hE2
      have hxn : (ldN g node).getD i 0 < n := by
        obtain ⟨e, he, -, h2⟩ := mem_ldN.1 (getD_memN hiL)
        rw [← h2]
        exact (HB.out e he).2
      have HHIT : Hid ((ldN g node).getD i 0 = to_ → Wkd g to_ node M true M') := fun q => HK.out.hit hiL q
      have HWAS : Hid ((ldN g node).getD i 0 ≠ to_ → M' ((ldN g node).getD i 0) = true → Wki g to_ node M M' (i + 1)) := fun q1 q2 => HK.out.was hiL q1 q2
      have HWENT : Hid (∀ M2, (ldN g node).getD i 0 ≠ to_ → Wkd g to_ ((ldN g node).getD i 0) (upB M' ((ldN g node).getD i 0)) false M2 → Wki g to_ node M M2 (i + 1)) := fun M2 q1 q2 => HK.out.went hiL q1 q2
      have HHIT2 : Hid (∀ M2, Wkd g to_ ((ldN g node).getD i 0) (upB M' ((ldN g node).getD i 0)) true M2 → Wkd g to_ node M true M2) := fun M2 q => HK.out.hit2 hiL q
      clear hc hiL hE2 hnb
      generalize (ldN g node).getD i 0 = x at *
      have n1 : (0 : Int) ≤ (x : Int) := by omega
      have n2 : (x : Int) < (n : Int) := by omega
      by_cases hx : x = to_
      · have q : ((x : Int) == (to_ : Int)) = true := by simp [hx]
        have q' : (x == to_) = true := by simp [hx]
        have HPX2 : Hid (RwP bc n to_ g node M w (.returned (.bool true)) wr) := HP.out true M' wr (HHIT.out hx) HF.out kr
        clear hx HHIT HWAS HWENT HHIT2
        go_wp2_with fail
        go_ret
        exact HPX2.out
      · have q : ((x : Int) == (to_ : Int)) = false := by rw [beq_eq_false_iff_ne]; omega
        have q' : (x == to_) = false := by rw [beq_eq_false_iff_ne]; exact hx
        have y0 : wr.cell? ⟨bc + 2, x, none⟩ = some (.bool (M' x)) := HF.out.c x hxn
        cases hm : M' x with
        | true =>
          rw [hm] at y0
          have HXX : Hid (Wki g to_ node M M' (i + 1)) := HWAS.out hx hm
          clear hx hm HHIT HWAS HWENT HHIT2
          go_wp2_with fail
          go_roundw
          case rel => exact ⟨i + 1, M', by go_num, by omega, HXX.out, HF.out, kr⟩
          case measure => simp [intOf]; omega
        | false =>
          rw [hm] at y0
          have hFB := HF.out
          have hum := (um_up hm n).1 hxn
          have hum2 := um_mono HK.out.m n
          obtain ⟨d', hd'⟩ : ∃ d', d = d' + 1 := ⟨d - 1, by omega⟩
          have HREC : Hid (∀ w1, FB w1 (bc + 2) n (upV (mks M') x (.bool true)) → Keeps (fun k => k = bc + 2) wr w1 → w1.cell? ⟨bc + 4, 0, none⟩ = some (.func (.func 40) #[] #[.pointer (some ⟨bc, 0, none⟩), .pointer (some ⟨bc + 1, 0, none⟩), .pointer (some ⟨bc + 3, 0, none⟩), .pointer (some ⟨bc + 4, 0, none⟩)]) ∧ Calls Try.prog 40 #[.int .i64 (x : Int), .pointer (some ⟨bc, 0, none⟩), .pointer (some ⟨bc + 1, 0, none⟩), .pointer (some ⟨bc + 3, 0, none⟩), .pointer (some ⟨bc + 4, 0, none⟩)] w1 (RwP bc n to_ g x (upB M' x) w1)) := fun w1 h1 k1 => by
            have hE3 := HE2.out.keep k1
            refine ⟨hE3.c4, HIH.out d' hd' w1 (upB M' x) x hE3 (h1.congr (fun i hi => ?_)) (by omega) hxn⟩
            unfold upV mks upB
            split <;> rfl
          clear hum hum2 hd'
          have HNE : Hid (x ≠ to_) := hx
          have HKR : Hid (Keeps (fun i => i = bc + 2) w wr) := kr
          clear hx HHIT HWAS kr
          go_wp2_with (first | (refine wpList_store_fb rfl rfl _ _ rfl (bc + 2) x rfl true rfl hFB hxn ?_; intro w1 hf1 k1 hz1; clear hz1 y0 hFB; obtain ⟨e4, hrc⟩ := HREC.out w1 hf1 k1; clear HREC) | (go_at_call 40; refine hrc.mono ?_; clear hrc; rintro e w2 ⟨bb, M2, rfl, hW2, hF2, k2⟩))
          · rename_i hbb
            subst hbb
            have HPX2 : Hid (RwP bc n to_ g node M w (.returned (.bool true)) w2) := HP.out true M2 w2 (HHIT2.out M2 hW2) hF2 ((HKR.out.trans k1).trans k2)
            go_ret
            exact HPX2.out
          · rename_i hbb
            subst hbb
            have HXX : Hid (Wki g to_ node M M2 (i + 1)) := HWENT.out M2 HNE.out hW2
            go_roundw
            case rel => exact ⟨i + 1, M2, by go_num, by omega, HXX.out, hF2, (HKR.out.trans k1).trans k2⟩
            case measure => simp [intOf]; omega
    · have j1 : decide ((i : Int) < (N : Int)) = false := decide_eq_false (by omega)
      have j2 : decide (i < N) = false := decide_eq_false hlt
      have HPX2 : Hid (RwP bc n to_ g node M w (.returned (.bool false)) wr) := HP.out false M' wr (HK.out.done (by rw [HN.out]; omega)) HF.out kr
      go_wp2_with fail
      go_ret
      exact HPX2.out
theorem rw_all {bc lo hi mb n to_ : Nat} {g : List Eg} (hb : Bln g n) (hn : n ≤ 4096) (hlen : g.length ≤ 4398046511104) : ∀ d, RWd bc lo hi mb n to_ g d
  | 0 => rw_any hb hn hlen (fun d' e => by omega)
  | d + 1 => rw_any hb hn hlen (fun d' e => by
    obtain rfl : d' = d := by omega
    exact rw_all hb hn hlen d')
end Go.Proofs.Ytfbbllokpikbiab
