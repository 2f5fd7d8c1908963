import Derived.Test.YtblcjohhelokkabGreatDoorMdM
import Derived.Test.YtblcjohhelokkabGreatDoorMdL
namespace Go.Proofs.YtblcjohhelokkabGreatDoor
open Go.RowKit
attribute [local go_sem] Oper.semAt_some run_store_nf run_store_f
theorem run_fine {w : World} {a ao ag : Option Addr} {cap co cg : Nat} {l : List Ins} {os : List Int} {gs : List (Bool × Int)} (hT : LT w) (hl : ISL w a l) (hO : NUM w ao os) (hG : GVN w ag gs) (hc : (chk l).1 = 0) (h16 : os.length ≤ 16) (h40 : gs.length ≤ 4096) (f : Nat) (hf : f ≤ 10000) {F : Rs × Nat} (hF : gor l os gs f 0 rs0 = F) {L : List Int} (hL : lft os F.1 os.length = L) : Calls Tryz.prog 8 #[.slice a l.length cap, .slice ao os.length co, .slice ag gs.length cg, .int .i64 (f : Int)] w fun e w' => ∃ b, e = .returned (.tuple #[.agg #[.int .i64 F.1.oc, .int .i64 F.1.rs, .slice (some ⟨b, 0, none⟩) os.length os.length, .int .i64 (F.2 : Int)], .int .i64 0]) ∧ CL w' b (nvs L) ∧ Keeps (fun _ => False) w w' := by
  have hl64 := (chk_ok hc).1
  refine (run_any (cap := cap) (co := co) (cg := cg) hT hl (by omega) hO hG (f : Int)).mono ?_
  rintro e w' ⟨v, x, rfl, hP, k⟩
  have hr : rfs os.length gs.length (f : Int) = 0 := by
    unfold rfs
    rw [if_neg (by omega), if_neg (by omega), if_neg (by omega)]
  rcases hP with ⟨h0, _⟩ | ⟨_, h1, _⟩ | ⟨_, _, rfl, b, _, rfl, hC, _⟩
  · exact (h0 hc).elim
  · exact (h1 hr).elim
  · rw [Int.toNat_natCast, hF] at hC ⊢
    rw [hL] at hC
    exact ⟨b, rfl, hC, k⟩
theorem run_bad {w : World} {a ao ag : Option Addr} {cap co cg : Nat} {l : List Ins} {os : List Int} {gs : List (Bool × Int)} (hT : LT w) (hl : ISL w a l) (hlen : l.length ≤ 9223372036854775807) (hO : NUM w ao os) (hG : GVN w ag gs) (fuel : Int) (hb : ¬ ((chk l).1 = 0 ∧ rfs os.length gs.length fuel = 0)) : Calls Tryz.prog 8 #[.slice a l.length cap, .slice ao os.length co, .slice ag gs.length cg, .int .i64 fuel] w fun e w' => ∃ x, e = .returned (.tuple #[zA, .int .i64 x]) ∧ ¬ x = 0 ∧ Keeps (fun _ => False) w w' := by
  refine (run_any (cap := cap) (co := co) (cg := cg) hT hl hlen hO hG fuel).mono ?_
  rintro e w' ⟨v, x, rfl, hP, k⟩
  rcases hP with ⟨h0, rfl, rfl⟩ | ⟨_, h1, rfl, rfl⟩ | ⟨h0, h1, _⟩
  · exact ⟨_, rfl, h0, k⟩
  · exact ⟨_, rfl, h1, k⟩
  · exact (hb ⟨h0, h1⟩).elim
end Go.Proofs.YtblcjohhelokkabGreatDoor
