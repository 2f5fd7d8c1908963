import Derived.Test.YtkebpelpjkgdkabLists
import Derived.OwnWalk
namespace Go.Proofs.Ytkebpelpjkgdkab
open Go.RowKit Go.Maps

theorem owns_base' {w : World} {base : Nat} {e : TypeId} {size : Nat} {v : Value} {n : Nat} {xs : List Value} (h : w.ownsRow base e size v n xs) (k : Nat) (hk : v.ownBlock = some k) : base ≤ k := by
  rcases h.2 with ⟨rfl, _⟩ | ⟨g, cap, cur, rfl, hb, hg, rest⟩
  · cases hk
  · cases hk; exact hb

/-- What load lets in. -/
def hstep (h : List It) (x : It) : List It := if x.2 ∉ ids h ∧ h.length < 4096 then h ++ [x] else h
def hold (items : List It) : List It := items.foldl hstep []

theorem hold_succ {items : List It} {i : Nat} (hi : i < items.length) : hold (items.take (i + 1)) = hstep (hold (items.take i)) (ia items i) := by
  unfold hold
  rw [← List.take_append_getElem hi, List.foldl_append, ia_get hi]; rfl
theorem hold_le_aux : ∀ (items h : List It), h.length ≤ 4096 → (items.foldl hstep h).length ≤ 4096
  | [], h, hh => hh
  | x :: xs, h, hh => by
    rw [List.foldl_cons]
    refine hold_le_aux xs _ ?_
    unfold hstep
    by_cases hc : x.2 ∉ ids h ∧ h.length < 4096
    · rw [if_pos hc]; simp; omega
    · rw [if_neg hc]; exact hh
theorem hold_le (items : List It) : (hold items).length ≤ 4096 := hold_le_aux items [] (by simp)
theorem hold_mem_aux : ∀ (items h : List It) (x : It), x ∈ items.foldl hstep h → x ∈ h ∨ x ∈ items
  | [], h, x, hx => .inl hx
  | y :: ys, h, x, hx => by
    rw [List.foldl_cons] at hx
    rcases hold_mem_aux ys _ x hx with h1 | h1
    · unfold hstep at h1
      by_cases hc : y.2 ∉ ids h ∧ h.length < 4096
      · rw [if_pos hc] at h1
        rcases List.mem_append.1 h1 with h2 | h2
        · exact .inl h2
        · simp at h2; rw [h2]; exact .inr (by simp)
      · rw [if_neg hc] at h1; exact .inl h1
    · exact .inr (by simp [h1])
theorem hold_mem {items : List It} {x : It} (h : x ∈ hold items) : x ∈ items := (hold_mem_aux items [] x h).resolve_left (by simp)

/-- What Add is to answer. -/
def wnt (L : List It) (x : It) (w0 : Int) : Int := if x.2 ∈ ids L then 21 else w0
theorem wnt_succ {L : List It} {k : Nat} (hk : k < L.length) (x : It) (w0 : Int) : wnt (L.take (k + 1)) x w0 = if (ia L k).2 = x.2 then 21 else wnt (L.take k) x w0 := by
  have e : ids (L.take (k + 1)) = ids (L.take k) ++ [(ia L k).2] := by
    unfold ids; rw [← List.take_append_getElem hk, List.map_append, ia_get hk]; rfl
  unfold wnt
  rw [e]
  by_cases h1 : (ia L k).2 = x.2
  · rw [if_pos h1, if_pos (by rw [h1]; simp)]
  · rw [if_neg h1]
    by_cases h2 : x.2 ∈ ids (L.take k)
    · rw [if_pos h2, if_pos (by simp [h2])]
    · rw [if_neg h2, if_neg]
      intro hm
      rcases List.mem_append.1 hm with hm | hm
      · exact h2 hm
      · simp at hm; exact h1 hm.symm

set_option maxHeartbeats 6400000 in
set_option maxRecDepth 1000000 in
theorem load_any {w : World} {qb : Nat} {F : List Nat} {a : Option Addr} {items : List It} (h : QI w qb [] F) (hi : IL w a items) (hnF : items.length = 0 ∨ ∀ b off, a = some ⟨b, off, none⟩ → b ∉ F)
    (hl : items.length * 16 ≤ 140737488355328) (hnum : ∀ x ∈ items, I64 x.1 ∧ I64 x.2) (cap : Nat) :
    Calls Try.prog 9 #[.pointer (some ⟨qb, 0, none⟩), .slice a items.length cap] w fun e w' => ∃ v, e = .returned (.tuple #[.bool true, v]) ∧
      w'.ownsRow w.heap.size 32 2 v (hold items).length (flat (hold items)) ∧ ∃ xs F', QI w' qb xs F' ∧ xs.Perm (hold items) ∧ Left w w' F F' ∧ (∀ g, v.ownBlock = some g → g ∉ F') := by
  have HI : Hid (IL w a items) := hi
  have HN : Hid (∀ x ∈ items, I64 x.1 ∧ I64 x.2) := hnum
  clear hi hnum
  obtain ⟨i0, hi0, hz0, hz1, hz2⟩ := info_parts Q.itemInfo
  go_enter Try.func9, Try.ntmps9
  go_wp2_with fail
  go_loopw [6, 7] (fun v iv wr => ∃ (i : Nat) (xs : List It) (Fr : List Nat), i ≤ items.length ∧ iv = .int .i64 i ∧ wr.ownsRow w.heap.size 32 2 v (hold (items.take i)).length (flat (hold (items.take i))) ∧ QI wr qb xs Fr ∧ xs.Perm (hold (items.take i)) ∧ Left w wr F Fr ∧ (∀ g, v.ownBlock = some g → g ∉ Fr)) (fun _ iv _ => items.length - (intOf iv).toNat)
  case atStart => exact ⟨0, [], F, Nat.zero_le _, rfl, by simp [hold]; exact World.ownsRow_nil _ _ _ _, h, by simp [hold], Left.refl _ _, fun g hg => by cases hg⟩
  case round =>
    obtain ⟨i, xs, Fr, hile, rfl, hown, hq, hperm, hleft, hg⟩ := hrel
    by_cases hlt : i < items.length
    · obtain ⟨b, off, rfl, hb, hc⟩ := HI.out.some (by omega)
      have hiI : (i : Int) < (items.length : Int) := by omega
      have hbF := hnF.resolve_left (by omega) b off rfl
      have c0 := hleft.keeps.cell (hc i hlt).1 hbF
      have c1 := hleft.keeps.cell (hc i hlt).2 hbF
      have x64 := HN.out _ (ia_mem hlt)
      have HS' : Hid (hold (items.take (i + 1)) = hstep (hold (items.take i)) (ia items i)) := hold_succ hlt
      obtain ⟨x, hx⟩ : ∃ x, Hid (ia items i = x) := ⟨_, rfl⟩
      rw [hx.out] at c0 c1 x64
      obtain ⟨L, hL⟩ : ∃ L, Hid (hold (items.take i) = L) := ⟨_, rfl⟩
      have hLl : L.length ≤ 4096 := by rw [← hL.out]; exact hold_le _
      rw [hL.out] at hown hperm
      obtain ⟨av, cv, rfl, hil, hoil⟩ := owns_il hown rfl
      clear hc
      by_cases hf : 4096 ≤ L.length
      · have hfI : (4096 : Int) ≤ (L.length : Int) := by omega
        go_wp2_with fail
        go_loopw [8, 9] (fun wv kv wi => ∃ (k m : Nat), k ≤ L.length ∧ kv = .int .i64 k ∧ wv = .int .i64 (wnt (L.take k) x 22) ∧ wi = wr.drewN m) (fun _ kv _ => L.length - (intOf kv).toNat)
        case atStart => exact ⟨0, 0, Nat.zero_le _, rfl, by simp [wnt, ids], rfl⟩
        case round =>
          obtain ⟨k, m, hkl, rfl, rfl, rfl⟩ := hrel
          by_cases hk : k < L.length
          · obtain ⟨bl, ol, rfl, hbl, hcl⟩ := hil.some (by omega)
            have hkI : (k : Int) < (L.length : Int) := by omega
            have l1 := (hcl k hk).2
            have HWS : Hid (wnt (L.take (k + 1)) x 22 = if (ia L k).2 = x.2 then 21 else wnt (L.take k) x 22) := wnt_succ hk x 22
            obtain ⟨y, hy⟩ : ∃ y, Hid ((ia L k).2 = y) := ⟨_, rfl⟩
            rw [hy.out] at l1
            have HWS' : Hid (wnt (L.take (k + 1)) x 22 = if y = x.2 then 21 else wnt (L.take k) x 22) := by show _ = _; rw [HWS.out, hy.out]
            clear hcl HWS
            by_cases hyx : y = x.2
            · have hyb : (y == x.2) = true := by simp [hyx]
              have HY : Hid (y = x.2) := hyx
              clear hyx
              go_wp2_with fail
              go_quiet (fail)
              go_wp2_with fail
              go_roundw
              case rel => exact ⟨k + 1, _, by omega, by go_num, by rw [HWS'.out, if_pos HY.out], rfl⟩
              case measure => simp [intOf]; omega
            · have hyb : (y == x.2) = false := by simp [hyx]
              have HY : Hid (¬ y = x.2) := hyx
              clear hyx
              go_wp2_with fail
              go_quiet (fail)
              go_wp2_with fail
              go_roundw
              case rel => exact ⟨k + 1, _, by omega, by go_num, by rw [HWS'.out, if_neg HY.out], rfl⟩
              case measure => simp [intOf]; omega
          · have hkI : ¬ (k : Int) < (L.length : Int) := by omega
            have hkf : L.take k = L := List.take_of_length_le (by omega)
            rw [hkf]
            clear hkf
            have hkd : Keeps (fun _ => False) wr (wr.drewN m) := (Keeps.refl _ wr).drewN m
            have hq' := hq.keep hkd (fun _ _ e => e)
            have hown' := hkd.owns hown (fun _ _ e => e)
            have d0 := hkd.cell c0 (fun e => e)
            have d1 := hkd.cell c1 (fun e => e)
            have hleft' : Left w (wr.drewN m) F Fr := ⟨hleft.keeps.drewN m, hleft.old⟩
            have hmem : ∀ k, k ∈ ids xs ↔ k ∈ ids L := fun k => (ids_perm hperm).mem_iff
            have hlen : Hid (xs.length = L.length) := hperm.length_eq
            have hbFr : b ∉ Fr := fun hm => (hleft.old b hm).elim hbF (fun e => by omega)
            clear hq hown c0 c1 hleft hkd hil
            generalize wr.drewN m = wd at *
            go_wp2_with fail
            refine (add_any hq' x x64).mono ?_
            rintro e w2 (⟨hin, rfl, q2, k2⟩ | ⟨hni, hfl, rfl, q2, k2⟩ | ⟨hni, hlt', _⟩)
            · have hw : wnt L x 22 = 21 := if_pos ((hmem _).1 hin)
              rw [hw]
              have HE : Hid (hold (items.take (i + 1)) = L) := by
                show _ = _
                rw [HS'.out, hx.out, hL.out]
                exact if_neg (fun e => e.1 ((hmem _).1 hin))
              go_wp2_with fail
              refine (num_any _ _).mono ?_
              rintro e w3 ⟨rfl, rfl⟩
              go_wp2_with fail
              go_roundw
              case rel => exact ⟨i + 1, xs, Fr, by omega, by go_num, by rw [HE.out]; exact k2.owns hown' (fun _ _ e => e), q2, by rw [HE.out]; exact hperm, hleft'.trans (Left.new k2), hg⟩
              case measure => simp [intOf]; omega
            · have hw : wnt L x 22 = 22 := if_neg (fun e => hni ((hmem _).2 e))
              rw [hw]
              have HE : Hid (hold (items.take (i + 1)) = L) := by
                show _ = _
                rw [HS'.out, hx.out, hL.out]
                exact if_neg (fun e => by omega)
              go_wp2_with fail
              refine (num_any _ _).mono ?_
              rintro e w3 ⟨rfl, rfl⟩
              go_wp2_with fail
              go_roundw
              case rel => exact ⟨i + 1, xs, Fr, by omega, by go_num, by rw [HE.out]; exact k2.owns hown' (fun _ _ e => e), q2, by rw [HE.out]; exact hperm, hleft'.trans (Left.new k2), hg⟩
              case measure => simp [intOf]; omega
            · have := hlen.out; omega
      · have hfI : ¬ (4096 : Int) ≤ (L.length : Int) := by omega
        go_wp2_with fail
        go_loopw [8, 9] (fun wv kv wi => ∃ (k m : Nat), k ≤ L.length ∧ kv = .int .i64 k ∧ wv = .int .i64 (wnt (L.take k) x 0) ∧ wi = wr.drewN m) (fun _ kv _ => L.length - (intOf kv).toNat)
        case atStart => exact ⟨0, 0, Nat.zero_le _, rfl, by simp [wnt, ids], rfl⟩
        case round =>
          obtain ⟨k, m, hkl, rfl, rfl, rfl⟩ := hrel
          by_cases hk : k < L.length
          · obtain ⟨bl, ol, rfl, hbl, hcl⟩ := hil.some (by omega)
            have hkI : (k : Int) < (L.length : Int) := by omega
            have l1 := (hcl k hk).2
            have HWS : Hid (wnt (L.take (k + 1)) x 0 = if (ia L k).2 = x.2 then 21 else wnt (L.take k) x 0) := wnt_succ hk x 0
            obtain ⟨y, hy⟩ : ∃ y, Hid ((ia L k).2 = y) := ⟨_, rfl⟩
            rw [hy.out] at l1
            have HWS' : Hid (wnt (L.take (k + 1)) x 0 = if y = x.2 then 21 else wnt (L.take k) x 0) := by show _ = _; rw [HWS.out, hy.out]
            clear hcl HWS
            by_cases hyx : y = x.2
            · have hyb : (y == x.2) = true := by simp [hyx]
              have HY : Hid (y = x.2) := hyx
              clear hyx
              go_wp2_with fail
              go_quiet (fail)
              go_wp2_with fail
              go_roundw
              case rel => exact ⟨k + 1, _, by omega, by go_num, by rw [HWS'.out, if_pos HY.out], rfl⟩
              case measure => simp [intOf]; omega
            · have hyb : (y == x.2) = false := by simp [hyx]
              have HY : Hid (¬ y = x.2) := hyx
              clear hyx
              go_wp2_with fail
              go_quiet (fail)
              go_wp2_with fail
              go_roundw
              case rel => exact ⟨k + 1, _, by omega, by go_num, by rw [HWS'.out, if_neg HY.out], rfl⟩
              case measure => simp [intOf]; omega
          · have hkI : ¬ (k : Int) < (L.length : Int) := by omega
            have hkf : L.take k = L := List.take_of_length_le (by omega)
            rw [hkf]
            clear hkf
            have hkd : Keeps (fun _ => False) wr (wr.drewN m) := (Keeps.refl _ wr).drewN m
            have hq' := hq.keep hkd (fun _ _ e => e)
            have hown' := hkd.owns hown (fun _ _ e => e)
            have d0 := hkd.cell c0 (fun e => e)
            have d1 := hkd.cell c1 (fun e => e)
            have hleft' : Left w (wr.drewN m) F Fr := ⟨hleft.keeps.drewN m, hleft.old⟩
            have hmem : ∀ k, k ∈ ids xs ↔ k ∈ ids L := fun k => (ids_perm hperm).mem_iff
            have hlen : Hid (xs.length = L.length) := hperm.length_eq
            have hbFr : b ∉ Fr := fun hm => (hleft.old b hm).elim hbF (fun e => by omega)
            clear hq hown c0 c1 hleft hkd hil
            generalize wr.drewN m = wd at *
            go_wp2_with fail
            refine (add_any hq' x x64).mono ?_
            rintro e w2 (⟨hin, rfl, q2, k2⟩ | ⟨hni, hfl, _⟩ | ⟨hni, hlt', rfl, ys, F2, q2, hp2, l2⟩)
            · have hw : wnt L x 0 = 21 := if_pos ((hmem _).1 hin)
              rw [hw]
              have HE : Hid (hold (items.take (i + 1)) = L) := by
                show _ = _
                rw [HS'.out, hx.out, hL.out]
                exact if_neg (fun e => e.1 ((hmem _).1 hin))
              go_wp2_with fail
              refine (num_any _ _).mono ?_
              rintro e w3 ⟨rfl, rfl⟩
              go_wp2_with fail
              go_roundw
              case rel => exact ⟨i + 1, xs, Fr, by omega, by go_num, by rw [HE.out]; exact k2.owns hown' (fun _ _ e => e), q2, by rw [HE.out]; exact hperm, hleft'.trans (Left.new k2), hg⟩
              case measure => simp [intOf]; omega
            · have := hlen.out; omega
            · have hw : wnt L x 0 = 0 := if_neg (fun e => hni ((hmem _).2 e))
              rw [hw]
              have HE : Hid (hold (items.take (i + 1)) = L ++ [x]) := by
                show _ = _
                rw [HS'.out, hx.out, hL.out]
                exact if_pos ⟨fun e => hni ((hmem _).2 e), by omega⟩
              have e0 := l2.keeps.cell d0 hbFr
              have e1 := l2.keeps.cell d1 hbFr
              have hown2 := l2.keeps.owns hown' (fun g hg' => hg g hg')
              have hgl : ∀ g, (Value.slice av L.length cv).ownBlock = some g → g < wd.heap.size := fun g hg' => owns_lt' hown' g hg'
              have HG : Hid (∀ g, (Value.slice av L.length cv).ownBlock = some g → g ∉ F2) := fun g hg' hm => (l2.old g hm).elim (hg g hg') (fun e => by have := hgl g hg'; omega)
              have h63 : L.length + 1 ≤ maxLen := by unfold maxLen; omega
              have hb16 : (L.length + 1) * 16 ≤ 140737488355328 := by omega
              have hsz : w.heap.size ≤ w2.heap.size := (hleft'.trans l2).keeps.size
              have HL2 := hleft'.trans l2
              have HO : Hid (w2.ownsRow w.heap.size 32 2 (.slice av L.length cv) L.length (flat L)) := hown2
              clear hown' hown2 d0 d1 hgl hg hmem
              go_wp2_with fail
              refine (num_any _ _).mono ?_
              rintro e w3 ⟨rfl, rfl⟩
              go_wp2_with (first | (at_builtin; refine wpList_append_lies _ rfl _ _ _ rfl w.heap.size 32 i0 _ 2 16 Q.underItems hi0 hz0 hz1 hz2 rfl (by decide) (.slice av L.length cv) L.length (flat L) rfl (HO.out.alloc _) ⟨w3.heap.size, 0, none⟩ 1 1 [.int .i64 x.1, .int .i64 x.2] rfl rfl (World.news_of_block (cs := #[.int .i64 x.1, .int .i64 x.2]) (t := 32) (fr := (0, 0)) (heap_alloc_new w3 _)) (by simp [Value.oneCell']) (by omega) h63 hb16 (by simp; omega) _ rfl ?_) | go_in)
              intro g cg w4 hown4 hgrow hat hlt4
              have K4 : Keeps (fun k => (Value.slice av L.length cv).ownBlock = some k) w3 w4 := ((Keeps.refl _ w3).alloc _).grown hgrow (fun _ _ e => e)
              have q4 := q2.keep K4 (fun k hk e => HG.out k e hk)
              have hF2 := q2.lt
              go_wp2_with fail
              go_roundw
              case rel =>
                refine ⟨i + 1, ys, F2, by omega, by go_num, ?_, q4, ?_, ⟨?_, HL2.old⟩, fun g' hg' => ?_⟩
                · rw [HE.out, List.length_append, flat_append]; exact hown4
                · rw [HE.out]; exact hp2.trans (hperm.append_right _)
                · exact HL2.keeps.trans' K4 (fun _ _ e => e) (fun j hj e => by
                    have := owns_base' HO.out j e
                    omega)
                · cases hg'
                  rcases hat with hat | hat
                  · exact HG.out _ hat
                  · intro hm; have h5 : g < w3.heap.size := hF2 _ hm; omega
              case measure => simp [intOf]; omega
    · have hiI : ¬ (i : Int) < (items.length : Int) := by omega
      have hfin : items.take i = items := List.take_of_length_le (by omega)
      rw [hfin] at hown hperm
      go_wp2
      go_ret2
      exact ⟨_, rfl, hown, xs, Fr, hq, hperm, hleft, hg⟩

end Go.Proofs.Ytkebpelpjkgdkab
