import Derived.Test.YtekalkjghfghhabCelFits
namespace Go.Proofs.Ytekalkjghfghhab
open Go.RowKit

/-- What a cell holds behind the first i acts. -/
def hd (l : List Ac) (c : Nat) : Nat → Int
  | 0 => 10 + (c : Int)
  | i + 1 => if pl (aa l i).c = c then (aa l i).wrote (hd l c i) else hd l c i
/-- How many of the first i acts are taken. -/
def cn (l : List Ac) : Nat → Nat
  | 0 => 0
  | i + 1 => if pl (aa l i).c = 3 then cn l i else cn l i + 1
theorem cn_le (l : List Ac) : ∀ i, cn l i ≤ i
  | 0 => Nat.le_refl _
  | i + 1 => by have := cn_le l i; unfold cn; split <;> omega
theorem cn_mono (l : List Ac) : ∀ {i j : Nat}, i ≤ j → cn l i ≤ cn l j
  | i, 0, h => by simp at h; subst h; exact Nat.le_refl _
  | i, j + 1, h => by
    by_cases e : i = j + 1
    · subst e; exact Nat.le_refl _
    · have := cn_mono l (i := i) (j := j) (by omega)
      have h2 : cn l j ≤ cn l (j + 1) := by conv => rhs; unfold cn
                                            split <;> omega
      omega
theorem cn_take {l : List Ac} {i : Nat} (h : pl (aa l i).c ≠ 3) : cn l (i + 1) = cn l i + 1 := by rw [cn, if_neg h]
theorem cn_skip {l : List Ac} {i : Nat} (h : pl (aa l i).c = 3) : cn l (i + 1) = cn l i := by rw [cn, if_pos h]
/-- The row of an act. -/
def gr (l : List Ac) (i : Nat) : Rw := ⟨2 * (i : Int) + 1, (pl (i : Int) : Int), (aa l i).kd, (pl (aa l i).c : Int), hd l (pl (aa l i).c) i, (aa l i).wrote (hd l (pl (aa l i).c) i), (aa l i).done (hd l (pl (aa l i).c) i)⟩
def sdo (l : List Ac) (i : Nat) : Int := if pl (aa l i).c = 3 then 0 else (aa l i).said (hd l (pl (aa l i).c) i)
def nums (x : Nat → Int) (n : Nat) : List Value := (List.range n).map fun j => .int .i64 (x j)
theorem nums_succ (x : Nat → Int) (n : Nat) : nums x (n + 1) = nums x n ++ [.int .i64 (x n)] := by simp [nums, List.range_succ]

theorem nums_get {x : Nat → Int} {n j : Nat} (h : j < n) : (nums x n)[j]? = some (.int .i64 (x j)) := by simp [nums, h]

/-- The memory behind i acts. -/
structure GS (l : List Ac) (s : Mm) (i : Nat) : Prop where
  len : s.cells.length = 3
  v : ∀ c, c < 3 → (ca s.cells c).2 = hd l c i
  log : s.log.length = cn l i
  row : ∀ j, j < i → pl (aa l j).c ≠ 3 → ra s.log (cn l j) = gr l j
  stp : s.begun = true → s.step < 2 * (i : Int) + 1
theorem GS.start (l : List Ac) : GS l (fr 3) 0 := ⟨rfl, (fun c hc => by
  rcases c with _ | _ | _ | c
  · rfl
  · rfl
  · rfl
  · omega), rfl, (fun j hj => by omega), (fun e => by cases e)⟩
theorem GS.may {l : List Ac} {s : Mm} {i : Nat} (h : GS l s i) {th : Int} (hth : 0 ≤ th) : s.may (2 * (i : Int) + 1) th = true := by
  have := h.stp
  simp only [Mm.may]
  cases hb : s.begun with
  | false => simp [hth]; omega
  | true => have := this hb; simp [hth]; omega
theorem GS.skip {l : List Ac} {s : Mm} {i : Nat} (h : GS l s i) (th : Int) (hp : pl (aa l i).c = 3) : GS l (s.begin (2 * (i : Int) + 1) th) (i + 1) := by
  refine ⟨h.len, fun c hc => ?_, by rw [cn_skip hp]; exact h.log, fun j hj hn => ?_, fun _ => by simp [Mm.begin]; omega⟩
  · rw [hd, if_neg (by omega)]; exact h.v c hc
  · by_cases e : j = i
    · subst e; exact absurd hp hn
    · exact h.row j (by omega) hn
theorem GS.take {l : List Ac} {s : Mm} {i : Nat} (h : GS l s i) (hp : pl (aa l i).c ≠ 3) (h4 : pl (aa l i).c < 4) :
    GS l ((s.begin (2 * (i : Int) + 1) (pl (i : Int) : Int)).take (aa l i).kd (pl (aa l i).c) ((aa l i).wrote (ca (s.begin (2 * (i : Int) + 1) (pl (i : Int) : Int)).cells (pl (aa l i).c)).2) ((aa l i).done (ca (s.begin (2 * (i : Int) + 1) (pl (i : Int) : Int)).cells (pl (aa l i).c)).2)) (i + 1) := by
  have hl := h.len
  have e0 : (ca (s.begin (2 * (i : Int) + 1) (pl (i : Int) : Int)).cells (pl (aa l i).c)).2 = hd l (pl (aa l i).c) i := h.v _ (by omega)
  rw [e0]
  refine ⟨by simp [Mm.take, Mm.begin, hl], fun c hc => ?_, by rw [cn_take hp]; simp [Mm.take, Mm.begin, h.log], fun j hj hn => ?_, fun _ => by simp [Mm.take, Mm.begin]; omega⟩
  · have := h.v c hc
    simp only [Mm.take, Mm.begin, ca, List.getD_eq_getElem?_getD] at this ⊢
    by_cases e : pl (aa l i).c = c
    · rw [hd, if_pos e, e]; simp [hl, hc]
    · rw [hd, if_neg e, List.getElem?_set_ne e]; exact this
  · show ra (s.log ++ [_]) (cn l j) = gr l j
    by_cases e : j = i
    · subst e
      rw [← h.log, ra_last]
      simp only [Mm.row, gr, e0]; rfl
    · have h1 := cn_take hn
      have h2 := cn_mono l (i := j + 1) (j := i) (by omega)
      rw [ra_left (by rw [h.log]; omega)]
      exact h.row j (by omega) hn

theorem owns_base' {w : World} {base e size n : Nat} {v : Value} {xs : List Value} (h : w.ownsRow base e size v n xs) (k : Nat) (hk : v.ownBlock = some k) : base ≤ k := (h.lt k hk).1
theorem i64Info : (Try.prog.info? 2).map (fun i => (i.zero, i.size, i.bytes)) = some (some (.int .i64 0), 1, 8) := by kernel_rfl
theorem under64 : Try.prog.underlying 25 = some (.slice 2) := by kernel_rfl

set_option maxHeartbeats 6400000 in
set_option maxRecDepth 1000000 in
theorem cellGrain_walk {w : World} {a : Option Addr} {l : List Ac} (hA : AL w a l) (_ : ∀ q ∈ l, q.ok) (hln : l.length ≤ 1048576) (cap : Nat) :
    Calls Try.prog 3 #[.slice a l.length cap] w fun e w' => e = .returned (.bool true) ∧ Below w.heap.size w w' := by
  have hp := peq w.heap.size
  have HA : Hid (AL w a l) := hA
  clear hA
  obtain ⟨i0, hi0, hz0, hz1, hz2⟩ := info_parts i64Info
  go_enter Try.func3, Try.ntmps3
  go_wp2_with fail
  refine (fresh_any w).mono ?_
  rintro e w1 ⟨rfl, M1⟩
  go_wp2_with fail
  go_loopw [23, 4] (fun iv uv wr => ∃ (i : Nat) (s : Mm), i ≤ l.length ∧ iv = .int .i64 i ∧ MP w (fun k => uv.ownBlock = some k) wr w.heap.size s ∧ GS l s i ∧ wr.ownsRow w.heap.size 2 1 uv i (nums (sdo l) i)) (fun iv _ _ => l.length - (intOf iv).toNat)
  case atStart => exact ⟨0, fr 3, Nat.zero_le _, rfl, (MP.ofMN M1).own (Keeps.refl _ _) (fun k hk => by cases hk), GS.start l, World.ownsRow_nil _ _ _ _⟩
  case round =>
    obtain ⟨i, s, hi, rfl, M, G, O⟩ := hrel
    by_cases hlt : i < l.length
    · obtain ⟨b, off, rfl, hb, hc⟩ := HA.out.some (by omega)
      have hiI : (i : Int) < (l.length : Int) := by omega
      have d0 := M.keeps.cell (hc i hlt).1 (fun e => e)
      have d1 := M.keeps.cell (hc i hlt).2.1 (fun e => e)
      have d2 := M.keeps.cell (hc i hlt).2.2.1 (fun e => e)
      have d3 := M.keeps.cell (hc i hlt).2.2.2 (fun e => e)
      have h4 := pl_lt (aa l i).c
      have hbt := and3 (i : Int)
      have HG : Hid (GS l s i) := G
      have hml := M.keeps.size
      obtain ⟨wx, hwx⟩ : ∃ wx, wx = wr.alloc (.cells #[.int .i64 (aa l i).kind, .int .i64 (aa l i).c, .int .i64 (aa l i).x, .int .i64 (aa l i).y] 27) := ⟨_, rfl⟩
      have b0 : wx.cell? ⟨wr.heap.size, 0, none⟩ = some (.int .i64 (aa l i).kind) := by rw [hwx]; simp
      have b1 : wx.cell? ⟨wr.heap.size, 1, none⟩ = some (.int .i64 (aa l i).c) := by rw [hwx]; simp
      have b2 : wx.cell? ⟨wr.heap.size, 2, none⟩ = some (.int .i64 (aa l i).x) := by rw [hwx]; simp
      have b3 : wx.cell? ⟨wr.heap.size, 3, none⟩ = some (.int .i64 (aa l i).y) := by rw [hwx]; simp
      have KX : Keeps (fun _ => False) wr wx := by rw [hwx]; exact (Keeps.refl _ wr).alloc _
      have HO : Hid (wx.ownsRow w.heap.size 2 1 u4 i (nums (sdo l) i)) := KX.owns O (fun _ _ e => e)
      have MX : MP w (fun k => u4.ownBlock = some k ∨ k = wr.heap.size) wx w.heap.size s := M.own (KX.mono (fun _ _ e => e.elim)) (fun k hk => by
        rcases hk with e | e
        · exact ⟨.inl e, Nat.lt_of_lt_of_le (M.lt e) KX.size⟩
        · exact ⟨.inr (by omega), by rw [e, hwx]; simp⟩)
      have BG := pbegin MX (2 * (i : Int) + 1) (pl (i : Int) : Int) (G.may (by omega))
      have GA : Hid (pl (aa l i).c = 3 → GS l (s.begin (2 * (i : Int) + 1) (pl (i : Int) : Int)) (i + 1) ∧ sdo l i = 0) := fun h => ⟨G.skip _ h, by simp [sdo, h]⟩
      have GB : Hid (pl (aa l i).c ≠ 3 → GS l ((s.begin (2 * (i : Int) + 1) (pl (i : Int) : Int)).take (aa l i).kd (pl (aa l i).c) ((aa l i).wrote (ca (s.begin (2 * (i : Int) + 1) (pl (i : Int) : Int)).cells (pl (aa l i).c)).2) ((aa l i).done (ca (s.begin (2 * (i : Int) + 1) (pl (i : Int) : Int)).cells (pl (aa l i).c)).2)) (i + 1) ∧ sdo l i = (aa l i).said (ca (s.begin (2 * (i : Int) + 1) (pl (i : Int) : Int)).cells (pl (aa l i).c)).2) := fun h => ⟨G.take h h4, by
        rw [sdo, if_neg h]; congr 1; exact (G.v _ (by omega)).symm⟩
      generalize aa l i = q at *
      go_wp2_with fail
      rw [← hwx]
      clear hwx hc
      refine BG.mono ?_
      rintro e w5 ⟨rfl, M5, K5⟩
      have c0 := K5.cell b0 (.inr rfl)
      have c1 := K5.cell b1 (.inr rfl)
      have c2 := K5.cell b2 (.inr rfl)
      have c3 := K5.cell b3 (.inr rfl)
      have O5 := Keeps.owns K5 HO.out (fun g hg e => e.2 (.inl hg))
      clear b0 b1 b2 b3 d0 d1 d2 d3 BG hbt HO O
      go_wp2_with (go_at_call 11; refine (num_any _ _).mono ?_; rintro e w5 ⟨rfl, rfl⟩)
      by_cases hpl : pl q.c = 3
      · skip
        refine (pask_cell M5 q (no_three HG.out.len hpl)).mono ?_
        rintro e w6 ⟨rfl, M6, K6⟩
        have e0 := K6.cell c0 (.inr rfl)
        have e1 := K6.cell c1 (.inr rfl)
        have e2 := K6.cell c2 (.inr rfl)
        have e3 := K6.cell c3 (.inr rfl)
        have O6 := Keeps.owns K6 O5 (fun g hg e => e.2 (.inl hg))
        have hpE : ((pl q.c : Int) == 3) = true := by simp [hpl]
        have hpN : ((pl q.c : Int) != 3) = false := by simp [hpl]
        obtain ⟨G1, G2⟩ := GA.out hpl
        have HG1 : Hid (GS l (s.begin (2 * (i : Int) + 1) (pl (i : Int) : Int)) (i + 1)) := G1
        have HG2 : Hid (sdo l i = 0) := G2
        clear hpl G1 G2 GA GB
        clear c0 c1 c2 c3 O5
        go_wp2_with fail
        refine (place_any w6 q).mono ?_
        rintro e w7 ⟨rfl, hw7⟩
        have K7 : Keeps (fun _ => False) w6 w7 := by rw [hw7]; exact (Keeps.refl _ w6).alloc _
        clear hw7
        replace e0 := K7.cell e0 (fun e => e)
        replace e1 := K7.cell e1 (fun e => e)
        replace e2 := K7.cell e2 (fun e => e)
        replace e3 := K7.cell e3 (fun e => e)
        go_wp2_with fail
        refine (place_any w7 q).mono ?_
        rintro e w8 ⟨rfl, hw8⟩
        have K8 : Keeps (fun _ => False) w7 w8 := by rw [hw8]; exact (Keeps.refl _ w7).alloc _
        clear hw8 e0 e1 e2 e3
        have M8 := (M6.new K7).new K8
        have O8 := (K7.trans K8).owns O6 (fun _ _ e => e)
        have HO8 : Hid (w8.ownsRow w.heap.size 2 1 u4 i (nums (sdo l) i)) := O8
        have h63 : i + 1 ≤ maxLen := by unfold maxLen; omega
        have hb8 : (i + 1) * 8 ≤ 140737488355328 := by omega
        have hs8 := M8.keeps.size
        clear O6 O8 M6 K6 K7 K8
        have hvv : Hid (sdo l i = 0) := HG2
        go_wp2_with ((at_builtin; refine wpList_append_lies _ rfl _ _ _ rfl w.heap.size 2 i0 _ 1 8 under64 hi0 hz0 hz1 hz2 rfl (by decide) u4 i (nums (sdo l) i) rfl (HO8.out.alloc _) ⟨w8.heap.size, 0, none⟩ 1 1 [.int .i64 0] rfl rfl (World.news_of_block (cs := #[.int .i64 0]) (t := 2) (fr := (0, 0)) (heap_alloc_new w8 _)) (by simp [Value.oneCell']) (by omega) h63 hb8 (by simp; omega) _ rfl ?_))
        intro gg cap1 w9 hown1 hgrow hat hlt1
        have KA : Keeps (fun k => w.heap.size ≤ k ∧ (u4.ownBlock = some k ∨ k = wr.heap.size)) w8 w9 := ((Keeps.refl _ w8).alloc _).grown hgrow (fun k _ e => ⟨owns_base' HO8.out k e, .inl e⟩)
        have M9 : MP w (fun k => (Value.slice (some ⟨gg, 0, none⟩) (i + 1) cap1).ownBlock = some k) w9 w.heap.size (s.begin (2 * (i : Int) + 1) (pl (i : Int) : Int)) := M8.own KA (fun k hk => by
          have e1 : gg = k := by simpa [Value.ownBlock] using hk
          subst e1
          refine ⟨?_, hlt1⟩
          rcases hat with e | e
          · exact .inl (.inl e)
          · exact .inr (by rw [e]; simp))
        clear HO8 hgrow KA M8 hlt1 hat
        go_wp2_with fail
        go_roundw
        case rel => exact ⟨i + 1, _, by omega, by go_num, M9, HG1.out, by rw [nums_succ, hvv.out]; exact hown1⟩
        case measure => simp [intOf]; omega
      · skip
        refine (pask_ok M5 q (by show pl q.c < s.cells.length; rw [HG.out.len]; omega) rfl (by show (s.log.length + 1) * 56 ≤ _; rw [HG.out.log]; have := cn_le l i; omega)).mono ?_
        rintro e w6 ⟨rfl, M6, K6⟩
        have e0 := K6.cell c0 (.inr rfl)
        have e1 := K6.cell c1 (.inr rfl)
        have e2 := K6.cell c2 (.inr rfl)
        have e3 := K6.cell c3 (.inr rfl)
        have O6 := Keeps.owns K6 O5 (fun g hg e => e.2 (.inl hg))
        have hpE : ((pl q.c : Int) == 3) = false := by simp; omega
        have hpN : ((pl q.c : Int) != 3) = true := by simp; omega
        obtain ⟨G1, G2⟩ := GB.out hpl
        have HG1 : Hid (GS l ((s.begin (2 * (i : Int) + 1) (pl (i : Int) : Int)).take q.kd (pl q.c) (q.wrote (ca (s.begin (2 * (i : Int) + 1) (pl (i : Int) : Int)).cells (pl q.c)).2) (q.done (ca (s.begin (2 * (i : Int) + 1) (pl (i : Int) : Int)).cells (pl q.c)).2)) (i + 1)) := G1
        have HG2 : Hid (sdo l i = q.said (ca (s.begin (2 * (i : Int) + 1) (pl (i : Int) : Int)).cells (pl q.c)).2) := G2
        clear hpl G1 G2 GA GB
        generalize q.said (ca (s.begin (2 * (i : Int) + 1) (pl (i : Int) : Int)).cells (pl q.c)).2 = vv at *
        generalize (s.begin (2 * (i : Int) + 1) (pl (i : Int) : Int)).take q.kd (pl q.c) (q.wrote (ca (s.begin (2 * (i : Int) + 1) (pl (i : Int) : Int)).cells (pl q.c)).2) (q.done (ca (s.begin (2 * (i : Int) + 1) (pl (i : Int) : Int)).cells (pl q.c)).2) = s6 at *
        clear c0 c1 c2 c3 O5
        go_wp2_with fail
        refine (place_any w6 q).mono ?_
        rintro e w7 ⟨rfl, hw7⟩
        have K7 : Keeps (fun _ => False) w6 w7 := by rw [hw7]; exact (Keeps.refl _ w6).alloc _
        clear hw7
        replace e0 := K7.cell e0 (fun e => e)
        replace e1 := K7.cell e1 (fun e => e)
        replace e2 := K7.cell e2 (fun e => e)
        replace e3 := K7.cell e3 (fun e => e)
        go_wp2_with fail
        refine (place_any w7 q).mono ?_
        rintro e w8 ⟨rfl, hw8⟩
        have K8 : Keeps (fun _ => False) w7 w8 := by rw [hw8]; exact (Keeps.refl _ w7).alloc _
        clear hw8 e0 e1 e2 e3
        have M8 := (M6.new K7).new K8
        have O8 := (K7.trans K8).owns O6 (fun _ _ e => e)
        have HO8 : Hid (w8.ownsRow w.heap.size 2 1 u4 i (nums (sdo l) i)) := O8
        have h63 : i + 1 ≤ maxLen := by unfold maxLen; omega
        have hb8 : (i + 1) * 8 ≤ 140737488355328 := by omega
        have hs8 := M8.keeps.size
        clear O6 O8 M6 K6 K7 K8
        have hvv : Hid (sdo l i = vv) := HG2
        go_wp2_with ((at_builtin; refine wpList_append_lies _ rfl _ _ _ rfl w.heap.size 2 i0 _ 1 8 under64 hi0 hz0 hz1 hz2 rfl (by decide) u4 i (nums (sdo l) i) rfl (HO8.out.alloc _) ⟨w8.heap.size, 0, none⟩ 1 1 [.int .i64 vv] rfl rfl (World.news_of_block (cs := #[.int .i64 vv]) (t := 2) (fr := (0, 0)) (heap_alloc_new w8 _)) (by simp [Value.oneCell']) (by omega) h63 hb8 (by simp; omega) _ rfl ?_))
        intro gg cap1 w9 hown1 hgrow hat hlt1
        have KA : Keeps (fun k => w.heap.size ≤ k ∧ (u4.ownBlock = some k ∨ k = wr.heap.size)) w8 w9 := ((Keeps.refl _ w8).alloc _).grown hgrow (fun k _ e => ⟨owns_base' HO8.out k e, .inl e⟩)
        have M9 : MP w (fun k => (Value.slice (some ⟨gg, 0, none⟩) (i + 1) cap1).ownBlock = some k) w9 w.heap.size s6 := M8.own KA (fun k hk => by
          have e1 : gg = k := by simpa [Value.ownBlock] using hk
          subst e1
          refine ⟨?_, hlt1⟩
          rcases hat with e | e
          · exact .inl (.inl e)
          · exact .inr (by rw [e]; simp))
        clear HO8 hgrow KA M8 hlt1 hat
        go_wp2_with fail
        go_roundw
        case rel => exact ⟨i + 1, _, by omega, by go_num, M9, HG1.out, by rw [nums_succ, hvv.out]; exact hown1⟩
        case measure => simp [intOf]; omega
    · skip
      have hiI : ¬ (i : Int) < (l.length : Int) := by omega
      obtain rfl : i = l.length := by omega
      have hcl := cn_le l l.length
      have LG := nlog M.toMN (by rw [G.log]; omega)
      obtain ⟨au, cu, hu4⟩ := owns_len O
      subst hu4
      go_wp2_with fail
      refine LG.mono ?_
      clear LG
      rintro e w2 ⟨v, rfl, ho, M2, K2⟩
      obtain ⟨av, cv, rfl, RW⟩ := rows_of_owns ho
      have O2 := K2.owns O (fun _ _ e => e)
      obtain ⟨w3, hw3⟩ : ∃ w3, w3 = w2.alloc (.cells #[.int .i64 10, .int .i64 11, .int .i64 12] 36) := ⟨_, rfl⟩
      have K3 : Keeps (fun _ => False) w2 w3 := by rw [hw3]; exact (Keeps.refl _ w2).alloc _
      have MH : MP w (fun k => k = w2.heap.size) w3 w.heap.size s := by rw [hw3]; exact MP.hold M2 _
      have HC3 : ∀ c, c < 3 → w3.cell? ⟨w2.heap.size, c, none⟩ = some (.int .i64 (hd l c 0)) := fun c hc => by
        rw [hw3]
        rcases c with _ | _ | _ | c
        · simp [hd]
        · simp [hd]
        · simp [hd]
        · omega
      have HZ3 : ∀ o, w3.frozen? ⟨w2.heap.size, o, none⟩ = false := fun o => by rw [hw3]; simp
      have O3 : Hid (w3.ownsRow w.heap.size 2 1 (.slice au l.length cu) l.length (nums (sdo l) l.length)) := K3.owns O2 (fun _ _ e => e)
      have RW3 : Hid (RowsAt w3 av s.log) := RW.new K3
      have hH2 : w2.heap.size < w3.heap.size := by rw [hw3]; simp
      have hHw : w.heap.size ≤ w2.heap.size := M2.keeps.size
      have HG : Hid (GS l s l.length) := G
      have hOg : Hid (∀ g, (Value.slice au l.length cu).ownBlock = some g → g < w2.heap.size) := fun g e => owns_lt' O2 g e
      have hRg : Hid (∀ g, av = some ⟨g, 0, none⟩ → s.log.length = 0 ∨ g < w2.heap.size) := fun g e => by
        rcases RW with h | ⟨g', e', hg', _⟩
        · exact .inl h
        · rw [e] at e'; cases e'; exact .inr hg'
      go_wp2_with fail
      rw [← hw3]
      clear hw3 ho O O2 G M M2 RW K2 hcl
      generalize w2.heap.size = H at *
      go_loopw [70, 12] (fun iv tv wr => ∃ j : Nat, j ≤ l.length ∧ iv = .int .i64 j ∧ tv = .int .i64 (cn l j : Int) ∧ Keeps (fun k => k = H) w3 wr ∧ (∀ c, c < 3 → wr.cell? ⟨H, c, none⟩ = some (.int .i64 (hd l c j))) ∧ (∀ o, wr.frozen? ⟨H, o, none⟩ = false)) (fun iv _ _ => l.length - (intOf iv).toNat)
      case atStart => exact ⟨0, Nat.zero_le _, rfl, rfl, Keeps.refl _ _, HC3, HZ3⟩
      case round =>
        obtain ⟨j, hj, rfl, rfl, KW, HC, HZ⟩ := hrel
        have HZH : Hid (∀ o, wr.frozen? ⟨H, o, none⟩ = false) := HZ
        clear HZ
        have HCH : Hid (∀ c, c < 3 → wr.cell? ⟨H, c, none⟩ = some (.int .i64 (hd l c j))) := HC
        clear HC
        by_cases hltj : j < l.length
        · obtain ⟨b, off, rfl, hb, hc⟩ := HA.out.some (by omega)
          have hjI : (j : Int) < (l.length : Int) := by omega
          have nb : ¬ b = H := by omega
          have d0 := KW.cell (MH.keeps.cell (hc j hltj).1 (fun e => e)) nb
          have d1 := KW.cell (MH.keeps.cell (hc j hltj).2.1 (fun e => e)) nb
          have d2 := KW.cell (MH.keeps.cell (hc j hltj).2.2.1 (fun e => e)) nb
          have d3 := KW.cell (MH.keeps.cell (hc j hltj).2.2.2 (fun e => e)) nb
          have h4 := pl_lt (aa l j).c
          have hbt := and3 (j : Int)
          have hcnl : cn l j ≤ j := cn_le l j
          obtain ⟨wx, hwx⟩ : ∃ wx, wx = wr.alloc (.cells #[.int .i64 (aa l j).kind, .int .i64 (aa l j).c, .int .i64 (aa l j).x, .int .i64 (aa l j).y] 27) := ⟨_, rfl⟩
          have b0 : wx.cell? ⟨wr.heap.size, 0, none⟩ = some (.int .i64 (aa l j).kind) := by rw [hwx]; simp
          have b1 : wx.cell? ⟨wr.heap.size, 1, none⟩ = some (.int .i64 (aa l j).c) := by rw [hwx]; simp
          have b2 : wx.cell? ⟨wr.heap.size, 2, none⟩ = some (.int .i64 (aa l j).x) := by rw [hwx]; simp
          have b3 : wx.cell? ⟨wr.heap.size, 3, none⟩ = some (.int .i64 (aa l j).y) := by rw [hwx]; simp
          have KX : Keeps (fun _ => False) wr wx := by rw [hwx]; exact (Keeps.refl _ wr).alloc _
          have hsk : Hid (pl (aa l j).c = 3 → cn l (j + 1) = cn l j ∧ ∀ c, c < 3 → hd l c (j + 1) = hd l c j) := fun h => ⟨cn_skip h, fun c hc => by rw [hd, if_neg (by omega)]⟩
          have htk : Hid (pl (aa l j).c ≠ 3 → cn l (j + 1) = cn l j + 1 ∧ (∀ c, hd l c (j + 1) = if pl (aa l j).c = c then (aa l j).wrote (hd l c j) else hd l c j) ∧ sdo l j = (aa l j).said (hd l (pl (aa l j).c) j) ∧ cn l j < s.log.length ∧ ra s.log (cn l j) = ⟨2 * (j : Int) + 1, (pl (j : Int) : Int), (aa l j).kd, (pl (aa l j).c : Int), hd l (pl (aa l j).c) j, (aa l j).wrote (hd l (pl (aa l j).c) j), (aa l j).done (hd l (pl (aa l j).c) j)⟩) := fun h =>
            ⟨cn_take h, fun c => rfl, by rw [sdo, if_neg h], by have h1 := cn_take h; have h2 := cn_mono l (i := j + 1) (j := l.length) (by omega); have h3 := HG.out.log; omega, HG.out.row j (by omega) h⟩
          generalize aa l j = q at *
          have PL := place_any wx q
          go_wp2_with fail
          rw [← hwx]
          clear hwx hc
          refine PL.mono ?_
          rintro e w6 ⟨rfl, hw6⟩
          have K6 : Keeps (fun _ => False) wr w6 := KX.trans (by rw [hw6]; exact (Keeps.refl _ wx).alloc _)
          replace b0 : w6.cell? ⟨wr.heap.size, 0, none⟩ = some (.int .i64 q.kind) := by rw [hw6]; exact ((Keeps.refl (fun _ => False) wx).alloc _).cell b0 (fun e => e)
          replace b1 : w6.cell? ⟨wr.heap.size, 1, none⟩ = some (.int .i64 q.c) := by rw [hw6]; exact ((Keeps.refl (fun _ => False) wx).alloc _).cell b1 (fun e => e)
          replace b2 : w6.cell? ⟨wr.heap.size, 2, none⟩ = some (.int .i64 q.x) := by rw [hw6]; exact ((Keeps.refl (fun _ => False) wx).alloc _).cell b2 (fun e => e)
          replace b3 : w6.cell? ⟨wr.heap.size, 3, none⟩ = some (.int .i64 q.y) := by rw [hw6]; exact ((Keeps.refl (fun _ => False) wx).alloc _).cell b3 (fun e => e)
          clear hw6 d0 d1 d2 d3 KX PL
          by_cases hpl : pl q.c = 3
          · have hpE : ((pl q.c : Int) == 3) = true := by simp [hpl]
            obtain ⟨h1, h2⟩ := hsk.out hpl
            have H1 : Hid (cn l (j + 1) = cn l j) := h1
            clear hpl h1
            go_wp2_with fail
            go_roundw
            case rel => exact ⟨j + 1, by omega, by go_num, by rw [H1.out], KW.trans (K6.mono (fun _ _ e => e.elim)), fun c hc => (by rw [h2 c hc]; exact K6.cell (HCH.out c hc) (fun e => e)), fun o => (K6.frozen (p := ⟨H, o, none⟩) (show H < _ from World.block_lt_of_cell? _ _ (HCH.out 0 (by omega))) (fun e => e)).trans (HZH.out o)⟩
            case measure => simp [intOf]; omega
          · have hpE : ((pl q.c : Int) == 3) = false := by simp; omega
            obtain ⟨h1, h2, h3, hcl, h5⟩ := htk.out hpl
            have hp3 : pl q.c < 3 := by omega
            have hp3I : (pl q.c : Int) < 3 := by omega
            obtain ⟨g, hag, hg2, hrr⟩ : ∃ g, av = some ⟨g, 0, none⟩ ∧ g < w3.heap.size ∧ ∀ k, k < s.log.length → RowAt w3 g (k * 7) (ra s.log k) := by
              rcases RW3.out with h | ⟨g, e, h1, h2⟩
              · omega
              · exact ⟨g, e, h1, h2⟩
            have ngH : ¬ g = H := by
              rcases hRg.out g hag with h | h
              · omega
              · omega
            have R6 := ((hrr _ hcl).keep KW ngH).keep K6 (fun e => e)
            rw [h5] at R6
            obtain ⟨gs, hgs⟩ : ∃ gs, (Value.slice au l.length cu).ownBlock = some gs := by
              rcases O3.out.2 with ⟨_, h0⟩ | ⟨g', cap', cur, e, _⟩
              · omega
              · exact ⟨g', by rw [e]; rfl⟩
            have hau : au = some ⟨gs, 0, none⟩ := by
              rcases O3.out.2 with ⟨_, h0⟩ | ⟨g', cap', cur, e, _⟩
              · omega
              · cases e; cases hgs; rfl
            have ngsH : ¬ gs = H := by have := hOg.out gs hgs; omega
            have sc := K6.cell (KW.cell (owns_cell O3.out hgs (j := j) (u := .int .i64 (sdo l j)) (nums_get hltj)) ngsH) (fun e => e)
            have hc6 := K6.cell (HCH.out (pl q.c) hp3) (fun e => e)
            have hz6 : w6.frozen? ⟨H, pl q.c, none⟩ = false := (K6.frozen (p := ⟨H, pl q.c, none⟩) (World.block_lt_of_cell? _ _ (HCH.out (pl q.c) hp3)) (fun e => e)).trans (HZH.out (pl q.c))
            rw [h3] at sc
            have hclI : (cn l j : Int) < (s.log.length : Int) := by omega
            subst hau hag
            generalize hseen : hd l (pl q.c) j = seen at *
            have HS : Hid (hd l (pl q.c) j = seen) := hseen
            have H1 : Hid (cn l (j + 1) = cn l j + 1) := h1
            have H2 : Hid (∀ c, hd l c (j + 1) = if pl q.c = c then q.wrote (hd l c j) else hd l c j) := h2
            have FT := fun W => fits_any W q (2 * (j : Int) + 1) (pl (j : Int) : Int) seen
            have PLk := fun W => place_ks W q
            clear hseen h1 h2 h3 h5 hrr hsk htk hpl
            obtain ⟨r0, r1, r2, r3, r4, r5, r6⟩ := R6
            simp only [] at r0 r1 r2 r3 r4 r5 r6
            obtain ⟨wt, hwt⟩ : ∃ x, Hid (q.wrote seen = x) := ⟨_, rfl⟩
            have FT2 : ∀ W, Calls Try.prog 15 #[.agg #[.int .i64 (2 * (j : Int) + 1), .int .i64 (pl (j : Int) : Int), .int .i64 q.kd, .int .i64 (pl q.c : Int), .int .i64 seen, .int .i64 wt, .bool (q.done seen)], .agg #[.int .i64 q.kind, .int .i64 q.c, .int .i64 q.x, .int .i64 q.y], .int .i64 (2 * (j : Int) + 1), .int .i64 (pl (j : Int) : Int), .int .i64 seen, .int .i64 (q.said seen)] W fun e w' => e = .returned (.bool true) ∧ Keeps (fun _ => False) W w' := fun W => hwt.out ▸ FT W
            rw [hwt.out] at r5
            clear FT
            generalize q.kd = kd at *
            generalize q.done seen = dn at *
            generalize q.said seen = sd at *
            generalize hcn : cn l j = at_ at *
            have HCN : Hid (cn l j = at_) := hcn
            clear hcn
            go_wp2_with fail
            have hge : decide (s.log.length ≤ at_) = false := decide_eq_false (by omega)
            have A0 := ks_cell b0
            have A1 := ks_cell b1
            have A2 := ks_cell b2
            have A3 := ks_cell b3
            have R0 := ks_cell r0
            have R1 := ks_cell r1
            have R2 := ks_cell r2
            have R3 := ks_cell r3
            have R4 := ks_cell r4
            have R5 := ks_cell r5
            have R6 := ks_cell r6
            have S0 := ks_cell sc
            have C0 := ks_cell hc6
            have hNE : Nonempty (KS w6) := ⟨⟨w6, Keeps.refl _ w6⟩⟩
            refine wp_region_ks (by kernel_rfl) (by kernel_rfl) ?_
            repeat (go_big_quiet_step (first | (go_at_call 15; refine (FT2 _).mono ?_; rintro e w2 ⟨rfl, k2⟩; exact ⟨rfl, ⟨_, Keeps.trans (KS.property _) k2⟩, rfl⟩) | (go_at_call 13; refine (PLk _).mono ?_; rintro e w2 ⟨rfl, k2⟩; exact ⟨rfl, ⟨_, Keeps.trans (KS.property _) k2⟩, rfl⟩)))
            refine wpQuiet_nil ?_
            rintro _ ⟨u, rfl⟩
            have KU := u.property
            have B0 := A0 u
            have B1 := A1 u
            have B2 := A2 u
            have B3 := A3 u
            have T5 := R5 u
            have C1 := C0 u
            have hz7 := (KU.frozen (p := ⟨H, pl q.c, none⟩) (World.block_lt_of_cell? _ _ hc6) (fun e => e)).trans hz6
            generalize u.val = W at *
            clear A0 A1 A2 A3 R0 R1 R2 R3 R4 R5 R6 S0 C0 hNE b0 b1 b2 b3 r0 r1 r2 r3 r4 r5 r6 sc hc6 hz6 FT2 PLk hge
            go_wp2_with fail
            have hXH : ¬ wr.heap.size = H := by have := KW.size; omega
            have hXH' : ¬ H = wr.heap.size := fun e => hXH e.symm
            have ngH' : ¬ H = g := fun e => ngH e.symm
            go_region_held3 (fun w' => w'.cell? ⟨wr.heap.size, 0, none⟩ = some (.int .i64 q.kind) ∧ w'.cell? ⟨wr.heap.size, 1, none⟩ = some (.int .i64 q.c) ∧ w'.cell? ⟨wr.heap.size, 2, none⟩ = some (.int .i64 q.x) ∧ w'.cell? ⟨wr.heap.size, 3, none⟩ = some (.int .i64 q.y) ∧ w'.cell? ⟨g, at_ * 7 + 5, none⟩ = some (.int .i64 wt)) (go_keep) ((go_at_call 13; refine (place_any _ q).mono ?_; rintro e w7 ⟨rfl, hw7⟩; have K7 : Keeps (fun _ => False) W w7 := (by rw [hw7]; exact (Keeps.refl _ W).drew.alloc _); clear hw7; have c0 := K7.cell B0 (fun e => e); have c1 := K7.cell B1 (fun e => e); have c2 := K7.cell B2 (fun e => e); have c3 := K7.cell B3 (fun e => e); have c4 := K7.cell T5 (fun e => e); have c5 := K7.cell C1 (fun e => e); have c6 := (K7.frozen (p := ⟨H, pl q.c, none⟩) (World.block_lt_of_cell? _ _ C1) (fun e => e)).trans hz7))
            have HC7 : ∀ c, c < 3 → w7.cell? ⟨H, c, none⟩ = some (.int .i64 (hd l c j)) := fun c hc => K7.cell (KU.cell (K6.cell (HCH.out c hc) (fun e => e)) (fun e => e)) (fun e => e)
            have HZ7 : ∀ o, w7.frozen? ⟨H, o, none⟩ = false := fun o => by
              have l0 : H < wr.heap.size := World.block_lt_of_cell? _ _ (HCH.out 0 (by omega))
              rw [K7.frozen (p := ⟨H, o, none⟩) (Nat.lt_of_lt_of_le l0 (Nat.le_trans K6.size KU.size)) (fun e => e), KU.frozen (p := ⟨H, o, none⟩) (Nat.lt_of_lt_of_le l0 K6.size) (fun e => e), K6.frozen (p := ⟨H, o, none⟩) l0 (fun e => e)]
              exact HZH.out o
            have HC8 : ∀ c, c < 3 → (w7.setCell ⟨H, pl q.c, none⟩ (.int .i64 wt)).cell? ⟨H, c, none⟩ = some (.int .i64 (hd l c (j + 1))) := fun c hc => by
              rw [H2.out c]
              by_cases e : pl q.c = c
              · rw [if_pos e, ← e, HS.out, hwt.out]
                exact World.cell?_setCell_same _ _ _ (HC7 _ hp3)
              · rw [if_neg e, World.cell?_setCell_other _ _ _ _ (by intro e'; injection e' with _ e2; omega)]
                exact HC7 c hc
            have K8 : Keeps (fun k => k = H) w3 (w7.setCell ⟨H, pl q.c, none⟩ (.int .i64 wt)) := (KW.trans (((K6.trans KU).trans K7).mono (fun _ _ e => e.elim))).trans (keeps_set _ _ _ _)
            have FIN : Hid (Keeps (fun k => k = H) w3 (w7.setCell ⟨H, pl q.c, none⟩ (.int .i64 wt)) ∧ (∀ c, c < 3 → (w7.setCell ⟨H, pl q.c, none⟩ (.int .i64 wt)).cell? ⟨H, c, none⟩ = some (.int .i64 (hd l c (j + 1)))) ∧ (∀ o, (w7.setCell ⟨H, pl q.c, none⟩ (.int .i64 wt)).frozen? ⟨H, o, none⟩ = false)) := ⟨K8, HC8, fun o => by rw [World.frozen?_setCell]; exact HZ7 o⟩
            clear HC7 HZ7 HC8 K8 c0 c1 c2 c3 c4 c5 c6 B0 B1 B2 B3 T5 C1 hz7 K7 KU
            go_wp2_with fail
            go_roundw
            case rel => exact ⟨j + 1, by omega, by go_num, by rw [H1.out]; go_num, FIN.out⟩
            case measure => simp [intOf]; omega
        · skip
          have hjI : ¬ (j : Int) < (l.length : Int) := by omega
          obtain rfl : j = l.length := by omega
          have MW : MP w (fun k => k = H) wr w.heap.size s := MH.own (KW.mono (fun k _ e => ⟨by omega, e⟩)) (fun k hk => ⟨.inl hk, Nat.lt_of_lt_of_le (MH.lt hk) KW.size⟩)
          have PK : Hid (∀ c : Nat, c < 3 → Calls Try.prog 16 #[.pointer (some ⟨w.heap.size, 0, none⟩), .int .i64 (c : Int)] wr fun e w' => e = .returned (.tuple #[.int .i64 (hd l c l.length), .int .i64 0]) ∧ w' = wr) := fun c hc => by
            have := ppeek MW (c := c) (by rw [HG.out.len]; omega)
            rw [HG.out.v c hc] at this
            exact this
          have hlg : Hid (s.log.length = cn l l.length) := HG.out.log
          go_wp2_with fail
          go_loopw [15] (fun cv W => ∃ c : Nat, c ≤ 3 ∧ cv = .int .i64 c ∧ W = wr) (fun cv _ => 3 - (intOf cv).toNat)
          case atStart => exact ⟨0, by omega, rfl, rfl⟩
          case round =>
            rename_i W
            obtain ⟨c, hc, rfl, rfl⟩ := hrel
            by_cases hltc : c < 3
            · have hcI : (c : Int) < 3 := by omega
              have P := PK.out c hltc
              have hx := HCH.out c hltc
              generalize hd l c l.length = xc at *
              go_wp2_with (first | (go_at_call 11; refine (num_any _ _).mono ?_; rintro e w2 ⟨rfl, rfl⟩) | (go_at_call 16; refine P.mono ?_; clear P; rintro e W ⟨rfl, rfl⟩))
              go_roundw
              case rel => exact ⟨c + 1, by omega, by go_num, trivial⟩
              case measure => simp [intOf]; omega
            · have hcI : ¬ (c : Int) < 3 := by omega
              have hlgI : ((cn l l.length : Int) == (s.log.length : Int)) = true := by rw [hlg.out]; simp
              go_wp2_with fail
              go_ret
              exact ⟨rfl, MW.keeps.below (Nat.le_refl _) (fun _ _ e => e)⟩
end Go.Proofs.Ytekalkjghfghhab
