import Derived.Test.YtaikngpgmcpecaaGreatLocHead
namespace Go.Proofs.YtaikngpgmcpecaaGreat
open Go.RowKit

/-- A step of a script. -/
structure Oq where
  kind : Int
  a : Int
  b : Int
  c : Int
  v : Vl
  shut : Bool
/-- The first error of a step. -/
def err (s : Ws) (m : Mm) (o : Oq) : Int :=
  if o.kind = 1 then (if s.roomA m = true then 0 else 58)
  else if o.kind = 3 then (if o.a < 1 ∨ (s.atts.length : Int) ≤ o.a then 51 else if o.b < 0 ∨ (s.locs.length : Int) ≤ o.b then 53 else if s.isC m (s.lo o.b.toNat).owner = false then 53 else if 16384 ≤ s.locs.length then 58 else 0)
  else if o.kind = 6 then (if o.a < 0 ∨ (s.locs.length : Int) ≤ o.a then 52 else if (s.lo o.a.toNat).owner = 0 then 56 else if s.isC m (s.lo o.a.toNat).owner = true then 57 else 0)
  else if o.kind = 8 then (if o.a < 0 ∨ (s.objs.length : Int) ≤ o.a then 50 else if m.free = true then 0 else 31)
  else if o.kind = 9 then (if o.a < 0 ∨ (s.objs.length : Int) ≤ o.a then 50 else if (o.c < 0 ∨ (s.locs.length : Int) ≤ o.c) ∨ (o.b < 0 ∨ (s.locs.length : Int) ≤ o.b) then 52 else if (s.lo o.c.toNat).used = true then 55 else if s.isC m (s.lo o.c.toNat).owner = true then 57 else if m.free = true then 0 else 31)
  else if o.kind = 10 ∨ o.kind = 13 then (if o.a < 0 ∨ (s.atts.length : Int) ≤ o.a then 51 else if m.free = true then 0 else 31)
  else if o.kind = 11 ∨ o.kind = 12 ∨ o.kind = 14 then (if o.a < 1 ∨ (s.atts.length : Int) ≤ o.a then 51 else if m.free = true then 0 else 31)
  else 0
/-- What a step does, behind its opening: nothing (of any other kind), a refusal, or what it asks. -/
inductive Do (s : Ws) (m : Mm) (o : Oq) : Ws → Mm → Int → Bool → Int → Prop
  | idle (h : ¬ (o.kind = 1 ∨ o.kind = 3 ∨ o.kind = 6 ∨ (8 ≤ o.kind ∧ o.kind ≤ 14))) : Do s m o s m 0 false 0
  | no (e : Int) (he : e ≠ 0) (h : o.kind = 1 ∨ o.kind = 3 ∨ o.kind = 6 ∨ (8 ≤ o.kind ∧ o.kind ≤ 14)) (hs : o.kind = 10 → (o.a < 0 ∨ (s.atts.length : Int) ≤ o.a) ∨ m.free = false) (hx : e = err s m o) : Do s m o s m e false 0
  | att (h : o.kind = 1) (hr : s.roomA m = true) : Do s m o (s.beg o.a o.b o.c m.cells.length) ((m.make 1).make 0) 0 false s.atts.length
  | mk (h : o.kind = 3) (x y : Nat) (ex : o.a = x) (ey : o.b = y) (h1 : 1 ≤ x) (hx : x < s.atts.length) (hy : y < s.locs.length) (hC : s.isC m (s.lo y).owner = true) (hr : s.locs.length < 16384) : Do s m o (s.lay x y (s.vl y)) m 0 false s.locs.length
  | put (h : o.kind = 6) (x : Nat) (ex : o.a = x) (hx : x < s.locs.length) (ho : (s.lo x).owner ≠ 0) (hC : s.isC m (s.lo x).owner = false) : Do s m o (s.put x o.v) m 0 false 0
  | load (h : o.kind = 8) (x : Nat) (ex : o.a = x) (hx : x < s.objs.length) (hf : m.free = true) : Do s m o s (m.load (s.ob x)) 0 false (m.val (s.ob x))
  | acq (h : o.kind = 9) (x y z : Nat) (ex : o.a = x) (ey : o.b = y) (ez : o.c = z) (hx : x < s.objs.length) (hy : y < s.locs.length) (hz : z < s.locs.length) (hU : (s.lo z).used = false) (hC : s.isC m (s.lo z).owner = false) (hf : m.free = true) :
      Do s m o (s.use z (decide (m.val (s.ob x) = (y : Int)))) (m.swap (s.ob x) (y : Int) (z : Int)) 0 (decide (m.val (s.ob x) = (y : Int))) 0
  | stat (h : o.kind = 10) (x : Nat) (ex : o.a = x) (hx : x < s.atts.length) (hf : m.free = true) : Do s m o s (m.load (s.att x).status) 0 false (m.val (s.att x).status)
  | fin (sv : Int) (h : o.kind = 11 ∧ sv = 3 ∨ o.kind = 12 ∧ sv = 2) (x : Nat) (ex : o.a = x) (h1 : 1 ≤ x) (hx : x < s.atts.length) (hf : m.free = true) : Do s m o s (m.swap (s.att x).status 1 sv) 0 (decide (m.val (s.att x).status = 1)) 0
  | flag (h : o.kind = 13) (x : Nat) (ex : o.a = x) (hx : x < s.atts.length) (hf : m.free = true) : Do s m o s (m.load (s.att x).flag) 0 (decide (m.val (s.att x).flag = 1)) 0
  | mark (h : o.kind = 14) (x : Nat) (p q : Int) (ex : o.a = x) (h1 : 1 ≤ x) (hx : x < s.atts.length) (hf : m.free = true) (hpq : (o.v.dead = true ∧ p = 0 ∧ q = 1) ∨ (o.v.dead = false ∧ p = 1 ∧ q = 0)) : Do s m o s (m.swap (s.att x).flag p q) 0 (decide (m.val (s.att x).flag = p)) 0

section
variable {s s' : Ws} {m m' : Mm} {o : Oq} {e n : Int} {d : Bool}
theorem Do.inv (h : Do s m o s' m' e d n) (i : Inv s m) : Inv s' m' := by
  cases h with
  | idle _ => exact i
  | no _ _ _ _ _ => exact i
  | att _ hr =>
    simp [Ws.roomA] at hr
    exact i.beg hr.1 _ _ _ _
  | mk _ x y _ _ _ hx hy hC hr => exact i.lay hx hy hC hr _
  | put _ x _ _ _ _ => exact i.put _ _
  | load _ x _ _ _ => exact i.load _
  | acq _ x y z _ _ _ hx _ hz hU _ _ => exact i.acq hx hz hU
  | stat _ x _ _ _ => exact i.load _
  | fin sv _ x _ _ hx _ => exact i.stat hx sv
  | flag _ x _ _ _ => exact i.load _
  | mark _ x p q _ _ hx _ _ => exact i.flag hx p q
theorem Do.bs (h : Do s m o s' m' e d n) : m'.begun = m.begun ∧ m'.step = m.step ∧ m'.log.length + (if m'.free then 1 else 0) = m.log.length + (if m.free then 1 else 0) := by
  cases h with
  | idle _ => exact ⟨rfl, rfl, rfl⟩
  | no _ _ _ _ _ => exact ⟨rfl, rfl, rfl⟩
  | att _ _ => exact ⟨rfl, rfl, rfl⟩
  | mk _ _ _ _ _ _ _ _ _ _ => exact ⟨rfl, rfl, rfl⟩
  | put _ _ _ _ _ _ => exact ⟨rfl, rfl, rfl⟩
  | load _ x _ _ hf => exact ⟨rfl, rfl, by simp [Mm.load, Mm.take, hf]⟩
  | acq _ x y z _ _ _ _ _ _ _ _ hf => exact ⟨rfl, rfl, by simp [Mm.swap, Mm.take, hf]⟩
  | stat _ x _ _ hf => exact ⟨rfl, rfl, by simp [Mm.load, Mm.take, hf]⟩
  | fin sv _ x _ _ _ hf => exact ⟨rfl, rfl, by simp [Mm.swap, Mm.take, hf]⟩
  | flag _ x _ _ hf => exact ⟨rfl, rfl, by simp [Mm.load, Mm.take, hf]⟩
  | mark _ x p q _ _ _ hf _ => exact ⟨rfl, rfl, by simp [Mm.swap, Mm.take, hf]⟩
end

section
variable {w : World} {ρ : Nat → Nat} {u j wb mb : Nat} {s : Ws} {m : Mm}
/-- What a call leaves that does a step. -/
def Did (w : World) (ρ : Nat → Nat) (u j wb mb : Nat) (s : Ws) (m : Mm) (o : Oq) (w' : World) (er : Int) (d : Bool) (n : Int) : Prop := ∃ ρ' s' m', Do s m o s' m' er d n ∧ St w' ρ' u j wb mb s' m' ∧ Ext (Sr u j) w w' ρ ρ'
theorem did_no {o : Oq} {er : Int} (h : St w ρ u j wb mb s m) (he : er ≠ 0) (hk : o.kind = 1 ∨ o.kind = 3 ∨ o.kind = 6 ∨ (8 ≤ o.kind ∧ o.kind ≤ 14)) (hs : o.kind = 10 → (o.a < 0 ∨ (s.atts.length : Int) ≤ o.a) ∨ m.free = false) (hx : er = err s m o) {w' : World} (k : Keeps (fun _ => False) w w') : Did w ρ u j wb mb s m o w' er false 0 :=
  ⟨ρ, s, m, .no er he hk hs hx, (h.new k).1, (h.new k).2⟩
theorem did_no' {o : Oq} {er : Int} (h : St w ρ u j wb mb s m) (he : er ≠ 0) (hk : o.kind = 1 ∨ o.kind = 3 ∨ o.kind = 6 ∨ (8 ≤ o.kind ∧ o.kind ≤ 14)) (hs : o.kind = 10 → (o.a < 0 ∨ (s.atts.length : Int) ≤ o.a) ∨ m.free = false) (hx : er = err s m o) {w' : World} (k : w = w') : Did w ρ u j wb mb s m o w' er false 0 := did_no h he hk hs hx (k ▸ Keeps.refl _ w)
theorem nat_or (i : Int) (n : Nat) : (i < 0 ∨ (n : Int) ≤ i) ∨ ∃ x : Nat, i = x ∧ x < n := by
  rcases Int.lt_or_le i 0 with h | h
  · exact .inl (.inl h)
  · rcases Int.lt_or_le i n with h' | h'
    · exact .inr ⟨i.toNat, by omega, by omega⟩
    · exact .inl (.inr h')

theorem Attempt_any (h : St w ρ u j wb mb s m) {o : Oq} (hk : o.kind = 1) :
    Calls Tryz.prog 16 #[.pointer (some ⟨wb, 0, none⟩), .agg #[.int .i64 o.a, .int .i64 o.b, .int .i64 o.c]] w fun e w' => ∃ er n, e = .returned (.tuple #[.int .i64 n, .int .i64 er]) ∧ Did w ρ u j wb mb s m o w' er false n := by
  cases hr : s.roomA m with
  | true =>
    refine (Attempt_ok h hr o.a o.b o.c).mono ?_
    rintro e w' ⟨rfl, ρ', h', x⟩
    exact ⟨_, _, rfl, ρ', _, _, .att hk hr, h', x⟩
  | false =>
    refine (Attempt_no h hr o.a o.b o.c).mono ?_
    rintro e w' ⟨rfl, k⟩
    exact ⟨_, _, rfl, did_no h (by decide) (.inl hk) (by omega) (by simp [err, hk, hr]) k⟩
theorem Make_any (h : St w ρ u j wb mb s m) (iv : Inv s m) {o : Oq} (hk : o.kind = 3) :
    Calls Tryz.prog 17 #[.pointer (some ⟨wb, 0, none⟩), .int .i64 o.a, .int .i64 o.b] w fun e w' => ∃ er n, e = .returned (.tuple #[.int .i64 n, .int .i64 er]) ∧ Did w ρ u j wb mb s m o w' er false n := by
  have hq : o.kind = 1 ∨ o.kind = 3 ∨ o.kind = 6 ∨ (8 ≤ o.kind ∧ o.kind ≤ 14) := .inr (.inl hk)
  rcases nat_or o.a s.atts.length with ha | ⟨x, ex, hx⟩
  · refine (Make_att h ha o.b).mono ?_
    rintro e w' ⟨rfl, k⟩
    exact ⟨_, _, rfl, did_no h (by decide) hq (by omega) (by rw [err, if_neg (by omega), if_pos hk, if_pos (by omega)]) k⟩
  · rw [ex]
    rcases Nat.eq_zero_or_pos x with rfl | h1
    · refine (Make_gen h o.b).mono ?_
      rintro e w' ⟨rfl, k⟩
      exact ⟨_, _, rfl, did_no h (by decide) hq (by omega) (by rw [err, if_neg (by omega), if_pos hk, if_pos (by omega)]) k⟩
    · rcases nat_or o.b s.locs.length with hb | ⟨y, ey, hy⟩
      · refine (Make_ver h h1 hx (by rw [iv.vl]; exact hb)).mono ?_
        rintro e w' ⟨rfl, k⟩
        exact ⟨_, _, rfl, did_no h (by decide) hq (by omega) (by rw [err, if_neg (by omega), if_pos hk, if_neg (by omega), if_pos hb]) k⟩
      · rw [ey]
        cases hC : s.isC m (s.lo y).owner with
        | false =>
          refine (Make_may h iv.wf h1 hx hy hC).mono ?_
          rintro e w' ⟨rfl, k⟩
          exact ⟨_, _, rfl, did_no h (by decide) hq (by omega) (by rw [err, if_neg (by omega), if_pos hk, if_neg (by omega), if_neg (by omega), if_pos (by rw [ey, Int.toNat_natCast]; exact hC)]) k⟩
        | true =>
          by_cases hr : s.locs.length < 16384
          · refine (Make_ok h iv.wf h1 hx hy hC hr).mono ?_
            rintro e w' ⟨rfl, ρ', h', x'⟩
            exact ⟨_, _, rfl, ρ', _, _, .mk hk x y ex ey h1 hx hy hC hr, h', x'⟩
          · refine (Make_room h iv.wf h1 hx hy hC (by omega)).mono ?_
            rintro e w' ⟨rfl, k⟩
            exact ⟨_, _, rfl, did_no h (by decide) hq (by omega) (by rw [err, if_neg (by omega), if_pos hk, if_neg (by omega), if_neg (by omega), if_neg (by rw [ey, Int.toNat_natCast, hC]; decide), if_pos (by omega)]) k⟩
theorem Put_any (h : St w ρ u j wb mb s m) (iv : Inv s m) {o : Oq} (hk : o.kind = 6) :
    Calls Tryz.prog 18 #[.pointer (some ⟨wb, 0, none⟩), .int .i64 o.a, .agg #[.int .i64 o.v.num, .int .i64 o.v.next, .bool o.v.dead]] w fun e w' => ∃ er, e = .returned (.int .i64 er) ∧ Did w ρ u j wb mb s m o w' er false 0 := by
  have hq : o.kind = 1 ∨ o.kind = 3 ∨ o.kind = 6 ∨ (8 ≤ o.kind ∧ o.kind ≤ 14) := .inr (.inr (.inl hk))
  rcases nat_or o.a s.locs.length with ha | ⟨x, ex, hx⟩
  · refine (Put_loc h ha o.v).mono ?_
    rintro e w' ⟨rfl, k⟩
    exact ⟨_, rfl, did_no h (by decide) hq (by omega) (by rw [err, if_neg (by omega), if_neg (by omega), if_pos hk, if_pos ha]) k⟩
  · rw [ex]
    by_cases ho : (s.lo x).owner = 0
    · refine (Put_own h hx ho o.v).mono ?_
      rintro e w' ⟨rfl, k⟩
      exact ⟨_, rfl, did_no h (by decide) hq (by omega) (by rw [err, if_neg (by omega), if_neg (by omega), if_pos hk, if_neg (by omega), if_pos (by rw [ex, Int.toNat_natCast]; exact ho)]) k⟩
    · cases hC : s.isC m (s.lo x).owner with
      | true =>
        refine (Put_done h iv.wf hx ho hC o.v).mono ?_
        rintro e w' ⟨rfl, k⟩
        exact ⟨_, rfl, did_no h (by decide) hq (by omega) (by rw [err, if_neg (by omega), if_neg (by omega), if_pos hk, if_neg (by omega), if_neg (by rw [ex, Int.toNat_natCast]; exact ho), if_pos (by rw [ex, Int.toNat_natCast]; exact hC)]) k⟩
      | false =>
        refine (Put_ok h iv.wf hx ho hC o.v).mono ?_
        rintro e w' ⟨rfl, ρ', h', x'⟩
        exact ⟨_, rfl, ρ', _, _, .put hk x ex hx ho hC, h', x'⟩
theorem Load_any (h : St w ρ u j wb mb s m) (iv : Inv s m) (hlog : (m.log.length + 1) * 56 ≤ 140737488355328) {o : Oq} (hk : o.kind = 8) :
    Calls Tryz.prog 32 #[.pointer (some ⟨wb, 0, none⟩), .int .i64 o.a] w fun e w' => ∃ er n, e = .returned (.tuple #[.int .i64 n, .int .i64 er]) ∧ Did w ρ u j wb mb s m o w' er false n := by
  have hq : o.kind = 1 ∨ o.kind = 3 ∨ o.kind = 6 ∨ (8 ≤ o.kind ∧ o.kind ≤ 14) := by omega
  rcases nat_or o.a s.objs.length with ha | ⟨x, ex, hx⟩
  · refine (Load_no h ha).mono ?_
    rintro e w' ⟨rfl, k⟩
    exact ⟨_, _, rfl, did_no' h (by decide) hq (by omega) (by rw [err, if_neg (by omega), if_neg (by omega), if_neg (by omega), if_pos hk, if_pos ha]) k⟩
  · rw [ex]
    cases hf : m.free with
    | false =>
      refine (Load_closed h iv.wf hx hf).mono ?_
      rintro e w' ⟨rfl, k⟩
      exact ⟨_, _, rfl, did_no h (by decide) hq (by omega) (by rw [err, if_neg (by omega), if_neg (by omega), if_neg (by omega), if_pos hk, if_neg (by omega), if_neg (by rw [hf]; decide)]) k⟩
    | true =>
      refine (Load_ok h iv.wf hx hf hlog).mono ?_
      rintro e w' ⟨rfl, ρ', h', x'⟩
      exact ⟨_, _, rfl, ρ', _, _, .load hk x ex hx hf, h', x'⟩
theorem Status_any (h : St w ρ u j wb mb s m) (iv : Inv s m) (hlog : (m.log.length + 1) * 56 ≤ 140737488355328) {o : Oq} (hk : o.kind = 10) :
    Calls Tryz.prog 34 #[.pointer (some ⟨wb, 0, none⟩), .int .i64 o.a] w fun e w' => ∃ er n, e = .returned (.tuple #[.int .i64 n, .int .i64 er]) ∧ Did w ρ u j wb mb s m o w' er false n := by
  have hq : o.kind = 1 ∨ o.kind = 3 ∨ o.kind = 6 ∨ (8 ≤ o.kind ∧ o.kind ≤ 14) := by omega
  rcases nat_or o.a s.atts.length with ha | ⟨x, ex, hx⟩
  · refine (Status_no h ha).mono ?_
    rintro e w' ⟨rfl, k⟩
    exact ⟨_, _, rfl, did_no' h (by decide) hq (fun _ => .inl ha) (by rw [err, if_neg (by omega), if_neg (by omega), if_neg (by omega), if_neg (by omega), if_neg (by omega), if_pos (by omega), if_pos ha]) k⟩
  · rw [ex]
    cases hf : m.free with
    | false =>
      refine (Status_closed h iv.wf hx hf).mono ?_
      rintro e w' ⟨rfl, k⟩
      exact ⟨_, _, rfl, did_no h (by decide) hq (fun _ => .inr hf) (by rw [err, if_neg (by omega), if_neg (by omega), if_neg (by omega), if_neg (by omega), if_neg (by omega), if_pos (by omega), if_neg (by omega), if_neg (by rw [hf]; decide)]) k⟩
    | true =>
      refine (Status_ok h iv.wf hx hf hlog).mono ?_
      rintro e w' ⟨rfl, ρ', h', x'⟩
      exact ⟨_, _, rfl, ρ', _, _, .stat hk x ex hx hf, h', x'⟩
theorem Flag_any (h : St w ρ u j wb mb s m) (iv : Inv s m) (hlog : (m.log.length + 1) * 56 ≤ 140737488355328) {o : Oq} (hk : o.kind = 13) :
    Calls Tryz.prog 77 #[.pointer (some ⟨wb, 0, none⟩), .int .i64 o.a] w fun e w' => ∃ er d, e = .returned (.tuple #[.bool d, .int .i64 er]) ∧ Did w ρ u j wb mb s m o w' er d 0 := by
  have hq : o.kind = 1 ∨ o.kind = 3 ∨ o.kind = 6 ∨ (8 ≤ o.kind ∧ o.kind ≤ 14) := by omega
  rcases nat_or o.a s.atts.length with ha | ⟨x, ex, hx⟩
  · refine (Flag_no h ha).mono ?_
    rintro e w' ⟨rfl, k⟩
    exact ⟨_, _, rfl, did_no' h (by decide) hq (by omega) (by rw [err, if_neg (by omega), if_neg (by omega), if_neg (by omega), if_neg (by omega), if_neg (by omega), if_pos (by omega), if_pos ha]) k⟩
  · rw [ex]
    cases hf : m.free with
    | false =>
      refine (Flag_closed h iv.wf hx hf).mono ?_
      rintro e w' ⟨rfl, k⟩
      exact ⟨_, _, rfl, did_no h (by decide) hq (by omega) (by rw [err, if_neg (by omega), if_neg (by omega), if_neg (by omega), if_neg (by omega), if_neg (by omega), if_pos (by omega), if_neg (by omega), if_neg (by rw [hf]; decide)]) k⟩
    | true =>
      refine (Flag_ok h iv.wf hx hf hlog).mono ?_
      rintro e w' ⟨rfl, ρ', h', x'⟩
      exact ⟨_, _, rfl, ρ', _, _, .flag hk x ex hx hf, h', x'⟩
theorem Kill_any (h : St w ρ u j wb mb s m) (iv : Inv s m) (hlog : (m.log.length + 1) * 56 ≤ 140737488355328) {o : Oq} (hk : o.kind = 11) :
    Calls Tryz.prog 74 #[.pointer (some ⟨wb, 0, none⟩), .int .i64 o.a] w fun e w' => ∃ er d, e = .returned (.tuple #[.bool d, .int .i64 er]) ∧ Did w ρ u j wb mb s m o w' er d 0 := by
  have hq : o.kind = 1 ∨ o.kind = 3 ∨ o.kind = 6 ∨ (8 ≤ o.kind ∧ o.kind ≤ 14) := by omega
  by_cases hb : o.a ≤ 0 ∨ (s.atts.length : Int) ≤ o.a
  · refine (Kill_bad h hb).mono ?_
    rintro e w' ⟨rfl, k⟩
    exact ⟨_, _, rfl, did_no' h (by decide) hq (by omega) (by rw [err, if_neg (by omega), if_neg (by omega), if_neg (by omega), if_neg (by omega), if_neg (by omega), if_neg (by omega), if_pos (by omega), if_pos (by omega)]) k⟩
  · obtain ⟨x, ex⟩ : ∃ x : Nat, o.a = x := ⟨o.a.toNat, by omega⟩
    have h1 : 1 ≤ x := by omega
    have hx : x < s.atts.length := by omega
    rw [ex]
    cases hf : m.free with
    | false =>
      refine (Kill_closed h iv.wf h1 hx hf).mono ?_
      rintro e w' ⟨rfl, k⟩
      exact ⟨_, _, rfl, did_no h (by decide) hq (by omega) (by rw [err, if_neg (by omega), if_neg (by omega), if_neg (by omega), if_neg (by omega), if_neg (by omega), if_neg (by omega), if_pos (by omega), if_neg (by omega), if_neg (by rw [hf]; decide)]) k⟩
    | true =>
      refine (Kill_ok h iv.wf h1 hx hf hlog).mono ?_
      rintro e w' ⟨rfl, ρ', h', x'⟩
      exact ⟨_, _, rfl, ρ', _, _, .fin 3 (.inl ⟨hk, rfl⟩) x ex h1 hx hf, h', x'⟩
theorem Commit_any (h : St w ρ u j wb mb s m) (iv : Inv s m) (hlog : (m.log.length + 1) * 56 ≤ 140737488355328) {o : Oq} (hk : o.kind = 12) :
    Calls Tryz.prog 21 #[.pointer (some ⟨wb, 0, none⟩), .int .i64 o.a] w fun e w' => ∃ er d, e = .returned (.tuple #[.bool d, .int .i64 er]) ∧ Did w ρ u j wb mb s m o w' er d 0 := by
  have hq : o.kind = 1 ∨ o.kind = 3 ∨ o.kind = 6 ∨ (8 ≤ o.kind ∧ o.kind ≤ 14) := by omega
  by_cases hb : o.a ≤ 0 ∨ (s.atts.length : Int) ≤ o.a
  · refine (Commit_bad h hb).mono ?_
    rintro e w' ⟨rfl, k⟩
    exact ⟨_, _, rfl, did_no' h (by decide) hq (by omega) (by rw [err, if_neg (by omega), if_neg (by omega), if_neg (by omega), if_neg (by omega), if_neg (by omega), if_neg (by omega), if_pos (by omega), if_pos (by omega)]) k⟩
  · obtain ⟨x, ex⟩ : ∃ x : Nat, o.a = x := ⟨o.a.toNat, by omega⟩
    have h1 : 1 ≤ x := by omega
    have hx : x < s.atts.length := by omega
    rw [ex]
    cases hf : m.free with
    | false =>
      refine (Commit_closed h iv.wf h1 hx hf).mono ?_
      rintro e w' ⟨rfl, k⟩
      exact ⟨_, _, rfl, did_no h (by decide) hq (by omega) (by rw [err, if_neg (by omega), if_neg (by omega), if_neg (by omega), if_neg (by omega), if_neg (by omega), if_neg (by omega), if_pos (by omega), if_neg (by omega), if_neg (by rw [hf]; decide)]) k⟩
    | true =>
      refine (Commit_ok h iv.wf h1 hx hf hlog).mono ?_
      rintro e w' ⟨rfl, ρ', h', x'⟩
      exact ⟨_, _, rfl, ρ', _, _, .fin 2 (.inr ⟨hk, rfl⟩) x ex h1 hx hf, h', x'⟩
theorem Mark_any (h : St w ρ u j wb mb s m) (iv : Inv s m) (hlog : (m.log.length + 1) * 56 ≤ 140737488355328) {o : Oq} (hk : o.kind = 14) :
    Calls Tryz.prog 79 #[.pointer (some ⟨wb, 0, none⟩), .int .i64 o.a, .bool o.v.dead] w fun e w' => ∃ er d, e = .returned (.tuple #[.bool d, .int .i64 er]) ∧ Did w ρ u j wb mb s m o w' er d 0 := by
  have hq : o.kind = 1 ∨ o.kind = 3 ∨ o.kind = 6 ∨ (8 ≤ o.kind ∧ o.kind ≤ 14) := by omega
  by_cases hb : o.a ≤ 0 ∨ (s.atts.length : Int) ≤ o.a
  · cases hdd : o.v.dead with
    | true =>
      refine (up_bad h hb).mono ?_
      rintro e w' ⟨rfl, k⟩
      exact ⟨_, _, rfl, did_no' h (by decide) hq (by omega) (by rw [err, if_neg (by omega), if_neg (by omega), if_neg (by omega), if_neg (by omega), if_neg (by omega), if_neg (by omega), if_pos (by omega), if_pos (by omega)]) k⟩
    | false =>
      refine (down_bad h hb).mono ?_
      rintro e w' ⟨rfl, k⟩
      exact ⟨_, _, rfl, did_no' h (by decide) hq (by omega) (by rw [err, if_neg (by omega), if_neg (by omega), if_neg (by omega), if_neg (by omega), if_neg (by omega), if_neg (by omega), if_pos (by omega), if_pos (by omega)]) k⟩
  · obtain ⟨x, ex⟩ : ∃ x : Nat, o.a = x := ⟨o.a.toNat, by omega⟩
    have h1 : 1 ≤ x := by omega
    have hx : x < s.atts.length := by omega
    rw [ex]
    cases hf : m.free with
    | false =>
      cases hdd : o.v.dead with
      | true =>
        refine (up_closed h iv.wf h1 hx hf).mono ?_
        rintro e w' ⟨rfl, k⟩
        exact ⟨_, _, rfl, did_no h (by decide) hq (by omega) (by rw [err, if_neg (by omega), if_neg (by omega), if_neg (by omega), if_neg (by omega), if_neg (by omega), if_neg (by omega), if_pos (by omega), if_neg (by omega), if_neg (by rw [hf]; decide)]) k⟩
      | false =>
        refine (down_closed h iv.wf h1 hx hf).mono ?_
        rintro e w' ⟨rfl, k⟩
        exact ⟨_, _, rfl, did_no h (by decide) hq (by omega) (by rw [err, if_neg (by omega), if_neg (by omega), if_neg (by omega), if_neg (by omega), if_neg (by omega), if_neg (by omega), if_pos (by omega), if_neg (by omega), if_neg (by rw [hf]; decide)]) k⟩
    | true =>
      cases hdd : o.v.dead with
      | true =>
        refine (up_ok h iv.wf h1 hx hf hlog).mono ?_
        rintro e w' ⟨rfl, ρ', h', x'⟩
        exact ⟨_, _, rfl, ρ', _, _, .mark hk x 0 1 ex h1 hx hf (.inl ⟨hdd, rfl, rfl⟩), h', x'⟩
      | false =>
        refine (down_ok h iv.wf h1 hx hf hlog).mono ?_
        rintro e w' ⟨rfl, ρ', h', x'⟩
        exact ⟨_, _, rfl, ρ', _, _, .mark hk x 1 0 ex h1 hx hf (.inr ⟨hdd, rfl, rfl⟩), h', x'⟩
theorem Acquire_any (h : St w ρ u j wb mb s m) (iv : Inv s m) (hlog : (m.log.length + 1) * 56 ≤ 140737488355328) {o : Oq} (hk : o.kind = 9) :
    Calls Tryz.prog 20 #[.pointer (some ⟨wb, 0, none⟩), .int .i64 o.a, .int .i64 o.b, .int .i64 o.c] w fun e w' => ∃ er d, e = .returned (.tuple #[.bool d, .int .i64 er]) ∧ Did w ρ u j wb mb s m o w' er d 0 := by
  have hq : o.kind = 1 ∨ o.kind = 3 ∨ o.kind = 6 ∨ (8 ≤ o.kind ∧ o.kind ≤ 14) := by omega
  rcases nat_or o.a s.objs.length with ha | ⟨x, ex, hx⟩
  · refine (Acq_obj h ha o.b o.c).mono ?_
    rintro e w' ⟨rfl, k⟩
    exact ⟨_, _, rfl, did_no' h (by decide) hq (by omega) (by rw [err, if_neg (by omega), if_neg (by omega), if_neg (by omega), if_neg (by omega), if_pos hk, if_pos ha]) k⟩
  rw [ex]
  rcases nat_or o.c s.locs.length with hc | ⟨z, ez, hz⟩
  · refine (Acq_next h hx o.b hc).mono ?_
    rintro e w' ⟨rfl, k⟩
    exact ⟨_, _, rfl, did_no' h (by decide) hq (by omega) (by rw [err, if_neg (by omega), if_neg (by omega), if_neg (by omega), if_neg (by omega), if_pos hk, if_neg (by omega), if_pos (.inl hc)]) k⟩
  rw [ez]
  rcases nat_or o.b s.locs.length with hb | ⟨y, ey, hy⟩
  · refine (Acq_have h hx hb hz).mono ?_
    rintro e w' ⟨rfl, k⟩
    exact ⟨_, _, rfl, did_no' h (by decide) hq (by omega) (by rw [err, if_neg (by omega), if_neg (by omega), if_neg (by omega), if_neg (by omega), if_pos hk, if_neg (by omega), if_pos (.inr hb)]) k⟩
  rw [ey]
  cases hU : (s.lo z).used with
  | true =>
    refine (Acq_used h hx hy hz hU).mono ?_
    rintro e w' ⟨rfl, k⟩
    exact ⟨_, _, rfl, did_no' h (by decide) hq (by omega) (by rw [err, if_neg (by omega), if_neg (by omega), if_neg (by omega), if_neg (by omega), if_pos hk, if_neg (by omega), if_neg (by omega), if_pos (by rw [ez, Int.toNat_natCast]; exact hU)]) k⟩
  | false =>
    cases hC : s.isC m (s.lo z).owner with
    | true =>
      refine (Acq_done h iv.wf hx hy hz hU hC).mono ?_
      rintro e w' ⟨rfl, k⟩
      exact ⟨_, _, rfl, did_no h (by decide) hq (by omega) (by rw [err, if_neg (by omega), if_neg (by omega), if_neg (by omega), if_neg (by omega), if_pos hk, if_neg (by omega), if_neg (by omega), if_neg (by rw [ez, Int.toNat_natCast, hU]; decide), if_pos (by rw [ez, Int.toNat_natCast]; exact hC)]) k⟩
    | false =>
      cases hf : m.free with
      | false =>
        refine (Acq_closed h iv.wf hx hy hz hU hC hf).mono ?_
        rintro e w' ⟨rfl, ρ', h', x'⟩
        rw [use_false hU] at h'
        exact ⟨_, _, rfl, ρ', s, m, .no 31 (by decide) hq (by omega) (by rw [err, if_neg (by omega), if_neg (by omega), if_neg (by omega), if_neg (by omega), if_pos hk, if_neg (by omega), if_neg (by omega), if_neg (by rw [ez, Int.toNat_natCast, hU]; decide), if_neg (by rw [ez, Int.toNat_natCast, hC]; decide), if_neg (by rw [hf]; decide)]), h', x'⟩
      | true =>
        refine (Acq_ok h iv.wf hx hy hz hU hC hf hlog).mono ?_
        rintro e w' ⟨rfl, ρ', h', x'⟩
        exact ⟨_, _, rfl, ρ', _, _, .acq hk x y z ex ey ez hx hy hz hU hC hf, h', x'⟩
end
end Go.Proofs.YtaikngpgmcpecaaGreat
