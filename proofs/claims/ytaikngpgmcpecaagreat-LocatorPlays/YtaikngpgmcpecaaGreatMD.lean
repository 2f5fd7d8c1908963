import Derived.Test.YtaikngpgmcpecaaGreatMC
namespace Go.Proofs.YtaikngpgmcpecaaGreat
open Go.RowKit
/-- Two worlds over two memories: the program's (a call ahead) and the document's. -/
structure HP (w : World) (ρ : Nat → Nat) (D : Nat → Prop) (wb mb qb rb : Nat) (s' : Ws) (m' : Mm) (s : Ws) (m : Mm) : Prop where
  st : St w ρ 1 2 wb mb s' m'
  di : DI w qb rb s m D
  dz : ∀ k, D k → ρ k = 0
/-- Both at one place. -/
structure PP (w : World) (ρ : Nat → Nat) (D : Nat → Prop) (wb mb qb rb : Nat) (s : Ws) (m : Mm) : Prop where
  hp : HP w ρ D wb mb qb rb s m s m
  iv : Inv s m
  ft : m.fit
  cl : m.cells.length ≤ 65536
/-- What a call leaves to others: blocks without a role, that are not the document's. -/
structure Lv (w w' : World) (ρ ρ' : Nat → Nat) (D D' : Nat → Prop) : Prop where
  keeps : Keeps (fun k => ρ k ≠ 0 ∨ D k) w w'
  old : ∀ k, k < w.heap.size → ρ k = 0 → ¬ D k → ρ' k = 0 ∧ ¬ D' k
section
variable {w w' w'' : World} {ρ ρ' ρ'' : Nat → Nat} {D D' D'' : Nat → Prop} {wb mb qb rb : Nat} {s s' s'' : Ws} {m m' m'' : Mm}
theorem Lv.refl (w : World) (ρ : Nat → Nat) (D : Nat → Prop) : Lv w w ρ ρ D D := ⟨Keeps.refl _ _, fun _ _ a b => ⟨a, b⟩⟩
theorem Lv.new (k : Keeps (fun _ => False) w w') : Lv w w' ρ ρ D D := ⟨k.mono (fun _ _ e => e.elim), fun _ _ a b => ⟨a, b⟩⟩
theorem Lv.trans (h : Lv w w' ρ ρ' D D') (k : Lv w' w'' ρ' ρ'' D' D'') : Lv w w'' ρ ρ'' D D'' :=
  ⟨⟨k.keeps.os.trans h.keeps.os, k.keeps.tape.trans h.keeps.tape, k.keeps.output.trans h.keeps.output, Nat.le_trans h.keeps.size k.keeps.size, fun i hi hn => by
    have h1 : ρ i = 0 := Classical.byContradiction fun e => hn (.inl e)
    have h2 : ¬ D i := fun e => hn (.inr e)
    have h3 := h.old i hi h1 h2
    exact (k.keeps.block i (Nat.lt_of_lt_of_le hi h.keeps.size) (fun e => e.elim (fun e => e h3.1) (fun e => h3.2 e))).trans (h.keeps.block i hi hn)⟩,
    fun i hi a b => by
      have h3 := h.old i hi a b
      exact k.old i (Nat.lt_of_lt_of_le hi h.keeps.size) h3.1 h3.2⟩
theorem Lv.cell (h : Lv w w' ρ ρ' D D') {p : Addr} {v : Value} (hc : w.cell? p = some v) (h1 : ρ p.block = 0) (h2 : ¬ D p.block) : w'.cell? p = some v := h.keeps.cell hc (fun e => e.elim (fun e => e h1) (fun e => h2 e))
/-- Nothing below a base is touched. -/
theorem Lv.base {W0 : World} (h : Lv w w' ρ ρ' D D') (k : Keeps (fun _ => False) W0 w) (hb : ∀ i, i < W0.heap.size → ρ i = 0 ∧ ¬ D i) : Keeps (fun _ => False) W0 w' ∧ ∀ i, i < W0.heap.size → ρ' i = 0 ∧ ¬ D' i :=
  ⟨k.trans' h.keeps (fun _ _ e => e) (fun i hi e => e.elim (fun e => e (hb i hi).1) (fun e => (hb i hi).2 e)), fun i hi => h.old i (Nat.lt_of_lt_of_le hi k.size) (hb i hi).1 (hb i hi).2⟩
theorem HP.new {s1 : Ws} {m1 : Mm} (h : HP w ρ D wb mb qb rb s1 m1 s m) (k : Keeps (fun _ => False) w w') : HP w' ρ D wb mb qb rb s1 m1 s m := ⟨(h.st.new k).1, h.di.new k, h.dz⟩
theorem PP.new (h : PP w ρ D wb mb qb rb s m) (k : Keeps (fun _ => False) w w') : PP w' ρ D wb mb qb rb s m := ⟨h.hp.new k, h.iv, h.ft, h.cl⟩
/-- The program's call. -/
theorem PP.half (h : PP w ρ D wb mb qb rb s m) (hs : St w' ρ' 1 2 wb mb s' m') (x : Ext (Sr 1 2) w w' ρ ρ') : HP w' ρ' D wb mb qb rb s' m' s m ∧ Lv w w' ρ ρ' D D := by
  have n0 : ¬ Sr 1 2 0 := Sr.not0 h.hp.st
  refine ⟨⟨hs, h.hp.di.keep x.keeps (fun i hi e => n0 (by rw [h.hp.dz i hi] at e; exact e)), fun k hk => ?_⟩, x.keeps.mono (fun i _ e => .inl (fun e' => n0 (by rw [e'] at e; exact e))), fun k hk h1 h2 => ⟨?_, h2⟩⟩
  · rw [x.old k (h.hp.di.lt hk)]
    exact h.hp.dz k hk
  · rw [x.old k hk]
    exact h1
/-- The document's behind it. -/
theorem HP.done (h : HP w ρ D wb mb qb rb s' m' s m) (hd : DI w' qb rb s' m' D') (l : LeftP w w' D D') : HP w' ρ D' wb mb qb rb s' m' s' m' ∧ Lv w w' ρ ρ D D' := by
  have st := h.st
  have x : Ext (fun r => r = 0) w w' ρ ρ := ⟨l.keeps.mono (fun i _ e => h.dz i e), fun _ _ => rfl, fun i hi => .inr (st.bnd i hi)⟩
  refine ⟨⟨⟨fun i hi => st.bnd i (Nat.le_trans l.keeps.size hi), st.mj.ext x (fun e => st.u0 e), st.wj.ext x (fun r h1 h2 e => st.j0 (by omega)), st.u0, st.j0, st.ap⟩, hd, fun k hk => ?_⟩, l.keeps.mono (fun _ _ e => .inr e), fun k hk h1 h2 => ⟨h1, fun e => ?_⟩⟩
  · exact (l.old k hk).elim (h.dz k) (st.bnd k)
  · exact (l.old k e).elim h2 (fun e => by omega)
theorem Do.fit {o : Oq} {e n : Int} {d : Bool} (h : Do s m o s' m' e d n) (i : Inv s m) (f : m.fit) : m'.fit := by
  cases h with
  | idle _ => exact f
  | no _ _ _ _ _ => exact f
  | att _ _ => exact (f.make 1).make 0
  | mk _ _ _ _ _ _ _ _ _ _ => exact f
  | put _ _ _ _ _ _ => exact f
  | load _ x _ hx _ => exact f.take (i.co x hx) _ _ _
  | acq _ x _ _ _ _ _ hx _ _ _ _ _ => exact f.take (i.co x hx) _ _ _
  | stat _ x _ hx _ => exact f.take (i.ca_ x hx).1 _ _ _
  | fin _ _ x _ _ hx _ => exact f.take (i.ca_ x hx).1 _ _ _
  | flag _ x _ hx _ => exact f.take (i.ca_ x hx).2 _ _ _
  | mark _ x _ _ _ _ hx _ _ => exact f.take (i.ca_ x hx).2 _ _ _
theorem Do.cl {o : Oq} {e n : Int} {d : Bool} (h : Do s m o s' m' e d n) (c : m.cells.length ≤ 65536) : m'.cells.length ≤ 65536 := by
  cases h with
  | att _ hr =>
    simp [Ws.roomA] at hr
    rw [Mm.len_make, Mm.len_make]
    omega
  | load _ _ _ _ _ => rw [Mm.len_load]; exact c
  | acq _ _ _ _ _ _ _ _ _ _ _ _ _ => rw [Mm.len_swap]; exact c
  | stat _ _ _ _ _ => rw [Mm.len_load]; exact c
  | fin _ _ _ _ _ _ _ => rw [Mm.len_swap]; exact c
  | flag _ _ _ _ _ => rw [Mm.len_load]; exact c
  | mark _ _ _ _ _ _ _ _ _ => rw [Mm.len_swap]; exact c
  | _ => exact c
/-- A step of both. -/
theorem PP.did1 (h : PP w ρ D wb mb qb rb s m) {o : Oq} {er n : Int} {d : Bool} (k : Did w ρ 1 2 wb mb s m o w' er d n) : ∃ ρ' s' m', Do s m o s' m' er d n ∧ HP w' ρ' D wb mb qb rb s' m' s m ∧ Lv w w' ρ ρ' D D := by
  obtain ⟨ρ', s', m', hd, hs, x⟩ := k
  exact ⟨ρ', s', m', hd, h.half hs x⟩
theorem HP.did2 {o : Oq} {e1 n1 e2 n2 : Int} {d1 d2 : Bool} (i : Inv s m) (f : m.fit) (c : m.cells.length ≤ 65536) (hd : Do s m o s' m' e1 d1 n1) (h : HP w ρ D wb mb qb rb s' m' s m) (k : RDid w qb rb D s m o w' e2 d2 n2) : e2 = e1 ∧ d2 = d1 ∧ n2 = n1 ∧ ∃ D', PP w' ρ D' wb mb qb rb s' m' ∧ Lv w w' ρ ρ D D' := by
  obtain ⟨s2, m2, D', hd2, hi2, l⟩ := k
  obtain ⟨rfl, rfl, rfl, rfl, rfl⟩ := hd.one hd2
  obtain ⟨hh, lv⟩ := h.done hi2 l
  exact ⟨rfl, rfl, rfl, D', ⟨hh, hd.inv i, hd.fit i f, hd.cl c⟩, lv⟩
end
end Go.Proofs.YtaikngpgmcpecaaGreat
namespace Go.Proofs.YtaikngpgmcpecaaGreat
open Go.RowKit
/-- How much the log may have grown to. -/
def lg (m : Mm) : Nat := m.log.length + (if m.free then 1 else 0)
section
variable {w : World} {ρ : Nat → Nat} {D : Nat → Prop} {wb mb qb rb : Nat} {s s' : Ws} {m m' : Mm}
theorem Do.lg {o : Oq} {e n : Int} {d : Bool} (h : Do s m o s' m' e d n) : lg m' = lg m := h.bs.2.2
theorem tw_att (h : PP w ρ D wb mb qb rb s m) (hlog : (m.log.length + 1) * 56 ≤ 140737488355328) {o : Oq} (hk : o.kind = 1) :
    (∀ W, Keeps (fun _ => False) w W → Calls Tryz.prog 16 #[.pointer (some ⟨wb, 0, none⟩), .agg #[.int .i64 o.a, .int .i64 o.b, .int .i64 o.c]] W fun e w' => ∃ er n ρ' s' m', e = .returned (.tuple #[.int .i64 n, .int .i64 er]) ∧ Do s m o s' m' er false n ∧ HP w' ρ' D wb mb qb rb s' m' s m ∧ Lv W w' ρ ρ' D D) ∧
    (∀ W ρ' s' m' (er n : Int), Do s m o s' m' er false n → HP W ρ' D wb mb qb rb s' m' s m → Calls Tryz.prog 68 #[.pointer (some ⟨qb, 0, none⟩), .agg #[.int .i64 o.a, .int .i64 o.b, .int .i64 o.c]] W fun e w' => e = .returned (.tuple #[.int .i64 n, .int .i64 er]) ∧ ∃ D', PP w' ρ' D' wb mb qb rb s' m' ∧ Lv W w' ρ' ρ' D D') := by
  refine ⟨fun W K => ?_, fun W ρ' s' m' er n hd hp => ?_⟩
  · refine (Attempt_any (h.new K).hp.st hk).mono ?_
    rintro e w' ⟨er, n, rfl, k⟩
    obtain ⟨ρ', s', m', q1, q2, q3⟩ := (h.new K).did1 k
    exact ⟨er, n, ρ', s', m', rfl, q1, q2, q3⟩
  · obtain ⟨sv, σ, B, hw, rfl⟩ := hp.di
    refine (rAttempt_any hw h.iv h.ft h.cl hlog hk).mono ?_
    rintro e w' ⟨er2, n2, rfl, k⟩
    obtain ⟨e1, e2, e3, r⟩ := HP.did2 h.iv h.ft h.cl hd hp k
    subst e1
    subst e3
    exact ⟨rfl, r⟩
theorem tw_mk (h : PP w ρ D wb mb qb rb s m) (hlog : (m.log.length + 1) * 56 ≤ 140737488355328) {o : Oq} (hk : o.kind = 3) :
    (∀ W, Keeps (fun _ => False) w W → Calls Tryz.prog 17 #[.pointer (some ⟨wb, 0, none⟩), .int .i64 o.a, .int .i64 o.b] W fun e w' => ∃ er n ρ' s' m', e = .returned (.tuple #[.int .i64 n, .int .i64 er]) ∧ Do s m o s' m' er false n ∧ HP w' ρ' D wb mb qb rb s' m' s m ∧ Lv W w' ρ ρ' D D) ∧
    (∀ W ρ' s' m' (er n : Int), Do s m o s' m' er false n → HP W ρ' D wb mb qb rb s' m' s m → Calls Tryz.prog 69 #[.pointer (some ⟨qb, 0, none⟩), .int .i64 o.a, .int .i64 o.b] W fun e w' => e = .returned (.tuple #[.int .i64 n, .int .i64 er]) ∧ ∃ D', PP w' ρ' D' wb mb qb rb s' m' ∧ Lv W w' ρ' ρ' D D') := by
  refine ⟨fun W K => ?_, fun W ρ' s' m' er n hd hp => ?_⟩
  · refine (Make_any (h.new K).hp.st h.iv hk).mono ?_
    rintro e w' ⟨er, n, rfl, k⟩
    obtain ⟨ρ', s', m', q1, q2, q3⟩ := (h.new K).did1 k
    exact ⟨er, n, ρ', s', m', rfl, q1, q2, q3⟩
  · obtain ⟨sv, σ, B, hw, rfl⟩ := hp.di
    refine (rMake_any hw h.iv h.ft h.cl hlog hk).mono ?_
    rintro e w' ⟨er2, n2, rfl, k⟩
    obtain ⟨e1, e2, e3, r⟩ := HP.did2 h.iv h.ft h.cl hd hp k
    subst e1
    subst e3
    exact ⟨rfl, r⟩
theorem tw_put (h : PP w ρ D wb mb qb rb s m) (hlog : (m.log.length + 1) * 56 ≤ 140737488355328) {o : Oq} (hk : o.kind = 6) :
    (∀ W, Keeps (fun _ => False) w W → Calls Tryz.prog 18 #[.pointer (some ⟨wb, 0, none⟩), .int .i64 o.a, .agg #[.int .i64 o.v.num, .int .i64 o.v.next, .bool o.v.dead]] W fun e w' => ∃ er ρ' s' m', e = .returned (.int .i64 er) ∧ Do s m o s' m' er false 0 ∧ HP w' ρ' D wb mb qb rb s' m' s m ∧ Lv W w' ρ ρ' D D) ∧
    (∀ W ρ' s' m' (er : Int), Do s m o s' m' er false 0 → HP W ρ' D wb mb qb rb s' m' s m → Calls Tryz.prog 70 #[.pointer (some ⟨qb, 0, none⟩), .int .i64 o.a, .agg #[.int .i64 o.v.num, .int .i64 o.v.next, .bool o.v.dead]] W fun e w' => e = .returned (.int .i64 er) ∧ ∃ D', PP w' ρ' D' wb mb qb rb s' m' ∧ Lv W w' ρ' ρ' D D') := by
  refine ⟨fun W K => ?_, fun W ρ' s' m' er hd hp => ?_⟩
  · refine (Put_any (h.new K).hp.st h.iv hk).mono ?_
    rintro e w' ⟨er, rfl, k⟩
    obtain ⟨ρ', s', m', q1, q2, q3⟩ := (h.new K).did1 k
    exact ⟨er, ρ', s', m', rfl, q1, q2, q3⟩
  · obtain ⟨sv, σ, B, hw, rfl⟩ := hp.di
    refine (rPut_any hw h.iv h.ft h.cl hlog hk).mono ?_
    rintro e w' ⟨er2, rfl, k⟩
    obtain ⟨e1, e2, e3, r⟩ := HP.did2 h.iv h.ft h.cl hd hp k
    subst e1
    clear e2 e3
    exact ⟨rfl, r⟩
theorem tw_load (h : PP w ρ D wb mb qb rb s m) (hlog : (m.log.length + 1) * 56 ≤ 140737488355328) {o : Oq} (hk : o.kind = 8) :
    (∀ W, Keeps (fun _ => False) w W → Calls Tryz.prog 32 #[.pointer (some ⟨wb, 0, none⟩), .int .i64 o.a] W fun e w' => ∃ er n ρ' s' m', e = .returned (.tuple #[.int .i64 n, .int .i64 er]) ∧ Do s m o s' m' er false n ∧ HP w' ρ' D wb mb qb rb s' m' s m ∧ Lv W w' ρ ρ' D D) ∧
    (∀ W ρ' s' m' (er n : Int), Do s m o s' m' er false n → HP W ρ' D wb mb qb rb s' m' s m → Calls Tryz.prog 33 #[.pointer (some ⟨qb, 0, none⟩), .int .i64 o.a] W fun e w' => e = .returned (.tuple #[.int .i64 n, .int .i64 er]) ∧ ∃ D', PP w' ρ' D' wb mb qb rb s' m' ∧ Lv W w' ρ' ρ' D D') := by
  refine ⟨fun W K => ?_, fun W ρ' s' m' er n hd hp => ?_⟩
  · refine (Load_any (h.new K).hp.st h.iv hlog hk).mono ?_
    rintro e w' ⟨er, n, rfl, k⟩
    obtain ⟨ρ', s', m', q1, q2, q3⟩ := (h.new K).did1 k
    exact ⟨er, n, ρ', s', m', rfl, q1, q2, q3⟩
  · obtain ⟨sv, σ, B, hw, rfl⟩ := hp.di
    refine (rLoad_any hw h.iv h.ft h.cl hlog hk).mono ?_
    rintro e w' ⟨er2, n2, rfl, k⟩
    obtain ⟨e1, e2, e3, r⟩ := HP.did2 h.iv h.ft h.cl hd hp k
    subst e1
    subst e3
    exact ⟨rfl, r⟩
theorem tw_stat (h : PP w ρ D wb mb qb rb s m) (hlog : (m.log.length + 1) * 56 ≤ 140737488355328) {o : Oq} (hk : o.kind = 10) :
    (∀ W, Keeps (fun _ => False) w W → Calls Tryz.prog 34 #[.pointer (some ⟨wb, 0, none⟩), .int .i64 o.a] W fun e w' => ∃ er n ρ' s' m', e = .returned (.tuple #[.int .i64 n, .int .i64 er]) ∧ Do s m o s' m' er false n ∧ HP w' ρ' D wb mb qb rb s' m' s m ∧ Lv W w' ρ ρ' D D) ∧
    (∀ W ρ' s' m' (er n : Int), Do s m o s' m' er false n → HP W ρ' D wb mb qb rb s' m' s m → Calls Tryz.prog 35 #[.pointer (some ⟨qb, 0, none⟩), .int .i64 o.a] W fun e w' => e = .returned (.tuple #[.int .i64 n, .int .i64 er]) ∧ ∃ D', PP w' ρ' D' wb mb qb rb s' m' ∧ Lv W w' ρ' ρ' D D') := by
  refine ⟨fun W K => ?_, fun W ρ' s' m' er n hd hp => ?_⟩
  · refine (Status_any (h.new K).hp.st h.iv hlog hk).mono ?_
    rintro e w' ⟨er, n, rfl, k⟩
    obtain ⟨ρ', s', m', q1, q2, q3⟩ := (h.new K).did1 k
    exact ⟨er, n, ρ', s', m', rfl, q1, q2, q3⟩
  · obtain ⟨sv, σ, B, hw, rfl⟩ := hp.di
    refine (rStatus_any hw h.iv h.ft h.cl hlog hk).mono ?_
    rintro e w' ⟨er2, n2, rfl, k⟩
    obtain ⟨e1, e2, e3, r⟩ := HP.did2 h.iv h.ft h.cl hd hp k
    subst e1
    subst e3
    exact ⟨rfl, r⟩
theorem tw_acq (h : PP w ρ D wb mb qb rb s m) (hlog : (m.log.length + 1) * 56 ≤ 140737488355328) {o : Oq} (hk : o.kind = 9) :
    (∀ W, Keeps (fun _ => False) w W → Calls Tryz.prog 20 #[.pointer (some ⟨wb, 0, none⟩), .int .i64 o.a, .int .i64 o.b, .int .i64 o.c] W fun e w' => ∃ er d ρ' s' m', e = .returned (.tuple #[.bool d, .int .i64 er]) ∧ Do s m o s' m' er d 0 ∧ HP w' ρ' D wb mb qb rb s' m' s m ∧ Lv W w' ρ ρ' D D) ∧
    (∀ W ρ' s' m' (er : Int) (d : Bool), Do s m o s' m' er d 0 → HP W ρ' D wb mb qb rb s' m' s m → Calls Tryz.prog 73 #[.pointer (some ⟨qb, 0, none⟩), .int .i64 o.a, .int .i64 o.b, .int .i64 o.c] W fun e w' => e = .returned (.tuple #[.bool d, .int .i64 er]) ∧ ∃ D', PP w' ρ' D' wb mb qb rb s' m' ∧ Lv W w' ρ' ρ' D D') := by
  refine ⟨fun W K => ?_, fun W ρ' s' m' er d hd hp => ?_⟩
  · refine (Acquire_any (h.new K).hp.st h.iv hlog hk).mono ?_
    rintro e w' ⟨er, d, rfl, k⟩
    obtain ⟨ρ', s', m', q1, q2, q3⟩ := (h.new K).did1 k
    exact ⟨er, d, ρ', s', m', rfl, q1, q2, q3⟩
  · obtain ⟨sv, σ, B, hw, rfl⟩ := hp.di
    refine (rAcquire_any hw h.iv h.ft h.cl hlog hk).mono ?_
    rintro e w' ⟨er2, d2, rfl, k⟩
    obtain ⟨e1, e2, e3, r⟩ := HP.did2 h.iv h.ft h.cl hd hp k
    subst e1
    subst e2
    exact ⟨rfl, r⟩
theorem tw_kill (h : PP w ρ D wb mb qb rb s m) (hlog : (m.log.length + 1) * 56 ≤ 140737488355328) {o : Oq} (hk : o.kind = 11) :
    (∀ W, Keeps (fun _ => False) w W → Calls Tryz.prog 74 #[.pointer (some ⟨wb, 0, none⟩), .int .i64 o.a] W fun e w' => ∃ er d ρ' s' m', e = .returned (.tuple #[.bool d, .int .i64 er]) ∧ Do s m o s' m' er d 0 ∧ HP w' ρ' D wb mb qb rb s' m' s m ∧ Lv W w' ρ ρ' D D) ∧
    (∀ W ρ' s' m' (er : Int) (d : Bool), Do s m o s' m' er d 0 → HP W ρ' D wb mb qb rb s' m' s m → Calls Tryz.prog 75 #[.pointer (some ⟨qb, 0, none⟩), .int .i64 o.a] W fun e w' => e = .returned (.tuple #[.bool d, .int .i64 er]) ∧ ∃ D', PP w' ρ' D' wb mb qb rb s' m' ∧ Lv W w' ρ' ρ' D D') := by
  refine ⟨fun W K => ?_, fun W ρ' s' m' er d hd hp => ?_⟩
  · refine (Kill_any (h.new K).hp.st h.iv hlog hk).mono ?_
    rintro e w' ⟨er, d, rfl, k⟩
    obtain ⟨ρ', s', m', q1, q2, q3⟩ := (h.new K).did1 k
    exact ⟨er, d, ρ', s', m', rfl, q1, q2, q3⟩
  · obtain ⟨sv, σ, B, hw, rfl⟩ := hp.di
    refine (rKill_any hw h.iv h.ft h.cl hlog hk).mono ?_
    rintro e w' ⟨er2, d2, rfl, k⟩
    obtain ⟨e1, e2, e3, r⟩ := HP.did2 h.iv h.ft h.cl hd hp k
    subst e1
    subst e2
    exact ⟨rfl, r⟩
theorem tw_com (h : PP w ρ D wb mb qb rb s m) (hlog : (m.log.length + 1) * 56 ≤ 140737488355328) {o : Oq} (hk : o.kind = 12) :
    (∀ W, Keeps (fun _ => False) w W → Calls Tryz.prog 21 #[.pointer (some ⟨wb, 0, none⟩), .int .i64 o.a] W fun e w' => ∃ er d ρ' s' m', e = .returned (.tuple #[.bool d, .int .i64 er]) ∧ Do s m o s' m' er d 0 ∧ HP w' ρ' D wb mb qb rb s' m' s m ∧ Lv W w' ρ ρ' D D) ∧
    (∀ W ρ' s' m' (er : Int) (d : Bool), Do s m o s' m' er d 0 → HP W ρ' D wb mb qb rb s' m' s m → Calls Tryz.prog 76 #[.pointer (some ⟨qb, 0, none⟩), .int .i64 o.a] W fun e w' => e = .returned (.tuple #[.bool d, .int .i64 er]) ∧ ∃ D', PP w' ρ' D' wb mb qb rb s' m' ∧ Lv W w' ρ' ρ' D D') := by
  refine ⟨fun W K => ?_, fun W ρ' s' m' er d hd hp => ?_⟩
  · refine (Commit_any (h.new K).hp.st h.iv hlog hk).mono ?_
    rintro e w' ⟨er, d, rfl, k⟩
    obtain ⟨ρ', s', m', q1, q2, q3⟩ := (h.new K).did1 k
    exact ⟨er, d, ρ', s', m', rfl, q1, q2, q3⟩
  · obtain ⟨sv, σ, B, hw, rfl⟩ := hp.di
    refine (rCommit_any hw h.iv h.ft h.cl hlog hk).mono ?_
    rintro e w' ⟨er2, d2, rfl, k⟩
    obtain ⟨e1, e2, e3, r⟩ := HP.did2 h.iv h.ft h.cl hd hp k
    subst e1
    subst e2
    exact ⟨rfl, r⟩
theorem tw_flag (h : PP w ρ D wb mb qb rb s m) (hlog : (m.log.length + 1) * 56 ≤ 140737488355328) {o : Oq} (hk : o.kind = 13) :
    (∀ W, Keeps (fun _ => False) w W → Calls Tryz.prog 77 #[.pointer (some ⟨wb, 0, none⟩), .int .i64 o.a] W fun e w' => ∃ er d ρ' s' m', e = .returned (.tuple #[.bool d, .int .i64 er]) ∧ Do s m o s' m' er d 0 ∧ HP w' ρ' D wb mb qb rb s' m' s m ∧ Lv W w' ρ ρ' D D) ∧
    (∀ W ρ' s' m' (er : Int) (d : Bool), Do s m o s' m' er d 0 → HP W ρ' D wb mb qb rb s' m' s m → Calls Tryz.prog 78 #[.pointer (some ⟨qb, 0, none⟩), .int .i64 o.a] W fun e w' => e = .returned (.tuple #[.bool d, .int .i64 er]) ∧ ∃ D', PP w' ρ' D' wb mb qb rb s' m' ∧ Lv W w' ρ' ρ' D D') := by
  refine ⟨fun W K => ?_, fun W ρ' s' m' er d hd hp => ?_⟩
  · refine (Flag_any (h.new K).hp.st h.iv hlog hk).mono ?_
    rintro e w' ⟨er, d, rfl, k⟩
    obtain ⟨ρ', s', m', q1, q2, q3⟩ := (h.new K).did1 k
    exact ⟨er, d, ρ', s', m', rfl, q1, q2, q3⟩
  · obtain ⟨sv, σ, B, hw, rfl⟩ := hp.di
    refine (rFlag_any hw h.iv h.ft h.cl hlog hk).mono ?_
    rintro e w' ⟨er2, d2, rfl, k⟩
    obtain ⟨e1, e2, e3, r⟩ := HP.did2 h.iv h.ft h.cl hd hp k
    subst e1
    subst e2
    exact ⟨rfl, r⟩
theorem tw_mark (h : PP w ρ D wb mb qb rb s m) (hlog : (m.log.length + 1) * 56 ≤ 140737488355328) {o : Oq} (hk : o.kind = 14) :
    (∀ W, Keeps (fun _ => False) w W → Calls Tryz.prog 79 #[.pointer (some ⟨wb, 0, none⟩), .int .i64 o.a, .bool o.v.dead] W fun e w' => ∃ er d ρ' s' m', e = .returned (.tuple #[.bool d, .int .i64 er]) ∧ Do s m o s' m' er d 0 ∧ HP w' ρ' D wb mb qb rb s' m' s m ∧ Lv W w' ρ ρ' D D) ∧
    (∀ W ρ' s' m' (er : Int) (d : Bool), Do s m o s' m' er d 0 → HP W ρ' D wb mb qb rb s' m' s m → Calls Tryz.prog 80 #[.pointer (some ⟨qb, 0, none⟩), .int .i64 o.a, .bool o.v.dead] W fun e w' => e = .returned (.tuple #[.bool d, .int .i64 er]) ∧ ∃ D', PP w' ρ' D' wb mb qb rb s' m' ∧ Lv W w' ρ' ρ' D D') := by
  refine ⟨fun W K => ?_, fun W ρ' s' m' er d hd hp => ?_⟩
  · refine (Mark_any (h.new K).hp.st h.iv hlog hk).mono ?_
    rintro e w' ⟨er, d, rfl, k⟩
    obtain ⟨ρ', s', m', q1, q2, q3⟩ := (h.new K).did1 k
    exact ⟨er, d, ρ', s', m', rfl, q1, q2, q3⟩
  · obtain ⟨sv, σ, B, hw, rfl⟩ := hp.di
    refine (rMark_any hw h.iv h.ft h.cl hlog hk).mono ?_
    rintro e w' ⟨er2, d2, rfl, k⟩
    obtain ⟨e1, e2, e3, r⟩ := HP.did2 h.iv h.ft h.cl hd hp k
    subst e1
    subst e2
    exact ⟨rfl, r⟩
end
end Go.Proofs.YtaikngpgmcpecaaGreat
namespace Go.Proofs.YtaikngpgmcpecaaGreat
open Go.RowKit
section
variable {w w' : World} {ρ ρ' : Nat → Nat} {D D' : Nat → Prop} {pb wb mb qb rb : Nat} {s s' : Ws} {m m' : Mm}
/-- The pair's block. -/
structure PBl (w : World) (ρ : Nat → Nat) (D : Nat → Prop) (pb mb wb rb qb : Nat) : Prop where
  c0 : w.cell? ⟨pb, 0, none⟩ = some (.pointer (some ⟨mb, 0, none⟩))
  c1 : w.cell? ⟨pb, 1, none⟩ = some (.pointer (some ⟨wb, 0, none⟩))
  c2 : w.cell? ⟨pb, 2, none⟩ = some (.pointer (some ⟨rb, 0, none⟩))
  c3 : w.cell? ⟨pb, 3, none⟩ = some (.pointer (some ⟨qb, 0, none⟩))
  z : ρ pb = 0
  d : ¬ D pb
theorem PBl.lv (h : PBl w ρ D pb mb wb rb qb) (l : Lv w w' ρ ρ' D D') : PBl w' ρ' D' pb mb wb rb qb :=
  have q := l.old pb (World.block_lt_of_cell? _ _ h.c0) h.z h.d
  ⟨l.cell h.c0 h.z h.d, l.cell h.c1 h.z h.d, l.cell h.c2 h.z h.d, l.cell h.c3 h.z h.d, q.1, q.2⟩
/-- A step's block. -/
structure OBx (w : World) (ρ : Nat → Nat) (D : Nat → Prop) (b : Nat) (o : Oq) : Prop where
  c0 : w.cell? ⟨b, 0, none⟩ = some (.int .i64 o.kind)
  c1 : w.cell? ⟨b, 1, none⟩ = some (.int .i64 o.a)
  c2 : w.cell? ⟨b, 2, none⟩ = some (.int .i64 o.b)
  c3 : w.cell? ⟨b, 3, none⟩ = some (.int .i64 o.c)
  c4 : w.cell? ⟨b, 4, none⟩ = some (.int .i64 o.v.num)
  c5 : w.cell? ⟨b, 5, none⟩ = some (.int .i64 o.v.next)
  c6 : w.cell? ⟨b, 6, none⟩ = some (.bool o.v.dead)
  c7 : w.cell? ⟨b, 7, none⟩ = some (.bool o.shut)
  z : ρ b = 0
  d : ¬ D b
theorem OBx.lv {b : Nat} {o : Oq} (h : OBx w ρ D b o) (l : Lv w w' ρ ρ' D D') : OBx w' ρ' D' b o :=
  have q := l.old b (World.block_lt_of_cell? _ _ h.c0) h.z h.d
  ⟨l.cell h.c0 h.z h.d, l.cell h.c1 h.z h.d, l.cell h.c2 h.z h.d, l.cell h.c3 h.z h.d, l.cell h.c4 h.z h.d, l.cell h.c5 h.z h.d, l.cell h.c6 h.z h.d, l.cell h.c7 h.z h.d, q.1, q.2⟩
theorem PP.box (h : PP w ρ D wb mb qb rb s m) (o : Oq) {w0 : World} (hw : w0 = w.alloc (.cells #[.int .i64 o.kind, .int .i64 o.a, .int .i64 o.b, .int .i64 o.c, .int .i64 o.v.num, .int .i64 o.v.next, .bool o.v.dead, .bool o.shut] 39)) : OBx w0 ρ D w.heap.size o := by
  refine ⟨by rw [hw]; simp, by rw [hw]; simp, by rw [hw]; simp, by rw [hw]; simp, by rw [hw]; simp, by rw [hw]; simp, by rw [hw]; simp, by rw [hw]; simp, h.hp.st.bnd _ (Nat.le_refl _), fun e => ?_⟩
  have := h.hp.di.lt e
  omega
theorem tw_cell (h : PP w ρ D wb mb qb rb s m) (x : Int) : ∃ (c er : Int) (m' : Mm), lg m' = lg m ∧ m'.log = m.log ∧
    (∀ W, Keeps (fun _ => False) w W → Calls Tryz.prog 71 #[.pointer (some ⟨mb, 0, none⟩), .int .i64 x] W fun e w' => ∃ ρ', e = .returned (.tuple #[.int .i64 c, .int .i64 er]) ∧ HP w' ρ' D wb mb qb rb s m' s m ∧ Lv W w' ρ ρ' D D) ∧
    (∀ W ρ', HP W ρ' D wb mb qb rb s m' s m → Calls Tryz.prog 72 #[.pointer (some ⟨rb, 0, none⟩), .int .i64 x] W fun e w' => e = .returned (.tuple #[.int .i64 c, .int .i64 er]) ∧ ∃ D', PP w' ρ' D' wb mb qb rb s m' ∧ Lv W w' ρ' ρ' D D') := by
  by_cases hl : m.cells.length < 65536
  · refine ⟨m.cells.length, 0, m.make x, rfl, rfl, fun W K => ?_, fun W ρ' hp => ?_⟩
    · refine (smake (h.new K).hp.st x hl).mono ?_
      rintro e w' ⟨rfl, ρ', hs, xx⟩
      obtain ⟨q1, q2⟩ := (h.new K).half hs xx
      exact ⟨ρ', rfl, q1, q2⟩
    · obtain ⟨sv, σ, B, hw, rfl⟩ := hp.di
      refine (rmake_any hw.ri x hl).mono ?_
      rintro e w' ⟨rfl, B', hr, l⟩
      obtain ⟨q1, q2⟩ := hp.done ⟨sv, σ, B', hw.mem hr l, rfl⟩ (DW.left l)
      exact ⟨rfl, _, ⟨q1, h.iv.make x, h.ft.make x, by rw [Mm.len_make]; omega⟩, q2⟩
  · refine ⟨0, 33, m, rfl, rfl, fun W K => ?_, fun W ρ' hp => ?_⟩
    · obtain ⟨F, hm1, _⟩ := (h.new K).hp.st.mj
      refine (make_full hm1 x (by omega)).mono ?_
      rintro e w' ⟨rfl, rfl⟩
      exact ⟨ρ, rfl, (h.new K).hp, Lv.refl _ _ _⟩
    · obtain ⟨sv, σ, B, hw, rfl⟩ := hp.di
      refine (rmake_full hw.ri x (by omega)).mono ?_
      rintro e w' ⟨rfl, rfl⟩
      exact ⟨rfl, _, ⟨hp, h.iv, h.ft, h.cl⟩, Lv.refl _ _ _⟩
end
/-- What a play of both leaves. -/
def PW (w : World) (ρ : Nat → Nat) (D : Nat → Prop) (wb mb qb rb : Nat) (m : Mm) (w' : World) : Prop := ∃ ρ' D' s' m', PP w' ρ' D' wb mb qb rb s' m' ∧ Lv w w' ρ ρ' D D' ∧ lg m' = lg m
section
variable {w : World} {ρ : Nat → Nat} {D : Nat → Prop} {pb wb mb qb rb : Nat} {s : Ws} {m : Mm}
set_option maxHeartbeats 1600000 in
set_option maxRecDepth 1000000 in
theorem makes_any (h : PP w ρ D wb mb qb rb s m) (hp : PBl w ρ D pb mb wb rb qb) (hlog : (m.log.length + 1) * 56 ≤ 140737488355328) (ok oa ob1 oc on ox : Int) (ot os : Bool) : Calls Tryz.prog 30 #[.pointer (some ⟨pb, 0, none⟩), .agg #[.int .i64 ok, .int .i64 oa, .int .i64 ob1, .int .i64 oc, .int .i64 on, .int .i64 ox, .bool ot, .bool os]] w fun e w' => e = .returned (.bool true) ∧ PW w ρ D wb mb qb rb m w' := by
  obtain ⟨w0, hw0⟩ : ∃ x, x = w.alloc (.cells #[.int .i64 ok, .int .i64 oa, .int .i64 ob1, .int .i64 oc, .int .i64 on, .int .i64 ox, .bool ot, .bool os] 39) := ⟨_, rfl⟩
  have k0 : Keeps (fun _ => False) w w0 := by rw [hw0]; exact (Keeps.refl _ w).alloc _
  have h0 := h.new k0
  have hob : OBx w0 ρ D w.heap.size ⟨ok, oa, ob1, oc, ⟨on, ox, ot⟩, os⟩ := h.box ⟨ok, oa, ob1, oc, ⟨on, ox, ot⟩, os⟩ hw0
  have hpb := hp.lv (Lv.new (ρ := ρ) (D := D) k0)
  have HOB : Hid (OBx w0 ρ D w.heap.size ⟨ok, oa, ob1, oc, ⟨on, ox, ot⟩, os⟩) := hob
  have HPB : Hid (PBl w0 ρ D pb mb wb rb qb) := hpb
  have HW0 : Hid (w0 = w.alloc (.cells #[.int .i64 ok, .int .i64 oa, .int .i64 ob1, .int .i64 oc, .int .i64 on, .int .i64 ox, .bool ot, .bool os] 39)) := hw0
  have hnu := fun W x => num_of W x
  have p0 := hpb.c0
  have p1 := hpb.c1
  have p2 := hpb.c2
  have p3 := hpb.c3
  have pz := hpb.z
  have pd := hpb.d
  have o0 := hob.c0
  have o1 := hob.c1
  have o2 := hob.c2
  have o3 := hob.c3
  have o4 := hob.c4
  have o5 := hob.c5
  have o6 := hob.c6
  have o7 := hob.c7
  have oz := hob.z
  have od := hob.d
  clear hw0 hob hpb h hp
  dsimp only at o0 o1 o2 o3 o4 o5 o6 o7
  by_cases h1 : ok = 1
  · subst h1
    have tw := tw_att h0 hlog (o := ⟨1, oa, ob1, oc, ⟨on, ox, ot⟩, os⟩) rfl
    obtain ⟨hp1, hp2⟩ := tw
    dsimp only at hp1 hp2
    have h0c := h0
    clear h0
    go_enter Tryz.func30, Tryz.ntmps30
    refine wp_seq_k (fun KK hKK => ?_)
    have hKH : Hid _ := hKK
    clear hKK
    go_wp2_with fail
    refine hKH.out _ _ ?_
    clear hKH KK
    rw [← HW0.out]
    clear HW0
    go_wp2_with fail
    go_region_held3 (fun w' => w'.cell? ⟨pb, 1, none⟩ = some (.pointer (some ⟨wb, 0, none⟩)) ∧ w'.cell? ⟨w.heap.size, 1, none⟩ = some (.int .i64 oa) ∧ w'.cell? ⟨w.heap.size, 2, none⟩ = some (.int .i64 ob1) ∧ w'.cell? ⟨w.heap.size, 3, none⟩ = some (.int .i64 oc)) (go_keep) ((go_at_call 16; (with_reducible refine (hp1 _ (Keeps.refl _ w0).drew).mono ?_); rintro e w1 ⟨er, n, ρ1, s1, m1, rfl, hd, hh, lv⟩; have qp := lv.cell (p := ⟨pb, 1, none⟩) (v := .pointer (some ⟨wb, 0, none⟩)) (by simpa using p1) pz pd; have qo1 := lv.cell (p := ⟨w.heap.size, 1, none⟩) (v := .int .i64 oa) (by simpa using o1) oz od; have qo2 := lv.cell (p := ⟨w.heap.size, 2, none⟩) (v := .int .i64 ob1) (by simpa using o2) oz od; have qo3 := lv.cell (p := ⟨w.heap.size, 3, none⟩) (v := .int .i64 oc) (by simpa using o3) oz od))
    have lv1 : Lv w0 w1 ρ ρ1 D D := (Lv.new (Keeps.refl _ w0).drew).trans lv
    have pbl1 := HPB.out.lv lv1
    have obx1 := HOB.out.lv lv1
    clear lv p0 p1 p2 p3 pz pd o0 o1 o2 o3 o4 o5 o6 o7 oz od hp1
    have p0 := pbl1.c0
    have p1 := pbl1.c1
    have p2 := pbl1.c2
    have p3 := pbl1.c3
    have pz := pbl1.z
    have pd := pbl1.d
    have o0 := obx1.c0
    have o1 := obx1.c1
    have o2 := obx1.c2
    have o3 := obx1.c3
    have o4 := obx1.c4
    have o5 := obx1.c5
    have o6 := obx1.c6
    have o7 := obx1.c7
    have oz := obx1.z
    have od := obx1.d
    clear pbl1 obx1
    go_wp2_with fail
    go_region_held3 (fun w' => w'.cell? ⟨pb, 3, none⟩ = some (.pointer (some ⟨qb, 0, none⟩)) ∧ w'.cell? ⟨w.heap.size, 1, none⟩ = some (.int .i64 oa) ∧ w'.cell? ⟨w.heap.size, 2, none⟩ = some (.int .i64 ob1) ∧ w'.cell? ⟨w.heap.size, 3, none⟩ = some (.int .i64 oc)) (go_keep) ((go_at_call 68; (with_reducible refine (hp2 _ ρ1 s1 m1 er n hd (hh.new (Keeps.refl _ w1).drew)).mono ?_); rintro e w2 ⟨rfl, D2, hpp, lv⟩; have qp := lv.cell (p := ⟨pb, 3, none⟩) (v := .pointer (some ⟨qb, 0, none⟩)) (by simpa using p3) pz pd; have qo1 := lv.cell (p := ⟨w.heap.size, 1, none⟩) (v := .int .i64 oa) (by simpa using o1) oz od; have qo2 := lv.cell (p := ⟨w.heap.size, 2, none⟩) (v := .int .i64 ob1) (by simpa using o2) oz od; have qo3 := lv.cell (p := ⟨w.heap.size, 3, none⟩) (v := .int .i64 oc) (by simpa using o3) oz od))
    have lv2 : Lv w0 w2 ρ ρ1 D D2 := (lv1.trans (Lv.new (Keeps.refl _ w1).drew)).trans lv
    have HPP : Hid (PP w2 ρ1 D2 wb mb qb rb _ m1) := hpp
    have HLV : Hid (Lv w w2 ρ ρ1 D D2) := (Lv.new k0).trans lv2
    have HLG : Hid (lg m1 = lg m) := hd.lg
    clear lv hpp lv1 lv2 hp2 hh p0 p1 p2 p3 pz pd o0 o1 o2 o3 o4 o5 o6 o7 oz od
    go_wp2_with (go_at_call 15; refine (hnu _ _).mono ?_; rintro e wn ⟨rfl, hwn⟩; rw [← hwn]; clear hwn wn)
    go_ret
    exact ⟨rfl, ρ1, D2, _, m1, HPP.out, HLV.out, HLG.out⟩
  · have n1 : (ok == 1) = false := by simp; omega
    by_cases h3 : ok = 3
    · subst h3
      have tw := tw_mk h0 hlog (o := ⟨3, oa, ob1, oc, ⟨on, ox, ot⟩, os⟩) rfl
      obtain ⟨hp1, hp2⟩ := tw
      dsimp only at hp1 hp2
      have h0c := h0
      clear h0
      go_enter Tryz.func30, Tryz.ntmps30
      refine wp_seq_k (fun KK hKK => ?_)
      have hKH : Hid _ := hKK
      clear hKK
      go_wp2_with fail
      refine hKH.out _ _ ?_
      clear hKH KK
      rw [← HW0.out]
      clear HW0
      go_wp2_with fail
      go_region_held3 (fun w' => w'.cell? ⟨pb, 1, none⟩ = some (.pointer (some ⟨wb, 0, none⟩)) ∧ w'.cell? ⟨w.heap.size, 1, none⟩ = some (.int .i64 oa) ∧ w'.cell? ⟨w.heap.size, 2, none⟩ = some (.int .i64 ob1)) (go_keep) ((go_at_call 17; (with_reducible refine (hp1 _ (Keeps.refl _ w0).drew).mono ?_); rintro e w1 ⟨er, n, ρ1, s1, m1, rfl, hd, hh, lv⟩; have qp := lv.cell (p := ⟨pb, 1, none⟩) (v := .pointer (some ⟨wb, 0, none⟩)) (by simpa using p1) pz pd; have qo1 := lv.cell (p := ⟨w.heap.size, 1, none⟩) (v := .int .i64 oa) (by simpa using o1) oz od; have qo2 := lv.cell (p := ⟨w.heap.size, 2, none⟩) (v := .int .i64 ob1) (by simpa using o2) oz od))
      have lv1 : Lv w0 w1 ρ ρ1 D D := (Lv.new (Keeps.refl _ w0).drew).trans lv
      have pbl1 := HPB.out.lv lv1
      have obx1 := HOB.out.lv lv1
      clear lv p0 p1 p2 p3 pz pd o0 o1 o2 o3 o4 o5 o6 o7 oz od hp1
      have p0 := pbl1.c0
      have p1 := pbl1.c1
      have p2 := pbl1.c2
      have p3 := pbl1.c3
      have pz := pbl1.z
      have pd := pbl1.d
      have o0 := obx1.c0
      have o1 := obx1.c1
      have o2 := obx1.c2
      have o3 := obx1.c3
      have o4 := obx1.c4
      have o5 := obx1.c5
      have o6 := obx1.c6
      have o7 := obx1.c7
      have oz := obx1.z
      have od := obx1.d
      clear pbl1 obx1
      go_wp2_with fail
      go_region_held3 (fun w' => w'.cell? ⟨pb, 3, none⟩ = some (.pointer (some ⟨qb, 0, none⟩)) ∧ w'.cell? ⟨w.heap.size, 1, none⟩ = some (.int .i64 oa) ∧ w'.cell? ⟨w.heap.size, 2, none⟩ = some (.int .i64 ob1)) (go_keep) ((go_at_call 69; (with_reducible refine (hp2 _ ρ1 s1 m1 er n hd (hh.new (Keeps.refl _ w1).drew)).mono ?_); rintro e w2 ⟨rfl, D2, hpp, lv⟩; have qp := lv.cell (p := ⟨pb, 3, none⟩) (v := .pointer (some ⟨qb, 0, none⟩)) (by simpa using p3) pz pd; have qo1 := lv.cell (p := ⟨w.heap.size, 1, none⟩) (v := .int .i64 oa) (by simpa using o1) oz od; have qo2 := lv.cell (p := ⟨w.heap.size, 2, none⟩) (v := .int .i64 ob1) (by simpa using o2) oz od))
      have lv2 : Lv w0 w2 ρ ρ1 D D2 := (lv1.trans (Lv.new (Keeps.refl _ w1).drew)).trans lv
      have HPP : Hid (PP w2 ρ1 D2 wb mb qb rb _ m1) := hpp
      have HLV : Hid (Lv w w2 ρ ρ1 D D2) := (Lv.new k0).trans lv2
      have HLG : Hid (lg m1 = lg m) := hd.lg
      clear lv hpp lv1 lv2 hp2 hh p0 p1 p2 p3 pz pd o0 o1 o2 o3 o4 o5 o6 o7 oz od
      go_wp2_with (go_at_call 15; refine (hnu _ _).mono ?_; rintro e wn ⟨rfl, hwn⟩; rw [← hwn]; clear hwn wn)
      go_ret
      exact ⟨rfl, ρ1, D2, _, m1, HPP.out, HLV.out, HLG.out⟩
    · have n3 : (ok == 3) = false := by simp; omega
      by_cases h6 : ok = 6
      · subst h6
        have tw := tw_put h0 hlog (o := ⟨6, oa, ob1, oc, ⟨on, ox, ot⟩, os⟩) rfl
        obtain ⟨hp1, hp2⟩ := tw
        dsimp only at hp1 hp2
        have h0c := h0
        clear h0
        go_enter Tryz.func30, Tryz.ntmps30
        refine wp_seq_k (fun KK hKK => ?_)
        have hKH : Hid _ := hKK
        clear hKK
        go_wp2_with fail
        refine hKH.out _ _ ?_
        clear hKH KK
        rw [← HW0.out]
        clear HW0
        go_wp2_with fail
        go_region_held3 (fun w' => w'.cell? ⟨pb, 1, none⟩ = some (.pointer (some ⟨wb, 0, none⟩)) ∧ w'.cell? ⟨w.heap.size, 1, none⟩ = some (.int .i64 oa) ∧ w'.cell? ⟨w.heap.size, 4, none⟩ = some (.int .i64 on) ∧ w'.cell? ⟨w.heap.size, 5, none⟩ = some (.int .i64 ox) ∧ w'.cell? ⟨w.heap.size, 6, none⟩ = some (.bool ot)) (go_keep) ((go_at_call 18; (with_reducible refine (hp1 _ (Keeps.refl _ w0).drew).mono ?_); rintro e w1 ⟨er, ρ1, s1, m1, rfl, hd, hh, lv⟩; have qp := lv.cell (p := ⟨pb, 1, none⟩) (v := .pointer (some ⟨wb, 0, none⟩)) (by simpa using p1) pz pd; have qo1 := lv.cell (p := ⟨w.heap.size, 1, none⟩) (v := .int .i64 oa) (by simpa using o1) oz od; have qo4 := lv.cell (p := ⟨w.heap.size, 4, none⟩) (v := .int .i64 on) (by simpa using o4) oz od; have qo5 := lv.cell (p := ⟨w.heap.size, 5, none⟩) (v := .int .i64 ox) (by simpa using o5) oz od; have qo6 := lv.cell (p := ⟨w.heap.size, 6, none⟩) (v := .bool ot) (by simpa using o6) oz od))
        have lv1 : Lv w0 w1 ρ ρ1 D D := (Lv.new (Keeps.refl _ w0).drew).trans lv
        have pbl1 := HPB.out.lv lv1
        have obx1 := HOB.out.lv lv1
        clear lv p0 p1 p2 p3 pz pd o0 o1 o2 o3 o4 o5 o6 o7 oz od hp1
        have p0 := pbl1.c0
        have p1 := pbl1.c1
        have p2 := pbl1.c2
        have p3 := pbl1.c3
        have pz := pbl1.z
        have pd := pbl1.d
        have o0 := obx1.c0
        have o1 := obx1.c1
        have o2 := obx1.c2
        have o3 := obx1.c3
        have o4 := obx1.c4
        have o5 := obx1.c5
        have o6 := obx1.c6
        have o7 := obx1.c7
        have oz := obx1.z
        have od := obx1.d
        clear pbl1 obx1
        go_wp2_with fail
        go_region_held3 (fun w' => w'.cell? ⟨pb, 3, none⟩ = some (.pointer (some ⟨qb, 0, none⟩)) ∧ w'.cell? ⟨w.heap.size, 1, none⟩ = some (.int .i64 oa) ∧ w'.cell? ⟨w.heap.size, 4, none⟩ = some (.int .i64 on) ∧ w'.cell? ⟨w.heap.size, 5, none⟩ = some (.int .i64 ox) ∧ w'.cell? ⟨w.heap.size, 6, none⟩ = some (.bool ot)) (go_keep) ((go_at_call 70; (with_reducible refine (hp2 _ ρ1 s1 m1 er hd (hh.new (Keeps.refl _ w1).drew)).mono ?_); rintro e w2 ⟨rfl, D2, hpp, lv⟩; have qp := lv.cell (p := ⟨pb, 3, none⟩) (v := .pointer (some ⟨qb, 0, none⟩)) (by simpa using p3) pz pd; have qo1 := lv.cell (p := ⟨w.heap.size, 1, none⟩) (v := .int .i64 oa) (by simpa using o1) oz od; have qo4 := lv.cell (p := ⟨w.heap.size, 4, none⟩) (v := .int .i64 on) (by simpa using o4) oz od; have qo5 := lv.cell (p := ⟨w.heap.size, 5, none⟩) (v := .int .i64 ox) (by simpa using o5) oz od; have qo6 := lv.cell (p := ⟨w.heap.size, 6, none⟩) (v := .bool ot) (by simpa using o6) oz od))
        have lv2 : Lv w0 w2 ρ ρ1 D D2 := (lv1.trans (Lv.new (Keeps.refl _ w1).drew)).trans lv
        have HPP : Hid (PP w2 ρ1 D2 wb mb qb rb _ m1) := hpp
        have HLV : Hid (Lv w w2 ρ ρ1 D D2) := (Lv.new k0).trans lv2
        have HLG : Hid (lg m1 = lg m) := hd.lg
        clear lv hpp lv1 lv2 hp2 hh p0 p1 p2 p3 pz pd o0 o1 o2 o3 o4 o5 o6 o7 oz od
        go_wp2_with (go_at_call 15; refine (hnu _ _).mono ?_; rintro e wn ⟨rfl, hwn⟩; rw [← hwn]; clear hwn wn)
        go_ret
        exact ⟨rfl, ρ1, D2, _, m1, HPP.out, HLV.out, HLG.out⟩
      · have n6 : (ok == 6) = false := by simp; omega
        clear h1 h3 h6
        obtain ⟨cv, er, m1, hlg, hml, hp1, hp2⟩ := tw_cell h0 oa
        have h0c := h0
        clear h0
        go_enter Tryz.func30, Tryz.ntmps30
        refine wp_seq_k (fun KK hKK => ?_)
        have hKH : Hid _ := hKK
        clear hKK
        go_wp2_with fail
        refine hKH.out _ _ ?_
        clear hKH KK
        rw [← HW0.out]
        clear HW0
        go_wp2_with fail
        go_region_held3 (fun w' => w'.cell? ⟨pb, 0, none⟩ = some (.pointer (some ⟨mb, 0, none⟩)) ∧ w'.cell? ⟨w.heap.size, 1, none⟩ = some (.int .i64 oa)) (go_keep) ((go_at_call 71; (with_reducible refine (hp1 _ (Keeps.refl _ w0).drew).mono ?_); rintro e w1 ⟨ρ1, rfl, hh, lv⟩; have qp := lv.cell (p := ⟨pb, 0, none⟩) (v := .pointer (some ⟨mb, 0, none⟩)) (by simpa using p0) pz pd; have qo1 := lv.cell (p := ⟨w.heap.size, 1, none⟩) (v := .int .i64 oa) (by simpa using o1) oz od))
        have lv1 : Lv w0 w1 ρ ρ1 D D := (Lv.new (Keeps.refl _ w0).drew).trans lv
        have pbl1 := HPB.out.lv lv1
        have obx1 := HOB.out.lv lv1
        clear lv p0 p1 p2 p3 pz pd o0 o1 o2 o3 o4 o5 o6 o7 oz od hp1
        have p0 := pbl1.c0
        have p1 := pbl1.c1
        have p2 := pbl1.c2
        have p3 := pbl1.c3
        have pz := pbl1.z
        have pd := pbl1.d
        have o0 := obx1.c0
        have o1 := obx1.c1
        have o2 := obx1.c2
        have o3 := obx1.c3
        have o4 := obx1.c4
        have o5 := obx1.c5
        have o6 := obx1.c6
        have o7 := obx1.c7
        have oz := obx1.z
        have od := obx1.d
        clear pbl1 obx1
        go_wp2_with fail
        go_region_held3 (fun w' => w'.cell? ⟨pb, 2, none⟩ = some (.pointer (some ⟨rb, 0, none⟩)) ∧ w'.cell? ⟨w.heap.size, 1, none⟩ = some (.int .i64 oa)) (go_keep) ((go_at_call 72; (with_reducible refine (hp2 _ ρ1 (hh.new (Keeps.refl _ w1).drew)).mono ?_); rintro e w2 ⟨rfl, D2, hpp, lv⟩; have qp := lv.cell (p := ⟨pb, 2, none⟩) (v := .pointer (some ⟨rb, 0, none⟩)) (by simpa using p2) pz pd; have qo1 := lv.cell (p := ⟨w.heap.size, 1, none⟩) (v := .int .i64 oa) (by simpa using o1) oz od))
        have lv2 : Lv w0 w2 ρ ρ1 D D2 := (lv1.trans (Lv.new (Keeps.refl _ w1).drew)).trans lv
        have HPP : Hid (PP w2 ρ1 D2 wb mb qb rb _ m1) := hpp
        have HLV : Hid (Lv w w2 ρ ρ1 D D2) := (Lv.new k0).trans lv2
        have HLG : Hid (lg m1 = lg m) := hlg
        clear lv hpp lv1 lv2 hp2 hh p0 p1 p2 p3 pz pd o0 o1 o2 o3 o4 o5 o6 o7 oz od
        go_wp2_with (go_at_call 15; refine (hnu _ _).mono ?_; rintro e wn ⟨rfl, hwn⟩; rw [← hwn]; clear hwn wn)
        go_ret
        exact ⟨rfl, ρ1, D2, _, m1, HPP.out, HLV.out, HLG.out⟩
end
end Go.Proofs.YtaikngpgmcpecaaGreat
