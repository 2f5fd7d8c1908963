import Derived.Test.YtepolcnplchfbaaApB
namespace Go.Proofs.Ytepolcnplchfbaa
open Go.RowKit

theorem own_lo {W : World} {base e z n : Nat} {v : Value} {xs : List Value} (h : W.ownsRow base e z v n xs) {g : Nat} (hg : v.ownBlock = some g) : base ≤ g := by
  rcases h.2 with ⟨h', _⟩ | ⟨g', c, cur, h', hb, _⟩
  · rw [h'] at hg; cases hg
  · rw [h'] at hg; cases hg; exact hb
theorem own_some {W : World} {base e z n : Nat} {v : Value} {xs : List Value} (h : W.ownsRow base e z v n xs) (h0 : 0 < n) : ∃ g c, v = .slice (some ⟨g, 0, none⟩) n c := by
  rcases h.2 with ⟨h', h1⟩ | ⟨g', c, cur, h', hb, _⟩
  · omega
  · exact ⟨g', c, h'⟩
theorem own_cell {W : World} {base e g n c : Nat} {xs : List Value} (h : W.ownsRow base e 1 (.slice (some ⟨g, 0, none⟩) n c) n xs) (j : Nat) (u : Value) (hu : xs[j]? = some u) : W.cell? ⟨g, j, none⟩ = some u := by
  have h1 := h.cells rfl j u hu
  by_cases hj : j = 0
  · subst hj; simpa [Addr.add] using h1
  · simpa [Addr.add, hj] using h1
/-- The round's two lists are kept, and their marks. -/
theorem AS.fin {w w7 w6 wr w8 w9 w10 w11 w12 : World} {vk vm vk' vm' v8 v10 v11 : Value} {ents : List En} {mb : Nat} {s : Mm} {al : Option Addr} {cl n : Nat} {M M2 : List Rw} {u8 : Value} (hu8 : u8 = .slice al M.length cl) (hn2 : n + 2 = M2.length) (hn : n = M.length) (hnm : n ≤ 900)
    (h : AS w w7 vk vm ents mb s) (K46 : Keeps (fun _ => False) w7 w6) (kI : Keeps (fun g => u8.ownBlock = some g) w6 wr) (hgl : ∀ g, al = some ⟨g, 0, none⟩ → w7.heap.size ≤ g)
    (hO8 : w8.ownsRow w7.heap.size 56 7 u8 n (fl rcells M)) (hm8 : w8.ownsRow w7.heap.size 56 7 v8 (n + 2) (fl rcells M2)) (k8 : Keeps (fun g => u8.ownBlock = some g) wr w8)
    (h9 : w9.ownsRow 0 49 1 vk' (ents.length + 2) (ents.map En.k ++ [u8, v8])) (k9 : Keeps (fun g => vk.ownBlock = some g) w8 w9) (n9 : ∀ g, vk'.ownBlock = some g → vk.ownBlock = some g ∨ w8.heap.size < g)
    (h10 : w10.ownsRow w9.heap.size 56 7 v10 n (fl rcells M)) (k10 : Keeps (fun _ => False) w9 w10) (h11 : w11.ownsRow w10.heap.size 56 7 v11 (n + 2) (fl rcells M2)) (k11 : Keeps (fun _ => False) w10 w11)
    (h12 : w12.ownsRow 0 49 1 vm' (ents.length + 2) (ents.map En.m ++ [v10, v11])) (k12 : Keeps (fun g => vm.ownBlock = some g) w11 w12) (n12 : ∀ g, vm'.ownBlock = some g → vm.ownBlock = some g ∨ w11.heap.size < g) :
    (∃ x y, AS w w12 vk' vm' (ents ++ [x, y]) mb s) ∧ Keeps (fun g => u8.ownBlock = some g ∨ vk.ownBlock = some g ∨ vm.ownBlock = some g) w6 w12 := by
  have s6 := K46.size
  have sI := kI.size
  have s8 := k8.size
  have s9 := k9.size
  have s10 := k10.size
  have s11 := k11.size
  have s12 := k12.size
  have hvk : ∀ g, vk.ownBlock = some g → g < w7.heap.size := fun g e => h.ltE (.inl e)
  have hvm : ∀ g, vm.ownBlock = some g → g < w7.heap.size := fun g e => h.ltE (.inr (.inl e))
  have hul : ∀ g, u8.ownBlock = some g → w7.heap.size ≤ g ∧ g < w8.heap.size := fun g e => by
    refine ⟨?_, owns_lt' hO8 g e⟩
    rcases hO8.2 with ⟨h', _⟩ | ⟨g', c, cur, h', hb, _⟩
    · rw [h'] at e; cases e
    · rw [h'] at e; cases e; exact hb
  obtain ⟨a8, c8, e8, r8, b8⟩ := own_at hm8 hn2.symm
  obtain ⟨a10, c10, e10, r10, b10⟩ := own_at h10 hn.symm
  obtain ⟨a11, c11, e11, r11, b11⟩ := own_at h11 hn2.symm
  obtain ⟨al', cl', el, rl, bl⟩ := own_at hO8 hn.symm
  have l8 : ∀ g, a8 = some ⟨g, 0, none⟩ → w7.heap.size ≤ g ∧ g < w8.heap.size := fun g e => ⟨(b8 g e).2, owns_lt' hm8 g (b8 g e).1⟩
  have l10 : ∀ g, a10 = some ⟨g, 0, none⟩ → w9.heap.size ≤ g ∧ g < w10.heap.size := fun g e => ⟨(b10 g e).2, owns_lt' h10 g (b10 g e).1⟩
  have l11 : ∀ g, a11 = some ⟨g, 0, none⟩ → w10.heap.size ≤ g ∧ g < w11.heap.size := fun g e => ⟨(b11 g e).2, owns_lt' h11 g (b11 g e).1⟩
  have ll : ∀ g, al = some ⟨g, 0, none⟩ → w7.heap.size ≤ g ∧ g < w8.heap.size := fun g e => hul g (by rw [hu8, e]; rfl)
  have nk : ∀ g, vk'.ownBlock = some g → g < w9.heap.size := fun g e => owns_lt' h9 g e
  have K912 : Keeps (fun g => vm.ownBlock = some g) w9 w12 := (k10.trans k11).trans' k12 (fun _ _ e => e.elim) (fun _ _ e => e)
  have K812 : Keeps (fun g => vk.ownBlock = some g ∨ vm.ownBlock = some g) w8 w12 := k9.trans' K912 (fun _ _ e => .inl e) (fun _ _ e => .inr e)
  have K612 : Keeps (fun g => u8.ownBlock = some g ∨ vk.ownBlock = some g ∨ vm.ownBlock = some g) w6 w12 := (kI.trans' k8 (U := fun g => u8.ownBlock = some g) (fun _ _ e => e) (fun _ _ e => e)).trans' K812 (fun _ _ e => .inl e) (fun _ _ e => .inr e)
  have K712 : Keeps (fun g => vk.ownBlock = some g ∨ vm.ownBlock = some g) w7 w12 := K46.trans' K612 (fun _ _ e => e.elim) (fun i hi e => by
    rcases e with e | e
    · have := hul i e; omega
    · exact e)
  refine ⟨?_, K612⟩
  have hvv : ∀ g, vk'.ownBlock = some g → ¬ vm.ownBlock = some g := fun g e e' => by
    rcases n9 g e with x | x
    · exact h.e2 g x e'
    · have := hvm g e'; omega
  let x : En := ⟨al, cl, a10, c10, M⟩
  let y : En := ⟨a8, c8, a11, c11, M2⟩
  have xk : x.k = u8 := hu8.symm
  have yk : y.k = v8 := by rw [e8, hn2]; rfl
  have xm : x.m = v10 := by rw [e10, hn]; rfl
  have ym : y.m = v11 := by rw [e11, hn2]; rfl
  have hal : al' = al := by rw [hu8] at el; cases el; rfl
  subst hal
  refine ⟨x, y, h.grow (x := x) (y := y) K712 (by rw [xk, yk]; exact K912.owns h9 (fun g e => hvv g e)) (by rw [xm, ym]; exact h12) ⟨rl.keeps K812 (fun g e => ?_), (r10.keeps k11 (fun _ _ e => e)).keeps k12 (fun g e => ?_)⟩ ⟨r8.keeps K812 (fun g e => ?_), r11.keeps k12 (fun g e => ?_)⟩ (show M.length ≤ 1000 by omega) (show M2.length ≤ 1000 by omega) (fun g e => ?_) (fun g e => ?_) (fun g hg => ?_) (fun g e e' => ?_)⟩
  · have := ll g e
    rintro (e | e)
    · have := hvk g e; omega
    · have := hvm g e; omega
  · intro e'
    have := l10 g e
    have := hvm g e'
    omega
  · have := l8 g e
    rintro (e | e)
    · have := hvk g e; omega
    · have := hvm g e; omega
  · intro e'
    have := l11 g e
    have := hvm g e'
    omega
  · rcases n9 g e with x | x
    · exact .inl x
    · exact .inr (by omega)
  · rcases n12 g e with x | x
    · exact .inl x
    · exact .inr (by omega)
  · have hin : (w7.heap.size ≤ g ∧ g < w8.heap.size) ∨ (w9.heap.size ≤ g ∧ g < w11.heap.size) := by
      obtain ⟨j, e, he, hg⟩ := hg
      match j, he with
      | 0, he =>
        simp at he; subst he
        rcases hg with e | e
        · exact .inl (ll g e)
        · have := l10 g e; exact .inr (by omega)
      | 1, he =>
        simp at he; subst he
        rcases hg with e | e
        · exact .inl (l8 g e)
        · have := l11 g e; exact .inr (by omega)
      | j + 2, he => simp at he
    refine ⟨by omega, fun e => ?_, fun e => ?_⟩
    · have := nk g e
      rcases n9 g e with x | x
      · have := hvk g x; omega
      · omega
    · rcases n12 g e with x | x
      · have := hvm g x; omega
      · omega
  · rcases n12 g e' with x | x
    · exact hvv g e x
    · have := nk g e; omega
end Go.Proofs.Ytepolcnplchfbaa
