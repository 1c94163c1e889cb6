/- Contracts of package avl over the loaded program: balanced, all cases; parted, joined. -/
import Derived.Test.YtaackkfegkmpkaaE5
namespace Go.Proofs.Ytaackkfegkmpkaa
open Go.RowKit
attribute [local go_sem] Gr.size Gr.cell? Gr.frozen? Gr.setCell Gr.drew Gr.drewN Gr.of_drew Gr.of_drewN Gr.gr Gr.lt_of1 Gr.le_of1 Gr.lt_of2 Gr.le_of2 Gr.lt_of3 Gr.le_of3 Gr.lt_of4 Gr.le_of4 Gr.lt_of5 Gr.le_of5 Gr.lt_of6 Gr.le_of6 Gr.lt_of7 Gr.le_of7 Gr.lt_of8 Gr.le_of8 Gr.lt_of9 Gr.le_of9 Gr.lt_of10 Gr.le_of10 Gr.lt_of11 Gr.le_of11 Gr.lt_of12 Gr.le_of12 Gr.lt_of13 Gr.le_of13 Gr.lt_of14 Gr.le_of14 Gr.lt_of15 Gr.le_of15 Gr.lt_of16 Gr.le_of16 Gr.lt_of17 Gr.le_of17 Gr.lt_of18 Gr.le_of18 Gr.lt_of19 Gr.le_of19 Gr.lt_of20 Gr.le_of20 Gr.lt_of21 Gr.le_of21 Gr.lt_of22 Gr.le_of22 Gr.lt_of23 Gr.le_of23 Gr.lt_of24 Gr.le_of24
theorem mem_nd {a b : Nat} {v : Int} {l r : AT} : a ∈ (AT.nd b v l r).ids ↔ a = b ∨ a ∈ l.ids ∨ a ∈ r.ids := by
  rw [ids_nd]; simp only [List.mem_append, List.mem_cons]; constructor <;> (rintro (h | h | h) <;> simp [h])
theorem balanced_any (b : Nat) (v d : Int) (l r : AT) (w : World) (h : Nd w b v l.ptr r.ptr d) (hl : InT w l) (hr : InT w r) (kl : l.ht ≤ 700) (kr : r.ht ≤ 700) (hnd : (AT.nd b v l r).ids.Nodup) :
    Calls Try.prog 46 #[.pointer (some ⟨b, 0, none⟩)] w fun e w' => e = .returned (.pointer (bal b v l r).ptr) ∧ InT w' (bal b v l r) ∧ Wr (AT.nd b v l r).ids w w' := by
  obtain ⟨n1, n2, n3, n4, n5⟩ := nodup_nd hnd
  by_cases g1 : r.ht + 2 ≤ l.ht
  · cases l with
    | nil => simp only [AT.ht] at g1; omega
    | nd c x p q =>
      have eb : bal b v (.nd c x p q) r = upA b v (setA (.nd c x p q)) r := by unfold bal; rw [if_pos g1]
      obtain ⟨n6, n7, n8, n9, n10⟩ := nodup_nd n3
      simp only [mem_nd] at n1 n5
      by_cases g2 : p.ht < q.ht
      · cases q with
        | nil => simp only [AT.ht] at g2; omega
        | nd dd y s t =>
          obtain ⟨m6, m7, m8, m9, m10⟩ := nodup_nd n9
          simp only [mem_nd] at n1 n5 n7 n10
          have e1 : bal b v (.nd c x p (.nd dd y s t)) r = .nd dd y (.nd c x p s) (.nd b v t r) := by rw [eb, setA_nd, if_pos g2]; rfl
          rw [e1]
          simp only [AT.ht] at kl
          refine (balanced_rot0 b c dd v x y d p s t r w h hl.1 hl.2.1 hl.2.2.1 hl.2.2.2.1 hl.2.2.2.2 hr (by omega) (by omega) (by omega) (by omega) (by grind) (by grind) (by grind) (by grind) (by grind) (by grind) g1 g2).mono ?_
          rintro e w' ⟨h1, h2, h3⟩
          exact ⟨h1, h2, h3.mono fun a ha => by simp only [mem_nd]; simp at ha; rcases ha with rfl | rfl | rfl <;> simp⟩
      · have e1 : bal b v (.nd c x p q) r = .nd c x p (.nd b v q r) := by rw [eb, setA_nd, if_neg g2]; rfl
        rw [e1]
        simp only [AT.ht] at kl
        refine (balanced_top0 b c v x d p q r w h hl.1 hl.2.1 hl.2.2 hr (by omega) (by omega) (by omega) (by grind) (by grind) (by grind) g1 (by omega)).mono ?_
        rintro e w' ⟨h1, h2, h3⟩
        exact ⟨h1, h2, h3.mono fun a ha => by simp only [mem_nd]; simp at ha; rcases ha with rfl | rfl <;> simp⟩
  · by_cases g3 : l.ht + 2 ≤ r.ht
    · cases r with
      | nil => simp only [AT.ht] at g3; omega
      | nd c x q p =>
        have eb : bal b v l (.nd c x q p) = upB b v l (setB (.nd c x q p)) := by unfold bal; rw [if_neg g1, if_pos g3]
        obtain ⟨n6, n7, n8, n9, n10⟩ := nodup_nd n4
        simp only [mem_nd] at n2 n5
        by_cases g2 : p.ht < q.ht
        · cases q with
          | nil => simp only [AT.ht] at g2; omega
          | nd dd y t s =>
            obtain ⟨m6, m7, m8, m9, m10⟩ := nodup_nd n8
            simp only [mem_nd] at n2 n5 n6 n10
            have e1 : bal b v l (.nd c x (.nd dd y t s) p) = .nd dd y (.nd b v l t) (.nd c x s p) := by rw [eb, setB_nd, if_pos g2]; rfl
            rw [e1]
            simp only [AT.ht] at kr
            refine (balanced_rot1 b c dd v x y d p s t l w h hr.1 hr.2.2 hr.2.1.1 hr.2.1.2.2 hr.2.1.2.1 hl (by omega) (by omega) (by omega) (by omega) (by grind) (by grind) (by grind) (by grind) (by grind) (by grind) g3 g2).mono ?_
            rintro e w' ⟨h1, h2, h3⟩
            exact ⟨h1, h2, h3.mono fun a ha => by simp only [mem_nd]; simp at ha; rcases ha with rfl | rfl | rfl <;> simp⟩
        · have e1 : bal b v l (.nd c x q p) = .nd c x (.nd b v l q) p := by rw [eb, setB_nd, if_neg g2]; rfl
          rw [e1]
          simp only [AT.ht] at kr
          refine (balanced_top1 b c v x d p q l w h hr.1 hr.2.2 hr.2.1 hl (by omega) (by omega) (by omega) (by grind) (by grind) (by grind) g3 (by omega)).mono ?_
          rintro e w' ⟨h1, h2, h3⟩
          exact ⟨h1, h2, h3.mono fun a ha => by simp only [mem_nd]; simp at ha; rcases ha with rfl | rfl <;> simp⟩
    · have e1 : bal b v l r = .nd b v l r := by unfold bal; rw [if_neg g1, if_neg g3]
      rw [e1]
      refine (balanced_flat b v d l r w h hl hr (by omega) (by omega) n1 n2 (by omega) (by omega)).mono ?_
      rintro e w' ⟨h1, h2, h3⟩
      exact ⟨h1, h2, h3.mono fun a ha => by simp only [mem_nd]; simp at ha; simp [ha]⟩
end Go.Proofs.Ytaackkfegkmpkaa
