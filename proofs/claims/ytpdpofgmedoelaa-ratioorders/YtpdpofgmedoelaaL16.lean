/- gromalaw02.RatioOrders: for every two fractions the law answers true. -/
import Derived.Test.YtpdpofgmedoelaaT4
import Derived.Test.YtpdpofgmedoelaaT5
import Derived.Test.YtpdpofgmedoelaaT6
import Derived.Test.YtpdpofgmedoelaaT7
import Derived.Test.YtpdpofgmedoelaaL5
import Derived.Test.YtpdpofgmedoelaaG3
import Derived.Test.YtpdpofgmedoelaaH1
namespace Go.Proofs.Ytpdpofgmedoelaa
open Go.RowKit Go.Shelf
attribute [local go_sem] Gr.size Gr.cell? Gr.frozen? Gr.setCell Gr.drew Gr.drewN Gr.of_drew Gr.of_drewN Gr.gr Gr.lt_of1 Gr.le_of1 Gr.lt_of2 Gr.le_of2 Gr.lt_of3 Gr.le_of3 Gr.lt_of4 Gr.le_of4 Gr.lt_of5 Gr.le_of5 Gr.lt_of6 Gr.le_of6 Gr.lt_of7 Gr.le_of7 Gr.lt_of8 Gr.le_of8 Gr.lt_of9 Gr.le_of9 Gr.lt_of10 Gr.le_of10 Gr.lt_of11 Gr.le_of11 Gr.lt_of12 Gr.le_of12 Gr.lt_of13 Gr.le_of13 Gr.lt_of14 Gr.le_of14 Gr.lt_of15 Gr.le_of15 Gr.lt_of16 Gr.le_of16 Gr.lt_of17 Gr.le_of17 Gr.lt_of18 Gr.le_of18 Gr.lt_of19 Gr.le_of19 Gr.lt_of20 Gr.le_of20 Gr.lt_of21 Gr.le_of21 Gr.lt_of22 Gr.le_of22 Gr.lt_of23 Gr.le_of23 Gr.lt_of24 Gr.le_of24


set_option maxRecDepth 20000 in set_option maxHeartbeats 16000000 in
theorem law_rorders (n0 n1 n2 n3 n d0 d1 d2 d3 d q0 q1 q2 q3 q c0 c1 c2 c3 c : Int) (hn : IsI n0 n1 n2 n3 n) (hd : IsI d0 d1 d2 d3 d) (hm : IsI q0 q1 q2 q3 q) (hc : IsI c0 c1 c2 c3 c) (w : World) :
    Calls Try.prog 5 #[.agg #[.int .u64 n0, .int .u64 n1, .int .u64 n2, .int .u64 n3, .int .u64 d0, .int .u64 d1, .int .u64 d2, .int .u64 d3], .agg #[.int .u64 q0, .int .u64 q1, .int .u64 q2, .int .u64 q3, .int .u64 c0, .int .u64 c1, .int .u64 c2, .int .u64 c3]] w fun e w' => e = .returned (.bool true) ∧ IsGr w w' := by
  have CA := fun w => awake2_any w
  have CC := fun w => RCmp_any n0 n1 n2 n3 n d0 d1 d2 d3 d q0 q1 q2 q3 q c0 c1 c2 c3 c hn hd hm hc w
  have R2 := fun w => right_any n0 n1 n2 n3 d0 d1 d2 d3 d hd w
  have Q2 := fun w => right_any q0 q1 q2 q3 c0 c1 c2 c3 c hc w
  have XA := fun w => ref_any n0 n1 n2 n3 n d0 d1 d2 d3 d hn hd w
  have XB := fun w => ref_any q0 q1 q2 q3 q c0 c1 c2 c3 c hm hc w
  have sn : Sm n := by have := hn.2; unfold Sm; omega
  have sd : Sm d := by have := hd.2; unfold Sm; omega
  have sm : Sm q := by have := hm.2; unfold Sm; omega
  have sc : Sm c := by have := hc.2; unfold Sm; omega
  have s1 : Sm (n * c) := prod_sm hn.2 hc.2
  have s2 : Sm (q * d) := prod_sm hm.2 hd.2
  have R1 := fun w => Right_any n0 n1 n2 n3 d0 d1 d2 d3 d hd w
  have SG := fun w => RSign_any n0 n1 n2 n3 n d0 d1 d2 d3 d hn hd w
  have RN := fun w => Read_any hn.1 hn.2.1 hn.2.2 w
  have BS := fun w1 v (h : IsBig w1 v n) => BigSign_any v n w1 h sn
  clear hn hd hm hc
  go_enter Try.func5, Try.ntmps5
  go_upto_region 1 with fail
  go_cut [37] (fun t37 wr => t37 = .bool false ∧ w.heap.size + 1 < wr.heap.size ∧ (wr.cell? ⟨w.heap.size, 0, none⟩ = some (.int .u64 n0) ∧ wr.cell? ⟨w.heap.size, 1, none⟩ = some (.int .u64 n1) ∧ wr.cell? ⟨w.heap.size, 2, none⟩ = some (.int .u64 n2) ∧ wr.cell? ⟨w.heap.size, 3, none⟩ = some (.int .u64 n3) ∧ wr.cell? ⟨w.heap.size, 4, none⟩ = some (.int .u64 d0) ∧ wr.cell? ⟨w.heap.size, 5, none⟩ = some (.int .u64 d1) ∧ wr.cell? ⟨w.heap.size, 6, none⟩ = some (.int .u64 d2) ∧ wr.cell? ⟨w.heap.size, 7, none⟩ = some (.int .u64 d3)) ∧ (wr.cell? ⟨w.heap.size + 1, 0, none⟩ = some (.int .u64 q0) ∧ wr.cell? ⟨w.heap.size + 1, 1, none⟩ = some (.int .u64 q1) ∧ wr.cell? ⟨w.heap.size + 1, 2, none⟩ = some (.int .u64 q2) ∧ wr.cell? ⟨w.heap.size + 1, 3, none⟩ = some (.int .u64 q3) ∧ wr.cell? ⟨w.heap.size + 1, 4, none⟩ = some (.int .u64 c0) ∧ wr.cell? ⟨w.heap.size + 1, 5, none⟩ = some (.int .u64 c1) ∧ wr.cell? ⟨w.heap.size + 1, 6, none⟩ = some (.int .u64 c2) ∧ wr.cell? ⟨w.heap.size + 1, 7, none⟩ = some (.int .u64 c3)) ∧ IsGr w wr)
  case first =>
    by_cases h : 0 < d
    · rw [show decide (0 < d) = true by simp [h]] at R1 R2
      rw [if_pos h] at SG
      generalize cmpI n 0 = K at SG BS
      clear h XA XB CC CA Q2
      refine wp_region_held_drew (S := (fun w' => w'.cell? ⟨w.heap.size, 0, none⟩ = some (.int .u64 n0) ∧ w'.cell? ⟨w.heap.size, 1, none⟩ = some (.int .u64 n1) ∧ w'.cell? ⟨w.heap.size, 2, none⟩ = some (.int .u64 n2) ∧ w'.cell? ⟨w.heap.size, 3, none⟩ = some (.int .u64 n3) ∧ w'.cell? ⟨w.heap.size, 4, none⟩ = some (.int .u64 d0) ∧ w'.cell? ⟨w.heap.size, 5, none⟩ = some (.int .u64 d1) ∧ w'.cell? ⟨w.heap.size, 6, none⟩ = some (.int .u64 d2) ∧ w'.cell? ⟨w.heap.size, 7, none⟩ = some (.int .u64 d3))) (by kernel_rfl) (by (try dsimp only); simp [go_sem]) (fun hHeld => ?_)
      refine wpAnyH_take (i := 0) (oi := { dst := some 10, op := Op.load 43 (Operand.tmp 2), type := 43, pos := "law.go:43", after := #[], guard := none }) (v := ?_) rfl (by kernel_rfl) (by kernel_rfl) (by kernel_rfl) (fun _ _ _ h => h) (Or.inl ⟨by rfl, ?_⟩) (by assumption) ?_
      rotate_left
      · (intro w hSw; (try dsimp only at hSw); go_simp <;> with_reducible rfl)
      (try simp only [Act.put, List.setIfInBounds_toArray, List.set_cons_zero, List.set_cons_succ])
      refine wpAnyH_take (i := 2) (oi := { dst := some 12, op := Op.load 43 (Operand.tmp 2), type := 43, pos := "law.go:43", after := #[], guard := none }) (v := ?_) rfl (by kernel_rfl) (by kernel_rfl) (by kernel_rfl) (fun _ _ _ h => h) (Or.inl ⟨by rfl, ?_⟩) (by assumption) ?_
      rotate_left
      · (intro w hSw; (try dsimp only at hSw); go_simp <;> with_reducible rfl)
      (try simp only [Act.put, List.setIfInBounds_toArray, List.set_cons_zero, List.set_cons_succ])
      refine wpAnyH_ready (rs := [1]) (by kernel_rfl) (by simp) ?_
      refine AllReadyH.cons (o := { dst := some 11, op := Op.call { callee := Callee.value (Operand.func 31), args := #[Operand.tmp 10], argTypes := #[43] }, type := 4, pos := "law.go:43", after := #[{ on := 0, ground := Ground.data }], guard := none }) rfl (fun K hK => ?_) ?_
      · go_simp
        refine (R1 _).mono ?_
        rintro e w1 ⟨rfl, os1, m1, rfl⟩
        (try go_wp2_with fail)
        refine hK.out _ _ (by (try dsimp only); simp [go_sem]) (fun hHeld2 => ?_)
        clear hK K hHeld
        have hHeld := hHeld2
        clear hHeld2
        (try simp only [Act.put, List.setIfInBounds_toArray, List.set_cons_zero, List.set_cons_succ])
        refine wpAnyH_ready (rs := [3]) (by kernel_rfl) (by simp) ?_
        refine AllReadyH.cons (o := { dst := some 13, op := Op.call { callee := Callee.value (Operand.func 34), args := #[Operand.tmp 12], argTypes := #[43] }, type := 4, pos := "law.go:43", after := #[{ on := 2, ground := Ground.data }, { on := 1, ground := Ground.chain }], guard := none }) rfl (fun K hK => ?_) ?_
        · go_simp
          refine (R2 _).mono ?_
          rintro e w1 ⟨rfl, os2, m2, rfl⟩
          (try go_wp2_with fail)
          refine hK.out _ _ (by (try dsimp only); simp [go_sem]) (fun hHeld2 => ?_)
          clear hK K hHeld
          have hHeld := hHeld2
          clear hHeld2
          (try simp only [Act.put, List.setIfInBounds_toArray, List.set_cons_zero, List.set_cons_succ])
          refine wpAnyH_take (i := 4) (oi := { dst := some 14, op := Op.binOp BinOp.neq 4 (Operand.tmp 11) (Operand.tmp 13) 4, type := 4, pos := "law.go:43", after := #[{ on := 1, ground := Ground.data }, { on := 3, ground := Ground.data }], guard := none }) (v := ?_) rfl (by kernel_rfl) (by kernel_rfl) (by kernel_rfl) (fun _ _ _ h => h) (Or.inl ⟨by rfl, ?_⟩) (by assumption) ?_
          rotate_left
          · (intro w hSw; (try dsimp only at hSw); go_simp <;> with_reducible rfl)
          (try simp only [Act.put, List.setIfInBounds_toArray, List.set_cons_zero, List.set_cons_succ])
          refine wpAnyH_take (i := 5) (oi := { dst := some 15, op := Op.move (Operand.tmp 14), type := 4, pos := "law.go:43", after := #[{ on := 4, ground := Ground.data }, { on := 3, ground := Ground.chain }], guard := none }) (v := ?_) rfl (by kernel_rfl) (by kernel_rfl) (by kernel_rfl) (fun _ _ _ h => h) (Or.inl ⟨by rfl, ?_⟩) (by assumption) ?_
          rotate_left
          · (intro w hSw; (try dsimp only at hSw); go_simp <;> with_reducible rfl)
          (try simp only [Act.put, List.setIfInBounds_toArray, List.set_cons_zero, List.set_cons_succ])
          refine wpAnyH_take (i := 6) (oi := { dst := some 16, op := Op.load 43 (Operand.tmp 2), type := 43, pos := "law.go:43", after := #[{ on := 5, ground := Ground.guard }], guard := some (5, false) }) (v := ?_) rfl (by kernel_rfl) (by kernel_rfl) (by kernel_rfl) (fun _ _ _ h => h) (Or.inl ⟨by rfl, ?_⟩) (by assumption) ?_
          rotate_left
          · (intro w hSw; (try dsimp only at hSw); go_simp <;> with_reducible rfl)
          (try simp only [Act.put, List.setIfInBounds_toArray, List.set_cons_zero, List.set_cons_succ])
          refine wpAnyH_ready (rs := [7]) (by kernel_rfl) (by simp) ?_
          refine AllReadyH.cons (o := { dst := some 17, op := Op.call { callee := Callee.value (Operand.func 34), args := #[Operand.tmp 16], argTypes := #[43] }, type := 4, pos := "law.go:43", after := #[{ on := 6, ground := Ground.data }, { on := 5, ground := Ground.chain }, { on := 5, ground := Ground.guard }], guard := some (5, false) }) rfl (fun K hK => ?_) ?_
          · go_simp
            refine (R2 _).mono ?_
            rintro e w1 ⟨rfl, os3, m3, rfl⟩
            (try go_wp2_with fail)
            refine hK.out _ _ (by (try dsimp only); simp [go_sem]) (fun hHeld2 => ?_)
            clear hK K hHeld
            have hHeld := hHeld2
            clear hHeld2
            (try simp only [Act.put, List.setIfInBounds_toArray, List.set_cons_zero, List.set_cons_succ])
            refine wpAnyH_take (i := 8) (oi := { dst := some 18, op := Op.move (Operand.tmp 17), type := 4, pos := "law.go:43", after := #[{ on := 7, ground := Ground.data }, { on := 7, ground := Ground.chain }, { on := 5, ground := Ground.guard }], guard := some (5, false) }) (v := ?_) rfl (by kernel_rfl) (by kernel_rfl) (by kernel_rfl) (fun _ _ _ h => h) (Or.inl ⟨by rfl, ?_⟩) (by assumption) ?_
            rotate_left
            · (intro w hSw; (try dsimp only at hSw); go_simp <;> with_reducible rfl)
            (try simp only [Act.put, List.setIfInBounds_toArray, List.set_cons_zero, List.set_cons_succ])
            refine wpAnyH_take (i := 9) (oi := { dst := some 19, op := Op.load 43 (Operand.tmp 2), type := 43, pos := "law.go:43", after := #[{ on := 8, ground := Ground.guard }], guard := some (8, true) }) (v := ?_) rfl (by kernel_rfl) (by kernel_rfl) (by kernel_rfl) (fun _ _ _ h => h) (Or.inl ⟨by rfl, ?_⟩) (by assumption) ?_
            rotate_left
            · (intro w hSw; (try dsimp only at hSw); go_simp <;> with_reducible rfl)
            (try simp only [Act.put, List.setIfInBounds_toArray, List.set_cons_zero, List.set_cons_succ])
            refine wpAnyH_take (i := 11) (oi := { dst := some 21, op := Op.fieldAddr 43 (Operand.tmp 2) 0, type := 0, pos := "law.go:43", after := #[{ on := 8, ground := Ground.guard }], guard := some (8, true) }) (v := ?_) rfl (by kernel_rfl) (by kernel_rfl) (by kernel_rfl) (fun _ _ _ h => h) (Or.inl ⟨by rfl, ?_⟩) (by assumption) ?_
            rotate_left
            · (intro w hSw; (try dsimp only at hSw); go_simp <;> with_reducible rfl)
            (try simp only [Act.put, List.setIfInBounds_toArray, List.set_cons_zero, List.set_cons_succ])
            refine wpAnyH_take (i := 12) (oi := { dst := some 22, op := Op.load 24 (Operand.tmp 21), type := 24, pos := "law.go:43", after := #[{ on := 11, ground := Ground.data }, { on := 8, ground := Ground.guard }], guard := some (8, true) }) (v := ?_) rfl (by kernel_rfl) (by kernel_rfl) (by kernel_rfl) (fun _ _ _ h => h) (Or.inl ⟨by rfl, ?_⟩) (by assumption) ?_
            rotate_left
            · (intro w hSw; (try dsimp only at hSw); go_simp <;> with_reducible rfl)
            (try simp only [Act.put, List.setIfInBounds_toArray, List.set_cons_zero, List.set_cons_succ])
            refine wpAnyH_ready (rs := [10]) (by kernel_rfl) (by simp) ?_
            refine AllReadyH.cons (o := { dst := some 20, op := Op.call { callee := Callee.value (Operand.func 35), args := #[Operand.tmp 19], argTypes := #[43] }, type := 3, pos := "law.go:43", after := #[{ on := 9, ground := Ground.data }, { on := 8, ground := Ground.chain }, { on := 8, ground := Ground.guard }], guard := some (8, true) }) rfl (fun K hK => ?_) ?_
            · go_simp
              refine (SG _).mono ?_
              rintro e w1 ⟨rfl, os4, m4, rfl⟩
              (try go_wp2_with fail)
              refine hK.out _ _ (by (try dsimp only); simp [go_sem]) (fun hHeld2 => ?_)
              clear hK K hHeld
              have hHeld := hHeld2
              clear hHeld2
              (try simp only [Act.put, List.setIfInBounds_toArray, List.set_cons_zero, List.set_cons_succ])
              refine wpAnyH_ready (rs := [13]) (by kernel_rfl) (by simp) ?_
              refine AllReadyH.cons (o := { dst := some 23, op := Op.call { callee := Callee.value (Operand.func 15), args := #[Operand.tmp 22], argTypes := #[23] }, type := 27, pos := "law.go:43", after := #[{ on := 12, ground := Ground.data }, { on := 10, ground := Ground.chain }, { on := 8, ground := Ground.guard }], guard := some (8, true) }) rfl (fun K hK => ?_) ?_
              · go_simp
                refine (RN _).mono ?_
                rintro e w1 ⟨u, rfl, hu, os5, m5, rfl⟩
                (try simp only [Gr.of_drew] at hu); (try simp only [Gr.gr] at hu); (try simp only [Array.append_assoc] at hu)
                obtain ⟨us, ua, un, uc, rfl⟩ := hu.shape
                (try go_wp2_with fail)
                refine hK.out _ _ (by (try dsimp only); simp [go_sem]) (fun hHeld2 => ?_)
                clear hK K hHeld
                have hHeld := hHeld2
                clear hHeld2
                (try simp only [Act.put, List.setIfInBounds_toArray, List.set_cons_zero, List.set_cons_succ])
                refine wpAnyH_ready (rs := [14]) (by kernel_rfl) (by simp) ?_
                refine AllReadyH.cons (o := { dst := some 24, op := Op.call { callee := Callee.value (Operand.func 16), args := #[Operand.tmp 23], argTypes := #[27] }, type := 3, pos := "law.go:43", after := #[{ on := 13, ground := Ground.data }, { on := 13, ground := Ground.chain }, { on := 8, ground := Ground.guard }], guard := some (8, true) }) rfl (fun K hK => ?_) ?_
                · go_simp
                  refine (BS _ _ (hu.gr ?_)).mono ?_
                  · exact (by with_reducible repeat (first | exact IsGr.refl _ | exact IsGr.gapp0 _ _ _ _ | exact IsGr.gapp1 _ _ _ _ _ | exact IsGr.gapp2 _ _ _ _ _ _ | exact IsGr.gapp3 _ _ _ _ _ _ _ | exact IsGr.gapp4 _ _ _ _ _ _ _ _ | refine IsGr.gr ?_ _ _ | refine IsGr.alloc ?_ _ | refine IsGr.drew ?_))
                  rintro e w1 ⟨rfl, os7, m7, rfl⟩
                  (try go_wp2_with fail)
                  refine hK.out _ _ (by (try dsimp only); simp [go_sem]) (fun hHeld2 => ?_)
                  clear hK K hHeld
                  have hHeld := hHeld2
                  clear hHeld2
                  (try simp only [Act.put, List.setIfInBounds_toArray, List.set_cons_zero, List.set_cons_succ])
                  refine wpAnyH_take (i := 15) (oi := { dst := some 25, op := Op.binOp BinOp.neq 3 (Operand.tmp 20) (Operand.tmp 24) 3, type := 4, pos := "law.go:43", after := #[{ on := 10, ground := Ground.data }, { on := 14, ground := Ground.data }, { on := 8, ground := Ground.guard }], guard := some (8, true) }) (v := ?_) rfl (by kernel_rfl) (by kernel_rfl) (by kernel_rfl) (fun _ _ _ h => h) (Or.inl ⟨by rfl, ?_⟩) (by assumption) ?_
                  rotate_left
                  · (intro w hSw; (try dsimp only at hSw); go_simp <;> with_reducible rfl)
                  (try simp only [Act.put, List.setIfInBounds_toArray, List.set_cons_zero, List.set_cons_succ])
                  refine wpAnyH_take (i := 16) (oi := { dst := some 26, op := Op.pick (Operand.tmp 18) (Operand.tmp 25) (Operand.const (Value.bool false)), type := 4, pos := "law.go:43", after := #[{ on := 8, ground := Ground.data }, { on := 15, ground := Ground.data }, { on := 5, ground := Ground.guard }], guard := some (5, false) }) (v := ?_) rfl (by kernel_rfl) (by kernel_rfl) (by kernel_rfl) (fun _ _ _ h => h) (Or.inl ⟨by rfl, ?_⟩) (by assumption) ?_
                  rotate_left
                  · (intro w hSw; (try dsimp only at hSw); go_simp <;> with_reducible rfl)
                  (try simp only [Act.put, List.setIfInBounds_toArray, List.set_cons_zero, List.set_cons_succ])
                  refine wpAnyH_take (i := 17) (oi := { dst := some 27, op := Op.pick (Operand.tmp 15) (Operand.const (Value.bool true)) (Operand.tmp 26), type := 4, pos := "law.go:43", after := #[{ on := 5, ground := Ground.data }, { on := 16, ground := Ground.data }], guard := none }) (v := ?_) rfl (by kernel_rfl) (by kernel_rfl) (by kernel_rfl) (fun _ _ _ h => h) (Or.inl ⟨by rfl, ?_⟩) (by assumption) ?_
                  rotate_left
                  · (intro w hSw; (try dsimp only at hSw); go_simp <;> with_reducible rfl)
                  (try simp only [Act.put, List.setIfInBounds_toArray, List.set_cons_zero, List.set_cons_succ])
                  refine wpAnyH_take (i := 18) (oi := { dst := some 28, op := Op.move (Operand.tmp 27), type := 4, pos := "law.go:43", after := #[{ on := 17, ground := Ground.data }, { on := 14, ground := Ground.chain }], guard := none }) (v := ?_) rfl (by kernel_rfl) (by kernel_rfl) (by kernel_rfl) (fun _ _ _ h => h) (Or.inl ⟨by rfl, ?_⟩) (by assumption) ?_
                  rotate_left
                  · (intro w hSw; (try dsimp only at hSw); go_simp <;> with_reducible rfl)
                  (try simp only [Act.put, List.setIfInBounds_toArray, List.set_cons_zero, List.set_cons_succ])
                  refine wpAnyH_take (i := 19) (oi := { dst := some 29, op := Op.load 43 (Operand.tmp 2), type := 43, pos := "law.go:43", after := #[{ on := 18, ground := Ground.guard }], guard := some (18, false) }) (v := ?_) rfl (by kernel_rfl) (by kernel_rfl) (by kernel_rfl) (fun _ _ _ h => h) (Or.inl ⟨by rfl, ?_⟩) (by assumption) ?_
                  rotate_left
                  · (intro w hSw; (try dsimp only at hSw); go_simp <;> with_reducible rfl)
                  (try simp only [Act.put, List.setIfInBounds_toArray, List.set_cons_zero, List.set_cons_succ])
                  refine wpAnyH_ready (rs := [20]) (by kernel_rfl) (by simp) ?_
                  refine AllReadyH.cons (o := { dst := some 30, op := Op.call { callee := Callee.value (Operand.func 34), args := #[Operand.tmp 29], argTypes := #[43] }, type := 4, pos := "law.go:43", after := #[{ on := 19, ground := Ground.data }, { on := 18, ground := Ground.chain }, { on := 18, ground := Ground.guard }], guard := some (18, false) }) rfl (fun K hK => ?_) ?_
                  · go_simp
                    refine (R2 _).mono ?_
                    rintro e w1 ⟨rfl, os6, m6, rfl⟩
                    (try go_wp2_with fail)
                    refine hK.out _ _ (by (try dsimp only); simp [go_sem]) (fun hHeld2 => ?_)
                    clear hK K hHeld
                    have hHeld := hHeld2
                    clear hHeld2
                    (try simp only [Act.put, List.setIfInBounds_toArray, List.set_cons_zero, List.set_cons_succ])
                    refine wpAnyH_take (i := 21) (oi := { dst := some 31, op := Op.unOp UnOp.not 4 (Operand.tmp 30), type := 4, pos := "law.go:43", after := #[{ on := 20, ground := Ground.data }, { on := 18, ground := Ground.guard }], guard := some (18, false) }) (v := ?_) rfl (by kernel_rfl) (by kernel_rfl) (by kernel_rfl) (fun _ _ _ h => h) (Or.inl ⟨by rfl, ?_⟩) (by assumption) ?_
                    rotate_left
                    · (intro w hSw; (try dsimp only at hSw); go_simp <;> with_reducible rfl)
                    (try simp only [Act.put, List.setIfInBounds_toArray, List.set_cons_zero, List.set_cons_succ])
                    refine wpAnyH_take (i := 22) (oi := { dst := some 32, op := Op.move (Operand.tmp 31), type := 4, pos := "law.go:43", after := #[{ on := 21, ground := Ground.data }, { on := 20, ground := Ground.chain }, { on := 18, ground := Ground.guard }], guard := some (18, false) }) (v := ?_) rfl (by kernel_rfl) (by kernel_rfl) (by kernel_rfl) (fun _ _ _ h => h) (Or.inl ⟨by rfl, ?_⟩) (by assumption) ?_
                    rotate_left
                    · (intro w hSw; (try dsimp only at hSw); go_simp <;> with_reducible rfl)
                    (try simp only [Act.put, List.setIfInBounds_toArray, List.set_cons_zero, List.set_cons_succ])
                    refine wpAnyH_take (i := 23) (oi := { dst := some 33, op := Op.load 43 (Operand.tmp 2), type := 43, pos := "law.go:43", after := #[{ on := 22, ground := Ground.guard }], guard := some (22, true) }) (v := undef) rfl (by kernel_rfl) (by kernel_rfl) (by kernel_rfl) (fun _ _ _ h => h) (Or.inr ⟨by rfl, rfl⟩) (by assumption) ?_
                    (try simp only [Act.put, List.setIfInBounds_toArray, List.set_cons_zero, List.set_cons_succ])
                    refine wpAnyH_take (i := 24) (oi := { dst := some 34, op := Op.call { callee := Callee.value (Operand.func 35), args := #[Operand.tmp 33], argTypes := #[43] }, type := 3, pos := "law.go:43", after := #[{ on := 23, ground := Ground.data }, { on := 22, ground := Ground.chain }, { on := 22, ground := Ground.guard }], guard := some (22, true) }) (v := undef) rfl (by kernel_rfl) (by kernel_rfl) (by kernel_rfl) (fun _ _ _ h => h) (Or.inr ⟨by rfl, rfl⟩) (by assumption) ?_
                    (try simp only [Act.put, List.setIfInBounds_toArray, List.set_cons_zero, List.set_cons_succ])
                    refine wpAnyH_take (i := 25) (oi := { dst := some 35, op := Op.binOp BinOp.neq 3 (Operand.tmp 34) (Operand.const (Value.int IntKind.i64 0)) 3, type := 4, pos := "law.go:43", after := #[{ on := 24, ground := Ground.data }, { on := 22, ground := Ground.guard }], guard := some (22, true) }) (v := undef) rfl (by kernel_rfl) (by kernel_rfl) (by kernel_rfl) (fun _ _ _ h => h) (Or.inr ⟨by rfl, rfl⟩) (by assumption) ?_
                    (try simp only [Act.put, List.setIfInBounds_toArray, List.set_cons_zero, List.set_cons_succ])
                    refine wpAnyH_take (i := 26) (oi := { dst := some 36, op := Op.pick (Operand.tmp 32) (Operand.tmp 35) (Operand.const (Value.bool false)), type := 4, pos := "law.go:43", after := #[{ on := 22, ground := Ground.data }, { on := 25, ground := Ground.data }, { on := 18, ground := Ground.guard }], guard := some (18, false) }) (v := ?_) rfl (by kernel_rfl) (by kernel_rfl) (by kernel_rfl) (fun _ _ _ h => h) (Or.inl ⟨by rfl, ?_⟩) (by assumption) ?_
                    rotate_left
                    · (intro w hSw; (try dsimp only at hSw); go_simp <;> with_reducible rfl)
                    (try simp only [Act.put, List.setIfInBounds_toArray, List.set_cons_zero, List.set_cons_succ])
                    refine wpAnyH_take (i := 27) (oi := { dst := some 37, op := Op.pick (Operand.tmp 28) (Operand.const (Value.bool true)) (Operand.tmp 36), type := 4, pos := "law.go:43", after := #[{ on := 18, ground := Ground.data }, { on := 26, ground := Ground.data }], guard := none }) (v := ?_) rfl (by kernel_rfl) (by kernel_rfl) (by kernel_rfl) (fun _ _ _ h => h) (Or.inl ⟨by rfl, ?_⟩) (by assumption) ?_
                    rotate_left
                    · (intro w hSw; (try dsimp only at hSw); go_simp <;> with_reducible rfl)
                    (try simp only [Act.put, List.setIfInBounds_toArray, List.set_cons_zero, List.set_cons_succ])
                    refine wpAnyH_done (by kernel_rfl) ?_ _
                    go_wp2
                    go_meet
                    case rel =>
                      refine ⟨rfl, ?_, ?_, ?_, ?_⟩
                      · first | (simp [Gr.size]; done) | (simp [Gr.size]; omega) | simp
                      · simp [go_sem]
                      · simp [go_sem]
                      · exact (by with_reducible repeat (first | exact IsGr.refl _ | refine IsGr.gr ?_ _ _ | refine IsGr.alloc ?_ _ | refine IsGr.drew ?_ | refine IsGr.drewN ?_ _))
                  exact AllReadyH.nil
                exact AllReadyH.nil
              exact AllReadyH.nil
            exact AllReadyH.nil
          exact AllReadyH.nil
        exact AllReadyH.nil
      exact AllReadyH.nil
    · rw [show decide (0 < d) = false by simp; omega] at R1 R2
      rw [if_neg h] at SG
      clear h XA XB CC CA Q2 BS RN
      refine wp_region_held_drew (S := (fun w' => w'.cell? ⟨w.heap.size, 0, none⟩ = some (.int .u64 n0) ∧ w'.cell? ⟨w.heap.size, 1, none⟩ = some (.int .u64 n1) ∧ w'.cell? ⟨w.heap.size, 2, none⟩ = some (.int .u64 n2) ∧ w'.cell? ⟨w.heap.size, 3, none⟩ = some (.int .u64 n3) ∧ w'.cell? ⟨w.heap.size, 4, none⟩ = some (.int .u64 d0) ∧ w'.cell? ⟨w.heap.size, 5, none⟩ = some (.int .u64 d1) ∧ w'.cell? ⟨w.heap.size, 6, none⟩ = some (.int .u64 d2) ∧ w'.cell? ⟨w.heap.size, 7, none⟩ = some (.int .u64 d3))) (by kernel_rfl) (by (try dsimp only); simp [go_sem]) (fun hHeld => ?_)
      refine wpAnyH_take (i := 0) (oi := { dst := some 10, op := Op.load 43 (Operand.tmp 2), type := 43, pos := "law.go:43", after := #[], guard := none }) (v := ?_) rfl (by kernel_rfl) (by kernel_rfl) (by kernel_rfl) (fun _ _ _ h => h) (Or.inl ⟨by rfl, ?_⟩) (by assumption) ?_
      rotate_left
      · (intro w hSw; (try dsimp only at hSw); go_simp <;> with_reducible rfl)
      (try simp only [Act.put, List.setIfInBounds_toArray, List.set_cons_zero, List.set_cons_succ])
      refine wpAnyH_take (i := 2) (oi := { dst := some 12, op := Op.load 43 (Operand.tmp 2), type := 43, pos := "law.go:43", after := #[], guard := none }) (v := ?_) rfl (by kernel_rfl) (by kernel_rfl) (by kernel_rfl) (fun _ _ _ h => h) (Or.inl ⟨by rfl, ?_⟩) (by assumption) ?_
      rotate_left
      · (intro w hSw; (try dsimp only at hSw); go_simp <;> with_reducible rfl)
      (try simp only [Act.put, List.setIfInBounds_toArray, List.set_cons_zero, List.set_cons_succ])
      refine wpAnyH_ready (rs := [1]) (by kernel_rfl) (by simp) ?_
      refine AllReadyH.cons (o := { dst := some 11, op := Op.call { callee := Callee.value (Operand.func 31), args := #[Operand.tmp 10], argTypes := #[43] }, type := 4, pos := "law.go:43", after := #[{ on := 0, ground := Ground.data }], guard := none }) rfl (fun K hK => ?_) ?_
      · go_simp
        refine (R1 _).mono ?_
        rintro e w1 ⟨rfl, os1, m1, rfl⟩
        (try go_wp2_with fail)
        refine hK.out _ _ (by (try dsimp only); simp [go_sem]) (fun hHeld2 => ?_)
        clear hK K hHeld
        have hHeld := hHeld2
        clear hHeld2
        (try simp only [Act.put, List.setIfInBounds_toArray, List.set_cons_zero, List.set_cons_succ])
        refine wpAnyH_ready (rs := [3]) (by kernel_rfl) (by simp) ?_
        refine AllReadyH.cons (o := { dst := some 13, op := Op.call { callee := Callee.value (Operand.func 34), args := #[Operand.tmp 12], argTypes := #[43] }, type := 4, pos := "law.go:43", after := #[{ on := 2, ground := Ground.data }, { on := 1, ground := Ground.chain }], guard := none }) rfl (fun K hK => ?_) ?_
        · go_simp
          refine (R2 _).mono ?_
          rintro e w1 ⟨rfl, os2, m2, rfl⟩
          (try go_wp2_with fail)
          refine hK.out _ _ (by (try dsimp only); simp [go_sem]) (fun hHeld2 => ?_)
          clear hK K hHeld
          have hHeld := hHeld2
          clear hHeld2
          (try simp only [Act.put, List.setIfInBounds_toArray, List.set_cons_zero, List.set_cons_succ])
          refine wpAnyH_take (i := 4) (oi := { dst := some 14, op := Op.binOp BinOp.neq 4 (Operand.tmp 11) (Operand.tmp 13) 4, type := 4, pos := "law.go:43", after := #[{ on := 1, ground := Ground.data }, { on := 3, ground := Ground.data }], guard := none }) (v := ?_) rfl (by kernel_rfl) (by kernel_rfl) (by kernel_rfl) (fun _ _ _ h => h) (Or.inl ⟨by rfl, ?_⟩) (by assumption) ?_
          rotate_left
          · (intro w hSw; (try dsimp only at hSw); go_simp <;> with_reducible rfl)
          (try simp only [Act.put, List.setIfInBounds_toArray, List.set_cons_zero, List.set_cons_succ])
          refine wpAnyH_take (i := 5) (oi := { dst := some 15, op := Op.move (Operand.tmp 14), type := 4, pos := "law.go:43", after := #[{ on := 4, ground := Ground.data }, { on := 3, ground := Ground.chain }], guard := none }) (v := ?_) rfl (by kernel_rfl) (by kernel_rfl) (by kernel_rfl) (fun _ _ _ h => h) (Or.inl ⟨by rfl, ?_⟩) (by assumption) ?_
          rotate_left
          · (intro w hSw; (try dsimp only at hSw); go_simp <;> with_reducible rfl)
          (try simp only [Act.put, List.setIfInBounds_toArray, List.set_cons_zero, List.set_cons_succ])
          refine wpAnyH_take (i := 6) (oi := { dst := some 16, op := Op.load 43 (Operand.tmp 2), type := 43, pos := "law.go:43", after := #[{ on := 5, ground := Ground.guard }], guard := some (5, false) }) (v := ?_) rfl (by kernel_rfl) (by kernel_rfl) (by kernel_rfl) (fun _ _ _ h => h) (Or.inl ⟨by rfl, ?_⟩) (by assumption) ?_
          rotate_left
          · (intro w hSw; (try dsimp only at hSw); go_simp <;> with_reducible rfl)
          (try simp only [Act.put, List.setIfInBounds_toArray, List.set_cons_zero, List.set_cons_succ])
          refine wpAnyH_ready (rs := [7]) (by kernel_rfl) (by simp) ?_
          refine AllReadyH.cons (o := { dst := some 17, op := Op.call { callee := Callee.value (Operand.func 34), args := #[Operand.tmp 16], argTypes := #[43] }, type := 4, pos := "law.go:43", after := #[{ on := 6, ground := Ground.data }, { on := 5, ground := Ground.chain }, { on := 5, ground := Ground.guard }], guard := some (5, false) }) rfl (fun K hK => ?_) ?_
          · go_simp
            refine (R2 _).mono ?_
            rintro e w1 ⟨rfl, os3, m3, rfl⟩
            (try go_wp2_with fail)
            refine hK.out _ _ (by (try dsimp only); simp [go_sem]) (fun hHeld2 => ?_)
            clear hK K hHeld
            have hHeld := hHeld2
            clear hHeld2
            (try simp only [Act.put, List.setIfInBounds_toArray, List.set_cons_zero, List.set_cons_succ])
            refine wpAnyH_take (i := 8) (oi := { dst := some 18, op := Op.move (Operand.tmp 17), type := 4, pos := "law.go:43", after := #[{ on := 7, ground := Ground.data }, { on := 7, ground := Ground.chain }, { on := 5, ground := Ground.guard }], guard := some (5, false) }) (v := ?_) rfl (by kernel_rfl) (by kernel_rfl) (by kernel_rfl) (fun _ _ _ h => h) (Or.inl ⟨by rfl, ?_⟩) (by assumption) ?_
            rotate_left
            · (intro w hSw; (try dsimp only at hSw); go_simp <;> with_reducible rfl)
            (try simp only [Act.put, List.setIfInBounds_toArray, List.set_cons_zero, List.set_cons_succ])
            refine wpAnyH_take (i := 9) (oi := { dst := some 19, op := Op.load 43 (Operand.tmp 2), type := 43, pos := "law.go:43", after := #[{ on := 8, ground := Ground.guard }], guard := some (8, true) }) (v := undef) rfl (by kernel_rfl) (by kernel_rfl) (by kernel_rfl) (fun _ _ _ h => h) (Or.inr ⟨by rfl, rfl⟩) (by assumption) ?_
            (try simp only [Act.put, List.setIfInBounds_toArray, List.set_cons_zero, List.set_cons_succ])
            refine wpAnyH_take (i := 10) (oi := { dst := some 20, op := Op.call { callee := Callee.value (Operand.func 35), args := #[Operand.tmp 19], argTypes := #[43] }, type := 3, pos := "law.go:43", after := #[{ on := 9, ground := Ground.data }, { on := 8, ground := Ground.chain }, { on := 8, ground := Ground.guard }], guard := some (8, true) }) (v := undef) rfl (by kernel_rfl) (by kernel_rfl) (by kernel_rfl) (fun _ _ _ h => h) (Or.inr ⟨by rfl, rfl⟩) (by assumption) ?_
            (try simp only [Act.put, List.setIfInBounds_toArray, List.set_cons_zero, List.set_cons_succ])
            refine wpAnyH_take (i := 11) (oi := { dst := some 21, op := Op.fieldAddr 43 (Operand.tmp 2) 0, type := 0, pos := "law.go:43", after := #[{ on := 8, ground := Ground.guard }], guard := some (8, true) }) (v := undef) rfl (by kernel_rfl) (by kernel_rfl) (by kernel_rfl) (fun _ _ _ h => h) (Or.inr ⟨by rfl, rfl⟩) (by assumption) ?_
            (try simp only [Act.put, List.setIfInBounds_toArray, List.set_cons_zero, List.set_cons_succ])
            refine wpAnyH_take (i := 12) (oi := { dst := some 22, op := Op.load 24 (Operand.tmp 21), type := 24, pos := "law.go:43", after := #[{ on := 11, ground := Ground.data }, { on := 8, ground := Ground.guard }], guard := some (8, true) }) (v := undef) rfl (by kernel_rfl) (by kernel_rfl) (by kernel_rfl) (fun _ _ _ h => h) (Or.inr ⟨by rfl, rfl⟩) (by assumption) ?_
            (try simp only [Act.put, List.setIfInBounds_toArray, List.set_cons_zero, List.set_cons_succ])
            refine wpAnyH_take (i := 13) (oi := { dst := some 23, op := Op.call { callee := Callee.value (Operand.func 15), args := #[Operand.tmp 22], argTypes := #[23] }, type := 27, pos := "law.go:43", after := #[{ on := 12, ground := Ground.data }, { on := 10, ground := Ground.chain }, { on := 8, ground := Ground.guard }], guard := some (8, true) }) (v := undef) rfl (by kernel_rfl) (by kernel_rfl) (by kernel_rfl) (fun _ _ _ h => h) (Or.inr ⟨by rfl, rfl⟩) (by assumption) ?_
            (try simp only [Act.put, List.setIfInBounds_toArray, List.set_cons_zero, List.set_cons_succ])
            refine wpAnyH_take (i := 14) (oi := { dst := some 24, op := Op.call { callee := Callee.value (Operand.func 16), args := #[Operand.tmp 23], argTypes := #[27] }, type := 3, pos := "law.go:43", after := #[{ on := 13, ground := Ground.data }, { on := 13, ground := Ground.chain }, { on := 8, ground := Ground.guard }], guard := some (8, true) }) (v := undef) rfl (by kernel_rfl) (by kernel_rfl) (by kernel_rfl) (fun _ _ _ h => h) (Or.inr ⟨by rfl, rfl⟩) (by assumption) ?_
            (try simp only [Act.put, List.setIfInBounds_toArray, List.set_cons_zero, List.set_cons_succ])
            refine wpAnyH_take (i := 15) (oi := { dst := some 25, op := Op.binOp BinOp.neq 3 (Operand.tmp 20) (Operand.tmp 24) 3, type := 4, pos := "law.go:43", after := #[{ on := 10, ground := Ground.data }, { on := 14, ground := Ground.data }, { on := 8, ground := Ground.guard }], guard := some (8, true) }) (v := undef) rfl (by kernel_rfl) (by kernel_rfl) (by kernel_rfl) (fun _ _ _ h => h) (Or.inr ⟨by rfl, rfl⟩) (by assumption) ?_
            (try simp only [Act.put, List.setIfInBounds_toArray, List.set_cons_zero, List.set_cons_succ])
            refine wpAnyH_take (i := 16) (oi := { dst := some 26, op := Op.pick (Operand.tmp 18) (Operand.tmp 25) (Operand.const (Value.bool false)), type := 4, pos := "law.go:43", after := #[{ on := 8, ground := Ground.data }, { on := 15, ground := Ground.data }, { on := 5, ground := Ground.guard }], guard := some (5, false) }) (v := ?_) rfl (by kernel_rfl) (by kernel_rfl) (by kernel_rfl) (fun _ _ _ h => h) (Or.inl ⟨by rfl, ?_⟩) (by assumption) ?_
            rotate_left
            · (intro w hSw; (try dsimp only at hSw); go_simp <;> with_reducible rfl)
            (try simp only [Act.put, List.setIfInBounds_toArray, List.set_cons_zero, List.set_cons_succ])
            refine wpAnyH_take (i := 17) (oi := { dst := some 27, op := Op.pick (Operand.tmp 15) (Operand.const (Value.bool true)) (Operand.tmp 26), type := 4, pos := "law.go:43", after := #[{ on := 5, ground := Ground.data }, { on := 16, ground := Ground.data }], guard := none }) (v := ?_) rfl (by kernel_rfl) (by kernel_rfl) (by kernel_rfl) (fun _ _ _ h => h) (Or.inl ⟨by rfl, ?_⟩) (by assumption) ?_
            rotate_left
            · (intro w hSw; (try dsimp only at hSw); go_simp <;> with_reducible rfl)
            (try simp only [Act.put, List.setIfInBounds_toArray, List.set_cons_zero, List.set_cons_succ])
            refine wpAnyH_take (i := 18) (oi := { dst := some 28, op := Op.move (Operand.tmp 27), type := 4, pos := "law.go:43", after := #[{ on := 17, ground := Ground.data }, { on := 14, ground := Ground.chain }], guard := none }) (v := ?_) rfl (by kernel_rfl) (by kernel_rfl) (by kernel_rfl) (fun _ _ _ h => h) (Or.inl ⟨by rfl, ?_⟩) (by assumption) ?_
            rotate_left
            · (intro w hSw; (try dsimp only at hSw); go_simp <;> with_reducible rfl)
            (try simp only [Act.put, List.setIfInBounds_toArray, List.set_cons_zero, List.set_cons_succ])
            refine wpAnyH_take (i := 19) (oi := { dst := some 29, op := Op.load 43 (Operand.tmp 2), type := 43, pos := "law.go:43", after := #[{ on := 18, ground := Ground.guard }], guard := some (18, false) }) (v := ?_) rfl (by kernel_rfl) (by kernel_rfl) (by kernel_rfl) (fun _ _ _ h => h) (Or.inl ⟨by rfl, ?_⟩) (by assumption) ?_
            rotate_left
            · (intro w hSw; (try dsimp only at hSw); go_simp <;> with_reducible rfl)
            (try simp only [Act.put, List.setIfInBounds_toArray, List.set_cons_zero, List.set_cons_succ])
            refine wpAnyH_ready (rs := [20]) (by kernel_rfl) (by simp) ?_
            refine AllReadyH.cons (o := { dst := some 30, op := Op.call { callee := Callee.value (Operand.func 34), args := #[Operand.tmp 29], argTypes := #[43] }, type := 4, pos := "law.go:43", after := #[{ on := 19, ground := Ground.data }, { on := 18, ground := Ground.chain }, { on := 18, ground := Ground.guard }], guard := some (18, false) }) rfl (fun K hK => ?_) ?_
            · go_simp
              refine (R2 _).mono ?_
              rintro e w1 ⟨rfl, os6, m6, rfl⟩
              (try go_wp2_with fail)
              refine hK.out _ _ (by (try dsimp only); simp [go_sem]) (fun hHeld2 => ?_)
              clear hK K hHeld
              have hHeld := hHeld2
              clear hHeld2
              (try simp only [Act.put, List.setIfInBounds_toArray, List.set_cons_zero, List.set_cons_succ])
              refine wpAnyH_take (i := 21) (oi := { dst := some 31, op := Op.unOp UnOp.not 4 (Operand.tmp 30), type := 4, pos := "law.go:43", after := #[{ on := 20, ground := Ground.data }, { on := 18, ground := Ground.guard }], guard := some (18, false) }) (v := ?_) rfl (by kernel_rfl) (by kernel_rfl) (by kernel_rfl) (fun _ _ _ h => h) (Or.inl ⟨by rfl, ?_⟩) (by assumption) ?_
              rotate_left
              · (intro w hSw; (try dsimp only at hSw); go_simp <;> with_reducible rfl)
              (try simp only [Act.put, List.setIfInBounds_toArray, List.set_cons_zero, List.set_cons_succ])
              refine wpAnyH_take (i := 22) (oi := { dst := some 32, op := Op.move (Operand.tmp 31), type := 4, pos := "law.go:43", after := #[{ on := 21, ground := Ground.data }, { on := 20, ground := Ground.chain }, { on := 18, ground := Ground.guard }], guard := some (18, false) }) (v := ?_) rfl (by kernel_rfl) (by kernel_rfl) (by kernel_rfl) (fun _ _ _ h => h) (Or.inl ⟨by rfl, ?_⟩) (by assumption) ?_
              rotate_left
              · (intro w hSw; (try dsimp only at hSw); go_simp <;> with_reducible rfl)
              (try simp only [Act.put, List.setIfInBounds_toArray, List.set_cons_zero, List.set_cons_succ])
              refine wpAnyH_take (i := 23) (oi := { dst := some 33, op := Op.load 43 (Operand.tmp 2), type := 43, pos := "law.go:43", after := #[{ on := 22, ground := Ground.guard }], guard := some (22, true) }) (v := ?_) rfl (by kernel_rfl) (by kernel_rfl) (by kernel_rfl) (fun _ _ _ h => h) (Or.inl ⟨by rfl, ?_⟩) (by assumption) ?_
              rotate_left
              · (intro w hSw; (try dsimp only at hSw); go_simp <;> with_reducible rfl)
              (try simp only [Act.put, List.setIfInBounds_toArray, List.set_cons_zero, List.set_cons_succ])
              refine wpAnyH_ready (rs := [24]) (by kernel_rfl) (by simp) ?_
              refine AllReadyH.cons (o := { dst := some 34, op := Op.call { callee := Callee.value (Operand.func 35), args := #[Operand.tmp 33], argTypes := #[43] }, type := 3, pos := "law.go:43", after := #[{ on := 23, ground := Ground.data }, { on := 22, ground := Ground.chain }, { on := 22, ground := Ground.guard }], guard := some (22, true) }) rfl (fun K hK => ?_) ?_
              · go_simp
                refine (SG _).mono ?_
                rintro e w1 ⟨rfl, os4, m4, rfl⟩
                (try go_wp2_with fail)
                refine hK.out _ _ (by (try dsimp only); simp [go_sem]) (fun hHeld2 => ?_)
                clear hK K hHeld
                have hHeld := hHeld2
                clear hHeld2
                (try simp only [Act.put, List.setIfInBounds_toArray, List.set_cons_zero, List.set_cons_succ])
                refine wpAnyH_take (i := 25) (oi := { dst := some 35, op := Op.binOp BinOp.neq 3 (Operand.tmp 34) (Operand.const (Value.int IntKind.i64 0)) 3, type := 4, pos := "law.go:43", after := #[{ on := 24, ground := Ground.data }, { on := 22, ground := Ground.guard }], guard := some (22, true) }) (v := ?_) rfl (by kernel_rfl) (by kernel_rfl) (by kernel_rfl) (fun _ _ _ h => h) (Or.inl ⟨by rfl, ?_⟩) (by assumption) ?_
                rotate_left
                · (intro w hSw; (try dsimp only at hSw); go_simp <;> with_reducible rfl)
                (try simp only [Act.put, List.setIfInBounds_toArray, List.set_cons_zero, List.set_cons_succ])
                refine wpAnyH_take (i := 26) (oi := { dst := some 36, op := Op.pick (Operand.tmp 32) (Operand.tmp 35) (Operand.const (Value.bool false)), type := 4, pos := "law.go:43", after := #[{ on := 22, ground := Ground.data }, { on := 25, ground := Ground.data }, { on := 18, ground := Ground.guard }], guard := some (18, false) }) (v := ?_) rfl (by kernel_rfl) (by kernel_rfl) (by kernel_rfl) (fun _ _ _ h => h) (Or.inl ⟨by rfl, ?_⟩) (by assumption) ?_
                rotate_left
                · (intro w hSw; (try dsimp only at hSw); go_simp <;> with_reducible rfl)
                (try simp only [Act.put, List.setIfInBounds_toArray, List.set_cons_zero, List.set_cons_succ])
                refine wpAnyH_take (i := 27) (oi := { dst := some 37, op := Op.pick (Operand.tmp 28) (Operand.const (Value.bool true)) (Operand.tmp 36), type := 4, pos := "law.go:43", after := #[{ on := 18, ground := Ground.data }, { on := 26, ground := Ground.data }], guard := none }) (v := ?_) rfl (by kernel_rfl) (by kernel_rfl) (by kernel_rfl) (fun _ _ _ h => h) (Or.inl ⟨by rfl, ?_⟩) (by assumption) ?_
                rotate_left
                · (intro w hSw; (try dsimp only at hSw); go_simp <;> with_reducible rfl)
                (try simp only [Act.put, List.setIfInBounds_toArray, List.set_cons_zero, List.set_cons_succ])
                refine wpAnyH_done (by kernel_rfl) ?_ _
                go_wp2
                go_meet
                case rel =>
                  refine ⟨rfl, ?_, ?_, ?_, ?_⟩
                  · first | (simp [Gr.size]; done) | (simp [Gr.size]; omega) | simp
                  · simp [go_sem]
                  · simp [go_sem]
                  · exact (by with_reducible repeat (first | exact IsGr.refl _ | refine IsGr.gr ?_ _ _ | refine IsGr.alloc ?_ _ | refine IsGr.drew ?_ | refine IsGr.drewN ?_ _))
              exact AllReadyH.nil
            exact AllReadyH.nil
          exact AllReadyH.nil
        exact AllReadyH.nil
      exact AllReadyH.nil
  case rest =>
    obtain ⟨rfl, kb, ⟨a0, a1, a2, a3, a4, a5, a6, a7⟩, ⟨e0, e1, e2, e3, e4, e5, e6, e7⟩, hg⟩ := hcut
    obtain ⟨W1, hW1⟩ : ∃ W1, W1 = wc := ⟨_, rfl⟩
    subst hW1
    have HG : Hid (IsGr w W1) := hg
    have ka : w.heap.size < W1.heap.size := by omega
    clear hg R1 SG RN BS
    go_wp2_with fail
    refine (CC _).mono ?_
    rintro e w1 ⟨r, ok, rfl, hT, os1, m1, rfl⟩
    go_upto_region 4 with fail
    go_cut [7, 8] (fun t7 t8 wr => ∃ (g h : Nat) (xs ys us vs : Bool) (xa ya ua va : Option Addr) (xn xc yn yc un uc vn vc : Nat), t7 = .pointer (some ⟨g, 0, none⟩) ∧ t8 = .pointer (some ⟨h, 0, none⟩) ∧ g < wr.heap.size ∧ h < wr.heap.size ∧ (wr.cell? ⟨g, 0, none⟩ = some (.bool xs) ∧ wr.cell? ⟨g, 1, none⟩ = some (.slice xa xn xc) ∧ wr.cell? ⟨g, 2, none⟩ = some (.bool ys) ∧ wr.cell? ⟨g, 3, none⟩ = some (.slice ya yn yc)) ∧ (wr.cell? ⟨h, 0, none⟩ = some (.bool us) ∧ wr.cell? ⟨h, 1, none⟩ = some (.slice ua un uc) ∧ wr.cell? ⟨h, 2, none⟩ = some (.bool vs) ∧ wr.cell? ⟨h, 3, none⟩ = some (.slice va vn vc)) ∧ IsBig wr (.agg #[.bool xs, .slice xa xn xc]) n ∧ IsBig wr (.agg #[.bool ys, .slice ya yn yc]) d ∧ IsBig wr (.agg #[.bool us, .slice ua un uc]) q ∧ IsBig wr (.agg #[.bool vs, .slice va vn vc]) c ∧ IsGr W1 wr)
    case first =>
      go_region_held3 (fun w' => (w'.cell? ⟨w.heap.size, 0, none⟩ = some (.int .u64 n0) ∧ w'.cell? ⟨w.heap.size, 1, none⟩ = some (.int .u64 n1) ∧ w'.cell? ⟨w.heap.size, 2, none⟩ = some (.int .u64 n2) ∧ w'.cell? ⟨w.heap.size, 3, none⟩ = some (.int .u64 n3) ∧ w'.cell? ⟨w.heap.size, 4, none⟩ = some (.int .u64 d0) ∧ w'.cell? ⟨w.heap.size, 5, none⟩ = some (.int .u64 d1) ∧ w'.cell? ⟨w.heap.size, 6, none⟩ = some (.int .u64 d2) ∧ w'.cell? ⟨w.heap.size, 7, none⟩ = some (.int .u64 d3)) ∧ (w'.cell? ⟨w.heap.size + 1, 0, none⟩ = some (.int .u64 q0) ∧ w'.cell? ⟨w.heap.size + 1, 1, none⟩ = some (.int .u64 q1) ∧ w'.cell? ⟨w.heap.size + 1, 2, none⟩ = some (.int .u64 q2) ∧ w'.cell? ⟨w.heap.size + 1, 3, none⟩ = some (.int .u64 q3) ∧ w'.cell? ⟨w.heap.size + 1, 4, none⟩ = some (.int .u64 c0) ∧ w'.cell? ⟨w.heap.size + 1, 5, none⟩ = some (.int .u64 c1) ∧ w'.cell? ⟨w.heap.size + 1, 6, none⟩ = some (.int .u64 c2) ∧ w'.cell? ⟨w.heap.size + 1, 7, none⟩ = some (.int .u64 c3))) (simp [go_sem, a0, a1, a2, a3, a4, a5, a6, a7, e0, e1, e2, e3, e4, e5, e6, e7, ka, kb])
        ((first | (go_at_call_of 37 (Value.int IntKind.u64 n0); refine (XA _).mono ?_; rintro e w1 ⟨xs, ys, xa, ya, xn, xc, yn, yc, rfl, hX, hY, os2, m2, rfl⟩; (try simp only [Gr.of_drew] at hX); (try simp only [Gr.gr] at hX); (try simp only [Array.append_assoc] at hX); (try simp only [Gr.of_drew] at hY); (try simp only [Gr.gr] at hY); (try simp only [Array.append_assoc] at hY)) | (go_at_call_of 37 (Value.int IntKind.u64 q0); refine (XB _).mono ?_; rintro e w1 ⟨us, vs, ua, va, un, uc, vn, vc, rfl, hU, hV, os3, m3, rfl⟩; (try simp only [Gr.of_drew] at hU); (try simp only [Gr.gr] at hU); (try simp only [Array.append_assoc] at hU); (try simp only [Gr.of_drew] at hV); (try simp only [Gr.gr] at hV); (try simp only [Array.append_assoc] at hV))))
      all_goals
        go_wp2
        go_meet
        case rel =>
          refine ⟨_, _, xs, ys, us, vs, xa, ya, ua, va, xn, xc, yn, yc, un, uc, vn, vc, rfl, rfl, ?_, ?_, ?_, ?_, hX.kb ?_, hY.kb ?_, hU.kb ?_, hV.kb ?_, (by with_reducible repeat (first | exact IsGr.refl _ | refine IsGr.gr ?_ _ _ | refine IsGr.alloc ?_ _ | refine IsGr.drew ?_ | refine IsGr.drewN ?_ _))⟩
          · first | (simp [Gr.size]; done) | (simp [Gr.size]; omega)
          · first | (simp [Gr.size]; done) | (simp [Gr.size]; omega)
          · simp [go_sem]
          · simp [go_sem]
          · with_reducible repeat (first | exact Kb.refl _ | refine Kb.box4 ?_ (by first | (simp; done) | (simp [Gr.size]; done)) _ _ _ _ _ _ _ _ _ _ _ _ _ _ _ _ _ | refine Kb.lay ?_ _ | refine Kb.gr ?_ (by first | (simp; done) | (simp [Gr.size]; done)) _ _ _ | refine Kb.gr_app ?_ (by first | (simp; done) | (simp [Gr.size]; done)) _ _ _ _ | exact Kb.of_gr (IsGr.gapp2 _ _ _ _ _ _) | exact Kb.of_gr (IsGr.gapp3 _ _ _ _ _ _ _) | refine Kb.grow ?_ _ _ | refine Kb.drew_l ?_ | refine Kb.drew_r ?_)
          · with_reducible repeat (first | exact Kb.refl _ | refine Kb.box4 ?_ (by first | (simp; done) | (simp [Gr.size]; done)) _ _ _ _ _ _ _ _ _ _ _ _ _ _ _ _ _ | refine Kb.lay ?_ _ | refine Kb.gr ?_ (by first | (simp; done) | (simp [Gr.size]; done)) _ _ _ | refine Kb.gr_app ?_ (by first | (simp; done) | (simp [Gr.size]; done)) _ _ _ _ | exact Kb.of_gr (IsGr.gapp2 _ _ _ _ _ _) | exact Kb.of_gr (IsGr.gapp3 _ _ _ _ _ _ _) | refine Kb.grow ?_ _ _ | refine Kb.drew_l ?_ | refine Kb.drew_r ?_)
          · with_reducible repeat (first | exact Kb.refl _ | refine Kb.box4 ?_ (by first | (simp; done) | (simp [Gr.size]; done)) _ _ _ _ _ _ _ _ _ _ _ _ _ _ _ _ _ | refine Kb.lay ?_ _ | refine Kb.gr ?_ (by first | (simp; done) | (simp [Gr.size]; done)) _ _ _ | refine Kb.gr_app ?_ (by first | (simp; done) | (simp [Gr.size]; done)) _ _ _ _ | exact Kb.of_gr (IsGr.gapp2 _ _ _ _ _ _) | exact Kb.of_gr (IsGr.gapp3 _ _ _ _ _ _ _) | refine Kb.grow ?_ _ _ | refine Kb.drew_l ?_ | refine Kb.drew_r ?_)
          · with_reducible repeat (first | exact Kb.refl _ | refine Kb.box4 ?_ (by first | (simp; done) | (simp [Gr.size]; done)) _ _ _ _ _ _ _ _ _ _ _ _ _ _ _ _ _ | refine Kb.lay ?_ _ | refine Kb.gr ?_ (by first | (simp; done) | (simp [Gr.size]; done)) _ _ _ | refine Kb.gr_app ?_ (by first | (simp; done) | (simp [Gr.size]; done)) _ _ _ _ | exact Kb.of_gr (IsGr.gapp2 _ _ _ _ _ _) | exact Kb.of_gr (IsGr.gapp3 _ _ _ _ _ _ _) | refine Kb.grow ?_ _ _ | refine Kb.drew_l ?_ | refine Kb.drew_r ?_)
    case rest =>
      obtain ⟨g, h, xs, ys, us, vs, xa, ya, ua, va, xn, xc, yn, yc, un, uc, vn, vc, rfl, rfl, kg, kh, ⟨x1, x2, x3, x4⟩, ⟨u1, u2, u3, u4⟩, hX, hY, hU, hV, hgr⟩ := hcut
      obtain ⟨W2, hW2⟩ : ∃ W2, W2 = wc := ⟨_, rfl⟩
      subst hW2
      replace a0 := hgr.cell_eq ka a0
      replace a1 := hgr.cell_eq ka a1
      replace a2 := hgr.cell_eq ka a2
      replace a3 := hgr.cell_eq ka a3
      replace a4 := hgr.cell_eq ka a4
      replace a5 := hgr.cell_eq ka a5
      replace a6 := hgr.cell_eq ka a6
      replace a7 := hgr.cell_eq ka a7
      replace e0 := hgr.cell_eq kb e0
      replace e1 := hgr.cell_eq kb e1
      replace e2 := hgr.cell_eq kb e2
      replace e3 := hgr.cell_eq kb e3
      replace e4 := hgr.cell_eq kb e4
      replace e5 := hgr.cell_eq kb e5
      replace e6 := hgr.cell_eq kb e6
      replace e7 := hgr.cell_eq kb e7
      replace ka : w.heap.size < W2.heap.size := Nat.lt_of_lt_of_le ka hgr.size
      replace kb : w.heap.size + 1 < W2.heap.size := Nat.lt_of_lt_of_le kb hgr.size
      replace HG : Hid (IsGr w W2) := HG.out.trans hgr
      have HX := fun w1 (hg : IsGr W2 w1) => hX.gr hg
      have HY := fun w1 (hg : IsGr W2 w1) => hY.gr hg
      have HU := fun w1 (hg : IsGr W2 w1) => hU.gr hg
      have HV := fun w1 (hg : IsGr W2 w1) => hV.gr hg
      have M1 := fun w1 (hg : IsGr W2 w1) => BigMul_any _ _ n c w1 (HX w1 hg) (HV w1 hg) sn sc
      have M2 := fun w1 (hg : IsGr W2 w1) => BigMul_any _ _ q d w1 (HU w1 hg) (HY w1 hg) sm sd
      have F1 := fun w1 v (h : IsBig w1 v (n * c)) => Fits_any v (n * c) w1 h s1
      have F2 := fun w1 v (h : IsBig w1 v (q * d)) => Fits_any v (q * d) w1 h s2
      have RC := fun w1 (hg : IsGr W2 w1) => RefCmp_any _ _ _ _ _ _ _ _ _ _ _ _ _ _ _ _ n d q c w1 (HX w1 hg) (HY w1 hg) (HU w1 hg) (HV w1 hg) sn sd sm sc s1 s2
      clear hX hY hU hV hgr XA XB CC
      by_cases f1 : -57896044618658097711785492504343953926634992332820282019728792003956564819968 ≤ n * c ∧ n * c < 57896044618658097711785492504343953926634992332820282019728792003956564819968
      · rw [fits_t f1] at F1
        by_cases f2 : -57896044618658097711785492504343953926634992332820282019728792003956564819968 ≤ q * d ∧ q * d < 57896044618658097711785492504343953926634992332820282019728792003956564819968
        · rw [fits_t f2] at F2
          by_cases h1 : 0 < d
          · by_cases h2 : 0 < c
            · obtain ⟨rfl, hr⟩ : ok = true ∧ r = cmpI (n * c) (q * d) := by
                rcases hT with ⟨k1, _, k2⟩ | ⟨_, k, _⟩
                · exact ⟨k1, k2⟩
                · exact absurd ⟨h1, h2, f1, f2⟩ k
              rw [← hr] at RC
              rw [show decide (0 < d) = true by simp [h1]] at R2
              rw [show decide (0 < c) = true by simp [h2]] at Q2
              clear hT hr f1 f2 h1 h2
              go_wp2_with fail
              refine (M1 _ ?_).mono ?_
              exact (by with_reducible repeat (first | exact IsGr.refl _ | refine IsGr.gr ?_ _ _ | refine IsGr.alloc ?_ _ | refine IsGr.drew ?_ | refine IsGr.drewN ?_ _))
              rintro e w1 ⟨p, rfl, hp, os4, m4, rfl⟩
              (try simp only [Gr.of_drew] at hp); (try simp only [Gr.gr] at hp); (try simp only [Array.append_assoc] at hp)
              obtain ⟨ps, pa, pn, pc, rfl⟩ := hp.shape
              go_wp2_with fail
              refine (F1 _ _ (hp.gr ?_)).mono ?_
              exact (by with_reducible repeat (first | exact IsGr.refl _ | exact IsGr.gapp0 _ _ _ _ | exact IsGr.gapp1 _ _ _ _ _ | exact IsGr.gapp2 _ _ _ _ _ _ | exact IsGr.gapp3 _ _ _ _ _ _ _ | exact IsGr.gapp4 _ _ _ _ _ _ _ _ | refine IsGr.gr ?_ _ _ | refine IsGr.alloc ?_ _ | refine IsGr.drew ?_))
              rintro e w1 ⟨rfl, os5, m5, rfl⟩
              go_wp2_with fail
              refine (M2 _ ?_).mono ?_
              exact (by with_reducible repeat (first | exact IsGr.refl _ | refine IsGr.gr ?_ _ _ | refine IsGr.alloc ?_ _ | refine IsGr.drew ?_ | refine IsGr.drewN ?_ _))
              rintro e w1 ⟨t, rfl, ht, os6, m6, rfl⟩
              (try simp only [Gr.of_drew] at ht); (try simp only [Gr.gr] at ht); (try simp only [Array.append_assoc] at ht)
              obtain ⟨ts, ta, tn, tc, rfl⟩ := ht.shape
              go_wp2_with fail
              refine (F2 _ _ (ht.gr ?_)).mono ?_
              exact (by with_reducible repeat (first | exact IsGr.refl _ | exact IsGr.gapp0 _ _ _ _ | exact IsGr.gapp1 _ _ _ _ _ | exact IsGr.gapp2 _ _ _ _ _ _ | exact IsGr.gapp3 _ _ _ _ _ _ _ | exact IsGr.gapp4 _ _ _ _ _ _ _ _ | refine IsGr.gr ?_ _ _ | refine IsGr.alloc ?_ _ | refine IsGr.drew ?_))
              rintro e w1 ⟨rfl, os7, m7, rfl⟩
              go_wp2_with fail
              refine (R2 _).mono ?_
              rintro e w1 ⟨rfl, os8, m8, rfl⟩
              go_wp2_with fail
              refine (Q2 _).mono ?_
              rintro e w1 ⟨rfl, os9, m9, rfl⟩
              go_wp2_with fail
              refine (RC _ ?_).mono ?_
              exact (by with_reducible repeat (first | exact IsGr.refl _ | refine IsGr.gr ?_ _ _ | refine IsGr.alloc ?_ _ | refine IsGr.drew ?_ | refine IsGr.drewN ?_ _))
              rintro e w1 ⟨rfl, os11, m11, rfl⟩
              go_wp2_with fail
              refine (CA _).mono ?_
              rintro e w1 ⟨rfl, os10, m10, rfl⟩
              go_wp2
              go_ret
              exact ⟨rfl, HG.out.trans (by with_reducible repeat (first | exact IsGr.refl _ | refine IsGr.gr ?_ _ _ | refine IsGr.alloc ?_ _ | refine IsGr.drew ?_ | refine IsGr.drewN ?_ _))⟩
            · rw [show decide (0 < d) = true by simp [h1]] at R2
              rw [show decide (0 < c) = false by simp; omega] at Q2
              obtain ⟨rfl, rfl⟩ : ok = false ∧ r = 0 := by
                rcases hT with ⟨_, k, _⟩ | ⟨k1, _, k2⟩
                · exact absurd k (fun k => h2 k.2.1)
                · exact ⟨k1, k2⟩
              clear hT
              clear f1 f2 h1 h2
              go_wp2_with fail
              refine (M1 _ ?_).mono ?_
              exact (by with_reducible repeat (first | exact IsGr.refl _ | refine IsGr.gr ?_ _ _ | refine IsGr.alloc ?_ _ | refine IsGr.drew ?_ | refine IsGr.drewN ?_ _))
              rintro e w1 ⟨p, rfl, hp, os4, m4, rfl⟩
              (try simp only [Gr.of_drew] at hp); (try simp only [Gr.gr] at hp); (try simp only [Array.append_assoc] at hp)
              obtain ⟨ps, pa, pn, pc, rfl⟩ := hp.shape
              go_wp2_with fail
              refine (F1 _ _ (hp.gr ?_)).mono ?_
              exact (by with_reducible repeat (first | exact IsGr.refl _ | exact IsGr.gapp0 _ _ _ _ | exact IsGr.gapp1 _ _ _ _ _ | exact IsGr.gapp2 _ _ _ _ _ _ | exact IsGr.gapp3 _ _ _ _ _ _ _ | exact IsGr.gapp4 _ _ _ _ _ _ _ _ | refine IsGr.gr ?_ _ _ | refine IsGr.alloc ?_ _ | refine IsGr.drew ?_))
              rintro e w1 ⟨rfl, os5, m5, rfl⟩
              go_wp2_with fail
              refine (M2 _ ?_).mono ?_
              exact (by with_reducible repeat (first | exact IsGr.refl _ | refine IsGr.gr ?_ _ _ | refine IsGr.alloc ?_ _ | refine IsGr.drew ?_ | refine IsGr.drewN ?_ _))
              rintro e w1 ⟨t, rfl, ht, os6, m6, rfl⟩
              (try simp only [Gr.of_drew] at ht); (try simp only [Gr.gr] at ht); (try simp only [Array.append_assoc] at ht)
              obtain ⟨ts, ta, tn, tc, rfl⟩ := ht.shape
              go_wp2_with fail
              refine (F2 _ _ (ht.gr ?_)).mono ?_
              exact (by with_reducible repeat (first | exact IsGr.refl _ | exact IsGr.gapp0 _ _ _ _ | exact IsGr.gapp1 _ _ _ _ _ | exact IsGr.gapp2 _ _ _ _ _ _ | exact IsGr.gapp3 _ _ _ _ _ _ _ | exact IsGr.gapp4 _ _ _ _ _ _ _ _ | refine IsGr.gr ?_ _ _ | refine IsGr.alloc ?_ _ | refine IsGr.drew ?_))
              rintro e w1 ⟨rfl, os7, m7, rfl⟩
              go_wp2_with fail
              refine (R2 _).mono ?_
              rintro e w1 ⟨rfl, os8, m8, rfl⟩
              go_wp2_with fail
              refine (Q2 _).mono ?_
              rintro e w1 ⟨rfl, os9, m9, rfl⟩
              go_wp2_with fail
              refine (CA _).mono ?_
              rintro e w1 ⟨rfl, os10, m10, rfl⟩
              go_wp2
              go_ret
              exact ⟨rfl, HG.out.trans (by with_reducible repeat (first | exact IsGr.refl _ | refine IsGr.gr ?_ _ _ | refine IsGr.alloc ?_ _ | refine IsGr.drew ?_ | refine IsGr.drewN ?_ _))⟩
          · rw [show decide (0 < d) = false by simp; omega] at R2
            obtain ⟨rfl, rfl⟩ : ok = false ∧ r = 0 := by
              rcases hT with ⟨_, k, _⟩ | ⟨k1, _, k2⟩
              · exact absurd k (fun k => h1 k.1)
              · exact ⟨k1, k2⟩
            clear hT
            clear f1 f2 h1
            go_wp2_with fail
            refine (M1 _ ?_).mono ?_
            exact (by with_reducible repeat (first | exact IsGr.refl _ | refine IsGr.gr ?_ _ _ | refine IsGr.alloc ?_ _ | refine IsGr.drew ?_ | refine IsGr.drewN ?_ _))
            rintro e w1 ⟨p, rfl, hp, os4, m4, rfl⟩
            (try simp only [Gr.of_drew] at hp); (try simp only [Gr.gr] at hp); (try simp only [Array.append_assoc] at hp)
            obtain ⟨ps, pa, pn, pc, rfl⟩ := hp.shape
            go_wp2_with fail
            refine (F1 _ _ (hp.gr ?_)).mono ?_
            exact (by with_reducible repeat (first | exact IsGr.refl _ | exact IsGr.gapp0 _ _ _ _ | exact IsGr.gapp1 _ _ _ _ _ | exact IsGr.gapp2 _ _ _ _ _ _ | exact IsGr.gapp3 _ _ _ _ _ _ _ | exact IsGr.gapp4 _ _ _ _ _ _ _ _ | refine IsGr.gr ?_ _ _ | refine IsGr.alloc ?_ _ | refine IsGr.drew ?_))
            rintro e w1 ⟨rfl, os5, m5, rfl⟩
            go_wp2_with fail
            refine (M2 _ ?_).mono ?_
            exact (by with_reducible repeat (first | exact IsGr.refl _ | refine IsGr.gr ?_ _ _ | refine IsGr.alloc ?_ _ | refine IsGr.drew ?_ | refine IsGr.drewN ?_ _))
            rintro e w1 ⟨t, rfl, ht, os6, m6, rfl⟩
            (try simp only [Gr.of_drew] at ht); (try simp only [Gr.gr] at ht); (try simp only [Array.append_assoc] at ht)
            obtain ⟨ts, ta, tn, tc, rfl⟩ := ht.shape
            go_wp2_with fail
            refine (F2 _ _ (ht.gr ?_)).mono ?_
            exact (by with_reducible repeat (first | exact IsGr.refl _ | exact IsGr.gapp0 _ _ _ _ | exact IsGr.gapp1 _ _ _ _ _ | exact IsGr.gapp2 _ _ _ _ _ _ | exact IsGr.gapp3 _ _ _ _ _ _ _ | exact IsGr.gapp4 _ _ _ _ _ _ _ _ | refine IsGr.gr ?_ _ _ | refine IsGr.alloc ?_ _ | refine IsGr.drew ?_))
            rintro e w1 ⟨rfl, os7, m7, rfl⟩
            go_wp2_with fail
            refine (R2 _).mono ?_
            rintro e w1 ⟨rfl, os8, m8, rfl⟩
            go_wp2_with fail
            refine (CA _).mono ?_
            rintro e w1 ⟨rfl, os10, m10, rfl⟩
            go_wp2
            go_ret
            exact ⟨rfl, HG.out.trans (by with_reducible repeat (first | exact IsGr.refl _ | refine IsGr.gr ?_ _ _ | refine IsGr.alloc ?_ _ | refine IsGr.drew ?_ | refine IsGr.drewN ?_ _))⟩
        · rw [fits_f f2] at F2
          obtain ⟨rfl, rfl⟩ : ok = false ∧ r = 0 := by
            rcases hT with ⟨_, k, _⟩ | ⟨k1, _, k2⟩
            · exact absurd k (fun k => f2 k.2.2.2)
            · exact ⟨k1, k2⟩
          clear hT
          clear f1 f2
          by_cases h1 : 0 < d
          · rw [show decide (0 < d) = true by simp [h1]] at R2
            clear h1
            by_cases h2 : 0 < c
            · rw [show decide (0 < c) = true by simp [h2]] at Q2
              clear h2
              go_wp2_with fail
              refine (M1 _ ?_).mono ?_
              exact (by with_reducible repeat (first | exact IsGr.refl _ | refine IsGr.gr ?_ _ _ | refine IsGr.alloc ?_ _ | refine IsGr.drew ?_ | refine IsGr.drewN ?_ _))
              rintro e w1 ⟨p, rfl, hp, os4, m4, rfl⟩
              (try simp only [Gr.of_drew] at hp); (try simp only [Gr.gr] at hp); (try simp only [Array.append_assoc] at hp)
              obtain ⟨ps, pa, pn, pc, rfl⟩ := hp.shape
              go_wp2_with fail
              refine (F1 _ _ (hp.gr ?_)).mono ?_
              exact (by with_reducible repeat (first | exact IsGr.refl _ | exact IsGr.gapp0 _ _ _ _ | exact IsGr.gapp1 _ _ _ _ _ | exact IsGr.gapp2 _ _ _ _ _ _ | exact IsGr.gapp3 _ _ _ _ _ _ _ | exact IsGr.gapp4 _ _ _ _ _ _ _ _ | refine IsGr.gr ?_ _ _ | refine IsGr.alloc ?_ _ | refine IsGr.drew ?_))
              rintro e w1 ⟨rfl, os5, m5, rfl⟩
              go_wp2_with fail
              refine (M2 _ ?_).mono ?_
              exact (by with_reducible repeat (first | exact IsGr.refl _ | refine IsGr.gr ?_ _ _ | refine IsGr.alloc ?_ _ | refine IsGr.drew ?_ | refine IsGr.drewN ?_ _))
              rintro e w1 ⟨t, rfl, ht, os6, m6, rfl⟩
              (try simp only [Gr.of_drew] at ht); (try simp only [Gr.gr] at ht); (try simp only [Array.append_assoc] at ht)
              obtain ⟨ts, ta, tn, tc, rfl⟩ := ht.shape
              go_wp2_with fail
              refine (F2 _ _ (ht.gr ?_)).mono ?_
              exact (by with_reducible repeat (first | exact IsGr.refl _ | exact IsGr.gapp0 _ _ _ _ | exact IsGr.gapp1 _ _ _ _ _ | exact IsGr.gapp2 _ _ _ _ _ _ | exact IsGr.gapp3 _ _ _ _ _ _ _ | exact IsGr.gapp4 _ _ _ _ _ _ _ _ | refine IsGr.gr ?_ _ _ | refine IsGr.alloc ?_ _ | refine IsGr.drew ?_))
              rintro e w1 ⟨rfl, os7, m7, rfl⟩
              go_wp2_with fail
              refine (R2 _).mono ?_
              rintro e w1 ⟨rfl, os8, m8, rfl⟩
              go_wp2_with fail
              refine (Q2 _).mono ?_
              rintro e w1 ⟨rfl, os9, m9, rfl⟩
              go_wp2_with fail
              refine (CA _).mono ?_
              rintro e w1 ⟨rfl, os10, m10, rfl⟩
              go_wp2
              go_ret
              exact ⟨rfl, HG.out.trans (by with_reducible repeat (first | exact IsGr.refl _ | refine IsGr.gr ?_ _ _ | refine IsGr.alloc ?_ _ | refine IsGr.drew ?_ | refine IsGr.drewN ?_ _))⟩
            · rw [show decide (0 < c) = false by simp; omega] at Q2
              clear h2
              go_wp2_with fail
              refine (M1 _ ?_).mono ?_
              exact (by with_reducible repeat (first | exact IsGr.refl _ | refine IsGr.gr ?_ _ _ | refine IsGr.alloc ?_ _ | refine IsGr.drew ?_ | refine IsGr.drewN ?_ _))
              rintro e w1 ⟨p, rfl, hp, os4, m4, rfl⟩
              (try simp only [Gr.of_drew] at hp); (try simp only [Gr.gr] at hp); (try simp only [Array.append_assoc] at hp)
              obtain ⟨ps, pa, pn, pc, rfl⟩ := hp.shape
              go_wp2_with fail
              refine (F1 _ _ (hp.gr ?_)).mono ?_
              exact (by with_reducible repeat (first | exact IsGr.refl _ | exact IsGr.gapp0 _ _ _ _ | exact IsGr.gapp1 _ _ _ _ _ | exact IsGr.gapp2 _ _ _ _ _ _ | exact IsGr.gapp3 _ _ _ _ _ _ _ | exact IsGr.gapp4 _ _ _ _ _ _ _ _ | refine IsGr.gr ?_ _ _ | refine IsGr.alloc ?_ _ | refine IsGr.drew ?_))
              rintro e w1 ⟨rfl, os5, m5, rfl⟩
              go_wp2_with fail
              refine (M2 _ ?_).mono ?_
              exact (by with_reducible repeat (first | exact IsGr.refl _ | refine IsGr.gr ?_ _ _ | refine IsGr.alloc ?_ _ | refine IsGr.drew ?_ | refine IsGr.drewN ?_ _))
              rintro e w1 ⟨t, rfl, ht, os6, m6, rfl⟩
              (try simp only [Gr.of_drew] at ht); (try simp only [Gr.gr] at ht); (try simp only [Array.append_assoc] at ht)
              obtain ⟨ts, ta, tn, tc, rfl⟩ := ht.shape
              go_wp2_with fail
              refine (F2 _ _ (ht.gr ?_)).mono ?_
              exact (by with_reducible repeat (first | exact IsGr.refl _ | exact IsGr.gapp0 _ _ _ _ | exact IsGr.gapp1 _ _ _ _ _ | exact IsGr.gapp2 _ _ _ _ _ _ | exact IsGr.gapp3 _ _ _ _ _ _ _ | exact IsGr.gapp4 _ _ _ _ _ _ _ _ | refine IsGr.gr ?_ _ _ | refine IsGr.alloc ?_ _ | refine IsGr.drew ?_))
              rintro e w1 ⟨rfl, os7, m7, rfl⟩
              go_wp2_with fail
              refine (R2 _).mono ?_
              rintro e w1 ⟨rfl, os8, m8, rfl⟩
              go_wp2_with fail
              refine (Q2 _).mono ?_
              rintro e w1 ⟨rfl, os9, m9, rfl⟩
              go_wp2_with fail
              refine (CA _).mono ?_
              rintro e w1 ⟨rfl, os10, m10, rfl⟩
              go_wp2
              go_ret
              exact ⟨rfl, HG.out.trans (by with_reducible repeat (first | exact IsGr.refl _ | refine IsGr.gr ?_ _ _ | refine IsGr.alloc ?_ _ | refine IsGr.drew ?_ | refine IsGr.drewN ?_ _))⟩
          · rw [show decide (0 < d) = false by simp; omega] at R2
            clear h1
            go_wp2_with fail
            refine (M1 _ ?_).mono ?_
            exact (by with_reducible repeat (first | exact IsGr.refl _ | refine IsGr.gr ?_ _ _ | refine IsGr.alloc ?_ _ | refine IsGr.drew ?_ | refine IsGr.drewN ?_ _))
            rintro e w1 ⟨p, rfl, hp, os4, m4, rfl⟩
            (try simp only [Gr.of_drew] at hp); (try simp only [Gr.gr] at hp); (try simp only [Array.append_assoc] at hp)
            obtain ⟨ps, pa, pn, pc, rfl⟩ := hp.shape
            go_wp2_with fail
            refine (F1 _ _ (hp.gr ?_)).mono ?_
            exact (by with_reducible repeat (first | exact IsGr.refl _ | exact IsGr.gapp0 _ _ _ _ | exact IsGr.gapp1 _ _ _ _ _ | exact IsGr.gapp2 _ _ _ _ _ _ | exact IsGr.gapp3 _ _ _ _ _ _ _ | exact IsGr.gapp4 _ _ _ _ _ _ _ _ | refine IsGr.gr ?_ _ _ | refine IsGr.alloc ?_ _ | refine IsGr.drew ?_))
            rintro e w1 ⟨rfl, os5, m5, rfl⟩
            go_wp2_with fail
            refine (M2 _ ?_).mono ?_
            exact (by with_reducible repeat (first | exact IsGr.refl _ | refine IsGr.gr ?_ _ _ | refine IsGr.alloc ?_ _ | refine IsGr.drew ?_ | refine IsGr.drewN ?_ _))
            rintro e w1 ⟨t, rfl, ht, os6, m6, rfl⟩
            (try simp only [Gr.of_drew] at ht); (try simp only [Gr.gr] at ht); (try simp only [Array.append_assoc] at ht)
            obtain ⟨ts, ta, tn, tc, rfl⟩ := ht.shape
            go_wp2_with fail
            refine (F2 _ _ (ht.gr ?_)).mono ?_
            exact (by with_reducible repeat (first | exact IsGr.refl _ | exact IsGr.gapp0 _ _ _ _ | exact IsGr.gapp1 _ _ _ _ _ | exact IsGr.gapp2 _ _ _ _ _ _ | exact IsGr.gapp3 _ _ _ _ _ _ _ | exact IsGr.gapp4 _ _ _ _ _ _ _ _ | refine IsGr.gr ?_ _ _ | refine IsGr.alloc ?_ _ | refine IsGr.drew ?_))
            rintro e w1 ⟨rfl, os7, m7, rfl⟩
            go_wp2_with fail
            refine (R2 _).mono ?_
            rintro e w1 ⟨rfl, os8, m8, rfl⟩
            go_wp2_with fail
            refine (CA _).mono ?_
            rintro e w1 ⟨rfl, os10, m10, rfl⟩
            go_wp2
            go_ret
            exact ⟨rfl, HG.out.trans (by with_reducible repeat (first | exact IsGr.refl _ | refine IsGr.gr ?_ _ _ | refine IsGr.alloc ?_ _ | refine IsGr.drew ?_ | refine IsGr.drewN ?_ _))⟩
      · rw [fits_f f1] at F1
        obtain ⟨rfl, rfl⟩ : ok = false ∧ r = 0 := by
          rcases hT with ⟨_, k, _⟩ | ⟨k1, _, k2⟩
          · exact absurd k (fun k => f1 k.2.2.1)
          · exact ⟨k1, k2⟩
        clear hT
        clear f1
        by_cases h1 : 0 < d
        · rw [show decide (0 < d) = true by simp [h1]] at R2
          clear h1
          by_cases h2 : 0 < c
          · rw [show decide (0 < c) = true by simp [h2]] at Q2
            clear h2
            go_wp2_with fail
            refine (M1 _ ?_).mono ?_
            exact (by with_reducible repeat (first | exact IsGr.refl _ | refine IsGr.gr ?_ _ _ | refine IsGr.alloc ?_ _ | refine IsGr.drew ?_ | refine IsGr.drewN ?_ _))
            rintro e w1 ⟨p, rfl, hp, os4, m4, rfl⟩
            (try simp only [Gr.of_drew] at hp); (try simp only [Gr.gr] at hp); (try simp only [Array.append_assoc] at hp)
            obtain ⟨ps, pa, pn, pc, rfl⟩ := hp.shape
            go_wp2_with fail
            refine (F1 _ _ (hp.gr ?_)).mono ?_
            exact (by with_reducible repeat (first | exact IsGr.refl _ | exact IsGr.gapp0 _ _ _ _ | exact IsGr.gapp1 _ _ _ _ _ | exact IsGr.gapp2 _ _ _ _ _ _ | exact IsGr.gapp3 _ _ _ _ _ _ _ | exact IsGr.gapp4 _ _ _ _ _ _ _ _ | refine IsGr.gr ?_ _ _ | refine IsGr.alloc ?_ _ | refine IsGr.drew ?_))
            rintro e w1 ⟨rfl, os5, m5, rfl⟩
            go_wp2_with fail
            refine (R2 _).mono ?_
            rintro e w1 ⟨rfl, os8, m8, rfl⟩
            go_wp2_with fail
            refine (Q2 _).mono ?_
            rintro e w1 ⟨rfl, os9, m9, rfl⟩
            go_wp2_with fail
            refine (CA _).mono ?_
            rintro e w1 ⟨rfl, os10, m10, rfl⟩
            go_wp2
            go_ret
            exact ⟨rfl, HG.out.trans (by with_reducible repeat (first | exact IsGr.refl _ | refine IsGr.gr ?_ _ _ | refine IsGr.alloc ?_ _ | refine IsGr.drew ?_ | refine IsGr.drewN ?_ _))⟩
          · rw [show decide (0 < c) = false by simp; omega] at Q2
            clear h2
            go_wp2_with fail
            refine (M1 _ ?_).mono ?_
            exact (by with_reducible repeat (first | exact IsGr.refl _ | refine IsGr.gr ?_ _ _ | refine IsGr.alloc ?_ _ | refine IsGr.drew ?_ | refine IsGr.drewN ?_ _))
            rintro e w1 ⟨p, rfl, hp, os4, m4, rfl⟩
            (try simp only [Gr.of_drew] at hp); (try simp only [Gr.gr] at hp); (try simp only [Array.append_assoc] at hp)
            obtain ⟨ps, pa, pn, pc, rfl⟩ := hp.shape
            go_wp2_with fail
            refine (F1 _ _ (hp.gr ?_)).mono ?_
            exact (by with_reducible repeat (first | exact IsGr.refl _ | exact IsGr.gapp0 _ _ _ _ | exact IsGr.gapp1 _ _ _ _ _ | exact IsGr.gapp2 _ _ _ _ _ _ | exact IsGr.gapp3 _ _ _ _ _ _ _ | exact IsGr.gapp4 _ _ _ _ _ _ _ _ | refine IsGr.gr ?_ _ _ | refine IsGr.alloc ?_ _ | refine IsGr.drew ?_))
            rintro e w1 ⟨rfl, os5, m5, rfl⟩
            go_wp2_with fail
            refine (R2 _).mono ?_
            rintro e w1 ⟨rfl, os8, m8, rfl⟩
            go_wp2_with fail
            refine (Q2 _).mono ?_
            rintro e w1 ⟨rfl, os9, m9, rfl⟩
            go_wp2_with fail
            refine (CA _).mono ?_
            rintro e w1 ⟨rfl, os10, m10, rfl⟩
            go_wp2
            go_ret
            exact ⟨rfl, HG.out.trans (by with_reducible repeat (first | exact IsGr.refl _ | refine IsGr.gr ?_ _ _ | refine IsGr.alloc ?_ _ | refine IsGr.drew ?_ | refine IsGr.drewN ?_ _))⟩
        · rw [show decide (0 < d) = false by simp; omega] at R2
          clear h1
          go_wp2_with fail
          refine (M1 _ ?_).mono ?_
          exact (by with_reducible repeat (first | exact IsGr.refl _ | refine IsGr.gr ?_ _ _ | refine IsGr.alloc ?_ _ | refine IsGr.drew ?_ | refine IsGr.drewN ?_ _))
          rintro e w1 ⟨p, rfl, hp, os4, m4, rfl⟩
          (try simp only [Gr.of_drew] at hp); (try simp only [Gr.gr] at hp); (try simp only [Array.append_assoc] at hp)
          obtain ⟨ps, pa, pn, pc, rfl⟩ := hp.shape
          go_wp2_with fail
          refine (F1 _ _ (hp.gr ?_)).mono ?_
          exact (by with_reducible repeat (first | exact IsGr.refl _ | exact IsGr.gapp0 _ _ _ _ | exact IsGr.gapp1 _ _ _ _ _ | exact IsGr.gapp2 _ _ _ _ _ _ | exact IsGr.gapp3 _ _ _ _ _ _ _ | exact IsGr.gapp4 _ _ _ _ _ _ _ _ | refine IsGr.gr ?_ _ _ | refine IsGr.alloc ?_ _ | refine IsGr.drew ?_))
          rintro e w1 ⟨rfl, os5, m5, rfl⟩
          go_wp2_with fail
          refine (R2 _).mono ?_
          rintro e w1 ⟨rfl, os8, m8, rfl⟩
          go_wp2_with fail
          refine (CA _).mono ?_
          rintro e w1 ⟨rfl, os10, m10, rfl⟩
          go_wp2
          go_ret
          exact ⟨rfl, HG.out.trans (by with_reducible repeat (first | exact IsGr.refl _ | refine IsGr.gr ?_ _ _ | refine IsGr.alloc ?_ _ | refine IsGr.drew ?_ | refine IsGr.drewN ?_ _))⟩
end Go.Proofs.Ytpdpofgmedoelaa
