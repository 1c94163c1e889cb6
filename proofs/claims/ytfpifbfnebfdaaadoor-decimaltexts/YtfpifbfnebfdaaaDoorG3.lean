/- A world that has grown, grown further: the blocks written out. -/
import Derived.Test.YtfpifbfnebfdaaaDoorG1
namespace Go.Proofs.YtfpifbfnebfdaaaDoor
theorem IsGr.gapp0 (W : World) (a : Array Obj) (n m : Nat) : IsGr (Gr W a n) (Gr W a m) := ⟨#[], m, by simp [Gr.gr]⟩
theorem IsGr.gapp1 (W : World) (a b : Array Obj) (n m : Nat) : IsGr (Gr W a n) (Gr W (a ++ b) m) := ⟨b, m, by rw [Gr.gr]⟩
theorem IsGr.gapp2 (W : World) (a b c : Array Obj) (n m : Nat) : IsGr (Gr W (a ++ b) n) (Gr W (a ++ (b ++ c)) m) := ⟨c, m, by rw [Gr.gr, Array.append_assoc]⟩
theorem IsGr.gapp3 (W : World) (a b c d : Array Obj) (n m : Nat) : IsGr (Gr W (a ++ (b ++ c)) n) (Gr W (a ++ (b ++ (c ++ d))) m) := ⟨d, m, by rw [Gr.gr, Array.append_assoc, Array.append_assoc]⟩
theorem IsGr.gapp4 (W : World) (a b c d e : Array Obj) (n m : Nat) : IsGr (Gr W (a ++ (b ++ (c ++ d))) n) (Gr W (a ++ (b ++ (c ++ (d ++ e)))) m) := ⟨e, m, by rw [Gr.gr, Array.append_assoc, Array.append_assoc, Array.append_assoc]⟩
theorem IsGr.gapp5 (W : World) (a b c d e f : Array Obj) (n m : Nat) : IsGr (Gr W (a ++ (b ++ (c ++ (d ++ e)))) n) (Gr W (a ++ (b ++ (c ++ (d ++ (e ++ f))))) m) := ⟨f, m, by rw [Gr.gr, Array.append_assoc, Array.append_assoc, Array.append_assoc, Array.append_assoc]⟩
theorem IsGr.gapp6 (W : World) (a b c d e f g : Array Obj) (n m : Nat) : IsGr (Gr W (a ++ (b ++ (c ++ (d ++ (e ++ f))))) n) (Gr W (a ++ (b ++ (c ++ (d ++ (e ++ (f ++ g)))))) m) := ⟨g, m, by rw [Gr.gr, Array.append_assoc, Array.append_assoc, Array.append_assoc, Array.append_assoc, Array.append_assoc]⟩
theorem IsGr.gapp7 (W : World) (a b c d e f g h : Array Obj) (n m : Nat) : IsGr (Gr W (a ++ (b ++ (c ++ (d ++ (e ++ (f ++ g)))))) n) (Gr W (a ++ (b ++ (c ++ (d ++ (e ++ (f ++ (g ++ h))))))) m) := ⟨h, m, by rw [Gr.gr, Array.append_assoc, Array.append_assoc, Array.append_assoc, Array.append_assoc, Array.append_assoc, Array.append_assoc]⟩
theorem IsGr.gapp8 (W : World) (a b c d e f g h i : Array Obj) (n m : Nat) : IsGr (Gr W (a ++ (b ++ (c ++ (d ++ (e ++ (f ++ (g ++ h))))))) n) (Gr W (a ++ (b ++ (c ++ (d ++ (e ++ (f ++ (g ++ (h ++ i)))))))) m) := ⟨i, m, by rw [Gr.gr, Array.append_assoc, Array.append_assoc, Array.append_assoc, Array.append_assoc, Array.append_assoc, Array.append_assoc, Array.append_assoc]⟩
end Go.Proofs.YtfpifbfnebfdaaaDoor
