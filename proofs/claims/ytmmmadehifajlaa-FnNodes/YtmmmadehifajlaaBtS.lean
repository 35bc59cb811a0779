/-
  What spec.PlacesBytes answers and leaves. Conditions: places that lie in memory, of texts of at most 1,048,576 bytes.
-/
import Derived.Test.YtmmmadehifajlaaBtR
import Derived.Test.YtmmmadehifajlaaPlRS
namespace Go.Proofs.Ytmmmadehifajlaa.plc
open Go.RowKit Go.Joins Go.Sort
open Go.Proofs.Ytmmmadehifajlaa.base Go.Proofs.Ytmmmadehifajlaa.blk Go.Proofs.Ytmmmadehifajlaa.aid
open Go.Proofs.Ytmmmadehifajlaa.row (Rd Own OwnV appSem app_fold)
open Go.Proofs.Ytmmmadehifajlaa.rwPlace (cs el)
set_option linter.unusedVariables false
set_option linter.unusedSimpArgs false
attribute [local go_sem ↓] app_fold conv_fold

/-- bytes that grow while the call runs -/
structure Bt (w wr : World) (g n cap : Nat) (acc : List UInt8) : Prop where
  row : BRow wr w.heap.size g n cap acc
  below : Below w.heap.size w wr
theorem Bt.next {w wr w' : World} {g n cap : Nat} {acc : List UInt8} (h : Bt w wr g n cap acc) (hb : Below wr.heap.size wr w') : Bt w w' g n cap acc := ⟨h.row.below hb, below_trans h.below hb⟩
theorem Bt.add {w wr : World} {g n cap : Nat} {acc : List UInt8} (h : Bt w wr g n cap acc) (s : ByteArray) (hn : n ≤ 1048576) (hs : s.size ≤ 1048576) :
    ∃ g' cap' w2, (appSem #[22, 9] 22 #[.slice (some ⟨g, 0, none⟩) n cap, .string s]).run Try.prog wr = .ok (.slice (some ⟨g', 0, none⟩) (n + s.size) cap') w2 ∧ Bt w w2 g' (n + s.size) cap' (acc ++ s.data.toList) := by
  obtain ⟨g', cap', w2, h1, h2, h3⟩ := brow_add wr w.heap.size g n cap acc s h.row h.below.size hn hs
  exact ⟨g', cap', w2, h1, h2, h.below.grown h3 h.below.size (fun j hj => by cases hj; exact h.row.lo)⟩
theorem bytesP_no {l : List Pl} (h : placesB l = false) : bytesP l = ⟨#[]⟩ := by unfold bytesP; rw [if_neg (by rw [h]; simp)]
end Go.Proofs.Ytmmmadehifajlaa.plc
