/-
  What spec.HashBegin, HashMore, HashEnd and Digest answer and leave. Conditions: at most 1,048,576 numbers, which lie in memory; at most 1,048,576 bytes.
-/
import Derived.Test.YtaepdmeghfbngaaDoorHRightS
import Derived.Test.YtaepdmeghfbngaaDoorHBeginS
import Derived.Test.YtaepdmeghfbngaaDoorEndS
namespace Go.Proofs.YtaepdmeghfbngaaDoor.sha
open Go.RowKit Go.Joins
open Go.Proofs.YtaepdmeghfbngaaDoor.base Go.Proofs.YtaepdmeghfbngaaDoor.word Go.Proofs.YtaepdmeghfbngaaDoor.ints Go.Proofs.YtaepdmeghfbngaaDoor.blk
set_option linter.unusedVariables false
attribute [local go_sem ↓] app_fold

/-- what HashMore tells: State, Rest, Size -/
def moreH (zs : List Int) (r : ByteArray) (size : Int) (t : ByteArray) : List Int × ByteArray × Int :=
  if 20000 < t.size then ([], ⟨#[]⟩, 0)
  else if hRight zs r size = false ∨ 1099511627776 < size + t.size then (zs, r, size)
  else (list8 (after (fn zs) (r ++ t) ((r ++ t).size / 64)), rest (r ++ t), size + t.size)
def endH (zs : List Int) (r : ByteArray) (size : Int) : ByteArray := if hRight zs r size = true then dig (fn zs) r size else ⟨#[]⟩
def digest (t : ByteArray) : ByteArray := if 20000 < t.size then ⟨#[]⟩ else dig (after start t (t.size / 64)) (rest t) t.size

def RPost (w : World) (o : List Int × ByteArray × Int) (e : Ending) (w' : World) : Prop :=
  ∃ a c, e = .returned (hash a o.1.length c o.2.1 o.2.2) ∧ Rd w' a o.1 ∧ Below w.heap.size w w'

theorem hRight_parts {zs : List Int} {r : ByteArray} {size : Int} (h : hRight zs r size = true) : zs.length = 8 ∧ 0 ≤ size ∧ size ≤ 1099511627776 ∧ (r.size : Int) = size % 64 ∧ r.size < 64 := by
  unfold hRight at h
  simp at h
  omega

/-- append of numbers to an empty row of our own -/
theorem appZ (b0 off cap : Nat) (zs : List Int) (W W' : World) (hW : W' = W ∨ W' = W.drew) (base : Nat) (q : Nat) (hown : W.ownsRow base 2 1 (.slice (some ⟨q, 0, none⟩) 0 0) 0 []) (hb : base ≤ W.heap.size) (hr : Rd W (some ⟨b0, off, none⟩) zs) (hl : zs.length ≤ 1048576) :
    ∃ g c w2, (appSem #[26, 26] 26 #[.slice (some ⟨q, 0, none⟩) 0 0, .slice (some ⟨b0, off, none⟩) zs.length cap]).run Tryd.prog W' = .ok (.slice (some ⟨g, 0, none⟩) zs.length c) w2 ∧ base ≤ g ∧ Rd w2 (some ⟨g, 0, none⟩) zs ∧ W.grownBy w2 (some q) := by
  obtain ⟨i0, hi, hz0, hz1, hz2⟩ := info_parts info2
  have hown' : W'.ownsRow base 2 1 (.slice (some ⟨q, 0, none⟩) 0 0) 0 [] := by rcases hW with rfl | rfl <;> exact hown
  have hc : ∀ j u, (zs.map intV)[j]? = some u → W'.cell? ((⟨b0, off, none⟩ : Addr).add j) = some u := by
    intro j u hj
    rw [List.getElem?_map] at hj
    cases hz : zs[j]? with
    | none => rw [hz] at hj; simp at hj
    | some z =>
      rw [hz] at hj
      simp at hj
      subst hj
      obtain ⟨b', o', e, hc⟩ := hr j z hz
      simp at e
      obtain ⟨rfl, rfl⟩ := e
      rw [Addr.add_lit]
      rcases hW with rfl | rfl <;> exact hc
  obtain ⟨v', w2, happ0, hown2, hgrow, hn⟩ := run_append_own (P := Tryd.prog) W' base 26 26 2 i0 (.int .i64 0) 1 8 Tryd.underlying26 hi hz0 hz1 hz2 rfl (by decide) (.slice (some ⟨q, 0, none⟩) 0 0) 0 [] hown' ⟨b0, off, none⟩ zs.length cap (zs.map intV) (by simp) hc (by intro u hu; rw [List.mem_map] at hu; obtain ⟨j, _, rfl⟩ := hu; rfl) (by unfold maxLen; omega) (by omega) (by rcases hW with rfl | rfl <;> exact hb)
  have h2 := hown2
  obtain ⟨_, h2⟩ := h2
  rcases h2 with ⟨rfl, h0⟩ | ⟨g, c, cur, rfl, hbg, hg, _, _, _, ht⟩
  · simp at hn
  · refine ⟨g, c, w2, by rw [Nat.zero_add] at happ0; exact happ0, hbg, ?_, ?_⟩
    · intro i z hz
      refine ⟨g, 0, rfl, ?_⟩
      have := hown2.cells rfl i (.int .i64 z) (by simp [hz, intV])
      rw [Addr.add_lit, Nat.zero_add] at this
      simpa using this
    · rcases hW with rfl | rfl
      · exact hgrow
      · exact ⟨hgrow.os, hgrow.tape, hgrow.output, hgrow.size, hgrow.block⟩

theorem rpost_set {w W : World} {o : List Int × ByteArray × Int} {a : Option Addr} {c n : Nat} {zs : List Int} {r : ByteArray} {sz : Int} (ho : o = (zs, r, sz)) (hn : zs.length = n) (hr : Rd W a zs) (hb : Below w.heap.size w W) (hne : ∀ b o s, a = some ⟨b, o, s⟩ → b ≠ w.heap.size + 1) (x0 x1 x2 : Value) :
    RPost w o (.returned (hash a n c r sz)) (((W.setCell ⟨w.heap.size + 1, 0, none⟩ x0).setCell ⟨w.heap.size + 1, 1, none⟩ x1).setCell ⟨w.heap.size + 1, 2, none⟩ x2) := by
  subst ho hn
  refine ⟨a, c, rfl, hr.block (fun b o' e hlt => ?_), ((hb.setCell (by simp) _).setCell (by simp) _).setCell (by simp) _⟩
  have := hne b o' none e
  rw [Below.heap_setCell _ _ _ _ (by simpa using this), Below.heap_setCell _ _ _ _ (by simpa using this), Below.heap_setCell _ _ _ _ (by simpa using this)]

end Go.Proofs.YtaepdmeghfbngaaDoor.sha
