/-
  Rows of texts in memory: what laws.heldStringS and laws.markStringS answer of a row, or of none; append of a text to a row of our own. Conditions: at most 1,048,576 texts.
-/
import Derived.Test.YtmmmadehifajlaaDoorStrs
namespace Go.Proofs.YtmmmadehifajlaaDoor.strs
open Go.RowKit Go.Joins
open Go.Proofs.YtmmmadehifajlaaDoor.base Go.Proofs.YtmmmadehifajlaaDoor.blk
set_option linter.unusedVariables false

/-- texts that may be written: none, or a block of their own -/
def OwnVT (w : World) (a : Option Addr) (ts : List ByteArray) : Prop := ts = [] ∨ ∃ g, a = some ⟨g, 0, none⟩ ∧ OwnT w g ts
theorem OwnVT.rd {w : World} {a : Option Addr} {ts : List ByteArray} (h : OwnVT w a ts) : RdT w a ts := by
  rcases h with rfl | ⟨g, rfl, ho⟩
  · exact RdT.nil w a
  · exact ho.rd
theorem OwnVT.below {w w' : World} {a : Option Addr} {ts : List ByteArray} (h : OwnVT w a ts) (hb : Below w.heap.size w w') : OwnVT w' a ts := by
  rcases h with rfl | ⟨g, rfl, ho⟩
  · exact .inl rfl
  · exact .inr ⟨g, rfl, ho.below hb⟩
theorem OwnVT.alloc {w : World} {a : Option Addr} {ts : List ByteArray} (h : OwnVT w a ts) (o : Obj) : OwnVT (w.alloc o) a ts := h.below ((Below.refl _ _).alloc (Nat.le_refl _) o)
def GrewT (w w' : World) (a : Option Addr) : Prop := w.grownBy w' (a.map (·.block))
theorem grew_none {w w' : World} {r : Option Nat} (h : w' = w) : w.grownBy w' r := by subst h; exact grew_refl _ _

def appSem (ts : Array TypeId) (ty : TypeId) (vs : Array Value) : Sem Value := Builtin.append_ ts ty vs
theorem app_fold (ts : Array TypeId) (ty : TypeId) (vs : Array Value) : Builtin.append_ ts ty vs = appSem ts ty vs := rfl
theorem info_parts {o : Option TypeInfo} {z : Option Value} {s b : Nat} (h : o.map (fun i => (i.zero, i.size, i.bytes)) = some (z, s, b)) : ∃ i, o = some i ∧ i.zero = z ∧ i.size = s ∧ i.bytes = b := by
  cases o with
  | none => simp at h
  | some i => simp at h; exact ⟨i, rfl, h.1, h.2.1, h.2.2⟩
theorem infoS : (Tryd.prog.info? 9).map (fun i => (i.zero, i.size, i.bytes)) = some (some (.string ⟨#[]⟩), 1, 16) := by kernel_rfl
theorem ownsRow_form {w : World} {base e n : Nat} {v : Value} {xs : List Value} (h : w.ownsRow base e 1 v n xs) (hn : 0 < n) : ∃ g c, v = .slice (some ⟨g, 0, none⟩) n c := by
  obtain ⟨_, h2⟩ := h
  rcases h2 with ⟨_, h0⟩ | ⟨g, cap, cur, rfl, _⟩
  · omega
  · exact ⟨g, cap, rfl⟩

/-- append of one text to a row of our own -/
theorem appT (W : World) (base : Nat) (v : Value) (n : Nat) (acc : List ByteArray) (t : ByteArray) (hn : acc.length = n) (hown : W.ownsRow base 9 1 v n (acc.map strV)) (hb : base ≤ W.heap.size) (hl : n ≤ 1048576) :
    ∃ g c w2, (appSem #[32, 32] 32 #[v, .slice (some ⟨W.heap.size, 0, none⟩) 1 1]).run Tryd.prog (W.alloc (.cells #[.string t] 9)) = .ok (.slice (some ⟨g, 0, none⟩) (n + 1) c) w2 ∧ w2.ownsRow base 9 1 (.slice (some ⟨g, 0, none⟩) (n + 1) c) (n + 1) ((acc ++ [t]).map strV) ∧ (W.alloc (.cells #[.string t] 9)).grownBy w2 v.ownBlock := by
  subst hn
  obtain ⟨i0, hi, hz0, hz1, hz2⟩ := info_parts infoS
  obtain ⟨v', w2, happ0, hown2, hgrow, _⟩ := run_append_own (P := Tryd.prog) (W.alloc (.cells #[.string t] 9)) base 32 32 9 i0 (.string ⟨#[]⟩) 1 16 Tryd.underlying32 hi hz0 hz1 hz2 rfl (by decide) v acc.length (acc.map strV) (hown.alloc _) ⟨W.heap.size, 0, none⟩ 1 1 [.string t] rfl (by intro j u hj; match j, hj with | 0, hj => simp at hj; subst hj; simp [Addr.add]) (by intro u hu; simp at hu; subst hu; rfl) (by unfold maxLen; omega) (by omega) (by simp; omega)
  obtain ⟨g, c, rfl⟩ := ownsRow_form hown2 (by omega)
  exact ⟨g, c, w2, happ0, by rw [List.map_append]; exact hown2, hgrow⟩
end Go.Proofs.YtmmmadehifajlaaDoor.strs
