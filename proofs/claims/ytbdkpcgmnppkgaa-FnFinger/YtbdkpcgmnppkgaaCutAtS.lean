/-
  What spec.CutAt and laws.toCutting answer and leave; the walks of five laws of chapter 7, with the program's calls as they are asked to answer. Conditions: at most 1,048,576 bytes; what the program's calls answer.
-/
import Derived.Test.YtbdkpcgmnppkgaaCutS
namespace Go.Proofs.Ytbdkpcgmnppkgaa.fing
open Go.RowKit Go.Joins
open Go.Proofs.Ytbdkpcgmnppkgaa.base Go.Proofs.Ytbdkpcgmnppkgaa.blk
set_option linter.unusedVariables false

/-- what CutAt tells -/
def cutT (mn bs mx : Int) (s : ByteArray) : Nat := if 20000 < s.size ∨ cutB mn bs mx = false then 0 else cutN mn.toNat bs.toNat mx.toNat s
theorem cut_nat {mn bs mx : Int} (h : cutB mn bs mx = true) : ∃ a b c : Nat, mn = (a : Int) ∧ bs = (b : Int) ∧ mx = (c : Int) ∧ 16 ≤ a ∧ a ≤ 1000 ∧ b ≤ 12 ∧ a ≤ c ∧ c ≤ 2000 := by
  simp [cutB] at h
  exact ⟨mn.toNat, bs.toNat, mx.toNat, by omega, by omega, by omega, by omega, by omega, by omega, by omega, by omega⟩

set_option maxRecDepth 100000 in
theorem cutAt_any (mn bs mx : Int) (s : ByteArray) (w : World) (hs : s.size ≤ 1048576) :
    Calls Try.prog 26 #[cutV mn bs mx, .string s] w fun e w' => e = .returned (.int .i64 (cutT mn bs mx s : Nat)) ∧ Below w.heap.size w w' := by
  by_cases h1 : 20000 < (s.size : Int)
  · have E := mkHid (show cutT mn bs mx s = 0 by unfold cutT; rw [if_pos (.inl (by omega))])
    unfold cutV
    go_enter Try.func26, Try.ntmps26
    go_wp2
    go_ret
    exact ⟨ret_eq (by rw [E.out]; rfl), below_alloc1 w _⟩
  · have HR := mkHid (fun wx => cutRight_any mn bs mx wx)
    have h1' : (s.size : Int) ≤ 20000 := by omega
    have hd : decide (20000 < (s.size : Int)) = false := decide_eq_false h1
    unfold cutV at HR ⊢
    go_enter Try.func26, Try.ntmps26
    go_wp2_with fail
    refine (HR.out _).mono ?_
    rintro e w1 ⟨rfl, hb1⟩
    have k1 := blk_below (blk_new w (.cells #[.int .i64 mn, .int .i64 bs, .int .i64 mx] 29) w.heap.size rfl) hb1
    have B1 := mkHid (below_allocs (os := [_]) hb1)
    have c0 : w1.cell? ⟨w.heap.size, 0, none⟩ = some (.int .i64 mn) := cell_of_block k1 0
    have c1 : w1.cell? ⟨w.heap.size, 1, none⟩ = some (.int .i64 bs) := cell_of_block k1 1
    have c2 : w1.cell? ⟨w.heap.size, 2, none⟩ = some (.int .i64 mx) := cell_of_block k1 2
    clear hb1 k1 HR
    cases hR : cutB mn bs mx
    · have E := mkHid (show cutT mn bs mx s = 0 by unfold cutT; rw [if_pos (.inr hR)])
      go_wp2
      go_ret
      exact ⟨ret_eq (by rw [E.out]; rfl), B1.out⟩
    · obtain ⟨A, B, C, rfl, rfl, rfl, g1, g2, g3, g4, g5⟩ := cut_nat hR
      have E := mkHid (show cutT A B C s = cutN A B C s by unfold cutT; rw [if_neg (by rw [hR]; simp; omega)]; simp)
      have HC := mkHid (cut_any A B C s w1 g1 g2 g3 g4 g5 hs)
      unfold cutV at HC
      clear hR
      go_wp2_with fail
      refine HC.out.mono ?_
      rintro e w2 ⟨rfl, hb2⟩
      have B2 := mkHid (B1.out.trans (hb2.mono B1.out.size))
      clear hb2 HC
      go_wp2
      go_ret
      exact ⟨ret_eq (by rw [E.out]; rfl), B2.out⟩

set_option maxRecDepth 100000 in
theorem toCut_any (mn bs mx : Int) (w : World) : Calls Try.prog 22 #[cutV mn bs mx] w fun e w' => e = .returned (cutV mn bs mx) ∧ Below w.heap.size w w' := by
  unfold cutV
  go_enter Try.func22, Try.ntmps22
  go_wp2
  exact bodyPost_ret (v := .agg #[.int .i64 mn, .int .i64 bs, .int .i64 mx]) (by simp [results, Try.results22, go_sem]) rfl
    ⟨rfl, by repeat (first | exact Below.refl _ _ | refine Below.alloc ?_ (by first | (simp; done) | (simp; omega)) _ | refine Below.setCell ?_ (by first | (simp; done) | (simp; omega)) _)⟩

def IFinger : Prop := ∀ (s : ByteArray) (w : World), s.size ≤ 1048576 → Calls Try.prog 12 #[.string s] w fun e w' => e = .returned (.int .i64 (fingerT s : Nat)) ∧ Below w.heap.size w w'
def IMoreF : Prop := ∀ (f b : Int) (w : World), -9223372036854775808 ≤ f → f ≤ 9223372036854775807 → -9223372036854775808 ≤ b → b ≤ 9223372036854775807 → Calls Try.prog 14 #[.int .i64 f, .int .i64 b] w fun e w' => e = .returned (.int .i64 (moreT f b : Nat)) ∧ Below w.heap.size w w'
def IRoll : Prop := ∀ (f o i : Int) (w : World), -9223372036854775808 ≤ f → f ≤ 9223372036854775807 → -9223372036854775808 ≤ o → o ≤ 9223372036854775807 → -9223372036854775808 ≤ i → i ≤ 9223372036854775807 → Calls Try.prog 15 #[.int .i64 f, .int .i64 o, .int .i64 i] w fun e w' => e = .returned (.int .i64 (rollT f o i : Nat)) ∧ Below w.heap.size w w'
def ICutRight : Prop := ∀ (mn bs mx : Int) (w : World), Calls Try.prog 23 #[cutV mn bs mx] w fun e w' => e = .returned (.bool (cutB mn bs mx)) ∧ Below w.heap.size w w'
def ICutAt : Prop := ∀ (mn bs mx : Int) (s : ByteArray) (w : World), s.size ≤ 1048576 → Calls Try.prog 20 #[cutV mn bs mx, .string s] w fun e w' => e = .returned (.int .i64 (cutT mn bs mx s : Nat)) ∧ Below w.heap.size w w'

set_option maxRecDepth 100000 in
theorem finger_walk (I : IFinger) (s : ByteArray) (w : World) (hs : (s.size : Int) ≤ 9223372036854775807) :
    Calls Try.prog 6 #[.string s] w fun e w' => e = .returned (.bool true) ∧ Below w.heap.size w w' := by
  go_enter Try.func6, Try.ntmps6
  by_cases h : 1048576 < (s.size : Int)
  · go_wp2
    go_ret
    exact ⟨rfl, Below.refl _ _⟩
  · have II := mkHid (fun wx => I s wx (by omega))
    clear I
    go_wp2_with fail
    refine (finger_any s _ (by omega)).mono ?_
    rintro e w1 ⟨rfl, rfl⟩
    go_wp2_with fail
    refine (II.out _).mono ?_
    rintro e w2 ⟨rfl, hb2⟩
    have B2 := mkHid hb2
    clear hb2 II
    go_wp2
    go_ret
    exact ⟨rfl, B2.out⟩

set_option maxRecDepth 100000 in
theorem moreF_walk (I : IMoreF) (f b : Int) (w : World) (h1 : -9223372036854775808 ≤ f) (h2 : f ≤ 9223372036854775807) (h3 : -9223372036854775808 ≤ b) (h4 : b ≤ 9223372036854775807) :
    Calls Try.prog 7 #[.int .i64 f, .int .i64 b] w fun e w' => e = .returned (.bool true) ∧ Below w.heap.size w w' := by
  have II := mkHid (fun wx => I f b wx h1 h2 h3 h4)
  clear I
  go_enter Try.func7, Try.ntmps7
  go_wp2_with fail
  refine (more_any f b _).mono ?_
  rintro e w1 ⟨rfl, rfl⟩
  go_wp2_with fail
  refine (II.out _).mono ?_
  rintro e w2 ⟨rfl, hb2⟩
  have B2 := mkHid hb2
  clear hb2 II
  go_wp2
  go_ret
  exact ⟨rfl, B2.out⟩

set_option maxRecDepth 100000 in
theorem roll_walk (I : IRoll) (f o i : Int) (w : World) (h1 : -9223372036854775808 ≤ f) (h2 : f ≤ 9223372036854775807) (h3 : -9223372036854775808 ≤ o) (h4 : o ≤ 9223372036854775807) (h5 : -9223372036854775808 ≤ i) (h6 : i ≤ 9223372036854775807) :
    Calls Try.prog 8 #[.int .i64 f, .int .i64 o, .int .i64 i] w fun e w' => e = .returned (.bool true) ∧ Below w.heap.size w w' := by
  have II := mkHid (fun wx => I f o i wx h1 h2 h3 h4 h5 h6)
  clear I
  go_enter Try.func8, Try.ntmps8
  go_wp2_with fail
  refine (roll_any f o i _).mono ?_
  rintro e w1 ⟨rfl, rfl⟩
  go_wp2_with fail
  refine (II.out _).mono ?_
  rintro e w2 ⟨rfl, hb2⟩
  have B2 := mkHid hb2
  clear hb2 II
  go_wp2
  go_ret
  exact ⟨rfl, B2.out⟩

theorem cells3 {w : World} {g : Nat} {a b c : Value} {t : TypeId} (k : w.heap[g]? = some (.cells #[a, b, c] t (0, 0))) : w.cell? ⟨g, 0, none⟩ = some a ∧ w.cell? ⟨g, 1, none⟩ = some b ∧ w.cell? ⟨g, 2, none⟩ = some c :=
  ⟨cell_of_block k 0, cell_of_block k 1, cell_of_block k 2⟩

set_option maxRecDepth 100000 in
theorem cutRight_walk (I : ICutRight) (mn bs mx : Int) (w : World) :
    Calls Try.prog 5 #[cutV mn bs mx] w fun e w' => e = .returned (.bool true) ∧ Below w.heap.size w w' := by
  have II := mkHid (fun wx => I mn bs mx wx)
  have HS := mkHid (fun wx => cutRight_any mn bs mx wx)
  have HT := mkHid (fun wx => toCut_any mn bs mx wx)
  clear I
  unfold cutV at II HS HT ⊢
  go_enter Try.func5, Try.ntmps5
  go_wp2_with fail
  refine (HT.out _).mono ?_
  rintro e w1 ⟨rfl, hb1⟩
  have K1 := mkHid (And.intro (below_allocs (os := [_]) hb1) (blk_below (blk_new w (.cells #[.int .i64 mn, .int .i64 bs, .int .i64 mx] 37) w.heap.size rfl) hb1))
  clear hb1
  go_wp2_with fail
  refine (HS.out _).mono ?_
  rintro e w2 ⟨rfl, hb2⟩
  have K2 := mkHid (And.intro (K1.out.1.trans (hb2.mono K1.out.1.size)) (blk_below K1.out.2 hb2))
  obtain ⟨c0, c1, c2⟩ := cells3 K2.out.2
  clear hb2 K1
  go_wp2_with fail
  refine (HT.out _).mono ?_
  rintro e w3 ⟨rfl, hb3⟩
  have K3 := mkHid (K2.out.1.trans (hb3.mono K2.out.1.size))
  clear hb3 K2 c0 c1 c2
  go_wp2_with fail
  refine (II.out _).mono ?_
  rintro e w4 ⟨rfl, hb4⟩
  have K4 := mkHid (K3.out.trans (hb4.mono K3.out.size))
  clear hb4 K3
  go_wp2
  go_ret
  exact ⟨rfl, K4.out⟩

set_option maxRecDepth 100000 in
theorem cutAt_walk (I : ICutAt) (mn bs mx : Int) (s : ByteArray) (w : World) (hs : (s.size : Int) ≤ 9223372036854775807) :
    Calls Try.prog 9 #[cutV mn bs mx, .string s] w fun e w' => e = .returned (.bool true) ∧ Below w.heap.size w w' := by
  by_cases h : 1048576 < (s.size : Int)
  · unfold cutV
    go_enter Try.func9, Try.ntmps9
    go_wp2
    go_ret
    exact ⟨rfl, below_alloc1 w _⟩
  · have II := mkHid (fun wx => I mn bs mx s wx (by omega))
    have HS := mkHid (fun wx => cutAt_any mn bs mx s wx (by omega))
    have HT := mkHid (fun wx => toCut_any mn bs mx wx)
    clear I
    unfold cutV at II HS HT ⊢
    go_enter Try.func9, Try.ntmps9
    go_wp2_with fail
    refine (HT.out _).mono ?_
    rintro e w1 ⟨rfl, hb1⟩
    have K1 := mkHid (And.intro (below_allocs (os := [_]) hb1) (blk_below (blk_new w (.cells #[.int .i64 mn, .int .i64 bs, .int .i64 mx] 37) w.heap.size rfl) hb1))
    clear hb1
    go_wp2_with fail
    refine (HS.out _).mono ?_
    rintro e w2 ⟨rfl, hb2⟩
    have K2 := mkHid (And.intro (K1.out.1.trans (hb2.mono K1.out.1.size)) (blk_below K1.out.2 hb2))
    obtain ⟨c0, c1, c2⟩ := cells3 K2.out.2
    clear hb2 K1
    go_wp2_with fail
    refine (HT.out _).mono ?_
    rintro e w3 ⟨rfl, hb3⟩
    have K3 := mkHid (K2.out.1.trans (hb3.mono K2.out.1.size))
    clear hb3 K2 c0 c1 c2
    go_wp2_with fail
    refine (II.out _).mono ?_
    rintro e w4 ⟨rfl, hb4⟩
    have K4 := mkHid (K3.out.trans (hb4.mono K3.out.size))
    clear hb4 K3
    go_wp2
    go_ret
    exact ⟨rfl, K4.out⟩
end Go.Proofs.Ytbdkpcgmnppkgaa.fing
