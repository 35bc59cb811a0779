/-
  What spec.l06Pieces and spec.Pieces answer and leave. Conditions: at most 1,048,576 bytes.
-/
import Derived.Test.YtbdkpcgmnppkgaaCutAtS
import Derived.Test.YtbdkpcgmnppkgaaStrsB
namespace Go.Proofs.Ytbdkpcgmnppkgaa.fing
open Go.RowKit Go.Joins
open Go.Proofs.Ytbdkpcgmnppkgaa.base Go.Proofs.Ytbdkpcgmnppkgaa.blk
open Go.Proofs.Ytbdkpcgmnppkgaa.strs (strV RdT OwnT OwnVT appSem app_fold appT)
set_option linter.unusedVariables false
attribute [local go_sem ↓] app_fold

theorem cutN_bd (mn B mx : Nat) (s : ByteArray) (h1 : 16 ≤ mn) (h4 : mn ≤ mx) (hs : 0 < s.size) : 1 ≤ cutN mn B mx s ∧ cutN mn B mx s ≤ s.size := by
  unfold cutN
  split
  · omega
  · have := seek_bd s (2 ^ B - 1) (min mx s.size - mn) mn
    omega

/-- the pieces of a text, one behind the other -/
def pc (mn B mx : Nat) : Nat → ByteArray → List ByteArray
  | 0, _ => []
  | f + 1, s => if s.size = 0 then [] else s.extract 0 (cutN mn B mx s) :: pc mn B mx f (s.extract (cutN mn B mx s) s.size)
theorem pc_fuel (mn B mx : Nat) (h1 : 16 ≤ mn) (h4 : mn ≤ mx) : ∀ f s, s.size ≤ f → pc mn B mx f s = pc mn B mx s.size s := by
  intro f
  induction f using Nat.strongRecOn with
  | _ f ih =>
    intro s hs
    cases f with
    | zero => rw [show s.size = 0 by omega]
    | succ f =>
      by_cases h0 : s.size = 0
      · rw [h0]
        show (if s.size = 0 then [] else _) = []
        rw [if_pos h0]
      · obtain ⟨m, hm⟩ : ∃ m, s.size = m + 1 := ⟨s.size - 1, by omega⟩
        have hb := cutN_bd mn B mx s h1 h4 (by omega)
        have hsz : (s.extract (cutN mn B mx s) s.size).size = s.size - cutN mn B mx s := by simp
        have e1 := ih f (by omega) (s.extract (cutN mn B mx s) s.size) (by omega)
        have e2 : pc mn B mx m (s.extract (cutN mn B mx s) s.size) = pc mn B mx (s.extract (cutN mn B mx s) s.size).size (s.extract (cutN mn B mx s) s.size) := ih m (by omega) _ (by omega)
        have e3 : pc mn B mx s.size s = s.extract 0 (cutN mn B mx s) :: pc mn B mx m (s.extract (cutN mn B mx s) s.size) := by
          rw [show pc mn B mx s.size s = pc mn B mx (m + 1) s by rw [hm], pc, if_neg h0]
        rw [e3, pc, if_neg h0, e1, e2]
def pieces (mn B mx : Nat) (s : ByteArray) : List ByteArray := pc mn B mx s.size s
theorem pieces_nil (mn B mx : Nat) (s : ByteArray) (h : s.size = 0) : pieces mn B mx s = [] := by unfold pieces; rw [h]; rfl
theorem pieces_next (mn B mx : Nat) (s : ByteArray) (h1 : 16 ≤ mn) (h4 : mn ≤ mx) (h : 0 < s.size) : pieces mn B mx s = s.extract 0 (cutN mn B mx s) :: pieces mn B mx (s.extract (cutN mn B mx s) s.size) := by
  obtain ⟨m, hm⟩ : ∃ m, s.size = m + 1 := ⟨s.size - 1, by omega⟩
  have hb := cutN_bd mn B mx s h1 h4 h
  unfold pieces
  rw [show pc mn B mx s.size s = pc mn B mx (m + 1) s by rw [hm], pc, if_neg (by omega), pc_fuel mn B mx h1 h4 m _ (by simp; omega)]

/-- a row of texts of its own is the answer -/
def TPost (w : World) (ts : List ByteArray) (e : Ending) (w' : World) : Prop :=
  ∃ a c, e = .returned (.slice a ts.length c) ∧ OwnVT w' a ts ∧ (∀ b o s, a = some ⟨b, o, s⟩ → w.heap.size ≤ b) ∧ Below w.heap.size w w'
theorem own_vt {w : World} {base n c : Nat} {a : Option Addr} {ts : List ByteArray} (hn : ts.length = n) (h : w.ownsRow base 9 1 (.slice a n c) n (ts.map strV)) : OwnVT w a ts ∧ ∀ b o s, a = some ⟨b, o, s⟩ → base ≤ b := by
  have h' := h
  obtain ⟨_, h2⟩ := h
  rcases h2 with ⟨e, h0⟩ | ⟨g, cap, cur, e, hB, hg, _, _, _, ht⟩
  · simp at e
    obtain ⟨rfl, _⟩ := e
    exact ⟨.inl (List.eq_nil_of_length_eq_zero (by omega)), fun b o s e => by simp at e⟩
  · simp at e
    obtain ⟨rfl, rfl⟩ := e
    exact ⟨.inr ⟨g, rfl, OwnT.owns h'⟩, fun b o s e => by simp at e; omega⟩

set_option maxRecDepth 100000 in
set_option maxHeartbeats 1000000 in
theorem pieces_any (mn B mx : Nat) (s : ByteArray) (w : World) (h1 : 16 ≤ mn) (h2 : mn ≤ 1000) (h3 : B ≤ 12) (h4 : mn ≤ mx) (h5 : mx ≤ 2000) (hs : s.size ≤ 20000) :
    Calls Try.prog 40 #[cutV mn B mx, .string s] w fun e w' => TPost w (pieces mn B mx s) e w' := by
  have HC := mkHid (fun wx (t : ByteArray) (ht : t.size ≤ 20000) => cut_any mn B mx t wx h1 h2 h3 h4 h5 (by omega))
  unfold cutV at HC ⊢
  go_enter Try.func40, Try.ntmps40
  go_wp2
  go_loopw [1, 5] (fun t v wr => ∃ (l : ByteArray) (acc : List ByteArray) (va : Option Addr) (vc : Nat), l.size + acc.length ≤ 20000 ∧ t = .string l ∧ v = .slice va acc.length vc ∧ Hid (acc ++ pieces mn B mx l = pieces mn B mx s) ∧ Hid (wr.ownsRow (w.heap.size + 1) 9 1 (.slice va acc.length vc) acc.length (acc.map strV)) ∧ Hid (wr.heap[w.heap.size]? = some (.cells #[.int .i64 mn, .int .i64 B, .int .i64 mx] 29) ∧ Below w.heap.size w wr))
    (fun t _ _ => match t with | .string l => l.size | _ => 0)
  case atStart =>
    exact ⟨s, [], _, _, by simpa using hs, rfl, rfl, mkHid (by simp), mkHid (by simpa using World.ownsRow_made (base := w.heap.size + 1) (e := 9) (size := 1) (w.alloc (.cells #[.int .i64 mn, .int .i64 B, .int .i64 mx] 29)) #[] 0 (by simp) (by decide) rfl), mkHid ⟨blk_old (blk_new w _ _ rfl) _, below_alloc2 w _ _⟩⟩
  case round =>
    obtain ⟨l, acc, va, vc, hla, rfl, rfl, hp, hown, hK⟩ := hrel
    obtain ⟨c0, c1, c2⟩ := cells3 hK.out.1
    by_cases hl0 : 0 < l.size
    · have hli : 0 < (l.size : Int) := by omega
      go_wp2_with fail
      refine (HC.out _ l (by omega)).mono ?_
      rintro e w1 ⟨rfl, hb1⟩
      have hbd := cutN_bd mn B mx l h1 h4 hl0
      have hnext := pieces_next mn B mx l h1 h4 hl0
      generalize cutN mn B mx l = n at *
      have hn1 : (n : Int) ≤ (l.size : Int) := by omega
      have hn2 : 1 ≤ (n : Int) := by omega
      have hown1 : w1.ownsRow (w.heap.size + 1) 9 1 (.slice va acc.length vc) acc.length (acc.map strV) := hown.out.kept (row := none) ⟨hb1.os, hb1.tape, hb1.output, hb1.size, fun k hk _ => hb1.block k hk⟩ (by
        by_cases hne : (Value.slice va acc.length vc).ownBlock = none
        · exact .inl hne
        · exact .inr hne)
      have k1 := blk_below hK.out.1 hb1
      have B1 := hK.out.2.trans (hb1.mono hK.out.2.size)
      have hw1 : w.heap.size < w1.heap.size := (Array.getElem?_eq_some_iff.1 k1).1
      obtain ⟨g, c, w2, hrun, hown2, hgr⟩ := appT w1 (w.heap.size + 1) (.slice va acc.length vc) acc.length acc (l.extract 0 n) rfl hown1 (by omega) (by omega)
      have B2 : Below w.heap.size w w2 := (B1.alloc B1.size _).grown hgr (by simp; omega) (fun k hk => by have := (hown1.lt k hk).1; omega)
      have k2 : w2.heap[w.heap.size]? = some (.cells #[.int .i64 mn, .int .i64 B, .int .i64 mx] 29) := (hgr.block w.heap.size (by simp; omega) (fun e => by have := (hown1.lt _ e.symm).1; omega)).trans (blk_old k1 _)
      have N1 : Hid ((acc ++ [l.extract 0 n]) ++ pieces mn B mx (l.extract n l.size) = pieces mn B mx s) := mkHid (by rw [← hp.out, hnext]; simp)
      have N2 := mkHid (And.intro k2 B2)
      have hlen : (acc ++ [l.extract 0 n]).length = acc.length + 1 := by simp
      have N3 : Hid (w2.ownsRow (w.heap.size + 1) 9 1 (.slice (some ⟨g, 0, none⟩) (acc ++ [l.extract 0 n]).length c) (acc ++ [l.extract 0 n]).length ((acc ++ [l.extract 0 n]).map strV)) := mkHid (by rw [hlen]; exact hown2)
      have hsz : (l.extract n l.size).size + (acc ++ [l.extract 0 n]).length ≤ 20000 := by rw [hlen]; simp; omega
      have hmeas : (l.extract n l.size).size < l.size := by simp; omega
      clear hp hown hK hown1 hown2 hgr k1 k2 B1 B2 hnext hb1 c0 c1 c2
      rw [← hlen] at hrun
      generalize acc ++ [l.extract 0 n] = acc2 at *
      clear hlen
      go_wp2
      exact ⟨⟨l.extract n l.size, acc2, _, _, hsz, rfl, rfl, N1, N3, N2⟩, hmeas⟩
    · have hl : l.size = 0 := by omega
      have hli : (l.size : Int) = 0 := by omega
      have E := mkHid (show acc = pieces mn B mx s by rw [← hp.out, pieces_nil mn B mx l hl, List.append_nil])
      have ho := own_vt rfl hown.out
      have P : Hid (∀ wx, wx = wr → TPost w (pieces mn B mx s) (.returned (.slice va acc.length vc)) wx) := mkHid (fun wx e => by
        subst e
        rw [← E.out]
        exact ⟨va, vc, rfl, ho.1, fun b o s e => by have := ho.2 b o s e; omega, hK.out.2⟩)
      clear hp hown hK ho E c0 c1 c2
      go_wp2
      go_ret
      exact P.out _ rfl

/-- what Pieces tells -/
def piecesT (mn bs mx : Int) (s : ByteArray) : List ByteArray := if 20000 < s.size ∨ cutB mn bs mx = false then [] else pieces mn.toNat bs.toNat mx.toNat s

set_option maxRecDepth 100000 in
theorem piecesT_any (mn bs mx : Int) (s : ByteArray) (w : World) (hs : s.size ≤ 1048576) :
    Calls Try.prog 18 #[cutV mn bs mx, .string s] w fun e w' => TPost w (piecesT mn bs mx s) e w' := by
  by_cases h1 : 20000 < (s.size : Int)
  · have E := mkHid (show piecesT mn bs mx s = [] by unfold piecesT; rw [if_pos (.inl (by omega))])
    unfold cutV
    go_enter Try.func18, Try.ntmps18
    go_wp2
    go_ret
    rw [E.out]
    exact ⟨_, _, rfl, .inl rfl, fun b o s e => by simp at e; omega, below_alloc2 w _ _⟩
  · have HR := mkHid (fun wx => cutRight_any mn bs mx wx)
    have h1' : (s.size : Int) ≤ 20000 := by omega
    have hd : decide (20000 < (s.size : Int)) = false := decide_eq_false h1
    unfold cutV at HR ⊢
    go_enter Try.func18, Try.ntmps18
    go_wp2_with fail
    refine (HR.out _).mono ?_
    rintro e w1 ⟨rfl, hb1⟩
    have k1 := blk_below (blk_new w (.cells #[.int .i64 mn, .int .i64 bs, .int .i64 mx] 29) w.heap.size rfl) hb1
    have B1 := mkHid (below_allocs (os := [_]) hb1)
    obtain ⟨c0, c1, c2⟩ := cells3 k1
    clear hb1 k1 HR
    cases hR : cutB mn bs mx
    · have E := mkHid (show piecesT mn bs mx s = [] by unfold piecesT; rw [if_pos (.inr hR)])
      have hz := B1.out.size
      go_wp2
      go_ret
      rw [E.out]
      exact ⟨_, _, rfl, .inl rfl, fun b o s e => by simp at e; omega, B1.out.alloc hz _⟩
    · obtain ⟨A, B, C, rfl, rfl, rfl, g1, g2, g3, g4, g5⟩ := cut_nat hR
      have E := mkHid (show piecesT A B C s = pieces A B C s by unfold piecesT; rw [if_neg (by rw [hR]; simp; omega)]; simp)
      have HC := mkHid (pieces_any A B C s w1 g1 g2 g3 g4 g5 (by omega))
      unfold cutV at HC
      clear hR
      go_wp2_with fail
      refine HC.out.mono ?_
      rintro e w2 ⟨a, c, rfl, ho, hf, hb2⟩
      have B2 := mkHid (And.intro (B1.out.trans (hb2.mono B1.out.size)) (And.intro ho hf))
      have hz := B1.out.size
      clear hb2 HC ho hf
      generalize pieces A B C s = ps at *
      go_wp2
      go_ret
      rw [E.out]
      exact ⟨_, _, rfl, B2.out.2.1, fun b o s e => by have := B2.out.2.2 b o s e; omega, B2.out.1⟩

theorem pc_len (mn B mx : Nat) (h1 : 16 ≤ mn) (h4 : mn ≤ mx) : ∀ f s, (pc mn B mx f s).length ≤ f := by
  intro f
  induction f with
  | zero => intro s; simp [pc]
  | succ f ih =>
    intro s
    rw [pc]
    split
    · simp
    · have := ih (s.extract (cutN mn B mx s) s.size)
      simp
      omega
theorem piecesT_len (mn bs mx : Int) (s : ByteArray) : (piecesT mn bs mx s).length ≤ 20000 := by
  unfold piecesT
  split
  · simp
  · rename_i h
    cases hR : cutB mn bs mx
    · exact absurd (.inr hR) h
    · obtain ⟨A, B, C, rfl, rfl, rfl, g1, g2, g3, g4, g5⟩ := cut_nat hR
      have := pc_len A B C g1 g4 s.size s
      simp only [Int.toNat_natCast]
      unfold pieces
      omega
end Go.Proofs.Ytbdkpcgmnppkgaa.fing
