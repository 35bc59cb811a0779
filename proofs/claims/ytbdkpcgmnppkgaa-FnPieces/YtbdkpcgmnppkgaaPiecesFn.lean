/-
  laws.FnPieces answers true at all bytes, where the program's Pieces and CutAt answer as told; nothing that was there turns. Conditions: what the program's two calls answer; the bytes lie in memory.
-/
import Derived.Test.YtbdkpcgmnppkgaaPiecesLaw
import Derived.Test.YtbdkpcgmnppkgaaTextDraw
import Derived.Test.YtbdkpcgmnppkgaaLwAt
import Derived.Deep.CutRange
import Derived.Deep.DeepCutAuto
namespace Go.Proofs.Ytbdkpcgmnppkgaa.fing
open Go.RowKit Go.Joins
open Go.Proofs.Ytbdkpcgmnppkgaa.base Go.Proofs.Ytbdkpcgmnppkgaa.blk
open Go.Proofs.Ytbdkpcgmnppkgaa.strs (RdT OwnVT)
open Go.Proofs.Ytbdkpcgmnppkgaa.draw (Row)
set_option linter.unusedVariables false

theorem like {B : Nat} {w a b : World} (h : Below B w a) (h1 : b.os = a.os) (h2 : b.tape = a.tape) (h3 : b.output = a.output) (h4 : b.heap = a.heap) : Below B w b :=
  ⟨h1.trans h.os, h2.trans h.tape, h3.trans h.output, by rw [h4]; exact h.size, fun k hk => by rw [h4]; exact h.block k hk⟩
theorem cutN_max (mn B mx : Nat) (s : ByteArray) (h4 : mn ≤ mx) : cutN mn B mx s ≤ mx := by
  unfold cutN
  split
  · omega
  · have := seek_bd s (2 ^ B - 1) (min mx s.size - mn) mn
    omega
theorem cutN_min (mn B mx : Nat) (s : ByteArray) (h4 : mn ≤ mx) (h : cutN mn B mx s < s.size) : mn ≤ cutN mn B mx s := by
  unfold cutN at h ⊢
  split
  · rename_i h1
    rw [if_pos h1] at h
    omega
  · exact (seek_bd s (2 ^ B - 1) (min mx s.size - mn) mn).1

/-- what is left behind i pieces -/
def Left (A B C : Nat) (ps : List ByteArray) (i : Nat) (rest : ByteArray) : Prop := ps.drop i = pieces A B C rest
theorem Left.step {A B C : Nat} {ps : List ByteArray} {i : Nat} {rest : ByteArray} (h : Left A B C ps i rest) (h1 : 16 ≤ A) (h4 : A ≤ C) (hi : i < ps.length) :
    0 < rest.size ∧ ps[i]? = some (rest.extract 0 (cutN A B C rest)) ∧ Left A B C ps (i + 1) (rest.extract (cutN A B C rest) rest.size) := by
  have h0 : 0 < rest.size := by
    rcases Nat.eq_zero_or_pos rest.size with h0 | h0
    · have e := congrArg List.length h
      rw [pieces_nil A B C rest h0] at e
      simp at e
      omega
    · exact h0
  have e : ps.drop i = rest.extract 0 (cutN A B C rest) :: pieces A B C (rest.extract (cutN A B C rest) rest.size) := h.trans (pieces_next A B C rest h1 h4 h0)
  refine ⟨h0, ?_, ?_⟩
  · have := congrArg (·[0]?) e
    simpa [List.getElem?_drop] using this
  · unfold Left
    have := congrArg List.tail e
    simpa [List.tail_drop] using this
theorem Left.last {A B C : Nat} {ps : List ByteArray} {i : Nat} {rest : ByteArray} (h : Left A B C ps i rest) (h1 : 16 ≤ A) (h4 : A ≤ C) (hi : ps.length ≤ i) : rest.size = 0 := by
  rcases Nat.eq_zero_or_pos rest.size with h0 | h0
  · exact h0
  · have e := congrArg List.length h
    rw [pieces_next A B C rest h1 h4 h0] at e
    simp at e
    omega

/-- what stands in memory -/
structure Fp (w : World) (C : Nat) (box : Obj) (a : Option Addr) (ps : List ByteArray) (wr : World) : Prop where
  below : Below w.heap.size w wr
  bx : wr.heap[C]? = some box
  rd : RdT wr a ps
theorem Fp.next {w wr w' : World} {C : Nat} {box : Obj} {a : Option Addr} {ps : List ByteArray} (h : Fp w C box a ps wr) (hb : Below wr.heap.size wr w') : Fp w C box a ps w' :=
  ⟨h.below.trans (hb.mono h.below.size), blk_below h.bx hb, h.rd.below hb⟩

set_option maxRecDepth 100000 in
set_option maxHeartbeats 4000000 in
theorem fnPieces_in (IP : IPieces) (IC : ICutAt) (a : Option Addr) (len cap : Nat) (b : Option Addr) (lenb capb : Nat) (w : World) (hl : len ≤ 1048576) (hr : Row w a len) (hlb : lenb ≤ 1048576) (hrb : Row w b lenb) :
    Calls Try.prog 4 #[.slice a len cap, .slice b lenb capb] w fun e w' => e = .returned (.bool true) ∧ Below w.heap.size w w' := by
  have hli : (len : Int) ≤ 1048576 := by omega
  have hlbi : (lenb : Int) ≤ 1048576 := by omega
  have RB := mkHid hrb
  have II := mkHid (And.intro IP IC)
  clear hrb IP IC
  go_enter Try.func4, Try.ntmps4
  go_wp2_with fail
  refine (draw.drawPieces_any a len cap w hl hr).mono ?_
  rintro e w1 ⟨mn, bs, mx, t, rfl, hm1, hm2, hm3, ht, hb1⟩
  have hp := piecesT_len mn bs mx t
  have KS := fun wx => piecesT_any mn bs mx t wx (by omega)
  have KI := fun wx => II.out.1 mn bs mx t wx (by omega)
  obtain ⟨ps, hps⟩ : ∃ ps, ps = piecesT mn bs mx t := ⟨_, rfl⟩
  rw [← hps] at hp KS KI
  have HS : Hid (∀ wx, Calls Try.prog 18 #[.agg #[.int .i64 mn, .int .i64 bs, .int .i64 mx], .string t] wx fun e w' => ∃ a c, e = .returned (.slice a ps.length c) ∧ OwnVT w' a ps ∧ (∀ b o s, a = some ⟨b, o, s⟩ → wx.heap.size ≤ b) ∧ Below wx.heap.size wx w') := mkHid KS
  have HP : Hid (∀ wx, Calls Try.prog 17 #[.agg #[.int .i64 mn, .int .i64 bs, .int .i64 mx], .string t] wx fun e w' => ∃ a c, e = .returned (.slice a ps.length c) ∧ OwnVT w' a ps ∧ (∀ b o s, a = some ⟨b, o, s⟩ → wx.heap.size ≤ b) ∧ Below wx.heap.size wx w') := mkHid KI
  have PE := mkHid hps
  have B1 := mkHid hb1
  clear KS KI hps hb1 hr
  unfold cutV
  go_wp2_with fail
  refine (HP.out _).mono ?_
  rintro e w2 ⟨a7, c7, rfl, ho7, hf7, hb2⟩
  have S2 : Hid (Fp w w1.heap.size (.cells #[.int .i64 mn, .int .i64 bs, .int .i64 mx] 29) a7 ps w2) := mkHid ⟨B1.out.trans ((below_allocs (os := [_]) hb2).mono B1.out.size), blk_below (blk_new w1 _ _ rfl) hb2, ho7.rd⟩
  clear hb2 ho7 hf7 HP B1
  generalize w1.heap.size = C at *
  obtain ⟨c0, c1, c2⟩ := cells3 S2.out.bx
  go_wp2_with fail
  refine (HS.out _).mono ?_
  rintro e w3 ⟨a8, c8, rfl, ho8, hf8, hb3⟩
  have S3 := mkHid (S2.out.next hb3)
  have hpi : (ps.length : Int) ≤ 20000 := by omega
  clear hb3 ho8 hf8 HS S2 c0 c1 c2
  by_cases h0 : ps.length = 0
  · have h0i : (ps.length : Int) = 0 := by omega
    go_wp2
    go_ret
    exact ⟨rfl, S3.out.below⟩
  have hpos : 0 < (ps.length : Int) := by omega
  have hR : cutB mn bs mx = true := by
    cases hR : cutB mn bs mx
    · exfalso
      apply h0
      rw [PE.out]
      unfold piecesT
      rw [if_pos (.inr hR)]
      rfl
    · rfl
  obtain ⟨A, B, X, rfl, rfl, rfl, g1, g2, g3, g4, g5⟩ := cut_nat hR
  have E : ps = pieces A B X t := by rw [PE.out]; unfold piecesT; rw [if_neg (by rw [hR]; simp; omega)]; simp
  have L0 : Hid (Left A B X ps 0 t) := mkHid (by unfold Left; rw [List.drop_zero]; exact E)
  clear PE E hR hm1 hm2 hm3
  go_wp2_with fail
  refine (draw.lwAt_any b lenb capb 0 (ps.length : Int) _ hlb (RB.out.below S3.out.below) (by omega) (by omega) (by omega)).mono ?_
  rintro e w4 ⟨kk, rfl, hkk, rfl⟩
  have HC : Hid (∀ wx (s : ByteArray), s.size ≤ 700 → Calls Try.prog 20 #[.agg #[.int .i64 A, .int .i64 B, .int .i64 X], .string s] wx fun e w' => e = .returned (.int .i64 (cutN A B X s : Nat)) ∧ Below wx.heap.size wx w') := mkHid (fun wx s hs => by
    have h := II.out.2 A B X s wx (by omega)
    have e : cutT A B X s = cutN A B X s := by unfold cutT; rw [if_neg (by simp [cutB]; omega)]; simp
    rw [e] at h
    exact h)
  have HQ : Hid (∀ wx (s : ByteArray), s.size ≤ 700 → Calls Try.prog 17 #[.agg #[.int .i64 A, .int .i64 B, .int .i64 X], .string s] wx fun e w' => ∃ a c, e = .returned (.slice a (pieces A B X s).length c) ∧ RdT w' a (pieces A B X s) ∧ Below wx.heap.size wx w') := mkHid (fun wx s hs => by
    have h := II.out.1 A B X s wx (by omega)
    have e : piecesT A B X s = pieces A B X s := by unfold piecesT; rw [if_neg (by simp [cutB]; omega)]; simp
    rw [e] at h
    exact h.mono (by rintro e w' ⟨a', c', rfl, h1, h2, h3⟩; exact ⟨a', c', rfl, h1.rd, h3⟩))
  clear RB II
  have G := mkHid (And.intro g1 g4)
  have gA : (A : Int) ≤ (X : Int) := by omega
  have gX : (X : Int) ≤ 2000 := by omega
  clear g1 g2 g3 g4 g5 hp h0
  go_wp2
  go_loopw [10, 11] (fun v i wr => ∃ (k : Nat) (rest : ByteArray), k ≤ ps.length ∧ i = .int .i64 k ∧ v = .string rest ∧ rest.size ≤ 700 ∧ Hid (Left A B X ps k rest) ∧ Hid (Fp w C (.cells #[.int .i64 (A : Int), .int .i64 (B : Int), .int .i64 (X : Int)] 29) a7 ps wr))
    (fun _ i _ => ps.length - (intOf i).toNat)
  case atStart => exact ⟨0, t, Nat.zero_le _, rfl, rfl, ht, L0, S3⟩
  case round =>
    clear L0 S3
    obtain ⟨k, rest, hk, rfl, rfl, hrs, hL, hS⟩ := hrel
    by_cases hlt : k < ps.length
    · obtain ⟨hr0, hpk, hN⟩ := hL.out.step G.out.1 G.out.2 hlt
      obtain ⟨b7, o7, rfl, hc7⟩ := hS.out.rd k _ hpk
      have hbd := cutN_bd A B X rest G.out.1 G.out.2 hr0
      have hmx := cutN_max A B X rest G.out.2
      have hmn := cutN_min A B X rest G.out.2
      have HCk := mkHid (fun wx => HC.out wx rest hrs)
      have hlen : k + 1 < ps.length → cutN A B X rest < rest.size := by
        intro h
        have h2 := (hN.step G.out.1 G.out.2 h).1
        simp at h2
        omega
      obtain ⟨n, hn⟩ : ∃ n, n = cutN A B X rest := ⟨_, rfl⟩
      rw [← hn] at hpk hN hbd hmx hmn HCk hlen hc7
      have NN := mkHid hN
      obtain ⟨c0, c1, c2⟩ := cells3 hS.out.bx
      have hn1 : (n : Int) ≤ (rest.size : Int) := by omega
      have hn2 : 1 ≤ (n : Int) := by omega
      have hn3 : (n : Int) ≤ (X : Int) := by omega
      have hki : (k : Int) < (ps.length : Int) := by omega
      have hrsi : (rest.size : Int) ≤ 700 := by omega
      have hxs : ((rest.extract 0 n).size : Int) = (n : Int) := by simp; omega
      have hsl : ∀ wx, (Instr.slice 9 (.string rest) none (some (.int .i64 (n : Int))) none).run Try.prog wx = .ok (.string (rest.extract 0 n)) wx := fun wx => by
        rw [run_slice_string_to_if wx 9 rest .i64 (n : Int) Try.underlying9, if_pos ⟨by omega, by omega⟩]
        rfl
      have hsl2 : ∀ wx, (Instr.slice 9 (.string rest) (some (.int .i64 (n : Int))) none none).run Try.prog wx = .ok (.string (rest.extract n rest.size)) wx := fun wx => by
        rw [run_slice_string_from_if wx 9 rest .i64 (n : Int) Try.underlying9, if_pos ⟨by omega, by omega⟩]
        rfl
      generalize hpc : rest.extract 0 n = pc at *
      have LL := hL
      clear hpc hn hN hbd hmx hL
      have hw1 : IntKind.i64.wrap ((k : Int) + 1) = (k : Int) + 1 := by simp [IntKind.wrap, IntKind.bits, IntKind.signed]; omega
      go_wp2_with fail
      have hd1 : decide ((rest.size : Int) < (n : Int)) = false := decide_eq_false (by omega)
      have hd2 : decide ((X : Int) < (n : Int)) = false := decide_eq_false (by omega)
      have hd3 : decide ((n : Int) < 1) = false := decide_eq_false (by omega)
      have hn1' : (rest.size < n) = False := eq_false (by omega)
      have hn2' : (X < n) = False := eq_false (by omega)
      have hn3' : (n = 0) = False := eq_false (by omega)
      have hn4' : (n < 1) = False := eq_false (by omega)
      go_cut [101] from 47 to 134 (fun v wx => v = .bool false ∧ Hid (Fp w C (.cells #[.int .i64 (A : Int), .int .i64 (B : Int), .int .i64 (X : Int)] 29) (some ⟨b7, o7, none⟩) ps wx))
      case first =>
        by_cases hkl : (k : Int) + 1 < (ps.length : Int)
        · have hAn : (A : Int) ≤ (n : Int) := by have := hmn (hlen (by omega)); omega
          have hd4 : decide ((k : Int) + 1 < (ps.length : Int)) = true := decide_eq_true hkl
          have hd5 : decide ((n : Int) < (A : Int)) = false := decide_eq_false (by omega)
          have hk1' : (k + 1 < ps.length) = True := eq_true (by omega)
          have hn5' : (n < A) = False := eq_false (by omega)
          clear hmn hlen
          first | go_region_held3 (fun w' => w'.cell? ⟨C, 0, none⟩ = some (.int .i64 (A : Int)) ∧ w'.cell? ⟨C, 1, none⟩ = some (.int .i64 (B : Int)) ∧ w'.cell? ⟨C, 2, none⟩ = some (.int .i64 (X : Int)) ∧ w'.cell? ⟨b7, o7 + k, none⟩ = some (.string pc)) (go_keep)
            ((first | (go_at_call 20; refine Calls.mono (HCk.out _) ?_; rintro e w5 ⟨rfl, hb5⟩; have hb5' : Below wr.heap.size wr w5 := ⟨hb5.os, hb5.tape, hb5.output, hb5.size, hb5.block⟩; have S5 := mkHid (hS.out.next hb5'); have d0 : w5.cell? ⟨C, 0, none⟩ = some (.int .i64 (A : Int)) := cell_of_block S5.out.bx 0; have d1 : w5.cell? ⟨C, 1, none⟩ = some (.int .i64 (B : Int)) := cell_of_block S5.out.bx 1; have d2 : w5.cell? ⟨C, 2, none⟩ = some (.int .i64 (X : Int)) := cell_of_block S5.out.bx 2; have d7 : w5.cell? ⟨b7, o7 + k, none⟩ = some (.string pc) := (hb5'.cell (p := ⟨b7, o7 + k, none⟩) (World.block_lt_of_cell? wr _ hc7)).trans hc7; clear hb5 hb5'))) | fail
          go_wp2
          go_meet
          exact ⟨rfl, S5⟩
        · have hd4 : decide ((k : Int) + 1 < (ps.length : Int)) = false := decide_eq_false hkl
          have hk1' : (k + 1 < ps.length) = False := eq_false (by omega)
          clear hmn hlen
          refine wp_region_held_drew (S := fun w' => w'.cell? ⟨C, 0, none⟩ = some (.int .i64 (A : Int)) ∧ w'.cell? ⟨C, 1, none⟩ = some (.int .i64 (B : Int)) ∧ w'.cell? ⟨C, 2, none⟩ = some (.int .i64 (X : Int)) ∧ w'.cell? ⟨b7, o7 + k, none⟩ = some (.string pc)) (by kernel_rfl) (by exact ⟨c0, c1, c2, hc7⟩) (fun hHeld => ?_)
          refine wpAnyH_take (i := 0) (oi := Oper.mk _ _ _ _ _ _) (v := ?_) rfl (by kernel_rfl) (by kernel_rfl) (by kernel_rfl) (fun _ _ _ h => h) (Or.inl ⟨by rfl, ?_⟩) (by assumption) ?_
          rotate_left
          · intro w hSw
            try dsimp only at hSw
            go_simp
            all_goals with_reducible rfl
          try simp only [Act.put, List.setIfInBounds_toArray, List.set_cons_zero, List.set_cons_succ]
          refine wpAnyH_take (i := 1) (oi := Oper.mk _ _ _ _ _ _) (v := ?_) rfl (by kernel_rfl) (by kernel_rfl) (by kernel_rfl) (fun _ _ _ h => h) (Or.inl ⟨by rfl, ?_⟩) (by assumption) ?_
          rotate_left
          · intro w hSw
            try dsimp only at hSw
            go_simp
            all_goals with_reducible rfl
          try simp only [Act.put, List.setIfInBounds_toArray, List.set_cons_zero, List.set_cons_succ]
          refine wpAnyH_take (i := 2) (oi := Oper.mk _ _ _ _ _ _) (v := ?_) rfl (by kernel_rfl) (by kernel_rfl) (by kernel_rfl) (fun _ _ _ h => h) (Or.inl ⟨by rfl, ?_⟩) (by assumption) ?_
          rotate_left
          · intro w hSw
            try dsimp only at hSw
            go_simp
            all_goals with_reducible rfl
          try simp only [Act.put, List.setIfInBounds_toArray, List.set_cons_zero, List.set_cons_succ]
          refine wpAnyH_take (i := 3) (oi := Oper.mk _ _ _ _ _ _) (v := ?_) rfl (by kernel_rfl) (by kernel_rfl) (by kernel_rfl) (fun _ _ _ h => h) (Or.inl ⟨by rfl, ?_⟩) (by assumption) ?_
          rotate_left
          · intro w hSw
            try dsimp only at hSw
            go_simp
            all_goals with_reducible rfl
          try simp only [Act.put, List.setIfInBounds_toArray, List.set_cons_zero, List.set_cons_succ]
          refine wpAnyH_take (i := 4) (oi := Oper.mk _ _ _ _ _ _) (v := ?_) rfl (by kernel_rfl) (by kernel_rfl) (by kernel_rfl) (fun _ _ _ h => h) (Or.inl ⟨by rfl, ?_⟩) (by assumption) ?_
          rotate_left
          · intro w hSw
            try dsimp only at hSw
            go_simp
            all_goals with_reducible rfl
          try simp only [Act.put, List.setIfInBounds_toArray, List.set_cons_zero, List.set_cons_succ]
          refine wpAnyH_take (i := 5) (oi := Oper.mk _ _ _ _ _ _) (v := ?_) rfl (by kernel_rfl) (by kernel_rfl) (by kernel_rfl) (fun _ _ _ h => h) (Or.inl ⟨by rfl, ?_⟩) (by assumption) ?_
          rotate_left
          · intro w hSw
            try dsimp only at hSw
            go_simp
            all_goals with_reducible rfl
          try simp only [Act.put, List.setIfInBounds_toArray, List.set_cons_zero, List.set_cons_succ]
          refine wpAnyH_take (i := 6) (oi := Oper.mk _ _ _ _ _ _) (v := ?_) rfl (by kernel_rfl) (by kernel_rfl) (by kernel_rfl) (fun _ _ _ h => h) (Or.inl ⟨by rfl, ?_⟩) (by assumption) ?_
          rotate_left
          · intro w hSw
            try dsimp only at hSw
            go_simp
            all_goals with_reducible rfl
          try simp only [Act.put, List.setIfInBounds_toArray, List.set_cons_zero, List.set_cons_succ]
          refine wpAnyH_take (i := 7) (oi := Oper.mk _ _ _ _ _ _) (v := ?_) rfl (by kernel_rfl) (by kernel_rfl) (by kernel_rfl) (fun _ _ _ h => h) (Or.inl ⟨by rfl, ?_⟩) (by assumption) ?_
          rotate_left
          · intro w hSw
            try dsimp only at hSw
            go_simp
            all_goals with_reducible rfl
          try simp only [Act.put, List.setIfInBounds_toArray, List.set_cons_zero, List.set_cons_succ]
          refine wpAnyH_take (i := 8) (oi := Oper.mk _ _ _ _ _ _) (v := ?_) rfl (by kernel_rfl) (by kernel_rfl) (by kernel_rfl) (fun _ _ _ h => h) (Or.inl ⟨by rfl, ?_⟩) (by assumption) ?_
          rotate_left
          · intro w hSw
            try dsimp only at hSw
            go_simp
            all_goals with_reducible rfl
          try simp only [Act.put, List.setIfInBounds_toArray, List.set_cons_zero, List.set_cons_succ]
          refine wpAnyH_take (i := 9) (oi := Oper.mk _ _ _ _ _ _) (v := ?_) rfl (by kernel_rfl) (by kernel_rfl) (by kernel_rfl) (fun _ _ _ h => h) (Or.inl ⟨by rfl, ?_⟩) (by assumption) ?_
          rotate_left
          · intro w hSw
            try dsimp only at hSw
            go_simp
            all_goals with_reducible rfl
          try simp only [Act.put, List.setIfInBounds_toArray, List.set_cons_zero, List.set_cons_succ]
          refine wpAnyH_take (i := 10) (oi := Oper.mk _ _ _ _ _ _) (v := ?_) rfl (by kernel_rfl) (by kernel_rfl) (by kernel_rfl) (fun _ _ _ h => h) (Or.inl ⟨by rfl, ?_⟩) (by assumption) ?_
          rotate_left
          · intro w hSw
            try dsimp only at hSw
            go_simp
            all_goals with_reducible rfl
          try simp only [Act.put, List.setIfInBounds_toArray, List.set_cons_zero, List.set_cons_succ]
          refine wpAnyH_take (i := 11) (oi := Oper.mk _ _ _ _ _ _) (v := ?_) rfl (by kernel_rfl) (by kernel_rfl) (by kernel_rfl) (fun _ _ _ h => h) (Or.inl ⟨by rfl, ?_⟩) (by assumption) ?_
          rotate_left
          · intro w hSw
            try dsimp only at hSw
            go_simp
            all_goals with_reducible rfl
          try simp only [Act.put, List.setIfInBounds_toArray, List.set_cons_zero, List.set_cons_succ]
          refine wpAnyH_take (i := 12) (oi := Oper.mk _ _ _ _ _ _) (v := ?_) rfl (by kernel_rfl) (by kernel_rfl) (by kernel_rfl) (fun _ _ _ h => h) (Or.inl ⟨by rfl, ?_⟩) (by assumption) ?_
          rotate_left
          · intro w hSw
            try dsimp only at hSw
            go_simp
            all_goals with_reducible rfl
          try simp only [Act.put, List.setIfInBounds_toArray, List.set_cons_zero, List.set_cons_succ]
          refine wpAnyH_take (i := 13) (oi := Oper.mk _ _ _ _ _ _) (v := ?_) rfl (by kernel_rfl) (by kernel_rfl) (by kernel_rfl) (fun _ _ _ h => h) (Or.inl ⟨by rfl, ?_⟩) (by assumption) ?_
          rotate_left
          · intro w hSw
            try dsimp only at hSw
            go_simp
            all_goals with_reducible rfl
          try simp only [Act.put, List.setIfInBounds_toArray, List.set_cons_zero, List.set_cons_succ]
          refine wpAnyH_take (i := 14) (oi := Oper.mk _ _ _ _ _ _) (v := ?_) rfl (by kernel_rfl) (by kernel_rfl) (by kernel_rfl) (fun _ _ _ h => h) (Or.inl ⟨by rfl, ?_⟩) (by assumption) ?_
          rotate_left
          · intro w hSw
            try dsimp only at hSw
            go_simp
            all_goals with_reducible rfl
          try simp only [Act.put, List.setIfInBounds_toArray, List.set_cons_zero, List.set_cons_succ]
          refine wpAnyH_take (i := 15) (oi := Oper.mk _ _ _ _ _ _) (v := ?_) rfl (by kernel_rfl) (by kernel_rfl) (by kernel_rfl) (fun _ _ _ h => h) (Or.inl ⟨by rfl, ?_⟩) (by assumption) ?_
          rotate_left
          · intro w hSw
            try dsimp only at hSw
            go_simp
            all_goals with_reducible rfl
          try simp only [Act.put, List.setIfInBounds_toArray, List.set_cons_zero, List.set_cons_succ]
          refine wpAnyH_take (i := 16) (oi := Oper.mk _ _ _ _ _ _) (v := ?_) rfl (by kernel_rfl) (by kernel_rfl) (by kernel_rfl) (fun _ _ _ h => h) (Or.inl ⟨by rfl, ?_⟩) (by assumption) ?_
          rotate_left
          · intro w hSw
            try dsimp only at hSw
            go_simp
            all_goals with_reducible rfl
          try simp only [Act.put, List.setIfInBounds_toArray, List.set_cons_zero, List.set_cons_succ]
          refine wpAnyH_take (i := 17) (oi := Oper.mk _ _ _ _ _ _) (v := ?_) rfl (by kernel_rfl) (by kernel_rfl) (by kernel_rfl) (fun _ _ _ h => h) (Or.inl ⟨by rfl, ?_⟩) (by assumption) ?_
          rotate_left
          · intro w hSw
            try dsimp only at hSw
            go_simp
            all_goals with_reducible rfl
          try simp only [Act.put, List.setIfInBounds_toArray, List.set_cons_zero, List.set_cons_succ]
          refine wpAnyH_take (i := 18) (oi := Oper.mk _ _ _ _ _ _) (v := ?_) rfl (by kernel_rfl) (by kernel_rfl) (by kernel_rfl) (fun _ _ _ h => h) (Or.inl ⟨by rfl, ?_⟩) (by assumption) ?_
          rotate_left
          · intro w hSw
            try dsimp only at hSw
            go_simp
            all_goals with_reducible rfl
          try simp only [Act.put, List.setIfInBounds_toArray, List.set_cons_zero, List.set_cons_succ]
          refine wpAnyH_take (i := 19) (oi := Oper.mk _ _ _ _ _ _) (v := ?_) rfl (by kernel_rfl) (by kernel_rfl) (by kernel_rfl) (fun _ _ _ h => h) (Or.inl ⟨by rfl, ?_⟩) (by assumption) ?_
          rotate_left
          · intro w hSw
            try dsimp only at hSw
            go_simp
            all_goals with_reducible rfl
          try simp only [Act.put, List.setIfInBounds_toArray, List.set_cons_zero, List.set_cons_succ]
          refine wpAnyH_take (i := 20) (oi := Oper.mk _ _ _ _ _ _) (v := ?_) rfl (by kernel_rfl) (by kernel_rfl) (by kernel_rfl) (fun _ _ _ h => h) (Or.inl ⟨by rfl, ?_⟩) (by assumption) ?_
          rotate_left
          · intro w hSw
            try dsimp only at hSw
            go_simp
            all_goals with_reducible rfl
          try simp only [Act.put, List.setIfInBounds_toArray, List.set_cons_zero, List.set_cons_succ]
          refine wpAnyH_take (i := 21) (oi := Oper.mk _ _ _ _ _ _) (v := ?_) rfl (by kernel_rfl) (by kernel_rfl) (by kernel_rfl) (fun _ _ _ h => h) (Or.inl ⟨by rfl, ?_⟩) (by assumption) ?_
          rotate_left
          · intro w hSw
            try dsimp only at hSw
            go_simp
            all_goals with_reducible rfl
          try simp only [Act.put, List.setIfInBounds_toArray, List.set_cons_zero, List.set_cons_succ]
          refine wpAnyH_take (i := 22) (oi := Oper.mk _ _ _ _ _ _) (v := ?_) rfl (by kernel_rfl) (by kernel_rfl) (by kernel_rfl) (fun _ _ _ h => h) (Or.inl ⟨by rfl, ?_⟩) (by assumption) ?_
          rotate_left
          · intro w hSw
            try dsimp only at hSw
            go_simp
            all_goals with_reducible rfl
          try simp only [Act.put, List.setIfInBounds_toArray, List.set_cons_zero, List.set_cons_succ]
          refine wpAnyH_take (i := 23) (oi := Oper.mk _ _ _ _ _ _) (v := ?_) rfl (by kernel_rfl) (by kernel_rfl) (by kernel_rfl) (fun _ _ _ h => h) (Or.inl ⟨by rfl, ?_⟩) (by assumption) ?_
          rotate_left
          · intro w hSw
            try dsimp only at hSw
            go_simp
            all_goals with_reducible rfl
          try simp only [Act.put, List.setIfInBounds_toArray, List.set_cons_zero, List.set_cons_succ]
          refine wpAnyH_take (i := 24) (oi := Oper.mk _ _ _ _ _ _) (v := ?_) rfl (by kernel_rfl) (by kernel_rfl) (by kernel_rfl) (fun _ _ _ h => h) (Or.inl ⟨by rfl, ?_⟩) (by assumption) ?_
          rotate_left
          · intro w hSw
            try dsimp only at hSw
            go_simp
            all_goals with_reducible rfl
          try simp only [Act.put, List.setIfInBounds_toArray, List.set_cons_zero, List.set_cons_succ]
          refine wpAnyH_take (i := 25) (oi := Oper.mk _ _ _ _ _ _) (v := ?_) rfl (by kernel_rfl) (by kernel_rfl) (by kernel_rfl) (fun _ _ _ h => h) (Or.inl ⟨by rfl, ?_⟩) (by assumption) ?_
          rotate_left
          · intro w hSw
            try dsimp only at hSw
            go_simp
            all_goals with_reducible rfl
          try simp only [Act.put, List.setIfInBounds_toArray, List.set_cons_zero, List.set_cons_succ]
          refine wpAnyH_take (i := 26) (oi := Oper.mk _ _ _ _ _ _) (v := ?_) rfl (by kernel_rfl) (by kernel_rfl) (by kernel_rfl) (fun _ _ _ h => h) (Or.inl ⟨by rfl, ?_⟩) (by assumption) ?_
          rotate_left
          · intro w hSw
            try dsimp only at hSw
            go_simp
            all_goals with_reducible rfl
          try simp only [Act.put, List.setIfInBounds_toArray, List.set_cons_zero, List.set_cons_succ]
          refine wpAnyH_take (i := 27) (oi := Oper.mk _ _ _ _ _ _) (v := ?_) rfl (by kernel_rfl) (by kernel_rfl) (by kernel_rfl) (fun _ _ _ h => h) (Or.inl ⟨by rfl, ?_⟩) (by assumption) ?_
          rotate_left
          · intro w hSw
            try dsimp only at hSw
            go_simp
            all_goals with_reducible rfl
          try simp only [Act.put, List.setIfInBounds_toArray, List.set_cons_zero, List.set_cons_succ]
          refine wpAnyH_take (i := 28) (oi := Oper.mk _ _ _ _ _ _) (v := ?_) rfl (by kernel_rfl) (by kernel_rfl) (by kernel_rfl) (fun _ _ _ h => h) (Or.inl ⟨by rfl, ?_⟩) (by assumption) ?_
          rotate_left
          · intro w hSw
            try dsimp only at hSw
            go_simp
            all_goals with_reducible rfl
          try simp only [Act.put, List.setIfInBounds_toArray, List.set_cons_zero, List.set_cons_succ]
          refine wpAnyH_take (i := 29) (oi := Oper.mk _ _ _ _ _ _) (v := ?_) rfl (by kernel_rfl) (by kernel_rfl) (by kernel_rfl) (fun _ _ _ h => h) (Or.inl ⟨by rfl, ?_⟩) (by assumption) ?_
          rotate_left
          · intro w hSw
            try dsimp only at hSw
            go_simp
            all_goals with_reducible rfl
          try simp only [Act.put, List.setIfInBounds_toArray, List.set_cons_zero, List.set_cons_succ]
          refine wpAnyH_take (i := 30) (oi := Oper.mk _ _ _ _ _ _) (v := ?_) rfl (by kernel_rfl) (by kernel_rfl) (by kernel_rfl) (fun _ _ _ h => h) (Or.inl ⟨by rfl, ?_⟩) (by assumption) ?_
          rotate_left
          · intro w hSw
            try dsimp only at hSw
            go_simp
            all_goals with_reducible rfl
          try simp only [Act.put, List.setIfInBounds_toArray, List.set_cons_zero, List.set_cons_succ]
          refine wpAnyH_take (i := 31) (oi := Oper.mk _ _ _ _ _ _) (v := undef) rfl (by kernel_rfl) (by kernel_rfl) (by kernel_rfl) (fun _ _ _ h => h) (Or.inr ⟨by rfl, rfl⟩) (by assumption) ?_
          try simp only [Act.put, List.setIfInBounds_toArray, List.set_cons_zero, List.set_cons_succ]
          refine wpAnyH_take (i := 32) (oi := Oper.mk _ _ _ _ _ _) (v := undef) rfl (by kernel_rfl) (by kernel_rfl) (by kernel_rfl) (fun _ _ _ h => h) (Or.inr ⟨by rfl, rfl⟩) (by assumption) ?_
          try simp only [Act.put, List.setIfInBounds_toArray, List.set_cons_zero, List.set_cons_succ]
          refine wpAnyH_take (i := 33) (oi := Oper.mk _ _ _ _ _ _) (v := undef) rfl (by kernel_rfl) (by kernel_rfl) (by kernel_rfl) (fun _ _ _ h => h) (Or.inr ⟨by rfl, rfl⟩) (by assumption) ?_
          try simp only [Act.put, List.setIfInBounds_toArray, List.set_cons_zero, List.set_cons_succ]
          refine wpAnyH_take (i := 34) (oi := Oper.mk _ _ _ _ _ _) (v := undef) rfl (by kernel_rfl) (by kernel_rfl) (by kernel_rfl) (fun _ _ _ h => h) (Or.inr ⟨by rfl, rfl⟩) (by assumption) ?_
          try simp only [Act.put, List.setIfInBounds_toArray, List.set_cons_zero, List.set_cons_succ]
          refine wpAnyH_take (i := 35) (oi := Oper.mk _ _ _ _ _ _) (v := ?_) rfl (by kernel_rfl) (by kernel_rfl) (by kernel_rfl) (fun _ _ _ h => h) (Or.inl ⟨by rfl, ?_⟩) (by assumption) ?_
          rotate_left
          · intro w hSw
            try dsimp only at hSw
            go_simp
            all_goals with_reducible rfl
          try simp only [Act.put, List.setIfInBounds_toArray, List.set_cons_zero, List.set_cons_succ]
          refine wpAnyH_take (i := 36) (oi := Oper.mk _ _ _ _ _ _) (v := ?_) rfl (by kernel_rfl) (by kernel_rfl) (by kernel_rfl) (fun _ _ _ h => h) (Or.inl ⟨by rfl, ?_⟩) (by assumption) ?_
          rotate_left
          · intro w hSw
            try dsimp only at hSw
            go_simp
            all_goals with_reducible rfl
          try simp only [Act.put, List.setIfInBounds_toArray, List.set_cons_zero, List.set_cons_succ]
          refine wpAnyH_take (i := 37) (oi := Oper.mk _ _ _ _ _ _) (v := ?_) rfl (by kernel_rfl) (by kernel_rfl) (by kernel_rfl) (fun _ _ _ h => h) (Or.inl ⟨by rfl, ?_⟩) (by assumption) ?_
          rotate_left
          · intro w hSw
            try dsimp only at hSw
            go_simp
            all_goals with_reducible rfl
          try simp only [Act.put, List.setIfInBounds_toArray, List.set_cons_zero, List.set_cons_succ]
          refine wpAnyH_take (i := 38) (oi := Oper.mk _ _ _ _ _ _) (v := ?_) rfl (by kernel_rfl) (by kernel_rfl) (by kernel_rfl) (fun _ _ _ h => h) (Or.inl ⟨by rfl, ?_⟩) (by assumption) ?_
          rotate_left
          · intro w hSw
            try dsimp only at hSw
            go_simp
            all_goals with_reducible rfl
          try simp only [Act.put, List.setIfInBounds_toArray, List.set_cons_zero, List.set_cons_succ]
          refine wpAnyH_take (i := 39) (oi := Oper.mk _ _ _ _ _ _) (v := ?_) rfl (by kernel_rfl) (by kernel_rfl) (by kernel_rfl) (fun _ _ _ h => h) (Or.inl ⟨by rfl, ?_⟩) (by assumption) ?_
          rotate_left
          · intro w hSw
            try dsimp only at hSw
            go_simp
            all_goals with_reducible rfl
          try simp only [Act.put, List.setIfInBounds_toArray, List.set_cons_zero, List.set_cons_succ]
          refine wpAnyH_take (i := 41) (oi := Oper.mk _ _ _ _ _ _) (v := ?_) rfl (by kernel_rfl) (by kernel_rfl) (by kernel_rfl) (fun _ _ _ h => h) (Or.inl ⟨by rfl, ?_⟩) (by assumption) ?_
          rotate_left
          · intro w hSw
            try dsimp only at hSw
            go_simp
            all_goals with_reducible rfl
          try simp only [Act.put, List.setIfInBounds_toArray, List.set_cons_zero, List.set_cons_succ]
          refine wpAnyH_ready (rs := [40]) (by kernel_rfl) (by simp) ?_
          refine AllReadyH.cons (o := Oper.mk _ _ _ _ _ _) rfl (fun K hK => ?_) AllReadyH.nil
          go_simp
          refine Calls.mono (HCk.out _) ?_
          rintro e w5 ⟨rfl, hb5⟩
          have hb5' : Below wr.heap.size wr w5 := ⟨hb5.os, hb5.tape, hb5.output, hb5.size, hb5.block⟩
          have S5 := mkHid (hS.out.next hb5')
          have d0 : w5.cell? ⟨C, 0, none⟩ = some (.int .i64 (A : Int)) := cell_of_block S5.out.bx 0
          have d1 : w5.cell? ⟨C, 1, none⟩ = some (.int .i64 (B : Int)) := cell_of_block S5.out.bx 1
          have d2 : w5.cell? ⟨C, 2, none⟩ = some (.int .i64 (X : Int)) := cell_of_block S5.out.bx 2
          have d7 : w5.cell? ⟨b7, o7 + k, none⟩ = some (.string pc) := (hb5'.cell (p := ⟨b7, o7 + k, none⟩) (World.block_lt_of_cell? wr _ hc7)).trans hc7
          clear hb5 hb5'
          show K _ _
          refine hK.out _ _ ⟨d0, d1, d2, d7⟩ (fun hHeld => ?_)
          clear hK K
          try simp only [Act.put, List.setIfInBounds_toArray, List.set_cons_zero, List.set_cons_succ]
          refine wpAnyH_take (i := 42) (oi := Oper.mk _ _ _ _ _ _) (v := ?_) rfl (by kernel_rfl) (by kernel_rfl) (by kernel_rfl) (fun _ _ _ h => h) (Or.inl ⟨by rfl, ?_⟩) (by assumption) ?_
          rotate_left
          · intro w hSw
            try dsimp only at hSw
            go_simp
            all_goals with_reducible rfl
          try simp only [Act.put, List.setIfInBounds_toArray, List.set_cons_zero, List.set_cons_succ]
          refine wpAnyH_take (i := 43) (oi := Oper.mk _ _ _ _ _ _) (v := ?_) rfl (by kernel_rfl) (by kernel_rfl) (by kernel_rfl) (fun _ _ _ h => h) (Or.inl ⟨by rfl, ?_⟩) (by assumption) ?_
          rotate_left
          · intro w hSw
            try dsimp only at hSw
            go_simp
            all_goals with_reducible rfl
          try simp only [Act.put, List.setIfInBounds_toArray, List.set_cons_zero, List.set_cons_succ]
          refine wpAnyH_done (by kernel_rfl) ?_ _
          go_wp2
          go_meet
          exact ⟨rfl, S5⟩
      case rest =>
        obtain ⟨rfl, hS2⟩ := hcut
        clear hS c0 c1 c2 hc7 HCk hmn hlen hsl hxs hn1' hn2' hn3' hn4' hd1 hd2 hd3
        obtain ⟨e0, e1, e2⟩ := cells3 hS2.out.bx
        by_cases hkk : k = kk
        · subst hkk
          go_wp2_with fail
          refine (HQ.out _ rest hrs).mono ?_
          rintro e w6 ⟨a13, c13, rfl, hr13, hb6⟩
          have hdrop : ps.drop k = pieces A B X rest := LL.out
          obtain ⟨q, hq⟩ : ∃ q, q = pieces A B X rest := ⟨_, rfl⟩
          rw [← hq] at hr13 hdrop
          rw [← hq]
          have hql : (q.length : Int) = (ps.length : Int) - (k : Int) := by rw [← hdrop, List.length_drop]; omega
          have S6 := mkHid (And.intro (hS2.out.next hb6) (And.intro hr13 hdrop))
          have hwl : IntKind.i64.wrap ((ps.length : Int) - (k : Int)) = (q.length : Int) := by rw [← hql]; simp [IntKind.wrap, IntKind.bits, IntKind.signed]; omega
          have hql' : (ps.length : Int) - (k : Int) = (q.length : Int) := hql.symm
          have hqi : (q.length : Int) ≤ 20000 := by omega
          clear hb6 hr13 hdrop hq hS2 e0 e1 e2 hql
          go_wp2
          go_loopw [14] (fun i wr2 => ∃ j : Nat, j ≤ q.length ∧ i = .int .i64 j ∧ Hid (Fp w C (.cells #[.int .i64 (A : Int), .int .i64 (B : Int), .int .i64 (X : Int)] 29) (some ⟨b7, o7, none⟩) ps wr2 ∧ RdT wr2 a13 q ∧ ps.drop k = q))
            (fun i _ => q.length - (intOf i).toNat)
          case atStart => exact ⟨0, Nat.zero_le _, rfl, S6⟩
          case round =>
            clear S6
            obtain ⟨j, hj, rfl, hT⟩ := hrel
            by_cases hjl : j < q.length
            · obtain ⟨y, hy⟩ : ∃ y, q[j]? = some y := ⟨_, List.getElem?_eq_getElem hjl⟩
              have hy2 : ps[k + j]? = some y := by rw [← hT.out.2.2, List.getElem?_drop] at hy; exact hy
              obtain ⟨b13, o13, rfl, hx⟩ := hT.out.2.1 j y hy
              obtain ⟨b8, o8, he, hx2⟩ := hT.out.1.rd (k + j) y hy2
              simp at he
              obtain ⟨rfl, rfl⟩ := he
              obtain ⟨m, hm⟩ : ∃ m, m = k + j := ⟨_, rfl⟩
              rw [← hm] at hx2
              have hwm : IntKind.i64.wrap ((k : Int) + (j : Int)) = (m : Int) := by rw [show (k : Int) + (j : Int) = (m : Int) by omega]; simp [IntKind.wrap, IntKind.bits, IntKind.signed]; omega
              have hm' : (k : Int) + (j : Int) = (m : Int) := by omega
              have hml : (m : Int) < (ps.length : Int) := by omega
              have hji : (j : Int) < (q.length : Int) := by omega
              clear hy hy2 hm
              go_wp2_with fail
              go_region
              go_wp2
              go_roundw
              case rel => exact ⟨j + 1, by omega, by go_num, mkHid ⟨⟨like hT.out.1.below rfl rfl rfl rfl, hT.out.1.bx, hT.out.1.rd⟩, hT.out.2.1, hT.out.2.2⟩⟩
              case measure => simp [intOf]; omega
            · have hji : (q.length : Int) ≤ (j : Int) := by omega
              have S7 := mkHid hT.out.1
              clear hT
              go_wp2
              go_roundw
              case rel => exact ⟨k + 1, rest.extract n rest.size, by omega, by go_num, rfl, by simp; omega, NN, S7⟩
              case measure => simp [intOf]; omega
        · have hkki : ¬ (k : Int) = (kk : Int) := by omega
          go_wp2
          go_roundw
          case rel => exact ⟨k + 1, rest.extract n rest.size, by omega, by go_num, rfl, by simp; omega, NN, hS2⟩
          case measure => simp [intOf]; omega
    · have hz := hL.out.last G.out.1 G.out.2 (by omega)
      obtain rfl : rest = ⟨#[]⟩ := ByteArray.ext (Array.eq_empty_of_size_eq_zero hz)
      have hki : (ps.length : Int) ≤ (k : Int) := by omega
      clear hL hz
      go_wp2
      go_ret
      exact ⟨rfl, hS.out.below⟩

set_option maxRecDepth 100000 in
theorem fnPieces_walk (IP : IPieces) (IC : ICutAt) (a : Option Addr) (len cap : Nat) (b : Option Addr) (lenb capb : Nat) (w : World) (hl : (len : Int) ≤ 9223372036854775807) (hr : Row w a len) (hlb : (lenb : Int) ≤ 9223372036854775807) (hrb : Row w b lenb) :
    Calls Try.prog 4 #[.slice a len cap, .slice b lenb capb] w fun e w' => e = .returned (.bool true) ∧ Below w.heap.size w w' := by
  by_cases h0 : 1048576 < (len : Int)
  · clear IP IC hr hrb
    go_enter Try.func4, Try.ntmps4
    go_wp2
    go_ret
    exact ⟨rfl, Below.refl _ _⟩
  by_cases h1 : 1048576 < (lenb : Int)
  · have h0' : (len : Int) ≤ 1048576 := by omega
    clear IP IC hr hrb
    go_enter Try.func4, Try.ntmps4
    go_wp2
    go_ret
    exact ⟨rfl, Below.refl _ _⟩
  exact fnPieces_in IP IC a len cap b lenb capb w (by omega) hr (by omega) hrb
end Go.Proofs.Ytbdkpcgmnppkgaa.fing
