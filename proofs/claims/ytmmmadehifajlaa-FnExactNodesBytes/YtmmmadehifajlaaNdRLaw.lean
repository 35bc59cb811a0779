/-
  laws.FnExactNodesRight answers true at every row of nodes, and leaves what was there as it was. No condition.
-/
import Derived.Test.YtmmmadehifajlaaNdN
import Derived.Test.YtmmmadehifajlaaNodT
namespace Go.Proofs.Ytmmmadehifajlaa.nod
open Go.RowKit Go.Joins
open Go.Proofs.Ytmmmadehifajlaa.base Go.Proofs.Ytmmmadehifajlaa.blk Go.Proofs.Ytmmmadehifajlaa.aid
open Go.Proofs.Ytmmmadehifajlaa.row (Rd Own OwnV)
open Go.Proofs.Ytmmmadehifajlaa.strs (tx)
open Go.Proofs.Ytmmmadehifajlaa.mem (Mem Mine Off)
set_option linter.unusedVariables false
set_option linter.unusedSimpArgs false

theorem rdN_t {W wx : World} {a : Option Addr} {ds' : List Nd} (h : Mem W [] [] (⟨59, a, ncs ds'⟩ :: mines ds'.reverse) wx) : RdN wx a ds' := by
  have h2 : Mem W [] [] (⟨59, a, ncs ds'⟩ :: (mines ds'.reverse ++ [])) wx := by rw [List.append_nil]; exact h
  exact rdN_of h2 (fun d hd => List.mem_reverse.2 hd)
/-- what comes of a size that is enough -/
theorem small_of {ds : List Nd} {z : Int} (h : Left (ds.length + some_ ds) 1048576 (FitN ds) z) (hz : 0 ≤ z) : ds.length ≤ 1048576 ∧ (∀ d ∈ ds, d.2.2.2.2.2.length ≤ 1048576) ∧ SmallN ds := by
  have hp := some_pos ds
  rcases h with h | ⟨_, h2, h3⟩
  · omega
  · have hk : ∀ d ∈ ds, d.2.2.2.2.2.length ≤ 1048576 := fun d hd => by have := some_le ds d hd; omega
    exact ⟨by omega, hk, fun d hd => ⟨(h3 d hd).1, hk d hd, (h3 d hd).2⟩⟩
/-- what stands in memory while a law goes on -/
structure Lx (w : World) (a : Option Addr) (ds : List Nd) (wr : World) : Prop where
  below : Below w.heap.size w wr
  r : RdN wr a ds
theorem Lx.next {w wr w' : World} {a : Option Addr} {ds : List Nd} (h : Lx w a ds wr) (hb : Below wr.heap.size wr w') : Lx w a ds w' := ⟨h.below.trans (hb.mono h.below.size), h.r.below hb⟩
set_option maxRecDepth 100000 in
set_option maxHeartbeats 2000000 in
theorem right_walk (a : Option Addr) (c : Nat) (ds : List Nd) (w : World) (hl : (ds.length : Int) ≤ 9223372036854775807) (hs : Big ds) (hr : RdN w a ds) :
    Calls Try.prog 5 #[.slice a ds.length c] w fun e w' => e = .returned (.bool true) ∧ Below w.heap.size w w' := by
  have HZ := mkHid (szNS_any a c ds w hl hs hr)
  have S0 : Hid (Lx w a ds w) := mkHid ⟨Below.refl _ _, hr⟩
  clear hr hs hl
  go_enter Try.func5, Try.ntmps5
  go_wp2_with fail
  refine HZ.out.mono ?_
  rintro e w1 ⟨⟨z, rfl, hL⟩, hb1⟩
  have S1 := mkHid (S0.out.next hb1)
  by_cases hz : z < 0
  · clear hb1 HZ hL S0
    go_wp2
    go_ret
    exact ⟨rfl, S1.out.below⟩
  · have hz0 : 0 ≤ z := by omega
    obtain ⟨hl1, hl2, hsm⟩ := small_of hL hz0
    have HT := mkHid (fun wx (hx : RdN wx a ds) => toS_any a c ds wx hl1 hl2 hx)
    unfold TPost at HT
    have HS := mkHid (fun wx a' c' ds' n (hn : ds'.length = n) (hv : ds'.map val = ds.map val) (hx : RdN wx a' ds') => by
      have h := rightS_any a' c' ds' wx (by rw [val_len hv]; exact hl1) (small_val hv hsm) hx
      rw [hv, hn] at h
      exact h)
    have HI := mkHid (fun wx a' c' ds' n (hn : ds'.length = n) (hv : ds'.map val = ds.map val) (hx : RdN wx a' ds') => by
      have h := rightI_any a' c' ds' wx (by rw [val_len hv]; exact hl1) (small_val hv hsm) hx
      rw [hv, hn] at h
      exact h)
    have HE := mkHid (fun wx a1 c1 a2 c2 d1 d2 n (hn : d1.length = n) (hn2 : n = ds.length) (h1 : d1.map val = ds.map val) (h2 : d2.map val = ds.map val) (x1 : RdN wx a1 d1) (x2 : RdN wx a2 d2) => eqS_same a1 a2 c1 c2 d1 d2 wx n hn (h2.trans h1.symm) (by omega) (val_all (P := fun v => v.2.2.2.length ≤ 1048576) h1 hl2) x1 x2)
    have HLen := mkHid (fun (d1 : List Nd) (h : d1.map val = ds.map val) => val_len h)
    generalize nodesB (ds.map val) = bb at *
    have hbb : (bb != bb) = false := by cases bb <;> rfl
    clear hb1 HZ hL S0 hsm hl2 hl1
    go_wp2_with fail
    refine (HT.out _ S1.out.r).mono ?_
    rintro e w2 ⟨d2, rfl, hv2, _, hM2⟩
    have S2 := mkHid (And.intro (S1.out.next hM2.below) (rdN_t hM2))
    have V2 := mkHid hv2
    clear hM2 hv2 S1
    go_wp2_with fail
    refine (HS.out _ _ _ d2 _ (HLen.out d2 V2.out) V2.out S2.out.2).mono ?_
    rintro e w3 ⟨rfl, hb3⟩
    have S3 := mkHid (S2.out.1.next hb3)
    clear hb3 S2 V2 HS
    go_wp2_with fail
    refine (HT.out _ S3.out.r).mono ?_
    rintro e w4 ⟨d4, rfl, hv4, _, hM4⟩
    have S4 := mkHid (And.intro (S3.out.next hM4.below) (rdN_t hM4))
    have V4 := mkHid hv4
    clear hM4 hv4 S3
    go_wp2_with fail
    refine (HI.out _ _ _ d4 _ (HLen.out d4 V4.out) V4.out S4.out.2).mono ?_
    rintro e w5 ⟨rfl, hb5⟩
    have S5 := mkHid (And.intro (S4.out.1.next hb5) (S4.out.2.below hb5))
    clear hb5 S4 HI
    go_wp2_with fail
    refine (HT.out _ S5.out.1.r).mono ?_
    rintro e w6 ⟨d6, rfl, hv6, _, hM6⟩
    have S6 := mkHid (And.intro (S5.out.1.next hM6.below) (And.intro (S5.out.2.below hM6.below) (rdN_t hM6)))
    have V6 := mkHid hv6
    clear hM6 hv6 S5
    go_wp2_with fail
    refine (HE.out _ _ _ _ _ d4 d6 _ (HLen.out d4 V4.out) rfl V4.out V6.out S6.out.2.1 S6.out.2.2).mono ?_
    rintro e w7 ⟨rfl, hb7⟩
    have S7 := mkHid (S6.out.1.next hb7)
    clear hb7 S6
    go_wp2
    go_ret
    exact ⟨rfl, S7.out.below⟩
end Go.Proofs.Ytmmmadehifajlaa.nod
