/-
  What impl.Digest and impl.Short answer and leave. Conditions: a text of at most 1,048,576 bytes; the numbers of the rounds are there.
-/
import Derived.Test.YtaepdmeghfbngaaDoorHEndI
import Derived.Test.YtaepdmeghfbngaaDoorHBeginI
import Derived.Test.YtaepdmeghfbngaaDoorParts
import Derived.Test.YtaepdmeghfbngaaDoorHexI
namespace Go.Proofs.YtaepdmeghfbngaaDoor.digI
open Go.RowKit Go.Joins
open Go.Proofs.YtaepdmeghfbngaaDoor.base Go.Proofs.YtaepdmeghfbngaaDoor.ints Go.Proofs.YtaepdmeghfbngaaDoor.blk Go.Proofs.YtaepdmeghfbngaaDoor.himpl
open Go.Proofs.YtaepdmeghfbngaaDoor.sha (hRight endH digest short moreH startL stOf rest GV)
set_option linter.unusedVariables false

theorem st_len (p : ByteArray) : (stOf p).length = 8 := sha.list8_len _
theorem ownV_some {w : World} {a : Option Addr} {zs : List Int} (h : OwnV w a zs) (hz : zs.length = 8) : ∃ g, a = some ⟨g, 0, none⟩ ∧ OwnS w g zs := by
  rcases h with ⟨rfl, rfl⟩ | h
  · simp at hz
  · exact h

set_option maxRecDepth 100000 in
set_option maxHeartbeats 1000000 in
theorem digest_any : IDigest := by
  intro t w ht hG
  by_cases h1 : 20000 < (t.size : Int)
  · have E : digest t = ⟨#[]⟩ := by unfold digest; rw [if_pos (by omega)]
    rw [E]
    clear E
    go_enter Tryd.func9, Tryd.ntmps9
    go_wp2
    go_ret
    exact ⟨rfl, Below.refl _ _⟩
  · have HB : Hid (∀ wx, Calls Tryd.prog 16 #[] wx fun e w' => ∃ g c, e = .returned (.agg #[.slice (some ⟨g, 0, none⟩) 8 c, .string (rest ⟨#[]⟩), .int .i64 0]) ∧ Rd w' (some ⟨g, 0, none⟩) (stOf ⟨#[]⟩) ∧ g < w'.heap.size ∧ Below wx.heap.size wx w') :=
      mkHid (fun wx => by
        have k := begin_any wx
        rw [sha.start_parts] at k
        refine k.mono ?_
        rintro e w' ⟨a', c', rfl, ho, hf, hb⟩
        obtain ⟨g', rfl, hg⟩ := ownV_some ho (st_len _)
        exact ⟨g', c', by rw [st_len]; rfl, hg.rd, hg.lt, hb⟩)
    have HM : Hid (∀ wx g c, Below w.heap.size w wx → Rd wx (some ⟨g, 0, none⟩) (stOf ⟨#[]⟩) → g < wx.heap.size → Calls Tryd.prog 15 #[.agg #[.slice (some ⟨g, 0, none⟩) 8 c, .string (rest ⟨#[]⟩), .int .i64 0], .string t] wx fun e w' => ∃ g' c', e = .returned (.agg #[.slice (some ⟨g', 0, none⟩) 8 c', .string (rest t), .int .i64 (t.size : Int)]) ∧ Rd w' (some ⟨g', 0, none⟩) (stOf t) ∧ Below wx.heap.size wx w') :=
      mkHid (fun wx g c h0 h1 h2 => by
        have k := more_any g 0 c (stOf ⟨#[]⟩) (rest ⟨#[]⟩) t ((⟨#[]⟩ : ByteArray).size : Int) wx (by rw [st_len]; omega) h1 h2 (by rw [sha.rest_size]; decide) ht (by decide) (by decide) (hG.at h0)
        rw [sha.more_parts ⟨#[]⟩ t (by omega) (by show ((0 : Nat) : Int) + _ ≤ _; omega), st_len, sha.nil_app] at k
        refine k.mono ?_
        rintro e w' ⟨a', c', rfl, ho, hf, hb⟩
        obtain ⟨g', rfl, hg⟩ := ownV_some ho (st_len _)
        exact ⟨g', c', by rw [st_len]; rfl, hg.rd, hb⟩)
    have HE : Hid (∀ wx g c, Below w.heap.size w wx → Rd wx (some ⟨g, 0, none⟩) (stOf t) → Calls Tryd.prog 14 #[.agg #[.slice (some ⟨g, 0, none⟩) 8 c, .string (rest t), .int .i64 (t.size : Int)]] wx fun e w' => e = .returned (.string (digest t)) ∧ Below wx.heap.size wx w') :=
      mkHid (fun wx g c h0 h1 => by
        have k := end_any g 0 c (stOf t) (rest t) t.size wx (by rw [st_len]; omega) h1 (by rw [sha.rest_size]; omega) (by omega) (by omega) (hG.at h0)
        rw [sha.end_parts t (by omega), st_len] at k
        exact k)
    clear hG
    generalize rest ⟨#[]⟩ = r0 at *
    generalize stOf ⟨#[]⟩ = s0 at *
    generalize rest t = r1 at *
    generalize stOf t = s1 at *
    generalize digest t = d at *
    go_enter Tryd.func9, Tryd.ntmps9
    go_wp2_with fail
    refine (HB.out _).mono ?_
    rintro e w1 ⟨g, c, rfl, hr1, hl1, hb1⟩
    have B1 := mkHid (And.intro hb1 (And.intro hr1 hl1))
    clear hb1 hr1 hl1
    go_wp2_with fail
    refine (HM.out _ _ _ B1.out.1 B1.out.2.1 B1.out.2.2).mono ?_
    rintro e w2 ⟨g2, c2, rfl, hr2, hb2⟩
    have B2 := mkHid (And.intro (B1.out.1.trans (hb2.mono B1.out.1.size)) hr2)
    clear hb2 hr2 B1
    go_wp2_with fail
    refine (HE.out _ _ _ B2.out.1 B2.out.2).mono ?_
    rintro e w3 ⟨rfl, hb3⟩
    have B3 := mkHid (B2.out.1.trans (hb3.mono B2.out.1.size))
    clear hb3 B2
    go_wp2
    go_ret
    exact ⟨rfl, B3.out⟩

end Go.Proofs.YtaepdmeghfbngaaDoor.digI
