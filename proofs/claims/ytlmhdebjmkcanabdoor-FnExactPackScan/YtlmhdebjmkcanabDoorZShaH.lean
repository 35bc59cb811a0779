/-
  impl.Hex: what it answers.
  What impl.Digest and impl.Short answer and leave. Conditions: a text of at most 1,048,576 bytes; the numbers of the rounds are there.
-/
import Derived.Test.YtlmhdebjmkcanabDoorZBytes
import Derived.Test.YtlmhdebjmkcanabDoorZShaG
import Derived.Test.YtlmhdebjmkcanabDoorZShaE
import Derived.Test.YtlmhdebjmkcanabDoorZShaD
import Derived.Laws.CopyOwn
namespace Go.Proofs.YtlmhdebjmkcanabDoor.fnExactHex
open Go.ChangeShapes Go.WideShapes Go.ChangeAt Go.RowKit
open Go.Proofs.YtlmhdebjmkcanabDoor.base
set_option linter.unusedVariables false

theorem and15 (c : UInt8) : bits BinOp.and IntKind.u8 (c.toNat : Int) 15 = (c.toNat : Int) % 16 := by
  have hc := c.toNat_lt
  rw [u8_and _ _ (by omega) (by omega) (by omega) (by omega)]
  have e : ((c.toNat : Int)).toNat = c.toNat := by omega
  have e2 : (15 : Int).toNat = 15 := rfl
  rw [e, e2, nat_mask4]
  omega
theorem at_hi (c : UInt8) : ∀ h, (⟨#[48, 49, 50, 51, 52, 53, 54, 55, 56, 57, 97, 98, 99, 100, 101, 102]⟩ : ByteArray)[((c.toNat : Int) / 16).toNat]'h = hd (c.toNat / 16) := by
  have hc := c.toNat_lt
  have e : ((c.toNat : Int) / 16).toNat = c.toNat / 16 := by omega
  simp only [e]
  intro _
  exact dig_at ⟨c.toNat / 16, by omega⟩
theorem at_lo (c : UInt8) : ∀ h, (⟨#[48, 49, 50, 51, 52, 53, 54, 55, 56, 57, 97, 98, 99, 100, 101, 102]⟩ : ByteArray)[((c.toNat : Int) % 16).toNat]'h = hd (c.toNat % 16) := by
  have e : ((c.toNat : Int) % 16).toNat = c.toNat % 16 := by omega
  simp only [e]
  intro _
  exact dig_at ⟨c.toNat % 16, by omega⟩

/-- the row behind k rounds -/
def rowL (s : ByteArray) (k : Nat) : List Value := (hexL (s.data.toList.take k)).map byteV ++ List.replicate (2 * (s.size - k)) (.int .u8 0)

theorem len_take (s : ByteArray) (k : Nat) (hk : k ≤ s.size) : (hexL (s.data.toList.take k)).length = 2 * k := by
  rw [hexL_len, List.length_take]
  have e : s.data.toList.length = s.size := by rw [Array.length_toList]; rfl
  rw [e]; omega
theorem rowL_len (s : ByteArray) (k : Nat) (hk : k ≤ s.size) : (rowL s k).length = 2 * s.size := by
  simp only [rowL, List.length_append, List.length_map, len_take s k hk, List.length_replicate]
  omega
theorem rowL_zero (s : ByteArray) : (rowL s 0).toArray = madeCells #[.int .u8 0] (2 * s.size) := by
  apply Array.ext
  · simp [rowL, hexL, madeCells]
  · intro i h1 h2
    simp [rowL, hexL, madeCells, Nat.mod_one]
theorem rowL_next (s : ByteArray) (k : Nat) (hlt : k < s.size) :
    splice (rowL s k) (2 * k) [.int .u8 ((hd (s[k].toNat / 16)).toNat : Int), .int .u8 ((hd (s[k].toNat % 16)).toNat : Int)] = rowL s (k + 1) := by
  have hl := len_take s k (by omega)
  have e : 2 * (s.size - k) = 2 + 2 * (s.size - (k + 1)) := by omega
  unfold splice rowL
  rw [take_snoc s k hlt, hexL_snoc, e]
  generalize hexL (s.data.toList.take k) = A at *
  have h1 : ((A.map byteV) ++ List.replicate (2 + 2 * (s.size - (k + 1))) (Value.int .u8 0)).take (2 * k) = A.map byteV := by
    rw [List.take_append_of_le_length (by simp [hl]), List.take_of_length_le (by simp [hl])]
  have h2 : ((A.map byteV) ++ List.replicate (2 + 2 * (s.size - (k + 1))) (Value.int .u8 0)).drop (2 * k + 2) = List.replicate (2 * (s.size - (k + 1))) (Value.int .u8 0) := by
    rw [List.drop_append, List.drop_of_length_le (by simp [hl])]
    simp [hl]
  simp only [List.length_cons, List.length_nil]
  rw [h1, h2]
  simp [byteV]
theorem wrap_two (k : Nat) (h : k ≤ 20000) : IntKind.i64.wrap (2 * (k : Int)) = 2 * (k : Int) := by
  simp [IntKind.wrap, IntKind.bits, IntKind.signed]; omega
theorem two_min {n : Nat} {x y : Value} (h : 2 ≤ n) : [x, y].length = Nat.min 2 n := by
  simp [h]
theorem info5' : (Tryd.prog.info? 5).map (·.size) = some 1 := by kernel_rfl

end Go.Proofs.YtlmhdebjmkcanabDoor.fnExactHex
namespace Go.Proofs.YtlmhdebjmkcanabDoor.digI
open Go.RowKit Go.Joins
open Go.Proofs.YtlmhdebjmkcanabDoor.base Go.Proofs.YtlmhdebjmkcanabDoor.ints Go.Proofs.YtlmhdebjmkcanabDoor.blk Go.Proofs.YtlmhdebjmkcanabDoor.himpl
open Go.Proofs.YtlmhdebjmkcanabDoor.sha (hRight endH digest short moreH startL stOf rest GV)
set_option linter.unusedVariables false

theorem st_len (p : ByteArray) : (stOf p).length = 8 := sha.list8_len _
theorem ownV_some {w : World} {a : Option Addr} {zs : List Int} (h : OwnV w a zs) (hz : zs.length = 8) : ∃ g, a = some ⟨g, 0, none⟩ ∧ OwnS w g zs := by
  rcases h with ⟨rfl, rfl⟩ | h
  · simp at hz
  · exact h

set_option maxRecDepth 100000 in
set_option maxHeartbeats 1000000 in
theorem digest_any : IDigest := by
  intro t w ht hG
  by_cases h1 : 20000 < (t.size : Int)
  · have E : digest t = ⟨#[]⟩ := by unfold digest; rw [if_pos (by omega)]
    rw [E]
    clear E
    go_enter Tryd.func47, Tryd.ntmps47
    go_wp2
    go_ret
    exact ⟨rfl, Below.refl _ _⟩
  · have HB : Hid (∀ wx, Calls Tryd.prog 65 #[] wx fun e w' => ∃ g c, e = .returned (.agg #[.slice (some ⟨g, 0, none⟩) 8 c, .string (rest ⟨#[]⟩), .int .i64 0]) ∧ Rd w' (some ⟨g, 0, none⟩) (stOf ⟨#[]⟩) ∧ g < w'.heap.size ∧ Below wx.heap.size wx w') :=
      mkHid (fun wx => by
        have k := begin_any wx
        rw [sha.start_parts] at k
        refine k.mono ?_
        rintro e w' ⟨a', c', rfl, ho, hf, hb⟩
        obtain ⟨g', rfl, hg⟩ := ownV_some ho (st_len _)
        exact ⟨g', c', by rw [st_len]; rfl, hg.rd, hg.lt, hb⟩)
    have HM : Hid (∀ wx g c, Below w.heap.size w wx → Rd wx (some ⟨g, 0, none⟩) (stOf ⟨#[]⟩) → g < wx.heap.size → Calls Tryd.prog 64 #[.agg #[.slice (some ⟨g, 0, none⟩) 8 c, .string (rest ⟨#[]⟩), .int .i64 0], .string t] wx fun e w' => ∃ g' c', e = .returned (.agg #[.slice (some ⟨g', 0, none⟩) 8 c', .string (rest t), .int .i64 (t.size : Int)]) ∧ Rd w' (some ⟨g', 0, none⟩) (stOf t) ∧ Below wx.heap.size wx w') :=
      mkHid (fun wx g c h0 h1 h2 => by
        have k := more_any g 0 c (stOf ⟨#[]⟩) (rest ⟨#[]⟩) t ((⟨#[]⟩ : ByteArray).size : Int) wx (by rw [st_len]; omega) h1 h2 (by rw [sha.rest_size]; decide) ht (by decide) (by decide) (hG.at h0)
        rw [sha.more_parts ⟨#[]⟩ t (by omega) (by show ((0 : Nat) : Int) + _ ≤ _; omega), st_len, sha.nil_app] at k
        refine k.mono ?_
        rintro e w' ⟨a', c', rfl, ho, hf, hb⟩
        obtain ⟨g', rfl, hg⟩ := ownV_some ho (st_len _)
        exact ⟨g', c', by rw [st_len]; rfl, hg.rd, hb⟩)
    have HE : Hid (∀ wx g c, Below w.heap.size w wx → Rd wx (some ⟨g, 0, none⟩) (stOf t) → Calls Tryd.prog 63 #[.agg #[.slice (some ⟨g, 0, none⟩) 8 c, .string (rest t), .int .i64 (t.size : Int)]] wx fun e w' => e = .returned (.string (digest t)) ∧ Below wx.heap.size wx w') :=
      mkHid (fun wx g c h0 h1 => by
        have k := end_any g 0 c (stOf t) (rest t) t.size wx (by rw [st_len]; omega) h1 (by rw [sha.rest_size]; omega) (by omega) (by omega) (hG.at h0)
        rw [sha.end_parts t (by omega), st_len] at k
        exact k)
    clear hG
    generalize rest ⟨#[]⟩ = r0 at *
    generalize stOf ⟨#[]⟩ = s0 at *
    generalize rest t = r1 at *
    generalize stOf t = s1 at *
    generalize digest t = d at *
    go_enter Tryd.func47, Tryd.ntmps47
    go_wp2_with fail
    refine (HB.out _).mono ?_
    rintro e w1 ⟨g, c, rfl, hr1, hl1, hb1⟩
    have B1 := mkHid (And.intro hb1 (And.intro hr1 hl1))
    clear hb1 hr1 hl1
    go_wp2_with fail
    refine (HM.out _ _ _ B1.out.1 B1.out.2.1 B1.out.2.2).mono ?_
    rintro e w2 ⟨g2, c2, rfl, hr2, hb2⟩
    have B2 := mkHid (And.intro (B1.out.1.trans (hb2.mono B1.out.1.size)) hr2)
    clear hb2 hr2 B1
    go_wp2_with fail
    refine (HE.out _ _ _ B2.out.1 B2.out.2).mono ?_
    rintro e w3 ⟨rfl, hb3⟩
    have B3 := mkHid (B2.out.1.trans (hb3.mono B2.out.1.size))
    clear hb3 B2
    go_wp2
    go_ret
    exact ⟨rfl, B3.out⟩

end Go.Proofs.YtlmhdebjmkcanabDoor.digI
