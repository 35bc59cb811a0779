/-
  laws.FnPack answers true at all bytes, and leaves what was there as it was. Conditions: the numbers of the rounds are there; the bytes lie in memory.
-/
import Derived.Test.YtlmhdebjmkcanaaDoorZDrawC
import Derived.Test.YtlmhdebjmkcanaaDoorZPackA
import Derived.Test.YtlmhdebjmkcanaaDoorZLwBlobs
import Derived.Test.YtlmhdebjmkcanaaDoorZReadLaw
namespace Go.Proofs.YtlmhdebjmkcanaaDoor.fnpack
open Go.RowKit Go.Joins
open Go.Proofs.YtlmhdebjmkcanaaDoor.base Go.Proofs.YtlmhdebjmkcanaaDoor.blk Go.Proofs.YtlmhdebjmkcanaaDoor.aid Go.Proofs.YtlmhdebjmkcanaaDoor.pack
open Go.Proofs.YtlmhdebjmkcanaaDoor.row (bl en Rd Own OwnV)
open Go.Proofs.YtlmhdebjmkcanaaDoor.draw (Row)
open Go.Proofs.YtlmhdebjmkcanaaDoor.rdr (OPost)
open Go.Proofs.YtlmhdebjmkcanaaDoor.sha (GV)
set_option linter.unusedVariables false

set_option maxRecDepth 100000 in
set_option maxHeartbeats 4000000 in
theorem walk_in (A : IAt) (a : Option Addr) (len cap : Nat) (b : Option Addr) (lenb capb : Nat) (w : World) (hG : GV w) (hl : len ≤ 1048576) (hr : Row w a len) (hlb : lenb ≤ 1048576) (hrb : Row w b lenb) :
    Calls Tryd.prog 3 #[.slice a len cap, .slice b lenb capb] w fun e w' => e = .returned (.bool true) ∧ Below w.heap.size w w' := by
  have hli : (len : Int) ≤ 1048576 := by omega
  have hlbi : (lenb : Int) ≤ 1048576 := by omega
  have HD := mkHid (draw.drawPackBytes_any a len cap w hl hr)
  have HE := mkHid (fun wx (h : Row wx b lenb) => draw.drawPackRead_any b lenb capb wx hlb h)
  have HR := mkHid hrb
  have HG := mkHid (fun wx (hb : Below w.heap.size w wx) => hG.below hb hG.lt)
  clear hl hr hlb hrb hG
  go_enter Tryd.func3, Tryd.ntmps3
  go_wp2_with fail
  refine HD.out.mono ?_
  rintro e w1 ⟨l, a1, c1, rfl, hl1, hr1, hb1⟩
  have K1 := mkHid (And.intro hb1 (And.intro (HR.out.below hb1) hr1))
  clear hb1 hr1 HD HR
  have HBI := mkHid (fun wx (hx : Rd wx a1 (bl l)) (hb : Below w.heap.size w wx) => bytes_impl a1 c1 l wx (by omega) hx digI.digest_any (HG.out wx hb))
  have HBS := mkHid (fun wx (hx : Rd wx a1 (bl l)) => bytes_spec a1 c1 l wx (by omega) hx)
  have HRI := mkHid (fun wx (hx : Rd wx a1 (bl l)) (hb : Below w.heap.size w wx) => right_pack a1 c1 l wx (by omega) hx digI.digest_any (HG.out wx hb))
  go_wp2_with fail
  refine (HBI.out _ K1.out.2.2 K1.out.1).mono ?_
  rintro e w2 ⟨rfl, hb2⟩
  have K2 := mkHid (And.intro (K1.out.1.trans (hb2.mono K1.out.1.size)) (And.intro (K1.out.2.1.below hb2) (K1.out.2.2.below hb2)))
  clear hb2 K1 HBI
  cases hp : packR l with
  | false =>
    have et : packB l = ⟨#[]⟩ := (packB_empty l).2 hp
    rw [et] at HBS
    rw [hp] at HRI
    rw [et]
    clear et hp
    go_wp2_with fail
    refine (HBS.out _ K2.out.2.2).mono ?_
    rintro e w3 ⟨rfl, hb3⟩
    have K3 := mkHid (And.intro (K2.out.1.trans (hb3.mono K2.out.1.size)) (And.intro (K2.out.2.1.below hb3) (K2.out.2.2.below hb3)))
    clear hb3 K2 HBS
    go_wp2_with fail
    refine (HRI.out _ K3.out.2.2 K3.out.1).mono ?_
    rintro e w4 ⟨rfl, hb4⟩
    have K4 := mkHid (And.intro (K3.out.1.trans (hb4.mono K3.out.1.size)) (K3.out.2.1.below hb4))
    clear hb4 K3 HRI
    go_wp2_with fail
    refine (HE.out _ K4.out.2).mono ?_
    rintro e w20 ⟨u, rfl, hu, hb20⟩
    have K20 := mkHid (K4.out.1.trans (hb20.mono K4.out.1.size))
    clear hb20 K4 HE
    have hui : (u.size : Int) ≤ 20000 := by omega
    have hpl := readT_len u
    have KS := fun wx => read_spec A u wx (by omega)
    have KI := fun wx (hb : Below w.heap.size w wx) => rdr.read_impl iPackRight u wx (by omega) digI.digest_any (HG.out wx hb)
    have hF : ∀ l p, readT u = (l, p, 0) → packB l = u := fun l p h => packf.pack_read h
    generalize readT u = o at hpl KS KI hF
    obtain ⟨m, p, q⟩ := o
    simp only at hpl
    have HS : Hid (∀ wx, Calls Tryd.prog 15 #[.string u] wx fun e w' => ∃ a c, e = .returned (.agg #[.slice a m.length c, .int .i64 p, .int .i64 q]) ∧ OwnV 39 w' a (bl m) ∧ (∀ b o s, a = some ⟨b, o, s⟩ → wx.heap.size ≤ b) ∧ Below wx.heap.size wx w') := mkHid KS
    have HP : Hid (∀ wx, Below w.heap.size w wx → Calls Tryd.prog 12 #[.string u] wx fun e w' => ∃ a c, e = .returned (.agg #[.slice a m.length c, .int .i64 p, .int .i64 q]) ∧ OwnV 39 w' a (bl m) ∧ (∀ b o s, a = some ⟨b, o, s⟩ → wx.heap.size ≤ b) ∧ Below wx.heap.size wx w') := mkHid KI
    have HZ : Hid (∀ wx a c, Rd wx a (bl m) → Below w.heap.size w wx → q = 0 → Calls Tryd.prog 9 #[.slice a m.length c] wx fun e w' => e = .returned (.string u) ∧ Below wx.heap.size wx w') := mkHid (fun wx a c hx hb hq => by
      subst hq
      have h := bytes_impl a c m wx (by omega) hx digI.digest_any (HG.out wx hb)
      rw [hF m p rfl] at h
      exact h)
    clear KS KI hF
    go_wp2_with fail
    refine (HS.out _).mono ?_
    rintro e w21 ⟨a5, c5, rfl, ho5, hf5, hb21⟩
    have K21 := mkHid (And.intro ((K20.out.trans (hb21.mono K20.out.size)).alloc (Nat.le_trans K20.out.size hb21.size) (.cells #[.slice a5 m.length c5, .int .i64 p, .int .i64 q] 28)) (blk_new w21 (.cells #[.slice a5 m.length c5, .int .i64 p, .int .i64 q] 28) w21.heap.size rfl))
    clear hb21 ho5 hf5 K20
    go_wp2_with fail
    refine (HP.out _ K21.out.1).mono ?_
    rintro e w22 ⟨a6, c6, rfl, ho6, hf6, hb22⟩
    have K22 := mkHid (And.intro ((K21.out.1.trans (hb22.mono K21.out.1.size)).alloc (Nat.le_trans K21.out.1.size hb22.size) (.cells #[.slice a6 m.length c6, .int .i64 p, .int .i64 q] 28)) (And.intro (blk_old (blk_below K21.out.2 hb22) (.cells #[.slice a6 m.length c6, .int .i64 p, .int .i64 q] 28)) (And.intro (blk_new w22 (.cells #[.slice a6 m.length c6, .int .i64 p, .int .i64 q] 28) w22.heap.size rfl) (ho6.rd.alloc (.cells #[.slice a6 m.length c6, .int .i64 p, .int .i64 q] 28)))))
    obtain ⟨d0, d1, d2⟩ := cel3 K22.out.2.1
    obtain ⟨f0, f1, f2⟩ := cel3 K22.out.2.2.1
    clear hb22 ho6 hf6 K21
    have he1 : (p == p) = true := by simp
    have he2 : (q == q) = true := by simp
    by_cases hq : q = 0
    · subst hq
      have huu : (u.toList == u.toList) = true := by simp
      go_wp2_with fail
      refine (HZ.out _ _ _ K22.out.2.2.2 K22.out.1 (by first | trivial | rfl)).mono ?_
      rintro e w23 ⟨rfl, hb23⟩
      have K23 := mkHid (K22.out.1.trans (hb23.mono K22.out.1.size))
      clear hb23 K22 HZ
      go_wp2
      go_ret
      exact ⟨rfl, K23.out⟩
    · have hq1 : (q != 0) = true := by simp [hq]
      clear hq
      go_wp2
      go_ret
      exact ⟨rfl, K22.out.1⟩
  | true =>
    have HX : Hid (∀ wx, Below w.heap.size w wx → Calls Tryd.prog 12 #[.string (packB l)] wx fun e w' => ∃ a c, e = .returned (.agg #[.slice a l.length c, .int .i64 0, .int .i64 0]) ∧ OwnV 39 w' a (bl l) ∧ (∀ b o s, a = some ⟨b, o, s⟩ → wx.heap.size ≤ b) ∧ Below wx.heap.size wx w') := mkHid (fun wx hb => by
      have h := rdr.read_impl iPackRight (packB l) wx (by have := packB_size l; omega) digI.digest_any (HG.out wx hb)
      rw [packf.read_pack hp] at h
      exact h)
    have ht0 : (packB l).toList.isEmpty = false := by
      have h := (packB_empty l)
      cases hq : (packB l).toList.isEmpty
      · rfl
      · have : packB l = ⟨#[]⟩ := by
          refine ByteArray.ext (Array.toList_inj.1 ?_)
          rw [ByteArray.toList_eq] at hq
          simpa using hq
        rw [h.1 this] at hp
        cases hp
    have ht1 : (!(packB l).toList == (packB l).toList) = false := by simp
    have HL := mkHid (fun wx a c (hx : Rd wx a (bl l)) (hy : Rd wx a1 (bl l)) => lwb.lwBlobs_same a a1 c c1 l wx (by omega) hx hy)
    rw [hp] at HRI
    generalize packB l = t at *
    clear hp
    go_wp2_with fail
    refine (HBS.out _ K2.out.2.2).mono ?_
    rintro e w3 ⟨rfl, hb3⟩
    have K3 := mkHid (And.intro (K2.out.1.trans (hb3.mono K2.out.1.size)) (And.intro (K2.out.2.1.below hb3) (K2.out.2.2.below hb3)))
    clear hb3 K2 HBS
    go_wp2_with fail
    refine (HRI.out _ K3.out.2.2 K3.out.1).mono ?_
    rintro e w4 ⟨rfl, hb4⟩
    have K4 := mkHid (And.intro (K3.out.1.trans (hb4.mono K3.out.1.size)) (And.intro (K3.out.2.1.below hb4) (K3.out.2.2.below hb4)))
    clear hb4 K3 HRI
    go_wp2_with fail
    refine (HX.out _ K4.out.1).mono ?_
    rintro e w5 ⟨a5, c5, rfl, ho5, hf5, hb5⟩
    have K5 := mkHid (And.intro ((K4.out.1.trans (hb5.mono K4.out.1.size)).alloc (Nat.le_trans K4.out.1.size hb5.size) (.cells #[.slice a5 l.length c5, .int .i64 0, .int .i64 0] 28)) (And.intro ((K4.out.2.1.below hb5).below (below_alloc1 w5 (.cells #[.slice a5 l.length c5, .int .i64 0, .int .i64 0] 28))) (And.intro ((K4.out.2.2.below hb5).alloc (.cells #[.slice a5 l.length c5, .int .i64 0, .int .i64 0] 28)) (ho5.rd.alloc (.cells #[.slice a5 l.length c5, .int .i64 0, .int .i64 0] 28)))))
    clear hb5 K4 HX ho5 hf5
    go_wp2_with fail
    refine (HL.out _ _ _ K5.out.2.2.2 K5.out.2.2.1).mono ?_
    rintro e w6 ⟨rfl, hb6⟩
    have K6 := mkHid (And.intro (K5.out.1.trans (hb6.mono K5.out.1.size)) (K5.out.2.1.below hb6))
    clear hb6 K5 HL
    go_wp2_with fail
    refine (HE.out _ K6.out.2).mono ?_
    rintro e w20 ⟨u, rfl, hu, hb20⟩
    have K20 := mkHid (K6.out.1.trans (hb20.mono K6.out.1.size))
    clear hb20 K6 HE
    have hui : (u.size : Int) ≤ 20000 := by omega
    have hpl := readT_len u
    have KS := fun wx => read_spec A u wx (by omega)
    have KI := fun wx (hb : Below w.heap.size w wx) => rdr.read_impl iPackRight u wx (by omega) digI.digest_any (HG.out wx hb)
    have hF : ∀ l p, readT u = (l, p, 0) → packB l = u := fun l p h => packf.pack_read h
    generalize readT u = o at hpl KS KI hF
    obtain ⟨m, p, q⟩ := o
    simp only at hpl
    have HS : Hid (∀ wx, Calls Tryd.prog 15 #[.string u] wx fun e w' => ∃ a c, e = .returned (.agg #[.slice a m.length c, .int .i64 p, .int .i64 q]) ∧ OwnV 39 w' a (bl m) ∧ (∀ b o s, a = some ⟨b, o, s⟩ → wx.heap.size ≤ b) ∧ Below wx.heap.size wx w') := mkHid KS
    have HP : Hid (∀ wx, Below w.heap.size w wx → Calls Tryd.prog 12 #[.string u] wx fun e w' => ∃ a c, e = .returned (.agg #[.slice a m.length c, .int .i64 p, .int .i64 q]) ∧ OwnV 39 w' a (bl m) ∧ (∀ b o s, a = some ⟨b, o, s⟩ → wx.heap.size ≤ b) ∧ Below wx.heap.size wx w') := mkHid KI
    have HZ : Hid (∀ wx a c, Rd wx a (bl m) → Below w.heap.size w wx → q = 0 → Calls Tryd.prog 9 #[.slice a m.length c] wx fun e w' => e = .returned (.string u) ∧ Below wx.heap.size wx w') := mkHid (fun wx a c hx hb hq => by
      subst hq
      have h := bytes_impl a c m wx (by omega) hx digI.digest_any (HG.out wx hb)
      rw [hF m p rfl] at h
      exact h)
    clear KS KI hF
    go_wp2_with fail
    refine (HS.out _).mono ?_
    rintro e w21 ⟨a5, c5, rfl, ho5, hf5, hb21⟩
    have K21 := mkHid (And.intro ((K20.out.trans (hb21.mono K20.out.size)).alloc (Nat.le_trans K20.out.size hb21.size) (.cells #[.slice a5 m.length c5, .int .i64 p, .int .i64 q] 28)) (blk_new w21 (.cells #[.slice a5 m.length c5, .int .i64 p, .int .i64 q] 28) w21.heap.size rfl))
    clear hb21 ho5 hf5 K20
    go_wp2_with fail
    refine (HP.out _ K21.out.1).mono ?_
    rintro e w22 ⟨a6, c6, rfl, ho6, hf6, hb22⟩
    have K22 := mkHid (And.intro ((K21.out.1.trans (hb22.mono K21.out.1.size)).alloc (Nat.le_trans K21.out.1.size hb22.size) (.cells #[.slice a6 m.length c6, .int .i64 p, .int .i64 q] 28)) (And.intro (blk_old (blk_below K21.out.2 hb22) (.cells #[.slice a6 m.length c6, .int .i64 p, .int .i64 q] 28)) (And.intro (blk_new w22 (.cells #[.slice a6 m.length c6, .int .i64 p, .int .i64 q] 28) w22.heap.size rfl) (ho6.rd.alloc (.cells #[.slice a6 m.length c6, .int .i64 p, .int .i64 q] 28)))))
    obtain ⟨d0, d1, d2⟩ := cel3 K22.out.2.1
    obtain ⟨f0, f1, f2⟩ := cel3 K22.out.2.2.1
    clear hb22 ho6 hf6 K21
    have he1 : (p == p) = true := by simp
    have he2 : (q == q) = true := by simp
    by_cases hq : q = 0
    · subst hq
      have huu : (u.toList == u.toList) = true := by simp
      go_wp2_with fail
      refine (HZ.out _ _ _ K22.out.2.2.2 K22.out.1 (by first | trivial | rfl)).mono ?_
      rintro e w23 ⟨rfl, hb23⟩
      have K23 := mkHid (K22.out.1.trans (hb23.mono K22.out.1.size))
      clear hb23 K22 HZ
      go_wp2
      go_ret
      exact ⟨rfl, K23.out⟩
    · have hq1 : (q != 0) = true := by simp [hq]
      clear hq
      go_wp2
      go_ret
      exact ⟨rfl, K22.out.1⟩

set_option maxRecDepth 100000 in
theorem walk (A : IAt) (a : Option Addr) (len cap : Nat) (b : Option Addr) (lenb capb : Nat) (w : World) (hG : GV w) (hl : (len : Int) ≤ 9223372036854775807) (hr : Row w a len) (hlb : (lenb : Int) ≤ 9223372036854775807) (hrb : Row w b lenb) :
    Calls Tryd.prog 3 #[.slice a len cap, .slice b lenb capb] w fun e w' => e = .returned (.bool true) ∧ Below w.heap.size w w' := by
  by_cases h0 : 1048576 < (len : Int)
  · clear A hr hrb hG
    go_enter Tryd.func3, Tryd.ntmps3
    go_wp2
    go_ret
    exact ⟨rfl, Below.refl _ _⟩
  by_cases h1 : 1048576 < (lenb : Int)
  · have h0' : (len : Int) ≤ 1048576 := by omega
    clear A hr hrb hG
    go_enter Tryd.func3, Tryd.ntmps3
    go_wp2
    go_ret
    exact ⟨rfl, Below.refl _ _⟩
  exact walk_in A a len cap b lenb capb w hG (by omega) hr (by omega) hrb
end Go.Proofs.YtlmhdebjmkcanaaDoor.fnpack
