/-
  spec.l01Dec tells the decimal digits of a small number; spec.DrawPlacesFind and DrawPlacesAdd: what they answer and leave. Condition: the bytes lie in memory and are at most 1,048,576.
  Places of the pack q under the digests of the numbers from 0 on: each of the first 300 is put in. No condition.
  spec.DrawPlacesAdd: what it answers and leaves; its loop ends, since the digests of the numbers below 300 are unlike each other. Condition: the bytes lie in memory and are at most 1,048,576.
-/
import Derived.Test.YtmoojhnblakdhaaGreatZDrwB
import Derived.Test.YtmoojhnblakdhaaGreatZShnA
namespace Go.Proofs.YtmoojhnblakdhaaGreat.plc
open Go.RowKit Go.Joins
open Go.Proofs.YtmoojhnblakdhaaGreat.base Go.Proofs.YtmoojhnblakdhaaGreat.blk Go.Proofs.YtmoojhnblakdhaaGreat.aid
open Go.Proofs.YtmoojhnblakdhaaGreat.row (Rd Own OwnV)
open Go.Proofs.YtmoojhnblakdhaaGreat.rwPlace (cs el)
open Go.Proofs.YtmoojhnblakdhaaGreat.draw (SrcAt Drew DrewBool DrewText Row Made n_any one_any bytes_any source_any grown_trans grown_new grown_below one_string one_size)
open Go.Proofs.YtmoojhnblakdhaaGreat.strs (digs digs_zero digs_next)
open Go.Proofs.YtmoojhnblakdhaaGreat.shn (bs bs_len decN sgn sgn_apart dig_inj)
set_option linter.unusedVariables false
set_option linter.unusedSimpArgs false

theorem ofN (n : Nat) (h : n < 256) : (UInt8.ofNat n).toNat = n := by rw [UInt8.toNat_ofNat']; omega
theorem digs_dec (n : Nat) (h0 : 0 < n) (h : n < 300) : (digs n []).map UInt8.toNat = decN n := by
  unfold decN
  rw [digs_next _ _ h0]
  by_cases h1 : n < 10
  · rw [if_pos h1, show n / 10 = 0 by omega, digs_zero]
    simp only [List.map_cons, List.map_nil]
    rw [ofN _ (by omega), show n % 10 = n by omega]
  · rw [if_neg h1, digs_next _ _ (by omega)]
    by_cases h2 : n < 100
    · rw [if_pos h2, show n / 10 / 10 = 0 by omega, digs_zero]
      simp only [List.map_cons, List.map_nil]
      rw [ofN _ (by omega), ofN _ (by omega), show n / 10 % 10 = n / 10 by omega]
    · rw [if_neg h2, digs_next _ _ (by omega), show n / 10 / 10 / 10 = 0 by omega, digs_zero]
      simp only [List.map_cons, List.map_nil]
      rw [ofN _ (by omega), ofN _ (by omega), ofN _ (by omega), show n / 10 / 10 % 10 = n / 100 by omega]
theorem decN_len (i : Nat) : (decN i).length ≤ 3 := by
  unfold decN
  split
  · show 1 ≤ 3; omega
  split
  · show 2 ≤ 3; omega
  · exact Nat.le_refl _
theorem cons_list (ch : UInt8) (t : ByteArray) : ((⟨#[ch]⟩ : ByteArray) ++ t).data.toList = ch :: t.data.toList := by simp
set_option maxRecDepth 100000 in
set_option maxHeartbeats 1000000 in
theorem decX_any (n : Nat) (w : World) (hn : n < 300) :
    Calls Tryz.prog 39 #[.int .i64 n] w fun e w' => ∃ t : ByteArray, e = .returned (.string t) ∧ bs t = decN n ∧ Below w.heap.size w w' := by
  by_cases h0 : n = 0
  · subst h0
    go_enter Tryz.func39, Tryz.ntmps39
    go_wp2
    go_ret
    exact ⟨_, rfl, by decide, Below.refl _ _⟩
  · have hni : ((n : Int) == 0) = false := by simp; omega
    have hn1 : ¬ ((n : Int) < 0) := by omega
    have hdd := mkHid (digs_dec n (by omega) hn)
    go_enter Tryz.func39, Tryz.ntmps39
    go_wp2_with fail
    go_loopw [0, 4] (fun x v wr => ∃ (k : Nat) (t : ByteArray), x = .int .i64 k ∧ v = .string t ∧ k ≤ 300 ∧ Hid (t.size + k ≤ 300 ∧ digs k t.data.toList = digs n []) ∧ Hid (Below w.heap.size w wr))
      (fun x _ _ => (intOf x).toNat)
    case atStart => exact ⟨n, ⟨#[]⟩, rfl, rfl, by omega, mkHid ⟨by show 0 + n ≤ 300; omega, rfl⟩, mkHid (Below.refl _ _)⟩
    case round =>
      obtain ⟨k, t, rfl, rfl, hk, ht, hB⟩ := hrel
      by_cases hk0 : k = 0
      · subst hk0
        have F := mkHid (show bs t = decN n by
          have h := ht.out.2
          rw [digs_zero] at h
          unfold bs
          rw [h, hdd.out])
        go_wp2
        go_ret
        exact ⟨t, rfl, F.out, hB.out⟩
      · have hki : ((k : Int) == 0) = false := by simp; omega
        have hki2 : (k : Int) ≤ 300 := by omega
        have hti : (t.size : Int) ≤ 300 := by have := ht.out.1; omega
        clear hni hn1
        have ec : ((UInt8.ofNat (48 + k % 10)).toNat : Int) = 48 + (k : Int) % 10 := by rw [UInt8.toNat_ofNat']; omega
        have hcv := one_string wr (UInt8.ofNat (48 + k % 10))
        rw [ec] at hcv
        have hst := digs_next k t.data.toList (by omega)
        generalize UInt8.ofNat (48 + k % 10) = ch at hcv hst
        clear ec
        have hadd := fun wx => run_string_add_sum (P := Tryz.prog) wx ⟨#[ch]⟩ t (by have := one_size ch; omega)
        have N1 : Hid ((⟨#[ch]⟩ ++ t : ByteArray).size + k / 10 ≤ 300 ∧ digs (k / 10) (⟨#[ch]⟩ ++ t : ByteArray).data.toList = digs n []) := mkHid ⟨by have := ht.out.1; rw [ByteArray.size_append, one_size]; omega, by rw [cons_list, ← hst]; exact ht.out.2⟩
        have N2 := mkHid (hB.out.alloc hB.out.size (.cells #[.int .u8 (48 + (k : Int) % 10)] 5))
        clear ht hB hst
        go_wp2
        exact ⟨⟨k / 10, _, by go_num, rfl, by omega, N1, N2⟩, by simp [intOf]; omega⟩
/-- what DrawPlacesFind answers and leaves -/
def DFnd (w : World) (e : Ending) (w' : World) : Prop :=
  ∃ (l : List Pl) (a : Option Addr) (c : Nat) (k : ByteArray), e = .returned (.tuple #[.slice a l.length c, .string k]) ∧ l.length ≤ 310 ∧ Good l ∧ k.size ≤ 1000 ∧ Rd w' a (cs l) ∧ Below w.heap.size w w'
theorem dfnd_of {w W : World} {l : List Pl} {a : Option Addr} {c : Nat} {k : ByteArray} (hl : l.length ≤ 310) (hg : Good l) (hk : k.size ≤ 1000) (hr : Rd W a (cs l)) (hb : Below w.heap.size w W) : DFnd w (.returned (.tuple #[.slice a l.length c, .string k])) W := ⟨l, a, c, k, rfl, hl, hg, hk, hr, hb⟩
set_option maxRecDepth 100000 in
set_option maxHeartbeats 2000000 in
theorem drawFind_any (a : Option Addr) (len cap : Nat) (w : World) (hl : len ≤ 1048576) (hr : Row w a len) :
    Calls Tryz.prog 4 #[.slice a len cap] w (DFnd w) := by
  have HS := mkHid (source_any a len cap w hl hr)
  unfold Made at HS
  clear hr
  go_enter Tryz.func4, Tryz.ntmps4
  go_wp2_with fail
  refine HS.out.mono ?_
  rintro e w1 ⟨rfl, hs1, hb1⟩
  have HP := mkHid (places_any _ w1 hs1)
  have B1 := mkHid hb1
  clear hs1 hb1 HS
  go_wp2_with fail
  refine HP.out.mono ?_
  rintro e w2 ⟨l, al, cl, rfl, hll, hD⟩
  have K := mkHid hD
  have B2 := mkHid (B1.out.trans (grown_below hD.grown (Nat.le_refl _) B1.out.size))
  clear hD HP
  generalize hg : w.heap.size = g at *
  by_cases hne : l = []
  · subst hne
    have HT := mkHid (bytes_any g 2 w2 (by omega) K.out.src)
    go_wp2_with fail
    refine HT.out.mono ?_
    rintro e w3 ⟨t, rfl, ht, hs3, hg3⟩
    have K3 := mkHid (K.out.draw hs3 hg3)
    have B3 := mkHid (B2.out.trans (grown_below hg3 (Nat.le_refl _) (by have := B2.out.size; omega)))
    have HG := mkHid (sha.digest_any t w3 (by omega))
    clear hs3 hg3 HT K B2
    go_wp2_with fail
    refine HG.out.mono ?_
    rintro e w4 ⟨rfl, hb4⟩
    have F : Hid (DFnd w (.returned (.tuple #[.slice al 0 cl, .string (sha.digest t)])) w4) := mkHid (dfnd_of (l := []) (by simp) Good.nil (by have := dig_le t; omega) (Rd.nil _ _) (by rw [hg]; exact B3.out.trans (hb4.mono (by have := B3.out.size; omega))))
    clear hb4 K3 B3 HG
    go_wp2
    go_ret2
    exact F.out
  · have hpos : 0 < l.length := List.length_pos_iff.2 hne
    have hposi : 0 < (l.length : Int) := by omega
    have HO := mkHid (one_any g 3 w2 (by omega) K.out.src)
    go_wp2_with fail
    refine HO.out.mono ?_
    rintro e w3 ⟨b, rfl, hs3, hg3⟩
    have K3 := mkHid (K.out.draw hs3 hg3)
    have B3 := mkHid (B2.out.trans (grown_below hg3 (Nat.le_refl _) (by have := B2.out.size; omega)))
    clear hs3 hg3 HO K B2
    cases b with
    | true =>
      have HT := mkHid (bytes_any g 2 w3 (by omega) K3.out.src)
      go_wp2_with fail
      refine HT.out.mono ?_
      rintro e w4 ⟨t, rfl, ht, hs4, hg4⟩
      have K4 := mkHid (K3.out.draw hs4 hg4)
      have B4 := mkHid (B3.out.trans (grown_below hg4 (Nat.le_refl _) (by have := B3.out.size; omega)))
      have HG := mkHid (sha.digest_any t w4 (by omega))
      clear hs4 hg4 HT K3 B3
      go_wp2_with fail
      refine HG.out.mono ?_
      rintro e w5 ⟨rfl, hb5⟩
      have F : Hid (DFnd w (.returned (.tuple #[.slice al l.length cl, .string (sha.digest t)])) w5) := mkHid (dfnd_of hll K4.out.good (by have := dig_le t; omega) (K4.out.rd.below hb5) (by rw [hg]; exact B4.out.trans (hb5.mono (by have := B4.out.size; omega))))
      clear hb5 K4 B4 HG
      go_wp2
      go_ret2
      exact F.out
    | false =>
      have HN := mkHid (fun wx (h : SrcAt wx g) => n_any g (l.length : Int) wx (by omega) h)
      obtain ⟨y, hy⟩ : ∃ y, l[0]? = some y := ⟨_, List.getElem?_eq_getElem hpos⟩
      obtain ⟨g1, o1, rfl, _, _, _, _, _, l1⟩ := el K3.out.rd hy
      have HC := mkHid (fun W (hr : Rd W (some ⟨g1, o1, none⟩) (cs l)) => (show ∀ (i : Nat) (h : i < l.length), W.cell? ⟨g1, o1 + i * 5, none⟩ = some (.string (l[i]'h).1) from fun i h => by
        obtain ⟨g2, o2, e, c0, _⟩ := el hr (List.getElem?_eq_getElem h)
        cases e
        exact c0))
      have F := mkHid (fun w' (i : Nat) (h : i < l.length) (hr : Rd w' (some ⟨g1, o1, none⟩) (cs l)) (hb : Below w.heap.size w w') => dfnd_of (c := cl) (k := (l[i]'h).1) hll K3.out.good (by have := K3.out.good _ (List.getElem_mem h); omega) hr hb)
      have S3 := HC.out w3 K3.out.rd
      clear hy
      go_wp2_with fail
      go_region_held3 (fun w' => ∀ (i : Nat) (h : i < l.length), w'.cell? ⟨g1, o1 + i * 5, none⟩ = some (.string (l[i]'h).1)) (assumption)
        ((go_at_call 20; refine Calls.mono (HN.out _ (by exact K3.out.src)) ?_; rintro e w4 ⟨i, rfl, hi0, hi1, hi2, hs4, hg4⟩; have hg5 := grew_from (w := w3) hg4 rfl rfl rfl rfl; have K4 := mkHid (K3.out.draw hs4 hg5); have B4 := mkHid (B3.out.trans (grown_below hg5 (Nat.le_refl _) (by have := B3.out.size; omega))); have hil : i < (l.length : Int) := (by by_cases h1 : 1 < (l.length : Int); exact hi1 h1; have := hi2 (by omega); omega); obtain ⟨i, rfl⟩ := Int.eq_ofNat_of_zero_le hi0; have hiN : i < l.length := (by omega); have c0 := HC.out w4 K4.out.rd i hiN; have S4 := HC.out w4 K4.out.rd; clear hs4 hg4 hg5 hi1 hi2))
      go_wp2
      go_ret2
      exact F.out _ i hiN K4.out.rd (by rw [hg]; exact B4.out)
end Go.Proofs.YtmoojhnblakdhaaGreat.plc
namespace Go.Proofs.YtmoojhnblakdhaaGreat.plc
open Go.RowKit Go.Joins
open Go.Proofs.YtmoojhnblakdhaaGreat.base Go.Proofs.YtmoojhnblakdhaaGreat.blk Go.Proofs.YtmoojhnblakdhaaGreat.aid
open Go.Proofs.YtmoojhnblakdhaaGreat.row (Rd Own OwnV)
open Go.Proofs.YtmoojhnblakdhaaGreat.rwPlace (cs el)
open Go.Proofs.YtmoojhnblakdhaaGreat.draw (SrcAt Drew DrewBool Row Made n_any one_any source_any grown_trans grown_new grown_below)
open Go.Proofs.YtmoojhnblakdhaaGreat.shn (bs bs_len decN sgn sgn_apart dig_inj)
set_option linter.unusedVariables false
set_option linter.unusedSimpArgs false

/-- one that stands nowhere yet is put in -/
theorem put_more {l : List Pl} {x : Pl} (h : sp x ∉ l.map sp) : (put l x).length = l.length + 1 := by
  obtain ⟨_, h2, _, h4⟩ := spot_is x l 0
  simp only [Nat.sub_zero, Nat.zero_add] at h2 h4
  have hins : (l.take (spot x l 0) ++ [x] ++ l.drop (spot x l 0)).length = l.length + 1 := by
    simp only [List.length_append, List.length_take, List.length_drop, List.length_singleton]
    omega
  unfold put
  split
  · rename_i f hf
    split
    · exact hins
    · rename_i hl
      have hlt := (List.getElem?_eq_some_iff.1 hf).1
      have hd : l.drop (spot x l 0) = f :: l.drop (spot x l 0 + 1) := by rw [List.drop_eq_getElem_cons hlt, (List.getElem?_eq_some_iff.1 hf).2]
      have hnf : lessP f x = false := h4 f (by rw [hd]; rfl)
      by_cases hne : sp x = sp f
      · exact absurd (List.mem_map.2 ⟨f, List.mem_of_getElem? hf, hne.symm⟩) h
      · have := lessS_total (a := sp f) (b := sp x) hnf (fun e => hne e.symm)
        exact absurd this hl
  · exact hins
/-- those of the pack q have the keys of the numbers so far -/
def Qs (l : List Pl) (k : Nat) : Prop := ∀ p ∈ l, p.2.1 = ⟨#[113]⟩ → ∃ (j : Nat) (t : ByteArray), j < k ∧ bs t = decN j ∧ p.1 = sha.digest t
theorem Qs.start {l : List Pl} (h : Good l) : Qs l 0 := fun p hp e => by
  have h1 := (h p hp).2.1
  rw [e] at h1
  exact absurd h1 (by decide)
theorem Qs.next {l : List Pl} {k : Nat} {t : ByteArray} (h : Qs l k) (hk : k < 300) (ht : bs t = decN k) : (put l (sha.digest t, ⟨#[113]⟩, 1, 0, 0)).length = l.length + 1 ∧ Qs (put l (sha.digest t, ⟨#[113]⟩, 1, 0, 0)) (k + 1) := by
  have hsz : ∀ (u : ByteArray) (j : Nat), bs u = decN j → u.size ≤ 3 := fun u j e => by
    rw [← bs_len, e]
    exact decN_len j
  constructor
  · refine put_more (fun hm => ?_)
    obtain ⟨p, hp, e⟩ := List.mem_map.1 hm
    have e1 : p.1 = sha.digest t := congrArg Prod.fst e
    have e2 : p.2.1 = ⟨#[113]⟩ := congrArg Prod.snd e
    obtain ⟨j, u, hj, hu, hd⟩ := h p hp e2
    have h1 := dig_inj (hsz u j hu) (hsz t k ht) (hd.symm.trans e1)
    rw [hu, ht] at h1
    exact sgn_apart (by omega) hk (by omega) h1
  · intro p hp e
    rcases put_mem hp with rfl | hp
    · exact ⟨k, t, by omega, ht, rfl⟩
    · obtain ⟨j, u, hj, hu, hd⟩ := h p hp e
      exact ⟨j, u, by omega, hu, hd⟩
end Go.Proofs.YtmoojhnblakdhaaGreat.plc
namespace Go.Proofs.YtmoojhnblakdhaaGreat.plc
open Go.RowKit Go.Joins
open Go.Proofs.YtmoojhnblakdhaaGreat.base Go.Proofs.YtmoojhnblakdhaaGreat.blk Go.Proofs.YtmoojhnblakdhaaGreat.aid
open Go.Proofs.YtmoojhnblakdhaaGreat.row (Rd Own OwnV)
open Go.Proofs.YtmoojhnblakdhaaGreat.rwPlace (cs el)
open Go.Proofs.YtmoojhnblakdhaaGreat.draw (SrcAt Drew DrewBool Row Made n_any one_any source_any grown_trans grown_new grown_below)
open Go.Proofs.YtmoojhnblakdhaaGreat.shn (bs bs_len decN sgn sgn_apart dig_inj)
set_option linter.unusedVariables false
set_option linter.unusedSimpArgs false

/-- what DrawPlacesAdd answers and leaves -/
def DAdd (w : World) (e : Ending) (w' : World) : Prop :=
  ∃ (v : Value) (m : List Pl) (b : Option Addr) (d : Nat), e = .returned (.tuple #[v, .slice b m.length d]) ∧ m.length ≤ 310 ∧ Good m ∧ Rd w' b (cs m) ∧ Below w.heap.size w w'
set_option maxRecDepth 100000 in
set_option maxHeartbeats 4000000 in
theorem drawAdd_any (a : Option Addr) (len cap : Nat) (w : World) (hl : len ≤ 1048576) (hr : Row w a len) :
    Calls Tryz.prog 13 #[.slice a len cap] w (DAdd w) := by
  have HS := mkHid (source_any a len cap w hl hr)
  unfold Made at HS
  clear hr
  go_enter Tryz.func13, Tryz.ntmps13
  go_wp2_with fail
  refine HS.out.mono ?_
  rintro e w1 ⟨rfl, hs1, hb1⟩
  have HP := mkHid (fun wx (h : SrcAt wx w.heap.size) => places_any w.heap.size wx h)
  have B1 := mkHid hb1
  have S1 := mkHid hs1
  clear hs1 hb1 HS
  generalize hg : w.heap.size = g at *
  go_wp2_with fail
  refine (HP.out _ S1.out).mono ?_
  rintro e w2 ⟨l, al, cl, rfl, hll, hD⟩
  have K := mkHid hD
  have B2 := mkHid (B1.out.trans (grown_below hD.grown (Nat.le_refl _) (by have := B1.out.size; omega)))
  clear hD S1 B1
  go_wp2_with fail
  refine (HP.out _ K.out.src).mono ?_
  rintro e w3 ⟨m, bl, dl, rfl, hml, hE⟩
  have K3 := mkHid (K.out.draw hE.src hE.grown)
  have M3 := mkHid hE
  have B3 := mkHid (B2.out.trans (grown_below hE.grown (Nat.le_refl _) (by have := B2.out.size; omega)))
  have HO := mkHid (one_any g 30 w3 (by omega) hE.src)
  clear hE HP K B2
  go_wp2_with fail
  refine HO.out.mono ?_
  rintro e w4 ⟨b, rfl, hs4, hg4⟩
  have K4 := mkHid (K3.out.draw hs4 hg4)
  have M4 := mkHid (M3.out.draw hs4 hg4)
  have B4 := mkHid (B3.out.trans (grown_below hg4 (Nat.le_refl _) (by have := B3.out.size; omega)))
  clear hs4 hg4 HO K3 M3 B3
  cases b with
  | false =>
    have F : Hid (DAdd w (.returned (.tuple #[.slice al l.length cl, .slice bl m.length dl])) w4) := mkHid ⟨_, m, bl, dl, rfl, hml, M4.out.good, M4.out.rd, by rw [hg]; exact B4.out⟩
    clear K4 M4 B4
    go_wp2
    go_ret2
    exact F.out
  | true =>
    have Q0 := mkHid (Qs.start K4.out.good)
    have HX : Hid (∀ wx (k : Nat), k < 300 → Calls Tryz.prog 39 #[.int .i64 k] wx fun e w' => ∃ t : ByteArray, e = .returned (.string t) ∧ bs t = decN k ∧ Below wx.heap.size wx w') := mkHid (fun wx k h => decX_any k wx h)
    have HG : Hid (∀ wx (t : ByteArray), t.size ≤ 1048576 → Calls Tryz.prog 21 #[.string t] wx fun e w' => e = .returned (.string (sha.digest t)) ∧ Below wx.heap.size wx w') := mkHid (fun wx t h1 => sha.digest_any t wx h1)
    have F : Hid (∀ (v : Value) (wr : World), Below w4.heap.size w4 wr → DAdd w (.returned (.tuple #[v, .slice bl m.length dl])) wr) := mkHid (fun v wr hb => ⟨v, m, bl, dl, rfl, hml, M4.out.good, M4.out.rd.below hb, by rw [hg]; exact B4.out.trans (hb.mono (by have := B4.out.size; omega))⟩)
    have R0 := mkHid (And.intro K4.out.rd K4.out.cap)
    clear K4 M4 B4
    go_wp2_with fail
    go_loopw [5, 7] (fun v i wr => ∃ (k : Nat) (acc : List Pl) (ac : Option Addr) (cc : Nat), i = .int .i64 k ∧ v = .slice ac acc.length cc ∧ acc.length = l.length + k ∧ acc.length ≤ 310 ∧ Hid (Qs acc k) ∧ Hid (Rd wr ac (cs acc) ∧ acc.length ≤ cc) ∧ Hid (Below w4.heap.size w4 wr))
      (fun v _ _ => 310 - rdr.lenOf v)
    case atStart => exact ⟨0, l, al, cl, rfl, rfl, by omega, hll, Q0, R0, mkHid (Below.refl _ _)⟩
    case round =>
      clear Q0 R0
      obtain ⟨k, acc, ac, cc, rfl, rfl, hlen, hle, HQ, HR, HB⟩ := hrel
      by_cases hgo : acc.length < 300
      · have hgoi : (acc.length : Int) < 300 := by omega
        have hk : k < 300 := by omega
        have hki : (k : Int) < 300 := by omega
        have HL := mkHid hlen
        clear hlen
        go_wp2_with fail
        refine (HX.out _ k hk).mono ?_
        rintro e w5 ⟨t, rfl, ht, hb5⟩
        have hts : t.size ≤ 3 := by rw [← bs_len, ht]; exact decN_len k
        have B5 := mkHid (below_trans HB.out hb5)
        have R5 := mkHid (HR.out.1.below hb5)
        clear hb5 HB
        go_wp2_with fail
        refine (HG.out _ t (by omega)).mono ?_
        rintro e w6 ⟨rfl, hb6⟩
        have B6 := mkHid (below_trans B5.out hb6)
        have HPt := mkHid (putS_any ac cc acc (sha.digest t) ⟨#[113]⟩ 1 0 0 w6 (by omega) HR.out.2 (R5.out.below hb6))
        obtain ⟨hpl0, hpq⟩ := HQ.out.next hk ht
        have HQ2 := mkHid hpq
        have hpl := mkHid (And.intro hpl0 HL.out)
        clear hb6 B5 R5 HQ HR hpq ht hpl0 HL hts
        generalize sha.digest t = key at *
        generalize put acc (key, ⟨#[113]⟩, 1, 0, 0) = acc2 at *
        go_wp2_with fail
        refine HPt.out.mono ?_
        rintro e w7 ⟨a7, c7, rfl, hr7, _, hb7, hc7⟩
        have B7 := mkHid (below_trans B6.out hb7)
        have R7 := mkHid (And.intro hr7 hc7)
        clear hr7 hb7 hc7 B6 HPt
        go_wp2
        go_roundw
        case rel => exact ⟨k + 1, acc2, a7, c7, by go_num, rfl, by have := hpl.out; omega, by have := hpl.out; omega, HQ2, R7, B7⟩
        case measure => have := hpl.out; simp only [rdr.lenOf]; omega
      · have hgoi : (300 : Int) ≤ (acc.length : Int) := by omega
        clear hlen
        have F2 := mkHid (F.out (.slice ac acc.length cc) wr HB.out)
        clear HQ HR HB
        go_wp2
        go_ret2
        exact F2.out
end Go.Proofs.YtmoojhnblakdhaaGreat.plc
